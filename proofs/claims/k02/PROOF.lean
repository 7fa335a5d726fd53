import PyProof.Rows.All
import Wide.All
import OpenK.AllK
import Wide.FinOn
import PySem.Challenge.RW_handalong_k02_views_in_order
import HandS.ForExc
import HandS.HotCalls
import HandS.ExcField
import HandS.ExcIs
import HandS.RaiseMore
import HandS.Comp
import HandS.IsInst
import HandS.Defaults
import HandS.Gcd
import HandS.Wide
import HandS.Style
import HandS.Flow
import HandS.Lambda
import HandS.TupLe
import HandS.TupAny
import HandS.SetFor
import HandS.Conv
import HandS.Walk
import PyProof.ReprRoads
import KE.KExcTry
import KE.KExcStr
import KE.KExcIs
import KE.KNestM
set_option Elab.async false
set_option linter.all false
set_option maxRecDepth 100000
set_option maxHeartbeats 4000000
namespace KX
open PySem PySem.Spec PyProof.Rows L2
/-! repr of data -/
def rRepr (K : PySem.W.Frag) : List V → Hp → VK → Prop := fun xs H Q =>
  ∃ x d, xs = [x] ∧ Dp K H x d ∧ d.showable = true ∧ d.hasDict = false ∧ d.depth ≤ 64 ∧
    d.shown.length ≤ sizeLine ∧ Q (.str d.shown) H
theorem cr_repr {X : Cx} (hg : X.A.guards = some []) (hu : X.A.units + 66 < cLine) :
    CallR X (.builtin "repr") (rRepr X.K) := by
  intro pins s σ H xs us Q I r h
  obtain ⟨x, d, rfl, hd, hs, hn, h64, hz, q⟩ := h
  cases r with
  | cons rx rn =>
    cases rn
    rename_i u
    obtain ⟨as, rd⟩ := Dp.reads I d x u hd rx
    have hsm : d.hasDict = true → sysModules ∉ as := fun z => by rw [hn] at z; cases z
    have out : ∀ (h' : Heap) (tk : Nat) (t : Tok), (∀ b o, s.heap.get? b = some o → h'.get? b = some o) →
        EP X pins σ Q (.str d.shown t) { s with heap := h', toks := tk } := fun h' tk t k =>
      ⟨.str d.shown, H, I.kept k, ⟨t, rfl⟩, q⟩
    cases rd with
    | none => exact P.repr_of_none (out s.heap _ _ fun _ _ e => e)
    | bool b => exact P.repr_of_bool (by simpa only [PyData.shown] using out s.heap (s.toks + 1) s.toks fun _ _ e => e)
    | int i t =>
      exact P.repr_of_int (by simpa [PyData.showable] using hs)
        (by simpa only [PyData.shown] using out s.heap (s.toks + 1) s.toks fun _ _ e => e)
    | str z t =>
      exact P.repr_of_str (by simpa only [PyData.shown] using out s.heap (s.toks + 1) s.toks fun _ _ e => e)
        (by simpa only [PyData.shown] using hz)
    | list h1 h2 h3 h4 =>
      exact repr_of_reads' (.list h1 h2 h3 h4) hs hsm hg (by omega) (fun _ _ e => e)
        (fun h' u tk k => out h' tk u k) hz
    | tuple h1 h2 h3 h4 =>
      exact repr_of_reads' (.tuple h1 h2 h3 h4) hs hsm hg (by omega) (fun _ _ e => e)
        (fun h' u tk k => out h' tk u k) hz
    | dict h1 h2 h3 h4 h5 => cases hn
end KX

namespace PySem
namespace ErrX
open PySem.W PySem.Calls PyProof.Rows PySem.HandSPX
/-! ### the text of __init__ -/
def iA (p1 p2 : Pos) : Arguments := { posonlyargs := [], args := [{ arg := "self", annotation := none, pos := p1 }, { arg := "at", annotation := none, pos := p2 }], vararg := none, kwonlyargs := [], kw_defaults := [], kwarg := none, defaults := [] }
def iB (q1 q2 q3 q4 : Pos) : List Stmt := [.Assign [.Attribute (.Name "self" q1) "at" q2] (.Name "at" q3) q4]
def iS : Scope := { kind := .function, names := [(PySem.Str.ofString "self", .local), (PySem.Str.ofString "at", .local)], isGenerator := false, isCoroutine := false, more := [] }
/-- what the written part says of Low, at C, and of its __init__, at fI -/
structure ErrTxt (K : Frag) (mg : Str → Option Value) (en qn : Str) (C fI : Addr) : Prop where
  gC : mg en = some (.ref C)
  cls : ∃ nm q N bs bm sn sub ab col dd k0 k1 k2 k3 k5, K.lookup C = some (excClassObj nm q C N bs bm true sn sub ab col dd k0 k1 k2 k3 k5 "ValueError.__new__") ∧ refsVE bm = true
  sa : findIn K (.ref C) "__setattr__" = some (some (.builtin "object.__setattr__"))
  ga : findIn K (.ref C) "__getattribute__" = some (some (.builtin "BaseException.__getattribute__"))
  gg : findIn K (.ref C) "__getattr__" = some none
  noN : findIn K (.ref C) "at" = some none
  iC : findIn K (.ref C) "__init__" = some (some (.ref fI))
  tC : typeIn K (.ref fI) = some (.type "function")
  kC : keepIn K (.ref C) = true
  exC : subIn K (.ref C) (.type "BaseException") = some true
  tyC : typeIn K (.ref C) = some (.type "type")
  hdC : hasDictIn K C = true
  te : exmOne K (.ref C) (.ref C) = some true
  fn : ∃ (oc : Value) (od : Option Addr) (doc pm : Value) (an : Option Addr) (cdv ct : Value) (osl : Array (Option Value)) (p1 p2 q1 q2 q3 q4 : Pos),
    K.lookup fI = some ⟨oc, od, .func (fnOf "__init__" qn (iA p1 p2) (iB q1 q2 q3 q4) iS .none .none doc pm an cdv ct), osl⟩ ∧ codeIn K cdv qn = true
theorem one_size (v : Value) : [v].length ≤ sizeLine := by
  rw [sizeLine_eq]
  exact (by decide : 1 ≤ 16777216)
theorem kept_but {K : Frag} {h h' : Heap} {x : Addr} (X : K.In h) (hx : K.lookup x = none) (k : ∀ b o, b ≠ x → h.get? b = some o → h'.get? b = some o) : K.In h' := fun a o e =>
  k a o (fun z => by rw [z, hx] at e; cases e) (X a o e)
theorem ldC {M : Model} {s : Shared} {name : Str} {scope : Scope} {L a : Addr} {cd : Value} {m : Str → Option Value} {x : Str} {pos : Pos} {v : Value} {Q : Value → Shared → Prop} {A : Around} {E : Value → Shared → Prop} (hn : s.heap.Ns L m) (hv : m x = some v) (h : Q v s)
    (hk : scope.kind = .function := by rfl) (hl : (envOfC name scope L a cd).kindOf x = some .local := by rfl) (hd : (x == ("__debug__" : Str)) = false := by decide) :
    wpAny M A (eval (.Name x pos) (envOfC name scope L a cd)) Q E s := wpAny_Name (wpAny_loadName_local hk hl hn hv h) hd
/-- what __init__ leaves of a fresh exception at x -/
structure InitEnd (h h' : Heap) (x C dx t1 : Addr) (v : Value) : Prop where
  keep : ∀ b o, b ≠ x → h.get? b = some o → h'.get? b = some o
  obj : h'.get? x = some { cls := .ref C, dict := some dx, data := .fields #[.ref t1, .none, .none, .none, .bool false, .none] }
  dbig : h.objs.size ≤ dx
  dne : dx ≠ x
  ns : h'.Ns1 dx (fun y => if y = "at" then some v else none)
/-- a made Low -/
structure OwnMade (h h' : Heap) (e C d : Addr) (v : Value) : Prop where
  keep : ∀ b o, h.get? b = some o → h'.get? b = some o
  new : h.objs.size ≤ e
  obj : ∃ oe vs, h'.get? e = some oe ∧ oe.cls = .ref C ∧ oe.dict = some d ∧ oe.data = .fields vs ∧ vs[1]? = some .none ∧ vs[2]? = some .none
  dbig : h.objs.size ≤ d
  dne : d ≠ e
  ns : h'.Ns1 d (fun y => if y = "at" then some v else none)
section
variable {prog : Program} {w : World} {A : Around} {E : Value → Shared → Prop} {R : Result → Shared → Prop} {s : Shared} {K : Frag} {mg : Str → Option Value} {C fI : Addr} {en qn : Str}
theorem err_init (T : ErrTxt K mg en qn C fI) {x t0 : Addr} {v : Value} (X : K.In s.heap) (hlim : s.heap.NoLimit) (hx : s.heap.get? x = some (excO C t0)) (hnx : K.lookup x = none) (hroom : A.depth < recursionLimit)
    (hq : ∀ h' tk dx, InitEnd s.heap h' x C dx t0 v → R (.ok (.ret .none)) { s with heap := h', toks := tk }) :
    codeAny (model prog w) A (.call (.ref fI) ⟨[.ref x, v], []⟩) R s := by
  obtain ⟨oc, od, doc, pm, an, cdv, ct, osl, p1, p2, q1, q2, q3, q4, ho, hcd⟩ := T.fn
  obtain ⟨nm, q, N, bs, bm, sn, sub, ab, col, dd, k0, k1, k2, k3, k5, hC, hbm⟩ := T.cls
  have hcl : clsIn K C = some { name := nm, bases := bs, mro := .ref C :: bm, ns := N, qualname := q, hasDict := true, slotNames := sn, subclasses := sub, abstract := ab, collection := col, hasDel := false } := by unfold clsIn; rw [hC] <;> rfl
  refine Att.call_fn (binds := [("self", .ref x), ("at", v)]) X hlim ho hcd hroom (BindsTo.of_eq (by first | rfl | with_unfolding_all rfl)) (by first | rfl | decide | with_unfolding_all rfl) (fun s₁ IC => ?_) rfl rfl rfl
  obtain ⟨h₁, tk₁, rfl⟩ := IC.toInCall.same
  have k : ∀ b o, s.heap.get? b = some o → h₁.get? b = some o := IC.toInCall.keep
  have hn := IC.toInCall.ns
  have hxL : s.heap.objs.size ≠ x := Nat.ne_of_gt (Heap.lt_size hx)
  have X₁ : K.In h₁ := X.keeps k
  have hx₁ := k _ _ hx
  -- self.by = by
  show wpAny _ _ (execs _ _) _ _ _
  refine wpAny_execs_cons (plainObj_wpAny_Assign_Attribute ?_)
  refine ldC (v := v) hn (by first | rfl | with_unfolding_all rfl | kernel_rfl) (ldC (v := .ref x) hn (by first | rfl | with_unfolding_all rfl | kernel_rfl) ?_)
  refine set_plain X₁ (ox := excO C t0) (od := none) ⟨hx₁, rfl, rfl, trivial⟩ T.sa ?_
  refine exc_osa X₁ hx₁ hcl (show refsVE (.ref C :: bm) = true from hbm) rfl T.noN (fun h₃ tk₃ dx k₃ dn dne hx₃ hn₃ => ?_)
  show wpAny _ _ (execs _ _) _ _ _
  have z : s.heap.objs.size < h₁.objs.size := hn.lt
  exact wpAny_execs_nil (hq h₃ tk₃ dx ⟨fun b o hb e => k₃ b o hb (k b o e), hx₃, Nat.le_of_lt (Nat.lt_of_lt_of_le z dn), dne, hn₃⟩)
theorem err_made (T : ErrTxt K mg en qn C fI) {v : Value} (X : K.In s.heap) (hlim : s.heap.NoLimit) (hroom : A.depth + 1 < recursionLimit)
    (hq : ∀ h' tk e d, OwnMade s.heap h' e C d v → R (.ok (.ret (.ref e))) { s with heap := h', toks := tk }) :
    codeAny (model prog w) A (.call (.ref C) ⟨[v], []⟩) R s := by
  obtain ⟨nm, q, N, bs, bm, sn, sub, ab, col, dd, k0, k1, k2, k3, k5, hC, hbm⟩ := T.cls
  obtain ⟨hp, g, dr, tk, os⟩ := s
  have k : ∀ b o, hp.get? b = some o → ((hp.push (kdv_tup [v])).push (excO C hp.objs.size)).get? b = some o := fun b o e => Heap.get?_push_of_some _ (Heap.get?_push_of_some _ e)
  have hget : ((hp.push (kdv_tup [v])).push (excO C hp.objs.size)).get? (hp.objs.size + 1) = some (excO C hp.objs.size) := by heap_get
  have hnx : K.lookup (hp.objs.size + 1) = none := by
    cases e : K.lookup (hp.objs.size + 1) with
    | none => rfl
    | some o =>
      have z : hp.get? (hp.objs.size + 1) = some o := X _ _ e
      exact absurd (Nat.lt_of_succ_lt (Heap.lt_size z)) (Nat.lt_irrefl _)
  refine call_own F.excBase_ValueError (fun X => refsVE_contains X bm hbm) (X _ _ hC) (looks_findIn X T.iC) (fun self => bind_fn X self T.tC) (one_size v) ?_
  refine err_init (s := ⟨(hp.push (kdv_tup [v])).push (excO C hp.objs.size), g, dr, tk, os⟩) T (X.keeps k) (hlim.keeps k) hget hnx ?_ fun h' tk' dx ⟨k', hx, dn, dne, hns⟩ => ?_
  · show A.depth + 1 < recursionLimit
    exact hroom
  · have old : ∀ b o, hp.get? b = some o → h'.get? b = some o := fun b o e => k' b o (Nat.ne_of_lt (Nat.lt_succ_of_lt (Heap.lt_size e))) (k b o e)
    have z : hp.objs.size + 1 + 1 ≤ dx := by
      first
        | (simpa only [Heap.size_push] using dn)
        | exact dn
        | (have q := dn; rw [Heap.size_push, Heap.size_push] at q; exact q)
    exact ⟨rfl, hq h' tk' (hp.objs.size + 1) dx ⟨old, Nat.le_succ _, ⟨_, _, hx, rfl, rfl, rfl, rfl, rfl⟩, Nat.le_trans (Nat.le_trans (Nat.le_succ _) (Nat.le_succ _)) z, dne, hns⟩⟩
end
end ErrX
end PySem
namespace KX
open PySem PySem.Spec PyProof.Rows L2
theorem relO_err {v : V} {v' : Value} (r : RelV v v') (f : Str) : RelO (List.lookup f [(("at" : Str), v)]) (if f = "at" then some v' else none) := by
  by_cases hw : f = "at"
  · subst hw
    rw [if_pos rfl]
    have q : List.lookup ("at" : Str) [(("at" : Str), v)] = some v := by simp [List.lookup]
    rw [q]
    exact r
  · rw [if_neg hw]
    have qw : (f == ("at" : Str)) = false := by simpa using hw
    have q2 : List.lookup f [(("at" : Str), v)] = none := by simp [List.lookup, qw]
    rw [q2]
    trivial
section
variable {X : Cx} {C fI : Addr} {en qn : Str}
/-- Low(e) -/
def tMkErr (C : Addr) (ta : TA) : L2.St → Hp → XK → Prop := fun σ H Q => ta σ H fun vs H1 => ∃ v, vs = [v] ∧ ∀ d, H1 d = none → Q (.ref C) (some d) (upd H1 d (.xd [(("at" : Str), v)]))
theorem pmk_err {a : Expr} {ta : TA} {p pos : Pos} {k : Nat} (T : PySem.ErrX.ErrTxt X.K X.mg en qn C fI) (hr : Room k X.A) (ha : PA X [a] ta) (hg : Gl X en := by rfl) (hdb : (en == ("__debug__" : Str)) = false := by decide)
    (he : starEach (a :: []) X.env = (false, eval a X.env) :: starEach [] X.env := by rfl) (hpl : (backTo pos (starEach [] X.env)).any (·.1) = false := by rfl) :
    L2N.PMk X (.Call (.Name en p) [a] [] pos) (tMkErr C ta) := by
  intro pins s σ H Q I h
  refine wpAny_Call_Name_kw (ld_glob I hg T.gC ?_ hdb)
  refine PySem.W.callWith_K (h₀ := X.base) I.ok.mod.kin T.kC (thn (ha.run pos pins s σ H _ I h) fun us s1 hh => ?_) he hpl
  obtain ⟨vs, H1, I1, r1, v, ev, q1⟩ := hh
  subst ev
  refine ⟨I1.kIn, ?_⟩
  cases r1 with
  | cons rv rn =>
    rename_i v' us'
    cases rn
    show wpAny _ _ (call (.ref C) [v']) _ _ _
    have hlim := I1.nolimit
    obtain ⟨hp, g, dr, tk, os⟩ := s1
    refine wpAny_call (PySem.ErrX.err_made T I1.kIn hlim (by have := hr.dp; omega) fun h' tk' e d M => ?_)
    show L2N.MkP X pins σ Q (.ref e) ⟨h', g, dr, tk', os⟩
    obtain ⟨oe, fv, hoe, hc, hd, hdat, h1, h2⟩ := M.obj
    have hns := M.ns
    obtain ⟨G', g1, g2⟩ := restrict h' fun b => decide (b ≠ e)
    have gk : ∀ b, b ≠ e → G'.get? b = h'.get? b := fun b hb => g1 b (decide_eq_true hb)
    have ge : G'.get? e = none := g2 e (by simp)
    have old : ∀ b o, hp.get? b = some o → G'.get? b = some o := fun b o q => (gk b (Nat.ne_of_lt (Nat.lt_of_lt_of_le (Heap.lt_size q) M.new))).trans (M.keep b o q)
    have ob : ObjOk X.prog X.w (upd H1 d (.xd [(("at" : Str), v)])) G' d (.xd [(("at" : Str), v)]) :=
      ⟨_, hns.at (fun o q => (gk d M.dne).trans q), fun f => relO_err rv f⟩
    have J : Inv X pins σ (upd H1 d (.xd [(("at" : Str), v)])) ⟨G', g, dr, tk', os⟩ := I1.laid (t' := tk') old M.dbig ob
    refine ⟨e, oe, fv, ⟨G', g, dr, tk', os⟩, _, .ref C, some d, rfl, J, fun b o q => ?_, ge, hoe, ⟨hc, hd, fun vs' z => by rw [hdat] at z; cases z; exact h2⟩, hdat, h1, ?_, rfl, I1.bare, raises_own T.exC T.tyC, q1 d (I1.hok.fresh M.dbig)⟩
    · by_cases hb : b = e
      · have q' : G'.get? b = some o := q
        rw [hb, ge] at q'; cases q'
      · exact (gk b hb).symm.trans q
    · rw [upd_ne (Ne.symm M.dne)]
      exact I1.hok.fresh M.new
/-- raise Low(e) -/
def tRaiseErr (C : Addr) (W : WX) (ta : TA) : TS := fun _ σ H => tMkErr C ta σ H fun cls d H' => W cls d σ H'
theorem ps_raiseErr {a : Expr} {ta : TA} {W : WX} {p pos pos2 : Pos} {k : Nat} (hc : X.calm = true) (T : PySem.ErrX.ErrTxt X.K X.mg en qn C fI) (hr : Room k X.A) (tk : L2N.Takes X W) (ha : PA X [a] ta) (hg : Gl X en := by rfl) (hdb : (en == ("__debug__" : Str)) = false := by decide)
    (he : starEach (a :: []) X.env = (false, eval a X.env) :: starEach [] X.env := by rfl) (hpl : (backTo pos (starEach [] X.env)).any (·.1) = false := by rfl) :
    PS X (.Raise (some (.Call (.Name en p) [a] [] pos)) none pos2) (tRaiseErr C W ta) := L2N.ps_raise hc tk (pmk_err T hr ha hg hdb he hpl)
end
end KX

namespace PySem
namespace ErrX
open PySem.W PySem.Calls PyProof.Rows PySem.HandSPX
def iA0 (p1 : Pos) : Arguments :=
  { posonlyargs := [], args := [{ arg := "self", annotation := none, pos := p1 }], vararg := none,
    kwonlyargs := [], kw_defaults := [], kwarg := none, defaults := [] }
def iS0 : Scope :=
  { kind := .function, names := [(PySem.Str.ofString "self", .local)], isGenerator := false, isCoroutine := false, more := [] }
/-- an error class whose __init__(self) does nothing -/
structure ErrTxt0 (K : Frag) (mg : Str → Option Value) (en qn : Str) (C fI : Addr) : Prop where
  gC : mg en = some (.ref C)
  cls : ∃ nm q N bs bm sn sub ab col dd k0 k1 k2 k3 k5,
    K.lookup C = some (excClassObj nm q C N bs bm true sn sub ab col dd k0 k1 k2 k3 k5 "ValueError.__new__") ∧ refsVE bm = true
  iC : findIn K (.ref C) "__init__" = some (some (.ref fI))
  tC : typeIn K (.ref fI) = some (.type "function")
  kC : keepIn K (.ref C) = true
  exC : subIn K (.ref C) (.type "BaseException") = some true
  tyC : typeIn K (.ref C) = some (.type "type")
  fn : ∃ (oc : Value) (od : Option Addr) (doc pm : Value) (an : Option Addr) (cdv ct : Value) (osl : Array (Option Value)) (p1 q1 : Pos),
    K.lookup fI = some ⟨oc, od, .func (fnOf "__init__" qn (iA0 p1) [.Pass q1] iS0 .none .none doc pm an cdv ct), osl⟩ ∧
      codeIn K cdv qn = true
/-- what is made: an exception without a dict -/
structure OwnMade0 (h h' : Heap) (e C : Addr) : Prop where
  keep : ∀ b o, h.get? b = some o → h'.get? b = some o
  new : h.objs.size ≤ e
  obj : ∃ oe vs, h'.get? e = some oe ∧ oe.cls = .ref C ∧ oe.dict = none ∧ oe.data = .fields vs ∧ vs[1]? = some .none ∧
    vs[2]? = some .none
section
variable {prog : Program} {w : World} {A : Around} {E : Value → Shared → Prop} {R : Result → Shared → Prop}
  {s : Shared} {K : Frag} {mg : Str → Option Value} {C fI : Addr} {en qn : Str}
theorem err_init0 (T : ErrTxt0 K mg en qn C fI) {x : Addr} (X : K.In s.heap) (hlim : s.heap.NoLimit)
    (hroom : A.depth < recursionLimit)
    (hq : ∀ h' tk, (∀ b o, s.heap.get? b = some o → h'.get? b = some o) → R (.ok (.ret .none)) { s with heap := h', toks := tk }) :
    codeAny (model prog w) A (.call (.ref fI) ⟨[.ref x], []⟩) R s := by
  obtain ⟨oc, od, doc, pm, an, cdv, ct, osl, p1, q1, ho, hcd⟩ := T.fn
  refine Att.call_fn (binds := [("self", .ref x)]) X hlim ho hcd hroom
    (BindsTo.of_eq (by first | rfl | with_unfolding_all rfl)) (by first | rfl | decide | with_unfolding_all rfl)
    (fun s₁ IC => ?_) rfl rfl rfl
  obtain ⟨h₁, tk₁, rfl⟩ := IC.toInCall.same
  show wpAny _ _ (execs _ _) _ _ _
  refine wpAny_execs_cons ?_
  refine wpAny_Pass ?_
  show wpAny _ _ (execs _ _) _ _ _
  exact wpAny_execs_nil (hq h₁ tk₁ IC.toInCall.keep)
theorem err_made0 (T : ErrTxt0 K mg en qn C fI) (X : K.In s.heap) (hlim : s.heap.NoLimit) (hroom : A.depth + 1 < recursionLimit)
    (hq : ∀ h' tk e, OwnMade0 s.heap h' e C → R (.ok (.ret (.ref e))) { s with heap := h', toks := tk }) :
    codeAny (model prog w) A (.call (.ref C) ⟨[], []⟩) R s := by
  obtain ⟨nm, q, N, bs, bm, sn, sub, ab, col, dd, k0, k1, k2, k3, k5, hC, hbm⟩ := T.cls
  obtain ⟨hp, g, dr, tk, os⟩ := s
  have k : ∀ b o, hp.get? b = some o → ((hp.push (kdv_tup [])).push (excO C hp.objs.size)).get? b = some o :=
    fun b o e => Heap.get?_push_of_some _ (Heap.get?_push_of_some _ e)
  have hget : ((hp.push (kdv_tup [])).push (excO C hp.objs.size)).get? (hp.objs.size + 1) = some (excO C hp.objs.size) := by
    heap_get
  refine call_own F.excBase_ValueError (fun X => refsVE_contains X bm hbm) (X _ _ hC) (looks_findIn X T.iC)
    (fun self => bind_fn X self T.tC) (Nat.zero_le _) ?_
  refine err_init0 (s := ⟨(hp.push (kdv_tup [])).push (excO C hp.objs.size), g, dr, tk, os⟩) T (X.keeps k) (hlim.keeps k) ?_
    fun h' tk' k' => ?_
  · show A.depth + 1 < recursionLimit
    exact hroom
  · exact ⟨rfl, hq h' tk' (hp.objs.size + 1) ⟨fun b o e => k' b o (k b o e), Nat.le_succ _,
      ⟨_, _, k' _ _ hget, rfl, rfl, rfl, rfl, rfl⟩⟩⟩
end
end ErrX
end PySem

namespace KX
open PySem PySem.Spec PyProof.Rows L2
section
variable {X : Cx} {C fI : Addr} {en qn : Str}
def tMkErr0 (C : Addr) : L2.St → Hp → XK → Prop := fun _ H Q => Q (.ref C) none H
theorem pmk_err0 {p pos : Pos} {k : Nat} (T : PySem.ErrX.ErrTxt0 X.K X.mg en qn C fI) (hr : Room k X.A) (hg : Gl X en := by rfl)
    (hdb : (en == ("__debug__" : Str)) = false := by decide) : L2N.PMk X (.Call (.Name en p) [] [] pos) (tMkErr0 C) := by
  intro pins s σ H Q I h
  refine wpAny_Call_Name_kw (ld_glob I hg T.gC ?_ hdb)
  refine PySem.W.callWith_K0 I.kIn T.kC ?_
  show wpAny _ _ (call (.ref C) []) _ _ _
  have hlim := I.nolimit
  have KX := I.kIn
  obtain ⟨hp, g, dr, tk, os⟩ := s
  refine wpAny_call (PySem.ErrX.err_made0 T KX hlim (by have := hr.dp; omega) fun h' tk' e M => ?_)
  show L2N.MkP X pins σ Q (.ref e) ⟨h', g, dr, tk', os⟩
  obtain ⟨oe, fv, hoe, hc, hd, hdat, h1, h2⟩ := M.obj
  refine ⟨e, oe, fv, ⟨hp, g, dr, tk, os⟩, H, .ref C, none, rfl, I, M.keep, Heap.get?_none_of_le M.new, hoe,
    ⟨hc, hd, fun vs' z => by rw [hdat] at z; cases z; exact h2⟩, hdat, h1, I.hok.fresh M.new, rfl, I.bare,
    raises_own T.exC T.tyC, h⟩
def tRaiseErr0 (C : Addr) (W : WX) : TS := fun _ σ H => W (.ref C) none σ H
theorem ps_raiseErr0 {W : WX} {p pos pos2 : Pos} {k : Nat} (hc : X.calm = true) (T : PySem.ErrX.ErrTxt0 X.K X.mg en qn C fI)
    (hr : Room k X.A) (tk : L2N.Takes X W) (hg : Gl X en := by rfl) (hdb : (en == ("__debug__" : Str)) = false := by decide) :
    PS X (.Raise (some (.Call (.Name en p) [] [] pos)) none pos2) (tRaiseErr0 C W) :=
  L2N.ps_raise hc tk (pmk_err0 T hr hg hdb)
end
end KX

namespace KX
open PySem PySem.Spec PyProof.Rows L2 L2H
/-! contracts under a condition C on the call's surroundings -/
abbrev Con := Around → List Env → Shared → Hp → Prop
structure FnR (P : Program) (w : World) (K : PySem.W.Frag) (mg : Str → Option Value) (base : Heap) (CX : CXT) (C : Con)
    (f : Addr) (fd : FuncData) (ps : List Str) (sp : Sp) : Prop where
  sized : ∀ vs H Q E, sp vs H Q E → vs.length = ps.length
  does : ∀ (A : Around) (outer : List Env) (s : Shared) (H : Hp) (args : Args) (us : List Value) (vs : List V) (Q : VK) (E : XK),
    C A outer s H → Env0 P w K mg base A outer s H → BindsTo s fd args (ps.zip us) → Vals vs us → sp vs H Q E →
      codeAny (model P w) A (.call (.ref f) args) (CR CX outer P w H s Q E) s
/-- no repr is under way -/
def CG (k : Nat) : Con := fun A _ _ _ => Room k A ∧ A.guards = some []
/-- p is the exception that is handled -/
def CP (k : Nat) (p : Addr × Obj) : Con := fun A outer s H => RoomH k A ∧ Hot1 A p ∧ PinOk outer H s p
/-- a body's context, calm or not, with pins -/
abbrev cxV (c : Bool) (pn : List (Addr × Obj)) (X : Cx) : Cx := { X with calm := c, pn := pn }
section
variable {CX : CXT} {P : Program} {w : World} {K : PySem.W.Frag} {mg : Str → Option Value} {base : Heap} {f : Addr}
  {name qual : Str} {params : Arguments} {body : List Stmt} {scope : Scope} {dV kV doc pm cdv ct oc : Value}
  {an od : Option Addr} {osl : Array (Option Value)} {N ps : List Str}
theorem call_body {A : Around} {outer : List Env} {s : Shared} {H : Hp} {args : Args} {us : List Value} {vs : List V} {Q : VK}
    {E : XK} {c : Bool} {pn : List (Addr × Obj)}
    (lk : K.lookup f = some ⟨oc, od, .func (PySem.W.fnOf name qual params body scope dV kV doc pm an cdv ct), osl⟩)
    (hcd : PySem.W.codeIn K cdv qual = true) (S : FnScope N ps scope) (hdp : A.depth < recursionLimit)
    (e0 : Env0 P w K mg base A outer s H)
    (hb : BindsTo s (PySem.W.fnOf name qual params body scope dV kV doc pm an cdv ct) args (ps.zip us))
    (begins : ∀ s1, InCallC s s.heap.objs.size
        (bindL (envOfC qual scope s.heap.objs.size f cdv).kindOf (ps.zip us) fun _ => none)
        (cellsFrom (s.heap.objs.size + 1) scope.names [])
        (bindC (envOfC qual scope s.heap.objs.size f cdv).kindOf (ps.zip us) fun _ => none) s1 →
      L2.Inv (cxV c pn (cxOf CX P w K mg base N qual scope f cdv A outer s H E)) [] (L2.start N vs) H s1)
    (reads : ∃ t, PSs (cxV c pn (cxOf CX P w K mg base N qual scope f cdv A outer s H E)) body t ∧
      t { nx := fun _ H' => Q .non H', rt := Q } (L2.start N vs) H) :
    codeAny (model P w) A (.call (.ref f) args) (CR CX outer P w H s Q E) s := by
  have stays : ∀ b o, base.get? b = some o → s.heap.get? b = some o := fun b o e => (e0.bs b o e).1
  have KI := e0.mod.kin.keeps stays
  have NL := e0.mod.nolimit.keeps stays
  refine codeAny_call_function hdp (KI _ _ lk) rfl S.co S.gen rfl
    (PySem.W.codeRec_of KI hcd) (hb _ _ _ _ ?_)
  refine wpAny_newFunctionEnv_cells S.kind (fun y hy => ?_) fun env he s1 x => ?_
  · obtain ⟨n, v⟩ := y
    cases S.par n (List.of_mem_zip hy).1 with
    | inl q => exact Or.inl q
    | inr q => exact Or.inr ⟨q, PySem.W.cellsFrom_some _ _ _ (Or.inl q)⟩
  · subst he
    obtain ⟨t, ht, hq⟩ := reads
    have I := begins s1 x
    refine ⟨NL.keeps x.toInCall.keep, codeAny_func (wpAny_mono (ht.run [] s1 (L2.start N vs) H _ I hq)
      (fun fl s' hs => ?_) fun e s' hs => hs)⟩
    cases fl with
    | ret u =>
      obtain ⟨v, σ', H', J, rv, q⟩ := hs
      exact ⟨v, H', J.os, J.bare, J.base, J.hok, rv, q⟩
    | next =>
      obtain ⟨σ', H', J, q⟩ := hs
      exact ⟨V.non, H', J.os, J.bare, J.base, J.hok, rfl, q⟩
    | brk => exact False.elim hs.choose_spec.choose_spec.2
    | cont => exact False.elim hs.choose_spec.choose_spec.2
/-- a def under CG -/
theorem fnG_of {k : Nat} {sp : Sp}
    (lk : K.lookup f = some ⟨oc, od, .func (PySem.W.fnOf name qual params body scope dV kV doc pm an cdv ct), osl⟩)
    (hcd : PySem.W.codeIn K cdv qual = true) (S : FnScope N ps scope)
    (sized : ∀ vs H Q E, sp vs H Q E → vs.length = ps.length)
    (reads : ∀ (A : Around) (outer : List Env) (s : Shared) (H : Hp) (vs : List V) (Q : VK) (E : XK),
      Room k (A.deeper (envOfC qual scope s.heap.objs.size f cdv)) → A.guards = some [] → sp vs H Q E →
      ∃ t, PSs (cxOf CX P w K mg base N qual scope f cdv A outer s H E) body t ∧
        t { nx := fun _ H' => Q .non H', rt := Q } (L2.start N vs) H) :
    FnR P w K mg base CX (CG (k + 1)) f (PySem.W.fnOf name qual params body scope dV kV doc pm an cdv ct) ps sp :=
  ⟨sized, fun A outer s H args us vs Q E hc e0 hb r h =>
    call_body (c := true) (pn := []) lk hcd S hc.1.depth e0 hb
      (fun s1 x => inv_start S hc.1.hd e0 (sized _ _ _ _ h) r x) (reads A outer s H vs Q E (hc.1.deeper _) hc.2 h)⟩
/-- a def under CP -/
theorem fnP_of {k : Nat} {sp : Sp} {p : Addr × Obj}
    (lk : K.lookup f = some ⟨oc, od, .func (PySem.W.fnOf name qual params body scope dV kV doc pm an cdv ct), osl⟩)
    (hcd : PySem.W.codeIn K cdv qual = true) (S : FnScope N ps scope)
    (sized : ∀ vs H Q E, sp vs H Q E → vs.length = ps.length)
    (reads : ∀ (A : Around) (outer : List Env) (s : Shared) (H : Hp) (vs : List V) (Q : VK) (E : XK), Hot1 A p →
      RoomH k (A.deeper (envOfC qual scope s.heap.objs.size f cdv)) → sp vs H Q E →
      ∃ t, PSs (cxV false [p] (cxOf CX P w K mg base N qual scope f cdv A outer s H E)) body t ∧
        t { nx := fun _ H' => Q .non H', rt := Q } (L2.start N vs) H) :
    FnR P w K mg base CX (CP (k + 1) p) f (PySem.W.fnOf name qual params body scope dV kV doc pm an cdv ct) ps sp :=
  ⟨sized, fun A outer s H args us vs Q E hc e0 hb r h =>
    call_body (c := false) (pn := [p]) lk hcd S hc.1.depth e0 hb
      (fun s1 x => inv_startH S hc.2.2 e0 (sized _ _ _ _ h) r x)
      (reads A outer s H vs Q E hc.2.1 (hc.1.deeper _) h)⟩
end
section
variable {X : Cx} {CX : CXT} {C : Con} {f : Addr} {fd : FuncData} {ps : List Str} {sp : Sp} {E : XK} {x : Str} {p pos : Pos}
  {e : Expr} {es : List Expr} {t : TA}
/-- a call of such a def -/
theorem pe_callR (F : FnR X.prog X.w X.K X.mg X.base CX C f fd ps sp)
    (hC : ∀ pins σ H s, L2.Inv X pins σ H s → C X.A X.stack s H) (hg : Gl X x) (hm : X.mg x = some (.ref f))
    (hk : PySem.W.keepIn X.K (.ref f) = true) (hb : Binds X.K fd ps []) (hx : Passes CX X E) (ha : PA X (e :: es) t)
    (hdb : (x == ("__debug__" : Str)) = false := by decide)
    (he : starEach (e :: es) X.env = (false, eval e X.env) :: starEach es X.env := by rfl)
    (hpl : (backTo pos (starEach es X.env)).any (·.1) = false := by rfl) :
    PE X (.Call (.Name x p) (e :: es) [] pos) (tCall sp [] E t) := by
  refine ⟨fun pins s σ H Q I h => wpAny_Call_Name_kw (ld_glob I hg hm ?_ hdb)⟩
  refine PySem.W.callWith_K (h₀ := X.base) I.ok.mod.kin hk
    (thn (ha.run pos pins s σ H _ I h) fun us s1 hh => ?_) he hpl
  obtain ⟨vs, H1, I1, r, q⟩ := hh
  rw [List.append_nil] at q
  have hl : (us ++ []).length = ps.length := by
    rw [List.append_nil, ← r.length]
    exact F.sized _ _ _ _ q
  have b := hb s1 us I1.kIn hl
  rw [List.append_nil] at b
  refine ⟨I1.kIn, wpAny_call (codeAny_mono
    (F.does X.A X.stack s1 H1 ⟨us, []⟩ us vs Q E (hC _ _ _ _ I1) I1.env0 b r q) fun r s' hq => ?_)⟩
  match r, hq with
  | .error e, hq => exact hx pins σ H1 s1 e s' I1 hq
  | .ok (.ret u), hq => exact I1.after hq
end
end KX

namespace KX
open PySem PySem.Spec PyProof.Rows L2 L2H
/-! in an except suite -/
theorem hot_suite {X : Cx} {a : Addr} {oe : Obj} {cls : Value} {d : Option Addr} {pn : List (Addr × Obj)}
    (hz : L2N.Zn cls d oe) (hf : ∃ vs, oe.data = .fields vs) : HotC (X.suite a ((a, oe) :: pn)) := by
  obtain ⟨vs, hv⟩ := hf
  exact ⟨(a, oe), ⟨rfl, vs, hv, hz.2.2 vs hv⟩, List.mem_cons_self⟩
/-- the dict of the exception, if any, is tracked -/
def DictIs (d : Option Addr) (H : Hp) : Prop := d = none ∨ ∃ dd fs, d = some dd ∧ H dd = some (.xd fs)
/-- isinstance(e, c), e pinned -/
def rIsP (K : PySem.W.Frag) (D a : Addr) (d : Option Addr) : List V → Hp → VK → Prop := fun xs H Q =>
  DictIs d H ∧ ∃ (c : V) (cv : Value) (b : Bool), xs = [.ref a, c] ∧ (∀ u, RelV c u → u = cv) ∧
    PySem.W.kitOne K (.ref D) cv = some b ∧ Q (.bl b) H
theorem call_isP {X : Cx} {a D : Addr} {oe : Obj} {d : Option Addr} (C : ExcC X.K D) (hp : (a, oe) ∈ X.pn)
    (hz : Zc (.ref D) d oe) (hf : ∃ vs, oe.data = .fields vs) : CallR X (.builtin "isinstance") (rIsP X.K D a d) := by
  intro pins s σ H xs us Q I r h
  obtain ⟨hd, c, cv, b, rfl, hcv, e, q⟩ := h
  cases r with
  | cons rx rr =>
    cases rr with
    | cons rt rr =>
      cases rr
      cases rx
      have ec := hcv _ rt
      subst ec
      obtain ⟨hget, _⟩ := I.pin (a, oe) (List.mem_append_left _ hp)
      obtain ⟨vs, hv⟩ := hf
      obtain ⟨od, J⟩ : ∃ od, PySem.W.InstAt s.heap a oe D od := by
        rcases hd with hd | ⟨dd, fs, hd, hH⟩
        · refine ⟨none, hget, hz.1, by unfold PySem.W.notCls; rw [hv] <;> rfl, ?_⟩
          rw [hz.2, hd]
          trivial
        · have hx : ObjOk X.prog X.w H s.heap dd (.xd fs) := I.hok dd _ hH
          obtain ⟨mA, hns, _⟩ := hx
          obtain ⟨od, ho, _⟩ := lookIn_ns hns
          refine ⟨some od, hget, hz.1, by unfold PySem.W.notCls; rw [hv] <;> rfl, ?_⟩
          rw [hz.2, hd]
          exact ho
      have hcl : (PySem.W.clsIn X.K D).isSome = true := by
        obtain ⟨cd, hc, _⟩ := PySem.W.any_some C.hd
        rw [hc]
        rfl
      exact PySem.W.kia_one (PySem.W.kitx_exc (od := od) (ox := oe) hcl C.hg C.hk C.hs C.ha C.hn C.ht C.hm) I.kIn J e
        (fun z => nomatch z) fun tk => ⟨.bl b, H, I.kept (t' := tk) fun _ _ z => z, rfl, q⟩
/-! a list comprehension there -/
section
variable {X : Cx}
/-- the block's context, the handled exception pinned -/
abbrev hblk (X : Cx) (p : Addr × Obj) (s : Shared) (H : Hp) (scope : Scope) (ce : Env) (fp : List Addr) : Cx :=
  (X.blk s H scope ce fp).tr ([] ++ [p]) (fun _ _ => False)
theorem to_hblk {p : Addr × Obj} {s s' : Shared} {H H' : Hp} {scope : Scope} {ce : Env} {fp : List Addr} {σ : L2.St}
    (I : L2.Inv (X.blk s H scope ce fp) [] σ H' s')
    (h : s'.heap.get? p.1 = some p.2 ∧ H' p.1 = none ∧ p.1 ≠ ce.locals ∧ p.1 ∉ (X.blk s H scope ce fp).fs ∧ ∀ v, p.2.data ≠ .cell v) :
    L2.Inv (hblk X p s H scope ce fp) [] σ H' s' :=
  (I.pins_of (pins' := [p]) fun q hq => by rw [List.mem_singleton.mp hq]; exact h).toTry _
theorem hblk_hot {p : Addr × Obj} {s : Shared} {H : Hp} {scope : Scope} {ce : Env} {fp : List Addr} (h : Hot1 X.A p) :
    HotC (hblk X p s H scope ce fp) := ⟨p, h, by simp⟩
theorem pe_lcHot {p : Addr × Obj} {elt tg iter : Expr} {scope : Scope} {own : List (Str × Nat)} {pos : Pos} {wi : TI} {g : TG}
    {te : TE} (hot : Hot1 X.A p) (hp : p ∈ X.pn) (hN : X.N.Nodup) (hi : PIH X tg iter wi) (ok : BlkOk X.N X.env.scope scope own)
    (hg : ∀ s H C cl fp, PG (hblk X p s H scope (compEnvC scope cl C X.env) fp) tg g)
    (he : ∀ s H C cl fp, PE (hblk X p s H scope (compEnvC scope cl C X.env) fp) elt te)
    (hs : ∀ x, foldedSetIterable iter X.env x = pure x := by intro _; rfl) :
    PE X (.ListComp elt [⟨tg, iter, [], 0⟩] scope pos) (tLc wi g tYes te (own.map (·.2))) := by
  refine ⟨fun pins s σ H Q I h => ?_⟩
  rw [eval_ListComp]
  have free : ∀ y ∈ scope.names, y.2 = .free → ∃ c, X.env.cells.lookup y.1 = some c := fun y hy e =>
    (ok.free y hy e).elim (fun k => I.ok.has _ (Or.inl k)) fun k => I.ok.has _ (Or.inr k)
  refine wpAny_comprehension_free (use := none) rfl hs (closure_ok free) ok.kind
    (fun y hy e => by rw [ok.uniq y hy, e])
    (thn (hi.run pins s σ H _ I h) fun xv s1 hx => thn hx fun itv s2 h2 => ?_)
  obtain ⟨it, fp, tn, J, H2, e, I2, T, st2, f2, q⟩ := h2
  subst e
  refine wpAny_newObj_type (newEnv_comp ?_) (by show 0 ≤ sizeLine; decide)
  generalize hD : s2.heap.objs.size = D
  have hDn : H2 D = none := I2.hok.fresh (Nat.le_of_eq hD)
  obtain ⟨W, ⟨m0, w0⟩, turn⟩ := q D hDn
  generalize hs3 : ({ s2 with heap := s2.heap.push { cls := .type "list", data := .seq ([] : List Value).toArray } } : Shared) = s3
  have k23 : ∀ b o, s2.heap.get? b = some o → s3.heap.get? b = some o := fun b o e => by
    rw [← hs3]
    exact Heap.get?_push_of_some _ e
  have I3 : L2.Inv X pins σ (upd H2 D (.lst [])) s3 := by
    rw [← hs3]
    refine I2.laid (t' := s2.toks) (fun b o e => Heap.get?_push_of_some _ e) (Nat.le_of_eq hD)
      ⟨Nat.zero_le _, [], 0, .nil, ?_⟩
    rw [← hD]
    exact Heap.get?_push_size _ rfl
  have sz3 : s3.heap.objs.size = s2.heap.objs.size + 1 := by rw [← hs3]; exact Heap.size_push ..
  have P3 := I3.pin p (List.mem_append_left _ hp)
  have small : ∀ b ∈ fp, b < s2.heap.objs.size := fun b hb =>
    let ⟨_, e, _⟩ := T.obj _ _ st2 b hb
    Heap.lt_size e
  have f3 : ∀ b ∈ fp, FpOk X pins (upd H2 D (.lst [])) b ∧ b < s3.heap.objs.size := fun b hb => by
    have hlt := small b hb
    refine ⟨⟨?_, (f2 b hb).2⟩, by rw [sz3]; exact Nat.lt_succ_of_lt hlt⟩
    rw [upd_ne (by rw [← hD]; exact Nat.ne_of_lt hlt)]
    exact (f2 b hb).1
  have st3 : tn 0 s3.heap := T.keep _ _ _ st2 fun b _ o e => k23 b o e
  have I4' := block_start I3 ok hN f3
  show codeAny _ _ (.compStart (.ListComp elt [⟨tg, iter, [], 0⟩] scope pos) 0 (.ref it) (.ref D)
      (compEnvC scope (cellsFrom (s3.heap.objs.size + 1) scope.names (cloFrom X.env.cells scope.names [])) s3.heap.objs.size X.env))
    (compPost (model X.prog X.w) X.A X.xe none (EP X pins σ Q) (.ref D) s3.heap.objs.size)
    { s3 with heap := pushCells (s3.heap.push { cls := .type "dict", data := .dict #[] }) scope.names }
  have pg := hg s3 (upd H2 D (.lst [])) s3.heap.objs.size
    (cellsFrom (s3.heap.objs.size + 1) scope.names (cloFrom X.env.cells scope.names [])) fp
  have pe := he s3 (upd H2 D (.lst [])) s3.heap.objs.size
    (cellsFrom (s3.heap.objs.size + 1) scope.names (cloFrom X.env.cells scope.names [])) fp
  generalize hce : compEnvC scope (cellsFrom (s3.heap.objs.size + 1) scope.names
    (cloFrom X.env.cells scope.names [])) s3.heap.objs.size X.env = ce at I4' pg pe ⊢
  have cL : ce.locals = s3.heap.objs.size := by subst hce; rfl
  generalize hH3 : upd H2 D (.lst []) = H3 at I3 I4' pg pe w0 f3 P3
  generalize hs4 : ({ s3 with heap := pushCells (s3.heap.push { cls := .type "dict", data := .dict #[] }) scope.names } : Shared) = s4
    at I4' ⊢
  have k34 : ∀ b o, s3.heap.get? b = some o → s4.heap.get? b = some o := fun b o e => by
    rw [← hs4]
    exact pushCells_keeps _ _ _ _ (Heap.get?_push_of_some _ e)
  have st4 : tn 0 s4.heap := T.keep _ _ _ st3 fun b _ o e => k34 b o e
  have nfs : p.1 ∉ (X.blk s3 H3 scope ce fp).fs := fun hm =>
    (List.mem_cons.mp (I3.stkSub p.1 hm)).elim P3.2.2.1 P3.2.2.2.1
  have I4 : L2.Inv (hblk X p s3 H3 scope ce fp) [] (wipe σ (own.map (·.2))) H3 s4 := to_hblk I4'
    ⟨k34 _ _ P3.1, P3.2.1, by rw [cL]; exact Nat.ne_of_lt (Heap.lt_size P3.1), nfs, P3.2.2.2.2⟩
  have hc : HotC (hblk X p s3 H3 scope ce fp) := hblk_hot hot
  have nfp : ∀ b ∈ fp, H3 b = none := fun b hb => (f3 b hb).1.1
  have stat : ∀ {σ' : L2.St} {H' : Hp} {s' : Shared}, L2.Inv (hblk X p s3 H3 scope ce fp) [] σ' H' s' → (∀ b ∈ fp, H' b = none) →
      ∀ b ∈ fp, FpOk (hblk X p s3 H3 scope ce fp) [] H' b := fun {σ' H' s'} I' hn b hb =>
    ⟨hn b hb, (I'.ok.exf b hb).1, I'.ok.exfs b hb, Or.inl hb, fun x c e => (I'.ok.exf b hb).2 x c e, fun r hr => by
      have er : r = p := by simpa using hr
      rw [er]
      exact (f3 b hb).1.2.2.2.2.2 p (List.mem_append_left _ hp)⟩
  have loop : codeAny (model X.prog X.w) X.A (.compLoop (.ListComp elt [⟨tg, iter, [], 0⟩] scope pos) 0 (.ref it) (.ref D) ce)
      (compPost (model X.prog X.w) X.A X.xe none (EP X pins σ Q) (.ref D) s3.heap.objs.size) s4 := by
    refine compLoop_any (fun n s' => ∃ i H', L2.Inv (hblk X p s3 H3 scope ce fp) [] (wipe σ (own.map (·.2))) H' s' ∧
      tn i s'.heap ∧ (∀ b ∈ fp, H' b = none) ∧ W i n H') ?_ m0 ⟨0, H3, I4, st4, nfp, w0⟩
    rintro n s5 ⟨i, H5, I5, st5, n5, w5⟩
    rcases turn i n H5 w5 with ⟨stop, qq⟩ | ⟨go, Nx, hNx, step⟩
    · refine thnF (T.done (hblk X p s3 H3 scope ce fp) rfl rfl rfl hc i [] s5 _ H5 (fun _ _ => False) I5 (stat I5 n5) st5 stop)
        fun r s6 hr => ?_
      obtain ⟨rfl, I6⟩ := hr
      have I7 : L2.Inv X pins σ H5 s6 := I3.call' (ch := fp) I6.os I6.base I6.hok I6.bare fun b hb =>
        let z := (f3 b hb).1.2
        ⟨z.2.2.1, z.1, z.2.2.2.1, z.2.2.2.2⟩
      have nC : H5 s3.heap.objs.size = none := by rw [← cL]; exact I6.free
      obtain ⟨m, hn, _⟩ := I6.loc
      have hn : s6.heap.Ns s3.heap.objs.size m := by rw [← cL]; exact hn
      obtain ⟨g0, g1, g2, g3, g4, g5⟩ := I3.fpOk (Nat.le_refl _) nC
      exact ⟨m, hn, fun h'' sb => ⟨.ref D, H5,
        I7.turned (t' := s6.toks) (fun b o hb e => (sb.2 b hb).trans e) g0 g1 g3 g4 g5, rfl, qq⟩⟩
    · refine thnF (T.item (hblk X p s3 H3 scope ce fp) rfl rfl rfl hc i [] s5 _ H5 (fun _ _ => False) I5 (stat I5 n5) st5 go)
        fun r s6 hr => ?_
      obtain ⟨u, rfl, h6⟩ := hr
      refine thnF h6 fun _ s7 h7 => ?_
      obtain ⟨x, H7, I7, r7, y7, st7, n7⟩ := h7
      have I7' := I7.pinned (stat I7 n7) (T.obj _ _ st7)
      refine thnF (pg.run _ s7 _ H7 x u _ I7' r7 (step x H7 y7)) fun _ s8 h8 => ?_
      obtain ⟨σ8, H8, I8, hw8, q8⟩ := h8
      refine wpAny_pure ?_
      have q9 : te σ8 H8 fun y H4 => ∃ acc, H4 D = some (.lst acc) ∧ acc.length < sizeLine ∧ Nx (upd H4 D (.lst (acc ++ [y]))) := q8
      simp only [if_true]
      refine thnF (pe.run _ s8 σ8 H8 _ I8 q9) fun z s10 h10 => ?_
      obtain ⟨yv, H10, I10, r10, acc, hD10, hz10, nx⟩ := h10
      refine app_ok (X := hblk X p s3 H3 scope ce fp) I10 hD10 hz10 r10 fun s11 I11 => ?_
      obtain ⟨m', hm, w'⟩ := hNx _ nx
      have kept : ∀ b ∈ fp, ∀ o, s7.heap.get? b = some o → s11.heap.get? b = some o ∧
          (upd H10 D (.lst (acc ++ [yv]))) b = none := fun b hb o e =>
        let z := I11.pin (b, o) (List.mem_append_right _ (List.mem_append_right _ (mem_pinsAt hb e)))
        ⟨z.1, z.2.1⟩
      refine ⟨m', hm, i + 1, _, (I11.unpinned (pins := [])).weak (by rw [← hw8, wipe_length]) (fun j v e => ?_),
        T.keep _ _ _ st7 fun b hb o e => (kept b hb o e).1, fun b hb => ?_, w'⟩
      · rw [← hw8] at e
        exact (wipe_some e).1
      · obtain ⟨o, e, _⟩ := T.obj _ _ st7 b hb
        exact (kept b hb o e).2
  exact codeAny_compStart_list loop (T.self X.A 0 _ _ _ st4 loop)
end
end KX

namespace KX
open PySem PySem.Spec PyProof.Rows L2 L2H
/-! the law's own call, its def promised under CG -/
theorem none_or_at {H : Hp} {a : Addr} (hA : ∀ b, H b ≠ none → b = a) (b : Addr) : H b = none ∨ b = a := by
  cases q : H b with
  | none => exact Or.inl rfl
  | some u => exact Or.inr (hA b (by rw [q]; exact fun z => nomatch z))
theorem lawG_core {P : Program} {w : World} {K : PySem.W.Frag} {mg mb : Str → Option Value} {CX : CXT} {k : Nat} {fa a : Addr}
    {fd : FuncData} {x : Str} {sp : Sp} {s₁ : Shared} {vs : List Value} {H : Hp}
    (KI : K.In s₁.heap) (hns : s₁.heap.Ns mainGlobals mg) (hb : s₁.heap.Ns builtinsNs mb)
    (hbb : ∀ x : Str, x ≠ "__name__" → mb x = bootBuiltins x) (hlim : s₁.heap.NoLimit) (hg : s₁.gens = #[])
    (ha : s₁.heap.get? a = some { cls := .type "list", data := .seq vs.toArray }) (hr : Room k callerA)
    (F : ∀ base : Heap, K.In base → base.Ns mainGlobals mg → FnR P w K mg base CX (CG k) fa fd [x] sp)
    (hbind : ∀ (s : Shared) (u : Value), BindsTo s fd ⟨[u], []⟩ [(x, u)])
    (hCX : ∀ H e s', CX [] H s₁ (fun _ _ _ => False) e s' → False)
    (hO : Only H) (hS : sp [.ref a] H (fun v _ => v = .bl true) fun _ _ _ => False) (hok : HOk P w H s₁.heap)
    (hA : ∀ b, H b ≠ none → b = a) (hK : H a ≠ none → K.lookup a = none) :
    codeAny (model P w) callerA (.call (.ref fa) ⟨[.ref a], []⟩)
      (fun r s' => r = .ok (.ret (.bool true)) ∧ OldK s₁.heap s'.heap ∧ s'.os = s₁.os ∧ AllBare s'.gens) s₁ := by
  have dictFree : ∀ {b : Addr} {o : Obj} {es : Array DictEntry} {ep : Nat}, s₁.heap.get? b = some o → o.data = .dict es ep → H b = none :=
    fun {b o es ep} e d => (none_or_at hA b).resolve_right fun z => by
      subst z
      rw [ha] at e
      cases e
      have d' : Data.seq vs.toArray _ = Data.dict es ep := d
      cases d'
  have ns' : ∀ {b : Addr} {m : Str → Option Value}, s₁.heap.Ns b m → (hidT s₁.heap H).Ns b m := fun {b m} n => by
    obtain ⟨o, es, ep, e, d, r⟩ := n
    exact ⟨o, es, ep, hidT_get e (dictFree e d), d, r⟩
  have KB : K.In (hidT s₁.heap H) := fun b o e => by
    cases q : H b with
    | none => exact hidT_get (KI b o e) q
    | some u =>
      have eb : b = a := hA b (by rw [q]; exact fun z => nomatch z)
      subst eb
      rw [hK (by rw [q]; exact fun z => nomatch z)] at e
      cases e
  have MB : Mod K mg (hidT s₁.heap H) := by
    obtain ⟨mc, h1, h2⟩ := hlim
    exact ⟨KB, ns' hns, ⟨mb, ns' hb, hbb⟩, ⟨mc, ns' h1, h2⟩⟩
  have e0 : Env0 P w K mg (hidT s₁.heap H) callerA [] s₁ H :=
    ⟨rfl, MB, fun b o e => of_hidT e, Nat.le_of_eq (hidT_size _ _), trivial,
      fun b hb => absurd (show b ∈ ([] : List Addr) from hb) (by simp), hok, .of_eq hg⟩
  refine codeAny_mono ((F _ KB (ns' hns)).does callerA [] s₁ H ⟨[.ref a], []⟩ [.ref a] [.ref a] _ _ ⟨hr, rfl⟩ e0
    (hbind s₁ (.ref a)) (.cons rfl .nil) hS) fun r s' h => ?_
  match r, h with
  | .error e, h => exact (hCX H e s' h).elim
  | .ok (.ret u), h =>
    obtain ⟨v, H', os, bare, un, hok', r', q⟩ := h
    have q' : v = .bl true := q
    subst q'
    obtain rfl : u = Value.bool true := r'
    refine ⟨rfl, OldK.of_keep fun b o e => ?_, os, bare⟩
    cases q : H b with
    | none => exact un.keep b o e q (by intro z; exact absurd (show b ∈ ([] : List Addr) from z) (by simp)) (by simp)
    | some u =>
      rcases hO b with z | ⟨ob, xs, z⟩
      · rw [q] at z
        cases z
      · have e1 := (hok b _ z).1
        have e2 := (hok' b _ (un.frzs b ob _ z)).1
        rw [e] at e1
        cases e1
        exact e2
theorem law_callG {P : Program} {w : World} {K : PySem.W.Frag} {mg mb : Str → Option Value} {CX : CXT} {k : Nat} {fa a : Addr}
    {fd : FuncData} {x : Str} {sp : Sp} {s₁ : Shared} {vs : List Value} {ns : List Int}
    (KI : K.In s₁.heap) (hns : s₁.heap.Ns mainGlobals mg) (hb : s₁.heap.Ns builtinsNs mb)
    (hbb : ∀ x : Str, x ≠ "__name__" → mb x = bootBuiltins x) (hlim : s₁.heap.NoLimit) (hg : s₁.gens = #[])
    (ha : s₁.heap.get? a = some { cls := .type "list", data := .seq vs.toArray }) (hi : IntsAre vs ns)
    (hl : ns.length ≤ sizeLine) (hr : Room k callerA)
    (F : ∀ base : Heap, K.In base → base.Ns mainGlobals mg → FnR P w K mg base CX (CG k) fa fd [x] sp)
    (hbind : ∀ (s : Shared) (u : Value), BindsTo s fd ⟨[u], []⟩ [(x, u)])
    (hsp : ∀ H : Hp, Only H → SqL K H a (ns.map V.int) → sp [.ref a] H (fun v _ => v = .bl true) fun _ _ _ => False)
    (hCX : ∀ H e s', CX [] H s₁ (fun _ _ _ => False) e s' → False) :
    codeAny (model P w) callerA (.call (.ref fa) ⟨[.ref a], []⟩)
      (fun r s' => r = .ok (.ret (.bool true)) ∧ OldK s₁.heap s'.heap ∧ s'.os = s₁.os ∧ AllBare s'.gens) s₁ := by
  have rv := vals_ints hi
  cases hk : K.lookup a with
  | some o =>
    have e := KI a o hk
    rw [ha] at e
    cases e
    have O : Only fun _ => none := fun _ => Or.inl rfl
    have S : SqL K (fun _ => none) a (ns.map V.int) :=
      Or.inr ⟨_, vs.toArray, _, hk, rfl, rfl, rfl, by rw [List.size_toArray, hi.length]; exact hl, by simpa using rv⟩
    exact lawG_core KI hns hb hbb hlim hg ha hr F hbind hCX O (hsp _ O S) (fun b u z => nomatch z) (fun b z => absurd rfl z)
      fun z => absurd rfl z
  | none =>
    let H : Hp := fun b => if b = a then
      some (.frz { cls := .type "list", data := .seq vs.toArray } (.lst (ns.map V.int))) else none
    have at_ : H a = some (.frz { cls := .type "list", data := .seq vs.toArray } (.lst (ns.map V.int))) := if_pos rfl
    have off : ∀ {b}, b ≠ a → H b = none := fun h => if_neg h
    have O : Only H := fun b => by
      by_cases h : b = a
      · subst h
        exact Or.inr ⟨_, _, at_⟩
      · exact Or.inl (off h)
    have S : SqL K H a (ns.map V.int) := Or.inl (Or.inr ⟨_, at_⟩)
    refine lawG_core (H := H) KI hns hb hbb hlim hg ha hr F hbind hCX O (hsp _ O S) (fun b u z => ?_)
      (fun b z => Classical.byContradiction fun h => z (off h)) fun _ => hk
    by_cases h : b = a
    · subst h
      rw [at_] at z
      cases z
      exact ⟨ha, by rw [List.length_map]; exact hl, vs, _, rv, ha⟩
    · rw [off h] at z
      cases z
/-- what k_head leaves, by the law's promise under CG -/
theorem walk_ofG {l : PySem.W.OpenLaw} {n k : Nat} {q : Program} {loose : List Str} {XP : (Str → Option Value) → Heap → Prop}
    {YP : World → Heap → Prop} {d : DefRec} {K : Params → PySem.W.Frag} {CX : CXT} {sp : PySem.W.Frag → Sp} {x : Str}
    (hn : l.most = some n) (hn2 : n ≤ sizeLine) (hdf : d.params.defaults = []) (hr : Room k callerA)
    (hY : ∀ (w : World) (h : Heap), YP w h → (K w.params).In h)
    (F : ∀ (w : World) (mg : Str → Option Value) (fa : Addr) (h : Heap), (K w.params).In h → h.Ns mainGlobals mg →
      mg d.name = some (.ref fa) → ∃ fd : FuncData, (∀ (s : Shared) (u : Value), BindsTo s fd ⟨[u], []⟩ [(x, u)]) ∧
        ∀ base : Heap, (K w.params).In base → base.Ns mainGlobals mg →
          FnR l.prog w (K w.params) mg base CX (CG k) fa fd [x] (sp (K w.params)))
    (hsp : ∀ (K : PySem.W.Frag) (H : Hp) (a : Addr) (ns : List Int), ns.length ≤ n → Only H → SqL K H a (ns.map V.int) →
      sp K [.ref a] H (fun v _ => v = .bl true) fun _ _ _ => False)
    (hCX : ∀ (H : Hp) (s : Shared) (e : Value) (s' : Shared), CX [] H s (fun _ _ _ => False) e s' → False) :
    PySem.W.WalkO q loose XP YP l.row.toRowW d [] (fun f vs => PySem.call f vs) := by
  refine Att.attach_call hn hdf fun w s₀ s₁ mg mb fa o pm cd doc a vs ns G Y ho hd hcd hmg hobj hints hlen hg => ?_
  have KI := hY w _ Y
  obtain ⟨fd, hb, hF⟩ := F w mg fa _ KI G.T.g hmg
  exact law_callG KI G.T.g G.T.b G.T.builtins G.T.nolimit hg hobj hints (Nat.le_trans hlen hn2) hr hF hb
    (fun H hO hS => hsp (K w.params) H a ns hlen hO hS) fun H e s' => hCX H s₁ e s'
end KX

namespace KX
open PySem PySem.Spec PyProof.Rows L2
/-! calls by keywords alone -/
section
variable {X : Cx} {CX : CXT} {k : Nat} {f : Addr} {fd : FuncData} {ps ks : List Str} {sp : Sp} {E : XK} {x : Str} {p pos : Pos}
  {kws : List Keyword} {t tk : TA} {g : List Value → List Value → List Value} {gV : List V → List V → List V}
def tCallK (m : Nat) (sp : Sp) (gV : List V → List V → List V) (E : XK) (tk : TA) : TE := fun σ H Q =>
  tk σ H fun zs H2 => zs.length = m ∧ sp (gV [] zs) H2 Q E
theorem pe_callK (F : FnOk X.prog X.w X.K X.mg X.base CX k f fd ps sp) (hr : Room k X.A) (hg : Gl X x) (hm : X.mg x = some (.ref f))
    (hk : PySem.W.keepIn X.K (.ref f) = true) (hb : KBn X.K fd ps 0 ks g gV) (hx : Passes CX X E) (hkw : PK X kws tk)
    (hall : (backToKw pos (keywordEach kws X.env)).all (·.1.isSome) = true := by rfl)
    (hks : (backToKw pos (keywordEach kws X.env)).filterMap (·.1) = ks := by rfl)
    (hdb : (x == ("__debug__" : Str)) = false := by decide)
    (hpl : ((backTo pos (starEach [] X.env)).any (·.1) || (backToKw pos (keywordEach kws X.env)).any (·.1.isNone)) = false := by rfl) :
    PE X (.Call (.Name x p) [] kws pos) (tCallK ks.length sp gV E tk) := by
  refine ⟨fun pins s σ H Q I h => wpAny_Call_Name_kw (ld_glob I hg hm ?_ hdb)⟩
  refine PySem.W.callWith_KW0 (h₀ := X.base) I.ok.mod.kin hk hall (thn (hkw.run pos pins s σ H _ I h) fun ws s2 hh => ?_) hpl
  obtain ⟨zs, H2, I2, rz, l2, q2⟩ := hh
  refine ⟨I2.kIn, ?_⟩
  rw [hks]
  exact run_fnN (us := []) (vs := []) F hr hb hx I2 .nil rz rfl l2 q2
/-- two parameters by keywords, in the other order -/
theorem kb_swap {K : PySem.W.Frag} {fd : FuncData} {a b : Str}
    (h : ∀ u v : Value, bindArgs fd ⟨[], [(b, v), (a, u)]⟩ = pure [(a, u), (b, v)]) :
    KBn K fd [a, b] 0 [b, a] (fun _ ws => ws.reverse) (fun _ zs => zs.reverse) where
  to := fun s us ws _ h0 h2 => by
    match us, ws, h0, h2 with
    | [], [v, u], _, _ => exact .of_eq (h u v)
  rel := fun {vs us zs ws} _ r => by
    induction r with
    | nil => exact .nil
    | cons q _ ih =>
      rw [List.reverse_cons, List.reverse_cons]
      exact ih.append (.cons q .nil)
/-- two parameters by keywords, in their order -/
theorem kb_both {K : PySem.W.Frag} {fd : FuncData} {a b : Str}
    (h : ∀ u v : Value, bindArgs fd ⟨[], [(a, u), (b, v)]⟩ = pure [(a, u), (b, v)]) :
    KBn K fd [a, b] 0 [a, b] (fun _ ws => ws) (fun _ zs => zs) where
  to := fun s us ws _ h0 h2 => by
    match us, ws, h0, h2 with
    | [], [u, v], _, _ => exact .of_eq (h u v)
  rel := fun _ r => r
/-- the second one of two by keyword -/
theorem kb_second {K : PySem.W.Frag} {fd : FuncData} {a b : Str}
    (h : ∀ u v : Value, bindArgs fd ⟨[u], [(b, v)]⟩ = pure [(a, u), (b, v)]) :
    KBn K fd [a, b] 1 [b] (fun us ws => us ++ ws) (fun vs zs => vs ++ zs) where
  to := fun s us ws _ h0 h2 => by
    match us, ws, h0, h2 with
    | [u], [v], _, _ => exact .of_eq (h u v)
  rel := fun r1 r2 => r1.append r2
end
/-! // by any number that is not 0 -/
def CDivA (_ j : Int) : Prop := j ≠ 0 ∧ j.natAbs.log2 < 9000
theorem op_fdivA {X : Cx} : OpR X (binaryOp .FloorDiv) (rI CDivA fun i j => .int (i.fdiv j)) := opI fun i j _ _ _ _ _ hc q =>
  floordiv_int hc.1 q (.inl (PyProof.noPylong_of_log2 hc.2))
/-! which values are integers -/
inductive Kin (K : PySem.W.Frag) (H : Hp) : V → Option Int → Prop
  | int (i : Int) : Kin K H (.int i) (some i)
  | oth {x : V} {n : String} {b1 b2 : Bool} (t : TyX K H x (.type n)) (h1 : kitB n "int" = some b1) (h2 : kitB n "bool" = some b2)
      (h : (b1 && !b2) = false) : Kin K H x none
theorem Kin.ty {K : PySem.W.Frag} {H : Hp} {x : V} {o : Option Int} (k : Kin K H x o) :
    ∃ n b1 b2, TyX K H x (.type n) ∧ kitB n "int" = some b1 ∧ kitB n "bool" = some b2 ∧ (b1 && !b2) = o.isSome := by
  cases k with
  | int i => exact ⟨"int", true, false, .base (.int i), by decide +kernel, by decide +kernel, rfl⟩
  | oth t h1 h2 h => exact ⟨_, _, _, t, h1, h2, h⟩
end KX

namespace KX
open PySem PySem.Spec PyProof.Rows L2
section
variable {X : Cx} {C fI : Addr} {en qn : Str}
theorem pmk_errZ {a : Expr} {ta : TA} {p pos : Pos} {k : Nat} (T : PySem.ErrX.ErrTxt X.K X.mg en qn C fI) (hr : Room k X.A) (ha : PA X [a] ta) (hg : Gl X en := by rfl) (hdb : (en == ("__debug__" : Str)) = false := by decide)
    (he : starEach (a :: []) X.env = (false, eval a X.env) :: starEach [] X.env := by rfl) (hpl : (backTo pos (starEach [] X.env)).any (·.1) = false := by rfl) :
    L2.PMk X (.Call (.Name en p) [a] [] pos) (tMkErr C ta) := fun pins s σ H Q I h => by
  refine wpAny_mono (pmk_err T hr ha hg hdb he hpl pins s σ H Q I h) (fun u s' hu => ?_) fun _ _ x => x
  obtain ⟨a, oe, vs, sI, H', cls, d, h1, h2, h3, h4, h5, hz, h6⟩ := hu
  exact ⟨a, oe, vs, sI, H', cls, d, h1, h2, h3, h4, h5, hz.zc, h6⟩
theorem ps_raiseErrZ {a : Expr} {ta : TA} {W : WX} {p pos pos2 : Pos} {k : Nat} (hc : X.calm = true) (T : PySem.ErrX.ErrTxt X.K X.mg en qn C fI) (hr : Room k X.A) (tk : L2.Takes X W) (ha : PA X [a] ta) (hg : Gl X en := by rfl) (hdb : (en == ("__debug__" : Str)) = false := by decide)
    (he : starEach (a :: []) X.env = (false, eval a X.env) :: starEach [] X.env := by rfl) (hpl : (backTo pos (starEach [] X.env)).any (·.1) = false := by rfl) :
    PS X (.Raise (some (.Call (.Name en p) [a] [] pos)) none pos2) (tRaiseErr C W ta) := L2.ps_raise hc tk (pmk_errZ T hr ha hg hdb he hpl)
end
end KX

namespace KX
open PySem PySem.Spec PyProof.Rows L2 L2H LamX
/-! the law's own call under CG, with one table of code objects -/
section
variable {P : Program} {w : World} {K : PySem.W.Frag} {mg mb : Str → Option Value} {CX : CXT} {k : Nat} {fa a c t : Addr}
  {fd : FuncData} {x : Str} {sp : Sp} {s₁ : Shared} {vs : List Value}
/-- only the script and the table are tracked -/
structure OnlyT (H : Hp) (a t : Addr) : Prop where
  tab : H t = some (.tbl #[])
  who : ∀ b, H b ≠ none → b = a ∨ b = t
  frz : ∀ u, H a = some u → ∃ o xs, u = .frz o (.lst xs)
theorem OnlyT.off {H : Hp} {b : Addr} (O : OnlyT H a t) (h1 : b ≠ a) (h2 : b ≠ t) : H b = none :=
  Classical.byContradiction fun z => (O.who b z).elim h1 h2
theorem lawT_core {H : Hp}
    (KI : K.In s₁.heap) (hns : s₁.heap.Ns mainGlobals mg) (hb : s₁.heap.Ns builtinsNs mb)
    (hbb : ∀ x : Str, x ≠ "__name__" → mb x = bootBuiltins x) (hlim : s₁.heap.NoLimit) (hg : s₁.gens = #[])
    (ht : s₁.heap.get? t = some { cls := .none, data := .fields #[] }) (nt : K.lookup t = none) (C : PySem.W.CodeHd s₁.heap c t)
    (hbm : ∃ (bm : Addr) (ob : Obj), mg "__builtins__" = some (.ref bm) ∧ bm ≠ builtinsNs ∧ s₁.heap.get? bm = some ob ∧ ob.cls = .type "module" ∧ ob.dict = some builtinsNs ∧ ob.data = .plain)
    (ha : s₁.heap.get? a = some { cls := .type "list", data := .seq vs.toArray }) (hr : Room k callerA)
    (F : ∀ base : Heap, K.In base → base.Ns mainGlobals mg → TabB base mg c t → FnR P w K mg base CX (CG k) fa fd [x] sp)
    (hbind : ∀ (s : Shared) (u : Value), BindsTo s fd ⟨[u], []⟩ [(x, u)])
    (hCX : ∀ H e s', CX [] H s₁ (fun _ _ _ => False) e s' → False)
    (O : OnlyT H a t) (hS : sp [.ref a] H (fun v _ => v = .bl true) fun _ _ _ => False) (hok : HOk P w H s₁.heap)
    (hK : H a ≠ none → K.lookup a = none) :
    codeAny (model P w) callerA (.call (.ref fa) ⟨[.ref a], []⟩)
      (fun r s' => r = .ok (.ret (.bool true)) ∧ OldK s₁.heap s'.heap ∧ s'.os = s₁.os ∧ AllBare s'.gens) s₁ := by
  have sees : ∀ {b : Addr} {o : Obj}, s₁.heap.get? b = some o → (∀ vs n, o.data ≠ .seq vs n) → o.data ≠ .fields #[] →
      (hidT s₁.heap H).get? b = some o := fun {b o} e h1 h2 => hidT_get e (O.off (fun z => by
        subst z
        rw [ha] at e
        cases e
        exact h1 _ _ rfl) fun z => by
        subst z
        rw [ht] at e
        cases e
        exact h2 rfl)
  have nsH : ∀ {b : Addr} {m : Str → Option Value}, s₁.heap.Ns b m → (hidT s₁.heap H).Ns b m := fun {b m} n => by
    obtain ⟨o, es, ep, e, d, r⟩ := n
    exact ⟨o, es, ep, sees e (fun vs n z => by rw [d] at z; cases z) (fun z => by rw [d] at z; cases z), d, r⟩
  have KB : K.In (hidT s₁.heap H) := fun b o e => hidT_get (KI b o e) (Classical.byContradiction fun z => by
    rcases O.who b z with h | h
    · subst h
      rw [hK z] at e
      cases e
    · subst h
      rw [nt] at e
      cases e)
  have MB : Mod K mg (hidT s₁.heap H) := by
    obtain ⟨mc, h1, h2⟩ := hlim
    exact ⟨KB, nsH hns, ⟨mb, nsH hb, hbb⟩, ⟨mc, nsH h1, h2⟩⟩
  have TB : TabB (hidT s₁.heap H) mg c t := by
    refine ⟨?_, ?_, fun z => ?_⟩
    · obtain ⟨o, us, file, tf, flags, tg, inF, text, tt, e1, r1, r2, r3, rest⟩ := C
      refine ⟨o, us, file, tf, flags, tg, inF, text, tt, sees e1 (fun vs n z => ?_) (fun z => ?_), r1, r2, r3, rest⟩
      · rw [r2] at z
        cases z
      · rw [r2] at z
        cases z
        simp at r3
    · obtain ⟨bm, ob, b1, b2, b3, b4, b5, b6⟩ := hbm
      refine ⟨bm, ob, b1, b2, fun q => ?_, fun q => ?_, sees b3 (fun vs n z => by rw [b6] at z; cases z) (fun z => by rw [b6] at z; cases z), b4, b5, b6⟩
      · obtain ⟨o, es, ep, e, hd, _⟩ := hns
        rw [q, e] at b3
        cases b3
        rw [hd] at b6
        cases b6
      · rw [q, ht] at b3
        cases b3
        cases b6
    · obtain ⟨o, es, ep, e, hd, _⟩ := hns
      rw [z, ht] at e
      cases e
      cases hd
  have e0 : Env0 P w K mg (hidT s₁.heap H) callerA [] s₁ H :=
    ⟨rfl, MB, fun b o e => of_hidT e, Nat.le_of_eq (hidT_size _ _), trivial,
      fun b hb => absurd (show b ∈ ([] : List Addr) from hb) (by simp), hok, .of_eq hg⟩
  refine codeAny_mono ((F _ KB (nsH hns) TB).does callerA [] s₁ H ⟨[.ref a], []⟩ [.ref a] [.ref a] _ _ ⟨hr, rfl⟩ e0
    (hbind s₁ (.ref a)) (.cons rfl .nil) hS) fun r s' h => ?_
  match r, h with
  | .error e, h => exact (hCX H e s' h).elim
  | .ok (.ret u), h =>
    obtain ⟨v, H', os, bare, un, hok', r', q⟩ := h
    have q' : v = .bl true := q
    subst q'
    obtain rfl : u = Value.bool true := r'
    obtain ⟨more, hm⟩ : ∃ more : Array Value, s'.heap.get? t = some { cls := .none, data := .fields more } := by
      obtain ⟨more, z⟩ := un.tbls t #[] O.tab
      exact ⟨_, hok' t _ z⟩
    have other : ∀ b o, b ≠ t → s₁.heap.get? b = some o → s'.heap.get? b = some o := fun b o nb e => by
      cases q : H b with
      | none => exact un.keep b o e q (by intro z; exact absurd (show b ∈ ([] : List Addr) from z) (by simp)) (by simp)
      | some u =>
        have eb : b = a := (O.who b (by rw [q]; exact fun z => nomatch z)).resolve_right nb
        subst eb
        obtain ⟨ob, xs, rfl⟩ := O.frz _ q
        have e1 := (hok b _ q).1
        have e2 := (hok' b _ (un.frzs b ob _ q)).1
        rw [e] at e1
        cases e1
        exact e2
    refine ⟨rfl, ⟨fun b o e => ?_, fun b o e => ?_⟩, os, bare⟩
    · by_cases h : b = t
      · subst h
        rw [ht] at e
        cases e
        exact .inr (.inl ⟨(C.tab ht).isCodeTable, rfl, #[], more, rfl, by rw [Array.empty_append]; exact hm⟩)
      · exact .inl (other b o h e)
    · by_cases h : b = t
      · subst h
        exact ⟨_, hm⟩
      · exact ⟨o, other b o h e⟩
theorem law_callT {ns : List Int}
    (KI : K.In s₁.heap) (hns : s₁.heap.Ns mainGlobals mg) (hb : s₁.heap.Ns builtinsNs mb)
    (hbb : ∀ x : Str, x ≠ "__name__" → mb x = bootBuiltins x) (hlim : s₁.heap.NoLimit) (hg : s₁.gens = #[])
    (ht : s₁.heap.get? t = some { cls := .none, data := .fields #[] }) (nt : K.lookup t = none) (C : PySem.W.CodeHd s₁.heap c t)
    (hbm : ∃ (bm : Addr) (ob : Obj), mg "__builtins__" = some (.ref bm) ∧ bm ≠ builtinsNs ∧ s₁.heap.get? bm = some ob ∧ ob.cls = .type "module" ∧ ob.dict = some builtinsNs ∧ ob.data = .plain)
    (ha : s₁.heap.get? a = some { cls := .type "list", data := .seq vs.toArray }) (hi : IntsAre vs ns) (hl : ns.length ≤ sizeLine) (hr : Room k callerA)
    (F : ∀ base : Heap, K.In base → base.Ns mainGlobals mg → TabB base mg c t → FnR P w K mg base CX (CG k) fa fd [x] sp)
    (hbind : ∀ (s : Shared) (u : Value), BindsTo s fd ⟨[u], []⟩ [(x, u)])
    (hsp : ∀ H : Hp, H t = some (.tbl #[]) → SqL K H a (ns.map V.int) → sp [.ref a] H (fun v _ => v = .bl true) fun _ _ _ => False)
    (hCX : ∀ H e s', CX [] H s₁ (fun _ _ _ => False) e s' → False) :
    codeAny (model P w) callerA (.call (.ref fa) ⟨[.ref a], []⟩)
      (fun r s' => r = .ok (.ret (.bool true)) ∧ OldK s₁.heap s'.heap ∧ s'.os = s₁.os ∧ AllBare s'.gens) s₁ := by
  have rv := vals_ints hi
  have nat : a ≠ t := fun z => by
    rw [z, ht] at ha
    cases ha
  cases hk : K.lookup a with
  | some o =>
    have e := KI a o hk
    rw [ha] at e
    cases e
    let H : Hp := fun b => if b = t then some (.tbl #[]) else none
    have atT : H t = some (.tbl #[]) := if_pos rfl
    have off : ∀ {b}, b ≠ t → H b = none := fun h => if_neg h
    have S : SqL K H a (ns.map V.int) :=
      Or.inr ⟨_, vs.toArray, _, hk, rfl, rfl, rfl, by rw [List.size_toArray, hi.length]; exact hl, by simpa using rv⟩
    have O : OnlyT H a t := ⟨atT, fun b z => Or.inr (Classical.byContradiction fun h => z (off h)), fun u z => by rw [off nat] at z; cases z⟩
    refine lawT_core KI hns hb hbb hlim hg ht nt C hbm ha hr F hbind hCX O (hsp _ atT S) (fun b u z => ?_) fun z => absurd (off nat) z
    by_cases h : b = t
    · subst h
      rw [atT] at z
      cases z
      exact ht
    · rw [off h] at z
      cases z
  | none =>
    let H : Hp := fun b => if b = a then some (.frz { cls := .type "list", data := .seq vs.toArray } (.lst (ns.map V.int))) else if b = t then some (.tbl #[]) else none
    have atA : H a = some (.frz { cls := .type "list", data := .seq vs.toArray } (.lst (ns.map V.int))) := if_pos rfl
    have atT : H t = some (.tbl #[]) := (if_neg (Ne.symm nat)).trans (if_pos rfl)
    have off : ∀ {b}, b ≠ a → b ≠ t → H b = none := fun h h' => (if_neg h).trans (if_neg h')
    have S : SqL K H a (ns.map V.int) := Or.inl (Or.inr ⟨_, atA⟩)
    have O : OnlyT H a t := ⟨atT, fun b z => by
      by_cases h : b = a
      · exact Or.inl h
      · exact Or.inr (Classical.byContradiction fun h' => z (off h h')), fun u z => by rw [atA] at z; cases z; exact ⟨_, _, rfl⟩⟩
    refine lawT_core KI hns hb hbb hlim hg ht nt C hbm ha hr F hbind hCX O (hsp _ atT S) (fun b u z => ?_) fun _ => hk
    by_cases h : b = a
    · subst h
      rw [atA] at z
      cases z
      exact ⟨ha, by rw [List.length_map]; exact hl, vs, _, rv, ha⟩
    · by_cases h' : b = t
      · subst h'
        rw [atT] at z
        cases z
        exact ht
      · rw [off h h'] at z
        cases z
end
/-- what k_head leaves, by the law's promise under CG; t: the table of the law's code object -/
theorem walk_ofT {l : PySem.W.OpenLaw} {n k : Nat} {q : Program} {loose : List Str} {XP : (Str → Option Value) → Heap → Prop}
    {YP : World → Heap → Prop} {d : DefRec} {K : Params → PySem.W.Frag} {CX : CXT} {x : Str} {c t : Addr} {sp : PySem.W.Frag → Sp}
    (hn : l.most = some n) (hn2 : n ≤ sizeLine) (hdf : d.params.defaults = []) (hr : Room k callerA)
    (hY : ∀ (w : World) (h : Heap), YP w h → (K w.params).In h)
    (hT : ∀ (w : World) (h : Heap), YP w h → h.get? t = some { cls := .none, data := .fields #[] })
    (hcd : ∀ w : World, PySem.W.codeHdIn (K w.params) c t = true) (nt : ∀ w : World, (K w.params).lookup t = none)
    (F : ∀ (w : World) (mg : Str → Option Value) (fa : Addr) (h : Heap), (K w.params).In h → h.Ns mainGlobals mg →
      mg d.name = some (.ref fa) → ∃ fd : FuncData, (∀ (s : Shared) (u : Value), BindsTo s fd ⟨[u], []⟩ [(x, u)]) ∧
        ∀ base : Heap, (K w.params).In base → base.Ns mainGlobals mg → TabB base mg c t →
          FnR l.prog w (K w.params) mg base CX (CG k) fa fd [x] (sp (K w.params)))
    (hsp : ∀ (K : PySem.W.Frag) (H : Hp) (a : Addr) (ns : List Int), ns.length ≤ n → H t = some (.tbl #[]) → SqL K H a (ns.map V.int) →
      sp K [.ref a] H (fun v _ => v = .bl true) fun _ _ _ => False)
    (hCX : ∀ (H : Hp) (s : Shared) (e : Value) (s' : Shared), CX [] H s (fun _ _ _ => False) e s' → False) :
    PySem.W.WalkO q loose XP YP l.row.toRowW d [] (fun f vs => PySem.call f vs) := by
  refine Att.attach_call hn hdf fun w s₀ s₁ mg mb fa o pm cd doc a vs ns G Y ho hd hcd' hmg hobj hints hlen hg => ?_
  have KI := hY w _ Y
  obtain ⟨fd, hb, hF⟩ := F w mg fa _ KI G.T.g hmg
  exact law_callT KI G.T.g G.T.b G.T.builtins G.T.nolimit hg (hT w _ Y) (nt w) (PySem.W.codeHd_of_K KI (hcd w)) G.T.bmain hobj hints (Nat.le_trans hlen hn2) hr hF hb
    (fun H hH hS => hsp (K w.params) H a ns hlen hH hS) fun H e s' => hCX H s₁ e s'
end KX

namespace KX
open PySem PySem.Spec PyProof.Rows L2
/-! lists or tuples walked -/
theorem PI.or {X : Cx} {tg l : Expr} {w1 w2 : TI} (h1 : PI X tg l w1) (h2 : PI X tg l w2) :
    PI X tg l (fun σ H R => w1 σ H R ∨ w2 σ H R) :=
  ⟨fun pins s σ H R I h => h.elim (h1.run pins s σ H R I) (h2.run pins s σ H R I)⟩
theorem CallR.or {X : Cx} {f : Value} {r1 r2 : List V → Hp → VK → Prop} (h1 : CallR X f r1) (h2 : CallR X f r2) :
    CallR X f (fun xs H Q => r1 xs H Q ∨ r2 xs H Q) :=
  fun pins s σ H xs us Q I r h => h.elim (h1 pins s σ H xs us Q I r) (h2 pins s σ H xs us Q I r)
/-! sorted of a tuple of ints -/
section
variable {prog : Program} {w : World} {A : Around} {s : Shared} {E : Value → Shared → Prop}
theorem collect_tup {l : Addr} {vs : List Value} {n : Nat} {dd : Option Addr} {sl : Array (Option Value)}
    {Q : List Value → Shared → Prop}
    (hl : s.heap.get? l = some ⟨.type "tuple", dd, .seq vs.toArray n, sl⟩) (hz : vs.length ≤ sizeLine)
    (h : Q vs { s with heap := ((s.heap.push (seqObj "list" #[] 0)).update
      s.heap.objs.size (Obj.mapSeq (· ++ vs.toArray))) }) :
    wpAny (model prog w) A (collect (.ref l)) Q E s := by
  unfold collect
  apply wpAny_bind
  apply wpAny_runValue
  refine codeAny_builtin
    entry_proto_collect' ?_
  show wpAny _ _ (do
    again (.builtin "list.__iadd__" ⟨[← newList [], .ref l], []⟩)) _ _ s
  apply wpAny_bind
  refine wpAny_newList
    (wpAny_pure ⟨Code.quiet_builtin _ (by decide +kernel), ?_⟩)
  refine codeAny_builtin
    entry_list_iadd' ?_
  show wpAny _ _
    (Builtin.List.listExtendWith (.ref s.heap.objs.size) (.ref l) (.ref s.heap.objs.size)) _ _
    { s with heap := s.heap.push (seqObj "list" #[] 0) }
  unfold Builtin.List.listExtendWith
  have hl' : (s.heap.push (seqObj "list" #[] 0)).get? l = some ⟨.type "tuple", dd, .seq vs.toArray n, sl⟩ :=
    Heap.get?_push_of_some _ hl
  apply wpAny_bind
  refine wpAny_typeOf (T := "tuple")
    ⟨_, hl', rfl⟩ ?_
  have ht : (Value.type "tuple" == Value.type "tuple") = true := by rfl
  rw [if_pos (by rw [ht]; simp)]
  apply wpAny_bind
  refine listItems_at hl' rfl ?_
  apply wpAny_bind
  have hn : (s.heap.push (seqObj "list" #[] 0)).get? s.heap.objs.size = some (seqObj "list" #[] 0) :=
    Heap.get?_push_size _ rfl
  refine listItems_at (xs := #[]) (n := 0) hn rfl ?_
  rw [if_neg (by simp)]
  apply wpAny_bind
  refine listUpdate_at (xs := #[]) (n := 0) hn rfl ?_ (Nat.zero_le _)
    (by
      show (#[] ++ vs.toArray).size ≤ sizeLine + 1
      simp only [Array.size_append, List.size_toArray, List.length_nil]
      omega)
  apply wpAny_pure
  show wpAny (model prog w) A (do
      match (← load s.heap.objs.size).data with
      | .seq xs _ => pure xs.toList
      | _ => unsupported "internal:collect") Q E
    { s with heap := ((s.heap.push (seqObj "list" #[] 0)).update
      s.heap.objs.size (Obj.mapSeq (· ++ vs.toArray))) }
  apply wpAny_bind
  refine wpAny_load (get?_update_seq hn _) ?_
  show wpAny _ _ (pure ((#[] : Array Value) ++ vs.toArray).toList) Q E _
  have e : ((#[] : Array Value) ++ vs.toArray).toList = vs := by simp
  rw [e]
  exact wpAny_pure h
theorem sorted_tup {l : Addr} {vs : List Value} {ns : List Int} {n : Nat} {dd : Option Addr} {sl : Array (Option Value)}
    {Q : Value → Shared → Prop}
    (hl : s.heap.get? l = some ⟨.type "tuple", dd, .seq vs.toArray n, sl⟩) (hI : IntsAre vs ns) (h64 : vs.length < 64)
    (h : ∀ (out : Array Value) (ns' : List Int), IntsAre out.toList ns' → ns'.Perm ns → ns'.Pairwise (· ≤ ·) →
      Q (.ref (s.heap.objs.size + 1)) { s with heap := sortedAll s.heap vs out }) :
    wpAny (model prog w) A (call (.builtin "sorted") [.ref l]) Q E s := by
  refine Calls.call_function_entry
    kind_sorted plain_sorted entry_sorted (args_sorted1 _) ?_
  unfold Builtin.«sorted»
  refine wpAny_bind (m := checkCount "sorted" 1 1 _)
    (wpAny_pure ?_)
  apply wpAny_bind
  refine collect_tup hl (Nat.le_of_lt (Nat.lt_trans h64 (by decide))) ?_
  apply wpAny_bind
  refine wpAny_newList ?_ (hsz := Nat.le_of_lt (Nat.lt_trans h64 (by decide)))
  have hs2 : ((s.heap.push (seqObj "list" #[] 0)).update s.heap.objs.size
      (Obj.mapSeq (· ++ vs.toArray))).objs.size = s.heap.objs.size + 1 := by
    rw [Heap.size_update]
    exact Heap.size_push ..
  have ho : (((s.heap.push (seqObj "list" #[] 0)).update s.heap.objs.size
      (Obj.mapSeq (· ++ vs.toArray))).push (seqObj "list" vs.toArray 0)).get? (s.heap.objs.size + 1) =
      some (seqObj "list" vs.toArray 0) := by
    rw [← hs2]
    exact Heap.get?_push_size _ rfl
  show wpAny _ _ _ _ _
    { s with heap := (((s.heap.push (seqObj "list" #[] 0)).update s.heap.objs.size
      (Obj.mapSeq (· ++ vs.toArray))).push (seqObj "list" vs.toArray 0)) }
  rw [hs2]
  apply wpAny_bind
  apply wpAny_holding
  refine wpAny_call_entry slot_list_sort ⟨_, ho, rfl⟩ entry_list_sort ?_ (args_list_sort _)
  refine list_sort_tree ho hI h64 fun out ns' a1 a2 a3 => ⟨_, rfl, ?_⟩
  exact wpAny_pure ⟨_, rfl, h out ns' a1 a2 a3⟩
end
def rSortT (K : PySem.W.Frag) : List V → Hp → VK → Prop := fun vs H Q =>
  ∃ (a : Addr) (ns : List Int), vs = [V.ref a] ∧ SqT K H a (ns.map V.int) ∧ ns.length < 64 ∧
    ∀ (ns' : List Int) (p : Addr), ns'.Perm ns → ns'.Pairwise (· ≤ ·) → H p = none →
      Q (.ref p) (upd H p (.lst (ns'.map V.int)))
theorem cr_sortT {X : Cx} : CallR X (.builtin "sorted") (rSortT X.K) := by
  intro pins s σ H vs us Q I r h
  obtain ⟨a, ns, rfl, hs, h64, q⟩ := h
  obtain ⟨its, rv, ⟨⟨cls, dd, data, sl⟩, ho, hc, n, hd⟩, _⟩ := I.tuple hs
  simp only at hc hd
  subst hc hd
  rw [Vals.ref1 r]
  have hi := rv.ints
  refine sorted_tup ho hi (by rw [hi.length]; exact h64) fun out ns' h1 h2 h3 => ?_
  obtain ⟨ep, he⟩ := sortedAll_at s.heap its out
  have hlen : (ns'.map V.int).length ≤ sizeLine := by
    rw [List.length_map, h2.length_eq]
    exact Nat.le_of_lt (Nat.lt_trans h64 (by decide))
  refine ⟨.ref _, upd H (s.heap.objs.size + 1) (.lst (ns'.map V.int)), ?_, rfl,
    q ns' _ h2 h3 (I.hok.fresh (Nat.le_succ _))⟩
  exact I.laid (t' := s.toks) (fun _ _ => sortedAll_old) (Nat.le_succ _)
    ⟨hlen, out.toList, ep, vals_of_ints h1, he⟩
/-! t.count(k) of a tuple of ints -/
def rCntT (K : PySem.W.Frag) : V → List V → Hp → VK → Prop := fun x xs H Q =>
  ∃ (p : Addr) (ns : List Int) (k : Int), x = .ref p ∧ xs = [.int k] ∧ SqT K H p (ns.map V.int) ∧
    Q (.int (ns.count k : Nat)) H
theorem mt_tcount {X : Cx} : MtR X "tuple.count" (rCntT X.K) := by
  intro pins s σ H x xs v us Q I rx rxs h
  obtain ⟨p, ns, k, rfl, rfl, hs, q⟩ := h
  cases rx
  obtain ⟨u, rfl, ru⟩ := rxs.one
  obtain ⟨t, rfl⟩ := ru
  obtain ⟨its, rv, ⟨⟨cls, dd, data, sl⟩, ho, hc, n, hd⟩, _⟩ := I.tuple hs
  simp only at hc hd
  subst hc hd
  have hi := ints_of_vals rv
  refine call_meets PySem.F.slot_tuple_count ⟨_, ho, rfl⟩ PySem.F.entry_tuple_count
    (PySem.F.args_tuple_count_2 _ _) (SeqAt.tuple_countAt p its.toArray n dd sl (.int k t) (eqk k)) ⟨ho, ?_, ?_⟩
  · exact fun y hy => (eqk_gives hi y (by simpa using hy)).at _ _
  · have ec : its.toArray.toList.countP (eqk k) = ns.count k := eqk_count hi
    refine ⟨.int (ns.count k : Nat), H, I.tok _, ⟨s.toks, ?_⟩, q⟩
    show Value.int ((its.toArray.toList.countP (eqk k) : Nat) : Int) s.toks = _
    rw [ec]
end KX

namespace KX
open PySem PySem.Spec PyProof.Rows L2
/-! a tuple, frozen or not -/
abbrev Tup (H : Hp) (a : Addr) (xs : List V) : Prop := Rd H a (.tup xs)
theorem Tup.of {H : Hp} {a : Addr} {xs : List V} (h : H a = some (.tup xs)) : Tup H a xs := Or.inl h
theorem Tup.sq {K : PySem.W.Frag} {H : Hp} {a : Addr} {xs : List V} (h : Tup H a xs) : SqT K H a xs := Or.inl h
theorem Tup.ty {K : PySem.W.Frag} {H : Hp} {a : Addr} {xs : List V} (h : Tup H a xs) : TyX K H (.ref a) (.type "tuple") := by
  rcases h with h | ⟨o, h⟩
  · exact .base (.tup h)
  · exact .fTuple h
theorem Tup.same {H H' : Hp} {a : Addr} {xs : List V} (h : Tup H a xs) (s : Same H H') : Tup H' a xs := by
  rcases h with h | ⟨o, h⟩
  · exact Or.inl (s _ _ h)
  · exact Or.inr ⟨o, s _ _ h⟩
/-- a tuple whose object is known: without a dict -/
def TupF (H : Hp) (a : Addr) (xs : List V) : Prop := ∃ o : Obj, H a = some (.frz o (.tup xs)) ∧ o.cls = .type "tuple" ∧ o.dict = none
theorem TupF.tup {H : Hp} {a : Addr} {xs : List V} (h : TupF H a xs) : Tup H a xs := by
  obtain ⟨o, h, _⟩ := h
  exact Or.inr ⟨o, h⟩
theorem TupF.same {H H' : Hp} {a : Addr} {xs : List V} (h : TupF H a xs) (s : Same H H') : TupF H' a xs := by
  obtain ⟨o, h, z⟩ := h
  exact ⟨o, s _ _ h, z⟩
section
variable {X : Cx}
/-- tuple(l), l a list: the new tuple's object is known -/
def kTupF (K : PySem.W.Frag) (x : V) (H : Hp) (Q : VK) : Prop := ∃ p xs, x = .ref p ∧ SqL K H p xs ∧
  ∀ q (o : Obj), H q = none → o.cls = .type "tuple" → o.dict = none → Q (.ref q) (upd H q (.frz o (.tup xs)))
theorem pe_tupleF {a : Expr} {ta : TE} {p pos : Pos} (hg : Gl X "tuple") (hm : X.mg "tuple" = none) (ha : PE X a ta)
    (na : starEach [a] X.env = (false, eval a X.env) :: starEach [] X.env := by rfl) :
    PE X (.Call (.Name "tuple" p) [a] [] pos) (tThen ta (kTupF X.K)) := by
  refine ⟨fun pins s σ H Q I h => Call_ (ld_blt I hg hm boot_tuple (PyProof.Rows.callWith_type1 (one_arg ha I h (fun v s2 x H2 I2 r q => ?_) na) na))⟩
  obtain ⟨l, xs, rfl, hs, hq⟩ := q
  obtain rfl : v = .ref l := r
  obtain ⟨its, rv, pl, hz⟩ := I2.list hs
  have hsz : its.toArray.size ≤ sizeLine := by
    rw [List.size_toArray, ← rv.length]
    exact hz
  refine call_tuple_list pl.isList (fun h' hk => ?_) hsz
  have J : Inv X pins σ H2 { s2 with heap := h' } := I2.kept (t' := s2.toks) hk
  have nq : H2 h'.objs.size = none := J.hok.fresh (Nat.le_refl _)
  refine ⟨.ref h'.objs.size, _, J.laid (t' := s2.toks) (fun b o e => Heap.get?_push_of_some _ e) (Nat.le_refl _) ?_, rfl,
    hq h'.objs.size { cls := .type "tuple", data := .seq its.toArray } nq rfl rfl⟩
  exact ⟨Heap.get?_push_size _ rfl, hz, its, rv, IsTup.new _ _⟩
/-- a method of such a tuple, called -/
def tBMF (r : V → List V → Hp → VK → Prop) (to : TE) (t : TA) : TE := fun σ H Q =>
  to σ H fun x H1 => (∃ a xs, x = .ref a ∧ TupF H1 a xs) ∧ t σ H1 fun ys H2 => r x ys H2 Q
theorem pe_bmF {o e : Expr} {to : TE} {t : TA} {name : Str} {apos cpos : Pos} {id : String} {r : V → List V → Hp → VK → Prop}
    (slot : Slot "tuple" name id) (hty : typeOf (.builtin id) = pure (.type "method_descriptor")) (hm : MtR X id r) (ho : PE X o to) (ha : PA X [e] t)
    (hbase : attributeBase o name X.env (eval o X.env) = eval o X.env := by rfl)
    (hfew : ((backTo cpos (starEach [e] X.env)).all (fun x => !x.1) && (backToKw cpos (keywordEach [] X.env)).all (fun x => x.1.isSome)
      && decide ([e].length + ([] : List Keyword).length + (if ([] : List Keyword).isEmpty then 0 else 1) < 30)) = true := by rfl)
    (hline : (apos.endLine == cpos.line) = true := by rfl)
    (hs : starEach [e] X.env = (false, eval e X.env) :: starEach [] X.env := by rfl) (hplain : (backTo cpos (starEach [] X.env)).any (·.1) = false := by rfl) :
    PE X (.Call (.Attribute o name apos) [e] [] cpos) (tBMF r to t) := by
  constructor
  intro pins s σ H Q I h
  refine wpAny_Call_method_late hbase hfew hline rfl (thn (ho.run pins s σ H _ I h) fun v s1 hh => ?_)
  obtain ⟨x, H1, I1, r1, ⟨a, xs, rfl, ob, hob, hc, hd⟩, q1⟩ := hh
  obtain rfl : v = .ref a := r1
  have hget : s1.heap.get? a = some ob := (I1.hok a _ hob).1
  refine ⟨"tuple", id, PySem.F.plainAttrs_tuple, slot, hty, ⟨ob, hget, hc⟩, fun b z => by cases z; exact ⟨ob, hget, hd⟩, ?_⟩
  have hA := ha.run cpos pins s1 σ H1 _ I1 q1
  rw [hs] at hA ⊢
  refine Calls.callWith_builtin (by
    show (false || (backTo cpos (starEach [] X.env)).any (·.1)) = false
    rw [hplain] <;> rfl) (Calls.evalArgs_plain ?_)
  refine thn hA fun us s2 hz => ?_
  obtain ⟨vs, H2, I2, r2, q2⟩ := hz
  exact hm pins s2 σ H2 (.ref a) vs (.ref a) us Q I2 rfl r2 q2
end
end KX

namespace KX
open PySem PySem.Spec PyProof.Rows L2
/-! t + u and t[lo:hi] of tuples, by what they hold -/
theorem Same.fresh {H : Hp} {a : Addr} {o : HO} (n : H a = none) : Same H (upd H a o) := fun b u h => by
  rw [upd_ne (fun z => by rw [z, n] at h; cases h)]
  exact h
def rCatW : R2 := fun x y H Q => ∃ a b xs ys, x = .ref a ∧ y = .ref b ∧ Tup H a xs ∧ Tup H b ys ∧ xs.length + ys.length ≤ sizeLine ∧
  ∀ H' p, Same H H' → Tup H' p (xs ++ ys) → Q (.ref p) H'
theorem op_catW {X : Cx} : OpR X (binaryOp .Add) rCatW := by
  intro pins s σ H x y v u Q I rx ry h
  obtain ⟨a, b, xs, ys, e1, e2, ha, hb, hz, q⟩ := h
  refine op_catA pins s σ H x y v u Q I rx ry ⟨a, b, xs, ys, e1, e2, ha.sq, hb.sq, hz, fun e => ?_, fun _ e => ?_, fun _ _ p hp => ?_⟩
  · subst e
    exact q H b (Same.refl H) hb
  · subst e
    exact q H a (Same.refl H) (by rw [List.append_nil]; exact ha)
  · exact q _ p (Same.fresh hp) (Tup.of upd_same)
def rSlW : V → Option Int → Option Int → Hp → VK → Prop := fun x lo hi H Q => ∃ a xs, x = .ref a ∧ Tup H a xs ∧
  ∀ H' p, Same H H' → Tup H' p (cutV xs lo hi) → Q (.ref p) H'
theorem sl_tupW {X : Cx} : SlR X rSlW := by
  intro pins s σ H x v vl vu lo hi sl Q I rx hs pl pu h
  obtain ⟨a, xs, e1, ha, q⟩ := h
  refine sl_tupA pins s σ H x v vl vu lo hi sl Q I rx hs pl pu ⟨a, xs, e1, ha.sq, fun e => ?_, fun _ p hp => q _ p (Same.fresh hp) (Tup.of upd_same)⟩
  refine q H a (Same.refl H) ?_
  have z : cutV xs lo hi = xs := by
    unfold cutV
    rw [e.1, e.2]
    simp
  rw [z]
  exact ha
theorem cut_take (xs : List V) {i : Int} (h0 : 0 ≤ i) (h1 : i ≤ xs.length) : cutV xs none (some i) = xs.take i.toNat := by
  obtain ⟨n, rfl⟩ := Int.eq_ofNat_of_zero_le h0
  unfold cutV
  rw [HT.sIx_none, HT.sIx_nat]
  have : min n xs.length = n := by omega
  rw [this]
  simp
theorem cut_drop (xs : List V) {i : Int} (h0 : 0 ≤ i) (h1 : i ≤ xs.length) : cutV xs (some i) none = xs.drop i.toNat := by
  obtain ⟨n, rfl⟩ := Int.eq_ofNat_of_zero_le h0
  unfold cutV
  rw [HT.sIx_none, HT.sIx_nat]
  have : min n xs.length = n := by omega
  rw [this]
  have e : (xs.drop n).take (xs.length - n) = xs.drop n := List.take_of_length_le (by simp)
  simpa using e
end KX

namespace K02
open PySem PySem.Spec PyProof.Rows L2 KX
def top (i : Nat) : Stmt :=
  PySem.Challenge.pw_handalong_k02_views_in_order.main.body.getD i (.Pass ⟨0, 0, 0, 0⟩)
theorem iteT' {A B : Prop} {c : Bool} (h : c = true) (a : A) : if c = true then A else B := by rw [if_pos h]; exact a
theorem iteF' {A B : Prop} {c : Bool} (h : c = false) (b : B) : if c = true then A else B := by rw [h]; exact iteF b
abbrev sDraw : Stmt := top 19
abbrev sAny : Stmt := top 20
abbrev sOf : Stmt := top 21
/-! ### the deal -/
structure DealAt (H : Hp) (p q : Addr) (ns : List Int) (b : Int) : Prop where
  hp : H p = some (.lst [.ref q, .int b])
  hq : H q = some (.lst (ns.map V.int))
  ne : p ≠ q
  nn : ∀ n ∈ ns, 0 ≤ n
  len : ns.length ≤ 48
  b0 : 0 ≤ b
  b1 : b < 2147483647
def Deal (H : Hp) (p q : Addr) : Prop := ∃ ns b, DealAt H p q ns b
/-- all but the deal's two lists stays -/
def Fix (p q : Addr) (H H' : Hp) : Prop := ∀ a o, a ≠ p → a ≠ q → H a = some o → H' a = some o
theorem Fix.refl (p q : Addr) (H : Hp) : Fix p q H H := fun _ _ _ _ h => h
theorem Fix.trans {p q : Addr} {H H1 H2 : Hp} (a : Fix p q H H1) (b : Fix p q H1 H2) : Fix p q H H2 := fun c o h1 h2 h => b c o h1 h2 (a c o h1 h2 h)
theorem Fix.same {p q : Addr} {H H' : Hp} (s : Same H H') : Fix p q H H' := fun c o _ _ h => s c o h
theorem Fix.new {p q a : Addr} {H : Hp} {o : HO} (n : H a = none) : Fix p q H (upd H a o) := fun c u _ _ h => by
  rw [upd_ne (fun z => by rw [z, n] at h; cases h)]; exact h
theorem Fix.p {p q : Addr} {H : Hp} {o : HO} : Fix p q H (upd H p o) := fun c u h1 _ h => by rw [upd_ne h1]; exact h
theorem Fix.q {p q : Addr} {H : Hp} {o : HO} : Fix p q H (upd H q o) := fun c u _ h2 h => by rw [upd_ne h2]; exact h
theorem DealAt.new {H : Hp} {p q a : Addr} {ns : List Int} {b : Int} {o : HO} (d : DealAt H p q ns b) (n : H a = none) : DealAt (upd H a o) p q ns b :=
  ⟨by rw [upd_ne (fun z => by have := d.hp; rw [z, n] at this; cases this)]; exact d.hp,
   by rw [upd_ne (fun z => by have := d.hq; rw [z, n] at this; cases this)]; exact d.hq, d.ne, d.nn, d.len, d.b0, d.b1⟩
theorem DealAt.toq {H : Hp} {p q : Addr} {ns ms : List Int} {b : Int} (d : DealAt H p q ns b) (hn : ∀ n ∈ ms, 0 ≤ n) (hl : ms.length ≤ 48) :
    DealAt (upd H q (.lst (ms.map V.int))) p q ms b :=
  ⟨by rw [upd_ne d.ne]; exact d.hp, upd_same, d.ne, hn, hl, d.b0, d.b1⟩
theorem DealAt.top {H : Hp} {p q : Addr} {ns : List Int} {b c : Int} (d : DealAt H p q ns b) (h0 : 0 ≤ c) (h1 : c < 2147483647) :
    DealAt (upd H p (.lst [.ref q, .int c])) p q ns c :=
  ⟨upd_same, by rw [upd_ne (Ne.symm d.ne)]; exact d.hq, d.ne, d.nn, d.len, h0, h1⟩
theorem Deal.same {H H' : Hp} {p q : Addr} (d : Deal H p q) (s : Same H H') : Deal H' p q := by
  obtain ⟨ns, b, d⟩ := d
  exact ⟨ns, b, s _ _ d.hp, s _ _ d.hq, d.ne, d.nn, d.len, d.b0, d.b1⟩
def spAny : Sp := fun vs H Q _ => ∃ (p q : Addr) (m : Int), vs = [.ref p, .int m] ∧ Deal H p q ∧ 0 < m ∧ m < 1073741824 ∧
  ∀ H' i, Deal H' p q → Fix p q H H' → 0 ≤ i → i < m → Q (.int i) H'
def spOf (K : PySem.W.Frag) : Sp := fun vs H Q _ => ∃ (p q a : Addr) (xs : List V), vs = [.ref p, .ref a] ∧ Deal H p q ∧ a ≠ p ∧ a ≠ q ∧ H a = some (.lst xs) ∧
  0 < xs.length ∧ xs.length < 1000 ∧ ∀ H' x, x ∈ xs → Deal H' p q → Fix p q H H' → Q x H'
theorem scDraw : FnScope ["script", "salt", "cells", "blend", "cell"] ["script", "salt"] (defScope sDraw) := ⟨rfl, rfl, rfl, by decide +kernel, rfl, by decide +kernel, by decide +kernel⟩
theorem scAny : FnScope ["deal", "bound", "rest"] ["deal", "bound"] (defScope sAny) := ⟨rfl, rfl, rfl, by decide +kernel, rfl, by decide +kernel, by decide +kernel⟩
theorem scOf : FnScope ["deal", "some"] ["deal", "some"] (defScope sOf) := ⟨rfl, rfl, rfl, by decide +kernel, rfl, by decide +kernel, by decide +kernel⟩
/-! data of a list of ints -/
theorem dpAll_ints (K : PySem.W.Frag) (H : Hp) : ∀ ns : List Int, DpAll K H (ns.map V.int) (ns.map PyData.int)
  | [] => .nil
  | n :: ns => .cons (.int n) (dpAll_ints K H ns)
theorem dp_ints {K : PySem.W.Frag} {H : Hp} {a : Addr} {ns : List Int} (h : H a = some (.lst (ns.map V.int))) : Dp K H (.ref a) (.list (ns.map PyData.int)) :=
  .lst (SqL.of h) (dpAll_ints K H ns)
theorem lay_ints : ∀ ns : List Int, PyData.canLayAll0 (ns.map PyData.int) = true
  | [] => rfl
  | n :: ns => by
    show (PyData.canLay0 (.int n) && PyData.canLayAll0 (ns.map PyData.int)) = true
    rw [lay_ints ns]; rfl
theorem dep_ints : ∀ ns : List Int, PyData.depthAll (ns.map PyData.int) ≤ 1
  | [] => by decide
  | n :: ns => by
    have h := dep_ints ns
    show max (PyData.depth (.int n)) (PyData.depthAll (ns.map PyData.int)) ≤ 1
    have h1 : PyData.depth (.int n) = 0 := rfl
    rw [h1]; omega
theorem sh_ints (ns : List Int) : SeqAt.shaped (.list (ns.map PyData.int)) = true := by
  have h := dep_ints ns
  have h1 : PyData.depth (.list (ns.map PyData.int)) = PyData.depthAll (ns.map PyData.int) + 1 := rfl
  unfold SeqAt.shaped
  have h2 : PyData.canLay0 (.list (ns.map PyData.int)) = PyData.canLayAll0 (ns.map PyData.int) := rfl
  rw [h2, lay_ints, h1, Bool.true_and]
  exact decide_eq_true (by omega)
theorem ne_nil_ints (ns : List Int) : PyData.eqv (.list (ns.map PyData.int)) (.list ([] : List PyData)) = decide (ns = []) := by
  cases ns <;> rfl
section
variable {P : Program} {w : World} {K : PySem.W.Frag} {mg : Str → Option Value} {base : Heap}
theorem ok_any {f : Addr} {fd : FuncData} (F : Fun K "_law_any" "_law_any" sAny f fd) (gi : mg "int" = none) : FnOk P w K mg base CX0 1 f fd ["deal", "bound"] spAny := by
  refine F.ok scAny (fun vs H Q E h => ?_) fun cdv A outer s H vs Q E hr h => ⟨_, 
    pss_cons (ps_while PassesOwn.never (PW.pt (pw_and (pt_cmpR (op_neD hr.units) (pe_ix ix_list (pv 0) pe_int (fun _ _ => rfl)) (pe_lst pa_nil) (nomark _))
        (pw_and1 (pt_cmpR op_eq (pe_ix ix_list (pe_ix ix_list (pv 0) pe_int (fun _ _ => rfl)) (pe_un un_neg pe_int) (fun _ _ => rfl)) pe_int (nomark _)))))
      (pss_one (ps_expr (pe_bm0 PySem.F.plainAttrs_list PySem.F.slot_list_pop PySem.F.type_list_pop mt_pop (pe_ix ix_list (pv 0) pe_int (fun _ _ => rfl))))))
    (pss_cons (ps_if (pt_cmpR (op_neD hr.units) (pe_ix ix_list (pv 0) pe_int (fun _ _ => rfl)) (pe_lst pa_nil) (nomark _))
      (pss_cons (ps_set (i := 2) scAny.nd rfl (.inl rfl) (pe_callTy call_int1 (by rfl) gi (by decide +kernel)
          (pa_cons (pe_bm0 PySem.F.plainAttrs_list PySem.F.slot_list_pop PySem.F.type_list_pop mt_pop (pe_ix ix_list (pv 0) pe_int (fun _ _ => rfl))) pa_nil)))
        (pss_cons (ps_expr (pe_bm PySem.F.plainAttrs_list PySem.F.slot_list_append PySem.F.type_list_append mt_append (pe_ix ix_list (pv 0) pe_int (fun _ _ => rfl))
            (pa_cons (pe_op op_fdiv (pv 2) (pv 1)) pa_nil)))
          (pss_one (ps_ret (pe_op op_mod (pv 2) (pv 1)))))) pss_nil)
    (pss_cons (ps_asg (pe_op op_mod (pe_callTy call_int1 (by rfl) gi (by decide +kernel) (pa_cons (pe_op op_add (pe_op op_mul (pe_ix ix_list (pv 0) pe_int (fun _ _ => rfl)) pe_int) pe_int) pa_nil)) pe_int)
        (pg_sub (pv 0) pe_int set_list))
    (pss_one (ps_ret (pe_op op_mod (pe_callTy call_int1 (by rfl) gi (by decide +kernel) (pa_cons (pe_op op_fdiv (pe_ix ix_list (pv 0) pe_int (fun _ _ => rfl)) pe_int) pa_nil)) (pv 1)))))), ?_⟩
  · obtain ⟨p, q, m, rfl, _⟩ := h
    rfl
  · obtain ⟨p, q, m, rfl, ⟨ns, b, d⟩, hm0, hm1, hQ⟩ := h
    refine ⟨fun n σ H' => σ = L2.start ["deal", "bound", "rest"] [.ref p, .int m] ∧ ∃ ns b, DealAt H' p q ns b ∧ Fix p q H H' ∧ n = ns.length, ⟨_, rfl, ns, b, d, Fix.refl _ _ _, rfl⟩, ?_⟩
    rintro n σ H' ⟨rfl, ns, b, d, fx, rfl⟩
    have d1 : ∀ e, H' e = none → DealAt (upd H' e (.lst [])) p q ns b := fun e he => d.new he
    have qe : ∀ e, H' e = none → q ≠ e := fun e he z => by have := d.hq; rw [z, he] at this; cases this
    refine ⟨.ref p, rfl, p, [.ref q, .int b], 0, .ref q, rfl, rfl, SqL.of d.hp, rfl, by show 0 ≤ sizeLine; decide, fun e he => ?_⟩
    refine ⟨_, _, dp_ints (d1 e he).hq, .lst (ds := []) (SqL.of upd_same) .nil, sh_ints ns, by decide, _, rfl, ?_⟩
    rw [ne_nil_ints]
    have fx1 : Fix p q H (upd H' e (.lst [])) := fx.trans (Fix.new he)
    have D1 := d1 e he
    generalize hG : upd H' e (.lst []) = H1 at D1 fx1
    clear hG d d1 qe he fx
    rcases List.eq_nil_or_concat ns with hn | ⟨init, l, hn⟩
    · subst hn
      refine iteF ?_
      refine ⟨.ref p, rfl, p, [.ref q, .int b], 0, .ref q, rfl, rfl, SqL.of D1.hp, rfl, by show 0 ≤ sizeLine; decide, fun e he => ?_⟩
      refine ⟨_, _, dp_ints (D1.new he).hq, .lst (ds := []) (SqL.of upd_same) .nil, sh_ints [], by decide, _, rfl, ?_⟩
      rw [ne_nil_ints]
      refine iteF ?_
      have D2 := D1.new (o := .lst []) he
      have fx2 : Fix p q H (upd H1 e (.lst [])) := fx1.trans (Fix.new he)
      generalize upd H1 e (.lst []) = H2 at D2 fx2
      have D3 := D2.top (c := (b * 40693 + 71) % 2147483647) (Int.emod_nonneg _ (by decide)) (Int.emod_lt_of_pos _ (by decide))
      have fx3 : Fix p q H (upd H2 p (.lst [.ref q, .int ((b * 40693 + 71) % 2147483647)])) := fx2.trans Fix.p
      refine ⟨.ref p, rfl, p, [.ref q, .int b], 1, .int b, rfl, rfl, SqL.of D2.hp, rfl, b, 40693, rfl, rfl, .inr ⟨by decide, by decide⟩, ?_⟩
      refine ⟨_, _, rfl, rfl, .inl ⟨_, rfl, _, _, rfl, rfl, (by decide : (0 : Int) < 2147483647), ?_⟩⟩
      refine ⟨.ref p, rfl, p, [.ref q, .int b], 1, 1, rfl, rfl, D2.hp, rfl, ?_⟩
      refine ⟨.ref p, rfl, p, [.ref q, .int _], 1, .int _, rfl, rfl, SqL.of D3.hp, rfl, _, 64, rfl, rfl, ⟨by decide, by decide⟩, .inl ⟨_, rfl, .int m, rfl, _, m, rfl, rfl, hm0, ?_⟩⟩
      exact hQ _ _ ⟨_, _, D3⟩ fx3 (Int.emod_nonneg _ (by omega)) (Int.emod_lt_of_pos _ hm0)
    · have hn : ns = init ++ [l] := by simpa using hn
      subst hn
      have nz : decide (init ++ [l] = ([] : List Int)) = false := by simp
      rw [nz]
      refine iteT ?_
      have hml : (init ++ [l]).map V.int = init.map V.int ++ [V.int l] := by simp
      have hpop : (init.map V.int ++ [V.int l])[(init.map V.int ++ [V.int l]).length - 1]? = some (V.int l) := by simp
      have hdl : (init.map V.int ++ [V.int l]).dropLast = init.map V.int := by simp
      have l0 : 0 ≤ l := D1.nn l (by simp)
      have len := D1.len
      have len' : init.length + 1 ≤ 48 := by simpa using len
      have hq := D1.hq
      rw [hml] at hq
      refine ⟨.ref p, rfl, p, [.ref q, .int b], 0, .ref q, rfl, rfl, SqL.of D1.hp, rfl, 1, rfl, q, _, -1, V.int l, rfl, rfl, SqL.of hq, atI_last _ _, rfl, _, rfl, ?_⟩
      by_cases hl : l = 0
      · have e1 : decide (V.int l = V.int 0) = true := by rw [hl]; decide
        refine iteT' e1 ?_
        refine ⟨fun σ' H'' => σ' = L2.start ["deal", "bound", "rest"] [.ref p, .int m] ∧ ∃ ns b, DealAt H'' p q ns b ∧ Fix p q H H'' ∧ ns.length = init.length, fun σ' H'' ⟨e, ns, b, h1, h2, h3⟩ => ⟨_, by simpa [h3] using Nat.lt_succ_self init.length, e, ns, b, h1, h2, rfl⟩, ?_⟩
        refine ⟨.ref p, rfl, p, [.ref q, .int b], 0, .ref q, rfl, rfl, SqL.of D1.hp, rfl, .inl ⟨rfl, _, SqL.of hq⟩, q, _, .int l, rfl, rfl, hq, hpop, ?_⟩
        rw [hdl]
        exact ⟨rfl, init, b, D1.toq (fun n hn => D1.nn n (by simp [hn])) (by omega), fx1.trans Fix.q, rfl⟩
      · have e1 : decide (V.int l = V.int 0) = false := by simpa using hl
        refine iteF' e1 ?_
        refine ⟨.ref p, rfl, p, [.ref q, .int b], 0, .ref q, rfl, rfl, SqL.of D1.hp, rfl, by show 0 ≤ sizeLine; decide, fun e he => ?_⟩
        have D2 := D1.new (o := .lst []) he
        refine ⟨_, _, dp_ints D2.hq, .lst (ds := []) (SqL.of upd_same) .nil, sh_ints _, by decide, _, rfl, ?_⟩
        rw [ne_nil_ints, nz]
        refine iteT ?_
        have fx2 : Fix p q H (upd H1 e (.lst [])) := fx1.trans (Fix.new he)
        generalize upd H1 e (.lst []) = H2 at D2 fx2
        have hq2 := D2.hq
        rw [hml] at hq2
        have D3 : DealAt (upd H2 q (.lst (init.map V.int))) p q init b := D2.toq (fun n hn => D1.nn n (by simp [hn])) (by omega)
        have D4 : DealAt (upd (upd H2 q (.lst (init.map V.int))) q (.lst ((init ++ [l / m]).map V.int))) p q (init ++ [l / m]) b := D3.toq (fun n hn => by
          rcases List.mem_append.mp hn with h | h
          · exact D1.nn n (by simp [h])
          · rw [List.mem_singleton.mp h]; exact Int.ediv_nonneg l0 (by omega)) (by simpa using len')
        refine ⟨.ref p, rfl, p, [.ref q, .int b], 0, .ref q, rfl, rfl, SqL.of D2.hp, rfl, .inl ⟨rfl, _, SqL.of hq2⟩, q, _, .int l, rfl, rfl, hq2, hpop, .inl ⟨l, rfl, ?_⟩⟩
        rw [hdl]
        refine ⟨.ref p, rfl, p, [.ref q, .int b], 0, .ref q, rfl, rfl, SqL.of D3.hp, rfl, .inl ⟨rfl, _, SqL.of upd_same⟩, .int l, rfl, .int m, rfl, l, m, rfl, rfl, ⟨hm0, hm1⟩, q, _, _, rfl, rfl, upd_same, ?_, ?_⟩
        · rw [List.length_map]; exact Nat.lt_of_lt_of_le (by omega : init.length < 48) (by decide)
        have ha : init.map V.int ++ [V.int (l / m)] = (init ++ [l / m]).map V.int := by simp
        rw [ha]
        refine ⟨.int l, rfl, .int m, rfl, l, m, rfl, rfl, hm0, ?_⟩
        exact hQ _ _ ⟨_, _, D4⟩ (fx2.trans (Fix.q.trans Fix.q)) (Int.emod_nonneg _ (by omega)) (Int.emod_lt_of_pos _ hm0)
theorem ok_of {f fA : Addr} {fd fdA : FuncData} (F : Fun K "_law_of" "_law_of" sOf f fd) (FA : Fun K "_law_any" "_law_any" sAny fA fdA) (gA : mg "_law_any" = some (.ref fA))
    (gi : mg "int" = none) (gl : mg "len" = none) : FnOk P w K mg base CX0 2 f fd ["deal", "some"] (spOf K) := by
  refine F.ok scOf (fun vs H Q E h => ?_) fun cdv A outer s H vs Q E hr h => ⟨_, pss_one (ps_ret (pe_ix ix_list (pv 1)
    (pe_call (ok_any FA gi) hr (by rfl) gA FA.kp (FA.binds fun _ _ _ _ _ _ us hl => match us, hl with | [_, _], _ => rfl) .nil pass0 (pa_cons (pv 0) (pa_cons (pe_callB call_len_seq (by rfl) gl (by decide +kernel) (by exact pa_cons (pv 1) pa_nil)) pa_nil))) (fun _ _ => rfl))), ?_⟩
  · obtain ⟨p, q, a, xs, rfl, _⟩ := h
    rfl
  · obtain ⟨p, q, a, xs, rfl, d, n1, n2, ha, h0, h1, hQ⟩ := h
    refine ⟨.ref a, rfl, .ref p, rfl, .ref a, rfl, a, xs, rfl, Or.inl (SqL.of ha), p, q, _, rfl, d, by omega, by omega, fun H' i d' fx i0 i1 => ?_⟩
    obtain ⟨n, rfl⟩ := Int.eq_ofNat_of_zero_le i0
    have hn : n < xs.length := by omega
    exact ⟨a, xs, n, xs[n], rfl, rfl, SqL.of (fx a _ n1 n2 ha), atI_nat (List.getElem?_eq_getElem hn), hQ H' _ (List.getElem_mem hn) d' fx⟩
end

def spDraw (K : PySem.W.Frag) : Sp := fun vs H Q _ => ∃ (a : Addr) (ns : List Int) (t : Int), vs = [.ref a, .int t] ∧ SqL K H a (ns.map V.int) ∧ 0 ≤ t ∧ t < 10000 ∧
  ∀ H' p q, Same H H' → H p = none → H q = none → Deal H' p q → Q (.ref p) H'
theorem cut48 (ns : List Int) : ∃ ms : List Int, cutV (ns.map V.int) none (some 48) = ms.map V.int ∧ ms.length ≤ 48 := by
  refine ⟨(ns.drop 0).take (HT.sIx ns.length ns.length (some 48) - 0), ?_, ?_⟩
  · unfold cutV
    rw [List.length_map, HT.sIx_none, List.map_take, List.map_drop]
  · rw [List.length_take]
    have : HT.sIx ns.length ns.length (some ((48 : Nat) : Int)) = min 48 ns.length := HT.sIx_nat _ _ 48
    have h2 : (some ((48 : Nat) : Int) : Option Int) = some 48 := rfl
    rw [h2] at this
    rw [this]
    omega
theorem Same.new {H : Hp} {a : Addr} {o : HO} (n : H a = none) : Same H (upd H a o) := fun b u h => by
  rw [upd_ne (fun z => by rw [z, n] at h; cases h)]; exact h
section
variable {P : Program} {w : World} {K : PySem.W.Frag} {mg : Str → Option Value} {base : Heap}
theorem ok_draw {f : Addr} {fd : FuncData} (F : Fun K "_law_draw" "_law_draw" sDraw f fd) (gi : mg "int" = none) (gab : mg "abs" = none) :
    FnOk P w K mg base CX0 1 f fd ["script", "salt"] (spDraw K) := by
  refine F.ok scDraw (fun vs H Q E h => ?_) fun cdv A outer s H vs Q E hr h => ⟨_,
    pss_cons (ps_setLc (i := 2) (own := [("cell", 4)]) (g := gName 4) (tt := tYes) rfl scDraw.nd rfl rfl (sw_true rfl rfl rfl (by decide +kernel)) (pi_list (pe_slice sl_list (pv 0) po_none (po_some pe_int)))
        (blkOk_by (N := ["script", "salt", "cells", "blend", "cell"]) (sc := defScope sDraw) (by decide +kernel)) (fun _ _ _ _ _ => pg_name (i := 4) scDraw.nd rfl (Or.inl rfl)) (fun _ _ _ _ _ => pts_nil)
        (fun _ _ _ _ _ => pe_callB call_abs (by rfl) gab (by decide +kernel) (pa_cons (pe_callTy call_int1 (by rfl) gi (by decide +kernel) (pa_cons (pv 4) pa_nil)) pa_nil)))
    (pss_cons (ps_set (i := 3) scDraw.nd rfl (.inl rfl) (pe_op op_add pe_int (pe_op op_mul pe_int (pv 1))))
    (pss_cons (ps_for PassesOwn.never rfl (pi_list (pv 2)) (pg_name (i := 4) scDraw.nd rfl (Or.inl rfl))
      (pss_one (ps_set (i := 3) scDraw.nd rfl (.inl rfl) (pe_op op_mod (pe_callTy call_int1 (by rfl) gi (by decide +kernel)
        (pa_cons (pe_op op_add (pe_op op_add (pe_op op_mul (pv 3) pe_int) (pe_op op_mod (pv 4) pe_int)) pe_int) pa_nil)) pe_int))))
    (pss_one (ps_ret (pe_lst (pa_cons (pe_revL (pe_lc (own := [("cell", 4)]) (g := gName 4) (by rfl) scDraw.nd (pi_list (pv 2))
        (blkOk_by (own := [("cell", 4)]) (N := ["script", "salt", "cells", "blend", "cell"]) (sc := defScope sDraw) (by decide +kernel)) (fun _ _ _ _ _ => pg_name (i := 4) scDraw.nd rfl (Or.inl rfl))
        (fun _ _ _ _ _ => pts_one (pt_cmpR op_ge (pv 4) (pe_op op_pow pe_int pe_int) (nomark _))) (fun _ _ _ _ _ => pv 4))) (pa_cons (pv 3) pa_nil))))))), ?_⟩
  · obtain ⟨a, ns, t, rfl, _⟩ := h
    rfl
  · obtain ⟨a, ns, t, rfl, ha, t0, t1, hQ⟩ := h
    obtain ⟨ms, hms, hlen⟩ := cut48 ns
    refine ⟨.ref a, rfl, 48, rfl, a, _, rfl, ha, fun c hc => ?_⟩
    rw [hms]
    have S1 : Same H (upd H c (.lst (ms.map V.int))) := Same.new hc
    have h1 : upd H c (.lst (ms.map V.int)) c = some (.lst (ms.map V.int)) := upd_same
    generalize upd H c (.lst (ms.map V.int)) = H1 at S1 h1
    refine ⟨c, rfl, ⟨_, SqL.of h1⟩, fun D hD => ?_⟩
    refine lc_list (xs := ms.map V.int) (fun i H' => Same H1 H' ∧ ∃ cs : List Int, H' D = some (.lst (cs.map V.int)) ∧ cs.length = i ∧ ∀ n ∈ cs, 0 ≤ n)
      ⟨Same.new hD, [], upd_same, rfl, by simp⟩ (fun i H' _ p => SqL.of (p.1 _ _ h1)) (fun i x H' hi p => ?_) (fun H' p => ?_)
    · obtain ⟨s1, cs, hc1, hl, h0⟩ := p
      have hi' := (List.getElem?_eq_some_iff.mp hi).1
      rw [List.length_map] at hi'
      rw [List.getElem?_map] at hi
      obtain ⟨n, _, rfl⟩ := Option.map_eq_some_iff.mp hi
      refine ⟨rfl, .int n, rfl, .inl ⟨n, rfl, n, rfl, cs.map V.int, hc1, ?_, ?_, cs ++ [if n < 0 then -n else n], ?_, ?_, ?_⟩⟩
      · rw [List.length_map]; exact Nat.lt_of_lt_of_le (by omega : cs.length < 48) (by decide)
      · exact fun b o h => by
          rw [upd_ne (fun z => ?_)]
          · exact s1 b o h
          · rw [z, hD] at h; cases h
      · rw [upd_same]; simp
      · simp [hl]
      · intro k hk
        rcases List.mem_append.mp hk with hk | hk
        · exact h0 k hk
        · rw [List.mem_singleton.mp hk]; split <;> omega
    · obtain ⟨s1, cs, hc1, hl, h0⟩ := p
      have hl : cs.length ≤ 48 := by rw [hl, List.length_map]; exact hlen
      have S2 := S1.trans s1
      have hDn : H D = none := S1.free hD
      refine ⟨.int t, rfl, 104729, t, rfl, rfl, .inl ⟨by decide, by decide⟩, 7919, _, rfl, rfl, ?_⟩
      refine ⟨.ref D, rfl, D, rfl, ⟨_, SqL.of hc1⟩, for_list (xs := cs.map V.int) (fun i σ H'' => H'' = H' ∧ ∃ b o, σ = [some (.ref a), some (.int t), some (.ref D), some (.int b), o] ∧ 0 ≤ b ∧ b < 2147483647)
        ⟨rfl, 7919 + 104729 * t, _, rfl, by omega, by omega⟩ (fun i σ H'' _ p => by rw [p.1]; exact SqL.of hc1) (fun i x σ H'' hi p => ?_) (fun σ H'' p => ?_)⟩
      · obtain ⟨rfl, b, o, rfl, b0, b1⟩ := p
        rw [List.getElem?_map] at hi
        obtain ⟨n, _, rfl⟩ := Option.map_eq_some_iff.mp hi
        refine ⟨.int b, rfl, b, 48271, rfl, rfl, .inr ⟨by decide, by decide⟩, .int n, rfl, n, 2147483549, rfl, rfl, (by decide : (0 : Int) < 2147483549), _, _, rfl, rfl, _, 11, rfl, rfl, .inl ⟨_, rfl, _, 2147483647, rfl, rfl, (by decide : (0 : Int) < 2147483647), ?_⟩⟩
        exact ⟨rfl, _, _, rfl, Int.emod_nonneg _ (by decide), Int.emod_lt_of_pos _ (by decide)⟩
      · obtain ⟨rfl, b, o, rfl, b0, b1⟩ := p
        refine ⟨.ref D, rfl, D, rfl, ⟨_, SqL.of hc1⟩, fun D2 hD2 => ?_⟩
        refine lc_list (xs := cs.map V.int) (fun i H2 => Same H'' H2 ∧ ∃ es : List Int, H2 D2 = some (.lst (es.map V.int)) ∧ es.length ≤ i ∧ ∀ n ∈ es, 0 ≤ n)
          ⟨Same.new hD2, [], upd_same, Nat.le_refl _, by simp⟩ (fun i H2 _ p => SqL.of (p.1 _ _ hc1)) (fun i x H2 hi p => ?_) (fun H2 p => ?_)
        · obtain ⟨s1, es, he1, hl, h0'⟩ := p
          have hi' := (List.getElem?_eq_some_iff.mp hi).1
          rw [List.length_map] at hi'
          rw [List.getElem?_map] at hi
          obtain ⟨n, hn, rfl⟩ := Option.map_eq_some_iff.mp hi
          have hmem := List.mem_of_getElem? hn
          refine ⟨rfl, .int n, rfl, 10, 18, rfl, rfl, ⟨by decide, by decide, by decide⟩, n, _, rfl, rfl, _, rfl, ?_⟩
          by_cases hb : decide ((10 : Int) ^ (18 : Int).toNat ≤ n) = true
          · refine iteT' hb ⟨.int n, rfl, es.map V.int, he1, ?_, ?_, es ++ [n], ?_, ?_, ?_⟩
            · rw [List.length_map]; exact Nat.lt_of_lt_of_le (by omega : es.length < 48) (by decide)
            · exact fun b o h => by
                rw [upd_ne (fun z => ?_)]
                · exact s1 b o h
                · rw [z, hD2] at h; cases h
            · rw [upd_same]; simp
            · simp; omega
            · intro k hk
              rcases List.mem_append.mp hk with hk | hk
              · exact h0' k hk
              · rw [List.mem_singleton.mp hk]; exact h0 n hmem
          · exact iteF' (by simpa using hb) ⟨s1, es, he1, by omega, h0'⟩
        · obtain ⟨s1, es, he1, hl2, h0'⟩ := p
          rw [List.length_map] at hl2
          refine ⟨D2, _, rfl, SqL.of he1, fun q hq => ?_⟩
          refine ⟨.int b, rfl, by show 2 ≤ sizeLine; decide, fun p hp => ?_⟩
          have S3 := (S2.trans s1).trans (Same.new (o := .lst (es.map V.int).reverse) hq)
          have hqp : p ≠ q := fun z => by rw [z, upd_same] at hp; cases hp
          refine hQ _ p q (S3.trans (Same.new hp)) ((S3).free hp) ((S2.trans s1).free hq) ⟨es.reverse, b, upd_same, ?_, hqp, fun n hn => h0' n (by simpa using hn), by simp; omega, b0, b1⟩
          rw [upd_ne (Ne.symm hqp), upd_same, List.map_reverse]
end
end K02

namespace K02
open PySem PySem.Spec PyProof.Rows L2 KX
abbrev sIsInt : Stmt := top 1
abbrev sIsNum : Stmt := top 2
abbrev sIsBelow : Stmt := top 3
abbrev sIsSeq : Stmt := top 4
abbrev sIsTup : Stmt := top 5
abbrev sIsMode : Stmt := top 12
abbrev sAreNb : Stmt := top 13
abbrev sIsView : Stmt := top 14
abbrev sMadeView : Stmt := top 15
/-! ### classes of values -/
theorem tyx_same {K : PySem.W.Frag} {H H' : Hp} {x : V} {t : Value} (h : TyX K H x t) (s : Same H H') : TyX K H' x t := by
  cases h with
  | base h =>
    refine .base ?_
    cases h with
    | lst e => exact .lst (s _ _ e)
    | frz e => exact .frz (s _ _ e)
    | tup e => exact .tup (s _ _ e)
    | dK e => exact .dK (s _ _ e)
    | dT e => exact .dT (s _ _ e)
    | ins e a b c d f => exact .ins (s _ _ e) a b c d f
    | _ => constructor
  | byt b => exact .byt b
  | set e => exact .set (s _ _ e)
  | kList e c => exact .kList e c
  | kTuple e c => exact .kTuple e c
  | kDict e c => exact .kDict e c
  | fTuple e => exact .fTuple (s _ _ e)
  | fDict e => exact .fDict (s _ _ e)
theorem kin_same {K : PySem.W.Frag} {H H' : Hp} {x : V} {o : Option Int} (h : Kin K H x o) (s : Same H H') : Kin K H' x o := by
  cases h with
  | int i => exact .int i
  | oth t h1 h2 h3 => exact .oth (tyx_same t s) h1 h2 h3
theorem kins_same {K : PySem.W.Frag} {H H' : Hp} {xs : List V} {os : List (Option Int)} (h : Paired (Kin K H) xs os) (s : Same H H') : Paired (Kin K H') xs os := by
  induction h with
  | nil => exact .nil
  | cons a _ ih => exact .cons (kin_same a s) ih
inductive SqX (K : PySem.W.Frag) (H : Hp) : V → Option (List V) → Prop
  | lst {a : Addr} {xs : List V} (h : H a = some (.lst xs)) : SqX K H (.ref a) (some xs)
  | tup {a : Addr} {xs : List V} (h : Tup H a xs) : SqX K H (.ref a) (some xs)
  | oth {x : V} {n : String} (t : TyX K H x (.type n)) (h1 : kitB n "list" = some false) (h2 : kitB n "tuple" = some false) : SqX K H x none
theorem sqx_same {K : PySem.W.Frag} {H H' : Hp} {x : V} {o : Option (List V)} (h : SqX K H x o) (s : Same H H') : SqX K H' x o := by
  cases h with
  | lst h => exact .lst (s _ _ h)
  | tup h => exact .tup (h.same s)
  | oth t h1 h2 => exact .oth (tyx_same t s) h1 h2
theorem SqX.ty {K : PySem.W.Frag} {H : Hp} {x : V} {o : Option (List V)} (h : SqX K H x o) : ∃ n b1 b2, TyX K H x (.type n) ∧ kitB n "list" = some b1 ∧ kitB n "tuple" = some b2 ∧ (b1 || b2) = o.isSome := by
  cases h with
  | lst h => exact ⟨"list", true, false, .base (.lst h), by decide +kernel, by decide +kernel, rfl⟩
  | tup h => exact ⟨"tuple", false, true, h.ty, by decide +kernel, by decide +kernel, rfl⟩
  | oth t h1 h2 => exact ⟨_, _, _, t, h1, h2, rfl⟩
theorem kit_any {K : PySem.W.Frag} {n : String} {b1 b2 : Bool} (h1 : kitB n "list" = some b1) (h2 : kitB n "tuple" = some b2) :
    PySem.W.kitAny K (.type n) [.type "list", .type "tuple"] = some (b1 || b2) := by
  have k1 : PySem.W.kitOne K (.type n) (.type "list") = some b1 := kit_ty h1
  have k2 : PySem.W.kitOne K (.type n) (.type "tuple") = some b2 := kit_ty h2
  unfold PySem.W.kitAny
  rw [k1]
  cases b1 with
  | true => rfl
  | false =>
    show PySem.W.kitAny K (.type n) [.type "tuple"] = some b2
    unfold PySem.W.kitAny
    rw [k2]
    cases b2 <;> rfl
def numB : Option Int → Bool
  | some i => decide (0 ≤ i)
  | none => false
def belB (o : Option Int) (n : Int) : Bool := match o with
  | some i => decide (0 ≤ i) && decide (i < n)
  | none => false
abbrev bel4 (o : Option Int) : Bool := belB o 4
/-! ### what the defs do -/
def spIsInt (K : PySem.W.Frag) : Sp := fun vs H Q _ => ∃ x o, vs = [x] ∧ Kin K H x o ∧ Q (.bl o.isSome) H
def spNum (K : PySem.W.Frag) : Sp := fun vs H Q _ => ∃ x o, vs = [x] ∧ Kin K H x o ∧ Q (.bl (numB o)) H
def spBelow (K : PySem.W.Frag) : Sp := fun vs H Q _ => ∃ x o, ∃ n : Int, vs = [x, .int n] ∧ Kin K H x o ∧ Q (.bl (belB o n)) H
def spMode (K : PySem.W.Frag) : Sp := fun vs H Q _ => ∃ x o, vs = [x] ∧ Kin K H x o ∧ Q (.bl (bel4 o)) H
def spSeq (K : PySem.W.Frag) : Sp := fun vs H Q _ => ∃ x o, vs = [x] ∧ SqX K H x o ∧ ∀ H', Same H H' → Q (.bl o.isSome) H'
def spIsTup (K : PySem.W.Frag) : Sp := fun vs H Q _ => ∃ (x : V) (k : Int) (n : String) (b : Bool), vs = [x, .int k] ∧
  TyX K H x (.type n) ∧ kitB n "tuple" = some b ∧
  (if b = true then ∃ a xs, x = .ref a ∧ Tup H a xs ∧ Q (.bl (decide (V.int (xs.length : Int) = V.int k))) H else Q (.bl false) H)
theorem scInt : FnScope ["value"] ["value"] (defScope sIsInt) := ⟨rfl, rfl, rfl, by decide +kernel, rfl, by decide +kernel, by decide +kernel⟩
theorem scNum : FnScope ["value"] ["value"] (defScope sIsNum) := ⟨rfl, rfl, rfl, by decide +kernel, rfl, by decide +kernel, by decide +kernel⟩
theorem scBelow : FnScope ["value", "limit"] ["value", "limit"] (defScope sIsBelow) := ⟨rfl, rfl, rfl, by decide +kernel, rfl, by decide +kernel, by decide +kernel⟩
theorem scSeq : FnScope ["value"] ["value"] (defScope sIsSeq) := ⟨rfl, rfl, rfl, by decide +kernel, rfl, by decide +kernel, by decide +kernel⟩
theorem scTup : FnScope ["value", "length"] ["value", "length"] (defScope sIsTup) := ⟨rfl, rfl, rfl, by decide +kernel, rfl, by decide +kernel, by decide +kernel⟩
theorem scMode : FnScope ["value"] ["value"] (defScope sIsMode) := ⟨rfl, rfl, rfl, by decide +kernel, rfl, by decide +kernel, by decide +kernel⟩
theorem scNb : FnScope ["value", "mode"] ["value"] (defScope sAreNb) := ⟨rfl, rfl, rfl, by decide +kernel, rfl, by decide +kernel, by decide +kernel⟩
theorem scView : FnScope ["value", "mode", "neighbours"] ["value"] (defScope sIsView) := ⟨rfl, rfl, rfl, by decide +kernel, rfl, by decide +kernel, by decide +kernel⟩
theorem scMade : FnScope ["mode", "neighbours"] ["mode", "neighbours"] (defScope sMadeView) := ⟨rfl, rfl, rfl, by decide +kernel, rfl, by decide +kernel, by decide +kernel⟩
section
variable {P : Program} {w : World} {K : PySem.W.Frag} {mg : Str → Option Value} {base : Heap} {f1 f2 f3 : Addr} {d1 d2 d3 : FuncData} {f : Addr} {fd : FuncData}
theorem ok_int (F : Fun K "is_integer" "is_integer" sIsInt f fd) (gI : mg "isinstance" = none)
    (gi : mg "int" = none) (gb : mg "bool" = none) : FnOk P w K mg base CX0 1 f fd ["value"] (spIsInt K) := by
  refine F.ok scInt (fun vs H Q E h => ?_) fun cdv A outer s H vs Q E hr h => ⟨_, pss_one (ps_ret (pe_and
      (pe_callB call_isi (by rfl) gI (by decide +kernel) (by exact pa_cons (pv 0) (pa_cons (pe_bltn (v := .ty "int") rfl gi (by decide +kernel) rfl) pa_nil)))
      (pe_one (pe_not (pe_callB call_isi (by rfl) gI (by decide +kernel)
        (by exact pa_cons (pv 0) (pa_cons (pe_bltn (v := .ty "bool") rfl gb (by decide +kernel) rfl) pa_nil))))))), ?_⟩
  · obtain ⟨x, o, rfl, _⟩ := h
    rfl
  · obtain ⟨x, o, rfl, hk, hQ⟩ := h
    obtain ⟨n, b1, b2, ty, k1, k2, e⟩ := hk.ty
    refine ⟨_, rfl, x, .ty "int", _, _, b1, rfl, .ty "int", ty, kit_ty k1, b1, rfl, ?_⟩
    rw [← e] at hQ
    cases b1 with
    | false => exact iteF hQ
    | true => exact iteT ⟨_, rfl, x, .ty "bool", _, _, b2, rfl, .ty "bool", ty, kit_ty k2, b2, rfl, hQ⟩
theorem ok_num (F : Fun K "is_number" "is_number" sIsNum f fd) (F1 : Fun K "is_integer" "is_integer" sIsInt f1 d1) (G1 : FnOk P w K mg base CX0 1 f1 d1 ["value"] (spIsInt K))
    (g1 : mg "is_integer" = some (.ref f1)) : FnOk P w K mg base CX0 2 f fd ["value"] (spNum K) := by
  refine F.ok scNum (fun vs H Q E h => ?_) fun cdv A outer s H vs Q E hr h => ⟨_, pss_one (ps_ret (pe_and
      (pe_call G1 hr (by rfl) g1 F1.kp (F1.binds fun _ _ _ _ _ _ us hl => match us, hl with | [_], _ => rfl) .nil pass0 (by exact pa_cons (pv 0) pa_nil))
      (pe_one (pe_cmpR op_ge (pv 0) pe_int (nomark _))))), ?_⟩
  · obtain ⟨x, o, rfl, _⟩ := h
    rfl
  · obtain ⟨x, o, rfl, hk, hQ⟩ := h
    refine ⟨x, rfl, x, o, rfl, hk, o.isSome, rfl, ?_⟩
    cases hk with
    | int i => exact iteT ⟨.int i, rfl, i, 0, rfl, rfl, hQ⟩
    | oth t h1 h2 h3 => exact iteF hQ
theorem ok_below (F : Fun K "is_below" "is_below" sIsBelow f fd) (F1 : Fun K "is_number" "is_number" sIsNum f1 d1) (G1 : FnOk P w K mg base CX0 2 f1 d1 ["value"] (spNum K))
    (g1 : mg "is_number" = some (.ref f1)) : FnOk P w K mg base CX0 3 f fd ["value", "limit"] (spBelow K) := by
  refine F.ok scBelow (fun vs H Q E h => ?_) fun cdv A outer s H vs Q E hr h => ⟨_, pss_one (ps_ret (pe_and
      (pe_call G1 hr (by rfl) g1 F1.kp (F1.binds fun _ _ _ _ _ _ us hl => match us, hl with | [_], _ => rfl) .nil pass0 (by exact pa_cons (pv 0) pa_nil))
      (pe_one (pe_cmpR op_lt (pv 0) (pv 1) (nomark _))))), ?_⟩
  · obtain ⟨x, o, n, rfl, _⟩ := h
    rfl
  · obtain ⟨x, o, n, rfl, hk, hQ⟩ := h
    refine ⟨x, rfl, x, o, rfl, hk, numB o, rfl, ?_⟩
    cases hk with
    | int i =>
      have e : belB (some i) n = (decide (0 ≤ i) && decide (i < n)) := rfl
      rw [e] at hQ
      by_cases h0 : 0 ≤ i
      · rw [decide_eq_true h0, Bool.true_and] at hQ
        exact iteT' (decide_eq_true h0) ⟨.int i, rfl, .int n, rfl, i, n, rfl, rfl, hQ⟩
      · rw [decide_eq_false h0, Bool.false_and] at hQ
        exact iteF' (decide_eq_false h0) hQ
    | oth t h1 h2 h3 => exact iteF hQ
theorem ok_mode (F : Fun K "is_mode" "is_mode" sIsMode f fd) (F1 : Fun K "is_below" "is_below" sIsBelow f1 d1) (G1 : FnOk P w K mg base CX0 3 f1 d1 ["value", "limit"] (spBelow K))
    (g1 : mg "is_below" = some (.ref f1)) {t : Tok} (gm : mg "MOST_MODES" = some (.int 4 t)) : FnOk P w K mg base CX0 4 f fd ["value"] (spMode K) := by
  refine F.ok scMode (fun vs H Q E h => ?_) fun cdv A outer s H vs Q E hr h => ⟨_, pss_one (ps_ret
      (pe_call G1 hr (by rfl) g1 F1.kp (F1.binds fun _ _ _ _ _ _ us hl => match us, hl with | [_, _], _ => rfl) .nil pass0 (by exact pa_cons (pv 0) (pa_cons (pe_glob (v := .int 4) rfl gm ⟨_, rfl⟩) pa_nil)))), ?_⟩
  · obtain ⟨x, o, rfl, _⟩ := h
    rfl
  · obtain ⟨x, o, rfl, hk, hQ⟩ := h
    exact ⟨x, rfl, x, o, 4, rfl, hk, hQ⟩
theorem ok_seq (F : Fun K "is_sequence" "is_sequence" sIsSeq f fd) (gI : mg "isinstance" = none) (gl : mg "list" = none) (gt : mg "tuple" = none) :
    FnOk P w K mg base CX0 1 f fd ["value"] (spSeq K) := by
  refine F.ok scSeq (fun vs H Q E h => ?_) fun cdv A outer s H vs Q E hr h => ⟨_, pss_one (ps_ret
      (pe_callB call_isiT (by rfl) gI (by decide +kernel) (by exact pa_cons (pv 0) (pa_cons (pe_tup (pa_cons (pe_bltn (v := .ty "list") rfl gl (by decide +kernel) rfl)
        (pa_cons (pe_bltn (v := .ty "tuple") rfl gt (by decide +kernel) rfl) pa_nil))) pa_nil)))), ?_⟩
  · obtain ⟨x, o, rfl, _⟩ := h
    rfl
  · obtain ⟨x, o, rfl, hk, hQ⟩ := h
    refine ⟨x, rfl, by show 2 ≤ sizeLine; decide, fun p hp => ?_⟩
    have S : Same H (upd H p (.tup [.ty "list", .ty "tuple"])) := Same.new hp
    obtain ⟨n, b1, b2, ty, k1, k2, e⟩ := (sqx_same hk S).ty
    refine ⟨x, p, _, _, [.type "list", .type "tuple"], b1 || b2, rfl, upd_same, .cons (.ty "list") (.cons (.ty "tuple") .nil), ty, kit_any k1 k2, ?_⟩
    rw [e]
    exact hQ _ S
theorem ok_tup (F : Fun K "is_tuple_of" "is_tuple_of" sIsTup f fd) (gI : mg "isinstance" = none)
    (gt : mg "tuple" = none) (gl : mg "len" = none) : FnOk P w K mg base CX0 1 f fd ["value", "length"] (spIsTup K) := by
  refine F.ok scTup (fun vs H Q E h => ?_) fun cdv A outer s H vs Q E hr h => ⟨_, pss_one (ps_ret (pe_and
      (pe_callB call_isi (by rfl) gI (by decide +kernel) (by exact pa_cons (pv 0) (pa_cons (pe_bltn (v := .ty "tuple") rfl gt (by decide +kernel) rfl) pa_nil)))
      (pe_one (pe_cmpR op_eq (pe_callB call_len_seq (by rfl) gl (by decide +kernel) (by exact pa_cons (pv 0) pa_nil)) (pv 1) (nomark _))))), ?_⟩
  · obtain ⟨x, k, n, b, rfl, _⟩ := h
    rfl
  · obtain ⟨x, k, n, b, rfl, ty, k1, hQ⟩ := h
    refine ⟨_, rfl, x, .ty "tuple", _, _, b, rfl, .ty "tuple", ty, kit_ty k1, b, rfl, ?_⟩
    cases b with
    | false => exact iteF hQ
    | true =>
      obtain ⟨a, xs, rfl, ha, q⟩ := hQ
      exact iteT ⟨_, rfl, a, xs, rfl, Or.inr ha.sq, _, rfl, rfl, q⟩
end
end K02

namespace K02
open PySem PySem.Spec PyProof.Rows L2 KX
abbrev sSeen : Stmt := top 17
theorem paired_len {α β : Type} {F : α → β → Prop} {l : List α} {m : List β} (h : Paired F l m) : l.length = m.length := by
  induction h with
  | nil => rfl
  | cons _ _ ih => simp [ih]
theorem paired_get {α β : Type} {F : α → β → Prop} {l : List α} {m : List β} (h : Paired F l m) : ∀ {i : Nat} {x : α}, l[i]? = some x → ∃ y, m[i]? = some y ∧ F x y := by
  induction h with
  | nil => intro i x e; simp at e
  | @cons a b l m hab t ih =>
    intro i x e
    cases i with
    | zero => simp at e; subst e; exact ⟨b, by simp, hab⟩
    | succ j => simp at e; obtain ⟨y, h1, h2⟩ := ih e; exact ⟨y, by simpa using h1, h2⟩
/-- neighbours: the answer -/
inductive NbIs (K : PySem.W.Frag) (H : Hp) : V → Bool → Prop
  | oth {x : V} (s : SqX K H x none) : NbIs K H x false
  | long {x : V} {xs : List V} (s : SqX K H x (some xs)) (l : 4 < xs.length) (z : xs.length < 1000) : NbIs K H x false
  | all {x : V} {xs : List V} {os : List (Option Int)} (s : SqX K H x (some xs)) (k : Paired (Kin K H) xs os) (l : xs.length ≤ 4) : NbIs K H x (os.all bel4)
def spNb (K : PySem.W.Frag) : Sp := fun vs H Q _ => ∃ x b, vs = [x] ∧ NbIs K H x b ∧ ∀ H', Same H H' → Q (.bl b) H'
section
variable {P : Program} {w : World} {K : PySem.W.Frag} {mg : Str → Option Value} {base : Heap} {f1 f2 f3 f4 : Addr} {d1 d2 d3 d4 : FuncData} {f : Addr} {fd : FuncData}
theorem ok_nb (F : Fun K "are_neighbours" "are_neighbours" sAreNb f fd) (F1 : Fun K "is_sequence" "is_sequence" sIsSeq f1 d1) (G1 : FnOk P w K mg base CX0 1 f1 d1 ["value"] (spSeq K)) (g1 : mg "is_sequence" = some (.ref f1))
    (F2 : Fun K "is_mode" "is_mode" sIsMode f2 d2) (G2 : FnOk P w K mg base CX0 4 f2 d2 ["value"] (spMode K)) (g2 : mg "is_mode" = some (.ref f2))
    {t : Tok} (gm : mg "MOST_NEIGHBOURS" = some (.int 4 t)) (gl : mg "len" = none) (ga : mg "all" = none) : FnOk P w K mg base CX0 5 f fd ["value"] (spNb K) := by
  refine F.ok scNb (fun vs H Q E h => ?_) fun cdv A outer s H vs Q E hr h => ⟨_,
    pss_cons (ps_if (PW.pt (pw_or (pt_not (pt_val (pe_call G1 (hr.mono (by decide)) (by rfl) g1 F1.kp (F1.binds fun _ _ _ _ _ _ us hl => match us, hl with | [_], _ => rfl) .nil pass0 (by exact pa_cons (pv 0) pa_nil))))
      (pw_or1 (pt_cmpR op_gt (pe_callB call_len_seq (by rfl) gl (by decide +kernel) (by exact pa_cons (pv 0) pa_nil)) (pe_glob (v := .int 4) rfl gm ⟨_, rfl⟩) (nomark _)))))
      (pss_one (ps_ret pe_bl)) pss_nil)
    (pss_one (ps_ret (pe_callB (cr_all rfl) (by rfl) ga (by decide +kernel) (by exact pa_cons (pe_lc (own := [("mode", 1)]) (g := gName 1) (tt := tYes) rfl scNb.nd (PI.or (pi_list (pv 0)) (pi_tup (pv 0)))
        (blkOk_by (own := [("mode", 1)]) (N := ["value", "mode"]) (sc := defScope sAreNb) (by decide +kernel)) (fun _ _ _ _ _ => pg_name (i := 1) scNb.nd rfl (Or.inl rfl)) (fun _ _ _ _ _ => pts_nil)
        (fun _ _ _ _ _ => pe_call G2 (hr.mono (by decide)) (by rfl) g2 F2.kp (F2.binds fun _ _ _ _ _ _ us hl => match us, hl with | [_], _ => rfl) .nil pass0 (by exact pa_cons (pv 1) pa_nil))) pa_nil)))), ?_⟩
  · obtain ⟨x, b, rfl, _⟩ := h
    rfl
  · obtain ⟨x, b, rfl, hb, hQ⟩ := h
    cases hb with
    | oth s => exact ⟨x, rfl, x, none, rfl, s, fun H1 S1 => ⟨false, rfl, iteT (iteT (hQ H1 S1))⟩⟩
    | @long xs s l z =>
      refine ⟨x, rfl, x, _, rfl, s, fun H1 S1 => ⟨true, rfl, iteF ?_⟩⟩
      have s1 := sqx_same s S1
      cases s1 with
      | lst h => exact ⟨_, rfl, _, xs, rfl, Or.inl (SqL.of h), _, 4, rfl, rfl, _, rfl, iteT' (decide_eq_true (by omega)) (hQ H1 S1)⟩
      | tup h => exact ⟨_, rfl, _, xs, rfl, Or.inr h.sq, _, 4, rfl, rfl, _, rfl, iteT' (decide_eq_true (by omega)) (hQ H1 S1)⟩
    | @all xs os s k l =>
      refine ⟨x, rfl, x, _, rfl, s, fun H1 S1 => ⟨true, rfl, iteF ?_⟩⟩
      have s1 := sqx_same s S1
      have k1 := kins_same k S1
      have lo := paired_len k
      have turn : ∀ (D : Addr) (i : Nat) (v : V) (H' : Hp), H1 D = none → xs[i]? = some v → Same H1 H' → ∃ o, os[i]? = some o ∧ Kin K H' v o := fun D i v H' hD hi S => by
        obtain ⟨o, h1, h2⟩ := paired_get k1 hi
        exact ⟨o, h1, kin_same h2 S⟩
      have step : ∀ (D : Addr) (i : Nat) (o : Option Int) (H' : Hp), H1 D = none → os[i]? = some o → Same H1 H' → H' D = some (.lst ((os.take i).map fun o => V.bl (bel4 o))) →
          Same H1 (upd H' D (.lst ((os.take i).map (fun o => V.bl (bel4 o)) ++ [.bl (bel4 o)]))) ∧ (upd H' D (.lst ((os.take i).map (fun o => V.bl (bel4 o)) ++ [.bl (bel4 o)]))) D = some (.lst ((os.take (i + 1)).map fun o => V.bl (bel4 o))) := fun D i o H' hD ho S hd => by
        refine ⟨fun c u h => ?_, ?_⟩
        · rw [upd_ne (fun z => ?_)]
          · exact S c u h
          · rw [z, hD] at h; cases h
        · rw [upd_same, List.take_succ, ho]; simp
      have fin : ∀ (D : Addr) (H' : Hp), Same H1 H' → H' D = some (.lst ((os.take xs.length).map fun o => V.bl (bel4 o))) → ∃ (a : Addr) (bs : List Bool), [V.ref D] = [V.ref a] ∧ SqL K H' a (bs.map V.bl) ∧ Q (.bl (bs.all id)) H' := fun D H' S hd => by
        rw [lo, List.take_length] at hd
        have e : (os.map fun o => V.bl (bel4 o)) = (os.map bel4).map V.bl := by simp
        rw [e] at hd
        refine ⟨D, os.map bel4, rfl, SqL.of hd, ?_⟩
        have e2 : (os.map bel4).all id = os.all bel4 := by simp [List.all_map]
        rw [e2]
        exact hQ H' (S1.trans S)
      have small : ∀ i, ((os.take i).map fun o => V.bl (bel4 o)).length < sizeLine := fun i => by
        rw [List.length_map, List.length_take]
        exact Nat.lt_of_le_of_lt (Nat.le_trans (Nat.min_le_right _ _) (by omega : os.length ≤ 4)) (by decide)
      cases s1 with
      | @lst a _ h =>
        refine ⟨.ref a, rfl, _, xs, rfl, Or.inl (SqL.of h), _, 4, rfl, rfl, _, rfl, iteF' (decide_eq_false (by omega)) (Or.inl ⟨.ref a, rfl, a, rfl, ⟨_, SqL.of h⟩, fun D hD => ?_⟩)⟩
        refine lc_list (xs := xs) (fun i H' => Same H1 H' ∧ H' D = some (.lst ((os.take i).map fun o => V.bl (bel4 o)))) ⟨Same.new hD, upd_same⟩ (fun i H' _ p => SqL.of (p.1 _ _ h)) (fun i v H' hi p => ?_) (fun H' p => fin D H' p.1 p.2)
        obtain ⟨o, ho, kv⟩ := turn D i v H' hD hi p.1
        exact ⟨rfl, v, rfl, v, o, rfl, kv, _, p.2, small i, step D i o H' hD ho p.1 p.2⟩
      | @tup a _ h =>
        refine ⟨.ref a, rfl, _, xs, rfl, Or.inr h.sq, _, 4, rfl, rfl, _, rfl, iteF' (decide_eq_false (by omega)) (Or.inr ⟨.ref a, rfl, a, rfl, ⟨_, h.sq⟩, fun D hD => ?_⟩)⟩
        refine lc_tup (xs := xs) (fun i H' => Same H1 H' ∧ H' D = some (.lst ((os.take i).map fun o => V.bl (bel4 o)))) ⟨Same.new hD, upd_same⟩ (fun i H' _ p => (h.same p.1).sq) (fun i v H' hi p => ?_) (fun H' p => fin D H' p.1 p.2)
        obtain ⟨o, ho, kv⟩ := turn D i v H' hD hi p.1
        exact ⟨rfl, v, rfl, v, o, rfl, kv, _, p.2, small i, step D i o H' hD ho p.1 p.2⟩
theorem eqv_ints : ∀ ns ms : List Int, PyData.eqvAll (ns.map PyData.int) (ms.map PyData.int) = decide (ns = ms)
  | [], [] => rfl
  | [], m :: ms => by simp [PyData.eqvAll]
  | n :: ns, [] => by simp [PyData.eqvAll]
  | n :: ns, m :: ms => by
    show ((n == m) && PyData.eqvAll (ns.map PyData.int) (ms.map PyData.int)) = _
    rw [eqv_ints ns ms]
    by_cases h1 : n = m
    · by_cases h2 : ns = ms <;> simp [h1, h2]
    · simp [h1]
theorem sh_tints (ns : List Int) : SeqAt.shaped (.tuple (ns.map PyData.int)) = true := sh_ints ns
theorem dp_tints {K : PySem.W.Frag} {H : Hp} {a : Addr} {ns : List Int} (h : Tup H a (ns.map V.int)) : Dp K H (.ref a) (.tuple (ns.map PyData.int)) :=
  .tup h.sq (dpAll_ints K H ns)
theorem kin_ints (K : PySem.W.Frag) (H : Hp) : ∀ ns : List Int, Paired (Kin K H) (ns.map V.int) (ns.map some)
  | [] => .nil
  | n :: ns => .cons (.int n) (kin_ints K H ns)
theorem bel4_ints {ns : List Int} (h : ∀ n ∈ ns, 0 ≤ n ∧ n < 4) : (ns.map some).all bel4 = true := by
  rw [List.all_eq_true]
  intro o ho
  obtain ⟨n, hn, rfl⟩ := List.mem_map.mp ho
  show (decide (0 ≤ n) && decide (n < 4)) = true
  rw [decide_eq_true (h n hn).1, decide_eq_true (h n hn).2]; rfl
inductive ViewIs (K : PySem.W.Frag) (H : Hp) : V → Bool → Prop
  | notup {x : V} {n : String} (t : TyX K H x (.type n)) (k : kitB n "tuple" = some false) : ViewIs K H x false
  | len {a : Addr} {xs : List V} (h : Tup H a xs) (l : xs.length ≠ 2) : ViewIs K H (.ref a) false
  | mode {a : Addr} {y z : V} {o : Option Int} (h : Tup H a [y, z]) (k : Kin K H y o) (b : bel4 o = false) : ViewIs K H (.ref a) false
  | nb {a : Addr} {y z : V} {o : Option Int} {n : String} (h : Tup H a [y, z]) (k : Kin K H y o) (t : TyX K H z (.type n)) (kt : kitB n "tuple" = some false) : ViewIs K H (.ref a) false
  | bad {a r : Addr} {y : V} {o : Option Int} {zs : List V} (h : Tup H a [y, .ref r]) (k : Kin K H y o) (hz : Tup H r zs) (n : NbIs K H (.ref r) false) : ViewIs K H (.ref a) false
  | good {a r : Addr} {m : Int} {ns : List Int} {b : Bool} (h : Tup H a [.int m, .ref r]) (hz : Tup H r (ns.map V.int)) (m0 : 0 ≤ m) (m4 : m < 4) (hn : ∀ n ∈ ns, 0 ≤ n ∧ n < 4) (l : ns.length ≤ 4)
      (hb : ∀ ns' : List Int, ns'.Perm ns → ns'.Pairwise (· ≤ ·) → b = decide (ns = ns')) : ViewIs K H (.ref a) b
def spView (K : PySem.W.Frag) : Sp := fun vs H Q _ => ∃ x b, vs = [x] ∧ ViewIs K H x b ∧ ∀ H', Same H H' → Q (.bl b) H'
theorem kit_tt : kitB "tuple" "tuple" = some true := by decide +kernel
theorem ok_view (F : Fun K "is_view" "is_view" sIsView f fd) (F1 : Fun K "is_tuple_of" "is_tuple_of" sIsTup f1 d1) (G1 : FnOk P w K mg base CX0 1 f1 d1 ["value", "length"] (spIsTup K)) (g1 : mg "is_tuple_of" = some (.ref f1))
    (F2 : Fun K "is_mode" "is_mode" sIsMode f2 d2) (G2 : FnOk P w K mg base CX0 4 f2 d2 ["value"] (spMode K)) (g2 : mg "is_mode" = some (.ref f2))
    (F3 : Fun K "are_neighbours" "are_neighbours" sAreNb f3 d3) (G3 : FnOk P w K mg base CX0 5 f3 d3 ["value"] (spNb K)) (g3 : mg "are_neighbours" = some (.ref f3))
    (gI : mg "isinstance" = none) (gt : mg "tuple" = none) (gs : mg "sorted" = none) : FnOk P w K mg base CX0 6 f fd ["value"] (spView K) := by
  refine F.ok scView (fun vs H Q E h => ?_) fun cdv A outer s H vs Q E hr h => ⟨_,
    pss_cons (ps_if (pt_not (pt_val (pe_call G1 (hr.mono (by decide)) (by rfl) g1 F1.kp (F1.binds fun _ _ _ _ _ _ us hl => match us, hl with | [_, _], _ => rfl) .nil pass0 (by exact pa_cons (pv 0) (pa_cons pe_int pa_nil))))) (pss_one (ps_ret pe_bl)) pss_nil)
    (pss_cons (ps_asg (pv 0) (pg_tup (by rfl) (pgs_cons (pg_name (i := 1) scView.nd rfl (.inl rfl)) (pgs_cons (pg_name (i := 2) scView.nd rfl (.inl rfl)) pgs_nil))))
    (pss_cons (ps_if (PW.pt (pw_or (pt_not (pt_val (pe_call G2 (hr.mono (by decide)) (by rfl) g2 F2.kp (F2.binds fun _ _ _ _ _ _ us hl => match us, hl with | [_], _ => rfl) .nil pass0 (by exact pa_cons (pv 1) pa_nil))))
        (pw_or (pt_not (pt_val (pe_callB call_isi (by rfl) gI (by decide +kernel) (by exact pa_cons (pv 2) (pa_cons (pe_bltn (v := .ty "tuple") rfl gt (by decide +kernel) rfl) pa_nil)))))
        (pw_or1 (pt_not (pt_val (pe_call G3 hr (by rfl) g3 F3.kp (F3.binds fun _ _ _ _ _ _ us hl => match us, hl with | [_], _ => rfl) .nil pass0 (by exact pa_cons (pv 2) pa_nil))))))))
      (pss_one (ps_ret pe_bl)) pss_nil)
    (pss_one (ps_ret (pe_cmpR (op_eqD hr.units) (pv 2) (pe_tupleOf (by rfl) gt (pe_callB cr_sortT (by rfl) gs (by decide +kernel) (by exact pa_cons (pv 2) pa_nil))) (nomark _)))))), ?_⟩
  · obtain ⟨x, b, rfl, _⟩ := h
    rfl
  · obtain ⟨x, b, rfl, hb, hQ⟩ := h
    have R := hQ H (Same.refl H)
    cases hb with
    | notup t k => exact ⟨x, rfl, x, 2, _, false, rfl, t, k, iteF ⟨false, rfl, iteT R⟩⟩
    | @len a xs h l =>
      have e : decide (V.int (xs.length : Int) = V.int 2) = false := decide_eq_false (fun z => l (by injection z with z; omega))
      exact ⟨.ref a, rfl, .ref a, 2, "tuple", true, rfl, h.ty, kit_tt, iteT ⟨a, xs, rfl, h, by rw [e]; exact ⟨false, rfl, iteT R⟩⟩⟩
    | @mode a y z o h k b =>
      exact ⟨.ref a, rfl, .ref a, 2, "tuple", true, rfl, h.ty, kit_tt, iteT ⟨a, _, rfl, h, true, rfl, iteF ⟨.ref a, rfl, a, [y, z], rfl, h.sq, rfl, y, [z], rfl, z, [], rfl, rfl,
        y, rfl, y, o, rfl, k, bel4 o, rfl, by rw [b]; exact iteT (iteT R)⟩⟩⟩
    | @nb a y z o n h k t kt =>
      refine ⟨.ref a, rfl, .ref a, 2, "tuple", true, rfl, h.ty, kit_tt, iteT ⟨a, _, rfl, h, true, rfl, iteF ⟨.ref a, rfl, a, [y, z], rfl, h.sq, rfl, y, [z], rfl, z, [], rfl, rfl,
        y, rfl, y, o, rfl, k, bel4 o, rfl, ?_⟩⟩⟩
      cases bel4 o with
      | false => exact iteT (iteT R)
      | true => exact iteF ⟨z, rfl, z, .ty "tuple", _, _, false, rfl, .ty "tuple", t, kit_ty kt, false, rfl, iteT (iteT R)⟩
    | @bad a r y o zs h k hz n =>
      refine ⟨.ref a, rfl, .ref a, 2, "tuple", true, rfl, h.ty, kit_tt, iteT ⟨a, _, rfl, h, true, rfl, iteF ⟨.ref a, rfl, a, [y, .ref r], rfl, h.sq, rfl, y, [.ref r], rfl, .ref r, [], rfl, rfl,
        y, rfl, y, o, rfl, k, bel4 o, rfl, ?_⟩⟩⟩
      cases bel4 o with
      | false => exact iteT (iteT R)
      | true => exact iteF ⟨.ref r, rfl, .ref r, .ty "tuple", _, _, true, rfl, .ty "tuple", hz.ty, kit_ty kit_tt, true, rfl, iteF ⟨.ref r, rfl, .ref r, false, rfl, n, fun H' S => ⟨false, rfl, iteT (hQ H' S)⟩⟩⟩
    | @good a r m ns _ h hz m0 m4 hn l hb =>
      refine ⟨.ref a, rfl, .ref a, 2, "tuple", true, rfl, h.ty, kit_tt, iteT ⟨a, _, rfl, h, true, rfl, iteF ⟨.ref a, rfl, a, [.int m, .ref r], rfl, h.sq, rfl, .int m, [.ref r], rfl, .ref r, [], rfl, rfl,
        .int m, rfl, .int m, some m, rfl, .int m, bel4 (some m), rfl, ?_⟩⟩⟩
      have e : bel4 (some m) = true := by
        show (decide (0 ≤ m) && decide (m < 4)) = true
        rw [decide_eq_true m0, decide_eq_true m4]; rfl
      rw [e]
      have nbk : NbIs K H (.ref r) ((ns.map some).all bel4) := .all (.tup hz) (kin_ints K H ns) (by simpa using l)
      rw [bel4_ints hn] at nbk
      refine iteF ⟨.ref r, rfl, .ref r, .ty "tuple", _, _, true, rfl, .ty "tuple", hz.ty, kit_ty kit_tt, true, rfl, iteF ⟨.ref r, rfl, .ref r, true, rfl, nbk, fun H' S => ⟨true, rfl, iteF ?_⟩⟩⟩
      refine ⟨.ref r, rfl, .ref r, rfl, r, ns, rfl, (hz.same S).sq, by omega, fun ns' p perm srt hp => Or.inl ⟨p, _, rfl, SqL.of upd_same, fun q hq => ?_⟩⟩
      have S2 : Same H (upd (upd H' p (.lst (ns'.map V.int))) q (.tup (ns'.map V.int))) := (S.trans (Same.new hp)).trans (Same.new hq)
      refine ⟨.tuple (ns.map PyData.int), .tuple (ns'.map PyData.int), dp_tints (hz.same S2), dp_tints (Tup.of upd_same), sh_tints ns, sh_tints ns', ?_⟩
      have ev : PyData.eqv (.tuple (ns.map PyData.int)) (.tuple (ns'.map PyData.int)) = b := by
        rw [hb ns' perm srt]; exact eqv_ints ns ns'
      rw [ev]
      exact hQ _ S2
def spSeen : Sp := fun vs H Q _ => ∃ (a r : Addr) (k m : Int) (ns : List Int), vs = [.ref a, .int m] ∧ H a = some (.tup [.int k, .ref r]) ∧ TupF H r (ns.map V.int) ∧ Q (.int (ns.count m : Nat)) H
theorem scSeen : FnScope ["view", "mode"] ["view", "mode"] (defScope sSeen) := ⟨rfl, rfl, rfl, by decide +kernel, rfl, by decide +kernel, by decide +kernel⟩
theorem ok_seen (F : Fun K "seen" "seen" sSeen f fd) : FnOk P w K mg base CX0 1 f fd ["view", "mode"] spSeen := by
  refine F.ok scSeen (fun vs H Q E h => ?_) fun cdv A outer s H vs Q E hr h => ⟨_,
    pss_one (ps_ret (pe_bmF PySem.F.slot_tuple_count PySem.F.type_tuple_count mt_tcount (pe_ix ix_tup (pv 0) pe_int (fun _ _ => rfl)) (pa_cons (pv 1) pa_nil))), ?_⟩
  · obtain ⟨a, r, k, m, ns, rfl, _⟩ := h
    rfl
  · obtain ⟨a, r, k, m, ns, rfl, ha, hr', hQ⟩ := h
    exact ⟨.ref a, rfl, a, _, 1, .ref r, rfl, rfl, SqT.of ha, rfl, ⟨r, _, rfl, hr'⟩, .int m, rfl, r, ns, m, rfl, rfl, hr'.tup.sq, hQ⟩
def spMV (K : PySem.W.Frag) (CV : Addr) : Sp := fun vs H Q E => ∃ x z o b, vs = [x, z] ∧ Kin K H x o ∧ NbIs K H z b ∧
  ((bel4 o && b) = false → ∀ H' d, Same H H' → H' d = none → E (.ref CV) (some d) (upd H' d (.xd [(("at" : Str), .int 0)]))) ∧
  ((bel4 o && b) = true → ∃ (m : Int) (ns : List Int), x = .int m ∧ SqX K H z (some (ns.map V.int)) ∧ ns.length < 64 ∧
    ∀ (H' : Hp) (ns' : List Int) (r p : Addr), Same H H' → ns'.Perm ns → ns'.Pairwise (· ≤ ·) → H' r = some (.tup (ns'.map V.int)) → H' p = none → Q (.ref p) (upd H' p (.tup [.int m, .ref r])))
theorem ok_mv {CV fV : Addr} (F : Fun K "made_view" "made_view" sMadeView f fd) (T : PySem.ErrX.ErrTxt K mg "InvalidView" "InvalidView.__init__" CV fV)
    (F2 : Fun K "is_mode" "is_mode" sIsMode f2 d2) (G2 : FnOk P w K mg base CX0 4 f2 d2 ["value"] (spMode K)) (g2 : mg "is_mode" = some (.ref f2))
    (F3 : Fun K "are_neighbours" "are_neighbours" sAreNb f3 d3) (G3 : FnOk P w K mg base CX0 5 f3 d3 ["value"] (spNb K)) (g3 : mg "are_neighbours" = some (.ref f3))
    (gt : mg "tuple" = none) (gs : mg "sorted" = none) : FnOk P w K mg base (L2.CX P w) 6 f fd ["mode", "neighbours"] (spMV K CV) := by
  refine F.okX scMade (fun vs H Q E h => ?_) fun cdv A outer s H vs Q E hr h => ⟨_,
    pss_cons (ps_if (PW.pt (pw_or (pt_not (pt_val (pe_call G2 (hr.mono (by decide)) (by rfl) g2 F2.kp (F2.binds fun _ _ _ _ _ _ us hl => match us, hl with | [_], _ => rfl) .nil pass0 (by exact pa_cons (pv 0) pa_nil))))
        (pw_or1 (pt_not (pt_val (pe_call G3 hr (by rfl) g3 F3.kp (F3.binds fun _ _ _ _ _ _ us hl => match us, hl with | [_], _ => rfl) .nil pass0 (by exact pa_cons (pv 1) pa_nil)))))))
      (pss_one (ps_raiseErrZ rfl T hr (takes_of rfl rfl rfl rfl) (by exact pa_cons pe_int pa_nil))) pss_nil)
    (pss_one (ps_ret (pe_tup (pa_cons (pv 0) (pa_cons (pe_tupleOf (by rfl) gt (pe_callB (KX.CallR.or cr_sorted cr_sortT) (by rfl) gs (by decide +kernel) (by exact pa_cons (pv 1) pa_nil))) pa_nil))))), ?_⟩
  · obtain ⟨x, z, o, b, rfl, _⟩ := h
    rfl
  · obtain ⟨x, z, o, b, rfl, k, n, hE, hQ⟩ := h
    refine ⟨x, rfl, x, o, rfl, k, bel4 o, rfl, ?_⟩
    cases hb : bel4 o with
    | false =>
      refine iteT (iteT ⟨_, rfl, fun d hd => hE (by rw [hb]; rfl) H d (Same.refl H) hd⟩)
    | true =>
      refine iteF ⟨z, rfl, z, b, rfl, n, fun H1 S1 => ⟨b, rfl, ?_⟩⟩
      cases b with
      | false => exact iteT ⟨_, rfl, fun d hd => hE (by rw [Bool.and_false]) H1 d S1 hd⟩
      | true =>
        obtain ⟨m, ns, rfl, sq, l, hQ⟩ := hQ (by rw [hb]; rfl)
        refine iteF ⟨.int m, rfl, z, rfl, ?_⟩
        have fin : ∀ (ns' : List Int) (p : Addr), ns'.Perm ns → ns'.Pairwise (· ≤ ·) → H1 p = none → ∀ q, (upd H1 p (.lst (ns'.map V.int))) q = none → ∀ t, (upd (upd H1 p (.lst (ns'.map V.int))) q (.tup (ns'.map V.int))) t = none →
            Q (.ref t) (upd (upd (upd H1 p (.lst (ns'.map V.int))) q (.tup (ns'.map V.int))) t (.tup [.int m, .ref q])) := fun ns' p perm srt hp q hq t ht =>
          hQ _ ns' q t ((S1.trans (Same.new hp)).trans (Same.new hq)) perm srt upd_same ht
        have sq1 := sqx_same sq S1
        cases sq1 with
        | lst h => exact Or.inl ⟨_, ns, rfl, SqL.of h, l, fun ns' p perm srt hp => Or.inl ⟨p, _, rfl, SqL.of upd_same, fun q hq => ⟨by show 2 ≤ sizeLine; decide, fun t ht => fin ns' p perm srt hp q hq t ht⟩⟩⟩
        | tup h => exact Or.inr ⟨_, ns, rfl, h.sq, l, fun ns' p perm srt hp => Or.inl ⟨p, _, rfl, SqL.of upd_same, fun q hq => ⟨by show 2 ≤ sizeLine; decide, fun t ht => fin ns' p perm srt hp q hq t ht⟩⟩⟩
end
end K02

namespace K02
open PySem PySem.Spec PyProof.Rows L2 KX
abbrev sAllViews : Stmt := top 16
/-- a walk in a comprehension, from any start -/
theorem it_wk {J : It} {n : Nat} {G : Hp → Prop} {Y : Nat → Hp → V → Hp → Prop} (w : Walk J n G Y) {T : V → Hp → (Hp → Prop) → Prop} {Qd : Hp → Prop} {H0 : Hp}
    (Pv : Nat → Hp → Prop) (h0 : Pv 0 H0) (hG : ∀ i H, i ≤ n → Pv i H → G H)
    (hs : ∀ i x H H', i < n → Pv i H → Y i H x H' → T x H' (Pv (i + 1))) (hd : ∀ H, Pv n H → Qd H) :
    ∃ W : Nat → Nat → Hp → Prop, (∃ m, W 0 m H0) ∧ ∀ i m H, W i m H →
      (J.stop i H ∧ Qd H) ∨ (J.go i H ∧ ∃ Nx : Hp → Prop, (∀ H', Nx H' → ∃ m', m' < m ∧ W (i + 1) m' H') ∧ ∀ x H', J.yld i H x H' → T x H' Nx) := by
  refine ⟨fun i m H => m = n - i ∧ i ≤ n ∧ Pv i H, ⟨n, by simp, Nat.zero_le _, h0⟩, ?_⟩
  rintro i m H ⟨rfl, hi, p⟩
  have q := hG i H hi p
  by_cases hlt : i < n
  · exact Or.inr ⟨w.goes i H hlt q, Pv (i + 1), fun H' z => ⟨n - (i + 1), by omega, rfl, hlt, z⟩, fun x H' y => hs i x H H' hlt p (w.yields i H x H' hlt q y)⟩
  · have e : i = n := by omega
    subst e
    exact Or.inl ⟨w.stops H q, hd H p⟩
/-! rows -/
def lo (r : List Int) : Int := r.getLast?.getD 0
def ext (k : Int) (r : List Int) : List (List Int) := (List.range (k - lo r).toNat).map fun (j : Nat) => r ++ [lo r + (j : Int)]
def stepR (k : Int) (rs : List (List Int)) : List (List Int) := rs.flatMap (ext k)
def rowsOf (k : Int) : Nat → List (List Int)
  | 0 => [[]]
  | n + 1 => stepR k (rowsOf k n)
/-- row[-1] if row else 0, and its like -/
def tLo (i : Nat) : TE := fun σ H Q => ∃ (a : Addr) (r : List Int), σ[i]? = some (some (.ref a)) ∧ Tup H a (r.map V.int) ∧ Q (.int (lo r)) H
theorem lo_nil : lo [] = 0 := rfl
theorem lo_snoc (l : List Int) (x : Int) : lo (l ++ [x]) = x := by unfold lo; simp
abbrev RowAt (H : Hp) (p : Addr) (r : List Int) : Prop := H p = some (.tup (r.map V.int))
theorem lo_conv {K : PySem.W.Frag} {i : Nat} {σ : L2.St} {H : Hp} {Q : VK} (h : tLo i σ H Q) :
    tIf (fun σ H Q => tVar i σ H fun x H' => ∃ k, TruV K x H' k ∧ Q k H') (tOp (rIxT K) (tVar i) (tUn (rU fun i => .int (-i)) (tC (.int 1)))) (tC (.int 0)) σ H Q := by
  obtain ⟨a, r, h1, h2, h3⟩ := h
  rcases List.eq_nil_or_concat r with e | ⟨l, x, e⟩
  · subst e
    exact ⟨.ref a, h1, false, Or.inr (Or.inl ⟨_, h2.sq, rfl⟩), iteF h3⟩
  · have e : r = l ++ [x] := by simpa using e
    subst e
    have hm : (l ++ [x]).map V.int = l.map V.int ++ [V.int x] := by simp
    rw [hm] at h2
    rw [lo_snoc] at h3
    refine ⟨.ref a, h1, true, Or.inr (Or.inl ⟨_, h2.sq, by simp⟩), iteT ⟨.ref a, h1, 1, rfl, a, _, -1, .int x, rfl, rfl, h2.sq, atI_last _ _, h3⟩⟩
theorem pe_lo_of {X : Cx} {K : PySem.W.Frag} {i : Nat} {e : Expr}
    (hp : PE X e (tIf (fun σ H Q => tVar i σ H fun x H' => ∃ k, TruV K x H' k ∧ Q k H') (tOp (rIxT K) (tVar i) (tUn (rU fun i => .int (-i)) (tC (.int 1)))) (tC (.int 0)))) : PE X e (tLo i) :=
  ⟨fun pins s σ H Q I h => hp.run pins s σ H Q I (lo_conv h)⟩
theorem rows_same {H H' : Hp} {ps : List Addr} {rs : List (List Int)} (h : Paired (RowAt H) ps rs) (s : Same H H') : Paired (RowAt H') ps rs := by
  induction h with
  | nil => exact .nil
  | cons a _ ih => exact .cons (s _ _ a) ih
theorem rows_upd {H : Hp} {D : Addr} {xs : List V} {o : HO} {ps : List Addr} {rs : List (List Int)} (h : Paired (RowAt H) ps rs) (hd : H D = some (.lst xs)) : Paired (RowAt (upd H D o)) ps rs := by
  induction h with
  | nil => exact .nil
  | cons a _ ih =>
    refine .cons ?_ ih
    show upd H D o _ = _
    rw [upd_ne (fun z => ?_)]
    · exact a
    · have a' : H _ = some _ := a
      rw [z, hd] at a'; cases a'
theorem Same.upd {H H' : Hp} {D : Addr} {o : HO} (s : Same H H') (n : H D = none) : Same H (L2.upd H' D o) := fun c u h => by
  rw [upd_ne (fun z => by rw [z, n] at h; cases h)]
  exact s c u h
def rowsN (k : Int) (n : Nat) : Nat := (rowsOf k n).length
def dRow (r : List Int) : PyData := .tuple (r.map PyData.int)
def dV (v : Int × List Int) : PyData := .tuple [.int v.1, dRow v.2]
def allV (k : Int) (n : Nat) : List (Int × List Int) := (List.range k.toNat).flatMap fun (m : Nat) => (rowsOf k n).map fun r => ((m : Int), r)
def okB (k : Int) (n : Nat) : Bool := decide ((allV k n).length ≤ 1000) && (List.range (n + 1)).all fun i => decide ((rowsOf k i).length ≤ 1000) && (rowsOf k i).all fun r => decide (r.length ≤ 10) && r.all fun x => decide (0 ≤ x) && decide (x < 10)
def spViews (K : PySem.W.Frag) : Sp := fun vs H Q _ => ∃ (k : Int) (n : Nat), vs = [.int k, .int n] ∧ 0 ≤ k ∧ k < 10 ∧ n < 100 ∧ okB k n = true ∧
  ∀ H' t, Same H H' → Dp K H' (.ref t) (.tuple ((allV k n).map dV)) → Q (.ref t) H'
theorem ext_get (k : Int) (r : List Int) {j : Nat} (h : j < (k - lo r).toNat) : (ext k r)[j]? = some (r ++ [lo r + (j : Int)]) := by
  unfold ext
  rw [List.getElem?_map, List.getElem?_range h]; rfl
theorem ext_len (k : Int) (r : List Int) : (ext k r).length = (k - lo r).toNat := by unfold ext; simp
theorem flat_snoc {α β : Type} (f : α → List β) {l : List α} {j : Nat} {x : α} (h : l[j]? = some x) : (l.take (j + 1)).flatMap f = (l.take j).flatMap f ++ f x := by
  rw [List.take_succ, h]; simp
theorem flat_le {α β : Type} (f : α → List β) {l : List α} {j : Nat} {x : α} (h : l[j]? = some x) (i : Nat) : ((l.take j).flatMap f ++ (f x).take i).length ≤ (l.flatMap f).length := by
  have e : l.flatMap f = (l.take (j + 1)).flatMap f ++ (l.drop (j + 1)).flatMap f := by rw [← List.flatMap_append, List.take_append_drop]
  rw [e, flat_snoc f h]
  simp only [List.length_append, List.length_take]
  omega
theorem paired_snoc {α β : Type} {F : α → β → Prop} {l : List α} {m : List β} {a : α} {b : β} (h : Paired F l m) (f : F a b) : Paired F (l ++ [a]) (m ++ [b]) := h.snoc f
def ViewAt (H : Hp) (p : Addr) (v : Int × List Int) : Prop := ∃ q, H p = some (.tup [.int v.1, .ref q]) ∧ RowAt H q v.2
theorem ViewAt.same {H H' : Hp} {p : Addr} {v : Int × List Int} (h : ViewAt H p v) (s : Same H H') : ViewAt H' p v := by
  obtain ⟨q, h1, h2⟩ := h
  exact ⟨q, s _ _ h1, s _ _ h2⟩
theorem ViewAt.up {H : Hp} {p D : Addr} {v : Int × List Int} {xs : List V} {o : HO} (h : ViewAt H p v) (hd : H D = some (.lst xs)) : ViewAt (L2.upd H D o) p v := by
  obtain ⟨q, h1, h2⟩ := h
  have h2 : H q = some _ := h2
  refine ⟨q, ?_, ?_⟩
  · rw [upd_ne (fun z => by rw [z, hd] at h1; cases h1)]; exact h1
  · show L2.upd H D o q = _
    rw [upd_ne (fun z => by rw [z, hd] at h2; cases h2)]; exact h2
theorem paired_mono {α β : Type} {F G : α → β → Prop} {l : List α} {m : List β} (h : Paired F l m) (f : ∀ a b, F a b → G a b) : Paired G l m := by
  induction h with
  | nil => exact .nil
  | cons a _ ih => exact .cons (f _ _ a) ih
theorem dp_rowT {K : PySem.W.Frag} {H : Hp} {q : Addr} {r : List Int} (h : Tup H q (r.map V.int)) : Dp K H (.ref q) (dRow r) := dp_tints h
theorem dp_view {K : PySem.W.Frag} {H : Hp} {p : Addr} {v : Int × List Int} (h : ViewAt H p v) : Dp K H (.ref p) (dV v) := by
  obtain ⟨q, h1, h2⟩ := h
  exact .tup (SqT.of h1) (.cons (.int _) (.cons (dp_rowT (Tup.of h2)) .nil))
theorem dp_views {K : PySem.W.Frag} {H : Hp} {ps : List Addr} {vs : List (Int × List Int)} (h : Paired (ViewAt H) ps vs) : DpAll K H (ps.map V.ref) (vs.map dV) := by
  induction h with
  | nil => exact .nil
  | cons a _ ih => exact .cons (dp_view a) ih
theorem scViews : FnScope ["modes", "degree", "rows", "_", "row", "mode"] ["modes", "degree"] (defScope sAllViews) := ⟨rfl, rfl, rfl, by decide +kernel, rfl, by decide +kernel, by decide +kernel⟩
def NV : List Str := ["modes", "degree", "rows", "_", "row", "mode"]
section
variable {P : Program} {w : World} {K : PySem.W.Frag} {mg : Str → Option Value} {base : Heap} {f1 f2 f3 f4 : Addr} {d1 d2 d3 d4 : FuncData} {f : Addr} {fd : FuncData}
theorem ok_views (F : Fun K "all_views" "all_views" sAllViews f fd) (gr : mg "range" = none) (gt : mg "tuple" = none) : FnOk P w K mg base CX0 1 f fd ["modes", "degree"] (spViews K) := by
  refine F.ok scViews (fun vs H Q E h => ?_) fun cdv A outer s H vs Q E hr h => ⟨_,
    pss_cons (ps_set (i := 2) scViews.nd rfl (.inr rfl) (pe_lst (pa_cons (pe_tup pa_nil) pa_nil)))
    (pss_cons (ps_for PassesOwn.never rfl (pi_range1 (by rfl) gr (by exact pa_cons (pv 1) pa_nil)) (pg_name (i := 3) scViews.nd rfl (.inl rfl))
      (pss_one (ps_set (i := 2) scViews.nd rfl (.inr rfl) (by exact (pe_lc2 (own := [("row", 4), ("mode", 5)]) (vs1 := [5]) (g := gName 4) (g1 := gName 5) (tt := tYes) (tt1 := tYes) (by rfl) scViews.nd (pi_list (pv 2))
        (blkOk_by (own := [("row", 4), ("mode", 5)]) (N := NV) (sc := defScope sAllViews) (by decide +kernel)) (by decide)
        (fun _ _ _ _ _ => pg_name (i := 4) scViews.nd rfl (Or.inl rfl)) (fun _ _ _ _ _ => pts_nil)
        (fun _ _ _ _ _ => pi_range2 (by rfl) gr (by exact pa_cons (by exact (pe_lo_of (K := K) (pe_ifExp (by exact (show PT _ _ (fun σ H Q => tVar 4 σ H fun x H' => ∃ k, TruV K x H' k ∧ Q k H') from pt_truth (pv 4) (by intro _; rfl))) (by exact (pe_ix (r := rIxT K) ix_tup (pv 4) (pe_un un_neg pe_int) (fun _ _ => rfl))) pe_int))) (pa_cons (pv 0) pa_nil)))
        (fun _ _ _ _ _ => pg_name (i := 5) scViews.nd rfl (Or.inl rfl)) (fun _ _ _ _ _ => pts_nil)
        (fun _ _ _ _ _ => pe_op (r := rCatA K) op_catA (pv 4) (pe_tup (pa_cons (pv 5) pa_nil)))))))) 
    (pss_one (ps_ret (pe_tupleOf (by rfl) gt (by exact (pe_lc2 (own := [("mode", 5), ("row", 4)]) (vs1 := [4]) (g := gName 5) (g1 := gName 4) (tt := tYes) (tt1 := tYes) (by rfl) scViews.nd (pi_range1 (by rfl) gr (by exact pa_cons (pv 0) pa_nil))
        (blkOk_by (own := [("mode", 5), ("row", 4)]) (N := NV) (sc := defScope sAllViews) (by decide +kernel)) (by decide)
        (fun _ _ _ _ _ => pg_name (i := 5) scViews.nd rfl (Or.inl rfl)) (fun _ _ _ _ _ => pts_nil)
        (fun _ _ _ _ _ => (show PI _ _ _ (iList K (tVar 2)) from pi_list (pv 2)))
        (fun _ _ _ _ _ => pg_name (i := 4) scViews.nd rfl (Or.inl rfl)) (fun _ _ _ _ _ => pts_nil)
        (fun _ _ _ _ _ => pe_tup (pa_cons (pv 5) (pa_cons (pv 4) pa_nil))))))))), ?_⟩
  · obtain ⟨k, n, rfl, _⟩ := h
    rfl
  · obtain ⟨k, n, rfl, k0, k1, n1, hok, hQ⟩ := h
    unfold okB at hok
    rw [Bool.and_eq_true] at hok
    obtain ⟨hA, hR⟩ := hok
    have hA := of_decide_eq_true hA
    have hR : ∀ i, i ≤ n → (rowsOf k i).length ≤ 1000 ∧ ∀ r ∈ rowsOf k i, r.length ≤ 10 ∧ ∀ x ∈ r, 0 ≤ x ∧ x < 10 := fun i hi => by
      have h := List.all_eq_true.mp hR i (List.mem_range.mpr (by omega))
      rw [Bool.and_eq_true] at h
      refine ⟨of_decide_eq_true h.1, fun r hr => ?_⟩
      have h2 := List.all_eq_true.mp h.2 r hr
      rw [Bool.and_eq_true] at h2
      refine ⟨of_decide_eq_true h2.1, fun x hx => ?_⟩
      have h3 := List.all_eq_true.mp h2.2 x hx
      rw [Bool.and_eq_true] at h3
      exact ⟨of_decide_eq_true h3.1, of_decide_eq_true h3.2⟩
    refine ⟨by show 0 ≤ sizeLine; decide, fun e he => ⟨by show 1 ≤ sizeLine; decide, fun D0 hD0 => ?_⟩⟩
    have S1 : Same H (upd (upd H e (.tup [])) D0 (.lst [.ref e])) := (Same.new he).trans (Same.new hD0)
    have h1 : upd (upd H e (.tup [])) D0 (.lst [.ref e]) D0 = some (.lst [.ref e]) := upd_same
    have h2 : upd (upd H e (.tup [])) D0 (.lst [.ref e]) e = some (.tup []) := by
      rw [upd_ne (fun z => by rw [← z, upd_same] at hD0; cases hD0), upd_same]
    generalize upd (upd H e (.tup [])) D0 (.lst [.ref e]) = H1 at S1 h1 h2
    refine ⟨.int n, rfl, n, rfl, by omega, by omega, for_range (n := n) (fun i σ H' => Same H H' ∧ ∃ D ps o3 o4 o5, σ = [some (.int k), some (.int n), some (.ref D), o3, o4, o5] ∧ H' D = some (.lst (ps.map V.ref)) ∧ Paired (RowAt H') ps (rowsOf k i))
      ⟨S1, D0, [e], _, _, _, rfl, h1, .cons h2 .nil⟩ (fun i σ H' hi hp => ?_) (fun σ H' hp => ?_)⟩
    · obtain ⟨S, D0', ps, o3, o4, o5, rfl, hD, hP⟩ := hp
      have lenP := paired_len hP
      have bnd := hR (i + 1) (by omega)
      refine ⟨.ref D0', rfl, D0', rfl, ⟨_, SqL.of hD⟩, fun D hDn => ?_⟩
      refine it_wk (walk_list (K := K) (a := D0') (xs := ps.map V.ref)) (fun j H2 => Same H' H2 ∧ ∃ qs, H2 D = some (.lst (qs.map V.ref)) ∧ Paired (RowAt H2) qs (((rowsOf k i).take j).flatMap (ext k)))
        ⟨Same.new hDn, [], upd_same, .nil⟩ (fun j H2 _ p => SqL.of (p.1 _ _ hD)) (fun j x H2 H3 hj p y => ?_) (fun H2 p => ?_)
      · obtain ⟨rfl, hx⟩ := y
        obtain ⟨S2, qs, hq, hQs⟩ := p
        rw [List.getElem?_map] at hx
        obtain ⟨pj, hpj, rfl⟩ := Option.map_eq_some_iff.mp hx
        obtain ⟨r, hr, hrow⟩ := paired_get hP hpj
        have hrow2 : RowAt H3 pj r := S2 _ _ hrow
        obtain ⟨rl, rb⟩ := (hR i (by omega)).2 r (List.mem_of_getElem? hr)
        have lob : 0 ≤ lo r ∧ lo r < 10 := by
          unfold lo
          rcases List.eq_nil_or_concat r with e | ⟨l, z, e⟩
          · subst e; decide
          · have e : r = l ++ [z] := by simpa using e
            subst e
            simpa using rb z (by simp)
        refine ⟨rfl, pj, r, rfl, Tup.of hrow2, .int k, rfl, lo r, k, rfl, ⟨by omega, by omega, by omega, by omega⟩, ?_⟩
        refine it_wk (walk_range (lo := lo r) (n := (k - lo r).toNat)) (fun jj H4 => Same H' H4 ∧ ∃ qs, H4 D = some (.lst (qs.map V.ref)) ∧ Paired (RowAt H4) qs (((rowsOf k i).take j).flatMap (ext k) ++ (ext k r).take jj))
          ⟨S2, qs, hq, by simpa using hQs⟩ (fun _ _ _ _ => trivial) (fun jj x H4 H5 hjj p y => ?_) (fun H4 p => ?_)
        · obtain ⟨rfl, rfl⟩ := y
          obtain ⟨S4, qs', hq', hQs'⟩ := p
          have hrow4 : RowAt H5 pj r := S4 _ _ hrow
          have step : ∀ (y : Addr) (H7 : Hp), Same H5 H7 → RowAt H7 y (r ++ [lo r + (jj : Int)]) → ∃ acc, H7 D = some (.lst acc) ∧ acc.length < sizeLine ∧
              (Same H' (upd H7 D (.lst (acc ++ [.ref y]))) ∧ ∃ qs, upd H7 D (.lst (acc ++ [.ref y])) D = some (.lst (qs.map V.ref)) ∧ Paired (RowAt (upd H7 D (.lst (acc ++ [.ref y])))) qs (((rowsOf k i).take j).flatMap (ext k) ++ (ext k r).take (jj + 1))) := fun y H7 S7 hy => by
            have hq7 := S7 _ _ hq'
            have ll : qs'.length ≤ 1000 := by
              rw [paired_len hQs']
              exact Nat.le_trans (flat_le (ext k) hr jj) bnd.1
            refine ⟨qs'.map V.ref, hq7, by rw [List.length_map]; exact Nat.lt_of_le_of_lt ll (by decide), Same.upd (S4.trans S7) hDn, qs' ++ [y], by rw [upd_same]; simp, ?_⟩
            rw [List.take_succ, ext_get k r hjj, ← List.append_assoc]
            refine paired_snoc (rows_upd (rows_same hQs' S7) hq7) ?_
            show upd H7 D _ y = _
            rw [upd_ne (fun z => ?_)]
            · exact hy
            · have a' : H7 y = some _ := hy
              rw [z, hq7] at a'; cases a'
          refine ⟨rfl, .ref pj, rfl, .int (lo r + (jj : Int)), rfl, by show 1 ≤ sizeLine; decide, fun u hu => ?_⟩
          have Su : Same H5 (upd H5 u (.tup [.int (lo r + (jj : Int))])) := Same.new hu
          refine ⟨pj, u, r.map V.int, [.int (lo r + (jj : Int))], rfl, rfl, SqT.of (Su _ _ hrow4), SqT.of upd_same, ?_, fun e => ?_, fun _ e => (nomatch e), fun _ _ t ht => ?_⟩
          · rw [List.length_map]; exact Nat.le_trans (by show r.length + 1 ≤ 11; omega) (by decide)
          · have er : r = [] := List.map_eq_nil_iff.mp e
            refine step u _ Su ?_
            show upd H5 u _ u = _
            rw [upd_same, er]; rfl
          · refine step t _ (Su.trans (Same.new ht)) ?_
            show upd _ t _ t = _
            rw [upd_same]; simp
        · obtain ⟨S4, qs', hq', hQs'⟩ := p
          refine ⟨S4, qs', hq', ?_⟩
          rw [flat_snoc (ext k) hr]
          have e : (ext k r).take (k - lo r).toNat = ext k r := by rw [← ext_len]; exact List.take_length
          rw [e] at hQs'
          exact hQs'
      · obtain ⟨S2, qs, hq, hQs⟩ := p
        rw [List.length_map, lenP, List.take_length] at hQs
        exact ⟨S.trans S2, D, qs, _, _, _, rfl, hq, hQs⟩
    · obtain ⟨S, D0', ps, o3, o4, o5, rfl, hD, hP⟩ := hp
      have lenP := paired_len hP
      have eR : ∀ m : Nat, m < k.toNat → (List.range k.toNat)[m]? = some m := fun m h => List.getElem?_range h
      refine ⟨.int k, rfl, k, rfl, by omega, by omega, fun D hDn => ?_⟩
      refine it_wk (walk_range (lo := 0) (n := k.toNat)) (fun m H2 => Same H' H2 ∧ ∃ qs, H2 D = some (.lst (qs.map V.ref)) ∧ Paired (ViewAt H2) qs (((List.range k.toNat).take m).flatMap fun (m : Nat) => (rowsOf k n).map fun r => ((m : Int), r)))
        ⟨Same.new hDn, [], upd_same, .nil⟩ (fun _ _ _ _ => trivial) (fun m x H2 H3 hm p y => ?_) (fun H2 p => ?_)
      · obtain ⟨rfl, rfl⟩ := y
        obtain ⟨S2, qs, hq, hQs⟩ := p
        refine ⟨rfl, .ref D0', rfl, D0', rfl, ⟨_, SqL.of (S2 _ _ hD)⟩, ?_⟩
        refine it_wk (walk_list (K := K) (a := D0') (xs := ps.map V.ref)) (fun j H4 => Same H' H4 ∧ ∃ qs, H4 D = some (.lst (qs.map V.ref)) ∧ Paired (ViewAt H4) qs ((((List.range k.toNat).take m).flatMap fun (m : Nat) => (rowsOf k n).map fun r => ((m : Int), r)) ++ (((rowsOf k n).map fun r => ((m : Int), r)).take j)))
          ⟨S2, qs, hq, by simpa using hQs⟩ (fun j H4 _ p => SqL.of (p.1 _ _ hD)) (fun j x H4 H5 hj p y => ?_) (fun H4 p => ?_)
        · obtain ⟨rfl, hx⟩ := y
          obtain ⟨S4, qs', hq', hQs'⟩ := p
          rw [List.getElem?_map] at hx
          obtain ⟨pj, hpj, rfl⟩ := Option.map_eq_some_iff.mp hx
          obtain ⟨r, hr, hrow⟩ := paired_get hP hpj
          have hrow4 : RowAt H5 pj r := S4 _ _ hrow
          refine ⟨rfl, .int (0 + (m : Int)), rfl, .ref pj, rfl, by show 2 ≤ sizeLine; decide, fun u hu => ?_⟩
          have Su : Same H5 (upd H5 u (.tup [.int (0 + (m : Int)), .ref pj])) := Same.new hu
          have hq7 := Su _ _ hq'
          have ll : qs'.length ≤ 1000 := by
            rw [paired_len hQs']
            exact Nat.le_trans (flat_le (fun (m : Nat) => (rowsOf k n).map fun r => ((m : Int), r)) (eR m hm) j) hA
          refine ⟨qs'.map V.ref, hq7, by rw [List.length_map]; exact Nat.lt_of_le_of_lt ll (by decide), Same.upd (S4.trans Su) hDn, qs' ++ [u], by rw [upd_same]; simp, ?_⟩
          have eg : ((rowsOf k n).map fun r => ((m : Int), r))[j]? = some ((m : Int), r) := by rw [List.getElem?_map, hr]; rfl
          rw [List.take_succ, eg, ← List.append_assoc]
          refine paired_snoc (paired_mono hQs' fun a b h => (h.same Su).up hq7) ?_
          have vu : ViewAt (upd H5 u (.tup [.int (0 + (m : Int)), .ref pj])) u ((m : Int), r) := ⟨pj, by rw [upd_same, Int.zero_add], Su _ _ hrow4⟩
          exact vu.up hq7
        · obtain ⟨S4, qs', hq', hQs'⟩ := p
          refine ⟨S4, qs', hq', ?_⟩
          rw [flat_snoc (fun (m : Nat) => (rowsOf k n).map fun r => ((m : Int), r)) (eR m hm)]
          have e : (((rowsOf k n).map fun r => ((m : Int), r)).take (ps.map V.ref).length) = ((rowsOf k n).map fun r => ((m : Int), r)) := by
            rw [List.length_map, lenP]
            exact List.take_of_length_le (by simp)
          rw [e] at hQs'
          exact hQs'
      · obtain ⟨S2, qs, hq, hQs⟩ := p
        have e : (List.range k.toNat).take k.toNat = List.range k.toNat := List.take_of_length_le (by simp)
        rw [e] at hQs
        refine Or.inl ⟨D, _, rfl, SqL.of hq, fun t ht => ?_⟩
        have St : Same H2 (upd H2 t (.tup (qs.map V.ref))) := Same.new ht
        exact hQ _ t ((S.trans S2).trans St) (.tup (SqT.of upd_same) (dp_views (paired_mono hQs fun a b h => h.same St)))
end
end K02

namespace K02
open PySem PySem.Spec PyProof.Rows L2 KX
abbrev sOther : Stmt := top 22
abbrev sMixed : Stmt := top 23
abbrev sRows : Stmt := top 24
/-! ### the deal among other lists -/
theorem Deal.new {H : Hp} {p q a : Addr} {o : HO} (d : Deal H p q) (n : H a = none) : Deal (upd H a o) p q ∧ a ≠ p ∧ a ≠ q := by
  obtain ⟨ns, b, d⟩ := d
  exact ⟨⟨ns, b, DealAt.new d n⟩, (fun z => by have h := d.hp; rw [← z, n] at h; cases h), (fun z => by have h := d.hq; rw [← z, n] at h; cases h)⟩
theorem Deal.off {H : Hp} {p q a : Addr} {o : HO} (d : Deal H p q) (h1 : a ≠ p) (h2 : a ≠ q) : Deal (upd H a o) p q := by
  obtain ⟨ns, b, d⟩ := d
  exact ⟨ns, b, by rw [upd_ne (Ne.symm h1)]; exact d.hp, by rw [upd_ne (Ne.symm h2)]; exact d.hq, d.ne, d.nn, d.len, d.b0, d.b1⟩
theorem Fix.upd {p q D : Addr} {H H' : Hp} {o : HO} (f : Fix p q H H') (n : H D = none) : Fix p q H (L2.upd H' D o) := fun c u h1 h2 h => by
  rw [upd_ne (fun z => by rw [z, n] at h; cases h)]
  exact f c u h1 h2 h
theorem Fix.keep {H H' : Hp} {p q a : Addr} {o : HO} (f : Fix p q H H') (d : Deal H p q) (h : H a = some o) (n : ∀ xs, o ≠ .lst xs) : H' a = some o := by
  obtain ⟨ns, b, d⟩ := d
  refine f a o (fun e => ?_) (fun e => ?_) h
  · rw [e, d.hp] at h; exact n _ (Option.some.inj h).symm
  · rw [e, d.hq] at h; exact n _ (Option.some.inj h).symm
theorem Fix.free {H H' : Hp} {p q a : Addr} (f : Fix p q H H') (d : Deal H' p q) (h : H' a = none) : H a = none := by
  cases e : H a with
  | none => rfl
  | some o =>
    obtain ⟨ns, b, d⟩ := d
    by_cases h1 : a = p
    · rw [h1, d.hp] at h; cases h
    · by_cases h2 : a = q
      · rw [h2, d.hq] at h; cases h
      · rw [f a o h1 h2 e] at h; cases h
theorem scOther : FnScope ["deal", "kinds", "degree", "many", "turn"] ["deal", "kinds", "degree"] (defScope sOther) := ⟨rfl, rfl, rfl, by decide +kernel, rfl, by decide +kernel, by decide +kernel⟩
theorem scMixed : FnScope ["deal", "some", "left", "found"] ["deal", "some"] (defScope sMixed) := ⟨rfl, rfl, rfl, by decide +kernel, rfl, by decide +kernel, by decide +kernel⟩
theorem scRows : FnScope ["kinds", "many", "found", "turn", "longer", "row", "mode"] ["kinds", "many"] (defScope sRows) := ⟨rfl, rfl, rfl, by decide +kernel, rfl, by decide +kernel, by decide +kernel⟩
def spOther : Sp := fun vs H Q _ => ∃ (p q : Addr) (k : Int), vs = [.ref p, .int k, .non] ∧ Deal H p q ∧ 0 < k ∧ k < 100 ∧
  ∀ (H' : Hp) (v r : Addr) (m : Int) (ns : List Int), Deal H' p q → Fix p q H H' → H' v = some (.tup [.int m, .ref r]) → TupF H' r (ns.map V.int) → 0 ≤ m → m < k → (∀ n ∈ ns, 0 ≤ n ∧ n < k) → ns.length ≤ 4 → ns.Pairwise (· ≤ ·) → Q (.ref v) H'
def spMixed (K : PySem.W.Frag) : Sp := fun vs H Q _ => ∃ (p q a : Addr) (ns : List Int), vs = [.ref p, .ref a] ∧ Deal H p q ∧ SqT K H a (ns.map V.int) ∧ ns.length ≤ 100 ∧
  ∀ (H' : Hp) (l : Addr) (ms : List Int), Deal H' p q → Fix p q H H' → H l = none → l ≠ p → l ≠ q → ms.Perm ns → H' l = some (.lst (ms.map V.int)) → Q (.ref l) H'
def spRows : Sp := fun vs H Q _ => ∃ (k : Int) (n : Nat), vs = [.int k, .int n] ∧ 0 ≤ k ∧ k < 10 ∧ n < 100 ∧ okB k n = true ∧
  ∀ (H' : Hp) (D : Addr) (ps : List Addr), Same H H' → H' D = some (.lst (ps.map V.ref)) → Paired (RowAt H') ps (rowsOf k n) → Q (.ref D) H'
theorem okB_rows {k : Int} {n : Nat} (hok : okB k n = true) : ∀ i, i ≤ n → (rowsOf k i).length ≤ 1000 ∧ ∀ r ∈ rowsOf k i, r.length ≤ 10 ∧ ∀ x ∈ r, 0 ≤ x ∧ x < 10 := fun i hi => by
  unfold okB at hok
  rw [Bool.and_eq_true] at hok
  obtain ⟨_, hR⟩ := hok
  have h := List.all_eq_true.mp hR i (List.mem_range.mpr (by omega))
  rw [Bool.and_eq_true] at h
  refine ⟨of_decide_eq_true h.1, fun r hr => ?_⟩
  have h2 := List.all_eq_true.mp h.2 r hr
  rw [Bool.and_eq_true] at h2
  refine ⟨of_decide_eq_true h2.1, fun x hx => ?_⟩
  have h3 := List.all_eq_true.mp h2.2 x hx
  rw [Bool.and_eq_true] at h3
  exact ⟨of_decide_eq_true h3.1, of_decide_eq_true h3.2⟩
theorem lo_bnd {r : List Int} (rb : ∀ x ∈ r, 0 ≤ x ∧ x < 10) : 0 ≤ lo r ∧ lo r < 10 := by
  unfold lo
  rcases List.eq_nil_or_concat r with e | ⟨l, z, e⟩
  · subst e; decide
  · have e : r = l ++ [z] := by simpa using e
    subst e
    simpa using rb z (by simp)
theorem paired_append {α β : Type} {F : α → β → Prop} {l l' : List α} {m m' : List β} (h : Paired F l m) (h' : Paired F l' m') : Paired F (l ++ l') (m ++ m') := by
  induction h with
  | nil => exact h'
  | cons a _ ih => exact .cons a ih
theorem map_erase {α β : Type} (f : α → β) : ∀ (l : List α) (i : Nat), (l.map f).eraseIdx i = (l.eraseIdx i).map f
  | [], _ => rfl
  | x :: l, 0 => rfl
  | x :: l, i + 1 => by
    show f x :: (l.map f).eraseIdx i = f x :: (l.eraseIdx i).map f
    rw [map_erase f l i]
theorem erase_perm {α : Type} : ∀ (l : List α) (i : Nat) (h : i < l.length), (l[i] :: l.eraseIdx i).Perm l
  | x :: l, 0, _ => List.Perm.refl _
  | x :: l, i + 1, h => by
    have h' : i < l.length := by simpa using h
    show (l[i] :: x :: l.eraseIdx i).Perm (x :: l)
    exact (List.Perm.swap x l[i] (l.eraseIdx i)).trans ((erase_perm l i h').cons x)
theorem seqIx {i : Int} {n : Nat} (h0 : 0 ≤ i) (h1 : i < n) : seqIndex? i n = some i.toNat := by
  have h : ixN n i = some i.toNat := by
    unfold ixN
    rw [if_pos h0]
    first
      | (rw [if_pos (by omega)])
      | (split <;> first | rfl | omega)
  exact (ixN_seq h).1
section
variable {P : Program} {w : World} {K : PySem.W.Frag} {mg : Str → Option Value} {base : Heap} {fA : Addr} {dA : FuncData} {f : Addr} {fd : FuncData}
theorem ok_other (F : Fun K "_law_other" "_law_other" sOther f fd) (FA : Fun K "_law_any" "_law_any" sAny fA dA) (GA : FnOk P w K mg base CX0 1 fA dA ["deal", "bound"] spAny) (gA : mg "_law_any" = some (.ref fA))
    (gr : mg "range" = none) (gt : mg "tuple" = none) (gs : mg "sorted" = none) : FnOk P w K mg base CX0 2 f fd ["deal", "kinds", "degree"] spOther := by
  have bA : Binds K dA ["deal", "bound"] [] := FA.binds fun _ _ _ _ _ _ us hl => match us, hl with | [_, _], _ => rfl
  refine F.ok scOther (fun vs H Q E h => ?_) fun cdv A outer s H vs Q E hr h => ⟨_,
    pss_cons (ps_set (i := 3) scOther.nd rfl (.inl rfl) (by exact (pe_ifExp (pt_cmp (pc_isN (pv 2))) (pe_call GA hr (by rfl) gA FA.kp bA .nil pass0 (by exact pa_cons (pv 0) (pa_cons pe_int pa_nil))) (pv 2))))
    (pss_one (ps_ret (pe_tup (pa_cons (pe_call GA hr (by rfl) gA FA.kp bA .nil pass0 (by exact pa_cons (pv 0) (pa_cons (pv 1) pa_nil)))
      (pa_cons (pe_tupleF (by rfl) gt (pe_callB cr_sorted (by rfl) gs (by decide +kernel) (by exact pa_cons (by exact (pe_lc (own := [("turn", 4)]) (g := gName 4) (tt := tYes) (by rfl) scOther.nd (pi_range1 (by rfl) gr (by exact pa_cons (pv 3) pa_nil))
        (blkOk_by (own := [("turn", 4)]) (N := ["deal", "kinds", "degree", "many", "turn"]) (sc := defScope sOther) (by decide +kernel)) (fun _ _ _ _ _ => pg_name (i := 4) scOther.nd rfl (Or.inl rfl)) (fun _ _ _ _ _ => pts_nil)
        (fun _ _ _ _ _ => pe_call GA hr (by rfl) gA FA.kp bA .nil pass0 (by exact pa_cons (pv 0) (pa_cons (pv 1) pa_nil))))) pa_nil))) pa_nil))))), ?_⟩
  · obtain ⟨p, q, k, rfl, _⟩ := h
    rfl
  · obtain ⟨p, q, k, rfl, d, k0, k1, hQ⟩ := h
    refine ⟨.non, rfl, true, rfl, iteT ⟨.ref p, rfl, p, q, 5, rfl, d, by decide, by decide, fun H1 t d1 f1 t0 t1 => ?_⟩⟩
    refine ⟨.ref p, rfl, .int k, rfl, p, q, k, rfl, d1, k0, by omega, fun H2 m d2 f2 m0 m1 => ?_⟩
    refine ⟨.int t, rfl, t, rfl, by omega, by omega, fun D hD => ?_⟩
    obtain ⟨dD, n1, n2⟩ := d2.new (o := .lst []) hD
    refine lc_range (lo := 0) (n := t.toNat) (fun i H' => Deal H' p q ∧ Fix p q H2 H' ∧ ∃ ns : List Int, H' D = some (.lst (ns.map V.int)) ∧ ns.length = i ∧ ∀ n ∈ ns, 0 ≤ n ∧ n < k)
      ⟨dD, Fix.new hD, [], upd_same, rfl, by simp⟩ (fun i H' hi z => ?_) (fun H' z => ?_)
    · obtain ⟨d3, f3, ns, hn, hl, hb⟩ := z
      refine ⟨rfl, .ref p, rfl, .int k, rfl, p, q, k, rfl, d3, k0, by omega, fun H4 j d4 f4 j0 j1 => ⟨ns.map V.int, f4 _ _ n1 n2 hn, ?_, d4.off n1 n2, (f3.trans f4).upd hD, ns ++ [j], ?_, ?_, ?_⟩⟩
      · rw [List.length_map]; exact Nat.lt_of_lt_of_le (by omega : ns.length < 10) (by decide)
      · rw [upd_same]; simp
      · simp [hl]
      · intro n hn
        rcases List.mem_append.mp hn with h | h
        · exact hb n h
        · rw [List.mem_singleton.mp h]; exact ⟨j0, j1⟩
    · obtain ⟨d3, f3, ns, hn, hl, hb⟩ := z
      refine ⟨D, ns, rfl, SqL.of hn, by omega, fun ns' u perm srt hu => ⟨u, _, rfl, SqL.of upd_same, fun r o hr' oc od => ⟨by show 2 ≤ sizeLine; decide, fun v hv => ?_⟩⟩⟩
      have S : Same H' (upd (upd (upd H' u (.lst (ns'.map V.int))) r (.frz o (.tup (ns'.map V.int)))) v (.tup [.int m, .ref r])) := ((Same.new hu).trans (Same.new hr')).trans (Same.new hv)
      refine hQ _ v r m ns' (d3.same S) (f1.trans (f2.trans (f3.trans (Fix.same S)))) upd_same ⟨o, ?_, oc, od⟩ m0 m1 (fun n hn => hb n (perm.mem_iff.mp hn)) (by rw [perm.length_eq]; omega) srt
      rw [upd_ne (fun z => by rw [← z, upd_same] at hv; cases hv), upd_same]
theorem ok_mixed (F : Fun K "_law_mixed" "_law_mixed" sMixed f fd) (FA : Fun K "_law_any" "_law_any" sAny fA dA) (GA : FnOk P w K mg base CX0 1 fA dA ["deal", "bound"] spAny) (gA : mg "_law_any" = some (.ref fA))
    (gl : mg "list" = none) (gn : mg "len" = none) : FnOk P w K mg base CX0 2 f fd ["deal", "some"] (spMixed K) := by
  have bA : Binds K dA ["deal", "bound"] [] := FA.binds fun _ _ _ _ _ _ us hl => match us, hl with | [_, _], _ => rfl
  refine F.ok scMixed (fun vs H Q E h => ?_) fun cdv A outer s H vs Q E hr h => ⟨_,
    pss_cons (ps_par (i := 2) (j := 3) (by rfl) scMixed.nd rfl rfl (by decide) rfl rfl (by exact pa_cons (pe_callTy call_list_of (by rfl) gl (by decide +kernel) (by exact pa_cons (pv 1) pa_nil)) (pa_cons (pe_lst pa_nil) pa_nil)) (by rfl))
    (pss_cons (ps_while PassesOwn.never (pt_cmpR (op_neD hr.units) (pv 2) (pe_lst pa_nil) (nomark _))
      (pss_one (ps_expr (pe_bm PySem.F.plainAttrs_list PySem.F.slot_list_append PySem.F.type_list_append mt_append (pv 3)
        (by exact pa_cons (pe_bm PySem.F.plainAttrs_list PySem.F.slot_list_pop PySem.F.type_list_pop mt_popAt (pv 2)
          (by exact pa_cons (pe_call GA hr (by rfl) gA FA.kp bA .nil pass0 (by exact pa_cons (pv 0) (pa_cons (pe_callB call_len_seq (by rfl) gn (by decide +kernel) (by exact pa_cons (pv 2) pa_nil)) pa_nil))) pa_nil)) pa_nil)))))
    (pss_one (ps_ret (pv 3)))), ?_⟩
  · obtain ⟨p, q, a, ns, rfl, _⟩ := h
    rfl
  · obtain ⟨p, q, a, ns, rfl, d, ha, hl, hQ⟩ := h
    refine ⟨.ref a, rfl, a, _, rfl, Or.inr ha, fun l hl1 => ⟨by show 0 ≤ sizeLine; decide, fun g hg => ⟨_, _, rfl, ?_⟩⟩⟩
    obtain ⟨d1, l1, l2⟩ := d.new (o := .lst (ns.map V.int)) hl1
    obtain ⟨d2, g1, g2⟩ := d1.new (o := .lst []) hg
    have gl' : g ≠ l := fun z => by rw [z, upd_same] at hg; cases hg
    have gn' : H g = none := by rw [upd_ne gl'] at hg; exact hg
    have hl2 : upd (upd H l (.lst (ns.map V.int))) g (.lst []) l = some (.lst (ns.map V.int)) := by rw [upd_ne (Ne.symm gl'), upd_same]
    have hg2 : upd (upd H l (.lst (ns.map V.int))) g (.lst []) g = some (.lst []) := upd_same
    have f2 : Fix p q H (upd (upd H l (.lst (ns.map V.int))) g (.lst [])) := ((Fix.refl p q H).upd hl1).upd gn'
    generalize upd (upd H l (.lst (ns.map V.int))) g (.lst []) = H2 at d2 hl2 hg2 f2
    refine ⟨fun n σ H' => σ = [some (.ref p), some (.ref a), some (.ref l), some (.ref g)] ∧ Deal H' p q ∧ Fix p q H H' ∧ ∃ ls fs : List Int, H' l = some (.lst (ls.map V.int)) ∧ H' g = some (.lst (fs.map V.int)) ∧ (fs ++ ls).Perm ns ∧ n = ls.length,
      ⟨_, rfl, d2, f2, ns, [], hl2, hg2, by simp, rfl⟩, ?_⟩
    rintro n σ H' ⟨rfl, d', f', ls, fs, hls, hfs, perm, rfl⟩
    have len : fs.length + ls.length = ns.length := by rw [← perm.length_eq, List.length_append]
    refine ⟨.ref l, rfl, by show 0 ≤ sizeLine; decide, fun e he => ?_⟩
    have S3 : Same H' (upd H' e (.lst [])) := Same.new he
    refine ⟨_, _, dp_ints (S3 _ _ hls), .lst (ds := []) (SqL.of upd_same) .nil, sh_ints ls, by decide, _, rfl, ?_⟩
    rw [ne_nil_ints]
    have d3 := d'.same S3
    have f3 : Fix p q H (upd H' e (.lst [])) := f'.trans (Fix.same S3)
    have hls3 := S3 _ _ hls
    have hfs3 := S3 _ _ hfs
    generalize upd H' e (.lst []) = H3 at d3 f3 hls3 hfs3
    by_cases h0 : ls = []
    · subst h0
      refine iteF ?_
      exact ⟨.ref g, rfl, hQ H3 g fs d3 f3 gn' g1 g2 (by simpa using perm) hfs3⟩
    · have nz : (!decide (ls = [])) = true := by simp [h0]
      have pos : 0 < ls.length := List.length_pos_iff.mpr h0
      refine iteT' nz ⟨fun σ' H'' => σ' = [some (.ref p), some (.ref a), some (.ref l), some (.ref g)] ∧ Deal H'' p q ∧ Fix p q H H'' ∧ ∃ ls' fs : List Int, H'' l = some (.lst (ls'.map V.int)) ∧ H'' g = some (.lst (fs.map V.int)) ∧ (fs ++ ls').Perm ns ∧ ls'.length < ls.length,
        fun σ' H'' ⟨e1, e2, e3, ls', fs', e4, e5, e6, e7⟩ => ⟨ls'.length, e7, e1, e2, e3, ls', fs', e4, e5, e6, rfl⟩, ?_⟩
      refine ⟨.ref g, rfl, .inl ⟨rfl, _, SqL.of hfs3⟩, .ref l, rfl, .inl ⟨rfl, _, SqL.of hls3⟩, .ref p, rfl, .ref l, rfl, l, _, rfl, Or.inl (SqL.of hls3), p, q, _, rfl, d3, by rw [List.length_map]; omega, by rw [List.length_map]; omega, fun H4 i d4 f4 i0 i1 => ?_⟩
      rw [List.length_map] at i1
      have hls4 := f4 _ _ l1 l2 hls3
      have hfs4 := f4 _ _ g1 g2 hfs3
      have hi : i.toNat < ls.length := by omega
      refine ⟨l, ls.map V.int, i, i.toNat, .int ls[i.toNat], rfl, rfl, hls4, by omega, by omega, ?_, ?_, ?_⟩
      · rw [List.length_map]; exact seqIx i0 i1
      · rw [List.getElem?_map, List.getElem?_eq_getElem hi]; rfl
      have hg5 : upd H4 l (.lst ((ls.map V.int).eraseIdx i.toNat)) g = some (.lst (fs.map V.int)) := by rw [upd_ne gl']; exact hfs4
      refine ⟨g, _, _, rfl, rfl, hg5, ?_, rfl, (d4.off l1 l2).off g1 g2, ((f3.trans f4).upd hl1).upd gn', ls.eraseIdx i.toNat, fs ++ [ls[i.toNat]], ?_, ?_, ?_, ?_⟩
      · rw [List.length_map]; exact Nat.lt_of_le_of_lt (by omega : fs.length ≤ 100) (by decide)
      · rw [upd_ne (Ne.symm gl'), upd_same, map_erase]
      · rw [upd_same]; simp
      · refine List.Perm.trans ?_ perm
        rw [List.append_assoc]
        refine List.Perm.append_left fs ?_
        exact erase_perm ls i.toNat hi
      · rw [List.length_eraseIdx, if_pos hi]; omega
theorem eqv_trows (r : List Int) : PyData.eqv (.tuple (r.map PyData.int)) (.tuple ([] : List PyData)) = decide (r = []) := by cases r <;> rfl
theorem lo_if {K : PySem.W.Frag} {i : Nat} {σ : L2.St} {H : Hp} {Q : VK} (h : ∃ (a : Addr) (r : List Int), σ[i]? = some (some (.ref a)) ∧ H a = some (.tup (r.map V.int)) ∧ ∀ e, H e = none → Q (.int (lo r)) (upd H e (.tup []))) :
    tIf (tTest (tOp (rNeD K) (tVar i) (tTup tNil))) (tOp (rIxT K) (tVar i) (tUn (rU fun i => .int (-i)) (tC (.int 1)))) (tC (.int 0)) σ H Q := by
  obtain ⟨a, r, h1, h2, h3⟩ := h
  refine ⟨.ref a, h1, by show 0 ≤ sizeLine; decide, fun e he => ?_⟩
  have S : Same H (upd H e (.tup [])) := Same.new he
  have q := h3 e he
  refine ⟨_, _, dp_tints (Tup.of (S _ _ h2)), .tup (ds := []) (SqT.of upd_same) .nil, sh_tints r, by decide, _, rfl, ?_⟩
  rw [eqv_trows]
  rcases List.eq_nil_or_concat r with z | ⟨l, x, z⟩
  · subst z
    exact iteF q
  · have z : r = l ++ [x] := by simpa using z
    subst z
    rw [lo_snoc] at q
    have hs := S _ _ h2
    have hm : (l ++ [x]).map V.int = l.map V.int ++ [V.int x] := by simp
    rw [hm] at hs
    exact iteT' (by simp) ⟨.ref a, h1, 1, rfl, a, _, -1, .int x, rfl, rfl, SqT.of hs, atI_last _ _, q⟩
theorem ok_rows (F : Fun K "_law_rows" "_law_rows" sRows f fd) (gr : mg "range" = none) : FnOk P w K mg base CX0 1 f fd ["kinds", "many"] spRows := by
  refine F.ok scRows (fun vs H Q E h => ?_) fun cdv A outer s H vs Q E hr h => ⟨_,
    pss_cons (ps_set (i := 2) scRows.nd rfl (.inl rfl) (pe_lst (pa_cons (pe_tup pa_nil) pa_nil)))
    (pss_cons (ps_for PassesOwn.never rfl (pi_range1 (by rfl) gr (by exact pa_cons (pv 1) pa_nil)) (pg_name (i := 3) scRows.nd rfl (.inl rfl))
      (pss_cons (ps_set (i := 4) scRows.nd rfl (.inl rfl) (pe_lst pa_nil))
      (pss_cons (ps_for PassesOwn.never rfl (pi_list (pv 2)) (pg_name (i := 5) scRows.nd rfl (.inr rfl))
        (pss_one (ps_set (i := 4) scRows.nd rfl (.inl rfl) (pe_op op_cat (pv 4) (by exact (pe_lc (own := [("mode", 6)]) (g := gName 6) (tt := tYes) (by rfl) scRows.nd
          (pi_range2 (by rfl) gr (by exact pa_cons (by exact (pe_ifExp (pt_cmpR (op_neD hr.units) (pv 5) (pe_tup pa_nil) (nomark _)) (pe_ix ix_tup (pv 5) (pe_un un_neg pe_int) (fun _ _ => rfl)) pe_int)) (pa_cons (pv 0) pa_nil)))
          (blkOk_by (own := [("mode", 6)]) (N := ["kinds", "many", "found", "turn", "longer", "row", "mode"]) (sc := defScope sRows) (by decide +kernel)) (fun _ _ _ _ _ => pg_name (i := 6) scRows.nd rfl (Or.inl rfl)) (fun _ _ _ _ _ => pts_nil)
          (fun _ _ _ _ _ => pe_op (r := rCatA K) op_catA (pv 5) (pe_tup (pa_cons (pv 6) pa_nil)))))))))
      (pss_one (ps_set (i := 2) scRows.nd rfl (.inl rfl) (pv 4))))))
    (pss_one (ps_ret (pv 2)))), ?_⟩
  · obtain ⟨k, n, rfl, _⟩ := h
    rfl
  · obtain ⟨k, n, rfl, k0, k1, n1, hok, hQ⟩ := h
    have hR := okB_rows hok
    refine ⟨by show 0 ≤ sizeLine; decide, fun e he => ⟨by show 1 ≤ sizeLine; decide, fun D0 hD0 => ?_⟩⟩
    have S1 : Same H (upd (upd H e (.tup [])) D0 (.lst [.ref e])) := (Same.new he).trans (Same.new hD0)
    have h1 : upd (upd H e (.tup [])) D0 (.lst [.ref e]) D0 = some (.lst [.ref e]) := upd_same
    have h2 : upd (upd H e (.tup [])) D0 (.lst [.ref e]) e = some (.tup []) := by
      rw [upd_ne (fun z => by rw [← z, upd_same] at hD0; cases hD0), upd_same]
    generalize upd (upd H e (.tup [])) D0 (.lst [.ref e]) = H1 at S1 h1 h2
    refine ⟨.int n, rfl, n, rfl, by omega, by omega, for_range (n := n) (fun i σ H' => Same H H' ∧ ∃ D ps o3 o4 o5 o6, σ = [some (.int k), some (.int n), some (.ref D), o3, o4, o5, o6] ∧ H' D = some (.lst (ps.map V.ref)) ∧ Paired (RowAt H') ps (rowsOf k i))
      ⟨S1, D0, [e], _, _, _, _, rfl, h1, .cons h2 .nil⟩ (fun i σ H' hi hp => ?_) (fun σ H' hp => ?_)⟩
    · obtain ⟨S, D0', ps, o3, o4, o5, o6, rfl, hD, hP⟩ := hp
      have lenP := paired_len hP
      have bnd := hR (i + 1) (by omega)
      refine ⟨by show 0 ≤ sizeLine; decide, fun L hL => ?_⟩
      have SL : Same H' (upd H' L (.lst [])) := Same.new hL
      refine ⟨.ref D0', rfl, D0', rfl, ⟨_, SqL.of (SL _ _ hD)⟩, for_list (xs := ps.map V.ref) (fun j σ H2 => Same H' H2 ∧ ∃ L qs o5 o6, σ = [some (.int k), some (.int n), some (.ref D0'), some (.int (0 + (i : Int))), some (.ref L), o5, o6] ∧ H2 L = some (.lst (qs.map V.ref)) ∧ Paired (RowAt H2) qs (((rowsOf k i).take j).flatMap (ext k)))
        ⟨SL, L, [], _, _, rfl, upd_same, .nil⟩ (fun j σ H2 _ p => SqL.of (p.1 _ _ hD)) (fun j x σ H2 hx p => ?_) (fun σ H2 p => ?_)⟩
      · obtain ⟨S2, L, qs, o5, o6, rfl, hq, hQs⟩ := p
        rw [List.getElem?_map] at hx
        obtain ⟨pj, hpj, rfl⟩ := Option.map_eq_some_iff.mp hx
        obtain ⟨r, hr', hrow⟩ := paired_get hP hpj
        have hrow2 : RowAt H2 pj r := S2 _ _ hrow
        obtain ⟨rl, rb⟩ := (hR i (by omega)).2 r (List.mem_of_getElem? hr')
        have lob : 0 ≤ lo r ∧ lo r < 10 := lo_bnd rb
        refine ⟨.ref L, rfl, ?_⟩
        refine lo_if ⟨pj, r, rfl, hrow2, fun e he => ?_⟩
        have Se : Same H2 (upd H2 e (.tup [])) := Same.new he
        have Sb := S2.trans Se
        have hqb := Se _ _ hq
        have hQb := rows_same hQs Se
        have hrb : RowAt (upd H2 e (.tup [])) pj r := Se _ _ hrow2
        generalize upd H2 e (.tup []) = H3 at Sb hqb hQb hrb
        refine ⟨.int k, rfl, lo r, k, rfl, ⟨by omega, by omega, by omega, by omega⟩, fun D hDn => ?_⟩
        have small : ∀ jj, ((ext k r).take jj).length ≤ 1000 := fun jj => by
          have := flat_le (ext k) hr' jj
          rw [List.length_append] at this
          have b : (stepR k (rowsOf k i)).length ≤ 1000 := bnd.1
          have e : (List.flatMap (ext k) (rowsOf k i)).length = (stepR k (rowsOf k i)).length := rfl
          omega
        refine lc_range (lo := lo r) (n := (k - lo r).toNat) (fun jj H4 => Same H3 H4 ∧ ∃ qs, H4 D = some (.lst (qs.map V.ref)) ∧ Paired (RowAt H4) qs ((ext k r).take jj))
          ⟨Same.new hDn, [], upd_same, .nil⟩ (fun jj H4 hjj p => ?_) (fun H4 p => ?_)
        · obtain ⟨S4, qs', hq', hQs'⟩ := p
          have hrow4 : RowAt H4 pj r := S4 _ _ hrb
          have step : ∀ (y : Addr) (H7 : Hp), Same H4 H7 → RowAt H7 y (r ++ [lo r + (jj : Int)]) → ∃ acc, H7 D = some (.lst acc) ∧ acc.length < sizeLine ∧
              (Same H3 (upd H7 D (.lst (acc ++ [.ref y]))) ∧ ∃ qs, upd H7 D (.lst (acc ++ [.ref y])) D = some (.lst (qs.map V.ref)) ∧ Paired (RowAt (upd H7 D (.lst (acc ++ [.ref y])))) qs ((ext k r).take (jj + 1))) := fun y H7 S7 hy => by
            have hq7 := S7 _ _ hq'
            have ll : qs'.length ≤ 1000 := by
              rw [paired_len hQs']
              exact small jj
            refine ⟨qs'.map V.ref, hq7, by rw [List.length_map]; exact Nat.lt_of_le_of_lt ll (by decide), Same.upd (S4.trans S7) hDn, qs' ++ [y], by rw [upd_same]; simp, ?_⟩
            rw [List.take_succ, ext_get k r hjj]
            refine paired_snoc (rows_upd (rows_same hQs' S7) hq7) ?_
            show upd H7 D _ y = _
            rw [upd_ne (fun z => ?_)]
            · exact hy
            · have a' : H7 y = some _ := hy
              rw [z, hq7] at a'; cases a'
          refine ⟨rfl, .ref pj, rfl, .int (lo r + (jj : Int)), rfl, by show 1 ≤ sizeLine; decide, fun u hu => ?_⟩
          have Su : Same H4 (upd H4 u (.tup [.int (lo r + (jj : Int))])) := Same.new hu
          refine ⟨pj, u, r.map V.int, [.int (lo r + (jj : Int))], rfl, rfl, SqT.of (Su _ _ hrow4), SqT.of upd_same, ?_, fun e => ?_, fun _ e => (nomatch e), fun _ _ t ht => ?_⟩
          · rw [List.length_map]; exact Nat.le_trans (by show r.length + 1 ≤ 11; omega) (by decide)
          · have er : r = [] := List.map_eq_nil_iff.mp e
            refine step u _ Su ?_
            show upd H4 u _ u = _
            rw [upd_same, er]; rfl
          · refine step t _ (Su.trans (Same.new ht)) ?_
            show upd _ t _ t = _
            rw [upd_same]; simp
        · obtain ⟨S4, qs', hq', hQs'⟩ := p
          have e : (ext k r).take (k - lo r).toNat = ext k r := by rw [← ext_len]; exact List.take_length
          rw [e] at hQs'
          have hq4 := S4 _ _ hqb
          have hQ4 := rows_same hQb S4
          have l1 := paired_len hQ4
          have l2 := paired_len hQs'
          have b0 := flat_le (ext k) hr' (k - lo r).toNat
          rw [e, List.length_append] at b0
          have b : (stepR k (rowsOf k i)).length ≤ 1000 := bnd.1
          have eS : (List.flatMap (ext k) (rowsOf k i)).length = (stepR k (rowsOf k i)).length := rfl
          refine ⟨L, D, _, _, rfl, rfl, hq4, hq', ?_, fun M hM => ?_⟩
          · rw [List.length_map, List.length_map]
            exact Nat.le_trans (by omega : qs.length + qs'.length ≤ 1000) (by decide)
          have SM : Same H4 (upd H4 M (.lst (qs.map V.ref ++ qs'.map V.ref))) := Same.new hM
          refine ⟨(Sb.trans S4).trans SM, M, qs ++ qs', _, _, rfl, by rw [upd_same]; simp, ?_⟩
          rw [flat_snoc (ext k) hr']
          exact paired_append (rows_same hQ4 SM) (rows_same hQs' SM)
      · obtain ⟨S2, L, qs, o5, o6, rfl, hq, hQs⟩ := p
        rw [List.length_map, lenP, List.take_length] at hQs
        exact ⟨.ref L, rfl, S.trans S2, L, qs, _, _, _, _, rfl, hq, hQs⟩
    · obtain ⟨S, D0', ps, o3, o4, o5, o6, rfl, hD, hP⟩ := hp
      exact ⟨.ref D0', rfl, hQ H' D0' ps S hD hP⟩
end
end K02

namespace K02
open PySem PySem.Spec PyProof.Rows L2 KX LamX
abbrev sRefused : Stmt := top 25
theorem scRef : FnScope ["work", "e"] ["work"] (defScope sRefused) := ⟨rfl, rfl, rfl, by decide +kernel, rfl, by decide +kernel, by decide +kernel⟩
theorem pss_given {X : Cx} {ss : List Stmt} {t : TS} {p : Prop} {n : Nat} (hn : X.N.length = n) (h : p → PSs X ss t) : PSs X ss (fun D σ H => p ∧ (σ.length = n → t D σ H)) :=
  ⟨fun pins s σ H D I q => (h q.1).run pins s σ H D I (q.2 (I.len.trans hn))⟩
/-- what is known of the error's class -/
structure IsQ (K : PySem.W.Frag) (CQ CN : Addr) : Prop where
  x : ExcC K CQ
  kit : PySem.W.kitOne K (.ref CQ) (.ref CN) = some true
  xf : XfC K CQ
  no : PySem.W.findIn K (.ref CQ) "at" = some none
  exm : PySem.W.exmOne K (.ref CQ) (.ref CQ) = some true
def TTref (CQ : Addr) : (XK → Hp → VK → Prop) → Hp → VK → Prop := fun tl H Q =>
  tl (fun cls d H' => ∃ dd v, cls = .ref CQ ∧ d = some dd ∧ H' dd = some (.xd [(("at" : Str), v)]) ∧ Q v H') H (fun _ H' => Q .non H')
def tRefS (K : PySem.W.Frag) (CQ CN a : Addr) (cls : Value) (d : Option Addr) : TS :=
  tRet (tIf (tB (tCB (rIsP K CQ a d) (tCons (tVar 1) (tCons (tC (.ref CN)) tNil)))) (tXf a cls d CQ "at" (tVar 1)) (tC .non))
theorem gives {X : Cx} {g CQ CN : Addr} {cdg : Value} {q : Str} (T : IsQ X.K CQ CN) (gQ : X.mg "InvalidView" = some (.ref CQ)) (gN : X.mg "NetError" = some (.ref CN)) (gis : X.mg "isinstance" = none) :
    GivesTo X ["work", "e"] "_law_refused" (defScope sRefused) g cdg (defBody sRefused) "work" q (TTref CQ) := by
  intro f c' s H Q tl act hc h
  refine ⟨_, pss_cons (L2.ps_try_as (X := (cxOf C8.CX0 X.prog X.w X.K X.mg X.base ["work", "e"] "_law_refused" (defScope sRefused) g cdg X.A X.stack s H C8.E0).nox) (i := 1) (c := .ref CQ)
      (tb := fun W D σ H => ∃ Ech : XK, (∀ cls d σ' H', Ech cls d H' → W cls d σ' H') ∧ σ[0]? = some (some (.ref f)) ∧ H c' = some (CodeO c' q) ∧ tl Ech H (fun _ H' => D.nx σ H'))
      (ts := fun a cls d D σ H => cls = .ref CQ ∧ (σ.length = 2 → tRefS X.K CQ CN a cls d D σ H)) (Wout := fun _ _ _ _ => False)
      rfl rfl scRef.nd rfl rfl ⟨rfl, by decide, .inl gQ⟩ LamX.takes0 (fun W pn xe tk _ => ?_) (fun a oe cls d pn hz hf => pss_given (n := 2) rfl fun hcls => ?_)) (pss_one (ps_ret pe_non)), ?_⟩
  · refine ⟨fun pins s' σ H' D I h' => ?_⟩
    obtain ⟨Ech, hW, h1, h2, h3⟩ := h'
    exact (pss_one (ps_expr (act W pn xe Ech _ _ tk hW))).run pins s' σ H' D I ⟨h1, h2, h3⟩
  · subst hcls
    exact pss_one (ps_ret (pe_ifExp (pt_val (pe_callB (call_isP T.x List.mem_cons_self hz hf) (by rfl) gis (by decide +kernel)
      (by exact pa_cons (pv 1) (pa_cons (pe_glob (v := .ref CN) rfl gN rfl) pa_nil)))) (pe_xf T.xf T.no hz hf (pv 1)) pe_non))
  · refine ⟨fun cls d H' => ∃ dd v, cls = .ref CQ ∧ d = some dd ∧ H' dd = some (.xd [(("at" : Str), v)]) ∧ Q v H', fun cls d σ' H' h => ?_, rfl, hc, h⟩
    obtain ⟨dd, v, rfl, rfl, hdd, hQ⟩ := h
    refine ⟨true, T.exm, fun _ a _ => ⟨rfl, fun hl => ?_⟩, fun z => Bool.noConfusion z⟩
    rw [List.length_set] at hl
    have l1 : (σ'.set 1 (some (V.ref a)))[1]? = some (some (V.ref a)) := by
      rw [List.getElem?_set_self (by omega)]
    exact ⟨.ref a, l1, Or.inr ⟨dd, _, rfl, hdd⟩, .ref CN, .ref CN, true, rfl, fun u hu => hu, T.kit, true, rfl, iteT ⟨.ref a, l1, rfl, rfl, dd, _, v, rfl, hdd, by simp [List.lookup], hQ⟩⟩
end K02

namespace K02
open PySem PySem.Spec PyProof.Rows L2 KX LamX
/-! ### what stays -/
structure Kp (p q : Addr) (H H' : Hp) : Prop where
  nl : ∀ a o, H a = some o → (∀ xs, o ≠ .lst xs) → (∀ ps, o ≠ .tbl ps) → H' a = some o
  ls : ∀ a xs, a ≠ p → a ≠ q → H a = some (.lst xs) → H' a = some (.lst xs)
theorem Kp.trans {p q : Addr} {H H1 H2 : Hp} (a : Kp p q H H1) (b : Kp p q H1 H2) : Kp p q H H2 :=
  ⟨fun c o h n t => b.nl c o (a.nl c o h n t) n t, fun c xs h1 h2 h => b.ls c xs h1 h2 (a.ls c xs h1 h2 h)⟩
theorem Kp.same {p q : Addr} {H H' : Hp} (s : Same H H') : Kp p q H H' := ⟨fun a o h _ _ => s a o h, fun a xs _ _ h => s a _ h⟩
theorem Kp.fix {p q : Addr} {H H' : Hp} (d : Deal H p q) (f : Fix p q H H') : Kp p q H H' := ⟨fun a o h n _ => f.keep d h n, fun a xs h1 h2 h => f a _ h1 h2 h⟩
theorem Kp.extN {p q : Addr} {H H' : Hp} (e : ExtN H H') : Kp p q H H' := ⟨fun a o h _ t => e a o h t, fun a xs _ _ h => e a _ h (fun ps z => nomatch z)⟩
theorem tabs_fix {T : List (Addr × Str)} {H H' : Hp} {p q : Addr} (t : Tabs T H) (d : Deal H p q) (f : Fix p q H H') : Tabs T H' := fun z hz => by
  obtain ⟨ps, h1, h2, h3⟩ := t z hz
  refine ⟨ps, f.keep d h1 (fun xs e => nomatch e), h2, fun pos cv hc => ?_⟩
  obtain ⟨c, e1, e2⟩ := h3 pos cv hc
  exact ⟨c, e1, f.keep d e2 (fun xs e => by unfold CodeO at e; cases e)⟩
theorem Deal.extN {H H' : Hp} {p q : Addr} (d : Deal H p q) (e : ExtN H H') : Deal H' p q := by
  obtain ⟨ns, b, d⟩ := d
  exact ⟨ns, b, e _ _ d.hp (fun ps z => nomatch z), e _ _ d.hq (fun ps z => nomatch z), d.ne, d.nn, d.len, d.b0, d.b1⟩
theorem TupF.kp {p q : Addr} {H H' : Hp} {a : Addr} {xs : List V} (h : TupF H a xs) (k : Kp p q H H') : TupF H' a xs := by
  obtain ⟨o, h, z⟩ := h
  exact ⟨o, k.nl _ _ h (fun xs e => nomatch e) (fun ps e => nomatch e), z⟩
theorem tup_kp {p q : Addr} {H H' : Hp} {a : Addr} {xs : List V} (h : H a = some (.tup xs)) (k : Kp p q H H') : H' a = some (.tup xs) :=
  k.nl _ _ h (fun xs e => nomatch e) (fun ps e => nomatch e)
/-! ### strange modes -/
theorem kin_bl {K : PySem.W.Frag} {H : Hp} (b : Bool) : Kin K H (.bl b) none := .oth (b1 := true) (b2 := true) (.base (.bl b)) (by decide +kernel) (by decide +kernel) rfl
theorem kin_str {K : PySem.W.Frag} {H : Hp} (x : Str) : Kin K H (.str x) none := .oth (b1 := false) (b2 := false) (.base (.str x)) (by decide +kernel) (by decide +kernel) rfl
theorem kin_non {K : PySem.W.Frag} {H : Hp} : Kin K H .non none := .oth (b1 := false) (b2 := false) (.base .non) (by decide +kernel) (by decide +kernel) rfl
theorem kin_tup {K : PySem.W.Frag} {H : Hp} {a : Addr} {xs : List V} (h : H a = some (.tup xs)) : Kin K H (.ref a) none := .oth (b1 := false) (b2 := false) (.base (.tup h)) (by decide +kernel) (by decide +kernel) rfl
def Strange (K : PySem.W.Frag) (H : Hp) (x : V) : Prop := (∃ o, (∀ H', Kin K H' x o) ∧ bel4 o = false) ∨ ∃ t, x = .ref t ∧ H t = some (.tup [.int 0])
theorem Strange.kp {K : PySem.W.Frag} {p q : Addr} {H H' : Hp} {x : V} (h : Strange K H x) (k : Kp p q H H') : Strange K H' x := by
  rcases h with h | ⟨t, e, h⟩
  · exact Or.inl h
  · exact Or.inr ⟨t, e, tup_kp h k⟩
theorem Strange.kin {K : PySem.W.Frag} {H : Hp} {x : V} (h : Strange K H x) : ∃ o, Kin K H x o ∧ bel4 o = false := by
  rcases h with ⟨o, h, b⟩ | ⟨t, rfl, h⟩
  · exact ⟨o, h H, b⟩
  · exact ⟨none, kin_tup h, rfl⟩
/-! ### classes, kept -/
theorem NbIs.same {K : PySem.W.Frag} {H H' : Hp} {x : V} {b : Bool} (h : NbIs K H x b) (s : Same H H') : NbIs K H' x b := by
  cases h with
  | oth h => exact .oth (sqx_same h s)
  | long h l z => exact .long (sqx_same h s) l z
  | all h k l => exact .all (sqx_same h s) (kins_same k s) l
theorem ViewIs.same {K : PySem.W.Frag} {H H' : Hp} {x : V} {b : Bool} (h : ViewIs K H x b) (s : Same H H') : ViewIs K H' x b := by
  cases h with
  | notup t k => exact .notup (tyx_same t s) k
  | len h l => exact .len (h.same s) l
  | mode h k b => exact .mode (h.same s) (kin_same k s) b
  | nb h k t kt => exact .nb (h.same s) (kin_same k s) (tyx_same t s) kt
  | bad h k hz n => exact .bad (h.same s) (kin_same k s) (hz.same s) (n.same s)
  | good h hz m0 m4 hn l hb => exact .good (h.same s) (hz.same s) m0 m4 hn l hb
theorem nt_lst {K : PySem.W.Frag} {H : Hp} {a : Addr} {xs : List V} (h : H a = some (.lst xs)) : ViewIs K H (.ref a) false := .notup (.base (.lst h)) (by decide +kernel)
theorem nt_non {K : PySem.W.Frag} {H : Hp} : ViewIs K H .non false := .notup (.base .non) (by decide +kernel)
theorem nt_int {K : PySem.W.Frag} {H : Hp} {i : Int} : ViewIs K H (.int i) false := .notup (.base (.int i)) (by decide +kernel)
theorem nt_str {K : PySem.W.Frag} {H : Hp} {x : Str} : ViewIs K H (.str x) false := .notup (.base (.str x)) (by decide +kernel)
/-- a row is no view -/
theorem nt_row {K : PySem.W.Frag} {H : Hp} {r : Addr} {ns : List Int} (h : Tup H r (ns.map V.int)) : ViewIs K H (.ref r) false := by
  match ns, h with
  | [a, b], h => exact .nb (n := "int") h (.int a) (.base (.int b)) (by decide +kernel)
  | [], h => exact .len h (by simp)
  | [a], h => exact .len h (by simp)
  | a :: b :: c :: l, h => exact .len h (by simp)
/-- neighbours with a strange one among them -/
theorem nb_strange {K : PySem.W.Frag} {H : Hp} {a : Addr} {x : V} {o : Option Int} {ls rs : List Int} (h : SqX K H (.ref a) (some (ls.map V.int ++ [x] ++ rs.map V.int))) (k : Kin K H x o) (b : bel4 o = false)
    (z : ls.length + rs.length ≤ 100) : NbIs K H (.ref a) false := by
  by_cases l4 : (ls.map V.int ++ [x] ++ rs.map V.int).length ≤ 4
  · have ks : Paired (Kin K H) (ls.map V.int ++ [x] ++ rs.map V.int) (ls.map some ++ [o] ++ rs.map some) :=
      paired_append (paired_append (kin_ints K H ls) (.cons k .nil)) (kin_ints K H rs)
    have q := NbIs.all h ks l4
    have e : (ls.map some ++ [o] ++ rs.map some).all bel4 = false := by
      rw [List.all_append, List.all_append]
      have e1 : [o].all bel4 = false := by simp [b]
      rw [e1]; simp
    rw [e] at q
    exact q
  · exact .long h (by omega) (by simp; omega)
structure Bs (K : PySem.W.Frag) (T : List (Addr × Str)) (p q v r : Addr) (m : Int) (ns : List Int) (x : V) (H0 H : Hp) : Prop where
  d : Deal H p q
  T : Tabs T H
  hv : H v = some (.tup [.int m, .ref r])
  hr : TupF H r (ns.map V.int)
  st : Strange K H x
  kp : Kp p q H0 H
theorem Bs.same {K : PySem.W.Frag} {T : List (Addr × Str)} {p q v r : Addr} {m : Int} {ns : List Int} {x : V} {H0 H H' : Hp} (b : Bs K T p q v r m ns x H0 H) (s : Same H H') : Bs K T p q v r m ns x H0 H' :=
  ⟨b.d.same s, b.T.ext s, s _ _ b.hv, b.hr.same s, b.st.kp (p := p) (q := q) (Kp.same s), b.kp.trans (Kp.same s)⟩
theorem Bs.fix {K : PySem.W.Frag} {T : List (Addr × Str)} {p q v r : Addr} {m : Int} {ns : List Int} {x : V} {H0 H H' : Hp} (b : Bs K T p q v r m ns x H0 H) (d : Deal H' p q) (f : Fix p q H H') : Bs K T p q v r m ns x H0 H' :=
  have k := Kp.fix b.d f
  ⟨d, tabs_fix b.T b.d f, tup_kp b.hv k, (TupF.kp b.hr k), b.st.kp k, b.kp.trans k⟩
theorem Bs.extN {K : PySem.W.Frag} {T : List (Addr × Str)} {p q v r : Addr} {m : Int} {ns : List Int} {x : V} {H0 H H' : Hp} (b : Bs K T p q v r m ns x H0 H) (e : ExtN H H') (t : Tabs T H') : Bs K T p q v r m ns x H0 H' :=
  have k := Kp.extN (p := p) (q := q) e
  ⟨b.d.extN e, t, tup_kp b.hv k, (TupF.kp b.hr k), b.st.kp k, b.kp.trans k⟩
end K02

namespace K02
open PySem PySem.Spec PyProof.Rows L2 KX LamX
abbrev sBad : Stmt := top 26
theorem scBad : FnScope ["deal", "view", "wrong", "value", "at", "mode", "row", "strange"] ["deal", "view"] (defScope sBad) := ⟨rfl, rfl, rfl, by decide +kernel, rfl, by decide +kernel, by decide +kernel⟩
def qL : Str := (envOfC "_law_bad_right" (defScope sBad) 0 0 .none).qual ++ "<lambda>"
structure GloB (mg : Str → Option Value) (fO fA fV fM fR CQ CN : Addr) : Prop where
  of_ : mg "_law_of" = some (.ref fO)
  any : mg "_law_any" = some (.ref fA)
  isv : mg "is_view" = some (.ref fV)
  mv : mg "made_view" = some (.ref fM)
  refu : mg "_law_refused" = some (.ref fR)
  invq : mg "InvalidView" = some (.ref CQ)
  net : mg "NetError" = some (.ref CN)
  len : mg "len" = none
  list : mg "list" = none
  isi : mg "isinstance" = none
def spBad (tb : Addr) (K : PySem.W.Frag) : Sp := fun vs H Q _ => ∃ (p q v r : Addr) (m : Int) (ns : List Int), vs = [.ref p, .ref v] ∧ Deal H p q ∧ Tabs [(tb, qL)] H ∧
  H v = some (.tup [.int m, .ref r]) ∧ TupF H r (ns.map V.int) ∧ 0 ≤ m ∧ m < 4 ∧ (∀ n ∈ ns, 0 ≤ n ∧ n < 4) ∧ ns.length ≤ 4 ∧ ns.Pairwise (· ≤ ·) ∧
  ∀ H', Deal H' p q → Tabs [(tb, qL)] H' → (∀ a o, H a = some o → (∀ xs, o ≠ .lst xs) → (∀ ps, o ≠ .tbl ps) → H' a = some o) → (∀ a xs, a ≠ p → a ≠ q → H a = some (.lst xs) → H' a = some (.lst xs)) → Q (.bl true) H'
theorem fkSwap {K : PySem.W.Frag} {x q : Str} {st : Stmt} {f : Addr} {fd : FuncData} {a b : Str} (F : Fun K x q st f fd)
    (h : ∀ (kV doc pm : Value) (an : Option Addr) (cdv ct : Value) (u v : Value), bindArgs (PySem.W.fnOf x q (defArgs st) (defBody st) (defScope st) .none kV doc pm an cdv ct) ⟨[], [(b, v), (a, u)]⟩ = pure [(a, u), (b, v)]) :
    KBn K fd [a, b] 0 [b, a] (fun _ ws => ws.reverse) (fun _ zs => zs.reverse) := by
  obtain ⟨oc, od, kV, doc, pm, an, cdv, ct, osl, rfl, lk, hcd⟩ := F.ex
  exact kb_swap (h kV doc pm an cdv ct)
section
variable {P : Program} {w : World} {K : PySem.W.Frag} {mg : Str → Option Value} {base : Heap} {fO fA fV fM fR CQ CN tb cc : Addr} {dO dA dV' dM dR : FuncData}
theorem ok_bad {f : Addr} {oc : Value} {od : Option Addr} {kV doc pm : Value} {an : Option Addr} {ct : Value} {osl : Array (Option Value)}
    (lk : K.lookup f = some ⟨oc, od, .func (PySem.W.fnOf "_law_bad_right" "_law_bad_right" (defArgs sBad) (defBody sBad) (defScope sBad) .none kV doc pm an (.ref cc) ct), osl⟩) (hcd : PySem.W.codeIn K (.ref cc) "_law_bad_right" = true)
    (TB : TabB base mg cc tb)
    (FO : Fun K "_law_of" "_law_of" sOf fO dO) (GO : FnOk P w K mg base CX0 2 fO dO ["deal", "some"] (spOf K))
    (FA : Fun K "_law_any" "_law_any" sAny fA dA) (GA : FnOk P w K mg base CX0 1 fA dA ["deal", "bound"] spAny)
    (FV : Fun K "is_view" "is_view" sIsView fV dV') (GV : FnOk P w K mg base CX0 6 fV dV' ["value"] (spView K))
    (FM : Fun K "made_view" "made_view" sMadeView fM dM) (GM : FnOk P w K mg base (L2.CX P w) 6 fM dM ["mode", "neighbours"] (spMV K CQ))
    (FR : Fun K "_law_refused" "_law_refused" sRefused fR dR) (IQ : IsQ K CQ CN) (G : GloB mg fO fA fV fM fR CQ CN) :
    FnOk P w K mg base CX0 9 f (PySem.W.fnOf "_law_bad_right" "_law_bad_right" (defArgs sBad) (defBody sBad) (defScope sBad) .none kV doc pm an (.ref cc) ct) ["deal", "view"] (spBad tb K) := by
  have bO : Binds K dO ["deal", "some"] [] := FO.binds fun _ _ _ _ _ _ us hl => match us, hl with | [_, _], _ => rfl
  have bA : Binds K dA ["deal", "bound"] [] := FA.binds fun _ _ _ _ _ _ us hl => match us, hl with | [_, _], _ => rfl
  have bV : Binds K dV' ["value"] [] := FV.binds fun _ _ _ _ _ _ us hl => match us, hl with | [_], _ => rfl
  have bM : Binds K dM ["mode", "neighbours"] [] := FM.binds fun _ _ _ _ _ _ us hl => match us, hl with | [_, _], _ => rfl
  have kM := fkSwap FM (a := "mode") (b := "neighbours") fun _ _ _ _ _ _ _ _ => rfl
  have bR := FR.binds (ps := ["work"]) fun _ _ _ _ _ _ us hl => match us, hl with | [_], _ => rfl
  have kR := FR.kp
  obtain ⟨oc', od', kV', doc', pm', an', cdv', ct', osl', rfl, lkR, hcR⟩ := FR.ex
  refine fn_of lk hcd scBad (fun vs H Q E h => ?_) fun A outer s H vs Q E hr h => ?_
  · obtain ⟨p, q, v, r, m, ns, rfl, _⟩ := h
    rfl
  refine ⟨_, PSs.nox (pss_cons (ps_asg (pv 1) (pg_tup (by rfl) (pgs_cons (pg_name (i := 5) scBad.nd rfl (.inr rfl)) (pgs_cons (pg_name (i := 6) scBad.nd rfl (.inr rfl)) pgs_nil)))) (pss_cons (ps_set (i := 7) scBad.nd rfl (.inr rfl) (pe_call GO (hr.mono (by decide)) (by rfl) G.of_ FO.kp bO .nil pass0 (by exact (pa_cons (pv 0) (pa_cons (pe_lst (pa_cons pe_int (pa_cons (pe_op op_sub pe_int pe_int) (pa_cons pe_non (pa_cons pe_bl (pa_cons pe_str (pa_cons (pe_tup (pa_cons pe_int pa_nil)) (pa_cons pe_int pa_nil)))))))) pa_nil))))) (pss_cons (ps_set (i := 4) scBad.nd rfl (.inr rfl) (pe_call GA (hr.mono (by decide)) (by rfl) G.any FA.kp bA .nil pass0 (by exact (pa_cons (pv 0) (pa_cons (pe_op op_add (pe_callB call_len_seq (by rfl) G.len (by decide +kernel) (by exact pa_cons (pv 6) pa_nil)) pe_int) pa_nil))))) (C8.pss_cut (ps_set (i := 2) scBad.nd rfl (.inl rfl) (pe_lst (pa_cons (pe_lst (pa_cons (pv 5) (pa_cons (pv 6) pa_nil))) (pa_cons (pe_tup (pa_cons (pv 5) (pa_cons (pe_callTy call_list_of (by rfl) G.list (by decide +kernel) (by exact pa_cons (pv 6) pa_nil)) pa_nil))) (pa_cons (pe_tup (pa_cons (pv 7) (pa_cons (pv 6) pa_nil))) (pa_cons (pe_tup (pa_cons (pv 5) pa_nil)) (pa_cons (pe_tup (pa_cons (pv 5) (pa_cons (pv 6) (pa_cons (pe_tup pa_nil) pa_nil)))) (pa_cons pe_non (pa_cons (pv 6) (pa_cons (pv 5) (pa_cons (pe_tup (pa_cons (pv 5) (pa_cons (pe_op op_catW (pv 6) (pe_tup (pa_cons pe_int (pa_cons pe_int (pa_cons pe_int (pa_cons pe_int (pa_cons pe_int pa_nil))))))) pa_nil))) pa_nil))))))))))) (C8.pss_cut (ps_set (i := 2) scBad.nd rfl (.inl rfl) (pe_op op_cat (pv 2) (pe_lst (pa_cons (pe_tup (pa_cons (pv 5) (pa_cons (pe_op op_catW (pe_op op_catW (pe_slice sl_tupW (pv 6) po_none (po_some (pv 4))) (pe_tup (pa_cons (pv 7) pa_nil))) (pe_slice sl_tupW (pv 6) (po_some (pv 4)) po_none)) pa_nil))) (pa_cons (pe_tup (pa_cons (pv 5) (pa_cons pe_non pa_nil))) (pa_cons (pe_tup (pa_cons (pv 5) (pa_cons (pe_tup (pa_cons pe_int (pa_cons pe_int pa_nil))) pa_nil))) (pa_cons (pe_tup (pa_cons (pv 5) (pa_cons (pe_tup (pa_cons pe_int (pa_cons pe_int (pa_cons pe_int pa_nil)))) pa_nil))) (pa_cons pe_str (pa_cons (pe_tup (pa_cons (pe_tup (pa_cons (pv 5) pa_nil)) (pa_cons (pv 6) pa_nil))) pa_nil))))))))) (C8.pss_cut (ps_for PassesOwn.never rfl (pi_list (pv 2)) (pg_name (i := 3) scBad.nd rfl (.inl rfl)) (pss_one (ps_if (pt_cmpR op_isnot_bl (pe_call GV (hr.mono (by decide)) (by rfl) G.isv FV.kp bV .nil pass0 (by exact (pa_cons (pv 3) pa_nil))) pe_bl (nomark _)) (pss_one (ps_ret pe_bl)) pss_nil)))
    (C8.pss_cut (ps_if (pt_cmpR op_ne (by exact (pe_lamcall (T := [(tb, qL)]) (TT := TTref CQ) (Ng := ["work", "e"]) (a := "work") (k := 6) (t := fun E' => tCall (spMV K CQ) [] E' (tCons (tVar 7) (tCons (tVar 6) tNil))) (by rfl) G.refu FR.kp lkR hcR bR scRef rfl (.inl rfl)
        (gives IQ G.invq G.net G.isi) TB rfl (.head _) (fun p hp _ => by rw [List.mem_singleton.mp hp]; rfl) (hr.mono (by decide)) (show LamS (defScope sBad) _ from lamS_by (by decide +kernel)) rfl (fun _ _ _ _ _ => rfl)
        (fun A' outer' s' H' E' f' c' hr' => (by exact (pe_call GM hr' (by rfl) G.mv FM.kp bM .nil (passes_call (takes_of rfl rfl rfl rfl) fun _ _ _ _ z => z) (by exact (pa_cons (pv 7) (pa_cons (pv 6) pa_nil)))))))) pe_int (nomark _)) (pss_one (ps_ret pe_bl)) pss_nil) (C8.pss_cut (ps_if (pt_cmpR op_ne (by exact (pe_lamcall (T := [(tb, qL)]) (TT := TTref CQ) (Ng := ["work", "e"]) (a := "work") (k := 6) (t := fun E' => tCall (spMV K CQ) [] E' (tCons (tVar 5) (tCons (tLst (tCons (tC (.int 0)) (tCons (tC (.int 1)) (tCons (tC (.int 0)) (tCons (tC (.int 1)) (tCons (tC (.int 0)) tNil)))))) tNil))) (by rfl) G.refu FR.kp lkR hcR bR scRef rfl (.inl rfl)
        (gives IQ G.invq G.net G.isi) TB rfl (.head _) (fun p hp _ => by rw [List.mem_singleton.mp hp]; rfl) (hr.mono (by decide)) (show LamS (defScope sBad) _ from lamS_by (by decide +kernel)) rfl (fun _ _ _ _ _ => rfl)
        (fun A' outer' s' H' E' f' c' hr' => (by exact (pe_call GM hr' (by rfl) G.mv FM.kp bM .nil (passes_call (takes_of rfl rfl rfl rfl) fun _ _ _ _ z => z) (by exact (pa_cons (pv 5) (pa_cons (pe_lst (pa_cons pe_int (pa_cons pe_int (pa_cons pe_int (pa_cons pe_int (pa_cons pe_int pa_nil)))))) pa_nil)))))))) pe_int (nomark _)) (pss_one (ps_ret pe_bl)) pss_nil) (C8.pss_cut (ps_if (pt_cmpR op_ne (by exact (pe_lamcall (T := [(tb, qL)]) (TT := TTref CQ) (Ng := ["work", "e"]) (a := "work") (k := 6) (by rfl) G.refu FR.kp lkR hcR bR scRef rfl (.inl rfl)
        (gives IQ G.invq G.net G.isi) TB rfl (.head _) (fun p hp _ => by rw [List.mem_singleton.mp hp]; rfl) (hr.mono (by decide)) (show LamS (defScope sBad) _ from lamS_by (by decide +kernel)) rfl (fun _ _ _ _ _ => rfl)
        (fun A' outer' s' H' E' f' c' hr' => (by exact (pe_call GM hr' (by rfl) G.mv FM.kp bM .nil (passes_call (takes_of rfl rfl rfl rfl) fun _ _ _ _ z => z) (by exact (pa_cons (pv 5) (pa_cons (pe_call GO (hr'.mono (by decide)) (by rfl) G.of_ FO.kp bO .nil pass0 (by exact (pa_cons (pv 0) (pa_cons (pe_lst (pa_cons pe_non (pa_cons pe_int (pa_cons pe_str (pa_cons (pe_dnewK) (pa_cons pe_bl pa_nil)))))) pa_nil)))) pa_nil)))))))) pe_int (nomark _)) (pss_one (ps_ret pe_bl)) pss_nil) (pss_one (ps_ret (pe_cmpR op_eq (by exact (pe_lamcall (T := [(tb, qL)]) (TT := TTref CQ) (Ng := ["work", "e"]) (a := "work") (k := 6) (by rfl) G.refu FR.kp lkR hcR bR scRef rfl (.inl rfl)
        (gives IQ G.invq G.net G.isi) TB rfl (.head _) (fun p hp _ => by rw [List.mem_singleton.mp hp]; rfl) (hr.mono (by decide)) (show LamS (defScope sBad) _ from lamS_by (by decide +kernel)) rfl (fun _ _ _ _ _ => rfl)
        (fun A' outer' s' H' E' f' c' hr' => (by exact (pe_callK GM hr' (by rfl) G.mv FM.kp kM (passes_call (takes_of rfl rfl rfl rfl) fun _ _ _ _ z => z) (by exact pk_cons (pe_op op_cat (pe_callTy (show CallR _ _ (fun xs H Q => ∃ p ys, xs = [V.ref p] ∧ (SqL K H p ys ∨ SqT K H p ys) ∧ ∀ l, H l = none → Q (V.ref l) (upd H l (.lst ys))) from call_list_of) (by rfl) G.list (by decide +kernel) (by exact pa_cons (pe_slice sl_tupW (pv 6) po_none (po_some (pv 4))) pa_nil)) (pe_lst (pa_cons (pv 7) pa_nil))) (pk_cons (pv 5) pk_nil))))))) pe_int (nomark _))))))))))))), ?_⟩
  obtain ⟨p, q, v, r, m, ns, rfl, d, T, hv, hr0, m0, m4, hn, l, srt, hQ⟩ := h
  refine ⟨.ref v, rfl, v, [.int m, .ref r], rfl, SqT.of hv, rfl, .int m, [.ref r], rfl, .ref r, [], rfl, rfl, ?_⟩
  refine ⟨.ref p, rfl, 0, 1, rfl, rfl, by show 1 ≤ sizeLine; decide, fun t ht => ⟨by show 7 ≤ sizeLine; decide, fun a ha => ?_⟩⟩
  have E2 : Same H (upd (upd H t (.tup [.int 0])) a (.lst [.int 4, .int (0 - 1), .non, .bl true, .str ("0" : Str), .ref t, .int 100])) := (Same.new ht).trans (Same.new ha)
  have ht2 : upd (upd H t (.tup [.int 0])) a (.lst [.int 4, .int (0 - 1), .non, .bl true, .str ("0" : Str), .ref t, .int 100]) t = some (.tup [.int 0]) := by
    rw [upd_ne (fun z => by rw [← z, upd_same] at ha; cases ha), upd_same]
  have d1 := (d.new (o := .tup [.int 0]) ht).1
  obtain ⟨d2, n1, n2⟩ := d1.new (o := .lst [.int 4, .int (0 - 1), .non, .bl true, .str ("0" : Str), .ref t, .int 100]) ha
  refine ⟨p, q, a, _, rfl, d2, n1, n2, upd_same, by show 0 < 7; decide, by show 7 < 1000; decide, fun H3 x hx d3 f3 => ?_⟩
  have k3 := (Kp.same (p := p) (q := q) E2).trans (Kp.fix d2 f3)
  have B3 : Bs K [(tb, qL)] p q v r m ns x H H3 := by
    refine ⟨d3, tabs_fix (T.ext E2) d2 f3, tup_kp hv k3, TupF.kp hr0 k3, ?_, k3⟩
    simp only [List.mem_cons, List.not_mem_nil, or_false] at hx
    rcases hx with h | h | h | h | h | h | h <;> subst h
    · exact Or.inl ⟨some 4, fun _ => .int 4, by decide⟩
    · exact Or.inl ⟨some (0 - 1), fun _ => .int _, by decide⟩
    · exact Or.inl ⟨none, fun _ => kin_non, rfl⟩
    · exact Or.inl ⟨none, fun _ => kin_bl _, rfl⟩
    · exact Or.inl ⟨none, fun _ => kin_str _, rfl⟩
    · exact Or.inr ⟨t, rfl, tup_kp ht2 (Kp.fix d2 f3)⟩
    · exact Or.inl ⟨some 100, fun _ => .int 100, by decide⟩
  clear hx d T hv hr0 E2 ht2 d1 d2 n1 n2 k3 f3 d3 ht ha
  refine ⟨.ref p, rfl, .ref r, rfl, r, _, rfl, Or.inr B3.hr.tup.sq, _, 1, rfl, rfl, p, q, _, rfl, B3.d, by rw [List.length_map]; omega, by rw [List.length_map]; omega, fun H4 i d4 f4 i0 i1 => ?_⟩
  have B4 := B3.fix d4 f4
  clear B3 d4 f4 H3
  rw [List.length_map] at i1
  have l1 : i ≤ (ns.map V.int).length := by rw [List.length_map]; omega
  refine ⟨fun σ H' => Bs K [(tb, qL)] p q v r m ns x H H' ∧ ∃ W o3 ws, σ = [some (.ref p), some (.ref v), some (.ref W), o3, some (.int i), some (.int m), some (.ref r), some x] ∧ H' W = some (.lst ws) ∧ ws.length = 9 ∧ ∀ y ∈ ws, ViewIs K H' y false, ?_, ?_⟩
  · have kx := B4.st
    refine ⟨.int m, rfl, .ref r, rfl, by show 2 ≤ sizeLine; decide, fun p1 hp1 => ?_⟩
    have E5 : Same H4 (upd H4 p1 (.lst [.int m, .ref r])) := Same.new hp1
    have F1 : upd H4 p1 (.lst [.int m, .ref r]) p1 = some (.lst [.int m, .ref r]) := upd_same
    generalize upd H4 p1 (.lst [.int m, .ref r]) = H5 at E5 F1
    have B5 := B4.same E5
    have V1 : ViewIs K H5 (.ref p1) false := nt_lst F1
    refine ⟨.int m, rfl, .ref r, rfl, r, _, rfl, Or.inr B5.hr.tup.sq, fun p2 hp2 => ?_⟩
    have E6 : Same H5 (upd H5 p2 (.lst (ns.map V.int))) := Same.new hp2
    have F2 : upd H5 p2 (.lst (ns.map V.int)) p2 = some (.lst (ns.map V.int)) := upd_same
    generalize upd H5 p2 (.lst (ns.map V.int)) = H6 at E6 F2
    have B6 := B5.same E6
    replace F1 := E6 _ _ F1
    replace V1 := V1.same E6
    refine ⟨by show 2 ≤ sizeLine; decide, fun p3 hp3 => ?_⟩
    have E7 : Same H6 (upd H6 p3 (.tup [.int m, .ref p2])) := Same.new hp3
    have F3 : upd H6 p3 (.tup [.int m, .ref p2]) p3 = some (.tup [.int m, .ref p2]) := upd_same
    generalize upd H6 p3 (.tup [.int m, .ref p2]) = H7 at E7 F3
    have B7 := B6.same E7
    replace F1 := E7 _ _ F1
    replace F2 := E7 _ _ F2
    replace V1 := V1.same E7
    have V3 : ViewIs K H7 (.ref p3) false := .nb (n := "list") (Tup.of F3) (.int m) (.base (.lst F2)) (by decide +kernel)
    refine ⟨x, rfl, .ref r, rfl, by show 2 ≤ sizeLine; decide, fun p4 hp4 => ?_⟩
    have E8 : Same H7 (upd H7 p4 (.tup [x, .ref r])) := Same.new hp4
    have F4 : upd H7 p4 (.tup [x, .ref r]) p4 = some (.tup [x, .ref r]) := upd_same
    generalize upd H7 p4 (.tup [x, .ref r]) = H8 at E8 F4
    have B8 := B7.same E8
    replace F1 := E8 _ _ F1
    replace F2 := E8 _ _ F2
    replace F3 := E8 _ _ F3
    replace V1 := V1.same E8
    replace V3 := V3.same E8
    have V4 : ViewIs K H8 (.ref p4) false := by obtain ⟨o, k, b⟩ := B8.st.kin; exact .mode (Tup.of F4) k b
    refine ⟨.int m, rfl, by show 1 ≤ sizeLine; decide, fun p5 hp5 => ?_⟩
    have E9 : Same H8 (upd H8 p5 (.tup [.int m])) := Same.new hp5
    have F5 : upd H8 p5 (.tup [.int m]) p5 = some (.tup [.int m]) := upd_same
    generalize upd H8 p5 (.tup [.int m]) = H9 at E9 F5
    have B9 := B8.same E9
    replace F1 := E9 _ _ F1
    replace F2 := E9 _ _ F2
    replace F3 := E9 _ _ F3
    replace F4 := E9 _ _ F4
    replace V1 := V1.same E9
    replace V3 := V3.same E9
    replace V4 := V4.same E9
    have V5 : ViewIs K H9 (.ref p5) false := .len (Tup.of F5) (by simp)
    refine ⟨.int m, rfl, .ref r, rfl, by show 0 ≤ sizeLine; decide, fun p6 hp6 => ?_⟩
    have E10 : Same H9 (upd H9 p6 (.tup [])) := Same.new hp6
    have F6 : upd H9 p6 (.tup []) p6 = some (.tup []) := upd_same
    generalize upd H9 p6 (.tup []) = H10 at E10 F6
    have B10 := B9.same E10
    replace F1 := E10 _ _ F1
    replace F2 := E10 _ _ F2
    replace F3 := E10 _ _ F3
    replace F4 := E10 _ _ F4
    replace F5 := E10 _ _ F5
    replace V1 := V1.same E10
    replace V3 := V3.same E10
    replace V4 := V4.same E10
    replace V5 := V5.same E10
    refine ⟨by show 3 ≤ sizeLine; decide, fun p7 hp7 => ?_⟩
    have E11 : Same H10 (upd H10 p7 (.tup [.int m, .ref r, .ref p6])) := Same.new hp7
    have F7 : upd H10 p7 (.tup [.int m, .ref r, .ref p6]) p7 = some (.tup [.int m, .ref r, .ref p6]) := upd_same
    generalize upd H10 p7 (.tup [.int m, .ref r, .ref p6]) = H11 at E11 F7
    have B11 := B10.same E11
    replace F1 := E11 _ _ F1
    replace F2 := E11 _ _ F2
    replace F3 := E11 _ _ F3
    replace F4 := E11 _ _ F4
    replace F5 := E11 _ _ F5
    replace F6 := E11 _ _ F6
    replace V1 := V1.same E11
    replace V3 := V3.same E11
    replace V4 := V4.same E11
    replace V5 := V5.same E11
    have V7 : ViewIs K H11 (.ref p7) false := .len (Tup.of F7) (by simp)
    refine ⟨.ref r, rfl, .int m, rfl, .int m, rfl, .ref r, rfl, by show 5 ≤ sizeLine; decide, fun p8 hp8 => ?_⟩
    have E12 : Same H11 (upd H11 p8 (.tup [.int 3, .int 3, .int 3, .int 3, .int 3])) := Same.new hp8
    have F8 : upd H11 p8 (.tup [.int 3, .int 3, .int 3, .int 3, .int 3]) p8 = some (.tup [.int 3, .int 3, .int 3, .int 3, .int 3]) := upd_same
    generalize upd H11 p8 (.tup [.int 3, .int 3, .int 3, .int 3, .int 3]) = H12 at E12 F8
    have B12 := B11.same E12
    replace F1 := E12 _ _ F1
    replace F2 := E12 _ _ F2
    replace F3 := E12 _ _ F3
    replace F4 := E12 _ _ F4
    replace F5 := E12 _ _ F5
    replace F6 := E12 _ _ F6
    replace F7 := E12 _ _ F7
    replace V1 := V1.same E12
    replace V3 := V3.same E12
    replace V4 := V4.same E12
    replace V5 := V5.same E12
    replace V7 := V7.same E12
    refine ⟨r, p8, _, _, rfl, rfl, B12.hr.tup, Tup.of F8, by rw [List.length_map]; exact Nat.le_trans (by show ns.length + 5 ≤ 9; omega) (by decide), fun H13 p9 E13 W9 => ?_⟩
    have B13 := B12.same E13
    replace F1 := E13 _ _ F1
    replace F2 := E13 _ _ F2
    replace F3 := E13 _ _ F3
    replace F4 := E13 _ _ F4
    replace F5 := E13 _ _ F5
    replace F6 := E13 _ _ F6
    replace F7 := E13 _ _ F7
    replace F8 := E13 _ _ F8
    replace V1 := V1.same E13
    replace V3 := V3.same E13
    replace V4 := V4.same E13
    replace V5 := V5.same E13
    replace V7 := V7.same E13
    refine ⟨by show 2 ≤ sizeLine; decide, fun p10 hp10 => ?_⟩
    have E14 : Same H13 (upd H13 p10 (.tup [.int m, .ref p9])) := Same.new hp10
    have F10 : upd H13 p10 (.tup [.int m, .ref p9]) p10 = some (.tup [.int m, .ref p9]) := upd_same
    generalize upd H13 p10 (.tup [.int m, .ref p9]) = H14 at E14 F10
    have B14 := B13.same E14
    replace F1 := E14 _ _ F1
    replace F2 := E14 _ _ F2
    replace F3 := E14 _ _ F3
    replace F4 := E14 _ _ F4
    replace F5 := E14 _ _ F5
    replace F6 := E14 _ _ F6
    replace F7 := E14 _ _ F7
    replace F8 := E14 _ _ F8
    replace W9 := W9.same E14
    replace V1 := V1.same E14
    replace V3 := V3.same E14
    replace V4 := V4.same E14
    replace V5 := V5.same E14
    replace V7 := V7.same E14
    have V10 : ViewIs K H14 (.ref p10) false := .bad (Tup.of F10) (.int m) W9 (.long (.tup W9) (by simp) (by simp; omega))
    refine ⟨by show 9 ≤ sizeLine; decide, fun p11 hp11 => ?_⟩
    have E15 : Same H14 (upd H14 p11 (.lst [.ref p1, .ref p3, .ref p4, .ref p5, .ref p7, .non, .ref r, .int m, .ref p10])) := Same.new hp11
    have F11 : upd H14 p11 (.lst [.ref p1, .ref p3, .ref p4, .ref p5, .ref p7, .non, .ref r, .int m, .ref p10]) p11 = some (.lst [.ref p1, .ref p3, .ref p4, .ref p5, .ref p7, .non, .ref r, .int m, .ref p10]) := upd_same
    generalize upd H14 p11 (.lst [.ref p1, .ref p3, .ref p4, .ref p5, .ref p7, .non, .ref r, .int m, .ref p10]) = H15 at E15 F11
    have B15 := B14.same E15
    replace F1 := E15 _ _ F1
    replace F2 := E15 _ _ F2
    replace F3 := E15 _ _ F3
    replace F4 := E15 _ _ F4
    replace F5 := E15 _ _ F5
    replace F6 := E15 _ _ F6
    replace F7 := E15 _ _ F7
    replace F8 := E15 _ _ F8
    replace W9 := W9.same E15
    replace F10 := E15 _ _ F10
    replace V1 := V1.same E15
    replace V3 := V3.same E15
    replace V4 := V4.same E15
    replace V5 := V5.same E15
    replace V7 := V7.same E15
    replace V10 := V10.same E15
    refine ⟨B15, p11, _, _, rfl, F11, rfl, ?_⟩
    intro y hy
    simp only [List.mem_cons, List.not_mem_nil, or_false] at hy
    rcases hy with h | h | h | h | h | h | h | h | h <;> subst h
    · exact V1
    · exact V3
    · exact V4
    · exact V5
    · exact V7
    · exact nt_non
    · exact nt_row B15.hr.tup
    · exact nt_int
    · exact V10
  clear B4 H4
  rintro σ H4 ⟨B4, W, o3, ws, rfl, hW, lw, hws⟩
  refine ⟨fun σ H' => Bs K [(tb, qL)] p q v r m ns x H H' ∧ ∃ W o3 ws, σ = [some (.ref p), some (.ref v), some (.ref W), o3, some (.int i), some (.int m), some (.ref r), some x] ∧ H' W = some (.lst ws) ∧ ∀ y ∈ ws, ViewIs K H' y false, ?_, ?_⟩
  · have S0 := Same.refl H4
    refine ⟨.ref W, rfl, .int m, rfl, .ref r, rfl, .int i, rfl, i, rfl, r, _, rfl, B4.hr.tup, fun H5 p1 E5 W1 => ?_⟩
    have B5 := B4.same E5
    rw [cut_take _ i0 l1] at W1
    refine ⟨x, rfl, by show 1 ≤ sizeLine; decide, fun p2 hp2 => ?_⟩
    have E6 : Same H5 (upd H5 p2 (.tup [x])) := Same.new hp2
    have F2 : upd H5 p2 (.tup [x]) p2 = some (.tup [x]) := upd_same
    generalize upd H5 p2 (.tup [x]) = H6 at E6 F2
    have B6 := B5.same E6
    replace W1 := W1.same E6
    refine ⟨p1, p2, _, _, rfl, rfl, W1, Tup.of F2, by rw [List.length_take, List.length_map]; exact Nat.le_trans (by show _ + 1 ≤ 9; omega) (by decide), fun H7 p3 E7 W3 => ?_⟩
    have B7 := B6.same E7
    replace W1 := W1.same E7
    replace F2 := E7 _ _ F2
    refine ⟨.ref r, rfl, .int i, rfl, i, rfl, r, _, rfl, B7.hr.tup, fun H8 p4 E8 W4 => ?_⟩
    have B8 := B7.same E8
    replace W1 := W1.same E8
    replace F2 := E8 _ _ F2
    replace W3 := W3.same E8
    rw [cut_drop _ i0 l1] at W4
    refine ⟨p3, p4, _, _, rfl, rfl, W3, W4, by simp only [List.length_append, List.length_take, List.length_drop, List.length_map, List.length_singleton]; exact Nat.le_trans (by omega : _ ≤ 9) (by decide), fun H9 p5 E9 W5 => ?_⟩
    have B9 := B8.same E9
    replace W1 := W1.same E9
    replace F2 := E9 _ _ F2
    replace W3 := W3.same E9
    replace W4 := W4.same E9
    refine ⟨by show 2 ≤ sizeLine; decide, fun p6 hp6 => ?_⟩
    have E10 : Same H9 (upd H9 p6 (.tup [.int m, .ref p5])) := Same.new hp6
    have F6 : upd H9 p6 (.tup [.int m, .ref p5]) p6 = some (.tup [.int m, .ref p5]) := upd_same
    generalize upd H9 p6 (.tup [.int m, .ref p5]) = H10 at E10 F6
    have B10 := B9.same E10
    replace W1 := W1.same E10
    replace F2 := E10 _ _ F2
    replace W3 := W3.same E10
    replace W4 := W4.same E10
    replace W5 := W5.same E10
    have V6 : ViewIs K H10 (.ref p6) false := by
      obtain ⟨o, k, b⟩ := B10.st.kin
      have z := W5
      rw [← List.map_take, ← List.map_drop] at z
      exact .bad (Tup.of F6) (.int m) z (nb_strange (.tup z) k b (by simp only [List.length_take, List.length_drop]; omega))
    refine ⟨.int m, rfl, by show 2 ≤ sizeLine; decide, fun p7 hp7 => ?_⟩
    have E11 : Same H10 (upd H10 p7 (.tup [.int m, .non])) := Same.new hp7
    have F7 : upd H10 p7 (.tup [.int m, .non]) p7 = some (.tup [.int m, .non]) := upd_same
    generalize upd H10 p7 (.tup [.int m, .non]) = H11 at E11 F7
    have B11 := B10.same E11
    replace W1 := W1.same E11
    replace F2 := E11 _ _ F2
    replace W3 := W3.same E11
    replace W4 := W4.same E11
    replace W5 := W5.same E11
    replace F6 := E11 _ _ F6
    replace V6 := V6.same E11
    have V7 : ViewIs K H11 (.ref p7) false := .nb (n := "NoneType") (Tup.of F7) (.int m) (.base .non) (by decide +kernel)
    refine ⟨.int m, rfl, by show 2 ≤ sizeLine; decide, fun p8 hp8 => ?_⟩
    have E12 : Same H11 (upd H11 p8 (.tup [.int 1, .int 0])) := Same.new hp8
    have F8 : upd H11 p8 (.tup [.int 1, .int 0]) p8 = some (.tup [.int 1, .int 0]) := upd_same
    generalize upd H11 p8 (.tup [.int 1, .int 0]) = H12 at E12 F8
    have B12 := B11.same E12
    replace W1 := W1.same E12
    replace F2 := E12 _ _ F2
    replace W3 := W3.same E12
    replace W4 := W4.same E12
    replace W5 := W5.same E12
    replace F6 := E12 _ _ F6
    replace F7 := E12 _ _ F7
    replace V6 := V6.same E12
    replace V7 := V7.same E12
    refine ⟨by show 2 ≤ sizeLine; decide, fun p9 hp9 => ?_⟩
    have E13 : Same H12 (upd H12 p9 (.tup [.int m, .ref p8])) := Same.new hp9
    have F9 : upd H12 p9 (.tup [.int m, .ref p8]) p9 = some (.tup [.int m, .ref p8]) := upd_same
    generalize upd H12 p9 (.tup [.int m, .ref p8]) = H13 at E13 F9
    have B13 := B12.same E13
    replace W1 := W1.same E13
    replace F2 := E13 _ _ F2
    replace W3 := W3.same E13
    replace W4 := W4.same E13
    replace W5 := W5.same E13
    replace F6 := E13 _ _ F6
    replace F7 := E13 _ _ F7
    replace F8 := E13 _ _ F8
    replace V6 := V6.same E13
    replace V7 := V7.same E13
    have V9 : ViewIs K H13 (.ref p9) false := .good (ns := [1, 0]) (Tup.of F9) (Tup.of F8) m0 m4 (by decide) (by decide) (fun ns' _ s => (decide_eq_false (fun z => by rw [← z] at s; exact absurd s (by decide))).symm)
    refine ⟨.int m, rfl, by show 3 ≤ sizeLine; decide, fun p10 hp10 => ?_⟩
    have E14 : Same H13 (upd H13 p10 (.tup [.int 3, .int 2, .int 2])) := Same.new hp10
    have F10 : upd H13 p10 (.tup [.int 3, .int 2, .int 2]) p10 = some (.tup [.int 3, .int 2, .int 2]) := upd_same
    generalize upd H13 p10 (.tup [.int 3, .int 2, .int 2]) = H14 at E14 F10
    have B14 := B13.same E14
    replace W1 := W1.same E14
    replace F2 := E14 _ _ F2
    replace W3 := W3.same E14
    replace W4 := W4.same E14
    replace W5 := W5.same E14
    replace F6 := E14 _ _ F6
    replace F7 := E14 _ _ F7
    replace F8 := E14 _ _ F8
    replace F9 := E14 _ _ F9
    replace V6 := V6.same E14
    replace V7 := V7.same E14
    replace V9 := V9.same E14
    refine ⟨by show 2 ≤ sizeLine; decide, fun p11 hp11 => ?_⟩
    have E15 : Same H14 (upd H14 p11 (.tup [.int m, .ref p10])) := Same.new hp11
    have F11 : upd H14 p11 (.tup [.int m, .ref p10]) p11 = some (.tup [.int m, .ref p10]) := upd_same
    generalize upd H14 p11 (.tup [.int m, .ref p10]) = H15 at E15 F11
    have B15 := B14.same E15
    replace W1 := W1.same E15
    replace F2 := E15 _ _ F2
    replace W3 := W3.same E15
    replace W4 := W4.same E15
    replace W5 := W5.same E15
    replace F6 := E15 _ _ F6
    replace F7 := E15 _ _ F7
    replace F8 := E15 _ _ F8
    replace F9 := E15 _ _ F9
    replace F10 := E15 _ _ F10
    replace V6 := V6.same E15
    replace V7 := V7.same E15
    replace V9 := V9.same E15
    have V11 : ViewIs K H15 (.ref p11) false := .good (ns := [3, 2, 2]) (Tup.of F11) (Tup.of F10) m0 m4 (by decide) (by decide) (fun ns' _ s => (decide_eq_false (fun z => by rw [← z] at s; exact absurd s (by decide))).symm)
    refine ⟨.int m, rfl, by show 1 ≤ sizeLine; decide, fun p12 hp12 => ?_⟩
    have E16 : Same H15 (upd H15 p12 (.tup [.int m])) := Same.new hp12
    have F12 : upd H15 p12 (.tup [.int m]) p12 = some (.tup [.int m]) := upd_same
    generalize upd H15 p12 (.tup [.int m]) = H16 at E16 F12
    have B16 := B15.same E16
    replace W1 := W1.same E16
    replace F2 := E16 _ _ F2
    replace W3 := W3.same E16
    replace W4 := W4.same E16
    replace W5 := W5.same E16
    replace F6 := E16 _ _ F6
    replace F7 := E16 _ _ F7
    replace F8 := E16 _ _ F8
    replace F9 := E16 _ _ F9
    replace F10 := E16 _ _ F10
    replace F11 := E16 _ _ F11
    replace V6 := V6.same E16
    replace V7 := V7.same E16
    replace V9 := V9.same E16
    replace V11 := V11.same E16
    refine ⟨.ref r, rfl, by show 2 ≤ sizeLine; decide, fun p13 hp13 => ?_⟩
    have E17 : Same H16 (upd H16 p13 (.tup [.ref p12, .ref r])) := Same.new hp13
    have F13 : upd H16 p13 (.tup [.ref p12, .ref r]) p13 = some (.tup [.ref p12, .ref r]) := upd_same
    generalize upd H16 p13 (.tup [.ref p12, .ref r]) = H17 at E17 F13
    have B17 := B16.same E17
    replace W1 := W1.same E17
    replace F2 := E17 _ _ F2
    replace W3 := W3.same E17
    replace W4 := W4.same E17
    replace W5 := W5.same E17
    replace F6 := E17 _ _ F6
    replace F7 := E17 _ _ F7
    replace F8 := E17 _ _ F8
    replace F9 := E17 _ _ F9
    replace F10 := E17 _ _ F10
    replace F11 := E17 _ _ F11
    replace F12 := E17 _ _ F12
    replace V6 := V6.same E17
    replace V7 := V7.same E17
    replace V9 := V9.same E17
    replace V11 := V11.same E17
    have V13 : ViewIs K H17 (.ref p13) false := .mode (Tup.of F13) (kin_tup F12) rfl
    refine ⟨by show 6 ≤ sizeLine; decide, fun p14 hp14 => ?_⟩
    have E18 : Same H17 (upd H17 p14 (.lst [.ref p6, .ref p7, .ref p9, .ref p11, .str ("00" : Str), .ref p13])) := Same.new hp14
    have F14 : upd H17 p14 (.lst [.ref p6, .ref p7, .ref p9, .ref p11, .str ("00" : Str), .ref p13]) p14 = some (.lst [.ref p6, .ref p7, .ref p9, .ref p11, .str ("00" : Str), .ref p13]) := upd_same
    generalize upd H17 p14 (.lst [.ref p6, .ref p7, .ref p9, .ref p11, .str ("00" : Str), .ref p13]) = H18 at E18 F14
    have B18 := B17.same E18
    replace W1 := W1.same E18
    replace F2 := E18 _ _ F2
    replace W3 := W3.same E18
    replace W4 := W4.same E18
    replace W5 := W5.same E18
    replace F6 := E18 _ _ F6
    replace F7 := E18 _ _ F7
    replace F8 := E18 _ _ F8
    replace F9 := E18 _ _ F9
    replace F10 := E18 _ _ F10
    replace F11 := E18 _ _ F11
    replace F12 := E18 _ _ F12
    replace F13 := E18 _ _ F13
    replace V6 := V6.same E18
    replace V7 := V7.same E18
    replace V9 := V9.same E18
    replace V11 := V11.same E18
    replace V13 := V13.same E18
    have EE := (((((((((((((E5.trans E6).trans E7).trans E8).trans E9).trans E10).trans E11).trans E12).trans E13).trans E14).trans E15).trans E16).trans E17).trans E18)
    refine ⟨W, p14, _, _, rfl, rfl, EE _ _ hW, F14, by rw [lw]; show 15 ≤ sizeLine; decide, fun Z hZ => ?_⟩
    have EZ : Same H18 (upd H18 Z (.lst (ws ++ [.ref p6, .ref p7, .ref p9, .ref p11, .str ("00" : Str), .ref p13]))) := Same.new hZ
    refine ⟨B18.same EZ, Z, _, _, rfl, upd_same, ?_⟩
    intro y hy
    rcases List.mem_append.mp hy with hy | hy
    · exact (hws y hy).same (EE.trans EZ)
    simp only [List.mem_cons, List.not_mem_nil, or_false] at hy
    rcases hy with h | h | h | h | h | h <;> subst h
    · exact V6.same EZ
    · exact V7.same EZ
    · exact V9.same EZ
    · exact V11.same EZ
    · exact nt_str
    · exact V13.same EZ
  clear hws hW lw B4 H4
  rintro σ H4 ⟨B4, W, o3, ws, rfl, hW, hws⟩
  let Md : L2.St → Hp → Prop := fun σ H' => Bs K [(tb, qL)] p q v r m ns x H H' ∧ ∃ W o3, σ = [some (.ref p), some (.ref v), some (.ref W), o3, some (.int i), some (.int m), some (.ref r), some x]
  refine ⟨Md, ?_, ?_⟩
  · refine ⟨.ref W, rfl, W, rfl, ⟨_, SqL.of hW⟩, for_list (xs := ws) (fun j σ H' => Same H4 H' ∧ ∃ o3, σ = [some (.ref p), some (.ref v), some (.ref W), o3, some (.int i), some (.int m), some (.ref r), some x])
      ⟨Same.refl _, _, rfl⟩ (fun j σ H' _ z => SqL.of (z.1 _ _ hW)) (fun j y σ H' hj z => ?_) (fun σ H' z => ?_)⟩
    · obtain ⟨S, o3, rfl⟩ := z
      exact ⟨y, rfl, y, false, rfl, (hws y (List.mem_of_getElem? hj)).same S, fun H5 S5 => ⟨false, false, rfl, rfl, _, rfl, iteF' (by decide) ⟨S.trans S5, _, rfl⟩⟩⟩
    · obtain ⟨S, o3, rfl⟩ := z
      exact ⟨B4.same S, W, _, rfl⟩
  clear hws hW B4 H4 W o3 ws
  have nbr : ∀ {H5 : Hp}, Bs K [(tb, qL)] p q v r m ns x H H5 → NbIs K H5 (.ref r) true := fun {H5} b => by
    have z := NbIs.all (SqX.tup b.hr.tup) (kin_ints K H5 ns) (by simpa using l)
    rw [bel4_ints hn] at z
    exact z
  rintro σ H4 ⟨B4, W, o3, rfl⟩
  refine ⟨Md, ?_, ?_⟩
  · refine ⟨B4.T, fun H5 e T5 => ?_⟩
    have B5 := B4.extN e T5
    obtain ⟨o, k, b⟩ := B5.st.kin
    exact ⟨x, rfl, .ref r, rfl, x, .ref r, o, true, rfl, k, nbr B5, fun _ H' dd S hdd => ⟨dd, .int 0, rfl, rfl, upd_same, rfl, _, rfl, iteF' (by decide) ⟨(B5.same S).same (Same.new hdd), W, _, rfl⟩⟩, fun z => absurd z (by rw [b]; decide)⟩
  clear B4 H4 W o3
  rintro σ H4 ⟨B4, W, o3, rfl⟩
  refine ⟨Md, ?_, ?_⟩
  · refine ⟨B4.T, fun H5 e T5 => ?_⟩
    have B5 := B4.extN e T5
    exact ⟨.int m, rfl, by show 5 ≤ sizeLine; decide, fun a ha => ⟨.int m, .ref a, some m, false, rfl, .int m, .long (.lst upd_same) (by show 4 < 5; decide) (by show 5 < 1000; decide),
      fun _ H' dd S hdd => ⟨dd, .int 0, rfl, rfl, upd_same, rfl, _, rfl, iteF' (by decide) ⟨(B5.same ((Same.new ha).trans S)).same (Same.new hdd), W, _, rfl⟩⟩, fun z => absurd z (by simp)⟩⟩
  clear B4 H4 W o3
  rintro σ H4 ⟨B4, W, o3, rfl⟩
  refine ⟨Md, ?_, ?_⟩
  · refine ⟨B4.T, fun H5 e T5 => ?_⟩
    have B5 := B4.extN e T5
    refine ⟨.int m, rfl, .ref p, rfl, fun c hc => ⟨by show 5 ≤ sizeLine; decide, fun a ha => ?_⟩⟩
    have E6 : Same H5 (upd (upd H5 c (.dK [])) a (.lst [.non, .int 3, .str ("01" : Str), .ref c, .bl true])) := (Same.new hc).trans (Same.new ha)
    have hc6 : upd (upd H5 c (.dK [])) a (.lst [.non, .int 3, .str ("01" : Str), .ref c, .bl true]) c = some (.dK []) := by
      rw [upd_ne (fun z => by rw [← z, upd_same] at ha; cases ha), upd_same]
    have d5 := (B5.d.new (o := .dK []) hc).1
    obtain ⟨d6, n1, n2⟩ := d5.new (o := .lst [.non, .int 3, .str ("01" : Str), .ref c, .bl true]) ha
    have B6 := B5.same E6
    refine ⟨p, q, a, _, rfl, d6, n1, n2, upd_same, by show 0 < 5; decide, by show 5 < 1000; decide, fun H7 y hy d7 f7 => ?_⟩
    have B7 := B6.fix d7 f7
    have hc7 : H7 c = some (.dK []) := f7.keep d6 hc6 (fun xs e => nomatch e)
    have ny : NbIs K H7 y false := by
      simp only [List.mem_cons, List.not_mem_nil, or_false] at hy
      rcases hy with h | h | h | h | h <;> subst h
      · exact .oth (.oth (n := "NoneType") (.base .non) (by decide +kernel) (by decide +kernel))
      · exact .oth (.oth (n := "int") (.base (.int 3)) (by decide +kernel) (by decide +kernel))
      · exact .oth (.oth (n := "str") (.base (.str _)) (by decide +kernel) (by decide +kernel))
      · exact .oth (.oth (n := "dict") (.base (.dK hc7)) (by decide +kernel) (by decide +kernel))
      · exact .oth (.oth (n := "bool") (.base (.bl true)) (by decide +kernel) (by decide +kernel))
    exact ⟨.int m, y, some m, false, rfl, .int m, ny, fun _ H' dd S hdd => ⟨dd, .int 0, rfl, rfl, upd_same, rfl, _, rfl, iteF' (by decide) ⟨(B7.same S).same (Same.new hdd), W, _, rfl⟩⟩, fun z => absurd z (by simp)⟩
  clear B4 H4 W o3
  rintro σ H4 ⟨B4, W, o3, rfl⟩
  refine ⟨B4.T, fun H5 e T5 => ?_⟩
  have B5 := B4.extN e T5
  refine ⟨.ref r, rfl, .int i, rfl, i, rfl, r, _, rfl, B5.hr.tup, fun H6 s1 E6 W6 => ⟨s1, _, rfl, Or.inr W6.sq, fun u hu => ⟨x, rfl, by show 1 ≤ sizeLine; decide, fun u2 hu2 => ?_⟩⟩⟩
  rw [cut_take _ i0 l1, ← List.map_take] at W6 hu2 ⊢
  have E7 : Same H6 (upd H6 u (.lst ((ns.take i.toNat).map V.int))) := Same.new hu
  have Fu : upd H6 u (.lst ((ns.take i.toNat).map V.int)) u = some (.lst ((ns.take i.toNat).map V.int)) := upd_same
  generalize upd H6 u (.lst ((ns.take i.toNat).map V.int)) = H7 at E7 Fu hu2
  have E8 : Same H7 (upd H7 u2 (.lst [x])) := Same.new hu2
  have F2 : upd H7 u2 (.lst [x]) u2 = some (.lst [x]) := upd_same
  generalize upd H7 u2 (.lst [x]) = H8 at E8 F2
  refine ⟨u, u2, _, _, rfl, rfl, E8 _ _ Fu, F2, ?_, fun c hc => ?_⟩
  · rw [List.length_map, List.length_take]; exact Nat.le_trans (by show _ + 1 ≤ 9; omega) (by decide)
  have B9 := B5.same (((E6.trans E7).trans E8).trans (Same.new (o := .lst ((ns.take i.toNat).map V.int ++ [x])) hc))
  obtain ⟨o, k, b⟩ := B9.st.kin
  have F9 : upd H8 c (.lst ((ns.take i.toNat).map V.int ++ [x])) c = some (.lst ((ns.take i.toNat).map V.int ++ [x])) := upd_same
  generalize upd H8 c (.lst ((ns.take i.toNat).map V.int ++ [x])) = H9 at B9 F9 k
  have nb : NbIs K H9 (.ref c) false := nb_strange (ls := ns.take i.toNat) (rs := []) (.lst (by rw [List.map_nil, List.append_nil]; exact F9)) k b (by simp only [List.length_take, List.length_nil]; omega)
  refine ⟨.int m, rfl, rfl, .int m, .ref c, some m, false, rfl, .int m, nb, fun _ H' dd S hdd => ⟨dd, .int 0, rfl, rfl, upd_same, rfl, ?_⟩, fun z => absurd z (by simp)⟩
  have BZ := (B9.same S).same (Same.new (o := .xd [(("at" : Str), .int 0)]) hdd)
  exact hQ _ BZ.d BZ.T BZ.kp.nl BZ.kp.ls
end
end K02

namespace K02
open PySem PySem.Spec PyProof.Rows L2 KX LamX
structure Rep (d : PyData) : Prop where
  s : d.showable = true
  n : d.hasDict = false
  h : d.depth ≤ 64
  l : d.shown.length ≤ sizeLine
structure Sm (d : PyData) (w k : Nat) : Prop where
  s : d.showable = true
  n : d.hasDict = false
  l : d.leavesShort 13 = true
  w : d.weight ≤ w
  h : d.depth ≤ k
structure SmA (ds : List PyData) (w k : Nat) : Prop where
  s : PyData.showableAll ds = true
  n : PyData.hasDictAll ds = false
  l : PyData.leavesShortAll 13 ds = true
  w : PyData.weightAll ds ≤ w * ds.length
  h : PyData.depthAll ds ≤ k
theorem Sm.rep {d : PyData} {w k : Nat} (h : Sm d w k) (hw : w ≤ 1000000) (hk : k ≤ 64) : Rep d := by
  refine ⟨h.s, h.n, Nat.le_trans h.h hk, ?_⟩
  have q := PyData.shown_le 13 (by decide) d h.l
  have w' := h.w
  have z : sizeLine = 16777216 := by decide
  omega
theorem sm_int {i : Int} (h0 : 0 ≤ i) (h1 : i < 1000) : Sm (.int i) 11 0 := by
  have hl : i.natAbs.log2 < 10 := PySem.Flt.log2_lt_of (by decide) (by omega : i.natAbs < 2 ^ 10)
  refine ⟨decide_eq_true (by omega), rfl, ?_, ?_, Nat.le_refl _⟩
  · exact decide_eq_true (PyData.shown_int_le (by omega))
  · show (if i == 0 then 0 else i.natAbs.log2 + 1) ≤ 11
    split <;> omega
theorem SmA.nil {w k : Nat} : SmA [] w k := ⟨rfl, rfl, rfl, Nat.zero_le _, Nat.zero_le _⟩
theorem SmA.cons {d : PyData} {ds : List PyData} {w k : Nat} (a : Sm d w k) (b : SmA ds (w + 1) k) : SmA (d :: ds) (w + 1) k := by
  refine ⟨?_, ?_, ?_, ?_, ?_⟩
  · show (d.showable && PyData.showableAll ds) = true
    rw [a.s, b.s]; rfl
  · show (d.hasDict || PyData.hasDictAll ds) = false
    rw [a.n, b.n]; rfl
  · show (d.leavesShort 13 && PyData.leavesShortAll 13 ds) = true
    rw [a.l, b.l]; rfl
  · show d.weight + 1 + PyData.weightAll ds ≤ (w + 1) * (ds.length + 1)
    have := a.w; have := b.w
    rw [Nat.mul_add]; omega
  · show max d.depth (PyData.depthAll ds) ≤ k
    have := a.h; have := b.h
    omega
theorem SmA.tuple {ds : List PyData} {w k : Nat} (a : SmA ds w k) : Sm (.tuple ds) (w * ds.length) (k + 1) :=
  ⟨a.s, a.n, a.l, a.w, Nat.add_le_add_right a.h 1⟩
theorem sm_ints : ∀ {r : List Int}, (∀ x ∈ r, 0 ≤ x ∧ x < 10) → SmA (r.map PyData.int) 12 0
  | [], _ => .nil
  | x :: r, h => .cons (sm_int (h x (by simp)).1 (by have := (h x (by simp)).2; omega)) (sm_ints fun y hy => h y (by simp [hy]))
theorem Sm.mono {d : PyData} {w k w' k' : Nat} (h : Sm d w k) (hw : w ≤ w') (hk : k ≤ k') : Sm d w' k' := ⟨h.s, h.n, h.l, Nat.le_trans h.w hw, Nat.le_trans h.h hk⟩
theorem sm_view {v : Int × List Int} (h0 : 0 ≤ v.1) (h1 : v.1 < 10) (hl : v.2.length ≤ 10) (hr : ∀ x ∈ v.2, 0 ≤ x ∧ x < 10) : Sm (dV v) 242 2 := by
  have a := (sm_ints hr).tuple
  rw [List.length_map] at a
  have a' : Sm (dRow v.2) 120 1 := a.mono (by omega) (Nat.le_refl _)
  have b : Sm (.int v.1) 120 1 := (sm_int h0 (by omega)).mono (by decide) (by decide)
  exact (SmA.cons b (SmA.cons a' (SmA.nil (w := 121) (k := 1)))).tuple.mono (by show 121 * 2 ≤ 242; decide) (Nat.le_refl _)
theorem sm_views : ∀ {vs : List (Int × List Int)}, (∀ v ∈ vs, 0 ≤ v.1 ∧ v.1 < 10 ∧ v.2.length ≤ 10 ∧ ∀ x ∈ v.2, 0 ≤ x ∧ x < 10) → SmA (vs.map dV) 243 2
  | [], _ => .nil
  | v :: vs, h => by
    obtain ⟨h1, h2, h3, h4⟩ := h v (by simp)
    exact .cons (sm_view h1 h2 h3 h4) (sm_views fun y hy => h y (by simp [hy]))
theorem rep_all {k : Int} {n : Nat} (hok : okB k n = true) (k1 : k < 10) : Rep (.tuple ((allV k n).map dV)) := by
  have hR := (okB_rows hok n (Nat.le_refl _)).2
  have hA : (allV k n).length ≤ 1000 := by
    unfold okB at hok
    rw [Bool.and_eq_true] at hok
    exact of_decide_eq_true hok.1
  have z := (sm_views (vs := allV k n) fun v hv => by
    obtain ⟨m, hm, hv⟩ := List.mem_flatMap.mp hv
    obtain ⟨r, hr, rfl⟩ := List.mem_map.mp hv
    have hm := List.mem_range.mp hm
    obtain ⟨a, b⟩ := hR r hr
    exact ⟨Int.natCast_nonneg _, by show (m : Int) < 10; omega, a, b⟩).tuple
  rw [List.length_map] at z
  exact z.rep (by omega) (by decide)
theorem rep_int {i : Int} (h0 : 0 ≤ i) (h1 : i < 1000) : Rep (.int i) := (sm_int h0 h1).rep (by decide) (by decide)
theorem srt_uniq {l l' : List Int} (p : l.Perm l') (h : l.Pairwise (· ≤ ·)) (h' : l'.Pairwise (· ≤ ·)) : l = l' :=
  p.eq_of_pairwise (fun a b _ _ h1 h2 => Int.le_antisymm h1 h2) h h'
theorem ok_kn : ∀ k : Int, 1 ≤ k → k < 5 → ∀ n : Nat, n < 5 → okB k n = true := by
  intro k h1 h2 n h3
  have hk : k = 1 ∨ k = 2 ∨ k = 3 ∨ k = 4 := by omega
  have hn : n = 0 ∨ n = 1 ∨ n = 2 ∨ n = 3 ∨ n = 4 := by omega
  rcases hk with rfl | rfl | rfl | rfl <;> rcases hn with rfl | rfl | rfl | rfl | rfl <;> decide +kernel
end K02

namespace K02
open PySem PySem.Spec PyProof.Rows L2 KX LamX
abbrev sLaw : Stmt := top 27
theorem scLaw : FnScope ["script", "deal", "turn", "kinds", "view", "row", "kept", "mode", "many", "due", "one", "line"] ["script"] (defScope sLaw) := ⟨rfl, rfl, rfl, by decide +kernel, rfl, by decide +kernel, by decide +kernel⟩
structure GloL (mg : Str → Option Value) (fD fA fT fX fRw fM fV fS fW fB : Addr) : Prop where
  draw : mg "_law_draw" = some (.ref fD)
  any : mg "_law_any" = some (.ref fA)
  oth : mg "_law_other" = some (.ref fT)
  mix : mg "_law_mixed" = some (.ref fX)
  rows : mg "_law_rows" = some (.ref fRw)
  mv : mg "made_view" = some (.ref fM)
  isv : mg "is_view" = some (.ref fV)
  seen : mg "seen" = some (.ref fS)
  allv : mg "all_views" = some (.ref fW)
  bad : mg "_law_bad_right" = some (.ref fB)
  rep : mg "repr" = none
  list : mg "list" = none
  tuple : mg "tuple" = none
  len : mg "len" = none
  ran : mg "range" = none
theorem filt_no {x c : Int} (h : x ≠ c) : ([x].filter fun x => decide (x = c)) = [] := by simp [h]
theorem filt_yes {x c : Int} (h : x = c) : ([x].filter fun x => decide (x = c)) = [x] := by simp [h]
def spLaw (tb : Addr) (K : PySem.W.Frag) : Sp := fun vs H Q _ => ∃ (a : Addr) (ns : List Int), vs = [.ref a] ∧ SqL K H a (ns.map V.int) ∧
  H tb = some (.tbl #[]) ∧ ∀ H', Q (.bl true) H'
section
variable {P : Program} {w : World} {K : PySem.W.Frag} {mg : Str → Option Value} {base : Heap} {fD fA fT fX fRw fM fV fS fW fB CQ tb : Addr} {fdD fdA fdT fdX fdRw fdM fdV fdS fdW fdB : FuncData}
theorem ok_law {f : Addr} {fd : FuncData} (F : Fun K "law" "law" sLaw f fd)
    (FD : Fun K "_law_draw" "_law_draw" sDraw fD fdD) (GD : FnOk P w K mg base CX0 1 fD fdD ["script", "salt"] (spDraw K))
    (FA : Fun K "_law_any" "_law_any" sAny fA fdA) (GA : FnOk P w K mg base CX0 1 fA fdA ["deal", "bound"] spAny)
    (FT : Fun K "_law_other" "_law_other" sOther fT fdT) (GT : FnOk P w K mg base CX0 2 fT fdT ["deal", "kinds", "degree"] spOther)
    (FX : Fun K "_law_mixed" "_law_mixed" sMixed fX fdX) (GX : FnOk P w K mg base CX0 2 fX fdX ["deal", "some"] (spMixed K))
    (FRw : Fun K "_law_rows" "_law_rows" sRows fRw fdRw) (GR : FnOk P w K mg base CX0 1 fRw fdRw ["kinds", "many"] spRows)
    (FM : Fun K "made_view" "made_view" sMadeView fM fdM) (GM : FnOk P w K mg base (L2.CX P w) 6 fM fdM ["mode", "neighbours"] (spMV K CQ))
    (FV : Fun K "is_view" "is_view" sIsView fV fdV) (GV : FnOk P w K mg base CX0 6 fV fdV ["value"] (spView K))
    (FS : Fun K "seen" "seen" sSeen fS fdS) (GS : FnOk P w K mg base CX0 1 fS fdS ["view", "mode"] spSeen)
    (FW : Fun K "all_views" "all_views" sAllViews fW fdW) (GW : FnOk P w K mg base CX0 1 fW fdW ["modes", "degree"] (spViews K))
    (FB : Fun K "_law_bad_right" "_law_bad_right" sBad fB fdB) (GB : FnOk P w K mg base CX0 9 fB fdB ["deal", "view"] (spBad tb K))
    (G : GloL mg fD fA fT fX fRw fM fV fS fW fB) : FnR P w K mg base CX0 (CG 10) f fd ["script"] (spLaw tb K) := by
  have bD : Binds K fdD ["script", "salt"] [] := FD.binds fun _ _ _ _ _ _ us hl => match us, hl with | [_, _], _ => rfl
  have bA : Binds K fdA ["deal", "bound"] [] := FA.binds fun _ _ _ _ _ _ us hl => match us, hl with | [_, _], _ => rfl
  have bT : Binds K fdT ["deal", "kinds", "degree"] [] := FT.binds fun _ _ _ _ _ _ us hl => match us, hl with | [_, _, _], _ => rfl
  have bX : Binds K fdX ["deal", "some"] [] := FX.binds fun _ _ _ _ _ _ us hl => match us, hl with | [_, _], _ => rfl
  have bRw : Binds K fdRw ["kinds", "many"] [] := FRw.binds fun _ _ _ _ _ _ us hl => match us, hl with | [_, _], _ => rfl
  have bM : Binds K fdM ["mode", "neighbours"] [] := FM.binds fun _ _ _ _ _ _ us hl => match us, hl with | [_, _], _ => rfl
  have bV : Binds K fdV ["value"] [] := FV.binds fun _ _ _ _ _ _ us hl => match us, hl with | [_], _ => rfl
  have bS : Binds K fdS ["view", "mode"] [] := FS.binds fun _ _ _ _ _ _ us hl => match us, hl with | [_, _], _ => rfl
  have bW : Binds K fdW ["modes", "degree"] [] := FW.binds fun _ _ _ _ _ _ us hl => match us, hl with | [_, _], _ => rfl
  have bB : Binds K fdB ["deal", "view"] [] := FB.binds fun _ _ _ _ _ _ us hl => match us, hl with | [_, _], _ => rfl
  have kM := fkSwap FM (a := "mode") (b := "neighbours") fun _ _ _ _ _ _ _ _ => rfl
  have kS := fkSwap FS (a := "view") (b := "mode") fun _ _ _ _ _ _ _ _ => rfl
  have kW := fkSwap FW (a := "modes") (b := "degree") fun _ _ _ _ _ _ _ _ => rfl
  obtain ⟨oc, od, kV, doc, pm, an, cdv, ct, osl, rfl, lk, hcd⟩ := F.ex
  refine fnG_of lk hcd scLaw (fun vs H Q E h => ?_) fun A outer s H vs Q E hr hgd h => ?_
  · obtain ⟨a, ns, rfl, _⟩ := h
    rfl
  have hu : (A.deeper (envOfC "law" (defScope sLaw) s.heap.objs.size f cdv)).units + 66 < cLine := by
    have := hr.un
    omega
  have hu64 : (A.deeper (envOfC "law" (defScope sLaw) s.heap.objs.size f cdv)).units + 64 < cLine := by omega
  refine ⟨_, PSs.nox (pss_cons (ps_set (i := 1) scLaw.nd rfl (.inl rfl) (by exact (pe_call GD (hr.mono (by decide)) (by rfl) G.draw FD.kp bD .nil pass0 (by exact (pa_cons (pv 0) (pa_cons pe_int pa_nil))))))
    (pss_cons (ps_for PassesOwn.never rfl (pi_range1 rfl G.ran (by exact pa_cons pe_int pa_nil)) (pg_name (i := 2) scLaw.nd rfl (.inl rfl))
      (pss_cons (ps_set (i := 3) scLaw.nd rfl (.inl rfl) (pe_op op_add pe_int (by exact (pe_call GA (hr.mono (by decide)) (by rfl) G.any FA.kp bA .nil pass0 (by exact (pa_cons (pv 1) (pa_cons pe_int pa_nil))))))) (pss_cons (ps_set (i := 4) scLaw.nd rfl (.inr rfl) (by exact (pe_call GT (hr.mono (by decide)) (by rfl) G.oth FT.kp bT .nil pass0 (by exact (pa_cons (pv 1) (pa_cons (pv 3) (pa_cons pe_non pa_nil))))))) (pss_cons (ps_set (i := 5) scLaw.nd rfl (.inl rfl) (by exact (pe_call GX (hr.mono (by decide)) (by rfl) G.mix FX.kp bX .nil pass0 (by exact (pa_cons (pv 1) (pa_cons (pe_ix ix_tup (pv 4) pe_int (fun _ _ => rfl)) pa_nil)))))) (C8.pss_cut (ps_set (i := 6) scLaw.nd rfl (.inl rfl) (pe_callTy call_list_of (by rfl) G.list (by decide +kernel) (by exact (pa_cons (pv 5) pa_nil)))) (C8.pss_cut (ps_if (PW.pt (pw_or (pt_cmpR op_ne (pe_callB (cr_repr hgd hu) (by rfl) G.rep (by decide +kernel) (by exact (pa_cons (by exact (pe_call GM (hr.mono (by decide)) (by rfl) G.mv FM.kp bM .nil passL (by exact (pa_cons (pe_ix ix_tup (pv 4) pe_int (fun _ _ => rfl)) (pa_cons (pv 5) pa_nil))))) pa_nil))) (pe_callB (cr_repr hgd hu) (by rfl) G.rep (by decide +kernel) (by exact (pa_cons (pv 4) pa_nil))) (nomark _)) (pw_or1 (pt_cmpR op_ne (pe_callB (cr_repr hgd hu) (by rfl) G.rep (by decide +kernel) (by exact (pa_cons (by exact (pe_callK GM (hr.mono (by decide)) (by rfl) G.mv FM.kp kM passL (by exact (pk_cons (pe_tupleOf (by rfl) G.tuple (pv 5)) (pk_cons (pe_ix ix_tup (pv 4) pe_int (fun _ _ => rfl)) pk_nil))))) pa_nil))) (pe_callB (cr_repr hgd hu) (by rfl) G.rep (by decide +kernel) (by exact (pa_cons (pv 4) pa_nil))) (nomark _))))) (pss_one (ps_ret pe_bl)) pss_nil) (C8.pss_cut (ps_if (PW.pt (pw_or (pt_cmpR (op_neD hu64) (pv 5) (pv 6) (nomark _)) (pw_or (pt_cmpR op_isnot_bl (by exact (pe_call GV (hr.mono (by decide)) (by rfl) G.isv FV.kp bV .nil pass0 (by exact (pa_cons (pv 4) pa_nil)))) pe_bl (nomark _)) (pw_or1 (pt_not (pt_val (by exact (pe_call GB (hr.mono (by decide)) (by rfl) G.bad FB.kp bB .nil pass0 (by exact (pa_cons (pv 1) (pa_cons (pv 4) pa_nil)))))))))) ) (pss_one (ps_ret pe_bl)) pss_nil) (C8.pss_cut (ps_for PassesOwn.never rfl (pi_range1 rfl G.ran (by exact pa_cons pe_int pa_nil)) (pg_name (i := 7) scLaw.nd rfl (.inr rfl)) (pss_one (ps_if (pt_cmpR op_ne (pe_callB (cr_repr hgd hu) (by rfl) G.rep (by decide +kernel) (by exact (pa_cons (by exact (pe_call GS (hr.mono (by decide)) (by rfl) G.seen FS.kp bS .nil pass0 (by exact (pa_cons (pv 4) (pa_cons (pv 7) pa_nil))))) pa_nil))) (pe_callB (cr_repr hgd hu) (by rfl) G.rep (by decide +kernel) (by exact (pa_cons (pe_callB call_len_seq (by rfl) G.len (by decide +kernel) (by exact (pa_cons (by exact (pe_lc (own := [("one", 10)]) (g := gName 10) (by rfl) scLaw.nd (pi_list (pv 5)) (blkOk_by (own := [("one", 10)]) (N := ["script", "deal", "turn", "kinds", "view", "row", "kept", "mode", "many", "due", "one", "line"]) (sc := defScope sLaw) (by decide +kernel))
        (fun _ _ _ _ _ => pg_name (i := 10) scLaw.nd rfl (Or.inl rfl)) (fun _ _ _ _ _ => pts_one (pt_cmpR op_eq (pv 10) (pv 7) (nomark _))) (fun _ _ _ _ _ => pv 10))) pa_nil))) pa_nil))) (nomark _)) (pss_one (ps_ret pe_bl)) pss_nil))) (C8.pss_cut (ps_if (pt_cmpR op_ne (pe_callB (cr_repr hgd hu) (by rfl) G.rep (by decide +kernel) (by exact (pa_cons (by exact (pe_callK GS (hr.mono (by decide)) (by rfl) G.seen FS.kp kS pass0 (by exact (pk_cons (pe_ix ix_tup (pv 4) pe_int (fun _ _ => rfl)) (pk_cons (pv 4) pk_nil))))) pa_nil))) (pe_callB (cr_repr hgd hu) (by rfl) G.rep (by decide +kernel) (by exact (pa_cons (pe_callB call_len_seq (by rfl) G.len (by decide +kernel) (by exact (pa_cons (by exact (pe_lc (own := [("one", 10)]) (g := gName 10) (by rfl) scLaw.nd (pi_list (pv 5)) (blkOk_by (own := [("one", 10)]) (N := ["script", "deal", "turn", "kinds", "view", "row", "kept", "mode", "many", "due", "one", "line"]) (sc := defScope sLaw) (by decide +kernel))
        (fun _ _ _ _ _ => pg_name (i := 10) scLaw.nd rfl (Or.inl rfl)) (fun _ _ _ _ _ => pts_one (pt_cmpR op_eq (pv 10) (pe_ix (r := rIxT K) ix_tup (pv 4) pe_int (fun _ _ => rfl)) (nomark _))) (fun _ _ _ _ _ => pv 10))) pa_nil))) pa_nil))) (nomark _)) (pss_one (ps_ret pe_bl)) pss_nil)
      (pss_cons (ps_set (i := 8) scLaw.nd rfl (.inl rfl) (by exact (pe_call GA (hr.mono (by decide)) (by rfl) G.any FA.kp bA .nil pass0 (by exact (pa_cons (pv 1) (pa_cons pe_int pa_nil)))))) (pss_cons (ps_set (i := 9) scLaw.nd rfl (.inl rfl) (pe_lst pa_nil)) (C8.pss_cut (ps_for PassesOwn.never rfl (pi_range1 rfl G.ran (by exact pa_cons (pv 3) pa_nil)) (pg_name (i := 7) scLaw.nd rfl (.inr rfl)) (pss_one (ps_set (i := 9) scLaw.nd rfl (.inl rfl) (pe_op op_cat (pv 9) (by exact (pe_lc (own := [("line", 11)]) (g := gName 11) (tt := tYes) (by rfl) scLaw.nd (pi_list (by exact (pe_call GR (hr.mono (by decide)) (by rfl) G.rows FRw.kp bRw .nil pass0 (by exact (pa_cons (pv 3) (pa_cons (pv 8) pa_nil)))))) (blkOk_by (own := [("line", 11)]) (N := ["script", "deal", "turn", "kinds", "view", "row", "kept", "mode", "many", "due", "one", "line"]) (sc := defScope sLaw) (by decide +kernel))
        (fun _ _ _ _ _ => pg_name (i := 11) scLaw.nd rfl (Or.inl rfl)) (fun _ _ _ _ _ => pts_nil) (fun _ _ _ _ _ => (pe_tup (pa_cons (pv 7) (pa_cons (pv 11) pa_nil)))))))))) (pss_one (ps_if (PW.pt (pw_or (pt_cmpR op_ne (pe_callB (cr_repr hgd hu) (by rfl) G.rep (by decide +kernel) (by exact (pa_cons (by exact (pe_call GW (hr.mono (by decide)) (by rfl) G.allv FW.kp bW .nil pass0 (by exact (pa_cons (pv 3) (pa_cons (pv 8) pa_nil))))) pa_nil))) (pe_callB (cr_repr hgd hu) (by rfl) G.rep (by decide +kernel) (by exact (pa_cons (pe_tupleOf (by rfl) G.tuple (pv 9)) pa_nil))) (nomark _)) (pw_or1 (pt_cmpR op_ne (pe_callB (cr_repr hgd hu) (by rfl) G.rep (by decide +kernel) (by exact (pa_cons (by exact (pe_callK GW (hr.mono (by decide)) (by rfl) G.allv FW.kp kW pass0 (by exact (pk_cons (pv 8) (pk_cons (pv 3) pk_nil))))) pa_nil))) (pe_callB (cr_repr hgd hu) (by rfl) G.rep (by decide +kernel) (by exact (pa_cons (pe_tupleOf (by rfl) G.tuple (pv 9)) pa_nil))) (nomark _))))) (pss_one (ps_ret pe_bl)) pss_nil))))))))))))))
    (pss_one (ps_ret pe_bl)))), ?_⟩
  obtain ⟨a, ns0, rfl, hS, ht, hQ⟩ := h
  refine ⟨.ref a, rfl, a, ns0, 2, rfl, hS, by decide, by decide, fun H0 p q S0 np nq d0 => ?_⟩
  have T0 : Tabs [(tb, qL)] H0 := fun z hz => by rw [List.mem_singleton.mp hz]; exact TabS.nil (S0 _ _ ht)
  clear hS ht
  refine ⟨4, rfl, by decide, by decide, for_range (n := 4) (fun i σ H' => (∃ o2 o3 o4 o5 o6 o7 o8 o9 o10 o11, σ = [some (.ref a), some (.ref p), o2, o3, o4, o5, o6, o7, o8, o9, o10, o11]) ∧ Deal H' p q ∧ Tabs [(tb, qL)] H')
    ⟨⟨_, _, _, _, _, _, _, _, _, _, rfl⟩, d0, T0⟩ (fun i σ H' hi hp => ?_) (fun σ H' hp => hQ H')⟩
  clear d0 T0 S0 np nq
  obtain ⟨⟨o2, o3, o4, o5, o6, o7, o8, o9, o10, o11, rfl⟩, d, T⟩ := hp
  refine ⟨.ref p, rfl, p, q, 4, rfl, d, by decide, by decide, fun H1 i1 d1 f1 i10 i11 => ⟨1, i1, rfl, rfl, ?_⟩⟩
  have e2 : (fun i j : Int => V.int (i + j)) 1 i1 = .int (1 + i1) := rfl
  obtain ⟨k, hk⟩ : ∃ k : Int, k = 1 + i1 := ⟨_, rfl⟩
  have k1 : 1 ≤ k := by omega
  have k4 : k < 5 := by omega
  rw [e2, ← hk]
  clear e2 hk i10 i11
  refine ⟨.ref p, rfl, .int k, rfl, p, q, k, rfl, d1, by omega, by omega, fun H2 v r m ns d2 f2 hv hr0 m0 mk hn hl srt => ?_⟩
  refine ⟨.ref p, rfl, .ref v, rfl, v, _, 1, .ref r, rfl, rfl, SqT.of hv, rfl, p, q, r, ns, rfl, d2, hr0.tup.sq, by omega, fun H3 L ms d3 f3 nL Lp Lq perm hL => ?_⟩
  have kp3 := Kp.fix d2 f3
  have T3 := tabs_fix (tabs_fix (tabs_fix T d f1) d1 f2) d2 f3
  have hv3 := tup_kp hv kp3
  have hr3 := TupF.kp hr0 kp3
  have m4 : m < 4 := by omega
  have hn4 : ∀ n ∈ ns, 0 ≤ n ∧ n < 4 := fun n h => ⟨(hn n h).1, by have := (hn n h).2; omega⟩
  have hms : ∀ n ∈ ms, 0 ≤ n ∧ n < 4 := fun n h => hn4 n (perm.mem_iff.mp h)
  have lms : ms.length ≤ 4 := by rw [perm.length_eq]; exact hl
  clear hv hr0 kp3 T d f1 d1 f2 d2 f3 nL H1 H2 H'
  have eqs : ∀ ns' : List Int, ns'.Perm ns → ns'.Pairwise (· ≤ ·) → ns' = ns := fun ns' h1 h2 => srt_uniq h1 h2 srt
  have rv : Rep (dV (m, ns)) := (sm_view (v := (m, ns)) m0 (by show m < 10; omega) (by show ns.length ≤ 10; omega) (fun x hx => ⟨(hn4 x hx).1, by have := (hn4 x hx).2; omega⟩)).rep (by decide) (by decide)
  have dpv : ∀ {H' : Hp} {v' r' : Addr}, H' v' = some (.tup [.int m, .ref r']) → Tup H' r' (ns.map V.int) → Dp K H' (.ref v') (dV (m, ns)) := fun h1 h2 => .tup (SqT.of h1) (.cons (.int _) (.cons (dp_rowT h2) .nil))
  let Ms : Hp → Prop := fun H => Deal H p q ∧ Tabs [(tb, qL)] H ∧ H v = some (.tup [.int m, .ref r]) ∧ TupF H r (ns.map V.int) ∧ H L = some (.lst (ms.map V.int))
  have mss : ∀ {H H' : Hp}, Ms H → Same H H' → Ms H' := fun h s => ⟨h.1.same s, h.2.1.ext s, s _ _ h.2.2.1, h.2.2.2.1.same s, s _ _ h.2.2.2.2⟩
  let Md : L2.St → Hp → Prop := fun σ H => Ms H ∧ ∃ o2 W o7 o8 o9 o10 o11, σ = [some (.ref a), some (.ref p), o2, some (.int k), some (.ref v), some (.ref L), W, o7, o8, o9, o10, o11]
  let Mw : L2.St → Hp → Prop := fun σ H => Ms H ∧ ∃ o2 W o7 o8 o9 o10 o11, σ = [some (.ref a), some (.ref p), o2, some (.int k), some (.ref v), some (.ref L), some (.ref W), o7, o8, o9, o10, o11] ∧ H W = some (.lst (ms.map V.int))
  refine ⟨Mw, ⟨.ref L, rfl, L, _, rfl, Or.inl (SqL.of hL), fun W hW => ⟨mss ⟨d3, T3, hv3, hr3, hL⟩ (Same.new hW), _, W, _, _, _, _, _, rfl, upd_same⟩⟩, ?_⟩
  clear d3 T3 hv3 hr3 hL H3
  have nbm : (ms.map some).all bel4 = true := bel4_ints hms
  rintro σ H1 ⟨M, o2, W, o7, o8, o9, o10, o11, rfl, hW⟩
  refine ⟨Mw, ?_, ?_⟩
  · have nb1 : NbIs K H1 (.ref L) true := by
      have z := NbIs.all (SqX.lst M.2.2.2.2) (kin_ints K H1 ms) (by simpa using lms)
      rw [nbm] at z; exact z
    have b4 : bel4 (some m) = true := by
      show (decide (0 ≤ m) && decide (m < 4)) = true
      rw [decide_eq_true m0, decide_eq_true m4]; rfl
    refine ⟨.ref v, rfl, v, _, 0, .int m, rfl, rfl, SqT.of M.2.2.1, rfl, .ref L, rfl, .int m, .ref L, some m, true, rfl, .int m, nb1, fun z => absurd z (by rw [b4]; decide), fun _ => ⟨m, ms, rfl, .lst M.2.2.2.2, by omega, fun H2 ns' r' p' S2 pm st hr' hp' => ?_⟩⟩
    have en := eqs ns' (pm.trans perm) st
    subst en
    have E3 := S2.trans (Same.new (o := .tup [.int m, .ref r']) hp')
    have hr'' : upd H2 p' (.tup [.int m, .ref r']) r' = some (.tup (ns'.map V.int)) := Same.new hp' _ _ hr'
    have M3 := mss M E3
    refine ⟨.ref p', dV (m, ns'), rfl, dpv upd_same (Tup.of hr''), rv.s, rv.n, rv.h, rv.l, .ref v, rfl, .ref v, dV (m, ns'), rfl, dpv M3.2.2.1 M3.2.2.2.1.tup, rv.s, rv.n, rv.h, rv.l, rfl, _, rfl, iteF' (by simp) ?_⟩
    have hW3 := E3 _ _ hW
    generalize upd H2 p' (.tup [.int m, .ref r']) = H3 at E3 hr'' M3 hW3
    refine ⟨.ref L, rfl, Or.inl ⟨L, _, rfl, SqL.of M3.2.2.2.2, fun tq htq => ?_⟩⟩
    have E4 : Same H3 (upd H3 tq (.tup (ms.map V.int))) := Same.new htq
    have F4 : upd H3 tq (.tup (ms.map V.int)) tq = some (.tup (ms.map V.int)) := upd_same
    have M4 := mss M3 E4
    have hW4 := E4 _ _ hW3
    generalize upd H3 tq (.tup (ms.map V.int)) = H4 at E4 F4 M4 hW4
    have nb2 : NbIs K H4 (.ref tq) true := by
      have z := NbIs.all (SqX.tup (Tup.of F4)) (kin_ints K H4 ms) (by simpa using lms)
      rw [nbm] at z; exact z
    refine ⟨.ref v, rfl, v, _, 0, .int m, rfl, rfl, SqT.of M4.2.2.1, rfl, rfl, .int m, .ref tq, some m, true, rfl, .int m, nb2, fun z => absurd z (by rw [b4]; decide), fun _ => ⟨m, ms, rfl, .tup (Tup.of F4), by omega, fun H5 ns2 r2 p2 S5 pm2 st2 hr2 hp2 => ?_⟩⟩
    have en2 := eqs ns2 (pm2.trans perm) st2
    subst en2
    have E6 := S5.trans (Same.new (o := .tup [.int m, .ref r2]) hp2)
    have hr22 : upd H5 p2 (.tup [.int m, .ref r2]) r2 = some (.tup (ns2.map V.int)) := Same.new hp2 _ _ hr2
    have M6 := mss M4 E6
    exact ⟨.ref p2, dV (m, ns2), rfl, dpv upd_same (Tup.of hr22), rv.s, rv.n, rv.h, rv.l, .ref v, rfl, .ref v, dV (m, ns2), rfl, dpv M6.2.2.1 M6.2.2.2.1.tup, rv.s, rv.n, rv.h, rv.l, rfl, _, rfl, iteF' (by simp) ⟨M6, _, W, _, _, _, _, _, rfl, E6 _ _ hW4⟩⟩
  clear M hW o2 W o7 o8 o9 o10 o11 H1
  rintro σ H1 ⟨M, o2, W, o7, o8, o9, o10, o11, rfl, hW⟩
  refine ⟨Md, ?_, ?_⟩
  · refine ⟨.ref L, rfl, .ref W, rfl, _, _, dp_ints M.2.2.2.2, dp_ints hW, sh_ints ms, sh_ints ms, _, rfl, iteF' (by show (!PyData.eqvAll _ _) = false; rw [eqv_ints]; simp) ?_⟩
    refine ⟨.ref v, rfl, .ref v, true, rfl, .good (Tup.of M.2.2.1) M.2.2.2.1.tup m0 m4 hn4 hl (fun ns' pm st => by rw [eqs ns' pm st]; simp), fun H2 S2 => ⟨true, true, rfl, rfl, _, rfl, iteF' (by decide) ?_⟩⟩
    obtain ⟨d2, T2, hv2, hr2, hL2⟩ := mss M S2
    refine ⟨.ref p, rfl, .ref v, rfl, p, q, v, r, m, ns, rfl, d2, T2, hv2, hr2, m0, m4, hn4, hl, srt, fun H3 d3 T3 nl ls => ⟨true, rfl, iteF ?_⟩⟩
    have kp : Kp p q H2 H3 := ⟨nl, ls⟩
    exact ⟨⟨d3, T3, tup_kp hv2 kp, TupF.kp hr2 kp, ls _ _ Lp Lq hL2⟩, _, _, _, _, _, _, _, rfl⟩
  clear M hW o2 W o7 o8 o9 o10 o11 H1
  have cnt : ∀ c : Int, (ms.filter fun x => decide (x = c)).length = ns.count c := fun c => by
    rw [← perm.count_eq c, List.count_eq_countP, List.countP_eq_length_filter]
    rfl
  have rc : ∀ c : Int, Rep (.int ((ns.count c : Nat) : Int)) := fun c => rep_int (Int.natCast_nonneg _) (by have := List.count_le_length (a := c) (l := ns); omega)
  rintro σ H1 ⟨M, o2, W, o7, o8, o9, o10, o11, rfl⟩
  refine ⟨Md, ?_, ?_⟩
  · refine ⟨4, rfl, by decide, by decide, for_range (n := 4) (fun _ σ H => Md σ H) ⟨M, _, _, _, _, _, _, _, rfl⟩ (fun j σ H2 hj M2 => ?_) (fun σ H2 M2 => M2)⟩
    obtain ⟨M, o2, W, o7, o8, o9, o10, o11, rfl⟩ := M2
    have rj := rc (0 + (j : Int))
    refine ⟨.ref v, rfl, .int (0 + (j : Int)), rfl, v, r, m, 0 + (j : Int), ns, rfl, M.2.2.1, M.2.2.2.1, .int _, .int _, rfl, .int _, rj.s, rj.n, rj.h, rj.l, ?_⟩
    refine ⟨.ref L, rfl, L, rfl, ⟨_, SqL.of M.2.2.2.2⟩, fun D hD => ?_⟩
    refine lc_list (xs := ms.map V.int) (fun j' H' => Same H2 H' ∧ H' D = some (.lst (((ms.take j').filter fun x => decide (x = 0 + (j : Int))).map V.int)))
      ⟨Same.new hD, upd_same⟩ (fun j' H' _ z => SqL.of (z.1 _ _ M.2.2.2.2)) (fun j' y H' hj' z => ?_) (fun H' z => ?_)
    · obtain ⟨S, hd⟩ := z
      rw [List.getElem?_map] at hj'
      obtain ⟨x, hx, rfl⟩ := Option.map_eq_some_iff.mp hj'
      refine ⟨rfl, .int x, rfl, .int (0 + (j : Int)), rfl, rfl, _, rfl, ?_⟩
      by_cases hc : x = 0 + (j : Int)
      · refine iteT' (by rw [hc]; simp) ⟨.int x, rfl, _, hd, ?_, ?_, ?_⟩
        · rw [List.length_map]; exact Nat.lt_of_le_of_lt (Nat.le_trans (List.length_filter_le _ _) (by rw [List.length_take]; omega : _ ≤ 4)) (by decide)
        · exact Same.upd S hD
        · rw [upd_same, List.take_succ, hx, Option.toList_some, List.filter_append, filt_yes hc, List.map_append]; rfl
      · refine iteF' (decide_eq_false fun z => hc (by injection z)) ⟨S, ?_⟩
        rw [hd, List.take_succ, hx, Option.toList_some, List.filter_append, filt_no hc, List.append_nil]
    · obtain ⟨S, hd⟩ := z
      rw [List.length_map, List.take_length] at hd
      refine ⟨D, _, rfl, Or.inl (SqL.of hd), ?_⟩
      rw [List.length_map, cnt]
      exact ⟨.int _, .int _, rfl, .int _, rj.s, rj.n, rj.h, rj.l, rfl, _, rfl, iteF' (by simp) ⟨mss M S, _, _, _, _, _, _, _, rfl⟩⟩
  clear M o2 W o7 o8 o9 o10 o11 H1
  rintro σ H1 ⟨M, o2, W, o7, o8, o9, o10, o11, rfl⟩
  refine ⟨Md, ?_, ?_⟩
  · have rj := rc m
    refine ⟨.ref v, rfl, v, _, 0, .int m, rfl, rfl, SqT.of M.2.2.1, rfl, .ref v, rfl, rfl, v, r, m, m, ns, rfl, M.2.2.1, M.2.2.2.1, .int _, .int _, rfl, .int _, rj.s, rj.n, rj.h, rj.l, ?_⟩
    refine ⟨.ref L, rfl, L, rfl, ⟨_, SqL.of M.2.2.2.2⟩, fun D hD => ?_⟩
    refine lc_list (xs := ms.map V.int) (fun j' H' => Same H1 H' ∧ H' D = some (.lst (((ms.take j').filter fun x => decide (x = m)).map V.int)))
      ⟨Same.new hD, upd_same⟩ (fun j' H' _ z => SqL.of (z.1 _ _ M.2.2.2.2)) (fun j' y H' hj' z => ?_) (fun H' z => ?_)
    · obtain ⟨S, hd⟩ := z
      rw [List.getElem?_map] at hj'
      obtain ⟨x, hx, rfl⟩ := Option.map_eq_some_iff.mp hj'
      refine ⟨rfl, .int x, rfl, .ref v, rfl, v, _, 0, .int m, rfl, rfl, SqT.of (S _ _ M.2.2.1), rfl, rfl, _, rfl, ?_⟩
      by_cases hc : x = m
      · refine iteT' (by rw [hc]; simp) ⟨.int x, rfl, _, hd, ?_, ?_, ?_⟩
        · rw [List.length_map]; exact Nat.lt_of_le_of_lt (Nat.le_trans (List.length_filter_le _ _) (by rw [List.length_take]; omega : _ ≤ 4)) (by decide)
        · exact Same.upd S hD
        · rw [upd_same, List.take_succ, hx, Option.toList_some, List.filter_append, filt_yes hc, List.map_append]; rfl
      · refine iteF' (decide_eq_false fun z => hc (by injection z)) ⟨S, ?_⟩
        rw [hd, List.take_succ, hx, Option.toList_some, List.filter_append, filt_no hc, List.append_nil]
    · obtain ⟨S, hd⟩ := z
      rw [List.length_map, List.take_length] at hd
      refine ⟨D, _, rfl, Or.inl (SqL.of hd), ?_⟩
      rw [List.length_map, cnt]
      exact ⟨.int _, .int _, rfl, .int _, rj.s, rj.n, rj.h, rj.l, rfl, _, rfl, iteF' (by simp) ⟨mss M S, _, _, _, _, _, _, _, rfl⟩⟩
  clear M o2 W o7 o8 o9 o10 o11 H1
  rintro σ H1 ⟨M, o2, W, o7, o8, o9, o10, o11, rfl⟩
  obtain ⟨d, T, hv, hr1, hL⟩ := M
  refine ⟨.ref p, rfl, p, q, 5, rfl, d, by decide, by decide, fun H2 n d2 f2 n0 n1 => ?_⟩
  obtain ⟨n, rfl⟩ := Int.eq_ofNat_of_zero_le n0
  have T2 := tabs_fix T d f2
  clear d T hv hr1 hL f2 H1
  have hok : okB k n = true := ok_kn k k1 k4 n (by omega)
  refine ⟨by show 0 ≤ sizeLine; decide, fun Du hDu => ?_⟩
  have d3 := d2.same (Same.new (o := .lst []) hDu)
  have T3 := T2.ext (Same.new (o := .lst []) hDu)
  have hDu3 : upd H2 Du (.lst []) Du = some (.lst []) := upd_same
  generalize upd H2 Du (.lst []) = H3 at d3 T3 hDu3
  clear d2 T2 hDu
  have ra := rep_all hok (by omega : k < 10)
  have hA : (allV k n).length ≤ 1000 := by
    unfold okB at hok
    rw [Bool.and_eq_true] at hok
    exact of_decide_eq_true hok.1
  refine ⟨fun σ H => Deal H p q ∧ Tabs [(tb, qL)] H ∧ ∃ Du qs o2 o4 o5 W o7 o10 o11, σ = [some (.ref a), some (.ref p), o2, some (.int k), o4, o5, W, o7, some (.int (n : Int)), some (.ref Du), o10, o11] ∧ H Du = some (.lst (qs.map V.ref)) ∧ Paired (ViewAt H) qs (allV k n), ?_, ?_⟩
  · let fm : Nat → List (Int × List Int) := fun (m : Nat) => (rowsOf k n).map fun r => ((m : Int), r)
    have eR : ∀ m : Nat, m < k.toNat → (List.range k.toNat)[m]? = some m := fun m h => List.getElem?_range h
    refine ⟨.int k, rfl, k, rfl, by omega, by omega, for_range (n := k.toNat) (fun j σ H' => Same H3 H' ∧ ∃ Du qs o7 o10 o11, σ = [some (.ref a), some (.ref p), o2, some (.int k), some (.ref v), some (.ref L), W, o7, some (.int (n : Int)), some (.ref Du), o10, o11] ∧ H' Du = some (.lst (qs.map V.ref)) ∧ Paired (ViewAt H') qs (((List.range k.toNat).take j).flatMap fm))
      ⟨Same.refl _, Du, [], _, _, _, rfl, hDu3, .nil⟩ (fun j σ H' hj z => ?_) (fun σ H' z => ?_)⟩
    · obtain ⟨S, Du, qs, o7, o10, o11, rfl, hq, hQs⟩ := z
      refine ⟨.ref Du, rfl, .int k, rfl, .int (n : Int), rfl, k, n, rfl, by omega, by omega, by omega, hok, fun H6 D6 ps S6 hD6 hP6 => ⟨D6, rfl, ⟨_, SqL.of hD6⟩, fun D hD => ?_⟩⟩
      have lenP := paired_len hP6
      have small : ∀ i, ((fm j).take i).length ≤ 1000 := fun i => by
        have := flat_le fm (eR j hj) i
        rw [List.length_append] at this
        have e : (List.flatMap fm (List.range k.toNat)).length = (allV k n).length := rfl
        omega
      refine lc_list (xs := ps.map V.ref) (fun i H7 => Same H6 H7 ∧ ∃ qs, H7 D = some (.lst (qs.map V.ref)) ∧ Paired (ViewAt H7) qs ((fm j).take i))
        ⟨Same.new hD, [], upd_same, .nil⟩ (fun i H7 _ z => SqL.of (z.1 _ _ hD6)) (fun i y H7 hi' z => ?_) (fun H7 z => ?_)
      · obtain ⟨S7, qs', hq', hQs'⟩ := z
        rw [List.getElem?_map] at hi'
        obtain ⟨pj, hpj, rfl⟩ := Option.map_eq_some_iff.mp hi'
        obtain ⟨rw', hrw, hrow⟩ := paired_get hP6 hpj
        have hrow7 : RowAt H7 pj rw' := S7 _ _ hrow
        refine ⟨rfl, .int (0 + (j : Int)), rfl, .ref pj, rfl, by show 2 ≤ sizeLine; decide, fun u hu => ?_⟩
        have Su : Same H7 (upd H7 u (.tup [.int (0 + (j : Int)), .ref pj])) := Same.new hu
        have hq7 := Su _ _ hq'
        have ll : qs'.length ≤ 1000 := by rw [paired_len hQs']; exact small i
        refine ⟨qs'.map V.ref, hq7, by rw [List.length_map]; exact Nat.lt_of_le_of_lt ll (by decide), Same.upd (S7.trans Su) hD, qs' ++ [u], by rw [upd_same]; simp, ?_⟩
        have eg : (fm j)[i]? = some ((j : Int), rw') := by
          show ((rowsOf k n).map fun r => ((j : Int), r))[i]? = _
          rw [List.getElem?_map, hrw]; rfl
        rw [List.take_succ, eg]
        refine paired_snoc (paired_mono hQs' fun a b h => (h.same Su).up hq7) ?_
        have vu : ViewAt (upd H7 u (.tup [.int (0 + (j : Int)), .ref pj])) u ((j : Int), rw') := ⟨pj, by rw [upd_same, Int.zero_add], Su _ _ hrow7⟩
        exact vu.up hq7
      · obtain ⟨S7, qs', hq', hQs'⟩ := z
        have e : (fm j).take (ps.map V.ref).length = fm j := by
          rw [List.length_map, lenP]
          exact List.take_of_length_le (by simp [fm])
        rw [e] at hQs'
        have hq6 := S7 _ _ (S6 _ _ hq)
        have hQ7 := paired_mono hQs fun a b h => (ViewAt.same h S6).same S7
        have l1 := paired_len hQ7
        have l2 := paired_len hQs'
        have b0 := flat_le fm (eR j hj) (fm j).length
        rw [List.take_length, List.length_append] at b0
        have eS : (List.flatMap fm (List.range k.toNat)).length = (allV k n).length := rfl
        refine ⟨Du, D, _, _, rfl, rfl, hq6, hq', ?_, fun M hM => ?_⟩
        · rw [List.length_map, List.length_map]
          exact Nat.le_trans (by omega : qs.length + qs'.length ≤ 1000) (by decide)
        have SM : Same H7 (upd H7 M (.lst (qs.map V.ref ++ qs'.map V.ref))) := Same.new hM
        refine ⟨((S.trans S6).trans S7).trans SM, M, qs ++ qs', _, _, _, rfl, by rw [upd_same]; simp, ?_⟩
        rw [flat_snoc fm (eR j hj)]
        exact paired_append (paired_mono hQ7 fun a b h => h.same SM) (paired_mono hQs' fun a b h => h.same SM)
    · obtain ⟨S, Du, qs, o7, o10, o11, rfl, hq, hQs⟩ := z
      have e : (List.range k.toNat).take k.toNat = List.range k.toNat := List.take_of_length_le (by simp)
      rw [e] at hQs
      exact ⟨d3.same S, T3.ext S, Du, qs, _, _, _, _, _, _, _, rfl, hq, hQs⟩
  clear d3 T3 hDu3 H3
  rintro σ H1 ⟨d, T, Du, qs, o2, o4, o5, W, o7, o10, o11, rfl, hq, hQs⟩
  refine ⟨.int k, rfl, .int (n : Int), rfl, k, n, rfl, by omega, by omega, by omega, hok, fun H2 t S2 hd => ?_⟩
  refine ⟨.ref t, _, rfl, hd, ra.s, ra.n, ra.h, ra.l, .ref Du, rfl, Or.inl ⟨Du, _, rfl, SqL.of (S2 _ _ hq), fun t2 ht2 => ?_⟩⟩
  have E3 := S2.trans (Same.new (o := .tup (qs.map V.ref)) ht2)
  refine ⟨.ref t2, .tuple ((allV k n).map dV), rfl, .tup (SqT.of upd_same) (dp_views (paired_mono hQs fun a b h => h.same E3)), ra.s, ra.n, ra.h, ra.l, rfl, _, rfl, iteF' (by simp) ?_⟩
  generalize upd H2 t2 (.tup (qs.map V.ref)) = H3 at E3
  refine ⟨.int (n : Int), rfl, .int k, rfl, rfl, k, n, rfl, by omega, by omega, by omega, hok, fun H4 t4 S4 hd4 => ?_⟩
  have E4 := E3.trans S4
  refine ⟨.ref t4, _, rfl, hd4, ra.s, ra.n, ra.h, ra.l, .ref Du, rfl, Or.inl ⟨Du, _, rfl, SqL.of (E4 _ _ hq), fun t5 ht5 => ?_⟩⟩
  have E5 := E4.trans (Same.new (o := .tup (qs.map V.ref)) ht5)
  exact ⟨.ref t5, .tuple ((allV k n).map dV), rfl, .tup (SqT.of upd_same) (dp_views (paired_mono hQs fun a b h => h.same E5)), ra.s, ra.n, ra.h, ra.l, rfl, _, rfl, iteF' (by simp) ⟨⟨_, _, _, _, _, _, _, _, _, _, rfl⟩, d.same E5, T.ext E5⟩⟩
end
end K02

namespace K02
open PySem PySem.Spec PyProof.Rows L2 L2H KX
/-! what the top has written, as one test -/
def ClsAt (K : PySem.W.Frag) (c : Addr) : Prop := ∃ nm q N bs bm sn sub ab col dd k0 k1 k2 k3 k5,
  K.lookup c = some (excClassObj nm q c N bs bm true sn sub ab col dd k0 k1 k2 k3 k5 "ValueError.__new__") ∧ PySem.HandSPX.refsVE bm = true
def IniAt (K : PySem.W.Frag) (qn : Str) (f : Addr) : Prop :=
  ∃ (oc : Value) (od : Option Addr) (doc pm : Value) (an : Option Addr) (cdv ct : Value) (osl : Array (Option Value)) (p1 p2 q1 q2 q3 q4 : Pos),
    K.lookup f = some ⟨oc, od, .func (PySem.W.fnOf "__init__" qn (PySem.ErrX.iA p1 p2) (PySem.ErrX.iB q1 q2 q3 q4) PySem.ErrX.iS .none .none doc pm an cdv ct), osl⟩ ∧
      PySem.W.codeIn K cdv qn = true
def okE (K : PySem.W.Frag) (c f cn : Addr) : Bool :=
  xfB K c && (decide (PySem.W.findIn K (.ref c) "at" = some none) &&
  (decide (PySem.W.findIn K (.ref c) "__setattr__" = some (some (.builtin "object.__setattr__"))) &&
  (decide (PySem.W.findIn K (.ref c) "__init__" = some (some (.ref f))) &&
  (decide (PySem.W.typeIn K (.ref f) = some (.type "function")) && (PySem.W.keepIn K (.ref c) &&
  (decide (PySem.W.typeIn K (.ref c) = some (.type "type")) && (decide (PySem.W.exmOne K (.ref c) (.ref c) = some true) &&
  (decide (PySem.W.findIn K (.ref c) "__class__" = some (some (.builtin "object.__class__"))) &&
  (decide (PySem.W.specialIn K (.builtin "object.__class__") "__get__" = some (some (.builtin "getset_descriptor.__get__"))) &&
  (decide (PySem.W.takesIn K (.builtin "object.__class__") = some true) && (decide (PySem.W.mroIn K c (.type "object") = some true) &&
  (decide (PySem.W.kitOne K (.ref c) (.type "ValueError") = some true) &&
   decide (PySem.W.exmOne K (.ref c) (.ref cn) = some true)))))))))))))
structure OkE (K : PySem.W.Frag) (c f cn : Addr) : Prop where
  xf : XfC K c
  no : PySem.W.findIn K (.ref c) "at" = some none
  sa : PySem.W.findIn K (.ref c) "__setattr__" = some (some (.builtin "object.__setattr__"))
  ini : PySem.W.findIn K (.ref c) "__init__" = some (some (.ref f))
  tf : PySem.W.typeIn K (.ref f) = some (.type "function")
  kc : PySem.W.keepIn K (.ref c) = true
  ty : PySem.W.typeIn K (.ref c) = some (.type "type")
  te : PySem.W.exmOne K (.ref c) (.ref c) = some true
  ha : PySem.W.findIn K (.ref c) "__class__" = some (some (.builtin "object.__class__"))
  hn : PySem.W.specialIn K (.builtin "object.__class__") "__get__" = some (some (.builtin "getset_descriptor.__get__"))
  ht : PySem.W.takesIn K (.builtin "object.__class__") = some true
  hm : PySem.W.mroIn K c (.type "object") = some true
  ve : PySem.W.kitOne K (.ref c) (.type "ValueError") = some true
  exm : PySem.W.exmOne K (.ref c) (.ref cn) = some true
theorem okE_ok {K : PySem.W.Frag} {c f cn : Addr} (h : okE K c f cn = true) : OkE K c f cn := by
  unfold okE at h
  simp only [Bool.and_eq_true, decide_eq_true_eq] at h
  obtain ⟨h1, h2, h3, h4, h5, h6, h7, h8, h9, h10, h11, h12, h13, h14⟩ := h
  exact ⟨xfB_ok h1, h2, h3, h4, h5, h6, h7, h8, h9, h10, h11, h12, h13, h14⟩
theorem err_of {K : PySem.W.Frag} {mg : Str → Option Value} {en qn : Str} {c f cn : Addr} (z : OkE K c f cn)
    (g : mg en = some (.ref c)) (hc : ClsAt K c) (hf : IniAt K qn f) : PySem.ErrX.ErrTxt K mg en qn c f :=
  ⟨g, hc, z.sa, z.xf.ga, z.xf.gg, z.no, z.ini, z.tf, z.kc, z.xf.exC, z.ty, z.xf.hdC, z.te, hf⟩
/-- a def of the top at f -/
def DefAt (K : PySem.W.Frag) (x : Str) (st : Stmt) (f : Addr) : Prop :=
  ∃ (oc : Value) (od : Option Addr) (kV doc pm : Value) (an : Option Addr) (cdv ct : Value) (osl : Array (Option Value)),
    K.lookup f = some ⟨oc, od, .func (PySem.W.fnOf x x (defArgs st) (defBody st) (defScope st) .none kV doc pm an cdv ct), osl⟩ ∧
      PySem.W.codeIn K cdv x = true
theorem fun_of {K : PySem.W.Frag} {x : Str} {st : Stmt} {f : Addr} (h : DefAt K x st f) (k : PySem.W.keepIn K (.ref f) = true) :
    ∃ fd kV doc pm an cdv ct, fd = PySem.W.fnOf x x (defArgs st) (defBody st) (defScope st) .none kV doc pm an cdv ct ∧ Fun K x x st f fd := by
  obtain ⟨oc, od, kV, doc, pm, an, cdv, ct, osl, l, c⟩ := h
  exact ⟨_, kV, doc, pm, an, cdv, ct, rfl, fun_mk l c k⟩

theorem all_mk {l : PySem.W.OpenLaw} {w : World} {K : PySem.W.Frag} {h : Heap} {mg : Str → Option Value} {fa : Addr} (X : K.In h)
    (G : h.Ns mainGlobals mg) (hfa : mg "law" = some (.ref fa))
    {cQ cn fQ cc tb fB1 : Addr} {t1 t2 : Tok} {fZ1 fN1 fE1 fQ1 fU1 fY1 fP1 fV1 fM1 fW1 fS1 fD1 fA1 fO1 fT1 fX1 fR1 fJ1 fL1 : Addr}
    (aQ : PySem.W.nsIn K mainGlobals "InvalidView" = some (some (.ref cQ)))
    (aN : PySem.W.nsIn K mainGlobals "NetError" = some (some (.ref cn)))
    (iQ : PySem.W.findIn K (.ref cQ) "__init__" = some (some (.ref fQ)))
    (ok : okE K cQ fQ cn = true) (kit : PySem.W.kitOne K (.ref cQ) (.ref cn) = some true)
    (xQ : ClsAt K cQ) (yQ : IniAt K "InvalidView.__init__" fQ)
    (gm : PySem.W.nsIn K mainGlobals "MOST_MODES" = some (some (.int 4 t1))) (gn : PySem.W.nsIn K mainGlobals "MOST_NEIGHBOURS" = some (some (.int 4 t2)))
    (gZ : PySem.W.nsIn K mainGlobals "is_integer" = some (some (.ref fZ1))) (dZ : DefAt K "is_integer" sIsInt fZ1) (kZ : PySem.W.keepIn K (.ref fZ1) = true)
    (gN : PySem.W.nsIn K mainGlobals "is_number" = some (some (.ref fN1))) (dN : DefAt K "is_number" sIsNum fN1) (kN : PySem.W.keepIn K (.ref fN1) = true)
    (gE : PySem.W.nsIn K mainGlobals "is_below" = some (some (.ref fE1))) (dE : DefAt K "is_below" sIsBelow fE1) (kE : PySem.W.keepIn K (.ref fE1) = true)
    (gQ : PySem.W.nsIn K mainGlobals "is_sequence" = some (some (.ref fQ1))) (dQ : DefAt K "is_sequence" sIsSeq fQ1) (kQ : PySem.W.keepIn K (.ref fQ1) = true)
    (gU : PySem.W.nsIn K mainGlobals "is_tuple_of" = some (some (.ref fU1))) (dU : DefAt K "is_tuple_of" sIsTup fU1) (kU : PySem.W.keepIn K (.ref fU1) = true)
    (gY : PySem.W.nsIn K mainGlobals "is_mode" = some (some (.ref fY1))) (dY : DefAt K "is_mode" sIsMode fY1) (kY : PySem.W.keepIn K (.ref fY1) = true)
    (gP : PySem.W.nsIn K mainGlobals "are_neighbours" = some (some (.ref fP1))) (dP : DefAt K "are_neighbours" sAreNb fP1) (kP : PySem.W.keepIn K (.ref fP1) = true)
    (gV : PySem.W.nsIn K mainGlobals "is_view" = some (some (.ref fV1))) (dV : DefAt K "is_view" sIsView fV1) (kV : PySem.W.keepIn K (.ref fV1) = true)
    (gM : PySem.W.nsIn K mainGlobals "made_view" = some (some (.ref fM1))) (dM : DefAt K "made_view" sMadeView fM1) (kM : PySem.W.keepIn K (.ref fM1) = true)
    (gW : PySem.W.nsIn K mainGlobals "all_views" = some (some (.ref fW1))) (dW : DefAt K "all_views" sAllViews fW1) (kW : PySem.W.keepIn K (.ref fW1) = true)
    (gS : PySem.W.nsIn K mainGlobals "seen" = some (some (.ref fS1))) (dS : DefAt K "seen" sSeen fS1) (kS : PySem.W.keepIn K (.ref fS1) = true)
    (gD : PySem.W.nsIn K mainGlobals "_law_draw" = some (some (.ref fD1))) (dD : DefAt K "_law_draw" sDraw fD1) (kD : PySem.W.keepIn K (.ref fD1) = true)
    (gA : PySem.W.nsIn K mainGlobals "_law_any" = some (some (.ref fA1))) (dA : DefAt K "_law_any" sAny fA1) (kA : PySem.W.keepIn K (.ref fA1) = true)
    (gO : PySem.W.nsIn K mainGlobals "_law_of" = some (some (.ref fO1))) (dO : DefAt K "_law_of" sOf fO1) (kO : PySem.W.keepIn K (.ref fO1) = true)
    (gT : PySem.W.nsIn K mainGlobals "_law_other" = some (some (.ref fT1))) (dT : DefAt K "_law_other" sOther fT1) (kT : PySem.W.keepIn K (.ref fT1) = true)
    (gX : PySem.W.nsIn K mainGlobals "_law_mixed" = some (some (.ref fX1))) (dX : DefAt K "_law_mixed" sMixed fX1) (kX : PySem.W.keepIn K (.ref fX1) = true)
    (gR : PySem.W.nsIn K mainGlobals "_law_rows" = some (some (.ref fR1))) (dR : DefAt K "_law_rows" sRows fR1) (kR : PySem.W.keepIn K (.ref fR1) = true)
    (gJ : PySem.W.nsIn K mainGlobals "_law_refused" = some (some (.ref fJ1))) (dJ : DefAt K "_law_refused" sRefused fJ1) (kJ : PySem.W.keepIn K (.ref fJ1) = true)
    (gL : PySem.W.nsIn K mainGlobals "law" = some (some (.ref fL1))) (dL : DefAt K "law" sLaw fL1) (kL : PySem.W.keepIn K (.ref fL1) = true)
    (gB : PySem.W.nsIn K mainGlobals "_law_bad_right" = some (some (.ref fB1)))
    (dB : ∃ (oc : Value) (od : Option Addr) (kV doc pm : Value) (an : Option Addr) (ct : Value) (osl : Array (Option Value)),
      K.lookup fB1 = some ⟨oc, od, .func (PySem.W.fnOf "_law_bad_right" "_law_bad_right" (defArgs sBad) (defBody sBad) (defScope sBad) .none kV doc pm an (.ref cc) ct), osl⟩ ∧ PySem.W.codeIn K (.ref cc) "_law_bad_right" = true)
    (kB : PySem.W.keepIn K (.ref fB1) = true)
    (z_isinstance : PySem.W.nsIn K mainGlobals "isinstance" = some none)
    (z_int : PySem.W.nsIn K mainGlobals "int" = some none)
    (z_bool : PySem.W.nsIn K mainGlobals "bool" = some none)
    (z_tuple : PySem.W.nsIn K mainGlobals "tuple" = some none)
    (z_list : PySem.W.nsIn K mainGlobals "list" = some none)
    (z_len : PySem.W.nsIn K mainGlobals "len" = some none)
    (z_abs : PySem.W.nsIn K mainGlobals "abs" = some none)
    (z_repr : PySem.W.nsIn K mainGlobals "repr" = some none)
    (z_range : PySem.W.nsIn K mainGlobals "range" = some none)
    (z_all : PySem.W.nsIn K mainGlobals "all" = some none)
    (z_sorted : PySem.W.nsIn K mainGlobals "sorted" = some none)
    : ∃ fd : FuncData, (∀ (s : Shared) (u : Value), BindsTo s fd ⟨[u], []⟩ [("script", u)]) ∧
      ∀ base : Heap, K.In base → base.Ns mainGlobals mg → LamX.TabB base mg cc tb → FnR l.prog w K mg base CX0 (CG 10) fa fd ["script"] (spLaw tb K) := by
  have e := hfa.symm.trans (PySem.W.mg_of X G gL)
  cases e
  have OK := okE_ok ok
  have T : PySem.ErrX.ErrTxt K mg "InvalidView" "InvalidView.__init__" cQ fQ := err_of OK (PySem.W.mg_of X G aQ) xQ yQ
  have IQ : IsQ K cQ cn := ⟨⟨OK.xf.ga, OK.xf.gg, OK.xf.exC, OK.xf.hdC, OK.ha, OK.hn, OK.ht, OK.hm⟩, kit, OK.xf, OK.no, OK.te⟩
  have mgm := PySem.W.mg_of X G gm
  have mgn := PySem.W.mg_of X G gn
  have mB := PySem.W.mg_of X G gB
  obtain ⟨fdZ, _, _, _, _, _, _, _, FZ⟩ := fun_of dZ kZ
  have mZ := PySem.W.mg_of X G gZ
  obtain ⟨fdN, _, _, _, _, _, _, _, FN⟩ := fun_of dN kN
  have mN := PySem.W.mg_of X G gN
  obtain ⟨fdE, _, _, _, _, _, _, _, FE⟩ := fun_of dE kE
  have mE := PySem.W.mg_of X G gE
  obtain ⟨fdQ, _, _, _, _, _, _, _, FQ⟩ := fun_of dQ kQ
  have mQ := PySem.W.mg_of X G gQ
  obtain ⟨fdU, _, _, _, _, _, _, _, FU⟩ := fun_of dU kU
  have mU := PySem.W.mg_of X G gU
  obtain ⟨fdY, _, _, _, _, _, _, _, FY⟩ := fun_of dY kY
  have mY := PySem.W.mg_of X G gY
  obtain ⟨fdP, _, _, _, _, _, _, _, FP⟩ := fun_of dP kP
  have mP := PySem.W.mg_of X G gP
  obtain ⟨fdV, _, _, _, _, _, _, _, FV⟩ := fun_of dV kV
  have mV := PySem.W.mg_of X G gV
  obtain ⟨fdM, _, _, _, _, _, _, _, FM⟩ := fun_of dM kM
  have mM := PySem.W.mg_of X G gM
  obtain ⟨fdW, _, _, _, _, _, _, _, FW⟩ := fun_of dW kW
  have mW := PySem.W.mg_of X G gW
  obtain ⟨fdS, _, _, _, _, _, _, _, FS⟩ := fun_of dS kS
  have mS := PySem.W.mg_of X G gS
  obtain ⟨fdD, _, _, _, _, _, _, _, FD⟩ := fun_of dD kD
  have mD := PySem.W.mg_of X G gD
  obtain ⟨fdA, _, _, _, _, _, _, _, FA⟩ := fun_of dA kA
  have mA := PySem.W.mg_of X G gA
  obtain ⟨fdO, _, _, _, _, _, _, _, FO⟩ := fun_of dO kO
  have mO := PySem.W.mg_of X G gO
  obtain ⟨fdT, _, _, _, _, _, _, _, FT⟩ := fun_of dT kT
  have mT := PySem.W.mg_of X G gT
  obtain ⟨fdX, _, _, _, _, _, _, _, FX⟩ := fun_of dX kX
  have mX := PySem.W.mg_of X G gX
  obtain ⟨fdR, _, _, _, _, _, _, _, FR⟩ := fun_of dR kR
  have mR := PySem.W.mg_of X G gR
  obtain ⟨fdJ, _, _, _, _, _, _, _, FJ⟩ := fun_of dJ kJ
  have mJ := PySem.W.mg_of X G gJ
  obtain ⟨fdL, u1, u2, u3, u4, u5, u6, eu, FL⟩ := fun_of dL kL
  have mL := PySem.W.mg_of X G gL
  have n_isinstance := PySem.W.mg_none_of X G z_isinstance
  have n_int := PySem.W.mg_none_of X G z_int
  have n_bool := PySem.W.mg_none_of X G z_bool
  have n_tuple := PySem.W.mg_none_of X G z_tuple
  have n_list := PySem.W.mg_none_of X G z_list
  have n_len := PySem.W.mg_none_of X G z_len
  have n_abs := PySem.W.mg_none_of X G z_abs
  have n_repr := PySem.W.mg_none_of X G z_repr
  have n_range := PySem.W.mg_none_of X G z_range
  have n_all := PySem.W.mg_none_of X G z_all
  have n_sorted := PySem.W.mg_none_of X G z_sorted
  obtain ⟨oc, od, kV, doc, pm, an, ct, osl, lk, hcd⟩ := dB
  have FB := fun_mk lk hcd kB
  refine ⟨fdL, fun s v => by rw [eu]; exact .of_eq rfl, fun base _ _ TB => ?_⟩
  have GZ := ok_int (P := l.prog) (w := w) (base := base) FZ n_isinstance n_int n_bool
  have GN := ok_num FN FZ GZ mZ
  have GE := ok_below FE FN GN mN
  have GY := ok_mode FY FE GE mE mgm
  have GQ := ok_seq (P := l.prog) (w := w) (base := base) FQ n_isinstance n_list n_tuple
  have GU := ok_tup (P := l.prog) (w := w) (base := base) FU n_isinstance n_tuple n_len
  have GP := ok_nb FP FQ GQ mQ FY GY mY mgn n_len n_all
  have GV := ok_view FV FU GU mU FY GY mY FP GP mP n_isinstance n_tuple n_sorted
  have GM := ok_mv FM T FY GY mY FP GP mP n_tuple n_sorted
  have GA := ok_any (P := l.prog) (w := w) (base := base) FA n_int
  have GO := ok_of (P := l.prog) (w := w) (base := base) FO FA mA n_int n_len
  have GT := ok_other FT FA GA mA n_range n_tuple n_sorted
  have GX := ok_mixed FX FA GA mA n_list n_len
  have GB := ok_bad lk hcd TB FO GO FA GA FV GV FM GM FJ IQ ⟨mO, mA, mV, mM, mJ, PySem.W.mg_of X G aQ, PySem.W.mg_of X G aN, n_len, n_list, n_isinstance⟩
  exact ok_law FL FD (ok_draw FD n_int n_abs) FA GA FT GT FX GX FR (ok_rows FR n_range) FM GM FV GV FS (ok_seen FS) FW (ok_views FW n_range n_tuple) FB GB
    ⟨mD, mA, mT, mX, mR, mM, mV, mS, mW, mB, n_repr, n_list, n_tuple, n_len, n_range⟩
end K02

open PySem PySem.W PyProof.Rows
set_option maxRecDepth 100000 in
set_option maxHeartbeats 0 in
theorem PySem.Challenge.cw_handalong_k02_views_in_order_holds : PySem.Challenge.rw_handalong_k02_views_in_order.Holds := by
  w_on; o_law; k_head; (case hw => w_witness2)
  k_fill
  refine KX.walk_ofT (l := PySem.Challenge.rw_handalong_k02_views_in_order) (n := 63) (k := 10) (x := "script") (CX := L2.CX0) (c := ?c) (t := 164) (sp := K02.spLaw 164)
    rfl (by decide) rfl ⟨rfl, by decide, by decide⟩ (fun w h Y => km_in_of Y) (fun w h Y => km_tabs_of Y 164 (List.mem_singleton.mpr rfl)) ?hcd ?nt ?F (fun _ H a ns hl ht hS => ⟨a, ns, rfl, hS, ht, fun _ => rfl⟩) fun _ _ _ _ z => z
  case F =>
    intro w mg fa h Y G hmg
    refine' K02.all_mk Y G hmg ?aQ ?aN ?iQ ?ok ?kit ?xQ ?yQ ?gm ?gn ?gZ ?dZ ?kZ ?gN ?dN ?kN ?gE ?dE ?kE ?gQ ?dQ ?kQ ?gU ?dU ?kU ?gY ?dY ?kY ?gP ?dP ?kP ?gV ?dV ?kV ?gM ?dM ?kM ?gW ?dW ?kW ?gS ?dS ?kS ?gD ?dD ?kD ?gA ?dA ?kA ?gO ?dO ?kO ?gT ?dT ?kT ?gX ?dX ?kX ?gR ?dR ?kR ?gJ ?dJ ?kJ ?gL ?dL ?kL ?gB ?dB ?kB ?z_isinstance ?z_int ?z_bool ?z_tuple ?z_list ?z_len ?z_abs ?z_repr ?z_range ?z_all ?z_sorted
    (case aQ => k_is)
    (case aN => k_is)
    (case iQ => k_is)
    (case ok => kernel_rfl)
    (case kit => kernel_rfl)
    (case xQ => (refine' ⟨_, _, _, _, _, _, _, _, _, _, _, _, _, _, _, ?h1, ?h2⟩; (case h1 => rfl); (case h2 => decide +kernel)))
    (case yQ => (refine' ⟨_, _, _, _, _, _, _, _, _, _, _, _, _, _, ?h1, ?h2⟩; (case h1 => rfl); (case h2 => k_is)))
    (case gm => k_is)
    (case gn => k_is)
    (case gZ => k_is)
    (case dZ => (refine' ⟨_, _, _, _, _, _, _, _, _, ?h1, ?h2⟩; (case h1 => rfl); (case h2 => k_is)))
    (case kZ => k_is)
    (case gN => k_is)
    (case dN => (refine' ⟨_, _, _, _, _, _, _, _, _, ?h1, ?h2⟩; (case h1 => rfl); (case h2 => k_is)))
    (case kN => k_is)
    (case gE => k_is)
    (case dE => (refine' ⟨_, _, _, _, _, _, _, _, _, ?h1, ?h2⟩; (case h1 => rfl); (case h2 => k_is)))
    (case kE => k_is)
    (case gQ => k_is)
    (case dQ => (refine' ⟨_, _, _, _, _, _, _, _, _, ?h1, ?h2⟩; (case h1 => rfl); (case h2 => k_is)))
    (case kQ => k_is)
    (case gU => k_is)
    (case dU => (refine' ⟨_, _, _, _, _, _, _, _, _, ?h1, ?h2⟩; (case h1 => rfl); (case h2 => k_is)))
    (case kU => k_is)
    (case gY => k_is)
    (case dY => (refine' ⟨_, _, _, _, _, _, _, _, _, ?h1, ?h2⟩; (case h1 => rfl); (case h2 => k_is)))
    (case kY => k_is)
    (case gP => k_is)
    (case dP => (refine' ⟨_, _, _, _, _, _, _, _, _, ?h1, ?h2⟩; (case h1 => rfl); (case h2 => k_is)))
    (case kP => k_is)
    (case gV => k_is)
    (case dV => (refine' ⟨_, _, _, _, _, _, _, _, _, ?h1, ?h2⟩; (case h1 => rfl); (case h2 => k_is)))
    (case kV => k_is)
    (case gM => k_is)
    (case dM => (refine' ⟨_, _, _, _, _, _, _, _, _, ?h1, ?h2⟩; (case h1 => rfl); (case h2 => k_is)))
    (case kM => k_is)
    (case gW => k_is)
    (case dW => (refine' ⟨_, _, _, _, _, _, _, _, _, ?h1, ?h2⟩; (case h1 => rfl); (case h2 => k_is)))
    (case kW => k_is)
    (case gS => k_is)
    (case dS => (refine' ⟨_, _, _, _, _, _, _, _, _, ?h1, ?h2⟩; (case h1 => rfl); (case h2 => k_is)))
    (case kS => k_is)
    (case gD => k_is)
    (case dD => (refine' ⟨_, _, _, _, _, _, _, _, _, ?h1, ?h2⟩; (case h1 => rfl); (case h2 => k_is)))
    (case kD => k_is)
    (case gA => k_is)
    (case dA => (refine' ⟨_, _, _, _, _, _, _, _, _, ?h1, ?h2⟩; (case h1 => rfl); (case h2 => k_is)))
    (case kA => k_is)
    (case gO => k_is)
    (case dO => (refine' ⟨_, _, _, _, _, _, _, _, _, ?h1, ?h2⟩; (case h1 => rfl); (case h2 => k_is)))
    (case kO => k_is)
    (case gT => k_is)
    (case dT => (refine' ⟨_, _, _, _, _, _, _, _, _, ?h1, ?h2⟩; (case h1 => rfl); (case h2 => k_is)))
    (case kT => k_is)
    (case gX => k_is)
    (case dX => (refine' ⟨_, _, _, _, _, _, _, _, _, ?h1, ?h2⟩; (case h1 => rfl); (case h2 => k_is)))
    (case kX => k_is)
    (case gR => k_is)
    (case dR => (refine' ⟨_, _, _, _, _, _, _, _, _, ?h1, ?h2⟩; (case h1 => rfl); (case h2 => k_is)))
    (case kR => k_is)
    (case gJ => k_is)
    (case dJ => (refine' ⟨_, _, _, _, _, _, _, _, _, ?h1, ?h2⟩; (case h1 => rfl); (case h2 => k_is)))
    (case kJ => k_is)
    (case gL => k_is)
    (case dL => (refine' ⟨_, _, _, _, _, _, _, _, _, ?h1, ?h2⟩; (case h1 => rfl); (case h2 => k_is)))
    (case kL => k_is)
    (case gB => k_is)
    (case dB => (refine' ⟨_, _, _, _, _, _, _, _, ?h1, ?h2⟩; (case h1 => rfl); (case h2 => k_is)))
    (case kB => k_is)
    (case z_isinstance => k_is)
    (case z_int => k_is)
    (case z_bool => k_is)
    (case z_tuple => k_is)
    (case z_list => k_is)
    (case z_len => k_is)
    (case z_abs => k_is)
    (case z_repr => k_is)
    (case z_range => k_is)
    (case z_all => k_is)
    (case z_sorted => k_is)
  case hcd => intro w; kernel_rfl
  case nt => intro w; kernel_rfl
