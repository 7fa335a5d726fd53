import PyProof.Rows.All
import Wide.All
import OpenK.AllK
import Wide.FinOn
import PySem.Challenge.RW_handalong_k01_fractions_in_lowest_terms
import HandS.ForExc
import HandS.HotCalls
import HandS.ExcField
import HandS.ExcIs
import HandS.RaiseMore
import HandS.Comp
import HandS.IsInst
import HandS.Defaults
import HandS.Gcd
import HandS.Wide
import HandS.Style
import HandS.Flow
import HandS.Lambda
import HandS.TupLe
import PyProof.ReprRoads
import KE.KExcTry
import KE.KExcStr
import KE.KExcIs
import KE.KNestM
set_option Elab.async false
set_option linter.all false
set_option maxRecDepth 100000
set_option maxHeartbeats 4000000
namespace KX
open PySem PySem.Spec PyProof.Rows L2
/-! repr of data -/
def rRepr (K : PySem.W.Frag) : List V → Hp → VK → Prop := fun xs H Q =>
  ∃ x d, xs = [x] ∧ Dp K H x d ∧ d.showable = true ∧ d.hasDict = false ∧ d.depth ≤ 64 ∧
    d.shown.length ≤ sizeLine ∧ Q (.str d.shown) H
theorem cr_repr {X : Cx} (hg : X.A.guards = some []) (hu : X.A.units + 66 < cLine) :
    CallR X (.builtin "repr") (rRepr X.K) := by
  intro pins s σ H xs us Q I r h
  obtain ⟨x, d, rfl, hd, hs, hn, h64, hz, q⟩ := h
  cases r with
  | cons rx rn =>
    cases rn
    rename_i u
    obtain ⟨as, rd⟩ := Dp.reads I d x u hd rx
    have hsm : d.hasDict = true → sysModules ∉ as := fun z => by rw [hn] at z; cases z
    have out : ∀ (h' : Heap) (tk : Nat) (t : Tok), (∀ b o, s.heap.get? b = some o → h'.get? b = some o) →
        EP X pins σ Q (.str d.shown t) { s with heap := h', toks := tk } := fun h' tk t k =>
      ⟨.str d.shown, H, I.kept k, ⟨t, rfl⟩, q⟩
    cases rd with
    | none => exact P.repr_of_none (out s.heap _ _ fun _ _ e => e)
    | bool b => exact P.repr_of_bool (by simpa only [PyData.shown] using out s.heap (s.toks + 1) s.toks fun _ _ e => e)
    | int i t =>
      exact P.repr_of_int (by simpa [PyData.showable] using hs)
        (by simpa only [PyData.shown] using out s.heap (s.toks + 1) s.toks fun _ _ e => e)
    | str z t =>
      exact P.repr_of_str (by simpa only [PyData.shown] using out s.heap (s.toks + 1) s.toks fun _ _ e => e)
        (by simpa only [PyData.shown] using hz)
    | list h1 h2 h3 h4 =>
      exact repr_of_reads' (.list h1 h2 h3 h4) hs hsm hg (by omega) (fun _ _ e => e)
        (fun h' u tk k => out h' tk u k) hz
    | tuple h1 h2 h3 h4 =>
      exact repr_of_reads' (.tuple h1 h2 h3 h4) hs hsm hg (by omega) (fun _ _ e => e)
        (fun h' u tk k => out h' tk u k) hz
    | dict h1 h2 h3 h4 h5 => cases hn
end KX

namespace PySem
namespace ErrX
open PySem.W PySem.Calls PyProof.Rows PySem.HandSPX
/-! ### the text of __init__ -/
def iA (p1 p2 : Pos) : Arguments := { posonlyargs := [], args := [{ arg := "self", annotation := none, pos := p1 }, { arg := "at", annotation := none, pos := p2 }], vararg := none, kwonlyargs := [], kw_defaults := [], kwarg := none, defaults := [] }
def iB (q1 q2 q3 q4 : Pos) : List Stmt := [.Assign [.Attribute (.Name "self" q1) "at" q2] (.Name "at" q3) q4]
def iS : Scope := { kind := .function, names := [(PySem.Str.ofString "self", .local), (PySem.Str.ofString "at", .local)], isGenerator := false, isCoroutine := false, more := [] }
/-- what the written part says of Low, at C, and of its __init__, at fI -/
structure ErrTxt (K : Frag) (mg : Str → Option Value) (en qn : Str) (C fI : Addr) : Prop where
  gC : mg en = some (.ref C)
  cls : ∃ nm q N bs bm sn sub ab col dd k0 k1 k2 k3 k5, K.lookup C = some (excClassObj nm q C N bs bm true sn sub ab col dd k0 k1 k2 k3 k5 "ValueError.__new__") ∧ refsVE bm = true
  sa : findIn K (.ref C) "__setattr__" = some (some (.builtin "object.__setattr__"))
  ga : findIn K (.ref C) "__getattribute__" = some (some (.builtin "BaseException.__getattribute__"))
  gg : findIn K (.ref C) "__getattr__" = some none
  noN : findIn K (.ref C) "at" = some none
  iC : findIn K (.ref C) "__init__" = some (some (.ref fI))
  tC : typeIn K (.ref fI) = some (.type "function")
  kC : keepIn K (.ref C) = true
  exC : subIn K (.ref C) (.type "BaseException") = some true
  tyC : typeIn K (.ref C) = some (.type "type")
  hdC : hasDictIn K C = true
  te : exmOne K (.ref C) (.ref C) = some true
  fn : ∃ (oc : Value) (od : Option Addr) (doc pm : Value) (an : Option Addr) (cdv ct : Value) (osl : Array (Option Value)) (p1 p2 q1 q2 q3 q4 : Pos),
    K.lookup fI = some ⟨oc, od, .func (fnOf "__init__" qn (iA p1 p2) (iB q1 q2 q3 q4) iS .none .none doc pm an cdv ct), osl⟩ ∧ codeIn K cdv qn = true
theorem one_size (v : Value) : [v].length ≤ sizeLine := by
  rw [sizeLine_eq]
  exact (by decide : 1 ≤ 16777216)
theorem kept_but {K : Frag} {h h' : Heap} {x : Addr} (X : K.In h) (hx : K.lookup x = none) (k : ∀ b o, b ≠ x → h.get? b = some o → h'.get? b = some o) : K.In h' := fun a o e =>
  k a o (fun z => by rw [z, hx] at e; cases e) (X a o e)
theorem ldC {M : Model} {s : Shared} {name : Str} {scope : Scope} {L a : Addr} {cd : Value} {m : Str → Option Value} {x : Str} {pos : Pos} {v : Value} {Q : Value → Shared → Prop} {A : Around} {E : Value → Shared → Prop} (hn : s.heap.Ns L m) (hv : m x = some v) (h : Q v s)
    (hk : scope.kind = .function := by rfl) (hl : (envOfC name scope L a cd).kindOf x = some .local := by rfl) (hd : (x == ("__debug__" : Str)) = false := by decide) :
    wpAny M A (eval (.Name x pos) (envOfC name scope L a cd)) Q E s := wpAny_Name (wpAny_loadName_local hk hl hn hv h) hd
/-- what __init__ leaves of a fresh exception at x -/
structure InitEnd (h h' : Heap) (x C dx t1 : Addr) (v : Value) : Prop where
  keep : ∀ b o, b ≠ x → h.get? b = some o → h'.get? b = some o
  obj : h'.get? x = some { cls := .ref C, dict := some dx, data := .fields #[.ref t1, .none, .none, .none, .bool false, .none] }
  dbig : h.objs.size ≤ dx
  dne : dx ≠ x
  ns : h'.Ns1 dx (fun y => if y = "at" then some v else none)
/-- a made Low -/
structure OwnMade (h h' : Heap) (e C d : Addr) (v : Value) : Prop where
  keep : ∀ b o, h.get? b = some o → h'.get? b = some o
  new : h.objs.size ≤ e
  obj : ∃ oe vs, h'.get? e = some oe ∧ oe.cls = .ref C ∧ oe.dict = some d ∧ oe.data = .fields vs ∧ vs[1]? = some .none ∧ vs[2]? = some .none
  dbig : h.objs.size ≤ d
  dne : d ≠ e
  ns : h'.Ns1 d (fun y => if y = "at" then some v else none)
section
variable {prog : Program} {w : World} {A : Around} {E : Value → Shared → Prop} {R : Result → Shared → Prop} {s : Shared} {K : Frag} {mg : Str → Option Value} {C fI : Addr} {en qn : Str}
theorem err_init (T : ErrTxt K mg en qn C fI) {x t0 : Addr} {v : Value} (X : K.In s.heap) (hlim : s.heap.NoLimit) (hx : s.heap.get? x = some (excO C t0)) (hnx : K.lookup x = none) (hroom : A.depth < recursionLimit)
    (hq : ∀ h' tk dx, InitEnd s.heap h' x C dx t0 v → R (.ok (.ret .none)) { s with heap := h', toks := tk }) :
    codeAny (model prog w) A (.call (.ref fI) ⟨[.ref x, v], []⟩) R s := by
  obtain ⟨oc, od, doc, pm, an, cdv, ct, osl, p1, p2, q1, q2, q3, q4, ho, hcd⟩ := T.fn
  obtain ⟨nm, q, N, bs, bm, sn, sub, ab, col, dd, k0, k1, k2, k3, k5, hC, hbm⟩ := T.cls
  have hcl : clsIn K C = some { name := nm, bases := bs, mro := .ref C :: bm, ns := N, qualname := q, hasDict := true, slotNames := sn, subclasses := sub, abstract := ab, collection := col, hasDel := false } := by unfold clsIn; rw [hC] <;> rfl
  refine Att.call_fn (binds := [("self", .ref x), ("at", v)]) X hlim ho hcd hroom (BindsTo.of_eq (by first | rfl | with_unfolding_all rfl)) (by first | rfl | decide | with_unfolding_all rfl) (fun s₁ IC => ?_) rfl rfl rfl
  obtain ⟨h₁, tk₁, rfl⟩ := IC.toInCall.same
  have k : ∀ b o, s.heap.get? b = some o → h₁.get? b = some o := IC.toInCall.keep
  have hn := IC.toInCall.ns
  have hxL : s.heap.objs.size ≠ x := Nat.ne_of_gt (Heap.lt_size hx)
  have X₁ : K.In h₁ := X.keeps k
  have hx₁ := k _ _ hx
  -- self.by = by
  show wpAny _ _ (execs _ _) _ _ _
  refine wpAny_execs_cons (plainObj_wpAny_Assign_Attribute ?_)
  refine ldC (v := v) hn (by first | rfl | with_unfolding_all rfl | kernel_rfl) (ldC (v := .ref x) hn (by first | rfl | with_unfolding_all rfl | kernel_rfl) ?_)
  refine set_plain X₁ (ox := excO C t0) (od := none) ⟨hx₁, rfl, rfl, trivial⟩ T.sa ?_
  refine exc_osa X₁ hx₁ hcl (show refsVE (.ref C :: bm) = true from hbm) rfl T.noN (fun h₃ tk₃ dx k₃ dn dne hx₃ hn₃ => ?_)
  show wpAny _ _ (execs _ _) _ _ _
  have z : s.heap.objs.size < h₁.objs.size := hn.lt
  exact wpAny_execs_nil (hq h₃ tk₃ dx ⟨fun b o hb e => k₃ b o hb (k b o e), hx₃, Nat.le_of_lt (Nat.lt_of_lt_of_le z dn), dne, hn₃⟩)
theorem err_made (T : ErrTxt K mg en qn C fI) {v : Value} (X : K.In s.heap) (hlim : s.heap.NoLimit) (hroom : A.depth + 1 < recursionLimit)
    (hq : ∀ h' tk e d, OwnMade s.heap h' e C d v → R (.ok (.ret (.ref e))) { s with heap := h', toks := tk }) :
    codeAny (model prog w) A (.call (.ref C) ⟨[v], []⟩) R s := by
  obtain ⟨nm, q, N, bs, bm, sn, sub, ab, col, dd, k0, k1, k2, k3, k5, hC, hbm⟩ := T.cls
  obtain ⟨hp, g, dr, tk, os⟩ := s
  have k : ∀ b o, hp.get? b = some o → ((hp.push (kdv_tup [v])).push (excO C hp.objs.size)).get? b = some o := fun b o e => Heap.get?_push_of_some _ (Heap.get?_push_of_some _ e)
  have hget : ((hp.push (kdv_tup [v])).push (excO C hp.objs.size)).get? (hp.objs.size + 1) = some (excO C hp.objs.size) := by heap_get
  have hnx : K.lookup (hp.objs.size + 1) = none := by
    cases e : K.lookup (hp.objs.size + 1) with
    | none => rfl
    | some o =>
      have z : hp.get? (hp.objs.size + 1) = some o := X _ _ e
      exact absurd (Nat.lt_of_succ_lt (Heap.lt_size z)) (Nat.lt_irrefl _)
  refine call_own F.excBase_ValueError (fun X => refsVE_contains X bm hbm) (X _ _ hC) (looks_findIn X T.iC) (fun self => bind_fn X self T.tC) (one_size v) ?_
  refine err_init (s := ⟨(hp.push (kdv_tup [v])).push (excO C hp.objs.size), g, dr, tk, os⟩) T (X.keeps k) (hlim.keeps k) hget hnx ?_ fun h' tk' dx ⟨k', hx, dn, dne, hns⟩ => ?_
  · show A.depth + 1 < recursionLimit
    exact hroom
  · have old : ∀ b o, hp.get? b = some o → h'.get? b = some o := fun b o e => k' b o (Nat.ne_of_lt (Nat.lt_succ_of_lt (Heap.lt_size e))) (k b o e)
    have z : hp.objs.size + 1 + 1 ≤ dx := by
      first
        | (simpa only [Heap.size_push] using dn)
        | exact dn
        | (have q := dn; rw [Heap.size_push, Heap.size_push] at q; exact q)
    exact ⟨rfl, hq h' tk' (hp.objs.size + 1) dx ⟨old, Nat.le_succ _, ⟨_, _, hx, rfl, rfl, rfl, rfl, rfl⟩, Nat.le_trans (Nat.le_trans (Nat.le_succ _) (Nat.le_succ _)) z, dne, hns⟩⟩
end
end ErrX
end PySem
namespace KX
open PySem PySem.Spec PyProof.Rows L2
theorem relO_err {v : V} {v' : Value} (r : RelV v v') (f : Str) : RelO (List.lookup f [(("at" : Str), v)]) (if f = "at" then some v' else none) := by
  by_cases hw : f = "at"
  · subst hw
    rw [if_pos rfl]
    have q : List.lookup ("at" : Str) [(("at" : Str), v)] = some v := by simp [List.lookup]
    rw [q]
    exact r
  · rw [if_neg hw]
    have qw : (f == ("at" : Str)) = false := by simpa using hw
    have q2 : List.lookup f [(("at" : Str), v)] = none := by simp [List.lookup, qw]
    rw [q2]
    trivial
section
variable {X : Cx} {C fI : Addr} {en qn : Str}
/-- Low(e) -/
def tMkErr (C : Addr) (ta : TA) : L2.St → Hp → XK → Prop := fun σ H Q => ta σ H fun vs H1 => ∃ v, vs = [v] ∧ ∀ d, H1 d = none → Q (.ref C) (some d) (upd H1 d (.xd [(("at" : Str), v)]))
theorem pmk_err {a : Expr} {ta : TA} {p pos : Pos} {k : Nat} (T : PySem.ErrX.ErrTxt X.K X.mg en qn C fI) (hr : Room k X.A) (ha : PA X [a] ta) (hg : Gl X en := by rfl) (hdb : (en == ("__debug__" : Str)) = false := by decide)
    (he : starEach (a :: []) X.env = (false, eval a X.env) :: starEach [] X.env := by rfl) (hpl : (backTo pos (starEach [] X.env)).any (·.1) = false := by rfl) :
    L2N.PMk X (.Call (.Name en p) [a] [] pos) (tMkErr C ta) := by
  intro pins s σ H Q I h
  refine wpAny_Call_Name_kw (ld_glob I hg T.gC ?_ hdb)
  refine PySem.W.callWith_K (h₀ := X.base) I.ok.mod.kin T.kC (thn (ha.run pos pins s σ H _ I h) fun us s1 hh => ?_) he hpl
  obtain ⟨vs, H1, I1, r1, v, ev, q1⟩ := hh
  subst ev
  refine ⟨I1.kIn, ?_⟩
  cases r1 with
  | cons rv rn =>
    rename_i v' us'
    cases rn
    show wpAny _ _ (call (.ref C) [v']) _ _ _
    have hlim := I1.nolimit
    obtain ⟨hp, g, dr, tk, os⟩ := s1
    refine wpAny_call (PySem.ErrX.err_made T I1.kIn hlim (by have := hr.dp; omega) fun h' tk' e d M => ?_)
    show L2N.MkP X pins σ Q (.ref e) ⟨h', g, dr, tk', os⟩
    obtain ⟨oe, fv, hoe, hc, hd, hdat, h1, h2⟩ := M.obj
    have hns := M.ns
    obtain ⟨G', g1, g2⟩ := restrict h' fun b => decide (b ≠ e)
    have gk : ∀ b, b ≠ e → G'.get? b = h'.get? b := fun b hb => g1 b (decide_eq_true hb)
    have ge : G'.get? e = none := g2 e (by simp)
    have old : ∀ b o, hp.get? b = some o → G'.get? b = some o := fun b o q => (gk b (Nat.ne_of_lt (Nat.lt_of_lt_of_le (Heap.lt_size q) M.new))).trans (M.keep b o q)
    have ob : ObjOk X.prog X.w (upd H1 d (.xd [(("at" : Str), v)])) G' d (.xd [(("at" : Str), v)]) :=
      ⟨_, hns.at (fun o q => (gk d M.dne).trans q), fun f => relO_err rv f⟩
    have J : Inv X pins σ (upd H1 d (.xd [(("at" : Str), v)])) ⟨G', g, dr, tk', os⟩ := I1.laid (t' := tk') old M.dbig ob
    refine ⟨e, oe, fv, ⟨G', g, dr, tk', os⟩, _, .ref C, some d, rfl, J, fun b o q => ?_, ge, hoe, ⟨hc, hd, fun vs' z => by rw [hdat] at z; cases z; exact h2⟩, hdat, h1, ?_, rfl, I1.bare, raises_own T.exC T.tyC, q1 d (I1.hok.fresh M.dbig)⟩
    · by_cases hb : b = e
      · have q' : G'.get? b = some o := q
        rw [hb, ge] at q'; cases q'
      · exact (gk b hb).symm.trans q
    · rw [upd_ne (Ne.symm M.dne)]
      exact I1.hok.fresh M.new
/-- raise Low(e) -/
def tRaiseErr (C : Addr) (W : WX) (ta : TA) : TS := fun _ σ H => tMkErr C ta σ H fun cls d H' => W cls d σ H'
theorem ps_raiseErr {a : Expr} {ta : TA} {W : WX} {p pos pos2 : Pos} {k : Nat} (hc : X.calm = true) (T : PySem.ErrX.ErrTxt X.K X.mg en qn C fI) (hr : Room k X.A) (tk : L2N.Takes X W) (ha : PA X [a] ta) (hg : Gl X en := by rfl) (hdb : (en == ("__debug__" : Str)) = false := by decide)
    (he : starEach (a :: []) X.env = (false, eval a X.env) :: starEach [] X.env := by rfl) (hpl : (backTo pos (starEach [] X.env)).any (·.1) = false := by rfl) :
    PS X (.Raise (some (.Call (.Name en p) [a] [] pos)) none pos2) (tRaiseErr C W ta) := L2N.ps_raise hc tk (pmk_err T hr ha hg hdb he hpl)
end
end KX

namespace PySem
namespace ErrX
open PySem.W PySem.Calls PyProof.Rows PySem.HandSPX
def iA0 (p1 : Pos) : Arguments :=
  { posonlyargs := [], args := [{ arg := "self", annotation := none, pos := p1 }], vararg := none,
    kwonlyargs := [], kw_defaults := [], kwarg := none, defaults := [] }
def iS0 : Scope :=
  { kind := .function, names := [(PySem.Str.ofString "self", .local)], isGenerator := false, isCoroutine := false, more := [] }
/-- an error class whose __init__(self) does nothing -/
structure ErrTxt0 (K : Frag) (mg : Str → Option Value) (en qn : Str) (C fI : Addr) : Prop where
  gC : mg en = some (.ref C)
  cls : ∃ nm q N bs bm sn sub ab col dd k0 k1 k2 k3 k5,
    K.lookup C = some (excClassObj nm q C N bs bm true sn sub ab col dd k0 k1 k2 k3 k5 "ValueError.__new__") ∧ refsVE bm = true
  iC : findIn K (.ref C) "__init__" = some (some (.ref fI))
  tC : typeIn K (.ref fI) = some (.type "function")
  kC : keepIn K (.ref C) = true
  exC : subIn K (.ref C) (.type "BaseException") = some true
  tyC : typeIn K (.ref C) = some (.type "type")
  fn : ∃ (oc : Value) (od : Option Addr) (doc pm : Value) (an : Option Addr) (cdv ct : Value) (osl : Array (Option Value)) (p1 q1 : Pos),
    K.lookup fI = some ⟨oc, od, .func (fnOf "__init__" qn (iA0 p1) [.Pass q1] iS0 .none .none doc pm an cdv ct), osl⟩ ∧
      codeIn K cdv qn = true
/-- what is made: an exception without a dict -/
structure OwnMade0 (h h' : Heap) (e C : Addr) : Prop where
  keep : ∀ b o, h.get? b = some o → h'.get? b = some o
  new : h.objs.size ≤ e
  obj : ∃ oe vs, h'.get? e = some oe ∧ oe.cls = .ref C ∧ oe.dict = none ∧ oe.data = .fields vs ∧ vs[1]? = some .none ∧
    vs[2]? = some .none
section
variable {prog : Program} {w : World} {A : Around} {E : Value → Shared → Prop} {R : Result → Shared → Prop}
  {s : Shared} {K : Frag} {mg : Str → Option Value} {C fI : Addr} {en qn : Str}
theorem err_init0 (T : ErrTxt0 K mg en qn C fI) {x : Addr} (X : K.In s.heap) (hlim : s.heap.NoLimit)
    (hroom : A.depth < recursionLimit)
    (hq : ∀ h' tk, (∀ b o, s.heap.get? b = some o → h'.get? b = some o) → R (.ok (.ret .none)) { s with heap := h', toks := tk }) :
    codeAny (model prog w) A (.call (.ref fI) ⟨[.ref x], []⟩) R s := by
  obtain ⟨oc, od, doc, pm, an, cdv, ct, osl, p1, q1, ho, hcd⟩ := T.fn
  refine Att.call_fn (binds := [("self", .ref x)]) X hlim ho hcd hroom
    (BindsTo.of_eq (by first | rfl | with_unfolding_all rfl)) (by first | rfl | decide | with_unfolding_all rfl)
    (fun s₁ IC => ?_) rfl rfl rfl
  obtain ⟨h₁, tk₁, rfl⟩ := IC.toInCall.same
  show wpAny _ _ (execs _ _) _ _ _
  refine wpAny_execs_cons ?_
  refine wpAny_Pass ?_
  show wpAny _ _ (execs _ _) _ _ _
  exact wpAny_execs_nil (hq h₁ tk₁ IC.toInCall.keep)
theorem err_made0 (T : ErrTxt0 K mg en qn C fI) (X : K.In s.heap) (hlim : s.heap.NoLimit) (hroom : A.depth + 1 < recursionLimit)
    (hq : ∀ h' tk e, OwnMade0 s.heap h' e C → R (.ok (.ret (.ref e))) { s with heap := h', toks := tk }) :
    codeAny (model prog w) A (.call (.ref C) ⟨[], []⟩) R s := by
  obtain ⟨nm, q, N, bs, bm, sn, sub, ab, col, dd, k0, k1, k2, k3, k5, hC, hbm⟩ := T.cls
  obtain ⟨hp, g, dr, tk, os⟩ := s
  have k : ∀ b o, hp.get? b = some o → ((hp.push (kdv_tup [])).push (excO C hp.objs.size)).get? b = some o :=
    fun b o e => Heap.get?_push_of_some _ (Heap.get?_push_of_some _ e)
  have hget : ((hp.push (kdv_tup [])).push (excO C hp.objs.size)).get? (hp.objs.size + 1) = some (excO C hp.objs.size) := by
    heap_get
  refine call_own F.excBase_ValueError (fun X => refsVE_contains X bm hbm) (X _ _ hC) (looks_findIn X T.iC)
    (fun self => bind_fn X self T.tC) (Nat.zero_le _) ?_
  refine err_init0 (s := ⟨(hp.push (kdv_tup [])).push (excO C hp.objs.size), g, dr, tk, os⟩) T (X.keeps k) (hlim.keeps k) ?_
    fun h' tk' k' => ?_
  · show A.depth + 1 < recursionLimit
    exact hroom
  · exact ⟨rfl, hq h' tk' (hp.objs.size + 1) ⟨fun b o e => k' b o (k b o e), Nat.le_succ _,
      ⟨_, _, k' _ _ hget, rfl, rfl, rfl, rfl, rfl⟩⟩⟩
end
end ErrX
end PySem

namespace KX
open PySem PySem.Spec PyProof.Rows L2
section
variable {X : Cx} {C fI : Addr} {en qn : Str}
def tMkErr0 (C : Addr) : L2.St → Hp → XK → Prop := fun _ H Q => Q (.ref C) none H
theorem pmk_err0 {p pos : Pos} {k : Nat} (T : PySem.ErrX.ErrTxt0 X.K X.mg en qn C fI) (hr : Room k X.A) (hg : Gl X en := by rfl)
    (hdb : (en == ("__debug__" : Str)) = false := by decide) : L2N.PMk X (.Call (.Name en p) [] [] pos) (tMkErr0 C) := by
  intro pins s σ H Q I h
  refine wpAny_Call_Name_kw (ld_glob I hg T.gC ?_ hdb)
  refine PySem.W.callWith_K0 I.kIn T.kC ?_
  show wpAny _ _ (call (.ref C) []) _ _ _
  have hlim := I.nolimit
  have KX := I.kIn
  obtain ⟨hp, g, dr, tk, os⟩ := s
  refine wpAny_call (PySem.ErrX.err_made0 T KX hlim (by have := hr.dp; omega) fun h' tk' e M => ?_)
  show L2N.MkP X pins σ Q (.ref e) ⟨h', g, dr, tk', os⟩
  obtain ⟨oe, fv, hoe, hc, hd, hdat, h1, h2⟩ := M.obj
  refine ⟨e, oe, fv, ⟨hp, g, dr, tk, os⟩, H, .ref C, none, rfl, I, M.keep, Heap.get?_none_of_le M.new, hoe,
    ⟨hc, hd, fun vs' z => by rw [hdat] at z; cases z; exact h2⟩, hdat, h1, I.hok.fresh M.new, rfl, I.bare,
    raises_own T.exC T.tyC, h⟩
def tRaiseErr0 (C : Addr) (W : WX) : TS := fun _ σ H => W (.ref C) none σ H
theorem ps_raiseErr0 {W : WX} {p pos pos2 : Pos} {k : Nat} (hc : X.calm = true) (T : PySem.ErrX.ErrTxt0 X.K X.mg en qn C fI)
    (hr : Room k X.A) (tk : L2N.Takes X W) (hg : Gl X en := by rfl) (hdb : (en == ("__debug__" : Str)) = false := by decide) :
    PS X (.Raise (some (.Call (.Name en p) [] [] pos)) none pos2) (tRaiseErr0 C W) :=
  L2N.ps_raise hc tk (pmk_err0 T hr hg hdb)
end
end KX

namespace KX
open PySem PySem.Spec PyProof.Rows L2 L2H
/-! contracts under a condition C on the call's surroundings -/
abbrev Con := Around → List Env → Shared → Hp → Prop
structure FnR (P : Program) (w : World) (K : PySem.W.Frag) (mg : Str → Option Value) (base : Heap) (CX : CXT) (C : Con)
    (f : Addr) (fd : FuncData) (ps : List Str) (sp : Sp) : Prop where
  sized : ∀ vs H Q E, sp vs H Q E → vs.length = ps.length
  does : ∀ (A : Around) (outer : List Env) (s : Shared) (H : Hp) (args : Args) (us : List Value) (vs : List V) (Q : VK) (E : XK),
    C A outer s H → Env0 P w K mg base A outer s H → BindsTo s fd args (ps.zip us) → Vals vs us → sp vs H Q E →
      codeAny (model P w) A (.call (.ref f) args) (CR CX outer P w H s Q E) s
/-- no repr is under way -/
def CG (k : Nat) : Con := fun A _ _ _ => Room k A ∧ A.guards = some []
/-- p is the exception that is handled -/
def CP (k : Nat) (p : Addr × Obj) : Con := fun A outer s H => RoomH k A ∧ Hot1 A p ∧ PinOk outer H s p
/-- a body's context, calm or not, with pins -/
abbrev cxV (c : Bool) (pn : List (Addr × Obj)) (X : Cx) : Cx := { X with calm := c, pn := pn }
section
variable {CX : CXT} {P : Program} {w : World} {K : PySem.W.Frag} {mg : Str → Option Value} {base : Heap} {f : Addr}
  {name qual : Str} {params : Arguments} {body : List Stmt} {scope : Scope} {dV kV doc pm cdv ct oc : Value}
  {an od : Option Addr} {osl : Array (Option Value)} {N ps : List Str}
theorem call_body {A : Around} {outer : List Env} {s : Shared} {H : Hp} {args : Args} {us : List Value} {vs : List V} {Q : VK}
    {E : XK} {c : Bool} {pn : List (Addr × Obj)}
    (lk : K.lookup f = some ⟨oc, od, .func (PySem.W.fnOf name qual params body scope dV kV doc pm an cdv ct), osl⟩)
    (hcd : PySem.W.codeIn K cdv qual = true) (S : FnScope N ps scope) (hdp : A.depth < recursionLimit)
    (e0 : Env0 P w K mg base A outer s H)
    (hb : BindsTo s (PySem.W.fnOf name qual params body scope dV kV doc pm an cdv ct) args (ps.zip us))
    (begins : ∀ s1, InCallC s s.heap.objs.size
        (bindL (envOfC qual scope s.heap.objs.size f cdv).kindOf (ps.zip us) fun _ => none)
        (cellsFrom (s.heap.objs.size + 1) scope.names [])
        (bindC (envOfC qual scope s.heap.objs.size f cdv).kindOf (ps.zip us) fun _ => none) s1 →
      L2.Inv (cxV c pn (cxOf CX P w K mg base N qual scope f cdv A outer s H E)) [] (L2.start N vs) H s1)
    (reads : ∃ t, PSs (cxV c pn (cxOf CX P w K mg base N qual scope f cdv A outer s H E)) body t ∧
      t { nx := fun _ H' => Q .non H', rt := Q } (L2.start N vs) H) :
    codeAny (model P w) A (.call (.ref f) args) (CR CX outer P w H s Q E) s := by
  have stays : ∀ b o, base.get? b = some o → s.heap.get? b = some o := fun b o e => (e0.bs b o e).1
  have KI := e0.mod.kin.keeps stays
  have NL := e0.mod.nolimit.keeps stays
  refine codeAny_call_function hdp (KI _ _ lk) rfl S.co S.gen rfl
    (PySem.W.codeRec_of KI hcd) (hb _ _ _ _ ?_)
  refine wpAny_newFunctionEnv_cells S.kind (fun y hy => ?_) fun env he s1 x => ?_
  · obtain ⟨n, v⟩ := y
    cases S.par n (List.of_mem_zip hy).1 with
    | inl q => exact Or.inl q
    | inr q => exact Or.inr ⟨q, PySem.W.cellsFrom_some _ _ _ (Or.inl q)⟩
  · subst he
    obtain ⟨t, ht, hq⟩ := reads
    have I := begins s1 x
    refine ⟨NL.keeps x.toInCall.keep, codeAny_func (wpAny_mono (ht.run [] s1 (L2.start N vs) H _ I hq)
      (fun fl s' hs => ?_) fun e s' hs => hs)⟩
    cases fl with
    | ret u =>
      obtain ⟨v, σ', H', J, rv, q⟩ := hs
      exact ⟨v, H', J.os, J.bare, J.base, J.hok, rv, q⟩
    | next =>
      obtain ⟨σ', H', J, q⟩ := hs
      exact ⟨V.non, H', J.os, J.bare, J.base, J.hok, rfl, q⟩
    | brk => exact False.elim hs.choose_spec.choose_spec.2
    | cont => exact False.elim hs.choose_spec.choose_spec.2
/-- a def under CG -/
theorem fnG_of {k : Nat} {sp : Sp}
    (lk : K.lookup f = some ⟨oc, od, .func (PySem.W.fnOf name qual params body scope dV kV doc pm an cdv ct), osl⟩)
    (hcd : PySem.W.codeIn K cdv qual = true) (S : FnScope N ps scope)
    (sized : ∀ vs H Q E, sp vs H Q E → vs.length = ps.length)
    (reads : ∀ (A : Around) (outer : List Env) (s : Shared) (H : Hp) (vs : List V) (Q : VK) (E : XK),
      Room k (A.deeper (envOfC qual scope s.heap.objs.size f cdv)) → A.guards = some [] → sp vs H Q E →
      ∃ t, PSs (cxOf CX P w K mg base N qual scope f cdv A outer s H E) body t ∧
        t { nx := fun _ H' => Q .non H', rt := Q } (L2.start N vs) H) :
    FnR P w K mg base CX (CG (k + 1)) f (PySem.W.fnOf name qual params body scope dV kV doc pm an cdv ct) ps sp :=
  ⟨sized, fun A outer s H args us vs Q E hc e0 hb r h =>
    call_body (c := true) (pn := []) lk hcd S hc.1.depth e0 hb
      (fun s1 x => inv_start S hc.1.hd e0 (sized _ _ _ _ h) r x) (reads A outer s H vs Q E (hc.1.deeper _) hc.2 h)⟩
/-- a def under CP -/
theorem fnP_of {k : Nat} {sp : Sp} {p : Addr × Obj}
    (lk : K.lookup f = some ⟨oc, od, .func (PySem.W.fnOf name qual params body scope dV kV doc pm an cdv ct), osl⟩)
    (hcd : PySem.W.codeIn K cdv qual = true) (S : FnScope N ps scope)
    (sized : ∀ vs H Q E, sp vs H Q E → vs.length = ps.length)
    (reads : ∀ (A : Around) (outer : List Env) (s : Shared) (H : Hp) (vs : List V) (Q : VK) (E : XK), Hot1 A p →
      RoomH k (A.deeper (envOfC qual scope s.heap.objs.size f cdv)) → sp vs H Q E →
      ∃ t, PSs (cxV false [p] (cxOf CX P w K mg base N qual scope f cdv A outer s H E)) body t ∧
        t { nx := fun _ H' => Q .non H', rt := Q } (L2.start N vs) H) :
    FnR P w K mg base CX (CP (k + 1) p) f (PySem.W.fnOf name qual params body scope dV kV doc pm an cdv ct) ps sp :=
  ⟨sized, fun A outer s H args us vs Q E hc e0 hb r h =>
    call_body (c := false) (pn := [p]) lk hcd S hc.1.depth e0 hb
      (fun s1 x => inv_startH S hc.2.2 e0 (sized _ _ _ _ h) r x)
      (reads A outer s H vs Q E hc.2.1 (hc.1.deeper _) h)⟩
end
section
variable {X : Cx} {CX : CXT} {C : Con} {f : Addr} {fd : FuncData} {ps : List Str} {sp : Sp} {E : XK} {x : Str} {p pos : Pos}
  {e : Expr} {es : List Expr} {t : TA}
/-- a call of such a def -/
theorem pe_callR (F : FnR X.prog X.w X.K X.mg X.base CX C f fd ps sp)
    (hC : ∀ pins σ H s, L2.Inv X pins σ H s → C X.A X.stack s H) (hg : Gl X x) (hm : X.mg x = some (.ref f))
    (hk : PySem.W.keepIn X.K (.ref f) = true) (hb : Binds X.K fd ps []) (hx : Passes CX X E) (ha : PA X (e :: es) t)
    (hdb : (x == ("__debug__" : Str)) = false := by decide)
    (he : starEach (e :: es) X.env = (false, eval e X.env) :: starEach es X.env := by rfl)
    (hpl : (backTo pos (starEach es X.env)).any (·.1) = false := by rfl) :
    PE X (.Call (.Name x p) (e :: es) [] pos) (tCall sp [] E t) := by
  refine ⟨fun pins s σ H Q I h => wpAny_Call_Name_kw (ld_glob I hg hm ?_ hdb)⟩
  refine PySem.W.callWith_K (h₀ := X.base) I.ok.mod.kin hk
    (thn (ha.run pos pins s σ H _ I h) fun us s1 hh => ?_) he hpl
  obtain ⟨vs, H1, I1, r, q⟩ := hh
  rw [List.append_nil] at q
  have hl : (us ++ []).length = ps.length := by
    rw [List.append_nil, ← r.length]
    exact F.sized _ _ _ _ q
  have b := hb s1 us I1.kIn hl
  rw [List.append_nil] at b
  refine ⟨I1.kIn, wpAny_call (codeAny_mono
    (F.does X.A X.stack s1 H1 ⟨us, []⟩ us vs Q E (hC _ _ _ _ I1) I1.env0 b r q) fun r s' hq => ?_)⟩
  match r, hq with
  | .error e, hq => exact hx pins σ H1 s1 e s' I1 hq
  | .ok (.ret u), hq => exact I1.after hq
end
end KX

namespace KX
open PySem PySem.Spec PyProof.Rows L2 L2H
/-! in an except suite -/
theorem hot_suite {X : Cx} {a : Addr} {oe : Obj} {cls : Value} {d : Option Addr} {pn : List (Addr × Obj)}
    (hz : L2N.Zn cls d oe) (hf : ∃ vs, oe.data = .fields vs) : HotC (X.suite a ((a, oe) :: pn)) := by
  obtain ⟨vs, hv⟩ := hf
  exact ⟨(a, oe), ⟨rfl, vs, hv, hz.2.2 vs hv⟩, List.mem_cons_self⟩
/-- the dict of the exception, if any, is tracked -/
def DictIs (d : Option Addr) (H : Hp) : Prop := d = none ∨ ∃ dd fs, d = some dd ∧ H dd = some (.xd fs)
/-- isinstance(e, c), e pinned -/
def rIsP (K : PySem.W.Frag) (D a : Addr) (d : Option Addr) : List V → Hp → VK → Prop := fun xs H Q =>
  DictIs d H ∧ ∃ (c : V) (cv : Value) (b : Bool), xs = [.ref a, c] ∧ (∀ u, RelV c u → u = cv) ∧
    PySem.W.kitOne K (.ref D) cv = some b ∧ Q (.bl b) H
theorem call_isP {X : Cx} {a D : Addr} {oe : Obj} {d : Option Addr} (C : ExcC X.K D) (hp : (a, oe) ∈ X.pn)
    (hz : Zc (.ref D) d oe) (hf : ∃ vs, oe.data = .fields vs) : CallR X (.builtin "isinstance") (rIsP X.K D a d) := by
  intro pins s σ H xs us Q I r h
  obtain ⟨hd, c, cv, b, rfl, hcv, e, q⟩ := h
  cases r with
  | cons rx rr =>
    cases rr with
    | cons rt rr =>
      cases rr
      cases rx
      have ec := hcv _ rt
      subst ec
      obtain ⟨hget, _⟩ := I.pin (a, oe) (List.mem_append_left _ hp)
      obtain ⟨vs, hv⟩ := hf
      obtain ⟨od, J⟩ : ∃ od, PySem.W.InstAt s.heap a oe D od := by
        rcases hd with hd | ⟨dd, fs, hd, hH⟩
        · refine ⟨none, hget, hz.1, by unfold PySem.W.notCls; rw [hv] <;> rfl, ?_⟩
          rw [hz.2, hd]
          trivial
        · have hx : ObjOk X.prog X.w H s.heap dd (.xd fs) := I.hok dd _ hH
          obtain ⟨mA, hns, _⟩ := hx
          obtain ⟨od, ho, _⟩ := lookIn_ns hns
          refine ⟨some od, hget, hz.1, by unfold PySem.W.notCls; rw [hv] <;> rfl, ?_⟩
          rw [hz.2, hd]
          exact ho
      have hcl : (PySem.W.clsIn X.K D).isSome = true := by
        obtain ⟨cd, hc, _⟩ := PySem.W.any_some C.hd
        rw [hc]
        rfl
      exact PySem.W.kia_one (PySem.W.kitx_exc (od := od) (ox := oe) hcl C.hg C.hk C.hs C.ha C.hn C.ht C.hm) I.kIn J e
        (fun z => nomatch z) fun tk => ⟨.bl b, H, I.kept (t' := tk) fun _ _ z => z, rfl, q⟩
/-! a list comprehension there -/
section
variable {X : Cx}
/-- the block's context, the handled exception pinned -/
abbrev hblk (X : Cx) (p : Addr × Obj) (s : Shared) (H : Hp) (scope : Scope) (ce : Env) (fp : List Addr) : Cx :=
  (X.blk s H scope ce fp).tr ([] ++ [p]) (fun _ _ => False)
theorem to_hblk {p : Addr × Obj} {s s' : Shared} {H H' : Hp} {scope : Scope} {ce : Env} {fp : List Addr} {σ : L2.St}
    (I : L2.Inv (X.blk s H scope ce fp) [] σ H' s')
    (h : s'.heap.get? p.1 = some p.2 ∧ H' p.1 = none ∧ p.1 ≠ ce.locals ∧ p.1 ∉ (X.blk s H scope ce fp).fs ∧ ∀ v, p.2.data ≠ .cell v) :
    L2.Inv (hblk X p s H scope ce fp) [] σ H' s' :=
  (I.pins_of (pins' := [p]) fun q hq => by rw [List.mem_singleton.mp hq]; exact h).toTry _
theorem hblk_hot {p : Addr × Obj} {s : Shared} {H : Hp} {scope : Scope} {ce : Env} {fp : List Addr} (h : Hot1 X.A p) :
    HotC (hblk X p s H scope ce fp) := ⟨p, h, by simp⟩
theorem pe_lcHot {p : Addr × Obj} {elt tg iter : Expr} {scope : Scope} {own : List (Str × Nat)} {pos : Pos} {wi : TI} {g : TG}
    {te : TE} (hot : Hot1 X.A p) (hp : p ∈ X.pn) (hN : X.N.Nodup) (hi : PIH X tg iter wi) (ok : BlkOk X.N X.env.scope scope own)
    (hg : ∀ s H C cl fp, PG (hblk X p s H scope (compEnvC scope cl C X.env) fp) tg g)
    (he : ∀ s H C cl fp, PE (hblk X p s H scope (compEnvC scope cl C X.env) fp) elt te)
    (hs : ∀ x, foldedSetIterable iter X.env x = pure x := by intro _; rfl) :
    PE X (.ListComp elt [⟨tg, iter, [], 0⟩] scope pos) (tLc wi g tYes te (own.map (·.2))) := by
  refine ⟨fun pins s σ H Q I h => ?_⟩
  rw [eval_ListComp]
  have free : ∀ y ∈ scope.names, y.2 = .free → ∃ c, X.env.cells.lookup y.1 = some c := fun y hy e =>
    (ok.free y hy e).elim (fun k => I.ok.has _ (Or.inl k)) fun k => I.ok.has _ (Or.inr k)
  refine wpAny_comprehension_free (use := none) rfl hs (closure_ok free) ok.kind
    (fun y hy e => by rw [ok.uniq y hy, e])
    (thn (hi.run pins s σ H _ I h) fun xv s1 hx => thn hx fun itv s2 h2 => ?_)
  obtain ⟨it, fp, tn, J, H2, e, I2, T, st2, f2, q⟩ := h2
  subst e
  refine wpAny_newObj_type (newEnv_comp ?_) (by show 0 ≤ sizeLine; decide)
  generalize hD : s2.heap.objs.size = D
  have hDn : H2 D = none := I2.hok.fresh (Nat.le_of_eq hD)
  obtain ⟨W, ⟨m0, w0⟩, turn⟩ := q D hDn
  generalize hs3 : ({ s2 with heap := s2.heap.push { cls := .type "list", data := .seq ([] : List Value).toArray } } : Shared) = s3
  have k23 : ∀ b o, s2.heap.get? b = some o → s3.heap.get? b = some o := fun b o e => by
    rw [← hs3]
    exact Heap.get?_push_of_some _ e
  have I3 : L2.Inv X pins σ (upd H2 D (.lst [])) s3 := by
    rw [← hs3]
    refine I2.laid (t' := s2.toks) (fun b o e => Heap.get?_push_of_some _ e) (Nat.le_of_eq hD)
      ⟨Nat.zero_le _, [], 0, .nil, ?_⟩
    rw [← hD]
    exact Heap.get?_push_size _ rfl
  have sz3 : s3.heap.objs.size = s2.heap.objs.size + 1 := by rw [← hs3]; exact Heap.size_push ..
  have P3 := I3.pin p (List.mem_append_left _ hp)
  have small : ∀ b ∈ fp, b < s2.heap.objs.size := fun b hb =>
    let ⟨_, e, _⟩ := T.obj _ _ st2 b hb
    Heap.lt_size e
  have f3 : ∀ b ∈ fp, FpOk X pins (upd H2 D (.lst [])) b ∧ b < s3.heap.objs.size := fun b hb => by
    have hlt := small b hb
    refine ⟨⟨?_, (f2 b hb).2⟩, by rw [sz3]; exact Nat.lt_succ_of_lt hlt⟩
    rw [upd_ne (by rw [← hD]; exact Nat.ne_of_lt hlt)]
    exact (f2 b hb).1
  have st3 : tn 0 s3.heap := T.keep _ _ _ st2 fun b _ o e => k23 b o e
  have I4' := block_start I3 ok hN f3
  show codeAny _ _ (.compStart (.ListComp elt [⟨tg, iter, [], 0⟩] scope pos) 0 (.ref it) (.ref D)
      (compEnvC scope (cellsFrom (s3.heap.objs.size + 1) scope.names (cloFrom X.env.cells scope.names [])) s3.heap.objs.size X.env))
    (compPost (model X.prog X.w) X.A X.xe none (EP X pins σ Q) (.ref D) s3.heap.objs.size)
    { s3 with heap := pushCells (s3.heap.push { cls := .type "dict", data := .dict #[] }) scope.names }
  have pg := hg s3 (upd H2 D (.lst [])) s3.heap.objs.size
    (cellsFrom (s3.heap.objs.size + 1) scope.names (cloFrom X.env.cells scope.names [])) fp
  have pe := he s3 (upd H2 D (.lst [])) s3.heap.objs.size
    (cellsFrom (s3.heap.objs.size + 1) scope.names (cloFrom X.env.cells scope.names [])) fp
  generalize hce : compEnvC scope (cellsFrom (s3.heap.objs.size + 1) scope.names
    (cloFrom X.env.cells scope.names [])) s3.heap.objs.size X.env = ce at I4' pg pe ⊢
  have cL : ce.locals = s3.heap.objs.size := by subst hce; rfl
  generalize hH3 : upd H2 D (.lst []) = H3 at I3 I4' pg pe w0 f3 P3
  generalize hs4 : ({ s3 with heap := pushCells (s3.heap.push { cls := .type "dict", data := .dict #[] }) scope.names } : Shared) = s4
    at I4' ⊢
  have k34 : ∀ b o, s3.heap.get? b = some o → s4.heap.get? b = some o := fun b o e => by
    rw [← hs4]
    exact pushCells_keeps _ _ _ _ (Heap.get?_push_of_some _ e)
  have st4 : tn 0 s4.heap := T.keep _ _ _ st3 fun b _ o e => k34 b o e
  have nfs : p.1 ∉ (X.blk s3 H3 scope ce fp).fs := fun hm =>
    (List.mem_cons.mp (I3.stkSub p.1 hm)).elim P3.2.2.1 P3.2.2.2.1
  have I4 : L2.Inv (hblk X p s3 H3 scope ce fp) [] (wipe σ (own.map (·.2))) H3 s4 := to_hblk I4'
    ⟨k34 _ _ P3.1, P3.2.1, by rw [cL]; exact Nat.ne_of_lt (Heap.lt_size P3.1), nfs, P3.2.2.2.2⟩
  have hc : HotC (hblk X p s3 H3 scope ce fp) := hblk_hot hot
  have nfp : ∀ b ∈ fp, H3 b = none := fun b hb => (f3 b hb).1.1
  have stat : ∀ {σ' : L2.St} {H' : Hp} {s' : Shared}, L2.Inv (hblk X p s3 H3 scope ce fp) [] σ' H' s' → (∀ b ∈ fp, H' b = none) →
      ∀ b ∈ fp, FpOk (hblk X p s3 H3 scope ce fp) [] H' b := fun {σ' H' s'} I' hn b hb =>
    ⟨hn b hb, (I'.ok.exf b hb).1, I'.ok.exfs b hb, Or.inl hb, fun x c e => (I'.ok.exf b hb).2 x c e, fun r hr => by
      have er : r = p := by simpa using hr
      rw [er]
      exact (f3 b hb).1.2.2.2.2.2 p (List.mem_append_left _ hp)⟩
  have loop : codeAny (model X.prog X.w) X.A (.compLoop (.ListComp elt [⟨tg, iter, [], 0⟩] scope pos) 0 (.ref it) (.ref D) ce)
      (compPost (model X.prog X.w) X.A X.xe none (EP X pins σ Q) (.ref D) s3.heap.objs.size) s4 := by
    refine compLoop_any (fun n s' => ∃ i H', L2.Inv (hblk X p s3 H3 scope ce fp) [] (wipe σ (own.map (·.2))) H' s' ∧
      tn i s'.heap ∧ (∀ b ∈ fp, H' b = none) ∧ W i n H') ?_ m0 ⟨0, H3, I4, st4, nfp, w0⟩
    rintro n s5 ⟨i, H5, I5, st5, n5, w5⟩
    rcases turn i n H5 w5 with ⟨stop, qq⟩ | ⟨go, Nx, hNx, step⟩
    · refine thnF (T.done (hblk X p s3 H3 scope ce fp) rfl rfl rfl hc i [] s5 _ H5 (fun _ _ => False) I5 (stat I5 n5) st5 stop)
        fun r s6 hr => ?_
      obtain ⟨rfl, I6⟩ := hr
      have I7 : L2.Inv X pins σ H5 s6 := I3.call' (ch := fp) I6.os I6.base I6.hok I6.bare fun b hb =>
        let z := (f3 b hb).1.2
        ⟨z.2.2.1, z.1, z.2.2.2.1, z.2.2.2.2⟩
      have nC : H5 s3.heap.objs.size = none := by rw [← cL]; exact I6.free
      obtain ⟨m, hn, _⟩ := I6.loc
      have hn : s6.heap.Ns s3.heap.objs.size m := by rw [← cL]; exact hn
      obtain ⟨g0, g1, g2, g3, g4, g5⟩ := I3.fpOk (Nat.le_refl _) nC
      exact ⟨m, hn, fun h'' sb => ⟨.ref D, H5,
        I7.turned (t' := s6.toks) (fun b o hb e => (sb.2 b hb).trans e) g0 g1 g3 g4 g5, rfl, qq⟩⟩
    · refine thnF (T.item (hblk X p s3 H3 scope ce fp) rfl rfl rfl hc i [] s5 _ H5 (fun _ _ => False) I5 (stat I5 n5) st5 go)
        fun r s6 hr => ?_
      obtain ⟨u, rfl, h6⟩ := hr
      refine thnF h6 fun _ s7 h7 => ?_
      obtain ⟨x, H7, I7, r7, y7, st7, n7⟩ := h7
      have I7' := I7.pinned (stat I7 n7) (T.obj _ _ st7)
      refine thnF (pg.run _ s7 _ H7 x u _ I7' r7 (step x H7 y7)) fun _ s8 h8 => ?_
      obtain ⟨σ8, H8, I8, hw8, q8⟩ := h8
      refine wpAny_pure ?_
      have q9 : te σ8 H8 fun y H4 => ∃ acc, H4 D = some (.lst acc) ∧ acc.length < sizeLine ∧ Nx (upd H4 D (.lst (acc ++ [y]))) := q8
      simp only [if_true]
      refine thnF (pe.run _ s8 σ8 H8 _ I8 q9) fun z s10 h10 => ?_
      obtain ⟨yv, H10, I10, r10, acc, hD10, hz10, nx⟩ := h10
      refine app_ok (X := hblk X p s3 H3 scope ce fp) I10 hD10 hz10 r10 fun s11 I11 => ?_
      obtain ⟨m', hm, w'⟩ := hNx _ nx
      have kept : ∀ b ∈ fp, ∀ o, s7.heap.get? b = some o → s11.heap.get? b = some o ∧
          (upd H10 D (.lst (acc ++ [yv]))) b = none := fun b hb o e =>
        let z := I11.pin (b, o) (List.mem_append_right _ (List.mem_append_right _ (mem_pinsAt hb e)))
        ⟨z.1, z.2.1⟩
      refine ⟨m', hm, i + 1, _, (I11.unpinned (pins := [])).weak (by rw [← hw8, wipe_length]) (fun j v e => ?_),
        T.keep _ _ _ st7 fun b hb o e => (kept b hb o e).1, fun b hb => ?_, w'⟩
      · rw [← hw8] at e
        exact (wipe_some e).1
      · obtain ⟨o, e, _⟩ := T.obj _ _ st7 b hb
        exact (kept b hb o e).2
  exact codeAny_compStart_list loop (T.self X.A 0 _ _ _ st4 loop)
end
end KX

namespace KX
open PySem PySem.Spec PyProof.Rows L2 L2H
/-! the law's own call, its def promised under CG -/
theorem none_or_at {H : Hp} {a : Addr} (hA : ∀ b, H b ≠ none → b = a) (b : Addr) : H b = none ∨ b = a := by
  cases q : H b with
  | none => exact Or.inl rfl
  | some u => exact Or.inr (hA b (by rw [q]; exact fun z => nomatch z))
theorem lawG_core {P : Program} {w : World} {K : PySem.W.Frag} {mg mb : Str → Option Value} {CX : CXT} {k : Nat} {fa a : Addr}
    {fd : FuncData} {x : Str} {sp : Sp} {s₁ : Shared} {vs : List Value} {H : Hp}
    (KI : K.In s₁.heap) (hns : s₁.heap.Ns mainGlobals mg) (hb : s₁.heap.Ns builtinsNs mb)
    (hbb : ∀ x : Str, x ≠ "__name__" → mb x = bootBuiltins x) (hlim : s₁.heap.NoLimit) (hg : s₁.gens = #[])
    (ha : s₁.heap.get? a = some { cls := .type "list", data := .seq vs.toArray }) (hr : Room k callerA)
    (F : ∀ base : Heap, K.In base → base.Ns mainGlobals mg → FnR P w K mg base CX (CG k) fa fd [x] sp)
    (hbind : ∀ (s : Shared) (u : Value), BindsTo s fd ⟨[u], []⟩ [(x, u)])
    (hCX : ∀ H e s', CX [] H s₁ (fun _ _ _ => False) e s' → False)
    (hO : Only H) (hS : sp [.ref a] H (fun v _ => v = .bl true) fun _ _ _ => False) (hok : HOk P w H s₁.heap)
    (hA : ∀ b, H b ≠ none → b = a) (hK : H a ≠ none → K.lookup a = none) :
    codeAny (model P w) callerA (.call (.ref fa) ⟨[.ref a], []⟩)
      (fun r s' => r = .ok (.ret (.bool true)) ∧ OldK s₁.heap s'.heap ∧ s'.os = s₁.os ∧ AllBare s'.gens) s₁ := by
  have dictFree : ∀ {b : Addr} {o : Obj} {es : Array DictEntry} {ep : Nat}, s₁.heap.get? b = some o → o.data = .dict es ep → H b = none :=
    fun {b o es ep} e d => (none_or_at hA b).resolve_right fun z => by
      subst z
      rw [ha] at e
      cases e
      have d' : Data.seq vs.toArray _ = Data.dict es ep := d
      cases d'
  have ns' : ∀ {b : Addr} {m : Str → Option Value}, s₁.heap.Ns b m → (hidT s₁.heap H).Ns b m := fun {b m} n => by
    obtain ⟨o, es, ep, e, d, r⟩ := n
    exact ⟨o, es, ep, hidT_get e (dictFree e d), d, r⟩
  have KB : K.In (hidT s₁.heap H) := fun b o e => by
    cases q : H b with
    | none => exact hidT_get (KI b o e) q
    | some u =>
      have eb : b = a := hA b (by rw [q]; exact fun z => nomatch z)
      subst eb
      rw [hK (by rw [q]; exact fun z => nomatch z)] at e
      cases e
  have MB : Mod K mg (hidT s₁.heap H) := by
    obtain ⟨mc, h1, h2⟩ := hlim
    exact ⟨KB, ns' hns, ⟨mb, ns' hb, hbb⟩, ⟨mc, ns' h1, h2⟩⟩
  have e0 : Env0 P w K mg (hidT s₁.heap H) callerA [] s₁ H :=
    ⟨rfl, MB, fun b o e => of_hidT e, Nat.le_of_eq (hidT_size _ _), trivial,
      fun b hb => absurd (show b ∈ ([] : List Addr) from hb) (by simp), hok, .of_eq hg⟩
  refine codeAny_mono ((F _ KB (ns' hns)).does callerA [] s₁ H ⟨[.ref a], []⟩ [.ref a] [.ref a] _ _ ⟨hr, rfl⟩ e0
    (hbind s₁ (.ref a)) (.cons rfl .nil) hS) fun r s' h => ?_
  match r, h with
  | .error e, h => exact (hCX H e s' h).elim
  | .ok (.ret u), h =>
    obtain ⟨v, H', os, bare, un, hok', r', q⟩ := h
    have q' : v = .bl true := q
    subst q'
    obtain rfl : u = Value.bool true := r'
    refine ⟨rfl, OldK.of_keep fun b o e => ?_, os, bare⟩
    cases q : H b with
    | none => exact un.keep b o e q (by intro z; exact absurd (show b ∈ ([] : List Addr) from z) (by simp)) (by simp)
    | some u =>
      rcases hO b with z | ⟨ob, xs, z⟩
      · rw [q] at z
        cases z
      · have e1 := (hok b _ z).1
        have e2 := (hok' b _ (un.frzs b ob _ z)).1
        rw [e] at e1
        cases e1
        exact e2
theorem law_callG {P : Program} {w : World} {K : PySem.W.Frag} {mg mb : Str → Option Value} {CX : CXT} {k : Nat} {fa a : Addr}
    {fd : FuncData} {x : Str} {sp : Sp} {s₁ : Shared} {vs : List Value} {ns : List Int}
    (KI : K.In s₁.heap) (hns : s₁.heap.Ns mainGlobals mg) (hb : s₁.heap.Ns builtinsNs mb)
    (hbb : ∀ x : Str, x ≠ "__name__" → mb x = bootBuiltins x) (hlim : s₁.heap.NoLimit) (hg : s₁.gens = #[])
    (ha : s₁.heap.get? a = some { cls := .type "list", data := .seq vs.toArray }) (hi : IntsAre vs ns)
    (hl : ns.length ≤ sizeLine) (hr : Room k callerA)
    (F : ∀ base : Heap, K.In base → base.Ns mainGlobals mg → FnR P w K mg base CX (CG k) fa fd [x] sp)
    (hbind : ∀ (s : Shared) (u : Value), BindsTo s fd ⟨[u], []⟩ [(x, u)])
    (hsp : ∀ H : Hp, Only H → SqL K H a (ns.map V.int) → sp [.ref a] H (fun v _ => v = .bl true) fun _ _ _ => False)
    (hCX : ∀ H e s', CX [] H s₁ (fun _ _ _ => False) e s' → False) :
    codeAny (model P w) callerA (.call (.ref fa) ⟨[.ref a], []⟩)
      (fun r s' => r = .ok (.ret (.bool true)) ∧ OldK s₁.heap s'.heap ∧ s'.os = s₁.os ∧ AllBare s'.gens) s₁ := by
  have rv := vals_ints hi
  cases hk : K.lookup a with
  | some o =>
    have e := KI a o hk
    rw [ha] at e
    cases e
    have O : Only fun _ => none := fun _ => Or.inl rfl
    have S : SqL K (fun _ => none) a (ns.map V.int) :=
      Or.inr ⟨_, vs.toArray, _, hk, rfl, rfl, rfl, by rw [List.size_toArray, hi.length]; exact hl, by simpa using rv⟩
    exact lawG_core KI hns hb hbb hlim hg ha hr F hbind hCX O (hsp _ O S) (fun b u z => nomatch z) (fun b z => absurd rfl z)
      fun z => absurd rfl z
  | none =>
    let H : Hp := fun b => if b = a then
      some (.frz { cls := .type "list", data := .seq vs.toArray } (.lst (ns.map V.int))) else none
    have at_ : H a = some (.frz { cls := .type "list", data := .seq vs.toArray } (.lst (ns.map V.int))) := if_pos rfl
    have off : ∀ {b}, b ≠ a → H b = none := fun h => if_neg h
    have O : Only H := fun b => by
      by_cases h : b = a
      · subst h
        exact Or.inr ⟨_, _, at_⟩
      · exact Or.inl (off h)
    have S : SqL K H a (ns.map V.int) := Or.inl (Or.inr ⟨_, at_⟩)
    refine lawG_core (H := H) KI hns hb hbb hlim hg ha hr F hbind hCX O (hsp _ O S) (fun b u z => ?_)
      (fun b z => Classical.byContradiction fun h => z (off h)) fun _ => hk
    by_cases h : b = a
    · subst h
      rw [at_] at z
      cases z
      exact ⟨ha, by rw [List.length_map]; exact hl, vs, _, rv, ha⟩
    · rw [off h] at z
      cases z
/-- what k_head leaves, by the law's promise under CG -/
theorem walk_ofG {l : PySem.W.OpenLaw} {n k : Nat} {q : Program} {loose : List Str} {XP : (Str → Option Value) → Heap → Prop}
    {YP : World → Heap → Prop} {d : DefRec} {K : Params → PySem.W.Frag} {CX : CXT} {sp : PySem.W.Frag → Sp} {x : Str}
    (hn : l.most = some n) (hn2 : n ≤ sizeLine) (hdf : d.params.defaults = []) (hr : Room k callerA)
    (hY : ∀ (w : World) (h : Heap), YP w h → (K w.params).In h)
    (F : ∀ (w : World) (mg : Str → Option Value) (fa : Addr) (h : Heap), (K w.params).In h → h.Ns mainGlobals mg →
      mg d.name = some (.ref fa) → ∃ fd : FuncData, (∀ (s : Shared) (u : Value), BindsTo s fd ⟨[u], []⟩ [(x, u)]) ∧
        ∀ base : Heap, (K w.params).In base → base.Ns mainGlobals mg →
          FnR l.prog w (K w.params) mg base CX (CG k) fa fd [x] (sp (K w.params)))
    (hsp : ∀ (K : PySem.W.Frag) (H : Hp) (a : Addr) (ns : List Int), ns.length ≤ n → Only H → SqL K H a (ns.map V.int) →
      sp K [.ref a] H (fun v _ => v = .bl true) fun _ _ _ => False)
    (hCX : ∀ (H : Hp) (s : Shared) (e : Value) (s' : Shared), CX [] H s (fun _ _ _ => False) e s' → False) :
    PySem.W.WalkO q loose XP YP l.row.toRowW d [] (fun f vs => PySem.call f vs) := by
  refine Att.attach_call hn hdf fun w s₀ s₁ mg mb fa o pm cd doc a vs ns G Y ho hd hcd hmg hobj hints hlen hg => ?_
  have KI := hY w _ Y
  obtain ⟨fd, hb, hF⟩ := F w mg fa _ KI G.T.g hmg
  exact law_callG KI G.T.g G.T.b G.T.builtins G.T.nolimit hg hobj hints (Nat.le_trans hlen hn2) hr hF hb
    (fun H hO hS => hsp (K w.params) H a ns hlen hO hS) fun H e s' => hCX H s₁ e s'
end KX

namespace KX
open PySem PySem.Spec PyProof.Rows L2
/-! calls by keywords alone -/
section
variable {X : Cx} {CX : CXT} {k : Nat} {f : Addr} {fd : FuncData} {ps ks : List Str} {sp : Sp} {E : XK} {x : Str} {p pos : Pos}
  {kws : List Keyword} {t tk : TA} {g : List Value → List Value → List Value} {gV : List V → List V → List V}
def tCallK (m : Nat) (sp : Sp) (gV : List V → List V → List V) (E : XK) (tk : TA) : TE := fun σ H Q =>
  tk σ H fun zs H2 => zs.length = m ∧ sp (gV [] zs) H2 Q E
theorem pe_callK (F : FnOk X.prog X.w X.K X.mg X.base CX k f fd ps sp) (hr : Room k X.A) (hg : Gl X x) (hm : X.mg x = some (.ref f))
    (hk : PySem.W.keepIn X.K (.ref f) = true) (hb : KBn X.K fd ps 0 ks g gV) (hx : Passes CX X E) (hkw : PK X kws tk)
    (hall : (backToKw pos (keywordEach kws X.env)).all (·.1.isSome) = true := by rfl)
    (hks : (backToKw pos (keywordEach kws X.env)).filterMap (·.1) = ks := by rfl)
    (hdb : (x == ("__debug__" : Str)) = false := by decide)
    (hpl : ((backTo pos (starEach [] X.env)).any (·.1) || (backToKw pos (keywordEach kws X.env)).any (·.1.isNone)) = false := by rfl) :
    PE X (.Call (.Name x p) [] kws pos) (tCallK ks.length sp gV E tk) := by
  refine ⟨fun pins s σ H Q I h => wpAny_Call_Name_kw (ld_glob I hg hm ?_ hdb)⟩
  refine PySem.W.callWith_KW0 (h₀ := X.base) I.ok.mod.kin hk hall (thn (hkw.run pos pins s σ H _ I h) fun ws s2 hh => ?_) hpl
  obtain ⟨zs, H2, I2, rz, l2, q2⟩ := hh
  refine ⟨I2.kIn, ?_⟩
  rw [hks]
  exact run_fnN (us := []) (vs := []) F hr hb hx I2 .nil rz rfl l2 q2
/-- two parameters by keywords, in the other order -/
theorem kb_swap {K : PySem.W.Frag} {fd : FuncData} {a b : Str}
    (h : ∀ u v : Value, bindArgs fd ⟨[], [(b, v), (a, u)]⟩ = pure [(a, u), (b, v)]) :
    KBn K fd [a, b] 0 [b, a] (fun _ ws => ws.reverse) (fun _ zs => zs.reverse) where
  to := fun s us ws _ h0 h2 => by
    match us, ws, h0, h2 with
    | [], [v, u], _, _ => exact .of_eq (h u v)
  rel := fun {vs us zs ws} _ r => by
    induction r with
    | nil => exact .nil
    | cons q _ ih =>
      rw [List.reverse_cons, List.reverse_cons]
      exact ih.append (.cons q .nil)
/-- two parameters by keywords, in their order -/
theorem kb_both {K : PySem.W.Frag} {fd : FuncData} {a b : Str}
    (h : ∀ u v : Value, bindArgs fd ⟨[], [(a, u), (b, v)]⟩ = pure [(a, u), (b, v)]) :
    KBn K fd [a, b] 0 [a, b] (fun _ ws => ws) (fun _ zs => zs) where
  to := fun s us ws _ h0 h2 => by
    match us, ws, h0, h2 with
    | [], [u, v], _, _ => exact .of_eq (h u v)
  rel := fun _ r => r
/-- the second one of two by keyword -/
theorem kb_second {K : PySem.W.Frag} {fd : FuncData} {a b : Str}
    (h : ∀ u v : Value, bindArgs fd ⟨[u], [(b, v)]⟩ = pure [(a, u), (b, v)]) :
    KBn K fd [a, b] 1 [b] (fun us ws => us ++ ws) (fun vs zs => vs ++ zs) where
  to := fun s us ws _ h0 h2 => by
    match us, ws, h0, h2 with
    | [u], [v], _, _ => exact .of_eq (h u v)
  rel := fun r1 r2 => r1.append r2
end
/-! // by any number that is not 0 -/
def CDivA (_ j : Int) : Prop := j ≠ 0 ∧ j.natAbs.log2 < 9000
theorem op_fdivA {X : Cx} : OpR X (binaryOp .FloorDiv) (rI CDivA fun i j => .int (i.fdiv j)) := opI fun i j _ _ _ _ _ hc q =>
  floordiv_int hc.1 q (.inl (PyProof.noPylong_of_log2 hc.2))
/-! which values are integers -/
inductive Kin (K : PySem.W.Frag) (H : Hp) : V → Option Int → Prop
  | int (i : Int) : Kin K H (.int i) (some i)
  | oth {x : V} {n : String} {b1 b2 : Bool} (t : TyX K H x (.type n)) (h1 : kitB n "int" = some b1) (h2 : kitB n "bool" = some b2)
      (h : (b1 && !b2) = false) : Kin K H x none
theorem Kin.ty {K : PySem.W.Frag} {H : Hp} {x : V} {o : Option Int} (k : Kin K H x o) :
    ∃ n b1 b2, TyX K H x (.type n) ∧ kitB n "int" = some b1 ∧ kitB n "bool" = some b2 ∧ (b1 && !b2) = o.isSome := by
  cases k with
  | int i => exact ⟨"int", true, false, .base (.int i), by decide +kernel, by decide +kernel, rfl⟩
  | oth t h1 h2 h => exact ⟨_, _, _, t, h1, h2, h⟩
end KX

namespace KX
open PySem PySem.Spec PyProof.Rows L2
section
variable {X : Cx} {C fI : Addr} {en qn : Str}
theorem pmk_errZ {a : Expr} {ta : TA} {p pos : Pos} {k : Nat} (T : PySem.ErrX.ErrTxt X.K X.mg en qn C fI) (hr : Room k X.A) (ha : PA X [a] ta) (hg : Gl X en := by rfl) (hdb : (en == ("__debug__" : Str)) = false := by decide)
    (he : starEach (a :: []) X.env = (false, eval a X.env) :: starEach [] X.env := by rfl) (hpl : (backTo pos (starEach [] X.env)).any (·.1) = false := by rfl) :
    L2.PMk X (.Call (.Name en p) [a] [] pos) (tMkErr C ta) := fun pins s σ H Q I h => by
  refine wpAny_mono (pmk_err T hr ha hg hdb he hpl pins s σ H Q I h) (fun u s' hu => ?_) fun _ _ x => x
  obtain ⟨a, oe, vs, sI, H', cls, d, h1, h2, h3, h4, h5, hz, h6⟩ := hu
  exact ⟨a, oe, vs, sI, H', cls, d, h1, h2, h3, h4, h5, hz.zc, h6⟩
theorem ps_raiseErrZ {a : Expr} {ta : TA} {W : WX} {p pos pos2 : Pos} {k : Nat} (hc : X.calm = true) (T : PySem.ErrX.ErrTxt X.K X.mg en qn C fI) (hr : Room k X.A) (tk : L2.Takes X W) (ha : PA X [a] ta) (hg : Gl X en := by rfl) (hdb : (en == ("__debug__" : Str)) = false := by decide)
    (he : starEach (a :: []) X.env = (false, eval a X.env) :: starEach [] X.env := by rfl) (hpl : (backTo pos (starEach [] X.env)).any (·.1) = false := by rfl) :
    PS X (.Raise (some (.Call (.Name en p) [a] [] pos)) none pos2) (tRaiseErr C W ta) := L2.ps_raise hc tk (pmk_errZ T hr ha hg hdb he hpl)
end
end KX

namespace KX
open PySem PySem.Spec PyProof.Rows L2 L2H LamX
/-! the law's own call under CG, with one table of code objects -/
section
variable {P : Program} {w : World} {K : PySem.W.Frag} {mg mb : Str → Option Value} {CX : CXT} {k : Nat} {fa a c t : Addr}
  {fd : FuncData} {x : Str} {sp : Sp} {s₁ : Shared} {vs : List Value}
/-- only the script and the table are tracked -/
structure OnlyT (H : Hp) (a t : Addr) : Prop where
  tab : H t = some (.tbl #[])
  who : ∀ b, H b ≠ none → b = a ∨ b = t
  frz : ∀ u, H a = some u → ∃ o xs, u = .frz o (.lst xs)
theorem OnlyT.off {H : Hp} {b : Addr} (O : OnlyT H a t) (h1 : b ≠ a) (h2 : b ≠ t) : H b = none :=
  Classical.byContradiction fun z => (O.who b z).elim h1 h2
theorem lawT_core {H : Hp}
    (KI : K.In s₁.heap) (hns : s₁.heap.Ns mainGlobals mg) (hb : s₁.heap.Ns builtinsNs mb)
    (hbb : ∀ x : Str, x ≠ "__name__" → mb x = bootBuiltins x) (hlim : s₁.heap.NoLimit) (hg : s₁.gens = #[])
    (ht : s₁.heap.get? t = some { cls := .none, data := .fields #[] }) (nt : K.lookup t = none) (C : PySem.W.CodeHd s₁.heap c t)
    (hbm : ∃ (bm : Addr) (ob : Obj), mg "__builtins__" = some (.ref bm) ∧ bm ≠ builtinsNs ∧ s₁.heap.get? bm = some ob ∧ ob.cls = .type "module" ∧ ob.dict = some builtinsNs ∧ ob.data = .plain)
    (ha : s₁.heap.get? a = some { cls := .type "list", data := .seq vs.toArray }) (hr : Room k callerA)
    (F : ∀ base : Heap, K.In base → base.Ns mainGlobals mg → TabB base mg c t → FnR P w K mg base CX (CG k) fa fd [x] sp)
    (hbind : ∀ (s : Shared) (u : Value), BindsTo s fd ⟨[u], []⟩ [(x, u)])
    (hCX : ∀ H e s', CX [] H s₁ (fun _ _ _ => False) e s' → False)
    (O : OnlyT H a t) (hS : sp [.ref a] H (fun v _ => v = .bl true) fun _ _ _ => False) (hok : HOk P w H s₁.heap)
    (hK : H a ≠ none → K.lookup a = none) :
    codeAny (model P w) callerA (.call (.ref fa) ⟨[.ref a], []⟩)
      (fun r s' => r = .ok (.ret (.bool true)) ∧ OldK s₁.heap s'.heap ∧ s'.os = s₁.os ∧ AllBare s'.gens) s₁ := by
  have sees : ∀ {b : Addr} {o : Obj}, s₁.heap.get? b = some o → (∀ vs n, o.data ≠ .seq vs n) → o.data ≠ .fields #[] →
      (hidT s₁.heap H).get? b = some o := fun {b o} e h1 h2 => hidT_get e (O.off (fun z => by
        subst z
        rw [ha] at e
        cases e
        exact h1 _ _ rfl) fun z => by
        subst z
        rw [ht] at e
        cases e
        exact h2 rfl)
  have nsH : ∀ {b : Addr} {m : Str → Option Value}, s₁.heap.Ns b m → (hidT s₁.heap H).Ns b m := fun {b m} n => by
    obtain ⟨o, es, ep, e, d, r⟩ := n
    exact ⟨o, es, ep, sees e (fun vs n z => by rw [d] at z; cases z) (fun z => by rw [d] at z; cases z), d, r⟩
  have KB : K.In (hidT s₁.heap H) := fun b o e => hidT_get (KI b o e) (Classical.byContradiction fun z => by
    rcases O.who b z with h | h
    · subst h
      rw [hK z] at e
      cases e
    · subst h
      rw [nt] at e
      cases e)
  have MB : Mod K mg (hidT s₁.heap H) := by
    obtain ⟨mc, h1, h2⟩ := hlim
    exact ⟨KB, nsH hns, ⟨mb, nsH hb, hbb⟩, ⟨mc, nsH h1, h2⟩⟩
  have TB : TabB (hidT s₁.heap H) mg c t := by
    refine ⟨?_, ?_, fun z => ?_⟩
    · obtain ⟨o, us, file, tf, flags, tg, inF, text, tt, e1, r1, r2, r3, rest⟩ := C
      refine ⟨o, us, file, tf, flags, tg, inF, text, tt, sees e1 (fun vs n z => ?_) (fun z => ?_), r1, r2, r3, rest⟩
      · rw [r2] at z
        cases z
      · rw [r2] at z
        cases z
        simp at r3
    · obtain ⟨bm, ob, b1, b2, b3, b4, b5, b6⟩ := hbm
      refine ⟨bm, ob, b1, b2, fun q => ?_, fun q => ?_, sees b3 (fun vs n z => by rw [b6] at z; cases z) (fun z => by rw [b6] at z; cases z), b4, b5, b6⟩
      · obtain ⟨o, es, ep, e, hd, _⟩ := hns
        rw [q, e] at b3
        cases b3
        rw [hd] at b6
        cases b6
      · rw [q, ht] at b3
        cases b3
        cases b6
    · obtain ⟨o, es, ep, e, hd, _⟩ := hns
      rw [z, ht] at e
      cases e
      cases hd
  have e0 : Env0 P w K mg (hidT s₁.heap H) callerA [] s₁ H :=
    ⟨rfl, MB, fun b o e => of_hidT e, Nat.le_of_eq (hidT_size _ _), trivial,
      fun b hb => absurd (show b ∈ ([] : List Addr) from hb) (by simp), hok, .of_eq hg⟩
  refine codeAny_mono ((F _ KB (nsH hns) TB).does callerA [] s₁ H ⟨[.ref a], []⟩ [.ref a] [.ref a] _ _ ⟨hr, rfl⟩ e0
    (hbind s₁ (.ref a)) (.cons rfl .nil) hS) fun r s' h => ?_
  match r, h with
  | .error e, h => exact (hCX H e s' h).elim
  | .ok (.ret u), h =>
    obtain ⟨v, H', os, bare, un, hok', r', q⟩ := h
    have q' : v = .bl true := q
    subst q'
    obtain rfl : u = Value.bool true := r'
    obtain ⟨more, hm⟩ : ∃ more : Array Value, s'.heap.get? t = some { cls := .none, data := .fields more } := by
      obtain ⟨more, z⟩ := un.tbls t #[] O.tab
      exact ⟨_, hok' t _ z⟩
    have other : ∀ b o, b ≠ t → s₁.heap.get? b = some o → s'.heap.get? b = some o := fun b o nb e => by
      cases q : H b with
      | none => exact un.keep b o e q (by intro z; exact absurd (show b ∈ ([] : List Addr) from z) (by simp)) (by simp)
      | some u =>
        have eb : b = a := (O.who b (by rw [q]; exact fun z => nomatch z)).resolve_right nb
        subst eb
        obtain ⟨ob, xs, rfl⟩ := O.frz _ q
        have e1 := (hok b _ q).1
        have e2 := (hok' b _ (un.frzs b ob _ q)).1
        rw [e] at e1
        cases e1
        exact e2
    refine ⟨rfl, ⟨fun b o e => ?_, fun b o e => ?_⟩, os, bare⟩
    · by_cases h : b = t
      · subst h
        rw [ht] at e
        cases e
        exact .inr (.inl ⟨(C.tab ht).isCodeTable, rfl, #[], more, rfl, by rw [Array.empty_append]; exact hm⟩)
      · exact .inl (other b o h e)
    · by_cases h : b = t
      · subst h
        exact ⟨_, hm⟩
      · exact ⟨o, other b o h e⟩
theorem law_callT {ns : List Int}
    (KI : K.In s₁.heap) (hns : s₁.heap.Ns mainGlobals mg) (hb : s₁.heap.Ns builtinsNs mb)
    (hbb : ∀ x : Str, x ≠ "__name__" → mb x = bootBuiltins x) (hlim : s₁.heap.NoLimit) (hg : s₁.gens = #[])
    (ht : s₁.heap.get? t = some { cls := .none, data := .fields #[] }) (nt : K.lookup t = none) (C : PySem.W.CodeHd s₁.heap c t)
    (hbm : ∃ (bm : Addr) (ob : Obj), mg "__builtins__" = some (.ref bm) ∧ bm ≠ builtinsNs ∧ s₁.heap.get? bm = some ob ∧ ob.cls = .type "module" ∧ ob.dict = some builtinsNs ∧ ob.data = .plain)
    (ha : s₁.heap.get? a = some { cls := .type "list", data := .seq vs.toArray }) (hi : IntsAre vs ns) (hl : ns.length ≤ sizeLine) (hr : Room k callerA)
    (F : ∀ base : Heap, K.In base → base.Ns mainGlobals mg → TabB base mg c t → FnR P w K mg base CX (CG k) fa fd [x] sp)
    (hbind : ∀ (s : Shared) (u : Value), BindsTo s fd ⟨[u], []⟩ [(x, u)])
    (hsp : ∀ H : Hp, H t = some (.tbl #[]) → SqL K H a (ns.map V.int) → sp [.ref a] H (fun v _ => v = .bl true) fun _ _ _ => False)
    (hCX : ∀ H e s', CX [] H s₁ (fun _ _ _ => False) e s' → False) :
    codeAny (model P w) callerA (.call (.ref fa) ⟨[.ref a], []⟩)
      (fun r s' => r = .ok (.ret (.bool true)) ∧ OldK s₁.heap s'.heap ∧ s'.os = s₁.os ∧ AllBare s'.gens) s₁ := by
  have rv := vals_ints hi
  have nat : a ≠ t := fun z => by
    rw [z, ht] at ha
    cases ha
  cases hk : K.lookup a with
  | some o =>
    have e := KI a o hk
    rw [ha] at e
    cases e
    let H : Hp := fun b => if b = t then some (.tbl #[]) else none
    have atT : H t = some (.tbl #[]) := if_pos rfl
    have off : ∀ {b}, b ≠ t → H b = none := fun h => if_neg h
    have S : SqL K H a (ns.map V.int) :=
      Or.inr ⟨_, vs.toArray, _, hk, rfl, rfl, rfl, by rw [List.size_toArray, hi.length]; exact hl, by simpa using rv⟩
    have O : OnlyT H a t := ⟨atT, fun b z => Or.inr (Classical.byContradiction fun h => z (off h)), fun u z => by rw [off nat] at z; cases z⟩
    refine lawT_core KI hns hb hbb hlim hg ht nt C hbm ha hr F hbind hCX O (hsp _ atT S) (fun b u z => ?_) fun z => absurd (off nat) z
    by_cases h : b = t
    · subst h
      rw [atT] at z
      cases z
      exact ht
    · rw [off h] at z
      cases z
  | none =>
    let H : Hp := fun b => if b = a then some (.frz { cls := .type "list", data := .seq vs.toArray } (.lst (ns.map V.int))) else if b = t then some (.tbl #[]) else none
    have atA : H a = some (.frz { cls := .type "list", data := .seq vs.toArray } (.lst (ns.map V.int))) := if_pos rfl
    have atT : H t = some (.tbl #[]) := (if_neg (Ne.symm nat)).trans (if_pos rfl)
    have off : ∀ {b}, b ≠ a → b ≠ t → H b = none := fun h h' => (if_neg h).trans (if_neg h')
    have S : SqL K H a (ns.map V.int) := Or.inl (Or.inr ⟨_, atA⟩)
    have O : OnlyT H a t := ⟨atT, fun b z => by
      by_cases h : b = a
      · exact Or.inl h
      · exact Or.inr (Classical.byContradiction fun h' => z (off h h')), fun u z => by rw [atA] at z; cases z; exact ⟨_, _, rfl⟩⟩
    refine lawT_core KI hns hb hbb hlim hg ht nt C hbm ha hr F hbind hCX O (hsp _ atT S) (fun b u z => ?_) fun _ => hk
    by_cases h : b = a
    · subst h
      rw [atA] at z
      cases z
      exact ⟨ha, by rw [List.length_map]; exact hl, vs, _, rv, ha⟩
    · by_cases h' : b = t
      · subst h'
        rw [atT] at z
        cases z
        exact ht
      · rw [off h h'] at z
        cases z
end
/-- what k_head leaves, by the law's promise under CG; t: the table of the law's code object -/
theorem walk_ofT {l : PySem.W.OpenLaw} {n k : Nat} {q : Program} {loose : List Str} {XP : (Str → Option Value) → Heap → Prop}
    {YP : World → Heap → Prop} {d : DefRec} {K : Params → PySem.W.Frag} {CX : CXT} {x : Str} {c t : Addr} {sp : PySem.W.Frag → Sp}
    (hn : l.most = some n) (hn2 : n ≤ sizeLine) (hdf : d.params.defaults = []) (hr : Room k callerA)
    (hY : ∀ (w : World) (h : Heap), YP w h → (K w.params).In h)
    (hT : ∀ (w : World) (h : Heap), YP w h → h.get? t = some { cls := .none, data := .fields #[] })
    (hcd : ∀ w : World, PySem.W.codeHdIn (K w.params) c t = true) (nt : ∀ w : World, (K w.params).lookup t = none)
    (F : ∀ (w : World) (mg : Str → Option Value) (fa : Addr) (h : Heap), (K w.params).In h → h.Ns mainGlobals mg →
      mg d.name = some (.ref fa) → ∃ fd : FuncData, (∀ (s : Shared) (u : Value), BindsTo s fd ⟨[u], []⟩ [(x, u)]) ∧
        ∀ base : Heap, (K w.params).In base → base.Ns mainGlobals mg → TabB base mg c t →
          FnR l.prog w (K w.params) mg base CX (CG k) fa fd [x] (sp (K w.params)))
    (hsp : ∀ (K : PySem.W.Frag) (H : Hp) (a : Addr) (ns : List Int), ns.length ≤ n → H t = some (.tbl #[]) → SqL K H a (ns.map V.int) →
      sp K [.ref a] H (fun v _ => v = .bl true) fun _ _ _ => False)
    (hCX : ∀ (H : Hp) (s : Shared) (e : Value) (s' : Shared), CX [] H s (fun _ _ _ => False) e s' → False) :
    PySem.W.WalkO q loose XP YP l.row.toRowW d [] (fun f vs => PySem.call f vs) := by
  refine Att.attach_call hn hdf fun w s₀ s₁ mg mb fa o pm cd doc a vs ns G Y ho hd hcd' hmg hobj hints hlen hg => ?_
  have KI := hY w _ Y
  obtain ⟨fd, hb, hF⟩ := F w mg fa _ KI G.T.g hmg
  exact law_callT KI G.T.g G.T.b G.T.builtins G.T.nolimit hg (hT w _ Y) (nt w) (PySem.W.codeHd_of_K KI (hcd w)) G.T.bmain hobj hints (Nat.le_trans hlen hn2) hr hF hb
    (fun H hH hS => hsp (K w.params) H a ns hlen hH hS) fun H e s' => hCX H s₁ e s'
end KX

namespace K01
open PySem PySem.Spec PyProof.Rows L2 KX
def top (i : Nat) : Stmt :=
  PySem.Challenge.pw_handalong_k01_fractions_in_lowest_terms.main.body.getD i (.Pass ⟨0, 0, 0, 0⟩)
abbrev sIsInt : Stmt := top 2
abbrev sIsTup : Stmt := top 3
abbrev sIsFrac : Stmt := top 8
abbrev sMade : Stmt := top 9
abbrev sAdded : Stmt := top 10
abbrev sLess : Stmt := top 11
abbrev sTimes : Stmt := top 12
abbrev sComp : Stmt := top 13
/-! ### what they do -/
def spIsInt (K : PySem.W.Frag) : Sp := fun vs H Q _ => ∃ x o, vs = [x] ∧ Kin K H x o ∧ Q (.bl o.isSome) H
def spIsTup (K : PySem.W.Frag) : Sp := fun vs H Q _ => ∃ (x : V) (k : Int) (n : String) (b : Bool), vs = [x, .int k] ∧
  TyX K H x (.type n) ∧ kitB n "tuple" = some b ∧
  (if b = true then ∃ a xs, x = .ref a ∧ H a = some (.tup xs) ∧ Q (.bl (decide (V.int (xs.length : Int) = V.int k))) H else Q (.bl false) H)
def fracB : Option Int → Option Int → Bool
  | some t, some u => decide (1 ≤ u) && decide (Nat.gcd t.natAbs u.natAbs = 1)
  | _, _ => false
def spIsFrac (K : PySem.W.Frag) : Sp := fun vs H Q _ => ∃ x, vs = [x] ∧
  ((∃ n, TyX K H x (.type n) ∧ kitB n "tuple" = some false ∧ Q (.bl false) H) ∨
   ∃ a xs, x = .ref a ∧ H a = some (.tup xs) ∧ ((xs.length ≠ 2 ∧ Q (.bl false) H) ∨
     ∃ y z o1 o2, xs = [y, z] ∧ Kin K H y o1 ∧ Kin K H z o2 ∧ Q (.bl (fracB o1 o2)) H))
def gcdI (t b : Int) : Int := ((Nat.gcd t.natAbs b.natAbs : Nat) : Int)
def sgcd (t b : Int) : Int := if b < 0 then -gcdI t b else gcdI t b
def low (t b : Int) : Int × Int := (t.fdiv (sgcd t b), b.fdiv (sgcd t b))
def fr (x : Int × Int) : HO := .tup [.int x.1, .int x.2]
def spMade (CQ : Addr) : Sp := fun vs H Q E => ∃ t b : Int, vs = [.int t, .int b] ∧ b.natAbs < 2 ^ 200 ∧
  (b ≠ 0 → ∀ p, H p = none → Q (.ref p) (upd H p (fr (low t b)))) ∧
  (b = 0 → ∀ d, H d = none → E (.ref CQ) (some d) (upd H d (.xd [(("at" : Str), .int 1)])))
/-- a def of two fractions -/
def spBin (f : Int → Int → Int → Int → Int × Int) : Sp := fun vs H Q _ => ∃ (a b : Addr) (a0 a1 b0 b1 : Int), vs = [.ref a, .ref b] ∧
  H a = some (fr (a0, a1)) ∧ H b = some (fr (b0, b1)) ∧ a0.natAbs < 2 ^ 60 ∧ a1.natAbs < 2 ^ 60 ∧ b0.natAbs < 2 ^ 60 ∧ b1.natAbs < 2 ^ 60 ∧
  a1 ≠ 0 ∧ b1 ≠ 0 ∧ ∀ p, H p = none → Q (.ref p) (upd H p (fr (f a0 a1 b0 b1)))
def fAdd (a0 a1 b0 b1 : Int) : Int × Int := low (a0 * b1 + b0 * a1) (a1 * b1)
def fSub (a0 a1 b0 b1 : Int) : Int × Int := low (a0 * b1 - b0 * a1) (a1 * b1)
def fMul (a0 a1 b0 b1 : Int) : Int × Int := low (a0 * b0) (a1 * b1)
def spComp : Sp := fun vs H Q _ => ∃ (a b : Addr) (a0 a1 b0 b1 : Int), vs = [.ref a, .ref b] ∧
  H a = some (fr (a0, a1)) ∧ H b = some (fr (b0, b1)) ∧ a0.natAbs < 2 ^ 60 ∧ a1.natAbs < 2 ^ 60 ∧ b0.natAbs < 2 ^ 60 ∧ b1.natAbs < 2 ^ 60 ∧
  Q (.int (if a0 * b1 < b0 * a1 then -1 else if a0 * b1 > b0 * a1 then 1 else 0)) H
theorem iteT' {A B : Prop} {c : Bool} (h : c = true) (a : A) : if c = true then A else B := by rw [if_pos h]; exact a
theorem iteF' {A B : Prop} {c : Bool} (h : c = false) (b : B) : if c = true then A else B := by rw [h]; exact iteF b
/-! ### the numbers -/
theorem gcd_le {t b : Int} (hb : b ≠ 0) : (gcdI t b).natAbs ≤ b.natAbs := by
  show Nat.gcd t.natAbs b.natAbs ≤ b.natAbs
  exact Nat.le_of_dvd (by omega) (Nat.gcd_dvd_right ..)
theorem gcd_pos {t b : Int} (hb : b ≠ 0) : 0 < gcdI t b := by
  have : 0 < Nat.gcd t.natAbs b.natAbs := Nat.gcd_pos_of_pos_right _ (by omega)
  show (0 : Int) < ((Nat.gcd t.natAbs b.natAbs : Nat) : Int)
  omega
theorem sgcd_ok {t b : Int} (hb : b ≠ 0) (h : b.natAbs < 2 ^ 200) (i : Int) : CDivA i (sgcd t b) := by
  have h1 := gcd_pos (t := t) hb
  have h2 := gcd_le (t := t) hb
  have hs : (sgcd t b).natAbs = (gcdI t b).natAbs := by
    unfold sgcd
    split
    · exact Int.natAbs_neg _
    · rfl
  refine ⟨?_, ?_⟩
  · intro z
    rw [z] at hs
    have : (gcdI t b).natAbs = 0 := hs.symm
    omega
  · exact Nat.lt_of_lt_of_le (PySem.Flt.log2_lt_of (by decide) (show (sgcd t b).natAbs < 2 ^ 200 by rw [hs]; exact Nat.lt_of_le_of_lt h2 h)) (by decide)
/-! ### scopes -/
theorem scInt : FnScope ["value"] ["value"] (defScope sIsInt) := ⟨rfl, rfl, rfl, by decide +kernel, rfl, by decide +kernel, by decide +kernel⟩
theorem scTup : FnScope ["value", "length"] ["value", "length"] (defScope sIsTup) := ⟨rfl, rfl, rfl, by decide +kernel, rfl, by decide +kernel, by decide +kernel⟩
theorem scFrac : FnScope ["value", "top", "bottom"] ["value"] (defScope sIsFrac) := ⟨rfl, rfl, rfl, by decide +kernel, rfl, by decide +kernel, by decide +kernel⟩
theorem scMade : FnScope ["top", "bottom", "common"] ["top", "bottom"] (defScope sMade) := ⟨rfl, rfl, rfl, by decide +kernel, rfl, by decide +kernel, by decide +kernel⟩
theorem scAdded : FnScope ["one", "other"] ["one", "other"] (defScope sAdded) := ⟨rfl, rfl, rfl, by decide +kernel, rfl, by decide +kernel, by decide +kernel⟩
theorem scLess : FnScope ["one", "other"] ["one", "other"] (defScope sLess) := ⟨rfl, rfl, rfl, by decide +kernel, rfl, by decide +kernel, by decide +kernel⟩
theorem scTimes : FnScope ["one", "other"] ["one", "other"] (defScope sTimes) := ⟨rfl, rfl, rfl, by decide +kernel, rfl, by decide +kernel, by decide +kernel⟩
theorem scComp : FnScope ["one", "other", "left", "right"] ["one", "other"] (defScope sComp) := ⟨rfl, rfl, rfl, by decide +kernel, rfl, by decide +kernel, by decide +kernel⟩
section
variable {P : Program} {w : World} {K : PySem.W.Frag} {mg : Str → Option Value} {base : Heap} {CQ fI : Addr}
theorem ok_int {f : Addr} {fd : FuncData} (F : Fun K "is_integer" "is_integer" sIsInt f fd) (gI : mg "isinstance" = none)
    (gi : mg "int" = none) (gb : mg "bool" = none) : FnOk P w K mg base CX0 1 f fd ["value"] (spIsInt K) := by
  refine F.ok scInt (fun vs H Q E h => ?_) fun cdv A outer s H vs Q E hr h => ⟨_, pss_one (ps_ret (pe_and
      (pe_callB call_isi (by rfl) gI (by decide +kernel) (by exact pa_cons (pv 0) (pa_cons (pe_bltn (v := .ty "int") rfl gi (by decide +kernel) rfl) pa_nil)))
      (pe_one (pe_not (pe_callB call_isi (by rfl) gI (by decide +kernel)
        (by exact pa_cons (pv 0) (pa_cons (pe_bltn (v := .ty "bool") rfl gb (by decide +kernel) rfl) pa_nil))))))), ?_⟩
  · obtain ⟨x, o, rfl, _⟩ := h
    rfl
  · obtain ⟨x, o, rfl, hk, hQ⟩ := h
    obtain ⟨n, b1, b2, ty, k1, k2, e⟩ := hk.ty
    refine ⟨_, rfl, x, .ty "int", _, _, b1, rfl, .ty "int", ty, kit_ty k1, b1, rfl, ?_⟩
    rw [← e] at hQ
    cases b1 with
    | false => exact iteF hQ
    | true => exact iteT ⟨_, rfl, x, .ty "bool", _, _, b2, rfl, .ty "bool", ty, kit_ty k2, b2, rfl, hQ⟩
theorem ok_tup {f : Addr} {fd : FuncData} (F : Fun K "is_tuple_of" "is_tuple_of" sIsTup f fd) (gI : mg "isinstance" = none)
    (gt : mg "tuple" = none) (gl : mg "len" = none) : FnOk P w K mg base CX0 1 f fd ["value", "length"] (spIsTup K) := by
  refine F.ok scTup (fun vs H Q E h => ?_) fun cdv A outer s H vs Q E hr h => ⟨_, pss_one (ps_ret (pe_and
      (pe_callB call_isi (by rfl) gI (by decide +kernel) (by exact pa_cons (pv 0) (pa_cons (pe_bltn (v := .ty "tuple") rfl gt (by decide +kernel) rfl) pa_nil)))
      (pe_one (pe_cmpR op_eq (pe_callB call_len_seq (by rfl) gl (by decide +kernel) (by exact pa_cons (pv 0) pa_nil)) (pv 1) (nomark _))))), ?_⟩
  · obtain ⟨x, k, n, b, rfl, _⟩ := h
    rfl
  · obtain ⟨x, k, n, b, rfl, ty, k1, hQ⟩ := h
    refine ⟨_, rfl, x, .ty "tuple", _, _, b, rfl, .ty "tuple", ty, kit_ty k1, b, rfl, ?_⟩
    cases b with
    | false => exact iteF hQ
    | true =>
      obtain ⟨a, xs, rfl, ha, q⟩ := hQ
      exact iteT ⟨_, rfl, a, xs, rfl, Or.inr (SqT.of ha), _, rfl, rfl, q⟩
theorem ok_made {f : Addr} {fd : FuncData} (F : Fun K "made" "made" sMade f fd) (T : PySem.ErrX.ErrTxt K mg "InvalidQuestion" "InvalidQuestion.__init__" CQ fI)
    (gg : mg "gcd" = some (.builtin "math.gcd")) : FnOk P w K mg base (L2.CX P w) 3 f fd ["top", "bottom"] (spMade CQ) := by
  refine F.okX scMade (fun vs H Q E h => ?_) fun cdv A outer s H vs Q E hr h => ⟨_,
    pss_cons (ps_if (pt_cmpR op_eq (pv 1) pe_int (nomark _)) (pss_one (ps_raiseErrZ rfl T hr (takes_of rfl rfl rfl rfl) (by exact pa_cons pe_int pa_nil))) pss_nil)
    (pss_cons (ps_set (i := 2) scMade.nd rfl (.inl rfl) (pe_callBfun cr_gcd (by rfl) gg (pa_cons (pv 0) (pa_cons (pv 1) pa_nil))))
    (pss_cons (ps_if (pt_cmpR op_lt (pv 1) pe_int (nomark _)) (pss_one (ps_set (i := 2) scMade.nd rfl (.inl rfl) (pe_un un_neg (pv 2)))) pss_nil)
    (pss_one (ps_ret (pe_tup (pa_cons (pe_op op_fdivA (pv 0) (pv 2)) (pa_cons (pe_op op_fdivA (pv 1) (pv 2)) pa_nil))))))), ?_⟩
  · obtain ⟨t, b, rfl, _⟩ := h
    rfl
  · obtain ⟨t, b, rfl, hb, hQ, hE⟩ := h
    refine ⟨.int b, rfl, rfl, _, rfl, ?_⟩
    by_cases z : b = 0
    · refine iteT' (by rw [z]; decide) ?_
      exact ⟨_, rfl, fun d hd => hE z d hd⟩
    · refine iteF' (by simpa using z) ?_
      refine ⟨.int t, rfl, .int b, rfl, t, b, rfl, .int b, rfl, b, 0, rfl, rfl, _, rfl, ?_⟩
      have fin : sgcd t b = (if b < 0 then -gcdI t b else gcdI t b) := rfl
      by_cases hn : b < 0
      · rw [if_pos hn] at fin
        refine iteT' (decide_eq_true hn) ⟨.int (gcdI t b), rfl, _, rfl, .int t, rfl, .int (-gcdI t b), rfl, t, -gcdI t b, rfl, rfl, fin ▸ sgcd_ok z hb t, .int b, rfl, .int (-gcdI t b), rfl, b, -gcdI t b, rfl, rfl, fin ▸ sgcd_ok z hb b, by show 2 ≤ sizeLine; decide, fun p hp => ?_⟩
        have q := hQ z p hp
        unfold low at q
        rw [fin] at q
        exact q
      · rw [if_neg hn] at fin
        refine iteF' (decide_eq_false hn) ⟨.int t, rfl, .int (gcdI t b), rfl, t, gcdI t b, rfl, rfl, fin ▸ sgcd_ok z hb t, .int b, rfl, .int (gcdI t b), rfl, b, gcdI t b, rfl, rfl, fin ▸ sgcd_ok z hb b, by show 2 ≤ sizeLine; decide, fun p hp => ?_⟩
        have q := hQ z p hp
        unfold low at q
        rw [fin] at q
        exact q
end
end K01

namespace K01
open PySem PySem.Spec PyProof.Rows L2 KX
abbrev sDraw : Stmt := top 15
abbrev sAny : Stmt := top 16
abbrev sOf : Stmt := top 17
/-! ### the deal -/
structure DealAt (H : Hp) (p q : Addr) (ns : List Int) (b : Int) : Prop where
  hp : H p = some (.lst [.ref q, .int b])
  hq : H q = some (.lst (ns.map V.int))
  ne : p ≠ q
  nn : ∀ n ∈ ns, 0 ≤ n
  len : ns.length ≤ 48
  b0 : 0 ≤ b
  b1 : b < 2147483647
def Deal (H : Hp) (p q : Addr) : Prop := ∃ ns b, DealAt H p q ns b
/-- all but the deal's two lists stays -/
def Fix (p q : Addr) (H H' : Hp) : Prop := ∀ a o, a ≠ p → a ≠ q → H a = some o → H' a = some o
theorem Fix.refl (p q : Addr) (H : Hp) : Fix p q H H := fun _ _ _ _ h => h
theorem Fix.trans {p q : Addr} {H H1 H2 : Hp} (a : Fix p q H H1) (b : Fix p q H1 H2) : Fix p q H H2 := fun c o h1 h2 h => b c o h1 h2 (a c o h1 h2 h)
theorem Fix.same {p q : Addr} {H H' : Hp} (s : Same H H') : Fix p q H H' := fun c o _ _ h => s c o h
theorem Fix.new {p q a : Addr} {H : Hp} {o : HO} (n : H a = none) : Fix p q H (upd H a o) := fun c u _ _ h => by
  rw [upd_ne (fun z => by rw [z, n] at h; cases h)]; exact h
theorem Fix.p {p q : Addr} {H : Hp} {o : HO} : Fix p q H (upd H p o) := fun c u h1 _ h => by rw [upd_ne h1]; exact h
theorem Fix.q {p q : Addr} {H : Hp} {o : HO} : Fix p q H (upd H q o) := fun c u _ h2 h => by rw [upd_ne h2]; exact h
theorem DealAt.new {H : Hp} {p q a : Addr} {ns : List Int} {b : Int} {o : HO} (d : DealAt H p q ns b) (n : H a = none) : DealAt (upd H a o) p q ns b :=
  ⟨by rw [upd_ne (fun z => by have := d.hp; rw [z, n] at this; cases this)]; exact d.hp,
   by rw [upd_ne (fun z => by have := d.hq; rw [z, n] at this; cases this)]; exact d.hq, d.ne, d.nn, d.len, d.b0, d.b1⟩
theorem DealAt.toq {H : Hp} {p q : Addr} {ns ms : List Int} {b : Int} (d : DealAt H p q ns b) (hn : ∀ n ∈ ms, 0 ≤ n) (hl : ms.length ≤ 48) :
    DealAt (upd H q (.lst (ms.map V.int))) p q ms b :=
  ⟨by rw [upd_ne d.ne]; exact d.hp, upd_same, d.ne, hn, hl, d.b0, d.b1⟩
theorem DealAt.top {H : Hp} {p q : Addr} {ns : List Int} {b c : Int} (d : DealAt H p q ns b) (h0 : 0 ≤ c) (h1 : c < 2147483647) :
    DealAt (upd H p (.lst [.ref q, .int c])) p q ns c :=
  ⟨upd_same, by rw [upd_ne (Ne.symm d.ne)]; exact d.hq, d.ne, d.nn, d.len, h0, h1⟩
theorem Deal.same {H H' : Hp} {p q : Addr} (d : Deal H p q) (s : Same H H') : Deal H' p q := by
  obtain ⟨ns, b, d⟩ := d
  exact ⟨ns, b, s _ _ d.hp, s _ _ d.hq, d.ne, d.nn, d.len, d.b0, d.b1⟩
def spAny : Sp := fun vs H Q _ => ∃ (p q : Addr) (m : Int), vs = [.ref p, .int m] ∧ Deal H p q ∧ 0 < m ∧ m < 1073741824 ∧
  ∀ H' i, Deal H' p q → Fix p q H H' → 0 ≤ i → i < m → Q (.int i) H'
def spOf (K : PySem.W.Frag) : Sp := fun vs H Q _ => ∃ (p q a : Addr) (xs : List V), vs = [.ref p, .ref a] ∧ Deal H p q ∧ a ≠ p ∧ a ≠ q ∧ H a = some (.lst xs) ∧
  0 < xs.length ∧ xs.length < 1000 ∧ ∀ H' x, x ∈ xs → Deal H' p q → Fix p q H H' → Q x H'
theorem scDraw : FnScope ["script", "salt", "cells", "blend", "cell"] ["script", "salt"] (defScope sDraw) := ⟨rfl, rfl, rfl, by decide +kernel, rfl, by decide +kernel, by decide +kernel⟩
theorem scAny : FnScope ["deal", "bound", "rest"] ["deal", "bound"] (defScope sAny) := ⟨rfl, rfl, rfl, by decide +kernel, rfl, by decide +kernel, by decide +kernel⟩
theorem scOf : FnScope ["deal", "some"] ["deal", "some"] (defScope sOf) := ⟨rfl, rfl, rfl, by decide +kernel, rfl, by decide +kernel, by decide +kernel⟩
/-! data of a list of ints -/
theorem dpAll_ints (K : PySem.W.Frag) (H : Hp) : ∀ ns : List Int, DpAll K H (ns.map V.int) (ns.map PyData.int)
  | [] => .nil
  | n :: ns => .cons (.int n) (dpAll_ints K H ns)
theorem dp_ints {K : PySem.W.Frag} {H : Hp} {a : Addr} {ns : List Int} (h : H a = some (.lst (ns.map V.int))) : Dp K H (.ref a) (.list (ns.map PyData.int)) :=
  .lst (SqL.of h) (dpAll_ints K H ns)
theorem lay_ints : ∀ ns : List Int, PyData.canLayAll0 (ns.map PyData.int) = true
  | [] => rfl
  | n :: ns => by
    show (PyData.canLay0 (.int n) && PyData.canLayAll0 (ns.map PyData.int)) = true
    rw [lay_ints ns]; rfl
theorem dep_ints : ∀ ns : List Int, PyData.depthAll (ns.map PyData.int) ≤ 1
  | [] => by decide
  | n :: ns => by
    have h := dep_ints ns
    show max (PyData.depth (.int n)) (PyData.depthAll (ns.map PyData.int)) ≤ 1
    have h1 : PyData.depth (.int n) = 0 := rfl
    rw [h1]; omega
theorem sh_ints (ns : List Int) : SeqAt.shaped (.list (ns.map PyData.int)) = true := by
  have h := dep_ints ns
  have h1 : PyData.depth (.list (ns.map PyData.int)) = PyData.depthAll (ns.map PyData.int) + 1 := rfl
  unfold SeqAt.shaped
  have h2 : PyData.canLay0 (.list (ns.map PyData.int)) = PyData.canLayAll0 (ns.map PyData.int) := rfl
  rw [h2, lay_ints, h1, Bool.true_and]
  exact decide_eq_true (by omega)
theorem ne_nil_ints (ns : List Int) : PyData.eqv (.list (ns.map PyData.int)) (.list ([] : List PyData)) = decide (ns = []) := by
  cases ns <;> rfl
section
variable {P : Program} {w : World} {K : PySem.W.Frag} {mg : Str → Option Value} {base : Heap}
theorem ok_any {f : Addr} {fd : FuncData} (F : Fun K "_law_any" "_law_any" sAny f fd) (gi : mg "int" = none) : FnOk P w K mg base CX0 1 f fd ["deal", "bound"] spAny := by
  refine F.ok scAny (fun vs H Q E h => ?_) fun cdv A outer s H vs Q E hr h => ⟨_, 
    pss_cons (ps_while PassesOwn.never (PW.pt (pw_and (pt_cmpR (op_neD hr.units) (pe_ix ix_list (pv 0) pe_int (fun _ _ => rfl)) (pe_lst pa_nil) (nomark _))
        (pw_and1 (pt_cmpR op_eq (pe_ix ix_list (pe_ix ix_list (pv 0) pe_int (fun _ _ => rfl)) (pe_un un_neg pe_int) (fun _ _ => rfl)) pe_int (nomark _)))))
      (pss_one (ps_expr (pe_bm0 PySem.F.plainAttrs_list PySem.F.slot_list_pop PySem.F.type_list_pop mt_pop (pe_ix ix_list (pv 0) pe_int (fun _ _ => rfl))))))
    (pss_cons (ps_if (pt_cmpR (op_neD hr.units) (pe_ix ix_list (pv 0) pe_int (fun _ _ => rfl)) (pe_lst pa_nil) (nomark _))
      (pss_cons (ps_set (i := 2) scAny.nd rfl (.inl rfl) (pe_callTy call_int1 (by rfl) gi (by decide +kernel)
          (pa_cons (pe_bm0 PySem.F.plainAttrs_list PySem.F.slot_list_pop PySem.F.type_list_pop mt_pop (pe_ix ix_list (pv 0) pe_int (fun _ _ => rfl))) pa_nil)))
        (pss_cons (ps_expr (pe_bm PySem.F.plainAttrs_list PySem.F.slot_list_append PySem.F.type_list_append mt_append (pe_ix ix_list (pv 0) pe_int (fun _ _ => rfl))
            (pa_cons (pe_op op_fdiv (pv 2) (pv 1)) pa_nil)))
          (pss_one (ps_ret (pe_op op_mod (pv 2) (pv 1)))))) pss_nil)
    (pss_cons (ps_asg (pe_op op_mod (pe_callTy call_int1 (by rfl) gi (by decide +kernel) (pa_cons (pe_op op_add (pe_op op_mul (pe_ix ix_list (pv 0) pe_int (fun _ _ => rfl)) pe_int) pe_int) pa_nil)) pe_int)
        (pg_sub (pv 0) pe_int set_list))
    (pss_one (ps_ret (pe_op op_mod (pe_callTy call_int1 (by rfl) gi (by decide +kernel) (pa_cons (pe_op op_fdiv (pe_ix ix_list (pv 0) pe_int (fun _ _ => rfl)) pe_int) pa_nil)) (pv 1)))))), ?_⟩
  · obtain ⟨p, q, m, rfl, _⟩ := h
    rfl
  · obtain ⟨p, q, m, rfl, ⟨ns, b, d⟩, hm0, hm1, hQ⟩ := h
    refine ⟨fun n σ H' => σ = L2.start ["deal", "bound", "rest"] [.ref p, .int m] ∧ ∃ ns b, DealAt H' p q ns b ∧ Fix p q H H' ∧ n = ns.length, ⟨_, rfl, ns, b, d, Fix.refl _ _ _, rfl⟩, ?_⟩
    rintro n σ H' ⟨rfl, ns, b, d, fx, rfl⟩
    have d1 : ∀ e, H' e = none → DealAt (upd H' e (.lst [])) p q ns b := fun e he => d.new he
    have qe : ∀ e, H' e = none → q ≠ e := fun e he z => by have := d.hq; rw [z, he] at this; cases this
    refine ⟨.ref p, rfl, p, [.ref q, .int b], 0, .ref q, rfl, rfl, SqL.of d.hp, rfl, by show 0 ≤ sizeLine; decide, fun e he => ?_⟩
    refine ⟨_, _, dp_ints (d1 e he).hq, .lst (ds := []) (SqL.of upd_same) .nil, sh_ints ns, by decide, _, rfl, ?_⟩
    rw [ne_nil_ints]
    have fx1 : Fix p q H (upd H' e (.lst [])) := fx.trans (Fix.new he)
    have D1 := d1 e he
    generalize hG : upd H' e (.lst []) = H1 at D1 fx1
    clear hG d d1 qe he fx
    rcases List.eq_nil_or_concat ns with hn | ⟨init, l, hn⟩
    · subst hn
      refine iteF ?_
      refine ⟨.ref p, rfl, p, [.ref q, .int b], 0, .ref q, rfl, rfl, SqL.of D1.hp, rfl, by show 0 ≤ sizeLine; decide, fun e he => ?_⟩
      refine ⟨_, _, dp_ints (D1.new he).hq, .lst (ds := []) (SqL.of upd_same) .nil, sh_ints [], by decide, _, rfl, ?_⟩
      rw [ne_nil_ints]
      refine iteF ?_
      have D2 := D1.new (o := .lst []) he
      have fx2 : Fix p q H (upd H1 e (.lst [])) := fx1.trans (Fix.new he)
      generalize upd H1 e (.lst []) = H2 at D2 fx2
      have D3 := D2.top (c := (b * 40693 + 71) % 2147483647) (Int.emod_nonneg _ (by decide)) (Int.emod_lt_of_pos _ (by decide))
      have fx3 : Fix p q H (upd H2 p (.lst [.ref q, .int ((b * 40693 + 71) % 2147483647)])) := fx2.trans Fix.p
      refine ⟨.ref p, rfl, p, [.ref q, .int b], 1, .int b, rfl, rfl, SqL.of D2.hp, rfl, b, 40693, rfl, rfl, .inr ⟨by decide, by decide⟩, ?_⟩
      refine ⟨_, _, rfl, rfl, .inl ⟨_, rfl, _, _, rfl, rfl, (by decide : (0 : Int) < 2147483647), ?_⟩⟩
      refine ⟨.ref p, rfl, p, [.ref q, .int b], 1, 1, rfl, rfl, D2.hp, rfl, ?_⟩
      refine ⟨.ref p, rfl, p, [.ref q, .int _], 1, .int _, rfl, rfl, SqL.of D3.hp, rfl, _, 64, rfl, rfl, ⟨by decide, by decide⟩, .inl ⟨_, rfl, .int m, rfl, _, m, rfl, rfl, hm0, ?_⟩⟩
      exact hQ _ _ ⟨_, _, D3⟩ fx3 (Int.emod_nonneg _ (by omega)) (Int.emod_lt_of_pos _ hm0)
    · have hn : ns = init ++ [l] := by simpa using hn
      subst hn
      have nz : decide (init ++ [l] = ([] : List Int)) = false := by simp
      rw [nz]
      refine iteT ?_
      have hml : (init ++ [l]).map V.int = init.map V.int ++ [V.int l] := by simp
      have hpop : (init.map V.int ++ [V.int l])[(init.map V.int ++ [V.int l]).length - 1]? = some (V.int l) := by simp
      have hdl : (init.map V.int ++ [V.int l]).dropLast = init.map V.int := by simp
      have l0 : 0 ≤ l := D1.nn l (by simp)
      have len := D1.len
      have len' : init.length + 1 ≤ 48 := by simpa using len
      have hq := D1.hq
      rw [hml] at hq
      refine ⟨.ref p, rfl, p, [.ref q, .int b], 0, .ref q, rfl, rfl, SqL.of D1.hp, rfl, 1, rfl, q, _, -1, V.int l, rfl, rfl, SqL.of hq, atI_last _ _, rfl, _, rfl, ?_⟩
      by_cases hl : l = 0
      · have e1 : decide (V.int l = V.int 0) = true := by rw [hl]; decide
        refine iteT' e1 ?_
        refine ⟨fun σ' H'' => σ' = L2.start ["deal", "bound", "rest"] [.ref p, .int m] ∧ ∃ ns b, DealAt H'' p q ns b ∧ Fix p q H H'' ∧ ns.length = init.length, fun σ' H'' ⟨e, ns, b, h1, h2, h3⟩ => ⟨_, by simpa [h3] using Nat.lt_succ_self init.length, e, ns, b, h1, h2, rfl⟩, ?_⟩
        refine ⟨.ref p, rfl, p, [.ref q, .int b], 0, .ref q, rfl, rfl, SqL.of D1.hp, rfl, .inl ⟨rfl, _, SqL.of hq⟩, q, _, .int l, rfl, rfl, hq, hpop, ?_⟩
        rw [hdl]
        exact ⟨rfl, init, b, D1.toq (fun n hn => D1.nn n (by simp [hn])) (by omega), fx1.trans Fix.q, rfl⟩
      · have e1 : decide (V.int l = V.int 0) = false := by simpa using hl
        refine iteF' e1 ?_
        refine ⟨.ref p, rfl, p, [.ref q, .int b], 0, .ref q, rfl, rfl, SqL.of D1.hp, rfl, by show 0 ≤ sizeLine; decide, fun e he => ?_⟩
        have D2 := D1.new (o := .lst []) he
        refine ⟨_, _, dp_ints D2.hq, .lst (ds := []) (SqL.of upd_same) .nil, sh_ints _, by decide, _, rfl, ?_⟩
        rw [ne_nil_ints, nz]
        refine iteT ?_
        have fx2 : Fix p q H (upd H1 e (.lst [])) := fx1.trans (Fix.new he)
        generalize upd H1 e (.lst []) = H2 at D2 fx2
        have hq2 := D2.hq
        rw [hml] at hq2
        have D3 : DealAt (upd H2 q (.lst (init.map V.int))) p q init b := D2.toq (fun n hn => D1.nn n (by simp [hn])) (by omega)
        have D4 : DealAt (upd (upd H2 q (.lst (init.map V.int))) q (.lst ((init ++ [l / m]).map V.int))) p q (init ++ [l / m]) b := D3.toq (fun n hn => by
          rcases List.mem_append.mp hn with h | h
          · exact D1.nn n (by simp [h])
          · rw [List.mem_singleton.mp h]; exact Int.ediv_nonneg l0 (by omega)) (by simpa using len')
        refine ⟨.ref p, rfl, p, [.ref q, .int b], 0, .ref q, rfl, rfl, SqL.of D2.hp, rfl, .inl ⟨rfl, _, SqL.of hq2⟩, q, _, .int l, rfl, rfl, hq2, hpop, .inl ⟨l, rfl, ?_⟩⟩
        rw [hdl]
        refine ⟨.ref p, rfl, p, [.ref q, .int b], 0, .ref q, rfl, rfl, SqL.of D3.hp, rfl, .inl ⟨rfl, _, SqL.of upd_same⟩, .int l, rfl, .int m, rfl, l, m, rfl, rfl, ⟨hm0, hm1⟩, q, _, _, rfl, rfl, upd_same, ?_, ?_⟩
        · rw [List.length_map]; exact Nat.lt_of_lt_of_le (by omega : init.length < 48) (by decide)
        have ha : init.map V.int ++ [V.int (l / m)] = (init ++ [l / m]).map V.int := by simp
        rw [ha]
        refine ⟨.int l, rfl, .int m, rfl, l, m, rfl, rfl, hm0, ?_⟩
        exact hQ _ _ ⟨_, _, D4⟩ (fx2.trans (Fix.q.trans Fix.q)) (Int.emod_nonneg _ (by omega)) (Int.emod_lt_of_pos _ hm0)
theorem ok_of {f fA : Addr} {fd fdA : FuncData} (F : Fun K "_law_of" "_law_of" sOf f fd) (FA : Fun K "_law_any" "_law_any" sAny fA fdA) (gA : mg "_law_any" = some (.ref fA))
    (gi : mg "int" = none) (gl : mg "len" = none) : FnOk P w K mg base CX0 2 f fd ["deal", "some"] (spOf K) := by
  refine F.ok scOf (fun vs H Q E h => ?_) fun cdv A outer s H vs Q E hr h => ⟨_, pss_one (ps_ret (pe_ix ix_list (pv 1)
    (pe_call (ok_any FA gi) hr (by rfl) gA FA.kp (FA.binds fun _ _ _ _ _ _ us hl => match us, hl with | [_, _], _ => rfl) .nil pass0 (pa_cons (pv 0) (pa_cons (pe_callB call_len_seq (by rfl) gl (by decide +kernel) (by exact pa_cons (pv 1) pa_nil)) pa_nil))) (fun _ _ => rfl))), ?_⟩
  · obtain ⟨p, q, a, xs, rfl, _⟩ := h
    rfl
  · obtain ⟨p, q, a, xs, rfl, d, n1, n2, ha, h0, h1, hQ⟩ := h
    refine ⟨.ref a, rfl, .ref p, rfl, .ref a, rfl, a, xs, rfl, Or.inl (SqL.of ha), p, q, _, rfl, d, by omega, by omega, fun H' i d' fx i0 i1 => ?_⟩
    obtain ⟨n, rfl⟩ := Int.eq_ofNat_of_zero_le i0
    have hn : n < xs.length := by omega
    exact ⟨a, xs, n, xs[n], rfl, rfl, SqL.of (fx a _ n1 n2 ha), atI_nat (List.getElem?_eq_getElem hn), hQ H' _ (List.getElem_mem hn) d' fx⟩
end
end K01

namespace K01
open PySem PySem.Spec PyProof.Rows L2 KX
def spDraw (K : PySem.W.Frag) : Sp := fun vs H Q _ => ∃ (a : Addr) (ns : List Int) (t : Int), vs = [.ref a, .int t] ∧ SqL K H a (ns.map V.int) ∧ 0 ≤ t ∧ t < 10000 ∧
  ∀ H' p q, Same H H' → H p = none → H q = none → Deal H' p q → Q (.ref p) H'
theorem cut48 (ns : List Int) : ∃ ms : List Int, cutV (ns.map V.int) none (some 48) = ms.map V.int ∧ ms.length ≤ 48 := by
  refine ⟨(ns.drop 0).take (HT.sIx ns.length ns.length (some 48) - 0), ?_, ?_⟩
  · unfold cutV
    rw [List.length_map, HT.sIx_none, List.map_take, List.map_drop]
  · rw [List.length_take]
    have : HT.sIx ns.length ns.length (some ((48 : Nat) : Int)) = min 48 ns.length := HT.sIx_nat _ _ 48
    have h2 : (some ((48 : Nat) : Int) : Option Int) = some 48 := rfl
    rw [h2] at this
    rw [this]
    omega
theorem Same.new {H : Hp} {a : Addr} {o : HO} (n : H a = none) : Same H (upd H a o) := fun b u h => by
  rw [upd_ne (fun z => by rw [z, n] at h; cases h)]; exact h
section
variable {P : Program} {w : World} {K : PySem.W.Frag} {mg : Str → Option Value} {base : Heap}
theorem ok_draw {f : Addr} {fd : FuncData} (F : Fun K "_law_draw" "_law_draw" sDraw f fd) (gi : mg "int" = none) (gab : mg "abs" = none) :
    FnOk P w K mg base CX0 1 f fd ["script", "salt"] (spDraw K) := by
  refine F.ok scDraw (fun vs H Q E h => ?_) fun cdv A outer s H vs Q E hr h => ⟨_,
    pss_cons (ps_setLc (i := 2) (own := [("cell", 4)]) (g := gName 4) (tt := tYes) rfl scDraw.nd rfl rfl (sw_true rfl rfl rfl (by decide +kernel)) (pi_list (pe_slice sl_list (pv 0) po_none (po_some pe_int)))
        (blkOk_by (N := ["script", "salt", "cells", "blend", "cell"]) (sc := defScope sDraw) (by decide +kernel)) (fun _ _ _ _ _ => pg_name (i := 4) scDraw.nd rfl (Or.inl rfl)) (fun _ _ _ _ _ => pts_nil)
        (fun _ _ _ _ _ => pe_callB call_abs (by rfl) gab (by decide +kernel) (pa_cons (pe_callTy call_int1 (by rfl) gi (by decide +kernel) (pa_cons (pv 4) pa_nil)) pa_nil)))
    (pss_cons (ps_set (i := 3) scDraw.nd rfl (.inl rfl) (pe_op op_add pe_int (pe_op op_mul pe_int (pv 1))))
    (pss_cons (ps_for PassesOwn.never rfl (pi_list (pv 2)) (pg_name (i := 4) scDraw.nd rfl (Or.inl rfl))
      (pss_one (ps_set (i := 3) scDraw.nd rfl (.inl rfl) (pe_op op_mod (pe_callTy call_int1 (by rfl) gi (by decide +kernel)
        (pa_cons (pe_op op_add (pe_op op_add (pe_op op_mul (pv 3) pe_int) (pe_op op_mod (pv 4) pe_int)) pe_int) pa_nil)) pe_int))))
    (pss_one (ps_ret (pe_lst (pa_cons (pe_revL (pe_lc (own := [("cell", 4)]) (g := gName 4) (by rfl) scDraw.nd (pi_list (pv 2))
        (blkOk_by (own := [("cell", 4)]) (N := ["script", "salt", "cells", "blend", "cell"]) (sc := defScope sDraw) (by decide +kernel)) (fun _ _ _ _ _ => pg_name (i := 4) scDraw.nd rfl (Or.inl rfl))
        (fun _ _ _ _ _ => pts_one (pt_cmpR op_ge (pv 4) (pe_op op_pow pe_int pe_int) (nomark _))) (fun _ _ _ _ _ => pv 4))) (pa_cons (pv 3) pa_nil))))))), ?_⟩
  · obtain ⟨a, ns, t, rfl, _⟩ := h
    rfl
  · obtain ⟨a, ns, t, rfl, ha, t0, t1, hQ⟩ := h
    obtain ⟨ms, hms, hlen⟩ := cut48 ns
    refine ⟨.ref a, rfl, 48, rfl, a, _, rfl, ha, fun c hc => ?_⟩
    rw [hms]
    have S1 : Same H (upd H c (.lst (ms.map V.int))) := Same.new hc
    have h1 : upd H c (.lst (ms.map V.int)) c = some (.lst (ms.map V.int)) := upd_same
    generalize upd H c (.lst (ms.map V.int)) = H1 at S1 h1
    refine ⟨c, rfl, ⟨_, SqL.of h1⟩, fun D hD => ?_⟩
    refine lc_list (xs := ms.map V.int) (fun i H' => Same H1 H' ∧ ∃ cs : List Int, H' D = some (.lst (cs.map V.int)) ∧ cs.length = i ∧ ∀ n ∈ cs, 0 ≤ n)
      ⟨Same.new hD, [], upd_same, rfl, by simp⟩ (fun i H' _ p => SqL.of (p.1 _ _ h1)) (fun i x H' hi p => ?_) (fun H' p => ?_)
    · obtain ⟨s1, cs, hc1, hl, h0⟩ := p
      have hi' := (List.getElem?_eq_some_iff.mp hi).1
      rw [List.length_map] at hi'
      rw [List.getElem?_map] at hi
      obtain ⟨n, _, rfl⟩ := Option.map_eq_some_iff.mp hi
      refine ⟨rfl, .int n, rfl, .inl ⟨n, rfl, n, rfl, cs.map V.int, hc1, ?_, ?_, cs ++ [if n < 0 then -n else n], ?_, ?_, ?_⟩⟩
      · rw [List.length_map]; exact Nat.lt_of_lt_of_le (by omega : cs.length < 48) (by decide)
      · exact fun b o h => by
          rw [upd_ne (fun z => ?_)]
          · exact s1 b o h
          · rw [z, hD] at h; cases h
      · rw [upd_same]; simp
      · simp [hl]
      · intro k hk
        rcases List.mem_append.mp hk with hk | hk
        · exact h0 k hk
        · rw [List.mem_singleton.mp hk]; split <;> omega
    · obtain ⟨s1, cs, hc1, hl, h0⟩ := p
      have hl : cs.length ≤ 48 := by rw [hl, List.length_map]; exact hlen
      have S2 := S1.trans s1
      have hDn : H D = none := S1.free hD
      refine ⟨.int t, rfl, 104729, t, rfl, rfl, .inl ⟨by decide, by decide⟩, 7919, _, rfl, rfl, ?_⟩
      refine ⟨.ref D, rfl, D, rfl, ⟨_, SqL.of hc1⟩, for_list (xs := cs.map V.int) (fun i σ H'' => H'' = H' ∧ ∃ b o, σ = [some (.ref a), some (.int t), some (.ref D), some (.int b), o] ∧ 0 ≤ b ∧ b < 2147483647)
        ⟨rfl, 7919 + 104729 * t, _, rfl, by omega, by omega⟩ (fun i σ H'' _ p => by rw [p.1]; exact SqL.of hc1) (fun i x σ H'' hi p => ?_) (fun σ H'' p => ?_)⟩
      · obtain ⟨rfl, b, o, rfl, b0, b1⟩ := p
        rw [List.getElem?_map] at hi
        obtain ⟨n, _, rfl⟩ := Option.map_eq_some_iff.mp hi
        refine ⟨.int b, rfl, b, 48271, rfl, rfl, .inr ⟨by decide, by decide⟩, .int n, rfl, n, 2147483549, rfl, rfl, (by decide : (0 : Int) < 2147483549), _, _, rfl, rfl, _, 11, rfl, rfl, .inl ⟨_, rfl, _, 2147483647, rfl, rfl, (by decide : (0 : Int) < 2147483647), ?_⟩⟩
        exact ⟨rfl, _, _, rfl, Int.emod_nonneg _ (by decide), Int.emod_lt_of_pos _ (by decide)⟩
      · obtain ⟨rfl, b, o, rfl, b0, b1⟩ := p
        refine ⟨.ref D, rfl, D, rfl, ⟨_, SqL.of hc1⟩, fun D2 hD2 => ?_⟩
        refine lc_list (xs := cs.map V.int) (fun i H2 => Same H'' H2 ∧ ∃ es : List Int, H2 D2 = some (.lst (es.map V.int)) ∧ es.length ≤ i ∧ ∀ n ∈ es, 0 ≤ n)
          ⟨Same.new hD2, [], upd_same, Nat.le_refl _, by simp⟩ (fun i H2 _ p => SqL.of (p.1 _ _ hc1)) (fun i x H2 hi p => ?_) (fun H2 p => ?_)
        · obtain ⟨s1, es, he1, hl, h0'⟩ := p
          have hi' := (List.getElem?_eq_some_iff.mp hi).1
          rw [List.length_map] at hi'
          rw [List.getElem?_map] at hi
          obtain ⟨n, hn, rfl⟩ := Option.map_eq_some_iff.mp hi
          have hmem := List.mem_of_getElem? hn
          refine ⟨rfl, .int n, rfl, 10, 18, rfl, rfl, ⟨by decide, by decide, by decide⟩, n, _, rfl, rfl, _, rfl, ?_⟩
          by_cases hb : decide ((10 : Int) ^ (18 : Int).toNat ≤ n) = true
          · refine iteT' hb ⟨.int n, rfl, es.map V.int, he1, ?_, ?_, es ++ [n], ?_, ?_, ?_⟩
            · rw [List.length_map]; exact Nat.lt_of_lt_of_le (by omega : es.length < 48) (by decide)
            · exact fun b o h => by
                rw [upd_ne (fun z => ?_)]
                · exact s1 b o h
                · rw [z, hD2] at h; cases h
            · rw [upd_same]; simp
            · simp; omega
            · intro k hk
              rcases List.mem_append.mp hk with hk | hk
              · exact h0' k hk
              · rw [List.mem_singleton.mp hk]; exact h0 n hmem
          · exact iteF' (by simpa using hb) ⟨s1, es, he1, by omega, h0'⟩
        · obtain ⟨s1, es, he1, hl2, h0'⟩ := p
          rw [List.length_map] at hl2
          refine ⟨D2, _, rfl, SqL.of he1, fun q hq => ?_⟩
          refine ⟨.int b, rfl, by show 2 ≤ sizeLine; decide, fun p hp => ?_⟩
          have S3 := (S2.trans s1).trans (Same.new (o := .lst (es.map V.int).reverse) hq)
          have hqp : p ≠ q := fun z => by rw [z, upd_same] at hp; cases hp
          refine hQ _ p q (S3.trans (Same.new hp)) ((S3).free hp) ((S2.trans s1).free hq) ⟨es.reverse, b, upd_same, ?_, hqp, fun n hn => h0' n (by simpa using hn), by simp; omega, b0, b1⟩
          rw [upd_ne (Ne.symm hqp), upd_same, List.map_reverse]
end
end K01

namespace K01
open PySem PySem.Spec PyProof.Rows L2 KX
theorem mul_lt {a b : Int} (h1 : a.natAbs < 2 ^ 60) (h2 : b.natAbs < 2 ^ 60) : (a * b).natAbs < 2 ^ 120 := by
  rw [Int.natAbs_mul]
  exact Nat.lt_of_lt_of_le (Nat.mul_lt_mul'' h1 h2) (by decide)
theorem cm {a b : Int} (h : a.natAbs < 2 ^ 60) : CMul a b := .inl ⟨by omega, by omega⟩
theorem mul_ne {a b : Int} (h1 : a ≠ 0) (h2 : b ≠ 0) : a * b ≠ 0 := Int.mul_ne_zero h1 h2
section
variable {P : Program} {w : World} {K : PySem.W.Frag} {mg : Str → Option Value} {base : Heap} {CQ fI fM : Addr} {fdM : FuncData}
def tix {X : Cx} : Prop := True
theorem ok_added {f : Addr} {fd : FuncData} (F : Fun K "added" "added" sAdded f fd) (M : FnOk P w K mg base (L2.CX P w) 3 fM fdM ["top", "bottom"] (spMade CQ))
    (FM : Fun K "made" "made" sMade fM fdM) (gM : mg "made" = some (.ref fM)) : FnOk P w K mg base CX0 4 f fd ["one", "other"] (spBin fAdd) := by
  refine F.ok scAdded (fun vs H Q E h => ?_) fun cdv A outer s H vs Q E hr h => ⟨_,
    pss_one (ps_ret (pe_call M hr (by rfl) gM FM.kp (FM.binds fun _ _ _ _ _ _ us hl => match us, hl with | [_, _], _ => rfl) .nil passL
      (pa_cons (pe_op op_add (pe_op op_mul (pe_ix ix_tup (pv 0) pe_int (fun _ _ => rfl)) (pe_ix ix_tup (pv 1) pe_int (fun _ _ => rfl))) (pe_op op_mul (pe_ix ix_tup (pv 1) pe_int (fun _ _ => rfl)) (pe_ix ix_tup (pv 0) pe_int (fun _ _ => rfl)))) (pa_cons (pe_op op_mul (pe_ix ix_tup (pv 0) pe_int (fun _ _ => rfl)) (pe_ix ix_tup (pv 1) pe_int (fun _ _ => rfl))) pa_nil)))), ?_⟩
  · obtain ⟨a, b, a0, a1, b0, b1, rfl, _⟩ := h
    rfl
  · obtain ⟨a, b, a0, a1, b0, b1, rfl, ha, hb, l0, l1, m0, m1, n1, n2, hQ⟩ := h
    exact ⟨.ref a, rfl, a, _, 0, .int a0, rfl, rfl, SqT.of ha, rfl, .ref b, rfl, b, _, 1, .int b1, rfl, rfl, SqT.of hb, rfl, a0, b1, rfl, rfl, cm l0, .ref b, rfl, b, _, 0, .int b0, rfl, rfl, SqT.of hb, rfl, .ref a, rfl, a, _, 1, .int a1, rfl, rfl, SqT.of ha, rfl, b0, a1, rfl, rfl, cm m0, _, _, rfl, rfl, .ref a, rfl, a, _, 1, .int a1, rfl, rfl, SqT.of ha, rfl, .ref b, rfl, b, _, 1, .int b1, rfl, rfl, SqT.of hb, rfl, a1, b1, rfl, rfl, cm l1, _, _, rfl, Nat.lt_trans (mul_lt l1 m1) (by decide), fun _ => hQ, fun z => (mul_ne n1 n2 z).elim⟩
theorem ok_less {f : Addr} {fd : FuncData} (F : Fun K "less" "less" sLess f fd) (M : FnOk P w K mg base (L2.CX P w) 3 fM fdM ["top", "bottom"] (spMade CQ))
    (FM : Fun K "made" "made" sMade fM fdM) (gM : mg "made" = some (.ref fM)) : FnOk P w K mg base CX0 4 f fd ["one", "other"] (spBin fSub) := by
  refine F.ok scLess (fun vs H Q E h => ?_) fun cdv A outer s H vs Q E hr h => ⟨_,
    pss_one (ps_ret (pe_call M hr (by rfl) gM FM.kp (FM.binds fun _ _ _ _ _ _ us hl => match us, hl with | [_, _], _ => rfl) .nil passL
      (pa_cons (pe_op op_sub (pe_op op_mul (pe_ix ix_tup (pv 0) pe_int (fun _ _ => rfl)) (pe_ix ix_tup (pv 1) pe_int (fun _ _ => rfl))) (pe_op op_mul (pe_ix ix_tup (pv 1) pe_int (fun _ _ => rfl)) (pe_ix ix_tup (pv 0) pe_int (fun _ _ => rfl)))) (pa_cons (pe_op op_mul (pe_ix ix_tup (pv 0) pe_int (fun _ _ => rfl)) (pe_ix ix_tup (pv 1) pe_int (fun _ _ => rfl))) pa_nil)))), ?_⟩
  · obtain ⟨a, b, a0, a1, b0, b1, rfl, _⟩ := h
    rfl
  · obtain ⟨a, b, a0, a1, b0, b1, rfl, ha, hb, l0, l1, m0, m1, n1, n2, hQ⟩ := h
    exact ⟨.ref a, rfl, a, _, 0, .int a0, rfl, rfl, SqT.of ha, rfl, .ref b, rfl, b, _, 1, .int b1, rfl, rfl, SqT.of hb, rfl, a0, b1, rfl, rfl, cm l0, .ref b, rfl, b, _, 0, .int b0, rfl, rfl, SqT.of hb, rfl, .ref a, rfl, a, _, 1, .int a1, rfl, rfl, SqT.of ha, rfl, b0, a1, rfl, rfl, cm m0, _, _, rfl, rfl, .ref a, rfl, a, _, 1, .int a1, rfl, rfl, SqT.of ha, rfl, .ref b, rfl, b, _, 1, .int b1, rfl, rfl, SqT.of hb, rfl, a1, b1, rfl, rfl, cm l1, _, _, rfl, Nat.lt_trans (mul_lt l1 m1) (by decide), fun _ => hQ, fun z => (mul_ne n1 n2 z).elim⟩
theorem ok_times {f : Addr} {fd : FuncData} (F : Fun K "times" "times" sTimes f fd) (M : FnOk P w K mg base (L2.CX P w) 3 fM fdM ["top", "bottom"] (spMade CQ))
    (FM : Fun K "made" "made" sMade fM fdM) (gM : mg "made" = some (.ref fM)) : FnOk P w K mg base CX0 4 f fd ["one", "other"] (spBin fMul) := by
  refine F.ok scTimes (fun vs H Q E h => ?_) fun cdv A outer s H vs Q E hr h => ⟨_,
    pss_one (ps_ret (pe_call M hr (by rfl) gM FM.kp (FM.binds fun _ _ _ _ _ _ us hl => match us, hl with | [_, _], _ => rfl) .nil passL
      (pa_cons (pe_op op_mul (pe_ix ix_tup (pv 0) pe_int (fun _ _ => rfl)) (pe_ix ix_tup (pv 1) pe_int (fun _ _ => rfl))) (pa_cons (pe_op op_mul (pe_ix ix_tup (pv 0) pe_int (fun _ _ => rfl)) (pe_ix ix_tup (pv 1) pe_int (fun _ _ => rfl))) pa_nil)))), ?_⟩
  · obtain ⟨a, b, a0, a1, b0, b1, rfl, _⟩ := h
    rfl
  · obtain ⟨a, b, a0, a1, b0, b1, rfl, ha, hb, l0, l1, m0, m1, n1, n2, hQ⟩ := h
    exact ⟨.ref a, rfl, a, _, 0, .int a0, rfl, rfl, SqT.of ha, rfl, .ref b, rfl, b, _, 0, .int b0, rfl, rfl, SqT.of hb, rfl, a0, b0, rfl, rfl, cm l0, .ref a, rfl, a, _, 1, .int a1, rfl, rfl, SqT.of ha, rfl, .ref b, rfl, b, _, 1, .int b1, rfl, rfl, SqT.of hb, rfl, a1, b1, rfl, rfl, cm l1, _, _, rfl, Nat.lt_trans (mul_lt l1 m1) (by decide), fun _ => hQ, fun z => (mul_ne n1 n2 z).elim⟩
theorem ok_comp {f : Addr} {fd : FuncData} (F : Fun K "compared" "compared" sComp f fd) : FnOk P w K mg base CX0 1 f fd ["one", "other"] spComp := by
  refine F.ok scComp (fun vs H Q E h => ?_) fun cdv A outer s H vs Q E hr h => ⟨_,
    pss_cons (ps_set (i := 2) scComp.nd rfl (.inl rfl) (pe_op op_mul (pe_ix ix_tup (pv 0) pe_int (fun _ _ => rfl)) (pe_ix ix_tup (pv 1) pe_int (fun _ _ => rfl))))
    (pss_cons (ps_set (i := 3) scComp.nd rfl (.inl rfl) (pe_op op_mul (pe_ix ix_tup (pv 1) pe_int (fun _ _ => rfl)) (pe_ix ix_tup (pv 0) pe_int (fun _ _ => rfl))))
    (pss_cons (ps_if (pt_cmpR op_lt (pv 2) (pv 3) (nomark _)) (pss_one (ps_ret (pe_un un_neg pe_int))) pss_nil)
    (pss_one (ps_ret (pe_ifExp (pt_cmpR op_gt (pv 2) (pv 3) (nomark _)) pe_int pe_int))))), ?_⟩
  · obtain ⟨a, b, a0, a1, b0, b1, rfl, _⟩ := h
    rfl
  · obtain ⟨a, b, a0, a1, b0, b1, rfl, ha, hb, l0, l1, m0, m1, hQ⟩ := h
    refine ⟨.ref a, rfl, a, _, 0, .int a0, rfl, rfl, SqT.of ha, rfl, .ref b, rfl, b, _, 1, .int b1, rfl, rfl, SqT.of hb, rfl, a0, b1, rfl, rfl, cm l0, .ref b, rfl, b, _, 0, .int b0, rfl, rfl, SqT.of hb, rfl, .ref a, rfl, a, _, 1, .int a1, rfl, rfl, SqT.of ha, rfl, b0, a1, rfl, rfl, cm m0, .int (a0 * b1), rfl, .int (b0 * a1), rfl, _, _, rfl, rfl, _, rfl, ?_⟩
    by_cases h1 : a0 * b1 < b0 * a1
    · rw [if_pos h1] at hQ
      exact iteT' (decide_eq_true h1) ⟨1, rfl, hQ⟩
    · rw [if_neg h1] at hQ
      refine iteF' (decide_eq_false h1) ⟨.int (a0 * b1), rfl, .int (b0 * a1), rfl, _, _, rfl, rfl, _, rfl, ?_⟩
      by_cases h2 : b0 * a1 < a0 * b1
      · rw [if_pos h2] at hQ
        exact iteT' (decide_eq_true h2) hQ
      · rw [if_neg h2] at hQ
        exact iteF' (decide_eq_false h2) hQ
end
end K01

namespace K01
open PySem PySem.Spec PyProof.Rows L2 KX
section
variable {P : Program} {w : World} {K : PySem.W.Frag} {mg : Str → Option Value} {base : Heap} {fI fT : Addr} {fdI fdT : FuncData}
theorem kit_tt : kitB "tuple" "tuple" = some true := by decide +kernel
theorem ok_frac {f : Addr} {fd : FuncData} (F : Fun K "is_fraction" "is_fraction" sIsFrac f fd) (FI : Fun K "is_integer" "is_integer" sIsInt fI fdI) (FT : Fun K "is_tuple_of" "is_tuple_of" sIsTup fT fdT)
    (gI : mg "is_integer" = some (.ref fI)) (gT : mg "is_tuple_of" = some (.ref fT)) (gis : mg "isinstance" = none) (gi : mg "int" = none) (gb : mg "bool" = none)
    (gt : mg "tuple" = none) (gl : mg "len" = none) (gg : mg "gcd" = some (.builtin "math.gcd")) : FnOk P w K mg base CX0 2 f fd ["value"] (spIsFrac K) := by
  refine F.ok scFrac (fun vs H Q E h => ?_) fun cdv A outer s H vs Q E hr h => ⟨_,
    pss_cons (ps_if (pt_not (pt_val (pe_call (ok_tup FT gis gt gl) hr (by rfl) gT FT.kp (FT.binds fun _ _ _ _ _ _ us hl => match us, hl with | [_, _], _ => rfl) .nil pass0 (pa_cons (pv 0) (pa_cons pe_int pa_nil)))))
      (pss_one (ps_ret pe_bl)) pss_nil)
    (pss_cons (ps_asg (pv 0) (pg_tup (by rfl) (pgs_cons (pg_name (i := 1) scFrac.nd rfl (.inl rfl)) (pgs_cons (pg_name (i := 2) scFrac.nd rfl (.inl rfl)) pgs_nil))))
    (pss_cons (ps_if (PW.pt (pw_or (pt_not (pt_val (pe_call (ok_int FI gis gi gb) hr (by rfl) gI FI.kp (FI.binds fun _ _ _ _ _ _ us hl => match us, hl with | [_], _ => rfl) .nil pass0 (pa_cons (pv 1) pa_nil))))
        (pw_or1 (pt_not (pt_val (pe_call (ok_int FI gis gi gb) hr (by rfl) gI FI.kp (FI.binds fun _ _ _ _ _ _ us hl => match us, hl with | [_], _ => rfl) .nil pass0 (pa_cons (pv 2) pa_nil)))))))
      (pss_one (ps_ret pe_bl)) pss_nil)
    (pss_one (ps_ret (pe_and (pe_cmpR op_ge (pv 2) pe_int (nomark _)) (pe_one (pe_cmpR op_eq (pe_callBfun cr_gcd (by rfl) gg (pa_cons (pv 1) (pa_cons (pv 2) pa_nil))) pe_int (nomark _)))))))), ?_⟩
  · obtain ⟨x, rfl, _⟩ := h
    rfl
  · obtain ⟨x, rfl, h⟩ := h
    rcases h with ⟨n, ty, k1, hQ⟩ | ⟨a, xs, rfl, ha, h⟩
    · exact ⟨x, rfl, x, 2, n, false, rfl, ty, k1, iteF ⟨false, rfl, iteT hQ⟩⟩
    · refine ⟨.ref a, rfl, .ref a, 2, "tuple", true, rfl, .base (.tup ha), kit_tt, iteT ⟨a, xs, rfl, ha, ?_⟩⟩
      rcases h with ⟨hl, hQ⟩ | ⟨y, z, o1, o2, rfl, k1, k2, hQ⟩
      · have e : decide (V.int (xs.length : Int) = V.int 2) = false := decide_eq_false (fun z => hl (by injection z with z; omega))
        rw [e]
        exact ⟨false, rfl, iteT hQ⟩
      · refine ⟨true, rfl, iteF ⟨.ref a, rfl, a, [y, z], rfl, SqT.of ha, rfl, ?_⟩⟩
        refine ⟨y, [z], rfl, z, [], rfl, rfl, y, rfl, y, o1, rfl, k1, o1.isSome, rfl, ?_⟩
        cases k1 with
        | oth t h1 h2 h3 => exact iteT (iteT hQ)
        | int t =>
          refine iteF ⟨z, rfl, z, o2, rfl, k2, o2.isSome, rfl, ?_⟩
          cases k2 with
          | oth t' h1 h2 h3 => exact iteT hQ
          | int u =>
            refine iteF ⟨.int u, rfl, u, 1, rfl, rfl, _, rfl, ?_⟩
            have e : fracB (some t) (some u) = (decide (1 ≤ u) && decide (Nat.gcd t.natAbs u.natAbs = 1)) := rfl
            rw [e] at hQ
            by_cases hu : 1 ≤ u
            · rw [decide_eq_true hu, Bool.true_and] at hQ
              refine iteT' (decide_eq_true hu) ⟨.int t, rfl, .int u, rfl, t, u, rfl, rfl, ?_⟩
              have e2 : decide (V.int ((Nat.gcd t.natAbs u.natAbs : Nat) : Int) = V.int 1) = decide (Nat.gcd t.natAbs u.natAbs = 1) := by
                apply decide_eq_decide.mpr
                constructor
                · intro h; injection h with h; omega
                · intro h; rw [h]; rfl
              rw [e2]
              exact hQ
            · rw [decide_eq_false hu, Bool.false_and] at hQ
              exact iteF' (decide_eq_false hu) hQ
end
end K01

namespace K01
open PySem PySem.Spec PyProof.Rows L2 KX
abbrev sLow : Stmt := top 18
abbrev sInteger : Stmt := top 19
abbrev sBottom : Stmt := top 20
def spLow : Sp := fun vs H Q _ => ∃ t b : Int, vs = [.int t, .int b] ∧ b ≠ 0 ∧ b.natAbs < 2 ^ 200 ∧
  ∀ H' p, Same H H' → H' p = none → Q (.ref p) (upd H' p (fr (low t b)))
def spInteger : Sp := fun vs H Q _ => ∃ (p q : Addr), vs = [.ref p] ∧ Deal H p q ∧ ∀ H' i, Deal H' p q → Fix p q H H' → i.natAbs < 2 ^ 55 → Q (.int i) H'
def spBottom : Sp := fun vs H Q _ => ∃ (p q : Addr), vs = [.ref p] ∧ Deal H p q ∧ ∀ H' i, Deal H' p q → Fix p q H H' → i ≠ 0 → i.natAbs < 2 ^ 55 → Q (.int i) H'
theorem scLow : FnScope ["top", "bottom", "one", "other"] ["top", "bottom"] (defScope sLow) := ⟨rfl, rfl, rfl, by decide +kernel, rfl, by decide +kernel, by decide +kernel⟩
theorem scInteger : FnScope ["deal", "form"] ["deal"] (defScope sInteger) := ⟨rfl, rfl, rfl, by decide +kernel, rfl, by decide +kernel, by decide +kernel⟩
theorem scBottom : FnScope ["deal", "found"] ["deal"] (defScope sBottom) := ⟨rfl, rfl, rfl, by decide +kernel, rfl, by decide +kernel, by decide +kernel⟩
theorem Deal.new {H : Hp} {p q a : Addr} {o : HO} (d : Deal H p q) (n : H a = none) : Deal (upd H a o) p q ∧ a ≠ p ∧ a ≠ q := by
  obtain ⟨ns, b, d⟩ := d
  exact ⟨⟨ns, b, DealAt.new d n⟩, (fun z => by have h := d.hp; rw [← z, n] at h; cases h), (fun z => by have h := d.hq; rw [← z, n] at h; cases h)⟩
theorem gcd_step {n o : Int} (hn : 0 ≤ n) (ho : 0 < o) : Nat.gcd o.natAbs (n % o).natAbs = Nat.gcd n.natAbs o.natAbs := by
  obtain ⟨n, rfl⟩ := Int.eq_ofNat_of_zero_le hn
  obtain ⟨o, rfl⟩ := Int.eq_ofNat_of_zero_le (Int.le_of_lt ho)
  show Nat.gcd o (((n % o : Nat) : Int)).natAbs = Nat.gcd n o
  rw [Int.natAbs_natCast, Nat.gcd_comm o, ← Nat.gcd_rec, Nat.gcd_comm]
section
variable {P : Program} {w : World} {K : PySem.W.Frag} {mg : Str → Option Value} {base : Heap} {fA fO fN : Addr} {fdA fdO fdN : FuncData}
theorem ok_low {f : Addr} {fd : FuncData} (F : Fun K "_law_low" "_law_low" sLow f fd) (gab : mg "abs" = none) (gi : mg "int" = none) :
    FnOk P w K mg base CX0 1 f fd ["top", "bottom"] spLow := by
  refine F.ok scLow (fun vs H Q E h => ?_) fun cdv A outer s H vs Q E hr h => ⟨_,
    pss_cons (ps_par (i := 2) (j := 3) (by rfl) scLow.nd rfl rfl (by decide) rfl rfl (pa_cons (pe_callB call_abs (by rfl) gab (by decide +kernel) (by exact pa_cons (pv 0) pa_nil)) (pa_cons (pe_callB call_abs (by rfl) gab (by decide +kernel) (by exact pa_cons (pv 1) pa_nil)) pa_nil)) (by rfl))
    (pss_cons (ps_while PassesOwn.never (pt_cmpR op_gt (pv 3) pe_int (nomark _)) (pss_one (ps_par (i := 2) (j := 3) (by rfl) scLow.nd rfl rfl (by decide) rfl rfl (pa_cons (pv 3) (pa_cons (pe_op op_mod (pe_callTy call_int1 (by rfl) gi (by decide +kernel) (by exact pa_cons (pv 2) pa_nil)) (pv 3)) pa_nil)) (by rfl))))
    (pss_cons (ps_set (i := 2) scLow.nd rfl (.inl rfl) (pe_ifExp (pt_cmpR op_gt (pv 1) pe_int (nomark _)) (pv 2) (pe_op op_sub pe_int (pv 2))))
    (pss_one (ps_ret (pe_tup (pa_cons (pe_op op_fdivA (pv 0) (pv 2)) (pa_cons (pe_op op_fdivA (pv 1) (pv 2)) pa_nil))))))), ?_⟩
  · obtain ⟨t, b, rfl, _⟩ := h
    rfl
  · obtain ⟨t, b, rfl, z, hb, hQ⟩ := h
    refine ⟨.int t, rfl, t, rfl, .int b, rfl, b, rfl, _, _, rfl, ?_⟩
    refine ⟨fun m σ H' => Same H H' ∧ ∃ n o : Int, σ = [some (.int t), some (.int b), some (.int n), some (.int o)] ∧ 0 ≤ n ∧ 0 ≤ o ∧ Nat.gcd n.natAbs o.natAbs = Nat.gcd t.natAbs b.natAbs ∧ m = o.toNat,
      ⟨_, Same.refl _, _, _, rfl, by split <;> omega, by split <;> omega, by
        have e : ∀ x : Int, (if x < 0 then -x else x).natAbs = x.natAbs := fun x => by split <;> omega
        rw [e, e], rfl⟩, ?_⟩
    rintro m σ H' ⟨S, n, o, rfl, hn, ho, hg, rfl⟩
    refine ⟨.int o, rfl, o, 0, rfl, rfl, _, rfl, ?_⟩
    by_cases h0 : 0 < o
    · refine iteT' (decide_eq_true h0) ⟨fun σ' H'' => Same H H'' ∧ ∃ n' o' : Int, σ' = [some (.int t), some (.int b), some (.int n'), some (.int o')] ∧ 0 ≤ n' ∧ 0 ≤ o' ∧ Nat.gcd n'.natAbs o'.natAbs = Nat.gcd t.natAbs b.natAbs ∧ o' < o,
        fun σ' H'' ⟨S', n', o', e, q1, q2, q3, q4⟩ => ⟨o'.toNat, by omega, S', n', o', e, q1, q2, q3, rfl⟩, ?_⟩
      refine ⟨.int o, rfl, .int n, rfl, .inl ⟨n, rfl, .int o, rfl, n, o, rfl, rfl, h0, _, _, rfl, ?_⟩⟩
      refine ⟨S, o, n % o, rfl, ho, Int.emod_nonneg _ (by omega), ?_, Int.emod_lt_of_pos _ h0⟩
      rw [gcd_step hn h0, hg]
    · have o0 : o = 0 := by omega
      subst o0
      have hnn : n = gcdI t b := by
        have e : Nat.gcd n.natAbs (0 : Int).natAbs = n.natAbs := Nat.gcd_zero_right _
        rw [e] at hg
        show n = ((Nat.gcd t.natAbs b.natAbs : Nat) : Int)
        rw [← hg]; omega
      subst hnn
      refine iteF' (decide_eq_false h0) ?_
      have fin : sgcd t b = (if b < 0 then -gcdI t b else gcdI t b) := rfl
      refine ⟨.int b, rfl, b, 0, rfl, rfl, _, rfl, ?_⟩
      by_cases hb0 : 0 < b
      · rw [if_neg (by omega)] at fin
        refine iteT' (decide_eq_true hb0) ⟨.int (gcdI t b), rfl, .int t, rfl, .int (gcdI t b), rfl, t, gcdI t b, rfl, rfl, fin ▸ sgcd_ok z hb t, .int b, rfl, .int (gcdI t b), rfl, b, gcdI t b, rfl, rfl, fin ▸ sgcd_ok z hb b, by show 2 ≤ sizeLine; decide, fun p2 hp2 => ?_⟩
        have q := hQ H' p2 S hp2
        unfold low at q
        rw [fin] at q
        exact q
      · rw [if_pos (by omega)] at fin
        have ez : (0 : Int) - gcdI t b = -gcdI t b := by omega
        rw [← ez] at fin
        refine iteF' (decide_eq_false hb0) ⟨.int (gcdI t b), rfl, 0, gcdI t b, rfl, rfl, ?_⟩
        refine ⟨.int t, rfl, .int (0 - gcdI t b), rfl, t, 0 - gcdI t b, rfl, rfl, fin ▸ sgcd_ok z hb t, .int b, rfl, .int (0 - gcdI t b), rfl, b, 0 - gcdI t b, rfl, rfl, fin ▸ sgcd_ok z hb b, by show 2 ≤ sizeLine; decide, fun p2 hp2 => ?_⟩
        have q := hQ H' p2 S hp2
        unfold low at q
        rw [fin] at q
        exact q
theorem ok_integer {f : Addr} {fd : FuncData} (F : Fun K "_law_integer" "_law_integer" sInteger f fd) (FA : Fun K "_law_any" "_law_any" sAny fA fdA) (FO : Fun K "_law_of" "_law_of" sOf fO fdO)
    (gA : mg "_law_any" = some (.ref fA)) (gO : mg "_law_of" = some (.ref fO)) (gi : mg "int" = none) (gl : mg "len" = none) : FnOk P w K mg base CX0 3 f fd ["deal"] spInteger := by
  refine F.ok scInteger (fun vs H Q E h => ?_) fun cdv A outer s H vs Q E hr h => ⟨_,
    pss_cons (ps_set (i := 1) scInteger.nd rfl (.inl rfl) (pe_call (ok_any FA gi) (hr.mono (by decide)) (by rfl) gA FA.kp (FA.binds fun _ _ _ _ _ _ us hl => match us, hl with | [_, _], _ => rfl) .nil pass0 (pa_cons (pv 0) (pa_cons pe_int pa_nil))))
    (pss_cons (ps_if (pt_cmpR op_eq (pv 1) pe_int (nomark _)) (pss_one (ps_ret (pe_op op_sub (pe_call (ok_any FA gi) (hr.mono (by decide)) (by rfl) gA FA.kp (FA.binds fun _ _ _ _ _ _ us hl => match us, hl with | [_, _], _ => rfl) .nil pass0 (pa_cons (pv 0) (pa_cons pe_int pa_nil))) pe_int))) pss_nil)
    (pss_cons (ps_if (pt_cmpR op_eq (pv 1) pe_int (nomark _)) (pss_one (ps_ret (pe_op op_mul
        (pe_op op_sub (pe_call (ok_any FA gi) (hr.mono (by decide)) (by rfl) gA FA.kp (FA.binds fun _ _ _ _ _ _ us hl => match us, hl with | [_, _], _ => rfl) .nil pass0 (pa_cons (pv 0) (pa_cons pe_int pa_nil))) pe_int)
        (pe_call (ok_of FO FA gA gi gl) hr (by rfl) gO FO.kp (FO.binds fun _ _ _ _ _ _ us hl => match us, hl with | [_, _], _ => rfl) .nil pass0
          (pa_cons (pv 0) (pa_cons (pe_lst (pa_cons pe_int (pa_cons pe_int (pa_cons (pe_op op_pow pe_int pe_int) (pa_cons (pe_op op_pow pe_int pe_int) (pa_cons (pe_op op_pow pe_int pe_int) pa_nil)))))) pa_nil)))))) pss_nil)
    (pss_one (ps_ret (pe_op op_sub (pe_call (ok_any FA gi) (hr.mono (by decide)) (by rfl) gA FA.kp (FA.binds fun _ _ _ _ _ _ us hl => match us, hl with | [_, _], _ => rfl) .nil pass0 (pa_cons (pv 0) (pa_cons pe_int pa_nil))) pe_int))))), ?_⟩
  · obtain ⟨p, q, rfl, _⟩ := h
    rfl
  · obtain ⟨p, q, rfl, d, hQ⟩ := h
    refine ⟨.ref p, rfl, p, q, 4, rfl, d, by decide, by decide, fun H1 i d1 f1 i0 i1 => ?_⟩
    refine ⟨.int i, rfl, rfl, _, rfl, ?_⟩
    by_cases e0 : i = 0
    · refine iteT' (by rw [e0]; decide) ⟨.ref p, rfl, p, q, 2000003, rfl, d1, by decide, by decide, fun H2 j d2 f2 j0 j1 => ⟨j, 1000001, rfl, rfl, hQ H2 _ d2 (f1.trans f2) (by show (j - 1000001).natAbs < _; omega)⟩⟩
    · refine iteF' (by simpa using e0) ⟨.int i, rfl, rfl, _, rfl, ?_⟩
      by_cases e1 : i = 1
      · refine iteT' (by rw [e1]; decide) ⟨.ref p, rfl, p, q, 13, rfl, d1, by decide, by decide, fun H2 j d2 f2 j0 j1 => ⟨j, 6, rfl, rfl, .ref p, rfl, ?_⟩⟩
        refine ⟨3, 9, rfl, rfl, ⟨by decide, by decide, by decide⟩, 10, 12, rfl, rfl, ⟨by decide, by decide, by decide⟩, 6, 20, rfl, rfl, ⟨by decide, by decide, by decide⟩, by show 5 ≤ sizeLine; decide, fun a ha => ?_⟩
        obtain ⟨d3, n1, n2⟩ := d2.new (o := .lst [.int 10, .int 210, .int (3 ^ (9 : Int).toNat), .int (10 ^ (12 : Int).toNat), .int (6 ^ (20 : Int).toNat)]) ha
        refine ⟨p, q, a, _, rfl, d3, n1, n2, upd_same, by decide, by decide, fun H4 x hx d4 f4 => ?_⟩
        have fx : Fix p q H H4 := (f1.trans f2).trans ((Fix.new ha).trans f4)
        have hx' : ∃ k : Int, x = .int k ∧ 0 ≤ k ∧ k ≤ 3656158440062976 := by
          simp only [List.mem_cons, List.not_mem_nil, or_false] at hx
          rcases hx with h | h | h | h | h
          · exact ⟨_, h, by decide, by decide⟩
          · exact ⟨_, h, by decide, by decide⟩
          · exact ⟨_, h, by decide, by decide⟩
          · exact ⟨_, h, by decide, by decide⟩
          · exact ⟨_, h, by decide, by decide⟩
        obtain ⟨k, rfl, k0, k1⟩ := hx'
        refine ⟨j - 6, k, rfl, rfl, .inl ⟨by omega, by omega⟩, hQ H4 _ d4 fx ?_⟩
        show ((j - 6) * k).natAbs < _
        rw [Int.natAbs_mul]
        have a1 : (j - 6).natAbs ≤ 6 := by omega
        have a2 : k.natAbs ≤ 3656158440062976 := by omega
        exact Nat.lt_of_le_of_lt (Nat.mul_le_mul a1 a2) (by decide)
      · exact iteF' (by simpa using e1) ⟨.ref p, rfl, p, q, 41, rfl, d1, by decide, by decide, fun H2 j d2 f2 j0 j1 => ⟨j, 20, rfl, rfl, hQ H2 _ d2 (f1.trans f2) (by show (j - 20).natAbs < _; omega)⟩⟩
theorem ok_bottom {f : Addr} {fd : FuncData} (F : Fun K "_law_bottom" "_law_bottom" sBottom f fd) (FN : Fun K "_law_integer" "_law_integer" sInteger fN fdN) (N : FnOk P w K mg base CX0 3 fN fdN ["deal"] spInteger)
    (gN : mg "_law_integer" = some (.ref fN)) : FnOk P w K mg base CX0 4 f fd ["deal"] spBottom := by
  refine F.ok scBottom (fun vs H Q E h => ?_) fun cdv A outer s H vs Q E hr h => ⟨_,
    pss_cons (ps_set (i := 1) scBottom.nd rfl (.inl rfl) (pe_call N hr (by rfl) gN FN.kp (FN.binds fun _ _ _ _ _ _ us hl => match us, hl with | [_], _ => rfl) .nil pass0 (pa_cons (pv 0) pa_nil)))
    (pss_one (ps_ret (pe_ifExp (pt_cmpR op_ne (pv 1) pe_int (nomark _)) (pv 1) pe_int))), ?_⟩
  · obtain ⟨p, q, rfl, _⟩ := h
    rfl
  · obtain ⟨p, q, rfl, d, hQ⟩ := h
    refine ⟨.ref p, rfl, p, q, rfl, d, fun H1 i d1 f1 hi => ⟨.int i, rfl, rfl, _, rfl, ?_⟩⟩
    by_cases e0 : i = 0
    · exact iteF' (by rw [e0]; decide) (hQ H1 7 d1 f1 (by decide) (by decide))
    · exact iteT' (by simpa using e0) ⟨.int i, rfl, hQ H1 i d1 f1 e0 hi⟩
end
end K01

namespace K01
open PySem PySem.Spec PyProof.Rows L2 KX LamX
abbrev sRefused : Stmt := top 21
theorem scRef : FnScope ["work", "e"] ["work"] (defScope sRefused) := ⟨rfl, rfl, rfl, by decide +kernel, rfl, by decide +kernel, by decide +kernel⟩
theorem pss_given {X : Cx} {ss : List Stmt} {t : TS} {p : Prop} {n : Nat} (hn : X.N.length = n) (h : p → PSs X ss t) : PSs X ss (fun D σ H => p ∧ (σ.length = n → t D σ H)) :=
  ⟨fun pins s σ H D I q => (h q.1).run pins s σ H D I (q.2 (I.len.trans hn))⟩
/-- what is known of the error's class -/
structure IsQ (K : PySem.W.Frag) (CQ CN : Addr) : Prop where
  x : ExcC K CQ
  kit : PySem.W.kitOne K (.ref CQ) (.ref CN) = some true
  xf : XfC K CQ
  no : PySem.W.findIn K (.ref CQ) "at" = some none
  exm : PySem.W.exmOne K (.ref CQ) (.ref CQ) = some true
def TTref (CQ : Addr) : (XK → Hp → VK → Prop) → Hp → VK → Prop := fun tl H Q =>
  tl (fun cls d H' => ∃ dd v, cls = .ref CQ ∧ d = some dd ∧ H' dd = some (.xd [(("at" : Str), v)]) ∧ Q v H') H (fun _ H' => Q .non H')
def tRefS (K : PySem.W.Frag) (CQ CN a : Addr) (cls : Value) (d : Option Addr) : TS :=
  tRet (tIf (tB (tCB (rIsP K CQ a d) (tCons (tVar 1) (tCons (tC (.ref CN)) tNil)))) (tXf a cls d CQ "at" (tVar 1)) (tC .non))
theorem gives {X : Cx} {g CQ CN : Addr} {cdg : Value} {q : Str} (T : IsQ X.K CQ CN) (gQ : X.mg "InvalidQuestion" = some (.ref CQ)) (gN : X.mg "NetError" = some (.ref CN)) (gis : X.mg "isinstance" = none) :
    GivesTo X ["work", "e"] "_law_refused" (defScope sRefused) g cdg (defBody sRefused) "work" q (TTref CQ) := by
  intro f c' s H Q tl act hc h
  refine ⟨_, pss_cons (L2.ps_try_as (X := (cxOf C8.CX0 X.prog X.w X.K X.mg X.base ["work", "e"] "_law_refused" (defScope sRefused) g cdg X.A X.stack s H C8.E0).nox) (i := 1) (c := .ref CQ)
      (tb := fun W D σ H => ∃ Ech : XK, (∀ cls d σ' H', Ech cls d H' → W cls d σ' H') ∧ σ[0]? = some (some (.ref f)) ∧ H c' = some (CodeO c' q) ∧ tl Ech H (fun _ H' => D.nx σ H'))
      (ts := fun a cls d D σ H => cls = .ref CQ ∧ (σ.length = 2 → tRefS X.K CQ CN a cls d D σ H)) (Wout := fun _ _ _ _ => False)
      rfl rfl scRef.nd rfl rfl ⟨rfl, by decide, .inl gQ⟩ LamX.takes0 (fun W pn xe tk _ => ?_) (fun a oe cls d pn hz hf => pss_given (n := 2) rfl fun hcls => ?_)) (pss_one (ps_ret pe_non)), ?_⟩
  · refine ⟨fun pins s' σ H' D I h' => ?_⟩
    obtain ⟨Ech, hW, h1, h2, h3⟩ := h'
    exact (pss_one (ps_expr (act W pn xe Ech _ _ tk hW))).run pins s' σ H' D I ⟨h1, h2, h3⟩
  · subst hcls
    exact pss_one (ps_ret (pe_ifExp (pt_val (pe_callB (call_isP T.x List.mem_cons_self hz hf) (by rfl) gis (by decide +kernel)
      (by exact pa_cons (pv 1) (pa_cons (pe_glob (v := .ref CN) rfl gN rfl) pa_nil)))) (pe_xf T.xf T.no hz hf (pv 1)) pe_non))
  · refine ⟨fun cls d H' => ∃ dd v, cls = .ref CQ ∧ d = some dd ∧ H' dd = some (.xd [(("at" : Str), v)]) ∧ Q v H', fun cls d σ' H' h => ?_, rfl, hc, h⟩
    obtain ⟨dd, v, rfl, rfl, hdd, hQ⟩ := h
    refine ⟨true, T.exm, fun _ a _ => ⟨rfl, fun hl => ?_⟩, fun z => Bool.noConfusion z⟩
    rw [List.length_set] at hl
    have l1 : (σ'.set 1 (some (V.ref a)))[1]? = some (some (V.ref a)) := by
      rw [List.getElem?_set_self (by omega)]
    exact ⟨.ref a, l1, Or.inr ⟨dd, _, rfl, hdd⟩, .ref CN, .ref CN, true, rfl, fun u hu => hu, T.kit, true, rfl, iteT ⟨.ref a, l1, rfl, rfl, dd, _, v, rfl, hdd, by simp [List.lookup], hQ⟩⟩
end K01

namespace K01
open PySem PySem.Spec PyProof.Rows L2 KX
abbrev sSums : Stmt := top 22
theorem scSums : FnScope ["one", "other", "gap", "due"] ["one", "other"] (defScope sSums) := ⟨rfl, rfl, rfl, by decide +kernel, rfl, by decide +kernel, by decide +kernel⟩
/-! what repr prints -/
def dFr (x : Int × Int) : PyData := .tuple [.int x.1, .int x.2]
structure Rep (d : PyData) : Prop where
  s : d.showable = true
  n : d.hasDict = false
  h : d.depth ≤ 64
  l : d.shown.length ≤ sizeLine
theorem lg {i : Int} (h : i.natAbs < 2 ^ 200) : i.natAbs.log2 < 200 := PySem.Flt.log2_lt_of (by decide) h
theorem shI {i : Int} (h : i.natAbs < 2 ^ 200) : (PyData.shown (.int i)).length ≤ 62 := by
  have e := int_text_length_le10 (k := 61) (by decide) (Nat.lt_trans h (by decide : 2 ^ 200 < 10 ^ 61))
  show (Str.ofString (toString i)).length ≤ 62
  rw [PySem.ofString_length]; exact e
theorem wI {i : Int} (h : i.natAbs < 2 ^ 200) : PyData.weight (.int i) ≤ 200 := by
  have := lg h
  show (if i == 0 then 0 else i.natAbs.log2 + 1) ≤ 200
  split <;> omega
theorem rep_int {i : Int} (h : i.natAbs < 2 ^ 200) : Rep (.int i) := by
  refine ⟨decide_eq_true (Nat.lt_trans (lg h) (by decide)), rfl, (by show 0 ≤ 64; decide), Nat.le_trans (shI h) (by decide)⟩
theorem rep_bool (b : Bool) : Rep (.bool b) := by cases b <;> exact ⟨rfl, rfl, by decide, by decide⟩
theorem rep_fr {x : Int × Int} (h1 : x.1.natAbs < 2 ^ 200) (h2 : x.2.natAbs < 2 ^ 200) : Rep (dFr x) := by
  have a := rep_int h1
  have b := rep_int h2
  have w1 := wI h1
  have w2 := wI h2
  refine ⟨?_, rfl, ?_, ?_⟩
  · show (PyData.showable (.int x.1) && (PyData.showable (.int x.2) && true)) = true
    rw [a.s, b.s]; rfl
  · show max (PyData.depth (.int x.1)) (max (PyData.depth (.int x.2)) 0) + 1 ≤ 64
    have e1 : PyData.depth (.int x.1) = 0 := rfl
    have e2 : PyData.depth (.int x.2) = 0 := rfl
    rw [e1, e2]; decide
  · have hl : (dFr x).leavesShort 62 = true := by
      show (decide ((PyData.shown (.int x.1)).length ≤ 62) && (decide ((PyData.shown (.int x.2)).length ≤ 62) && true)) = true
      rw [decide_eq_true (shI h1), decide_eq_true (shI h2)]; rfl
    have q := PyData.shown_le 62 (by decide) (dFr x) hl
    have e : (dFr x).weight = PyData.weight (.int x.1) + 1 + (PyData.weight (.int x.2) + 1 + 0) := rfl
    rw [e] at q
    have z : sizeLine = 16777216 := by decide
    omega
theorem dp_fr {K : PySem.W.Frag} {H : Hp} {a : Addr} {x : Int × Int} (h : H a = some (fr x)) : Dp K H (.ref a) (dFr x) :=
  .tup (SqT.of h) (.cons (.int _) (.cons (.int _) .nil))
/-- the globals that the helper reads -/
structure GloS (mg : Str → Option Value) (fA fS fT fC fL : Addr) : Prop where
  rep : mg "repr" = none
  add : mg "added" = some (.ref fA)
  les : mg "less" = some (.ref fS)
  tim : mg "times" = some (.ref fT)
  com : mg "compared" = some (.ref fC)
  low : mg "_law_low" = some (.ref fL)
theorem fkSwap {K : PySem.W.Frag} {x q : Str} {st : Stmt} {f : Addr} {fd : FuncData} {a b : Str} (F : Fun K x q st f fd)
    (h : ∀ (kV doc pm : Value) (an : Option Addr) (cdv ct : Value) (u v : Value), bindArgs (PySem.W.fnOf x q (defArgs st) (defBody st) (defScope st) .none kV doc pm an cdv ct) ⟨[], [(b, v), (a, u)]⟩ = pure [(a, u), (b, v)]) :
    KBn K fd [a, b] 0 [b, a] (fun _ ws => ws.reverse) (fun _ zs => zs.reverse) := by
  obtain ⟨oc, od, kV, doc, pm, an, cdv, ct, osl, rfl, lk, hcd⟩ := F.ex
  exact kb_swap (h kV doc pm an cdv ct)
theorem fkBoth {K : PySem.W.Frag} {x q : Str} {st : Stmt} {f : Addr} {fd : FuncData} {a b : Str} (F : Fun K x q st f fd)
    (h : ∀ (kV doc pm : Value) (an : Option Addr) (cdv ct : Value) (u v : Value), bindArgs (PySem.W.fnOf x q (defArgs st) (defBody st) (defScope st) .none kV doc pm an cdv ct) ⟨[], [(a, u), (b, v)]⟩ = pure [(a, u), (b, v)]) :
    KBn K fd [a, b] 0 [a, b] (fun _ ws => ws) (fun _ zs => zs) := by
  obtain ⟨oc, od, kV, doc, pm, an, cdv, ct, osl, rfl, lk, hcd⟩ := F.ex
  exact kb_both (h kV doc pm an cdv ct)
theorem fkSecond {K : PySem.W.Frag} {x q : Str} {st : Stmt} {f : Addr} {fd : FuncData} {a b : Str} (F : Fun K x q st f fd)
    (h : ∀ (kV doc pm : Value) (an : Option Addr) (cdv ct : Value) (u v : Value), bindArgs (PySem.W.fnOf x q (defArgs st) (defBody st) (defScope st) .none kV doc pm an cdv ct) ⟨[u], [(b, v)]⟩ = pure [(a, u), (b, v)]) :
    KBn K fd [a, b] 1 [b] (fun us ws => us ++ ws) (fun vs zs => vs ++ zs) := by
  obtain ⟨oc, od, kV, doc, pm, an, cdv, ct, osl, rfl, lk, hcd⟩ := F.ex
  exact kb_second (h kV doc pm an cdv ct)
def spSums : Sp := fun vs H Q _ => ∃ (a b : Addr) (a0 a1 b0 b1 : Int), vs = [.ref a, .ref b] ∧ H a = some (fr (a0, a1)) ∧ H b = some (fr (b0, b1)) ∧
  a0.natAbs < 2 ^ 60 ∧ a1.natAbs < 2 ^ 60 ∧ b0.natAbs < 2 ^ 60 ∧ b1.natAbs < 2 ^ 60 ∧ a1 ≠ 0 ∧ b1 ≠ 0 ∧ ∀ H', Same H H' → Q (.bl true) H'
theorem sg_ne {t b : Int} (hb : b ≠ 0) : sgcd t b ≠ 0 := by
  have := gcd_pos (t := t) hb
  unfold sgcd
  split <;> omega
theorem sg_dvd {t b x : Int} (h : gcdI t b ∣ x) : sgcd t b ∣ x := by
  unfold sgcd
  split
  · exact Int.neg_dvd.mpr h
  · exact h
theorem low_spec {t b : Int} (hb : b ≠ 0) : t = sgcd t b * (low t b).1 ∧ b = sgcd t b * (low t b).2 := by
  have d1 : gcdI t b ∣ t := Int.ofNat_dvd_left.mpr (Nat.gcd_dvd_left _ _)
  have d2 : gcdI t b ∣ b := Int.ofNat_dvd_left.mpr (Nat.gcd_dvd_right _ _)
  have e : ∀ x : Int, gcdI t b ∣ x → x = sgcd t b * x.fdiv (sgcd t b) := fun x hx => by
    obtain ⟨k, hk⟩ := sg_dvd (t := t) (b := b) hx
    have q : x.fdiv (sgcd t b) = k := by rw [hk]; exact Int.mul_fdiv_cancel_left k (sg_ne hb)
    rw [q]; exact hk
  exact ⟨e t d1, e b d2⟩
theorem low_lt {t b : Int} (hb : b ≠ 0) : (low t b).1.natAbs ≤ t.natAbs ∧ (low t b).2.natAbs ≤ b.natAbs := by
  obtain ⟨h1, h2⟩ := low_spec (t := t) hb
  have z := sg_ne (t := t) hb
  have e : ∀ x k : Int, x = sgcd t b * k → k.natAbs ≤ x.natAbs := fun x k h => by
    rw [h, Int.natAbs_mul]
    exact Nat.le_mul_of_pos_left _ (by omega)
  exact ⟨e _ _ h1, e _ _ h2⟩
theorem low_rep {t b : Int} (hb : b ≠ 0) (h1 : t.natAbs < 2 ^ 200) (h2 : b.natAbs < 2 ^ 200) : Rep (dFr (low t b)) :=
  rep_fr (Nat.lt_of_le_of_lt (low_lt hb).1 h1) (Nat.lt_of_le_of_lt (low_lt hb).2 h2)
section
variable {P : Program} {w : World} {K : PySem.W.Frag} {mg : Str → Option Value} {base : Heap} {fA fS fT fC fL : Addr} {dA dS dT dC dL : FuncData}
theorem ok_sums {f : Addr} {fd : FuncData} (F : Fun K "_law_sums_right" "_law_sums_right" sSums f fd) (FA : Fun K "added" "added" sAdded fA dA) (FS : Fun K "less" "less" sLess fS dS)
    (FT : Fun K "times" "times" sTimes fT dT) (FC : Fun K "compared" "compared" sComp fC dC) (FL : Fun K "_law_low" "_law_low" sLow fL dL)
    (GA : FnOk P w K mg base CX0 4 fA dA ["one", "other"] (spBin fAdd)) (GS : FnOk P w K mg base CX0 4 fS dS ["one", "other"] (spBin fSub)) (GT : FnOk P w K mg base CX0 4 fT dT ["one", "other"] (spBin fMul))
    (GC : FnOk P w K mg base CX0 1 fC dC ["one", "other"] spComp) (GL : FnOk P w K mg base CX0 1 fL dL ["top", "bottom"] spLow) (G : GloS mg fA fS fT fC fL) :
    FnR P w K mg base CX0 (CG 5) f fd ["one", "other"] spSums := by
  obtain ⟨oc, od, kV, doc, pm, an, cdv, ct, osl, rfl, lk, hcd⟩ := F.ex
  have bL : Binds K dL ["top", "bottom"] [] := FL.binds fun _ _ _ _ _ _ us hl => match us, hl with | [_, _], _ => rfl
  have bT : Binds K dT ["one", "other"] [] := FT.binds fun _ _ _ _ _ _ us hl => match us, hl with | [_, _], _ => rfl
  have bC : Binds K dC ["one", "other"] [] := FC.binds fun _ _ _ _ _ _ us hl => match us, hl with | [_, _], _ => rfl
  have kA := fkSwap FA (a := "one") (b := "other") fun _ _ _ _ _ _ _ _ => rfl
  have kC := fkBoth FC (a := "one") (b := "other") fun _ _ _ _ _ _ _ _ => rfl
  have kS := fkSecond FS (a := "one") (b := "other") fun _ _ _ _ _ _ _ _ => rfl
  refine fnG_of lk hcd scSums (fun vs H Q E h => ?_) fun A outer s H vs Q E hr hgd h => ?_
  · obtain ⟨a, b, a0, a1, b0, b1, rfl, _⟩ := h
    rfl
  obtain ⟨a, b, a0, a1, b0, b1, rfl, ha, hb, l0, l1, m0, m1, n1, n2, hQ⟩ := h
  have hu : (A.deeper (envOfC "_law_sums_right" (defScope sSums) s.heap.objs.size f cdv)).units + 66 < cLine := by
    have := hr.un
    omega
  refine ⟨_,
    pss_cons (ps_par (i := 2) (j := 3) (by rfl) scSums.nd rfl rfl (by decide) rfl rfl (by exact pa_cons (pe_op op_sub (pe_op op_mul (pe_ix ix_tup (pv 0) pe_int (fun _ _ => rfl)) (pe_ix ix_tup (pv 1) pe_int (fun _ _ => rfl))) (pe_op op_mul (pe_ix ix_tup (pv 1) pe_int (fun _ _ => rfl)) (pe_ix ix_tup (pv 0) pe_int (fun _ _ => rfl)))) (pa_cons pe_int pa_nil)) (by rfl))
    (C8.pss_cut (ps_if (pt_cmpR op_ne (pv 2) pe_int (nomark _)) (pss_one (ps_set (i := 3) scSums.nd rfl (.inl rfl) (pe_ifExp (pt_cmpR op_gt (pv 2) pe_int (nomark _)) pe_int (pe_op op_sub pe_int pe_int)))) pss_nil)
    (pss_cons (ps_if (pt_cmpR op_ne (pe_callB (cr_repr hgd hu) (by rfl) G.rep (by decide +kernel) (by exact pa_cons (by exact (pe_callK GA hr (by rfl) G.add FA.kp kA pass0 (by exact pk_cons (pv 1) (pk_cons (pv 0) pk_nil)))) pa_nil)) (pe_callB (cr_repr hgd hu) (by rfl) G.rep (by decide +kernel) (by exact pa_cons (pe_call GL (hr.mono (by decide)) (by rfl) G.low FL.kp bL .nil pass0 (by exact pa_cons (pe_op op_add (pe_op op_mul (pe_ix ix_tup (pv 0) pe_int (fun _ _ => rfl)) (pe_ix ix_tup (pv 1) pe_int (fun _ _ => rfl))) (pe_op op_mul (pe_ix ix_tup (pv 1) pe_int (fun _ _ => rfl)) (pe_ix ix_tup (pv 0) pe_int (fun _ _ => rfl)))) (pa_cons (pe_op op_mul (pe_ix ix_tup (pv 0) pe_int (fun _ _ => rfl)) (pe_ix ix_tup (pv 1) pe_int (fun _ _ => rfl))) pa_nil))) pa_nil)) (nomark _)) (pss_one (ps_ret pe_bl)) pss_nil)
    (pss_cons (ps_if (pt_cmpR op_ne (pe_callB (cr_repr hgd hu) (by rfl) G.rep (by decide +kernel) (by exact pa_cons (by exact (pe_callN GS hr (by rfl) G.les FS.kp kS pass0 (by exact pa_cons (pv 0) pa_nil) (by exact pk_cons (pv 1) pk_nil))) pa_nil)) (pe_callB (cr_repr hgd hu) (by rfl) G.rep (by decide +kernel) (by exact pa_cons (pe_call GL (hr.mono (by decide)) (by rfl) G.low FL.kp bL .nil pass0 (by exact pa_cons (pv 2) (pa_cons (pe_op op_mul (pe_ix ix_tup (pv 0) pe_int (fun _ _ => rfl)) (pe_ix ix_tup (pv 1) pe_int (fun _ _ => rfl))) pa_nil))) pa_nil)) (nomark _)) (pss_one (ps_ret pe_bl)) pss_nil)
    (pss_cons (ps_if (pt_cmpR op_ne (pe_callB (cr_repr hgd hu) (by rfl) G.rep (by decide +kernel) (by exact pa_cons (by exact (pe_call GT hr (by rfl) G.tim FT.kp bT .nil pass0 (by exact pa_cons (pv 0) (pa_cons (pv 1) pa_nil)))) pa_nil)) (pe_callB (cr_repr hgd hu) (by rfl) G.rep (by decide +kernel) (by exact pa_cons (pe_call GL (hr.mono (by decide)) (by rfl) G.low FL.kp bL .nil pass0 (by exact pa_cons (pe_op op_mul (pe_ix ix_tup (pv 0) pe_int (fun _ _ => rfl)) (pe_ix ix_tup (pv 1) pe_int (fun _ _ => rfl))) (pa_cons (pe_op op_mul (pe_ix ix_tup (pv 0) pe_int (fun _ _ => rfl)) (pe_ix ix_tup (pv 1) pe_int (fun _ _ => rfl))) pa_nil))) pa_nil)) (nomark _)) (pss_one (ps_ret pe_bl)) pss_nil)
    (pss_one (ps_ret (pe_and (pe_cmpR op_eq (pe_callB (cr_repr hgd hu) (by rfl) G.rep (by decide +kernel) (by exact pa_cons (by exact (pe_call GC (hr.mono (by decide)) (by rfl) G.com FC.kp bC .nil pass0 (by exact pa_cons (pv 0) (pa_cons (pv 1) pa_nil)))) pa_nil)) (pe_callB (cr_repr hgd hu) (by rfl) G.rep (by decide +kernel) (by exact pa_cons (pv 3) pa_nil)) (nomark _))
      (pe_one (pe_cmpR op_eq (pe_callB (cr_repr hgd hu) (by rfl) G.rep (by decide +kernel) (by exact pa_cons (by exact (pe_callK GC (hr.mono (by decide)) (by rfl) G.com FC.kp kC pass0 (by exact pk_cons (pv 0) (pk_cons (pv 0) pk_nil)))) pa_nil)) pe_str (nomark _))))))))))
    , ?_⟩
  have g1 : (a0 * b1 - b0 * a1).natAbs < 2 ^ 200 := by
    have q1 := mul_lt l0 m1
    have q2 := mul_lt m0 l1
    omega
  have g2 : (a0 * b1 + b0 * a1).natAbs < 2 ^ 200 := by
    have q1 := mul_lt l0 m1
    have q2 := mul_lt m0 l1
    omega
  have g3 : (a1 * b1).natAbs < 2 ^ 200 := Nat.lt_trans (mul_lt l1 m1) (by decide)
  have g4 : (a0 * b0).natAbs < 2 ^ 200 := Nat.lt_trans (mul_lt l0 m0) (by decide)
  have nn := mul_ne n1 n2
  have r1 := low_rep nn g2 g3
  have r2 := low_rep nn g1 g3
  have r3 := low_rep nn g4 g3
  refine ⟨.ref a, rfl, a, _, 0, .int a0, rfl, rfl, SqT.of ha, rfl, .ref b, rfl, b, _, 1, .int b1, rfl, rfl, SqT.of hb, rfl, a0, b1, rfl, rfl, cm l0, .ref b, rfl, b, _, 0, .int b0, rfl, rfl, SqT.of hb, rfl, .ref a, rfl, a, _, 1, .int a1, rfl, rfl, SqT.of ha, rfl, b0, a1, rfl, rfl, cm m0, _, _, rfl, rfl, _, _, rfl, ?_⟩
  refine ⟨fun σ' H' => H' = H ∧ σ' = [some (.ref a), some (.ref b), some (.int (a0 * b1 - b0 * a1)), some (.int (if a0 * b1 < b0 * a1 then -1 else if a0 * b1 > b0 * a1 then 1 else 0))], ?_, fun σ' H' ⟨e1, e2⟩ => ?_⟩
  rotate_left
  · subst e1 e2
    refine ⟨.ref b, rfl, .ref a, rfl, rfl, a, b, a0, a1, b0, b1, rfl, ha, hb, l0, l1, m0, m1, n1, n2, fun p hp => ?_⟩
    refine ⟨.ref p, dFr (fAdd a0 a1 b0 b1), rfl, dp_fr upd_same, r1.s, r1.n, r1.h, r1.l, ?_⟩
    have S1 := Same.new (o := fr (fAdd a0 a1 b0 b1)) hp
    generalize upd H' p (fr (fAdd a0 a1 b0 b1)) = H1 at S1
    have ha1 := S1 _ _ ha
    have hb1 := S1 _ _ hb
    refine ⟨.ref a, rfl, a, _, 0, .int a0, rfl, rfl, SqT.of ha1, rfl, .ref b, rfl, b, _, 1, .int b1, rfl, rfl, SqT.of hb1, rfl, a0, b1, rfl, rfl, cm l0, .ref b, rfl, b, _, 0, .int b0, rfl, rfl, SqT.of hb1, rfl, .ref a, rfl, a, _, 1, .int a1, rfl, rfl, SqT.of ha1, rfl, b0, a1, rfl, rfl, cm m0, _, _, rfl, rfl, .ref a, rfl, a, _, 1, .int a1, rfl, rfl, SqT.of ha1, rfl, .ref b, rfl, b, _, 1, .int b1, rfl, rfl, SqT.of hb1, rfl, a1, b1, rfl, rfl, cm l1, _, _, rfl, nn, g3, fun H2 p2 S2 hp2 => ?_⟩
    refine ⟨.ref p2, dFr (fAdd a0 a1 b0 b1), rfl, dp_fr upd_same, r1.s, r1.n, r1.h, r1.l, rfl, _, rfl, iteF' (by simp) ?_⟩
    have S3 := S1.trans (S2.trans (Same.new (o := fr (low (a0 * b1 + b0 * a1) (a1 * b1))) hp2))
    generalize upd H2 p2 _ = H3 at S3
    clear S1 ha1 hb1 S2 hp2 hp H1
    have ha1 := S3 _ _ ha
    have hb1 := S3 _ _ hb
    refine ⟨.ref a, rfl, .ref b, rfl, rfl, rfl, a, b, a0, a1, b0, b1, rfl, ha1, hb1, l0, l1, m0, m1, n1, n2, fun p hp => ?_⟩
    refine ⟨.ref p, dFr (fSub a0 a1 b0 b1), rfl, dp_fr upd_same, r2.s, r2.n, r2.h, r2.l, ?_⟩
    have S1 := S3.trans (Same.new (o := fr (fSub a0 a1 b0 b1)) hp)
    generalize upd H3 p (fr (fSub a0 a1 b0 b1)) = H1 at S1
    have ha1 := S1 _ _ ha
    have hb1 := S1 _ _ hb
    refine ⟨.int (a0 * b1 - b0 * a1), rfl, .ref a, rfl, a, _, 1, .int a1, rfl, rfl, SqT.of ha1, rfl, .ref b, rfl, b, _, 1, .int b1, rfl, rfl, SqT.of hb1, rfl, a1, b1, rfl, rfl, cm l1, _, _, rfl, nn, g3, fun H2 p2 S2 hp2 => ?_⟩
    refine ⟨.ref p2, dFr (fSub a0 a1 b0 b1), rfl, dp_fr upd_same, r2.s, r2.n, r2.h, r2.l, rfl, _, rfl, iteF' (by simp) ?_⟩
    have S4 := S1.trans (S2.trans (Same.new (o := fr (low (a0 * b1 - b0 * a1) (a1 * b1))) hp2))
    generalize upd H2 p2 _ = H4 at S4
    clear S1 ha1 hb1 S2 hp2 hp H1 S3
    have ha1 := S4 _ _ ha
    have hb1 := S4 _ _ hb
    refine ⟨.ref a, rfl, .ref b, rfl, a, b, a0, a1, b0, b1, rfl, ha1, hb1, l0, l1, m0, m1, n1, n2, fun p hp => ?_⟩
    refine ⟨.ref p, dFr (fMul a0 a1 b0 b1), rfl, dp_fr upd_same, r3.s, r3.n, r3.h, r3.l, ?_⟩
    have S1 := S4.trans (Same.new (o := fr (fMul a0 a1 b0 b1)) hp)
    generalize upd H4 p (fr (fMul a0 a1 b0 b1)) = H1 at S1
    have ha1 := S1 _ _ ha
    have hb1 := S1 _ _ hb
    refine ⟨.ref a, rfl, a, _, 0, .int a0, rfl, rfl, SqT.of ha1, rfl, .ref b, rfl, b, _, 0, .int b0, rfl, rfl, SqT.of hb1, rfl, a0, b0, rfl, rfl, cm l0, .ref a, rfl, a, _, 1, .int a1, rfl, rfl, SqT.of ha1, rfl, .ref b, rfl, b, _, 1, .int b1, rfl, rfl, SqT.of hb1, rfl, a1, b1, rfl, rfl, cm l1, _, _, rfl, nn, g3, fun H2 p2 S2 hp2 => ?_⟩
    refine ⟨.ref p2, dFr (fMul a0 a1 b0 b1), rfl, dp_fr upd_same, r3.s, r3.n, r3.h, r3.l, rfl, _, rfl, iteF' (by simp) ?_⟩
    have S5 := S1.trans (S2.trans (Same.new (o := fr (low (a0 * b0) (a1 * b1))) hp2))
    generalize upd H2 p2 _ = H5 at S5
    clear S1 ha1 hb1 S2 hp2 hp H1 S4
    have ha1 := S5 _ _ ha
    have hb1 := S5 _ _ hb
    have rc : Rep (.int (if a0 * b1 < b0 * a1 then -1 else if a0 * b1 > b0 * a1 then 1 else 0)) := by
      refine rep_int ?_
      split
      · decide
      · split <;> decide
    refine ⟨.ref a, rfl, .ref b, rfl, a, b, a0, a1, b0, b1, rfl, ha1, hb1, l0, l1, m0, m1, .int _, .int _, rfl, .int _, rc.s, rc.n, rc.h, rc.l, .int _, rfl, .int _, .int _, rfl, .int _, rc.s, rc.n, rc.h, rc.l, rfl, true, by simp, iteT ?_⟩
    have rz : Rep (.int 0) := rep_int (by decide)
    refine ⟨.ref a, rfl, .ref a, rfl, rfl, a, a, a0, a1, a0, a1, rfl, ha1, ha1, l0, l1, l0, l1, .int 0, .int 0, ?_, .int 0, rz.s, rz.n, rz.h, rz.l, rfl, ?_⟩
    · simp
    · exact hQ H5 S5
  · refine ⟨.int (a0 * b1 - b0 * a1), rfl, rfl, _, rfl, ?_⟩
    by_cases e0 : a0 * b1 - b0 * a1 = 0
    · refine iteF' (by rw [e0]; decide) ⟨rfl, ?_⟩
      rw [if_neg (by omega), if_neg (by omega)]; rfl
    · refine iteT' (by simpa using e0) ⟨.int (a0 * b1 - b0 * a1), rfl, a0 * b1 - b0 * a1, 0, rfl, rfl, _, rfl, ?_⟩
      by_cases e1 : 0 < a0 * b1 - b0 * a1
      · refine iteT' (decide_eq_true e1) ⟨rfl, ?_⟩
        rw [if_neg (by omega), if_pos (by omega)]; rfl
      · refine iteF' (decide_eq_false e1) ⟨_, _, rfl, rfl, rfl, ?_⟩
        rw [if_pos (by omega)]; rfl
end
end K01

namespace K01
open PySem PySem.Spec PyProof.Rows L2 KX
theorem sg_scale {t b s : Int} (hb : b ≠ 0) (hs : s ≠ 0) : sgcd (t * s) (b * s) = sgcd t b * s := by
  have hg : gcdI (t * s) (b * s) = gcdI t b * (s.natAbs : Int) := by
    show ((Nat.gcd (t * s).natAbs (b * s).natAbs : Nat) : Int) = ((Nat.gcd t.natAbs b.natAbs : Nat) : Int) * (s.natAbs : Int)
    rw [Int.natAbs_mul, Int.natAbs_mul, Nat.gcd_mul_right, Int.natCast_mul]
  unfold sgcd
  rw [hg]
  rcases Int.lt_or_lt_of_ne hb with h1 | h1
  · rcases Int.lt_or_lt_of_ne hs with h2 | h2
    · have h3 : ¬ b * s < 0 := by have := Int.mul_pos_of_neg_of_neg h1 h2; omega
      have e : (s.natAbs : Int) = -s := by omega
      rw [if_neg h3, if_pos h1, e, Int.mul_neg, Int.neg_mul]
    · have h3 : b * s < 0 := Int.mul_neg_of_neg_of_pos h1 h2
      have e : (s.natAbs : Int) = s := by omega
      rw [if_pos h3, if_pos h1, e, Int.neg_mul]
  · have h1' : ¬ b < 0 := by omega
    rcases Int.lt_or_lt_of_ne hs with h2 | h2
    · have h3 : b * s < 0 := Int.mul_neg_of_pos_of_neg h1 h2
      have e : (s.natAbs : Int) = -s := by omega
      rw [if_pos h3, if_neg h1', e, Int.mul_neg, Int.neg_neg]
    · have h3 : ¬ b * s < 0 := by have := Int.mul_pos h1 h2; omega
      have e : (s.natAbs : Int) = s := by omega
      rw [if_neg h3, if_neg h1', e]
theorem low_scale {t b s : Int} (hb : b ≠ 0) (hs : s ≠ 0) : low (t * s) (b * s) = low t b := by
  obtain ⟨h1, h2⟩ := low_spec (t := t) hb
  have z : sgcd t b * s ≠ 0 := mul_ne (sg_ne hb) hs
  have e : ∀ x k : Int, x = sgcd t b * k → (x * s).fdiv (sgcd t b * s) = k := fun x k h => by
    have q : x * s = sgcd t b * s * k := by rw [h, Int.mul_right_comm]
    rw [q]; exact Int.mul_fdiv_cancel_left k z
  show ((t * s).fdiv (sgcd (t * s) (b * s)), (b * s).fdiv (sgcd (t * s) (b * s))) = low t b
  rw [sg_scale hb hs, e t _ h1, e b _ h2]
theorem low_pos {t b : Int} (hb : b ≠ 0) : 1 ≤ (low t b).2 := by
  have h2 := (low_spec (t := t) hb).2
  have g := gcd_pos (t := t) hb
  generalize (low t b).2 = d at h2
  refine Classical.byContradiction fun hd => ?_
  have q : 0 ≤ gcdI t b * (-d) := Int.mul_nonneg (by omega) (by omega)
  rw [Int.mul_neg] at q
  unfold sgcd at h2
  split at h2
  · rw [Int.neg_mul] at h2; omega
  · omega
theorem sg_abs {t b : Int} : (sgcd t b).natAbs = Nat.gcd t.natAbs b.natAbs := by
  unfold sgcd gcdI
  split <;> omega
theorem low_gcd {t b : Int} (hb : b ≠ 0) : Nat.gcd (low t b).1.natAbs (low t b).2.natAbs = 1 := by
  obtain ⟨h1, h2⟩ := low_spec (t := t) hb
  have g : 0 < Nat.gcd t.natAbs b.natAbs := Nat.gcd_pos_of_pos_right _ (by omega)
  have a1 : t.natAbs = Nat.gcd t.natAbs b.natAbs * (low t b).1.natAbs := by rw [← sg_abs, ← Int.natAbs_mul, ← h1]
  have a2 : b.natAbs = Nat.gcd t.natAbs b.natAbs * (low t b).2.natAbs := by rw [← sg_abs, ← Int.natAbs_mul, ← h2]
  have e : Nat.gcd (Nat.gcd t.natAbs b.natAbs * (low t b).1.natAbs) (Nat.gcd t.natAbs b.natAbs * (low t b).2.natAbs) = Nat.gcd t.natAbs b.natAbs := by rw [← a1, ← a2]
  rw [Nat.gcd_mul_left] at e
  exact Nat.eq_of_mul_eq_mul_left g (by rw [e, Nat.mul_one])
theorem frac_low {t b : Int} (hb : b ≠ 0) : fracB (some (low t b).1) (some (low t b).2) = true := by
  show (decide (1 ≤ (low t b).2) && decide (Nat.gcd (low t b).1.natAbs (low t b).2.natAbs = 1)) = true
  rw [decide_eq_true (low_pos hb), decide_eq_true (low_gcd hb)]; rfl
theorem frac_iff {t b : Int} (hb : b ≠ 0) : fracB (some t) (some b) = decide ((t, b) = low t b) := by
  show (decide (1 ≤ b) && decide (Nat.gcd t.natAbs b.natAbs = 1)) = _
  by_cases h1 : 1 ≤ b
  · by_cases h2 : Nat.gcd t.natAbs b.natAbs = 1
    · have s1 : sgcd t b = 1 := by
        unfold sgcd gcdI
        rw [if_neg (by omega), h2]; rfl
      have e : (t, b) = low t b := by
        show (t, b) = (t.fdiv (sgcd t b), b.fdiv (sgcd t b))
        rw [s1, Int.fdiv_one, Int.fdiv_one]
      rw [decide_eq_true h1, decide_eq_true h2, decide_eq_true e]; rfl
    · have e : ¬ (t, b) = low t b := fun z => by
        have q := low_gcd (t := t) hb
        rw [← z] at q
        exact h2 q
      rw [decide_eq_false h2, decide_eq_false e, Bool.and_false]
  · have e : ¬ (t, b) = low t b := fun z => by
      have q := low_pos (t := t) hb
      rw [← z] at q
      exact h1 q
    rw [decide_eq_false h1, decide_eq_false e, Bool.false_and]
theorem eqv_fr (x y : Int × Int) : PyData.eqv (dFr x) (dFr y) = decide (x = y) := by
  obtain ⟨a, b⟩ := x
  obtain ⟨c, d⟩ := y
  show ((a == c) && ((b == d) && true)) = _
  by_cases h1 : a = c
  · by_cases h2 : b = d
    · subst h1 h2; simp
    · simp [h1, h2]
  · simp [h1]
theorem w_many {n d m : Int} (hm : 2 ≤ m) : fracB (some (n * m)) (some (d * m)) = false := by
  have e : ¬ Nat.gcd (n * m).natAbs (d * m).natAbs = 1 := fun z => by
    rw [Int.natAbs_mul, Int.natAbs_mul, Nat.gcd_mul_right] at z
    have := Nat.eq_one_of_mul_eq_one_left z
    omega
  show (decide (1 ≤ d * m) && decide (Nat.gcd (n * m).natAbs (d * m).natAbs = 1)) = false
  rw [decide_eq_false e, Bool.and_false]
theorem w_neg {n d : Int} (hd : 1 ≤ d) : fracB (some n) (some (0 - d)) = false := by
  show (decide (1 ≤ 0 - d) && _) = false
  rw [decide_eq_false (by omega), Bool.false_and]
theorem w_zero {n : Int} : fracB (some n) (some 0) = false := rfl
theorem w_0m {m : Int} (hm : 2 ≤ m) : fracB (some 0) (some m) = false := by
  have e : ¬ Nat.gcd (0 : Int).natAbs m.natAbs = 1 := fun z => by
    have : Nat.gcd 0 m.natAbs = m.natAbs := Nat.gcd_zero_left _
    have z' : Nat.gcd 0 m.natAbs = 1 := z
    omega
  show (decide (1 ≤ m) && decide (Nat.gcd (0 : Int).natAbs m.natAbs = 1)) = false
  rw [decide_eq_false e, Bool.and_false]
end K01

namespace K01
open PySem PySem.Spec PyProof.Rows L2 KX LamX
abbrev sLaw : Stmt := top 23
theorem scLaw : FnScope ["script", "deal", "turn", "bottom", "share", "one", "other", "many", "wrong", "value", "top"] ["script"] (defScope sLaw) := ⟨rfl, rfl, rfl, by decide +kernel, rfl, by decide +kernel, by decide +kernel⟩
def qL : Str := (envOfC "law" (defScope sLaw) 0 0 .none).qual ++ "<lambda>"
/-! ### what stays -/
theorem Fix.keep {H H' : Hp} {p q a : Addr} {o : HO} (f : Fix p q H H') (d : Deal H p q) (h : H a = some o) (n : ∀ xs, o ≠ .lst xs) : H' a = some o := by
  obtain ⟨ns, b, d⟩ := d
  refine f a o (fun e => ?_) (fun e => ?_) h
  · rw [e, d.hp] at h; exact n _ (Option.some.inj h).symm
  · rw [e, d.hq] at h; exact n _ (Option.some.inj h).symm
theorem tabs_fix {T : List (Addr × Str)} {H H' : Hp} {p q : Addr} (t : Tabs T H) (d : Deal H p q) (f : Fix p q H H') : Tabs T H' := fun z hz => by
  obtain ⟨ps, h1, h2, h3⟩ := t z hz
  refine ⟨ps, f.keep d h1 (fun xs e => nomatch e), h2, fun pos cv hc => ?_⟩
  obtain ⟨c, e1, e2⟩ := h3 pos cv hc
  exact ⟨c, e1, f.keep d e2 (fun xs e => by unfold CodeO at e; cases e)⟩
theorem fr_fix {H H' : Hp} {p q a : Addr} {x : Int × Int} (f : Fix p q H H') (d : Deal H p q) (h : H a = some (fr x)) : H' a = some (fr x) := f.keep d h (fun xs e => by unfold fr at e; cases e)
theorem Deal.extN {H H' : Hp} {p q : Addr} (d : Deal H p q) (e : ExtN H H') : Deal H' p q := by
  obtain ⟨ns, b, d⟩ := d
  exact ⟨ns, b, e _ _ d.hp (fun ps z => nomatch z), e _ _ d.hq (fun ps z => nomatch z), d.ne, d.nn, d.len, d.b0, d.b1⟩
theorem fr_extN {H H' : Hp} {a : Addr} {x : Int × Int} (e : ExtN H H') (h : H a = some (fr x)) : H' a = some (fr x) := e _ _ h (fun ps z => by unfold fr at z; cases z)
/-! ### what is no fraction -/
def NotFrac (K : PySem.W.Frag) (H : Hp) (x : V) : Prop :=
  (∃ n, TyX K H x (.type n) ∧ kitB n "tuple" = some false) ∨ ∃ a xs, x = .ref a ∧ H a = some (.tup xs) ∧ (xs.length ≠ 2 ∨ ∃ y z o1 o2, xs = [y, z] ∧ Kin K H y o1 ∧ Kin K H z o2 ∧ fracB o1 o2 = false)
theorem nf_sp {K : PySem.W.Frag} {H : Hp} {x : V} {Q : VK} {E : XK} (h : NotFrac K H x) (q : Q (.bl false) H) : spIsFrac K [x] H Q E := by
  refine ⟨x, rfl, ?_⟩
  rcases h with ⟨n, t, k⟩ | ⟨a, xs, e, ha, h⟩
  · exact Or.inl ⟨n, t, k, q⟩
  · refine Or.inr ⟨a, xs, e, ha, ?_⟩
    rcases h with h | ⟨y, z, o1, o2, e2, k1, k2, hf⟩
    · exact Or.inl ⟨h, q⟩
    · exact Or.inr ⟨y, z, o1, o2, e2, k1, k2, by rw [hf]; exact q⟩
theorem nf_pair {K : PySem.W.Frag} {H : Hp} {a : Addr} {n d : Int} (h : H a = some (.tup [.int n, .int d])) (f : fracB (some n) (some d) = false) : NotFrac K H (.ref a) :=
  Or.inr ⟨a, _, rfl, h, Or.inr ⟨_, _, _, _, rfl, .int n, .int d, f⟩⟩
theorem nf_len {K : PySem.W.Frag} {H : Hp} {a : Addr} {xs : List V} (h : H a = some (.tup xs)) (l : xs.length ≠ 2) : NotFrac K H (.ref a) := Or.inr ⟨a, xs, rfl, h, Or.inl l⟩
theorem kin_bl {K : PySem.W.Frag} {H : Hp} (b : Bool) : Kin K H (.bl b) none := .oth (b1 := true) (b2 := true) (.base (.bl b)) (by decide +kernel) (by decide +kernel) rfl
theorem kin_str {K : PySem.W.Frag} {H : Hp} (x : Str) : Kin K H (.str x) none := .oth (b1 := false) (b2 := false) (.base (.str x)) (by decide +kernel) (by decide +kernel) rfl
theorem kin_tup {K : PySem.W.Frag} {H : Hp} {a : Addr} {xs : List V} (h : H a = some (.tup xs)) : Kin K H (.ref a) none := .oth (b1 := false) (b2 := false) (.base (.tup h)) (by decide +kernel) (by decide +kernel) rfl
theorem nf_k {K : PySem.W.Frag} {H : Hp} {a : Addr} {y z : V} {o1 o2 : Option Int} (h : H a = some (.tup [y, z])) (k1 : Kin K H y o1) (k2 : Kin K H z o2) (f : fracB o1 o2 = false) : NotFrac K H (.ref a) :=
  Or.inr ⟨a, _, rfl, h, Or.inr ⟨_, _, _, _, rfl, k1, k2, f⟩⟩
theorem nf_lst {K : PySem.W.Frag} {H : Hp} {a : Addr} {xs : List V} (h : H a = some (.lst xs)) : NotFrac K H (.ref a) := Or.inl ⟨"list", .base (.lst h), by decide +kernel⟩
theorem nf_non {K : PySem.W.Frag} {H : Hp} : NotFrac K H .non := Or.inl ⟨"NoneType", .base .non, by decide +kernel⟩
theorem nf_int {K : PySem.W.Frag} {H : Hp} {i : Int} : NotFrac K H (.int i) := Or.inl ⟨"int", .base (.int i), by decide +kernel⟩
theorem nf_str {K : PySem.W.Frag} {H : Hp} {x : Str} : NotFrac K H (.str x) := Or.inl ⟨"str", .base (.str x), by decide +kernel⟩
theorem fracN1 (o : Option Int) : fracB none o = false := rfl
theorem fracN2 (o : Option Int) : fracB o none = false := by cases o <;> rfl
/-! ### the state between two statements of a turn -/
def Mid (tb a p q : Addr) (t b s : Int) (x y : Addr) (l2 : Int × Int) : L2.St → Hp → Prop := fun σ H =>
  (∃ o2 o7 o8 o9, σ = [some (.ref a), some (.ref p), o2, some (.int b), some (.int s), some (.ref x), some (.ref y), o7, o8, o9, some (.int t)]) ∧ Deal H p q ∧ Tabs [(tb, qL)] H ∧ H x = some (fr (low t b)) ∧ H y = some (fr l2)
theorem lt200 {i : Int} (h : i.natAbs < 2 ^ 55) : i.natAbs < 2 ^ 200 := Nat.lt_trans h (by decide)
theorem lt60 {i : Int} (h : i.natAbs < 2 ^ 55) : i.natAbs < 2 ^ 60 := Nat.lt_trans h (by decide)
end K01

namespace K01
open PySem PySem.Spec PyProof.Rows L2 KX LamX
structure GloL (mg : Str → Option Value) (fD fI fB fL fM fS fF fA fR CQ CN : Addr) : Prop where
  draw : mg "_law_draw" = some (.ref fD)
  int_ : mg "_law_integer" = some (.ref fI)
  bot : mg "_law_bottom" = some (.ref fB)
  low : mg "_law_low" = some (.ref fL)
  made : mg "made" = some (.ref fM)
  sums : mg "_law_sums_right" = some (.ref fS)
  frac : mg "is_fraction" = some (.ref fF)
  any : mg "_law_any" = some (.ref fA)
  refu : mg "_law_refused" = some (.ref fR)
  invq : mg "InvalidQuestion" = some (.ref CQ)
  net : mg "NetError" = some (.ref CN)
  rep : mg "repr" = none
  ran : mg "range" = none
  str : mg "str" = none
  isi : mg "isinstance" = none
def spLaw (tb : Addr) (K : PySem.W.Frag) : Sp := fun vs H Q _ => ∃ (a : Addr) (ns : List Int), vs = [.ref a] ∧ SqL K H a (ns.map V.int) ∧
  H tb = some (.tbl #[]) ∧ ∀ H', Q (.bl true) H'
section
variable {P : Program} {w : World} {K : PySem.W.Frag} {mg : Str → Option Value} {base : Heap} {fD fI fB fL fM fS fF fA fR CQ CN tb cc : Addr} {dD dI dB dL dM dS dF dA dR : FuncData}
theorem ok_law {f : Addr} {oc : Value} {od : Option Addr} {kV doc pm : Value} {an : Option Addr} {ct : Value} {osl : Array (Option Value)}
    (lk : K.lookup f = some ⟨oc, od, .func (PySem.W.fnOf "law" "law" (defArgs sLaw) (defBody sLaw) (defScope sLaw) .none kV doc pm an (.ref cc) ct), osl⟩) (hcd : PySem.W.codeIn K (.ref cc) "law" = true)
    (TB : TabB base mg cc tb)
    (FD : Fun K "_law_draw" "_law_draw" sDraw fD dD) (GD : FnOk P w K mg base CX0 1 fD dD ["script", "salt"] (spDraw K))
    (FI : Fun K "_law_integer" "_law_integer" sInteger fI dI) (GI : FnOk P w K mg base CX0 3 fI dI ["deal"] spInteger)
    (FB : Fun K "_law_bottom" "_law_bottom" sBottom fB dB) (GB : FnOk P w K mg base CX0 4 fB dB ["deal"] spBottom)
    (FL : Fun K "_law_low" "_law_low" sLow fL dL) (GL : FnOk P w K mg base CX0 1 fL dL ["top", "bottom"] spLow)
    (FM : Fun K "made" "made" sMade fM dM) (GM : FnOk P w K mg base (L2.CX P w) 3 fM dM ["top", "bottom"] (spMade CQ))
    (FS : Fun K "_law_sums_right" "_law_sums_right" sSums fS dS) (GS : FnR P w K mg base CX0 (CG 5) fS dS ["one", "other"] spSums)
    (FF : Fun K "is_fraction" "is_fraction" sIsFrac fF dF) (GF : FnOk P w K mg base CX0 2 fF dF ["value"] (spIsFrac K))
    (FA : Fun K "_law_any" "_law_any" sAny fA dA) (GA : FnOk P w K mg base CX0 1 fA dA ["deal", "bound"] spAny)
    (FR : Fun K "_law_refused" "_law_refused" sRefused fR dR) (IQ : IsQ K CQ CN) (G : GloL mg fD fI fB fL fM fS fF fA fR CQ CN) :
    FnR P w K mg base CX0 (CG 6) f (PySem.W.fnOf "law" "law" (defArgs sLaw) (defBody sLaw) (defScope sLaw) .none kV doc pm an (.ref cc) ct) ["script"] (spLaw tb K) := by
  have bD : Binds K dD ["script", "salt"] [] := FD.binds fun _ _ _ _ _ _ us hl => match us, hl with | [_, _], _ => rfl
  have bI : Binds K dI ["deal"] [] := FI.binds fun _ _ _ _ _ _ us hl => match us, hl with | [_], _ => rfl
  have bB : Binds K dB ["deal"] [] := FB.binds fun _ _ _ _ _ _ us hl => match us, hl with | [_], _ => rfl
  have bL : Binds K dL ["top", "bottom"] [] := FL.binds fun _ _ _ _ _ _ us hl => match us, hl with | [_, _], _ => rfl
  have bM : Binds K dM ["top", "bottom"] [] := FM.binds fun _ _ _ _ _ _ us hl => match us, hl with | [_, _], _ => rfl
  have bS : Binds K dS ["one", "other"] [] := FS.binds fun _ _ _ _ _ _ us hl => match us, hl with | [_, _], _ => rfl
  have bF : Binds K dF ["value"] [] := FF.binds fun _ _ _ _ _ _ us hl => match us, hl with | [_], _ => rfl
  have bA : Binds K dA ["deal", "bound"] [] := FA.binds fun _ _ _ _ _ _ us hl => match us, hl with | [_, _], _ => rfl
  have kM := fkSwap FM (a := "top") (b := "bottom") fun _ _ _ _ _ _ _ _ => rfl
  have bR := FR.binds (ps := ["work"]) fun _ _ _ _ _ _ us hl => match us, hl with | [_], _ => rfl
  have kR := FR.kp
  obtain ⟨oc', od', kV', doc', pm', an', cdv', ct', osl', rfl, lkR, hcR⟩ := FR.ex
  refine fnG_of lk hcd scLaw (fun vs H Q E h => ?_) fun A outer s H vs Q E hr hgd h => ?_
  · obtain ⟨a, ns, rfl, _⟩ := h
    rfl
  have hu : (A.deeper (envOfC "law" (defScope sLaw) s.heap.objs.size f (.ref cc))).units + 66 < cLine := by
    have := hr.un
    omega
  have hu64 : (A.deeper (envOfC "law" (defScope sLaw) s.heap.objs.size f (.ref cc))).units + 64 < cLine := by omega
  have hC : ∀ pins σ H' s', L2.Inv (cxOf CX0 P w K mg base ["script", "deal", "turn", "bottom", "share", "one", "other", "many", "wrong", "value", "top"] "law" (defScope sLaw) f (.ref cc) A outer s H E).nox pins σ H' s' →
      CG 5 (A.deeper (envOfC "law" (defScope sLaw) s.heap.objs.size f (.ref cc))) (envOfC "law" (defScope sLaw) s.heap.objs.size f (.ref cc) :: outer) s' H' := fun _ _ _ _ _ => ⟨hr, hgd⟩
  refine ⟨_, PSs.nox (pss_cons (ps_set (i := 1) scLaw.nd rfl (.inl rfl) (pe_call GD (hr.mono (by decide)) (by rfl) G.draw FD.kp bD .nil pass0 (by exact (pa_cons (pv 0) (pa_cons pe_int pa_nil)))))
    (pss_cons (ps_for PassesOwn.never rfl (pi_range1 rfl G.ran (by exact pa_cons pe_int pa_nil)) (pg_name (i := 2) scLaw.nd rfl (.inl rfl))
      (pss_cons (ps_asg (pe_tup (pa_cons (pe_call GI (hr.mono (by decide)) (by rfl) G.int_ FI.kp bI .nil pass0 (by exact (pa_cons (pv 1) pa_nil))) (pa_cons (pe_call GB (hr.mono (by decide)) (by rfl) G.bot FB.kp bB .nil pass0 (by exact (pa_cons (pv 1) pa_nil))) (pa_cons (pe_call GB (hr.mono (by decide)) (by rfl) G.bot FB.kp bB .nil pass0 (by exact (pa_cons (pv 1) pa_nil))) pa_nil)))) (pg_tup (by rfl) (pgs_cons (pg_name (i := 10) scLaw.nd rfl (.inr rfl)) (pgs_cons (pg_name (i := 3) scLaw.nd rfl (.inl rfl)) (pgs_cons (pg_name (i := 4) scLaw.nd rfl (.inl rfl)) pgs_nil)))))
      (C8.pss_cut (ps_par (i := 5) (j := 6) (by rfl) scLaw.nd rfl rfl (by decide) rfl rfl (by exact (pa_cons (pe_call GL (hr.mono (by decide)) (by rfl) G.low FL.kp bL .nil pass0 (by exact (pa_cons (pv 10) (pa_cons (pv 3) pa_nil)))) (pa_cons (pe_call GL (hr.mono (by decide)) (by rfl) G.low FL.kp bL .nil pass0 (by exact (pa_cons (pe_call GI (hr.mono (by decide)) (by rfl) G.int_ FI.kp bI .nil pass0 (by exact (pa_cons (pv 1) pa_nil))) (pa_cons (pe_call GB (hr.mono (by decide)) (by rfl) G.bot FB.kp bB .nil pass0 (by exact (pa_cons (pv 1) pa_nil))) pa_nil)))) pa_nil))) (by rfl))
      (C8.pss_cut (ps_if (PW.pt (pw_or (pt_cmpR op_ne (pe_callB (cr_repr hgd hu) (by rfl) G.rep (by decide +kernel) (by exact pa_cons (pe_call GM (hr.mono (by decide)) (by rfl) G.made FM.kp bM .nil passL (by exact (pa_cons (pv 10) (pa_cons (pv 3) pa_nil)))) pa_nil)) (pe_callB (cr_repr hgd hu) (by rfl) G.rep (by decide +kernel) (by exact pa_cons (pv 5) pa_nil)) (nomark _)) (pw_or1 (pt_cmpR op_ne (pe_callB (cr_repr hgd hu) (by rfl) G.rep (by decide +kernel) (by exact pa_cons (by exact (pe_callK GM (hr.mono (by decide)) (by rfl) G.made FM.kp kM passL (by exact pk_cons (pe_op op_mul (pv 3) (pv 4)) (pk_cons (pe_op op_mul (pv 10) (pv 4)) pk_nil)))) pa_nil)) (pe_callB (cr_repr hgd hu) (by rfl) G.rep (by decide +kernel) (by exact pa_cons (pv 5) pa_nil)) (nomark _))))) (pss_one (ps_ret pe_bl)) pss_nil)
      (C8.pss_cut (ps_if (PW.pt (pw_or (pt_not (pt_val (by exact (pe_callR GS hC (by rfl) G.sums FS.kp bS pass0 (by exact (pa_cons (pv 5) (pa_cons (pv 6) pa_nil))))))) (pw_or1 (pt_not (pt_val (by exact (pe_callR GS hC (by rfl) G.sums FS.kp bS pass0 (by exact (pa_cons (pv 6) (pa_cons (pe_call GL (hr.mono (by decide)) (by rfl) G.low FL.kp bL .nil pass0 (by exact (pa_cons (pe_op op_add (pe_ix ix_tup (pv 6) pe_int (fun _ _ => rfl)) pe_int) (pa_cons (pe_ix ix_tup (pv 6) pe_int (fun _ _ => rfl)) pa_nil)))) pa_nil)))))))))) (pss_one (ps_ret pe_bl)) pss_nil)
      (C8.pss_cut (ps_if (PW.pt (pw_or (pt_cmpR op_isnot_bl (pe_call GF (hr.mono (by decide)) (by rfl) G.frac FF.kp bF .nil pass0 (by exact (pa_cons (pv 5) pa_nil))) pe_bl (nomark _)) (pw_or1 (pt_cmpR op_ne (pe_callB (cr_repr hgd hu) (by rfl) G.rep (by decide +kernel) (by exact pa_cons (pe_call GF (hr.mono (by decide)) (by rfl) G.frac FF.kp bF .nil pass0 (by exact (pa_cons (pe_tup (pa_cons (pv 10) (pa_cons (pv 3) pa_nil))) pa_nil))) pa_nil)) (pe_callB (cr_repr hgd hu) (by rfl) G.rep (by decide +kernel) (by exact pa_cons (pe_cmpR (op_eqD hu64) (pe_tup (pa_cons (pv 10) (pa_cons (pv 3) pa_nil))) (pv 5) (nomark _)) pa_nil)) (nomark _))))) (pss_one (ps_ret pe_bl)) pss_nil)
      (pss_cons (ps_set (i := 7) scLaw.nd rfl (.inl rfl) (pe_op op_add pe_int (pe_call GA (hr.mono (by decide)) (by rfl) G.any FA.kp bA .nil pass0 (by exact (pa_cons (pv 1) (pa_cons pe_int pa_nil))))))
      (pss_cons (ps_set (i := 8) scLaw.nd rfl (.inl rfl) (pe_lst (pa_cons (pe_lst (pa_cons (pe_ix ix_tup (pv 5) pe_int (fun _ _ => rfl)) (pa_cons (pe_ix ix_tup (pv 5) pe_int (fun _ _ => rfl)) pa_nil))) (pa_cons (pe_tup (pa_cons (pe_op op_mul (pe_ix ix_tup (pv 5) pe_int (fun _ _ => rfl)) (pv 7)) (pa_cons (pe_op op_mul (pe_ix ix_tup (pv 5) pe_int (fun _ _ => rfl)) (pv 7)) pa_nil))) (pa_cons (pe_tup (pa_cons (pe_ix ix_tup (pv 5) pe_int (fun _ _ => rfl)) (pa_cons (pe_op op_sub pe_int (pe_ix ix_tup (pv 5) pe_int (fun _ _ => rfl))) pa_nil))) (pa_cons (pe_tup (pa_cons (pe_ix ix_tup (pv 5) pe_int (fun _ _ => rfl)) (pa_cons pe_int pa_nil))) (pa_cons (pe_op op_catT (pv 5) (pe_tup (pa_cons pe_int pa_nil))) (pa_cons (pe_tup (pa_cons (pe_ix ix_tup (pv 5) pe_int (fun _ _ => rfl)) pa_nil)) (pa_cons pe_non pa_nil)))))))))
      (C8.pss_cut (ps_set (i := 8) scLaw.nd rfl (.inl rfl) (pe_op op_cat (pv 8) (pe_lst (pa_cons (pe_tup (pa_cons pe_bl (pa_cons (pe_ix ix_tup (pv 5) pe_int (fun _ _ => rfl)) pa_nil))) (pa_cons (pe_tup (pa_cons (pe_ix ix_tup (pv 5) pe_int (fun _ _ => rfl)) (pa_cons pe_bl pa_nil))) (pa_cons (pe_tup (pa_cons (pe_callTy call_str_int (by rfl) G.str (by decide +kernel) (by exact pa_cons (pe_ix ix_tup (pv 5) pe_int (fun _ _ => rfl)) pa_nil)) (pa_cons (pe_ix ix_tup (pv 5) pe_int (fun _ _ => rfl)) pa_nil))) (pa_cons pe_int (pa_cons pe_str (pa_cons (pe_tup (pa_cons pe_int (pa_cons (pv 7) pa_nil))) (pa_cons (pe_tup (pa_cons (pe_tup (pa_cons pe_int (pa_cons pe_int pa_nil))) (pa_cons pe_int pa_nil))) (pa_cons (pe_tup pa_nil) (pa_cons (pe_tup (pa_cons pe_int (pa_cons pe_int pa_nil))) pa_nil))))))))))))
      (C8.pss_cut (ps_for PassesOwn.never rfl (pi_list (pv 8)) (pg_name (i := 9) scLaw.nd rfl (.inl rfl)) (pss_one (ps_if (pt_cmpR op_isnot_bl (pe_call GF (hr.mono (by decide)) (by rfl) G.frac FF.kp bF .nil pass0 (by exact (pa_cons (pv 9) pa_nil))) pe_bl (nomark _)) (pss_one (ps_ret pe_bl)) pss_nil)))
      (C8.pss_cut (ps_if (pt_cmpR op_ne (by exact (pe_lamcall (T := [(tb, qL)]) (TT := TTref CQ) (Ng := ["work", "e"]) (a := "work") (k := 3) (t := fun E' => tCall (spMade CQ) [] E' (tCons (tVar 10) (tCons (tC (.int 0)) tNil))) (by rfl) G.refu FR.kp lkR hcR bR scRef rfl (.inl rfl)
        (gives IQ G.invq G.net G.isi) TB rfl (.head _) (fun p hp _ => by rw [List.mem_singleton.mp hp]; rfl) (hr.mono (by decide)) (show LamS (defScope sLaw) _ from lamS_by (by decide +kernel)) rfl (fun _ _ _ _ _ => rfl)
        (fun A' outer' s' H' E' f' c' hr' => (by exact (pe_call GM hr' (by rfl) G.made FM.kp bM .nil (passes_call (takes_of rfl rfl rfl rfl) fun _ _ _ _ z => z) (by exact (pa_cons (pv 10) (pa_cons pe_int pa_nil)))))))) pe_int (nomark _)) (pss_one (ps_ret pe_bl)) pss_nil)
      (pss_one (ps_if (pt_cmpR op_ne (by exact (pe_lamcall (T := [(tb, qL)]) (TT := TTref CQ) (Ng := ["work", "e"]) (a := "work") (k := 3) (t := fun E' => tCallK (["bottom", "top"] : List Str).length (spMade CQ) (fun _ zs => zs.reverse) E' (tCons (tC (.int 0)) (tCons (tC (.int 0)) tNil))) (by rfl) G.refu FR.kp lkR hcR bR scRef rfl (.inl rfl)
        (gives IQ G.invq G.net G.isi) TB rfl (.head _) (fun p hp _ => by rw [List.mem_singleton.mp hp]; rfl) (hr.mono (by decide)) (show LamS (defScope sLaw) _ from lamS_by (by decide +kernel)) rfl (fun _ _ _ _ _ => rfl)
        (fun A' outer' s' H' E' f' c' hr' => (by exact (pe_callK GM hr' (by rfl) G.made FM.kp kM (passes_call (takes_of rfl rfl rfl rfl) fun _ _ _ _ z => z) (by exact pk_cons pe_int (pk_cons pe_int pk_nil))))))) pe_int (nomark _)) (pss_one (ps_ret pe_bl)) pss_nil)))))))))))))
    (pss_one (ps_ret pe_bl)))), ?_⟩
  obtain ⟨a, ns, rfl, hS, ht, hQ⟩ := h
  refine ⟨.ref a, rfl, a, ns, 1, rfl, hS, by decide, by decide, fun H0 p q S0 np nq d0 => ?_⟩
  have T0 : Tabs [(tb, qL)] H0 := fun z hz => by rw [List.mem_singleton.mp hz]; exact TabS.nil (S0 _ _ ht)
  clear hS ht
  refine ⟨4, rfl, by decide, by decide, for_range (n := 4) (fun i σ H' => (∃ o2 o3 o4 o5 o6 o7 o8 o9 o10, σ = [some (.ref a), some (.ref p), o2, o3, o4, o5, o6, o7, o8, o9, o10]) ∧ Deal H' p q ∧ Tabs [(tb, qL)] H')
    ⟨⟨_, _, _, _, _, _, _, _, _, rfl⟩, d0, T0⟩ (fun i σ H' hi hp => ?_) (fun σ H' hp => hQ H')⟩
  clear d0 T0 S0 np nq
  obtain ⟨⟨o2, o3, o4, o5, o6, o7, o8, o9, o10, rfl⟩, d, T⟩ := hp
  refine ⟨.ref p, rfl, p, q, rfl, d, fun H1 t d1 f1 ht => ⟨.ref p, rfl, p, q, rfl, d1, fun H2 b d2 f2 nb hb => ⟨.ref p, rfl, p, q, rfl, d2, fun H3 s d3 f3 ns' hs => ⟨by show 3 ≤ sizeLine; decide, fun u hu => ?_⟩⟩⟩⟩
  have T3 := tabs_fix T d (f1.trans (f2.trans f3))
  clear T d1 f1 d2 f2 f3
  have E4 : Same H3 (upd H3 u (.tup [.int t, .int b, .int s])) := Same.new hu
  refine ⟨u, [.int t, .int b, .int s], rfl, SqT.of upd_same, rfl, _, _, rfl, _, _, rfl, _, _, rfl, rfl, ?_⟩
  have d4 := d3.same E4
  have T4 := T3.ext E4
  generalize upd H3 u (.tup [.int t, .int b, .int s]) = H4 at d4 T4
  clear E4 T3 d3 hu
  refine ⟨fun σ H => ∃ x y l2, l2.2 ≠ 0 ∧ l2.1.natAbs < 2 ^ 55 ∧ l2.2.natAbs < 2 ^ 55 ∧ Mid tb a p q t b s x y l2 σ H, ?_, ?_⟩
  · refine ⟨.int t, rfl, .int b, rfl, t, b, rfl, nb, lt200 hb, fun H5 x S5 hx => ?_⟩
    have E5 := S5.trans (Same.new (o := fr (low t b)) hx)
    have d5 := d4.same E5
    have T5 := T4.ext E5
    have hx5 : upd H5 x (fr (low t b)) x = some (fr (low t b)) := upd_same
    generalize upd H5 x (fr (low t b)) = H5' at d5 T5 hx5
    refine ⟨.ref p, rfl, p, q, rfl, d5, fun H6 t2 d6 f6 ht2 => ⟨.ref p, rfl, p, q, rfl, d6, fun H7 b2 d7 f7 nb2 hb2 => ⟨t2, b2, rfl, nb2, lt200 hb2, fun H8 y S8 hy => ⟨_, _, rfl, ?_⟩⟩⟩⟩
    have F := f6.trans f7
    have E8 := S8.trans (Same.new (o := fr (low t2 b2)) hy)
    have l := low_lt (t := t2) nb2
    have lp := low_pos (t := t2) nb2
    exact ⟨x, y, low t2 b2, by omega, by omega, by omega, ⟨_, _, _, _, rfl⟩, d7.same E8, (tabs_fix T5 d5 F).ext E8, E8 _ _ (fr_fix F d5 hx5), upd_same⟩
  clear d4 T4 H4 d H' H1 H2 H3
  rintro σ H1 ⟨x, y, l2, n2, m1, m2, M⟩
  have lb := low_lt (t := t) nb
  have lp := low_pos (t := t) nb
  have b1 : (low t b).1.natAbs < 2 ^ 55 := by omega
  have b2 : (low t b).2.natAbs < 2 ^ 55 := by omega
  have rx := low_rep nb (lt200 ht) (lt200 hb)
  refine ⟨Mid tb a p q t b s x y l2, ?_, ?_⟩
  · obtain ⟨⟨o2, o7, o8, o9, rfl⟩, d, T, hx, hy⟩ := M
    refine ⟨.int t, rfl, .int b, rfl, t, b, rfl, lt200 hb, fun _ m hm => ?_, fun z => absurd z nb⟩
    have E2 : Same H1 (upd H1 m (fr (low t b))) := Same.new hm
    refine ⟨.ref m, dFr (low t b), rfl, dp_fr upd_same, rx.s, rx.n, rx.h, rx.l, .ref x, rfl, .ref x, dFr (low t b), rfl, dp_fr (E2 _ _ hx), rx.s, rx.n, rx.h, rx.l, rfl, _, rfl, iteF' (by simp) ?_⟩
    generalize upd H1 m (fr (low t b)) = H2 at E2
    have e1 := low_scale (t := t) nb ns'
    have rx2 : Rep (dFr (low (t * s) (b * s))) := by rw [e1]; exact rx
    have k1 : (b * s).natAbs < 2 ^ 200 := Nat.lt_trans (mul_lt (lt60 hb) (lt60 hs)) (by decide)
    refine ⟨.int b, rfl, .int s, rfl, b, s, rfl, rfl, cm (lt60 hb), .int t, rfl, .int s, rfl, t, s, rfl, rfl, cm (lt60 ht), rfl, t * s, b * s, rfl, k1, fun _ m2 hm2 => ?_, fun z => absurd z (mul_ne nb ns')⟩
    have E3 := E2.trans (Same.new (o := fr (low (t * s) (b * s))) hm2)
    refine ⟨.ref m2, dFr (low (t * s) (b * s)), rfl, dp_fr upd_same, rx2.s, rx2.n, rx2.h, rx2.l, .ref x, rfl, .ref x, dFr (low t b), rfl, dp_fr (E3 _ _ hx), rx.s, rx.n, rx.h, rx.l, rfl, _, rfl, iteF' (by rw [e1]; simp) ?_⟩
    exact ⟨⟨_, _, _, _, rfl⟩, d.same E3, T.ext E3, E3 _ _ hx, E3 _ _ hy⟩
  clear M H1 σ
  intro σ H1 M
  refine ⟨Mid tb a p q t b s x y l2, ?_, ?_⟩
  · obtain ⟨⟨o2, o7, o8, o9, rfl⟩, d, T, hx, hy⟩ := M
    refine ⟨.ref x, rfl, .ref y, rfl, x, y, (low t b).1, (low t b).2, l2.1, l2.2, rfl, hx, hy, lt60 b1, lt60 b2, lt60 m1, lt60 m2, by omega, n2, fun H2 E2 => ⟨true, rfl, iteF ?_⟩⟩
    have hx2 := E2 _ _ hx
    have hy2 := E2 _ _ hy
    refine ⟨.ref y, rfl, .ref y, rfl, y, _, 0, .int l2.1, rfl, rfl, SqT.of hy2, rfl, _, 1, rfl, rfl, .ref y, rfl, y, _, 1, .int l2.2, rfl, rfl, SqT.of hy2, rfl, l2.1 + 1, l2.2, rfl, n2, lt200 m2, fun H3 z S3 hz => ?_⟩
    have E3 := S3.trans (Same.new (o := fr (low (l2.1 + 1) l2.2)) hz)
    have lz := low_lt (t := l2.1 + 1) n2
    have pz := low_pos (t := l2.1 + 1) n2
    refine ⟨y, z, l2.1, l2.2, (low (l2.1 + 1) l2.2).1, (low (l2.1 + 1) l2.2).2, rfl, E3 _ _ hy2, upd_same, lt60 m1, lt60 m2, by omega, by omega, n2, by omega, fun H4 E4 => ⟨true, rfl, iteF ?_⟩⟩
    have E := E2.trans (E3.trans E4)
    exact ⟨⟨_, _, _, _, rfl⟩, d.same E, T.ext E, E _ _ hx, E _ _ hy⟩
  clear M H1 σ
  intro σ H1 M
  refine ⟨Mid tb a p q t b s x y l2, ?_, ?_⟩
  · obtain ⟨⟨o2, o7, o8, o9, rfl⟩, d, T, hx, hy⟩ := M
    refine ⟨.ref x, rfl, .ref x, rfl, Or.inr ⟨x, _, rfl, hx, Or.inr ⟨_, _, _, _, rfl, .int _, .int _, _, true, rfl, rfl, _, rfl, iteF' (by rw [frac_low nb]; rfl) ?_⟩⟩⟩
    refine ⟨.int t, rfl, .int b, rfl, by show 2 ≤ sizeLine; decide, fun u hu => ?_⟩
    have E2 : Same H1 (upd H1 u (fr (t, b))) := Same.new hu
    have rb := rep_bool (fracB (some t) (some b))
    refine ⟨.ref u, rfl, Or.inr ⟨u, _, rfl, upd_same, Or.inr ⟨_, _, _, _, rfl, .int t, .int b, .bl (fracB (some t) (some b)), .bool (fracB (some t) (some b)), rfl, .bl _, rb.s, rb.n, rb.h, rb.l, ?_⟩⟩⟩
    refine ⟨.int t, rfl, .int b, rfl, by show 2 ≤ sizeLine; decide, fun u2 hu2 => ?_⟩
    have E3 : Same H1 (upd (upd H1 u (fr (t, b))) u2 (fr (t, b))) := E2.trans (Same.new hu2)
    have re := rep_bool (PyData.eqv (dFr (t, b)) (dFr (low t b)))
    have ee : PyData.eqv (dFr (t, b)) (dFr (low t b)) = fracB (some t) (some b) := by rw [eqv_fr, frac_iff nb]
    refine ⟨.ref x, rfl, dFr (t, b), dFr (low t b), dp_fr upd_same, dp_fr (E3 _ _ hx), by rfl, by rfl, .bl _, .bool (PyData.eqv (dFr (t, b)) (dFr (low t b))), rfl, .bl _, re.s, re.n, re.h, re.l, rfl, _, rfl, iteF' (by rw [ee]; simp) ?_⟩
    exact ⟨⟨_, _, _, _, rfl⟩, d.same E3, T.ext E3, E3 _ _ hx, E3 _ _ hy⟩
  clear M H1 σ
  rintro σ H1 ⟨⟨o2, o7, o8, o9, rfl⟩, d, T, hx, hy⟩
  refine ⟨.ref p, rfl, p, q, 5, rfl, d, by decide, by decide, fun H2 i d2 f2 i0 i1 => ⟨2, i, rfl, rfl, ?_⟩⟩
  have T2 := tabs_fix T d f2
  have hx2 := fr_fix f2 d hx
  have hy2 := fr_fix f2 d hy
  clear T d hx hy f2 H1
  have e2 : (fun i j : Int => V.int (i + j)) 2 i = .int (2 + i) := rfl
  obtain ⟨m, hm⟩ : ∃ m : Int, m = 2 + i := ⟨_, rfl⟩
  have hm2 : 2 ≤ m := by omega
  have hm7 : m.natAbs < 2 ^ 55 := by omega
  rw [e2, ← hm]
  clear e2 hm i0 i1
  refine ⟨.ref x, rfl, x, _, 0, .int (low t b).1, rfl, rfl, SqT.of hx2, rfl, .ref x, rfl, x, _, 1, .int (low t b).2, rfl, rfl, SqT.of hx2, rfl, by show 2 ≤ sizeLine; decide, fun p1 hp1 => ?_⟩
  have E3 : Same H2 (upd H2 p1 (.lst [.int (low t b).1, .int (low t b).2])) := Same.new hp1
  have F1 : upd H2 p1 (.lst [.int (low t b).1, .int (low t b).2]) p1 = some (.lst [.int (low t b).1, .int (low t b).2]) := upd_same
  generalize upd H2 p1 (.lst [.int (low t b).1, .int (low t b).2]) = H3 at E3 F1
  have hx3 := E3 _ _ hx2
  refine ⟨.ref x, rfl, x, _, 0, .int (low t b).1, rfl, rfl, SqT.of hx3, rfl, .int m, rfl, (low t b).1, m, rfl, rfl, cm (lt60 b1), .ref x, rfl, x, _, 1, .int (low t b).2, rfl, rfl, SqT.of hx3, rfl, .int m, rfl, (low t b).2, m, rfl, rfl, cm (lt60 b2), by show 2 ≤ sizeLine; decide, fun p2 hp2 => ?_⟩
  have E4 : Same H3 (upd H3 p2 (.tup [.int ((low t b).1 * m), .int ((low t b).2 * m)])) := Same.new hp2
  have F2 : upd H3 p2 (.tup [.int ((low t b).1 * m), .int ((low t b).2 * m)]) p2 = some (.tup [.int ((low t b).1 * m), .int ((low t b).2 * m)]) := upd_same
  generalize upd H3 p2 (.tup [.int ((low t b).1 * m), .int ((low t b).2 * m)]) = H4 at E4 F2
  have hx4 := E4 _ _ hx3
  replace F1 := E4 _ _ F1
  refine ⟨.ref x, rfl, x, _, 0, .int (low t b).1, rfl, rfl, SqT.of hx4, rfl, .ref x, rfl, x, _, 1, .int (low t b).2, rfl, rfl, SqT.of hx4, rfl, 0, (low t b).2, rfl, rfl, by show 2 ≤ sizeLine; decide, fun p3 hp3 => ?_⟩
  have E5 : Same H4 (upd H4 p3 (.tup [.int (low t b).1, .int (0 - (low t b).2)])) := Same.new hp3
  have F3 : upd H4 p3 (.tup [.int (low t b).1, .int (0 - (low t b).2)]) p3 = some (.tup [.int (low t b).1, .int (0 - (low t b).2)]) := upd_same
  generalize upd H4 p3 (.tup [.int (low t b).1, .int (0 - (low t b).2)]) = H5 at E5 F3
  have hx5 := E5 _ _ hx4
  replace F1 := E5 _ _ F1
  replace F2 := E5 _ _ F2
  refine ⟨.ref x, rfl, x, _, 0, .int (low t b).1, rfl, rfl, SqT.of hx5, rfl, by show 2 ≤ sizeLine; decide, fun p4 hp4 => ?_⟩
  have E6 : Same H5 (upd H5 p4 (.tup [.int (low t b).1, .int 0])) := Same.new hp4
  have F4 : upd H5 p4 (.tup [.int (low t b).1, .int 0]) p4 = some (.tup [.int (low t b).1, .int 0]) := upd_same
  generalize upd H5 p4 (.tup [.int (low t b).1, .int 0]) = H6 at E6 F4
  have hx6 := E6 _ _ hx5
  replace F1 := E6 _ _ F1
  replace F2 := E6 _ _ F2
  replace F3 := E6 _ _ F3
  refine ⟨.ref x, rfl, by show 1 ≤ sizeLine; decide, fun p5 hp5 => ?_⟩
  have E7 : Same H6 (upd H6 p5 (.tup [.int 1])) := Same.new hp5
  have F5 : upd H6 p5 (.tup [.int 1]) p5 = some (.tup [.int 1]) := upd_same
  generalize upd H6 p5 (.tup [.int 1]) = H7 at E7 F5
  have hx7 := E7 _ _ hx6
  replace F1 := E7 _ _ F1
  replace F2 := E7 _ _ F2
  replace F3 := E7 _ _ F3
  replace F4 := E7 _ _ F4
  refine ⟨x, p5, _, _, rfl, rfl, SqT.of hx7, SqT.of F5, (fun z => nomatch z), by show 3 ≤ sizeLine; decide, (fun z => nomatch z), fun _ => fun p6 hp6 => ?_⟩
  have E8 : Same H7 (upd H7 p6 (.tup ([.int (low t b).1, .int (low t b).2] ++ [.int 1]))) := Same.new hp6
  have F6 : upd H7 p6 (.tup ([.int (low t b).1, .int (low t b).2] ++ [.int 1])) p6 = some (.tup ([.int (low t b).1, .int (low t b).2] ++ [.int 1])) := upd_same
  generalize upd H7 p6 (.tup ([.int (low t b).1, .int (low t b).2] ++ [.int 1])) = H8 at E8 F6
  have hx8 := E8 _ _ hx7
  replace F1 := E8 _ _ F1
  replace F2 := E8 _ _ F2
  replace F3 := E8 _ _ F3
  replace F4 := E8 _ _ F4
  replace F5 := E8 _ _ F5
  refine ⟨.ref x, rfl, x, _, 0, .int (low t b).1, rfl, rfl, SqT.of hx8, rfl, by show 1 ≤ sizeLine; decide, fun p7 hp7 => ?_⟩
  have E9 : Same H8 (upd H8 p7 (.tup [.int (low t b).1])) := Same.new hp7
  have F7 : upd H8 p7 (.tup [.int (low t b).1]) p7 = some (.tup [.int (low t b).1]) := upd_same
  generalize upd H8 p7 (.tup [.int (low t b).1]) = H9 at E9 F7
  have hx9 := E9 _ _ hx8
  replace F1 := E9 _ _ F1
  replace F2 := E9 _ _ F2
  replace F3 := E9 _ _ F3
  replace F4 := E9 _ _ F4
  replace F5 := E9 _ _ F5
  replace F6 := E9 _ _ F6
  refine ⟨by show 7 ≤ sizeLine; decide, fun p8 hp8 => ?_⟩
  have E10 : Same H9 (upd H9 p8 (.lst [.ref p1, .ref p2, .ref p3, .ref p4, .ref p6, .ref p7, .non])) := Same.new hp8
  have F8 : upd H9 p8 (.lst [.ref p1, .ref p2, .ref p3, .ref p4, .ref p6, .ref p7, .non]) p8 = some (.lst [.ref p1, .ref p2, .ref p3, .ref p4, .ref p6, .ref p7, .non]) := upd_same
  generalize upd H9 p8 (.lst [.ref p1, .ref p2, .ref p3, .ref p4, .ref p6, .ref p7, .non]) = H10 at E10 F8
  have hx10 := E10 _ _ hx9
  replace F1 := E10 _ _ F1
  replace F2 := E10 _ _ F2
  replace F3 := E10 _ _ F3
  replace F4 := E10 _ _ F4
  replace F5 := E10 _ _ F5
  replace F6 := E10 _ _ F6
  replace F7 := E10 _ _ F7
  refine ⟨fun σ H => ∃ l ws, (∃ o2 o7 o9, σ = [some (.ref a), some (.ref p), o2, some (.int b), some (.int s), some (.ref x), some (.ref y), o7, some (.ref l), o9, some (.int t)]) ∧ Deal H p q ∧ Tabs [(tb, qL)] H ∧ H x = some (fr (low t b)) ∧ H y = some (fr l2) ∧ H l = some (.lst ws) ∧ ∀ v ∈ ws, NotFrac K H v, ?_, ?_⟩
  · refine ⟨.ref p8, rfl, .ref x, rfl, x, _, 1, .int (low t b).2, rfl, rfl, SqT.of hx10, rfl, by show 2 ≤ sizeLine; decide, fun p9 hp9 => ?_⟩
    have E11 : Same H10 (upd H10 p9 (.tup [.bl true, .int (low t b).2])) := Same.new hp9
    have F9 : upd H10 p9 (.tup [.bl true, .int (low t b).2]) p9 = some (.tup [.bl true, .int (low t b).2]) := upd_same
    generalize upd H10 p9 (.tup [.bl true, .int (low t b).2]) = H11 at E11 F9
    have hx11 := E11 _ _ hx10
    replace F1 := E11 _ _ F1
    replace F2 := E11 _ _ F2
    replace F3 := E11 _ _ F3
    replace F4 := E11 _ _ F4
    replace F5 := E11 _ _ F5
    replace F6 := E11 _ _ F6
    replace F7 := E11 _ _ F7
    replace F8 := E11 _ _ F8
    refine ⟨.ref x, rfl, x, _, 0, .int (low t b).1, rfl, rfl, SqT.of hx11, rfl, by show 2 ≤ sizeLine; decide, fun p10 hp10 => ?_⟩
    have E12 : Same H11 (upd H11 p10 (.tup [.int (low t b).1, .bl true])) := Same.new hp10
    have F10 : upd H11 p10 (.tup [.int (low t b).1, .bl true]) p10 = some (.tup [.int (low t b).1, .bl true]) := upd_same
    generalize upd H11 p10 (.tup [.int (low t b).1, .bl true]) = H12 at E12 F10
    have hx12 := E12 _ _ hx11
    replace F1 := E12 _ _ F1
    replace F2 := E12 _ _ F2
    replace F3 := E12 _ _ F3
    replace F4 := E12 _ _ F4
    replace F5 := E12 _ _ F5
    replace F6 := E12 _ _ F6
    replace F7 := E12 _ _ F7
    replace F8 := E12 _ _ F8
    replace F9 := E12 _ _ F9
    refine ⟨.ref x, rfl, x, _, 0, .int (low t b).1, rfl, rfl, SqT.of hx12, rfl, (low t b).1, rfl, Nat.lt_trans (lg (lt200 b1)) (by decide), .ref x, rfl, x, _, 1, .int (low t b).2, rfl, rfl, SqT.of hx12, rfl, by show 2 ≤ sizeLine; decide, fun p11 hp11 => ?_⟩
    have E13 : Same H12 (upd H12 p11 (.tup [.str (toString (low t b).1), .int (low t b).2])) := Same.new hp11
    have F11 : upd H12 p11 (.tup [.str (toString (low t b).1), .int (low t b).2]) p11 = some (.tup [.str (toString (low t b).1), .int (low t b).2]) := upd_same
    generalize upd H12 p11 (.tup [.str (toString (low t b).1), .int (low t b).2]) = H13 at E13 F11
    have hx13 := E13 _ _ hx12
    replace F1 := E13 _ _ F1
    replace F2 := E13 _ _ F2
    replace F3 := E13 _ _ F3
    replace F4 := E13 _ _ F4
    replace F5 := E13 _ _ F5
    replace F6 := E13 _ _ F6
    replace F7 := E13 _ _ F7
    replace F8 := E13 _ _ F8
    replace F9 := E13 _ _ F9
    replace F10 := E13 _ _ F10
    refine ⟨.int m, rfl, by show 2 ≤ sizeLine; decide, fun p12 hp12 => ?_⟩
    have E14 : Same H13 (upd H13 p12 (.tup [.int 0, .int m])) := Same.new hp12
    have F12 : upd H13 p12 (.tup [.int 0, .int m]) p12 = some (.tup [.int 0, .int m]) := upd_same
    generalize upd H13 p12 (.tup [.int 0, .int m]) = H14 at E14 F12
    have hx14 := E14 _ _ hx13
    replace F1 := E14 _ _ F1
    replace F2 := E14 _ _ F2
    replace F3 := E14 _ _ F3
    replace F4 := E14 _ _ F4
    replace F5 := E14 _ _ F5
    replace F6 := E14 _ _ F6
    replace F7 := E14 _ _ F7
    replace F8 := E14 _ _ F8
    replace F9 := E14 _ _ F9
    replace F10 := E14 _ _ F10
    replace F11 := E14 _ _ F11
    refine ⟨by show 2 ≤ sizeLine; decide, fun p13 hp13 => ?_⟩
    have E15 : Same H14 (upd H14 p13 (.tup [.int 1, .int 2])) := Same.new hp13
    have F13 : upd H14 p13 (.tup [.int 1, .int 2]) p13 = some (.tup [.int 1, .int 2]) := upd_same
    generalize upd H14 p13 (.tup [.int 1, .int 2]) = H15 at E15 F13
    have hx15 := E15 _ _ hx14
    replace F1 := E15 _ _ F1
    replace F2 := E15 _ _ F2
    replace F3 := E15 _ _ F3
    replace F4 := E15 _ _ F4
    replace F5 := E15 _ _ F5
    replace F6 := E15 _ _ F6
    replace F7 := E15 _ _ F7
    replace F8 := E15 _ _ F8
    replace F9 := E15 _ _ F9
    replace F10 := E15 _ _ F10
    replace F11 := E15 _ _ F11
    replace F12 := E15 _ _ F12
    refine ⟨by show 2 ≤ sizeLine; decide, fun p14 hp14 => ?_⟩
    have E16 : Same H15 (upd H15 p14 (.tup [.ref p13, .int 3])) := Same.new hp14
    have F14 : upd H15 p14 (.tup [.ref p13, .int 3]) p14 = some (.tup [.ref p13, .int 3]) := upd_same
    generalize upd H15 p14 (.tup [.ref p13, .int 3]) = H16 at E16 F14
    have hx16 := E16 _ _ hx15
    replace F1 := E16 _ _ F1
    replace F2 := E16 _ _ F2
    replace F3 := E16 _ _ F3
    replace F4 := E16 _ _ F4
    replace F5 := E16 _ _ F5
    replace F6 := E16 _ _ F6
    replace F7 := E16 _ _ F7
    replace F8 := E16 _ _ F8
    replace F9 := E16 _ _ F9
    replace F10 := E16 _ _ F10
    replace F11 := E16 _ _ F11
    replace F12 := E16 _ _ F12
    replace F13 := E16 _ _ F13
    refine ⟨by show 0 ≤ sizeLine; decide, fun p15 hp15 => ?_⟩
    have E17 : Same H16 (upd H16 p15 (.tup [])) := Same.new hp15
    have F15 : upd H16 p15 (.tup []) p15 = some (.tup []) := upd_same
    generalize upd H16 p15 (.tup []) = H17 at E17 F15
    have hx17 := E17 _ _ hx16
    replace F1 := E17 _ _ F1
    replace F2 := E17 _ _ F2
    replace F3 := E17 _ _ F3
    replace F4 := E17 _ _ F4
    replace F5 := E17 _ _ F5
    replace F6 := E17 _ _ F6
    replace F7 := E17 _ _ F7
    replace F8 := E17 _ _ F8
    replace F9 := E17 _ _ F9
    replace F10 := E17 _ _ F10
    replace F11 := E17 _ _ F11
    replace F12 := E17 _ _ F12
    replace F13 := E17 _ _ F13
    replace F14 := E17 _ _ F14
    refine ⟨by show 2 ≤ sizeLine; decide, fun p16 hp16 => ?_⟩
    have E18 : Same H17 (upd H17 p16 (.tup [.int 0, .int 0])) := Same.new hp16
    have F16 : upd H17 p16 (.tup [.int 0, .int 0]) p16 = some (.tup [.int 0, .int 0]) := upd_same
    generalize upd H17 p16 (.tup [.int 0, .int 0]) = H18 at E18 F16
    have hx18 := E18 _ _ hx17
    replace F1 := E18 _ _ F1
    replace F2 := E18 _ _ F2
    replace F3 := E18 _ _ F3
    replace F4 := E18 _ _ F4
    replace F5 := E18 _ _ F5
    replace F6 := E18 _ _ F6
    replace F7 := E18 _ _ F7
    replace F8 := E18 _ _ F8
    replace F9 := E18 _ _ F9
    replace F10 := E18 _ _ F10
    replace F11 := E18 _ _ F11
    replace F12 := E18 _ _ F12
    replace F13 := E18 _ _ F13
    replace F14 := E18 _ _ F14
    replace F15 := E18 _ _ F15
    refine ⟨by show 9 ≤ sizeLine; decide, fun p17 hp17 => ?_⟩
    have E19 : Same H18 (upd H18 p17 (.lst [.ref p9, .ref p10, .ref p11, .int 3, .str ("1/2" : Str), .ref p12, .ref p14, .ref p15, .ref p16])) := Same.new hp17
    have F17 : upd H18 p17 (.lst [.ref p9, .ref p10, .ref p11, .int 3, .str ("1/2" : Str), .ref p12, .ref p14, .ref p15, .ref p16]) p17 = some (.lst [.ref p9, .ref p10, .ref p11, .int 3, .str ("1/2" : Str), .ref p12, .ref p14, .ref p15, .ref p16]) := upd_same
    generalize upd H18 p17 (.lst [.ref p9, .ref p10, .ref p11, .int 3, .str ("1/2" : Str), .ref p12, .ref p14, .ref p15, .ref p16]) = H19 at E19 F17
    have hx19 := E19 _ _ hx18
    replace F1 := E19 _ _ F1
    replace F2 := E19 _ _ F2
    replace F3 := E19 _ _ F3
    replace F4 := E19 _ _ F4
    replace F5 := E19 _ _ F5
    replace F6 := E19 _ _ F6
    replace F7 := E19 _ _ F7
    replace F8 := E19 _ _ F8
    replace F9 := E19 _ _ F9
    replace F10 := E19 _ _ F10
    replace F11 := E19 _ _ F11
    replace F12 := E19 _ _ F12
    replace F13 := E19 _ _ F13
    replace F14 := E19 _ _ F14
    replace F15 := E19 _ _ F15
    replace F16 := E19 _ _ F16
    refine ⟨p8, p17, _, _, rfl, rfl, F8, F17, by show 16 ≤ sizeLine; decide, fun p18 hp18 => ?_⟩
    have E20 : Same H19 (upd H19 p18 (.lst ([.ref p1, .ref p2, .ref p3, .ref p4, .ref p6, .ref p7, .non] ++ [.ref p9, .ref p10, .ref p11, .int 3, .str ("1/2" : Str), .ref p12, .ref p14, .ref p15, .ref p16]))) := Same.new hp18
    have F18 : upd H19 p18 (.lst ([.ref p1, .ref p2, .ref p3, .ref p4, .ref p6, .ref p7, .non] ++ [.ref p9, .ref p10, .ref p11, .int 3, .str ("1/2" : Str), .ref p12, .ref p14, .ref p15, .ref p16])) p18 = some (.lst ([.ref p1, .ref p2, .ref p3, .ref p4, .ref p6, .ref p7, .non] ++ [.ref p9, .ref p10, .ref p11, .int 3, .str ("1/2" : Str), .ref p12, .ref p14, .ref p15, .ref p16])) := upd_same
    generalize upd H19 p18 (.lst ([.ref p1, .ref p2, .ref p3, .ref p4, .ref p6, .ref p7, .non] ++ [.ref p9, .ref p10, .ref p11, .int 3, .str ("1/2" : Str), .ref p12, .ref p14, .ref p15, .ref p16])) = H20 at E20 F18
    have hx20 := E20 _ _ hx19
    replace F1 := E20 _ _ F1
    replace F2 := E20 _ _ F2
    replace F3 := E20 _ _ F3
    replace F4 := E20 _ _ F4
    replace F5 := E20 _ _ F5
    replace F6 := E20 _ _ F6
    replace F7 := E20 _ _ F7
    replace F8 := E20 _ _ F8
    replace F9 := E20 _ _ F9
    replace F10 := E20 _ _ F10
    replace F11 := E20 _ _ F11
    replace F12 := E20 _ _ F12
    replace F13 := E20 _ _ F13
    replace F14 := E20 _ _ F14
    replace F15 := E20 _ _ F15
    replace F16 := E20 _ _ F16
    replace F17 := E20 _ _ F17
    have E := (((((((((((((((((E3.trans E4).trans E5).trans E6).trans E7).trans E8).trans E9).trans E10).trans E11).trans E12).trans E13).trans E14).trans E15).trans E16).trans E17).trans E18).trans E19).trans E20)
    refine ⟨p18, _, ⟨_, _, _, rfl⟩, d2.same E, T2.ext E, hx20, E _ _ hy2, F18, ?_⟩
    intro v hv
    simp only [List.cons_append, List.nil_append, List.mem_cons, List.not_mem_nil, or_false] at hv
    rcases hv with h | h | h | h | h | h | h | h | h | h | h | h | h | h | h | h <;> subst h
    · exact nf_lst F1
    · exact nf_pair F2 (w_many hm2)
    · exact nf_pair F3 (w_neg lp)
    · exact nf_pair F4 w_zero
    · exact nf_len F6 (by simp)
    · exact nf_len F7 (by simp)
    · exact nf_non
    · exact nf_k F9 (kin_bl _) (.int _) (fracN1 _)
    · exact nf_k F10 (.int _) (kin_bl _) (fracN2 _)
    · exact nf_k F11 (kin_str _) (.int _) (fracN1 _)
    · exact nf_int
    · exact nf_str
    · exact nf_pair F12 (w_0m hm2)
    · exact nf_k F14 (kin_tup F13) (.int _) (fracN1 _)
    · exact nf_len F15 (by simp)
    · exact nf_pair F16 rfl
  clear d2 T2 hx2 hy2 hm7 F1 hp1 F2 hp2 F3 hp3 F4 hp4 F5 hp5 F6 hp6 F7 hp7 F8 hp8 E3 hx3 E4 hx4 E5 hx5 E6 hx6 E7 hx7 E8 hx8 E9 hx9 E10 hx10
  rintro σ H1 ⟨l, ws, ⟨o2, o7, o9, rfl⟩, d, T, hx, hy, hl, hw⟩
  refine ⟨Mid tb a p q t b s x y l2, ?_, ?_⟩
  · refine ⟨.ref l, rfl, l, rfl, ⟨_, SqL.of hl⟩, for_list (xs := ws) (fun i σ H' => H' = H1 ∧ ∃ o9, σ = [some (.ref a), some (.ref p), o2, some (.int b), some (.int s), some (.ref x), some (.ref y), o7, some (.ref l), o9, some (.int t)])
      ⟨rfl, _, rfl⟩ (fun i σ H' _ z => by rw [z.1]; exact SqL.of hl) (fun i v σ H' hi z => ?_) (fun σ H' z => ?_)⟩
    · obtain ⟨rfl, o9, rfl⟩ := z
      rcases hw v (List.mem_of_getElem? hi) with ⟨n, ty, k⟩ | ⟨a', xs, e, ha', h⟩
      · exact ⟨v, rfl, v, rfl, Or.inl ⟨n, ty, k, false, false, rfl, rfl, _, rfl, iteF' (by decide) ⟨rfl, _, rfl⟩⟩⟩
      · rcases h with h | ⟨y', z', o1, o2', e2, k1, k2, hf⟩
        · exact ⟨v, rfl, v, rfl, Or.inr ⟨a', xs, e, ha', Or.inl ⟨h, false, false, rfl, rfl, _, rfl, iteF' (by decide) ⟨rfl, _, rfl⟩⟩⟩⟩
        · exact ⟨v, rfl, v, rfl, Or.inr ⟨a', xs, e, ha', Or.inr ⟨y', z', o1, o2', e2, k1, k2, fracB o1 o2', false, rfl, rfl, _, rfl, iteF' (by rw [hf]; rfl) ⟨rfl, _, rfl⟩⟩⟩⟩
    · obtain ⟨rfl, o9, rfl⟩ := z
      exact ⟨⟨_, _, _, _, rfl⟩, d, T, hx, hy⟩
  clear hw hl d T hx hy H1
  rintro σ H1 ⟨⟨o2, o7, o8, o9, rfl⟩, d, T, hx, hy⟩
  refine ⟨Mid tb a p q t b s x y l2, ?_, ?_⟩
  · refine ⟨T, fun H2 e T2 => ?_⟩
    refine ⟨.int t, rfl, t, 0, rfl, by decide, fun z => absurd rfl z, fun _ dd hdd => ⟨dd, .int 1, rfl, rfl, upd_same, rfl, _, rfl, iteF' (by decide) ?_⟩⟩
    have E : Same H2 (upd H2 dd (.xd [(("at" : Str), .int 1)])) := Same.new hdd
    exact ⟨⟨_, _, _, _, rfl⟩, (d.extN e).same E, T2.ext E, E _ _ (fr_extN e hx), E _ _ (fr_extN e hy)⟩
  clear d T hx hy H1
  rintro σ H1 ⟨⟨o2, o7, o8, o9, rfl⟩, d, T, hx, hy⟩
  refine ⟨T, fun H2 e T2 => ?_⟩
  refine ⟨rfl, 0, 0, rfl, by decide, fun z => absurd rfl z, fun _ dd hdd => ⟨dd, .int 1, rfl, rfl, upd_same, rfl, _, rfl, iteF' (by decide) ?_⟩⟩
  have E : Same H2 (upd H2 dd (.xd [(("at" : Str), .int 1)])) := Same.new hdd
  exact ⟨⟨_, _, _, _, _, _, _, _, _, rfl⟩, (d.extN e).same E, T2.ext E⟩
end
end K01

namespace K01
open PySem PySem.Spec PyProof.Rows L2 L2H KX
/-! what the top has written, as one test -/
def ClsAt (K : PySem.W.Frag) (c : Addr) : Prop := ∃ nm q N bs bm sn sub ab col dd k0 k1 k2 k3 k5,
  K.lookup c = some (excClassObj nm q c N bs bm true sn sub ab col dd k0 k1 k2 k3 k5 "ValueError.__new__") ∧ PySem.HandSPX.refsVE bm = true
def IniAt (K : PySem.W.Frag) (qn : Str) (f : Addr) : Prop :=
  ∃ (oc : Value) (od : Option Addr) (doc pm : Value) (an : Option Addr) (cdv ct : Value) (osl : Array (Option Value)) (p1 p2 q1 q2 q3 q4 : Pos),
    K.lookup f = some ⟨oc, od, .func (PySem.W.fnOf "__init__" qn (PySem.ErrX.iA p1 p2) (PySem.ErrX.iB q1 q2 q3 q4) PySem.ErrX.iS .none .none doc pm an cdv ct), osl⟩ ∧
      PySem.W.codeIn K cdv qn = true
def okE (K : PySem.W.Frag) (c f cn : Addr) : Bool :=
  xfB K c && (decide (PySem.W.findIn K (.ref c) "at" = some none) &&
  (decide (PySem.W.findIn K (.ref c) "__setattr__" = some (some (.builtin "object.__setattr__"))) &&
  (decide (PySem.W.findIn K (.ref c) "__init__" = some (some (.ref f))) &&
  (decide (PySem.W.typeIn K (.ref f) = some (.type "function")) && (PySem.W.keepIn K (.ref c) &&
  (decide (PySem.W.typeIn K (.ref c) = some (.type "type")) && (decide (PySem.W.exmOne K (.ref c) (.ref c) = some true) &&
  (decide (PySem.W.findIn K (.ref c) "__class__" = some (some (.builtin "object.__class__"))) &&
  (decide (PySem.W.specialIn K (.builtin "object.__class__") "__get__" = some (some (.builtin "getset_descriptor.__get__"))) &&
  (decide (PySem.W.takesIn K (.builtin "object.__class__") = some true) && (decide (PySem.W.mroIn K c (.type "object") = some true) &&
  (decide (PySem.W.kitOne K (.ref c) (.type "ValueError") = some true) &&
   decide (PySem.W.exmOne K (.ref c) (.ref cn) = some true)))))))))))))
structure OkE (K : PySem.W.Frag) (c f cn : Addr) : Prop where
  xf : XfC K c
  no : PySem.W.findIn K (.ref c) "at" = some none
  sa : PySem.W.findIn K (.ref c) "__setattr__" = some (some (.builtin "object.__setattr__"))
  ini : PySem.W.findIn K (.ref c) "__init__" = some (some (.ref f))
  tf : PySem.W.typeIn K (.ref f) = some (.type "function")
  kc : PySem.W.keepIn K (.ref c) = true
  ty : PySem.W.typeIn K (.ref c) = some (.type "type")
  te : PySem.W.exmOne K (.ref c) (.ref c) = some true
  ha : PySem.W.findIn K (.ref c) "__class__" = some (some (.builtin "object.__class__"))
  hn : PySem.W.specialIn K (.builtin "object.__class__") "__get__" = some (some (.builtin "getset_descriptor.__get__"))
  ht : PySem.W.takesIn K (.builtin "object.__class__") = some true
  hm : PySem.W.mroIn K c (.type "object") = some true
  ve : PySem.W.kitOne K (.ref c) (.type "ValueError") = some true
  exm : PySem.W.exmOne K (.ref c) (.ref cn) = some true
theorem okE_ok {K : PySem.W.Frag} {c f cn : Addr} (h : okE K c f cn = true) : OkE K c f cn := by
  unfold okE at h
  simp only [Bool.and_eq_true, decide_eq_true_eq] at h
  obtain ⟨h1, h2, h3, h4, h5, h6, h7, h8, h9, h10, h11, h12, h13, h14⟩ := h
  exact ⟨xfB_ok h1, h2, h3, h4, h5, h6, h7, h8, h9, h10, h11, h12, h13, h14⟩
theorem err_of {K : PySem.W.Frag} {mg : Str → Option Value} {en qn : Str} {c f cn : Addr} (z : OkE K c f cn)
    (g : mg en = some (.ref c)) (hc : ClsAt K c) (hf : IniAt K qn f) : PySem.ErrX.ErrTxt K mg en qn c f :=
  ⟨g, hc, z.sa, z.xf.ga, z.xf.gg, z.no, z.ini, z.tf, z.kc, z.xf.exC, z.ty, z.xf.hdC, z.te, hf⟩
/-- a def of the top at f -/
def DefAt (K : PySem.W.Frag) (x : Str) (st : Stmt) (f : Addr) : Prop :=
  ∃ (oc : Value) (od : Option Addr) (kV doc pm : Value) (an : Option Addr) (cdv ct : Value) (osl : Array (Option Value)),
    K.lookup f = some ⟨oc, od, .func (PySem.W.fnOf x x (defArgs st) (defBody st) (defScope st) .none kV doc pm an cdv ct), osl⟩ ∧
      PySem.W.codeIn K cdv x = true
theorem fun_of {K : PySem.W.Frag} {x : Str} {st : Stmt} {f : Addr} (h : DefAt K x st f) (k : PySem.W.keepIn K (.ref f) = true) :
    ∃ fd kV doc pm an cdv ct, fd = PySem.W.fnOf x x (defArgs st) (defBody st) (defScope st) .none kV doc pm an cdv ct ∧ Fun K x x st f fd := by
  obtain ⟨oc, od, kV, doc, pm, an, cdv, ct, osl, l, c⟩ := h
  exact ⟨_, kV, doc, pm, an, cdv, ct, rfl, fun_mk l c k⟩

theorem all_mk {l : PySem.W.OpenLaw} {w : World} {K : PySem.W.Frag} {h : Heap} {mg : Str → Option Value} {fa : Addr} (X : K.In h)
    (G : h.Ns mainGlobals mg) (hfa : mg "law" = some (.ref fa))
    {cQ cn fQ cc tb fL : Addr} {fZ1 fU1 fF1 fM1 fP1 fE1 fT1 fC1 fD1 fA1 fO1 fW1 fI1 fB1 fR1 fS1 : Addr}
    (aQ : PySem.W.nsIn K mainGlobals "InvalidQuestion" = some (some (.ref cQ)))
    (aN : PySem.W.nsIn K mainGlobals "NetError" = some (some (.ref cn)))
    (iQ : PySem.W.findIn K (.ref cQ) "__init__" = some (some (.ref fQ)))
    (ok : okE K cQ fQ cn = true) (kit : PySem.W.kitOne K (.ref cQ) (.ref cn) = some true)
    (xQ : ClsAt K cQ) (yQ : IniAt K "InvalidQuestion.__init__" fQ)
    (gg : PySem.W.nsIn K mainGlobals "gcd" = some (some (.builtin "math.gcd")))
    (gZ : PySem.W.nsIn K mainGlobals "is_integer" = some (some (.ref fZ1))) (dZ : DefAt K "is_integer" sIsInt fZ1) (kZ : PySem.W.keepIn K (.ref fZ1) = true)
    (gU : PySem.W.nsIn K mainGlobals "is_tuple_of" = some (some (.ref fU1))) (dU : DefAt K "is_tuple_of" sIsTup fU1) (kU : PySem.W.keepIn K (.ref fU1) = true)
    (gF : PySem.W.nsIn K mainGlobals "is_fraction" = some (some (.ref fF1))) (dF : DefAt K "is_fraction" sIsFrac fF1) (kF : PySem.W.keepIn K (.ref fF1) = true)
    (gM : PySem.W.nsIn K mainGlobals "made" = some (some (.ref fM1))) (dM : DefAt K "made" sMade fM1) (kM : PySem.W.keepIn K (.ref fM1) = true)
    (gP : PySem.W.nsIn K mainGlobals "added" = some (some (.ref fP1))) (dP : DefAt K "added" sAdded fP1) (kP : PySem.W.keepIn K (.ref fP1) = true)
    (gE : PySem.W.nsIn K mainGlobals "less" = some (some (.ref fE1))) (dE : DefAt K "less" sLess fE1) (kE : PySem.W.keepIn K (.ref fE1) = true)
    (gT : PySem.W.nsIn K mainGlobals "times" = some (some (.ref fT1))) (dT : DefAt K "times" sTimes fT1) (kT : PySem.W.keepIn K (.ref fT1) = true)
    (gC : PySem.W.nsIn K mainGlobals "compared" = some (some (.ref fC1))) (dC : DefAt K "compared" sComp fC1) (kC : PySem.W.keepIn K (.ref fC1) = true)
    (gD : PySem.W.nsIn K mainGlobals "_law_draw" = some (some (.ref fD1))) (dD : DefAt K "_law_draw" sDraw fD1) (kD : PySem.W.keepIn K (.ref fD1) = true)
    (gA : PySem.W.nsIn K mainGlobals "_law_any" = some (some (.ref fA1))) (dA : DefAt K "_law_any" sAny fA1) (kA : PySem.W.keepIn K (.ref fA1) = true)
    (gO : PySem.W.nsIn K mainGlobals "_law_of" = some (some (.ref fO1))) (dO : DefAt K "_law_of" sOf fO1) (kO : PySem.W.keepIn K (.ref fO1) = true)
    (gW : PySem.W.nsIn K mainGlobals "_law_low" = some (some (.ref fW1))) (dW : DefAt K "_law_low" sLow fW1) (kW : PySem.W.keepIn K (.ref fW1) = true)
    (gI : PySem.W.nsIn K mainGlobals "_law_integer" = some (some (.ref fI1))) (dI : DefAt K "_law_integer" sInteger fI1) (kI : PySem.W.keepIn K (.ref fI1) = true)
    (gB : PySem.W.nsIn K mainGlobals "_law_bottom" = some (some (.ref fB1))) (dB : DefAt K "_law_bottom" sBottom fB1) (kB : PySem.W.keepIn K (.ref fB1) = true)
    (gR : PySem.W.nsIn K mainGlobals "_law_refused" = some (some (.ref fR1))) (dR : DefAt K "_law_refused" sRefused fR1) (kR : PySem.W.keepIn K (.ref fR1) = true)
    (gS : PySem.W.nsIn K mainGlobals "_law_sums_right" = some (some (.ref fS1))) (dS : DefAt K "_law_sums_right" sSums fS1) (kS : PySem.W.keepIn K (.ref fS1) = true)
    (gL : PySem.W.nsIn K mainGlobals "law" = some (some (.ref fL)))
    (dL : ∃ (oc : Value) (od : Option Addr) (kV doc pm : Value) (an : Option Addr) (ct : Value) (osl : Array (Option Value)),
      K.lookup fL = some ⟨oc, od, .func (PySem.W.fnOf "law" "law" (defArgs sLaw) (defBody sLaw) (defScope sLaw) .none kV doc pm an (.ref cc) ct), osl⟩ ∧ PySem.W.codeIn K (.ref cc) "law" = true)
    (z_isinstance : PySem.W.nsIn K mainGlobals "isinstance" = some none)
    (z_int : PySem.W.nsIn K mainGlobals "int" = some none)
    (z_bool : PySem.W.nsIn K mainGlobals "bool" = some none)
    (z_tuple : PySem.W.nsIn K mainGlobals "tuple" = some none)
    (z_len : PySem.W.nsIn K mainGlobals "len" = some none)
    (z_abs : PySem.W.nsIn K mainGlobals "abs" = some none)
    (z_repr : PySem.W.nsIn K mainGlobals "repr" = some none)
    (z_range : PySem.W.nsIn K mainGlobals "range" = some none)
    (z_str : PySem.W.nsIn K mainGlobals "str" = some none)
    : ∃ fd : FuncData, (∀ (s : Shared) (u : Value), BindsTo s fd ⟨[u], []⟩ [("script", u)]) ∧
      ∀ base : Heap, K.In base → base.Ns mainGlobals mg → LamX.TabB base mg cc tb → FnR l.prog w K mg base CX0 (CG 6) fa fd ["script"] (spLaw tb K) := by
  have e := hfa.symm.trans (PySem.W.mg_of X G gL)
  cases e
  have OK := okE_ok ok
  have T : PySem.ErrX.ErrTxt K mg "InvalidQuestion" "InvalidQuestion.__init__" cQ fQ := err_of OK (PySem.W.mg_of X G aQ) xQ yQ
  have IQ : IsQ K cQ cn := ⟨⟨OK.xf.ga, OK.xf.gg, OK.xf.exC, OK.xf.hdC, OK.ha, OK.hn, OK.ht, OK.hm⟩, kit, OK.xf, OK.no, OK.te⟩
  have mgg := PySem.W.mg_of X G gg
  obtain ⟨fdZ, _, _, _, _, _, _, _, FZ⟩ := fun_of dZ kZ
  have mZ := PySem.W.mg_of X G gZ
  obtain ⟨fdU, _, _, _, _, _, _, _, FU⟩ := fun_of dU kU
  have mU := PySem.W.mg_of X G gU
  obtain ⟨fdF, _, _, _, _, _, _, _, FF⟩ := fun_of dF kF
  have mF := PySem.W.mg_of X G gF
  obtain ⟨fdM, _, _, _, _, _, _, _, FM⟩ := fun_of dM kM
  have mM := PySem.W.mg_of X G gM
  obtain ⟨fdP, _, _, _, _, _, _, _, FP⟩ := fun_of dP kP
  have mP := PySem.W.mg_of X G gP
  obtain ⟨fdE, _, _, _, _, _, _, _, FE⟩ := fun_of dE kE
  have mE := PySem.W.mg_of X G gE
  obtain ⟨fdT, _, _, _, _, _, _, _, FT⟩ := fun_of dT kT
  have mT := PySem.W.mg_of X G gT
  obtain ⟨fdC, _, _, _, _, _, _, _, FC⟩ := fun_of dC kC
  have mC := PySem.W.mg_of X G gC
  obtain ⟨fdD, _, _, _, _, _, _, _, FD⟩ := fun_of dD kD
  have mD := PySem.W.mg_of X G gD
  obtain ⟨fdA, _, _, _, _, _, _, _, FA⟩ := fun_of dA kA
  have mA := PySem.W.mg_of X G gA
  obtain ⟨fdO, _, _, _, _, _, _, _, FO⟩ := fun_of dO kO
  have mO := PySem.W.mg_of X G gO
  obtain ⟨fdW, _, _, _, _, _, _, _, FW⟩ := fun_of dW kW
  have mW := PySem.W.mg_of X G gW
  obtain ⟨fdI, _, _, _, _, _, _, _, FI⟩ := fun_of dI kI
  have mI := PySem.W.mg_of X G gI
  obtain ⟨fdB, _, _, _, _, _, _, _, FB⟩ := fun_of dB kB
  have mB := PySem.W.mg_of X G gB
  obtain ⟨fdR, _, _, _, _, _, _, _, FR⟩ := fun_of dR kR
  have mR := PySem.W.mg_of X G gR
  obtain ⟨fdS, _, _, _, _, _, _, _, FS⟩ := fun_of dS kS
  have mS := PySem.W.mg_of X G gS
  have n_isinstance := PySem.W.mg_none_of X G z_isinstance
  have n_int := PySem.W.mg_none_of X G z_int
  have n_bool := PySem.W.mg_none_of X G z_bool
  have n_tuple := PySem.W.mg_none_of X G z_tuple
  have n_len := PySem.W.mg_none_of X G z_len
  have n_abs := PySem.W.mg_none_of X G z_abs
  have n_repr := PySem.W.mg_none_of X G z_repr
  have n_range := PySem.W.mg_none_of X G z_range
  have n_str := PySem.W.mg_none_of X G z_str
  obtain ⟨oc, od, kV, doc, pm, an, ct, osl, lk, hcd⟩ := dL
  refine ⟨PySem.W.fnOf "law" "law" (defArgs sLaw) (defBody sLaw) (defScope sLaw) .none kV doc pm an (.ref cc) ct, fun s v => .of_eq rfl, fun base _ _ TB => ?_⟩
  have GM := ok_made (P := l.prog) (w := w) (base := base) FM T mgg
  have GP := ok_added FP GM FM mM
  have GE := ok_less FE GM FM mM
  have GT := ok_times FT GM FM mM
  have GC := ok_comp (P := l.prog) (w := w) (mg := mg) (base := base) FC
  have GW := ok_low (P := l.prog) (w := w) (base := base) FW n_abs n_int
  have GI := ok_integer (P := l.prog) (w := w) (base := base) FI FA FO mA mO n_int n_len
  have GB := ok_bottom FB FI GI mI
  have GS := ok_sums FS FP FE FT FC FW GP GE GT GC GW ⟨n_repr, mP, mE, mT, mC, mW⟩
  exact ok_law lk hcd TB FD (ok_draw FD n_int n_abs) FI GI FB GB FW GW FM GM FS GS FF (ok_frac FF FZ FU mZ mU n_isinstance n_int n_bool n_tuple n_len mgg) FA (ok_any FA n_int) FR IQ
    ⟨mD, mI, mB, mW, mM, mS, mF, mA, mR, PySem.W.mg_of X G aQ, PySem.W.mg_of X G aN, n_repr, n_range, n_str, n_isinstance⟩
end K01

open PySem PySem.W PyProof.Rows
set_option maxRecDepth 100000 in
set_option maxHeartbeats 0 in
theorem PySem.Challenge.cw_handalong_k01_fractions_in_lowest_terms_holds : PySem.Challenge.rw_handalong_k01_fractions_in_lowest_terms.Holds := by
  w_on; o_law; k_head; (case hw => w_witness2)
  k_fill
  refine KX.walk_ofT (l := PySem.Challenge.rw_handalong_k01_fractions_in_lowest_terms) (n := 63) (k := 6) (x := "script") (CX := L2.CX0) (c := ?c) (t := 186) (sp := K01.spLaw 186)
    rfl (by decide) rfl ⟨rfl, by decide, by decide⟩ (fun w h Y => km_in_of Y) (fun w h Y => km_tabs_of Y 186 (List.mem_singleton.mpr rfl)) ?hcd ?nt ?F (fun _ H a ns hl ht hS => ⟨a, ns, rfl, hS, ht, fun _ => rfl⟩) fun _ _ _ _ z => z
  case F =>
    intro w mg fa h Y G hmg
    refine' K01.all_mk Y G hmg ?aQ ?aN ?iQ ?ok ?kit ?xQ ?yQ ?gg ?gZ ?dZ ?kZ ?gU ?dU ?kU ?gF ?dF ?kF ?gM ?dM ?kM ?gP ?dP ?kP ?gE ?dE ?kE ?gT ?dT ?kT ?gC ?dC ?kC ?gD ?dD ?kD ?gA ?dA ?kA ?gO ?dO ?kO ?gW ?dW ?kW ?gI ?dI ?kI ?gB ?dB ?kB ?gR ?dR ?kR ?gS ?dS ?kS ?gL ?dL ?z_isinstance ?z_int ?z_bool ?z_tuple ?z_len ?z_abs ?z_repr ?z_range ?z_str
    (case aQ => k_is)
    (case aN => k_is)
    (case iQ => k_is)
    (case ok => kernel_rfl)
    (case kit => kernel_rfl)
    (case xQ => (refine' ⟨_, _, _, _, _, _, _, _, _, _, _, _, _, _, _, ?h1, ?h2⟩; (case h1 => rfl); (case h2 => decide +kernel)))
    (case yQ => (refine' ⟨_, _, _, _, _, _, _, _, _, _, _, _, _, _, ?h1, ?h2⟩; (case h1 => rfl); (case h2 => k_is)))
    (case gg => k_is)
    (case gZ => k_is)
    (case dZ => (refine' ⟨_, _, _, _, _, _, _, _, _, ?h1, ?h2⟩; (case h1 => rfl); (case h2 => k_is)))
    (case kZ => k_is)
    (case gU => k_is)
    (case dU => (refine' ⟨_, _, _, _, _, _, _, _, _, ?h1, ?h2⟩; (case h1 => rfl); (case h2 => k_is)))
    (case kU => k_is)
    (case gF => k_is)
    (case dF => (refine' ⟨_, _, _, _, _, _, _, _, _, ?h1, ?h2⟩; (case h1 => rfl); (case h2 => k_is)))
    (case kF => k_is)
    (case gM => k_is)
    (case dM => (refine' ⟨_, _, _, _, _, _, _, _, _, ?h1, ?h2⟩; (case h1 => rfl); (case h2 => k_is)))
    (case kM => k_is)
    (case gP => k_is)
    (case dP => (refine' ⟨_, _, _, _, _, _, _, _, _, ?h1, ?h2⟩; (case h1 => rfl); (case h2 => k_is)))
    (case kP => k_is)
    (case gE => k_is)
    (case dE => (refine' ⟨_, _, _, _, _, _, _, _, _, ?h1, ?h2⟩; (case h1 => rfl); (case h2 => k_is)))
    (case kE => k_is)
    (case gT => k_is)
    (case dT => (refine' ⟨_, _, _, _, _, _, _, _, _, ?h1, ?h2⟩; (case h1 => rfl); (case h2 => k_is)))
    (case kT => k_is)
    (case gC => k_is)
    (case dC => (refine' ⟨_, _, _, _, _, _, _, _, _, ?h1, ?h2⟩; (case h1 => rfl); (case h2 => k_is)))
    (case kC => k_is)
    (case gD => k_is)
    (case dD => (refine' ⟨_, _, _, _, _, _, _, _, _, ?h1, ?h2⟩; (case h1 => rfl); (case h2 => k_is)))
    (case kD => k_is)
    (case gA => k_is)
    (case dA => (refine' ⟨_, _, _, _, _, _, _, _, _, ?h1, ?h2⟩; (case h1 => rfl); (case h2 => k_is)))
    (case kA => k_is)
    (case gO => k_is)
    (case dO => (refine' ⟨_, _, _, _, _, _, _, _, _, ?h1, ?h2⟩; (case h1 => rfl); (case h2 => k_is)))
    (case kO => k_is)
    (case gW => k_is)
    (case dW => (refine' ⟨_, _, _, _, _, _, _, _, _, ?h1, ?h2⟩; (case h1 => rfl); (case h2 => k_is)))
    (case kW => k_is)
    (case gI => k_is)
    (case dI => (refine' ⟨_, _, _, _, _, _, _, _, _, ?h1, ?h2⟩; (case h1 => rfl); (case h2 => k_is)))
    (case kI => k_is)
    (case gB => k_is)
    (case dB => (refine' ⟨_, _, _, _, _, _, _, _, _, ?h1, ?h2⟩; (case h1 => rfl); (case h2 => k_is)))
    (case kB => k_is)
    (case gR => k_is)
    (case dR => (refine' ⟨_, _, _, _, _, _, _, _, _, ?h1, ?h2⟩; (case h1 => rfl); (case h2 => k_is)))
    (case kR => k_is)
    (case gS => k_is)
    (case dS => (refine' ⟨_, _, _, _, _, _, _, _, _, ?h1, ?h2⟩; (case h1 => rfl); (case h2 => k_is)))
    (case kS => k_is)
    (case gL => k_is)
    (case dL => (refine' ⟨_, _, _, _, _, _, _, _, ?h1, ?h2⟩; (case h1 => rfl); (case h2 => k_is)))
    (case z_isinstance => k_is)
    (case z_int => k_is)
    (case z_bool => k_is)
    (case z_tuple => k_is)
    (case z_len => k_is)
    (case z_abs => k_is)
    (case z_repr => k_is)
    (case z_range => k_is)
    (case z_str => k_is)
  case hcd => intro w; kernel_rfl
  case nt => intro w; kernel_rfl
