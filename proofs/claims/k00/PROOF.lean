import PyProof.Rows.All
import Wide.All
import OpenK.AllK
import Wide.FinOn
import PySem.Challenge.RW_handalong_k00_errors_and_what_they_keep
import HandS.ForExc
import HandS.HotCalls
import HandS.ExcField
import HandS.ExcIs
import HandS.RaiseMore
import HandS.Comp
import PyProof.ReprRoads
import KE.KExcIs
set_option Elab.async false
set_option linter.all false
set_option maxRecDepth 100000
set_option maxHeartbeats 4000000
namespace KX
open PySem PySem.Spec PyProof.Rows L2
/-! repr of data -/
def rRepr (K : PySem.W.Frag) : List V → Hp → VK → Prop := fun xs H Q =>
  ∃ x d, xs = [x] ∧ Dp K H x d ∧ d.showable = true ∧ d.hasDict = false ∧ d.depth ≤ 64 ∧
    d.shown.length ≤ sizeLine ∧ Q (.str d.shown) H
theorem cr_repr {X : Cx} (hg : X.A.guards = some []) (hu : X.A.units + 66 < cLine) :
    CallR X (.builtin "repr") (rRepr X.K) := by
  intro pins s σ H xs us Q I r h
  obtain ⟨x, d, rfl, hd, hs, hn, h64, hz, q⟩ := h
  cases r with
  | cons rx rn =>
    cases rn
    rename_i u
    obtain ⟨as, rd⟩ := Dp.reads I d x u hd rx
    have hsm : d.hasDict = true → sysModules ∉ as := fun z => by rw [hn] at z; cases z
    have out : ∀ (h' : Heap) (tk : Nat) (t : Tok), (∀ b o, s.heap.get? b = some o → h'.get? b = some o) →
        EP X pins σ Q (.str d.shown t) { s with heap := h', toks := tk } := fun h' tk t k =>
      ⟨.str d.shown, H, I.kept k, ⟨t, rfl⟩, q⟩
    cases rd with
    | none => exact P.repr_of_none (out s.heap _ _ fun _ _ e => e)
    | bool b => exact P.repr_of_bool (by simpa only [PyData.shown] using out s.heap (s.toks + 1) s.toks fun _ _ e => e)
    | int i t =>
      exact P.repr_of_int (by simpa [PyData.showable] using hs)
        (by simpa only [PyData.shown] using out s.heap (s.toks + 1) s.toks fun _ _ e => e)
    | str z t =>
      exact P.repr_of_str (by simpa only [PyData.shown] using out s.heap (s.toks + 1) s.toks fun _ _ e => e)
        (by simpa only [PyData.shown] using hz)
    | list h1 h2 h3 h4 =>
      exact repr_of_reads' (.list h1 h2 h3 h4) hs hsm hg (by omega) (fun _ _ e => e)
        (fun h' u tk k => out h' tk u k) hz
    | tuple h1 h2 h3 h4 =>
      exact repr_of_reads' (.tuple h1 h2 h3 h4) hs hsm hg (by omega) (fun _ _ e => e)
        (fun h' u tk k => out h' tk u k) hz
    | dict h1 h2 h3 h4 h5 => cases hn
end KX

namespace PySem
namespace ErrX
open PySem.W PySem.Calls PyProof.Rows PySem.HandSPX
/-! ### the text of __init__ -/
def iA (p1 p2 : Pos) : Arguments := { posonlyargs := [], args := [{ arg := "self", annotation := none, pos := p1 }, { arg := "at", annotation := none, pos := p2 }], vararg := none, kwonlyargs := [], kw_defaults := [], kwarg := none, defaults := [] }
def iB (q1 q2 q3 q4 : Pos) : List Stmt := [.Assign [.Attribute (.Name "self" q1) "at" q2] (.Name "at" q3) q4]
def iS : Scope := { kind := .function, names := [(PySem.Str.ofString "self", .local), (PySem.Str.ofString "at", .local)], isGenerator := false, isCoroutine := false, more := [] }
/-- what the written part says of Low, at C, and of its __init__, at fI -/
structure ErrTxt (K : Frag) (mg : Str → Option Value) (en qn : Str) (C fI : Addr) : Prop where
  gC : mg en = some (.ref C)
  cls : ∃ nm q N bs bm sn sub ab col dd k0 k1 k2 k3 k5, K.lookup C = some (excClassObj nm q C N bs bm true sn sub ab col dd k0 k1 k2 k3 k5 "ValueError.__new__") ∧ refsVE bm = true
  sa : findIn K (.ref C) "__setattr__" = some (some (.builtin "object.__setattr__"))
  ga : findIn K (.ref C) "__getattribute__" = some (some (.builtin "BaseException.__getattribute__"))
  gg : findIn K (.ref C) "__getattr__" = some none
  noN : findIn K (.ref C) "at" = some none
  iC : findIn K (.ref C) "__init__" = some (some (.ref fI))
  tC : typeIn K (.ref fI) = some (.type "function")
  kC : keepIn K (.ref C) = true
  exC : subIn K (.ref C) (.type "BaseException") = some true
  tyC : typeIn K (.ref C) = some (.type "type")
  hdC : hasDictIn K C = true
  te : exmOne K (.ref C) (.ref C) = some true
  fn : ∃ (oc : Value) (od : Option Addr) (doc pm : Value) (an : Option Addr) (cdv ct : Value) (osl : Array (Option Value)) (p1 p2 q1 q2 q3 q4 : Pos),
    K.lookup fI = some ⟨oc, od, .func (fnOf "__init__" qn (iA p1 p2) (iB q1 q2 q3 q4) iS .none .none doc pm an cdv ct), osl⟩ ∧ codeIn K cdv qn = true
theorem one_size (v : Value) : [v].length ≤ sizeLine := by
  rw [sizeLine_eq]
  exact (by decide : 1 ≤ 16777216)
theorem kept_but {K : Frag} {h h' : Heap} {x : Addr} (X : K.In h) (hx : K.lookup x = none) (k : ∀ b o, b ≠ x → h.get? b = some o → h'.get? b = some o) : K.In h' := fun a o e =>
  k a o (fun z => by rw [z, hx] at e; cases e) (X a o e)
theorem ldC {M : Model} {s : Shared} {name : Str} {scope : Scope} {L a : Addr} {cd : Value} {m : Str → Option Value} {x : Str} {pos : Pos} {v : Value} {Q : Value → Shared → Prop} {A : Around} {E : Value → Shared → Prop} (hn : s.heap.Ns L m) (hv : m x = some v) (h : Q v s)
    (hk : scope.kind = .function := by rfl) (hl : (envOfC name scope L a cd).kindOf x = some .local := by rfl) (hd : (x == ("__debug__" : Str)) = false := by decide) :
    wpAny M A (eval (.Name x pos) (envOfC name scope L a cd)) Q E s := wpAny_Name (wpAny_loadName_local hk hl hn hv h) hd
/-- what __init__ leaves of a fresh exception at x -/
structure InitEnd (h h' : Heap) (x C dx t1 : Addr) (v : Value) : Prop where
  keep : ∀ b o, b ≠ x → h.get? b = some o → h'.get? b = some o
  obj : h'.get? x = some { cls := .ref C, dict := some dx, data := .fields #[.ref t1, .none, .none, .none, .bool false, .none] }
  dbig : h.objs.size ≤ dx
  dne : dx ≠ x
  ns : h'.Ns1 dx (fun y => if y = "at" then some v else none)
/-- a made Low -/
structure OwnMade (h h' : Heap) (e C d : Addr) (v : Value) : Prop where
  keep : ∀ b o, h.get? b = some o → h'.get? b = some o
  new : h.objs.size ≤ e
  obj : ∃ oe vs, h'.get? e = some oe ∧ oe.cls = .ref C ∧ oe.dict = some d ∧ oe.data = .fields vs ∧ vs[1]? = some .none ∧ vs[2]? = some .none
  dbig : h.objs.size ≤ d
  dne : d ≠ e
  ns : h'.Ns1 d (fun y => if y = "at" then some v else none)
section
variable {prog : Program} {w : World} {A : Around} {E : Value → Shared → Prop} {R : Result → Shared → Prop} {s : Shared} {K : Frag} {mg : Str → Option Value} {C fI : Addr} {en qn : Str}
theorem err_init (T : ErrTxt K mg en qn C fI) {x t0 : Addr} {v : Value} (X : K.In s.heap) (hlim : s.heap.NoLimit) (hx : s.heap.get? x = some (excO C t0)) (hnx : K.lookup x = none) (hroom : A.depth < recursionLimit)
    (hq : ∀ h' tk dx, InitEnd s.heap h' x C dx t0 v → R (.ok (.ret .none)) { s with heap := h', toks := tk }) :
    codeAny (model prog w) A (.call (.ref fI) ⟨[.ref x, v], []⟩) R s := by
  obtain ⟨oc, od, doc, pm, an, cdv, ct, osl, p1, p2, q1, q2, q3, q4, ho, hcd⟩ := T.fn
  obtain ⟨nm, q, N, bs, bm, sn, sub, ab, col, dd, k0, k1, k2, k3, k5, hC, hbm⟩ := T.cls
  have hcl : clsIn K C = some { name := nm, bases := bs, mro := .ref C :: bm, ns := N, qualname := q, hasDict := true, slotNames := sn, subclasses := sub, abstract := ab, collection := col, hasDel := false } := by unfold clsIn; rw [hC] <;> rfl
  refine Att.call_fn (binds := [("self", .ref x), ("at", v)]) X hlim ho hcd hroom (BindsTo.of_eq (by first | rfl | with_unfolding_all rfl)) (by first | rfl | decide | with_unfolding_all rfl) (fun s₁ IC => ?_) rfl rfl rfl
  obtain ⟨h₁, tk₁, rfl⟩ := IC.toInCall.same
  have k : ∀ b o, s.heap.get? b = some o → h₁.get? b = some o := IC.toInCall.keep
  have hn := IC.toInCall.ns
  have hxL : s.heap.objs.size ≠ x := Nat.ne_of_gt (Heap.lt_size hx)
  have X₁ : K.In h₁ := X.keeps k
  have hx₁ := k _ _ hx
  -- self.by = by
  show wpAny _ _ (execs _ _) _ _ _
  refine wpAny_execs_cons (plainObj_wpAny_Assign_Attribute ?_)
  refine ldC (v := v) hn (by first | rfl | with_unfolding_all rfl | kernel_rfl) (ldC (v := .ref x) hn (by first | rfl | with_unfolding_all rfl | kernel_rfl) ?_)
  refine set_plain X₁ (ox := excO C t0) (od := none) ⟨hx₁, rfl, rfl, trivial⟩ T.sa ?_
  refine exc_osa X₁ hx₁ hcl (show refsVE (.ref C :: bm) = true from hbm) rfl T.noN (fun h₃ tk₃ dx k₃ dn dne hx₃ hn₃ => ?_)
  show wpAny _ _ (execs _ _) _ _ _
  have z : s.heap.objs.size < h₁.objs.size := hn.lt
  exact wpAny_execs_nil (hq h₃ tk₃ dx ⟨fun b o hb e => k₃ b o hb (k b o e), hx₃, Nat.le_of_lt (Nat.lt_of_lt_of_le z dn), dne, hn₃⟩)
theorem err_made (T : ErrTxt K mg en qn C fI) {v : Value} (X : K.In s.heap) (hlim : s.heap.NoLimit) (hroom : A.depth + 1 < recursionLimit)
    (hq : ∀ h' tk e d, OwnMade s.heap h' e C d v → R (.ok (.ret (.ref e))) { s with heap := h', toks := tk }) :
    codeAny (model prog w) A (.call (.ref C) ⟨[v], []⟩) R s := by
  obtain ⟨nm, q, N, bs, bm, sn, sub, ab, col, dd, k0, k1, k2, k3, k5, hC, hbm⟩ := T.cls
  obtain ⟨hp, g, dr, tk, os⟩ := s
  have k : ∀ b o, hp.get? b = some o → ((hp.push (kdv_tup [v])).push (excO C hp.objs.size)).get? b = some o := fun b o e => Heap.get?_push_of_some _ (Heap.get?_push_of_some _ e)
  have hget : ((hp.push (kdv_tup [v])).push (excO C hp.objs.size)).get? (hp.objs.size + 1) = some (excO C hp.objs.size) := by heap_get
  have hnx : K.lookup (hp.objs.size + 1) = none := by
    cases e : K.lookup (hp.objs.size + 1) with
    | none => rfl
    | some o =>
      have z : hp.get? (hp.objs.size + 1) = some o := X _ _ e
      exact absurd (Nat.lt_of_succ_lt (Heap.lt_size z)) (Nat.lt_irrefl _)
  refine call_own F.excBase_ValueError (fun X => refsVE_contains X bm hbm) (X _ _ hC) (looks_findIn X T.iC) (fun self => bind_fn X self T.tC) (one_size v) ?_
  refine err_init (s := ⟨(hp.push (kdv_tup [v])).push (excO C hp.objs.size), g, dr, tk, os⟩) T (X.keeps k) (hlim.keeps k) hget hnx ?_ fun h' tk' dx ⟨k', hx, dn, dne, hns⟩ => ?_
  · show A.depth + 1 < recursionLimit
    exact hroom
  · have old : ∀ b o, hp.get? b = some o → h'.get? b = some o := fun b o e => k' b o (Nat.ne_of_lt (Nat.lt_succ_of_lt (Heap.lt_size e))) (k b o e)
    have z : hp.objs.size + 1 + 1 ≤ dx := by
      first
        | (simpa only [Heap.size_push] using dn)
        | exact dn
        | (have q := dn; rw [Heap.size_push, Heap.size_push] at q; exact q)
    exact ⟨rfl, hq h' tk' (hp.objs.size + 1) dx ⟨old, Nat.le_succ _, ⟨_, _, hx, rfl, rfl, rfl, rfl, rfl⟩, Nat.le_trans (Nat.le_trans (Nat.le_succ _) (Nat.le_succ _)) z, dne, hns⟩⟩
end
end ErrX
end PySem
namespace KX
open PySem PySem.Spec PyProof.Rows L2
theorem relO_err {v : V} {v' : Value} (r : RelV v v') (f : Str) : RelO (List.lookup f [(("at" : Str), v)]) (if f = "at" then some v' else none) := by
  by_cases hw : f = "at"
  · subst hw
    rw [if_pos rfl]
    have q : List.lookup ("at" : Str) [(("at" : Str), v)] = some v := by simp [List.lookup]
    rw [q]
    exact r
  · rw [if_neg hw]
    have qw : (f == ("at" : Str)) = false := by simpa using hw
    have q2 : List.lookup f [(("at" : Str), v)] = none := by simp [List.lookup, qw]
    rw [q2]
    trivial
section
variable {X : Cx} {C fI : Addr} {en qn : Str}
/-- Low(e) -/
def tMkErr (C : Addr) (ta : TA) : L2.St → Hp → XK → Prop := fun σ H Q => ta σ H fun vs H1 => ∃ v, vs = [v] ∧ ∀ d, H1 d = none → Q (.ref C) (some d) (upd H1 d (.xd [(("at" : Str), v)]))
theorem pmk_err {a : Expr} {ta : TA} {p pos : Pos} {k : Nat} (T : PySem.ErrX.ErrTxt X.K X.mg en qn C fI) (hr : Room k X.A) (ha : PA X [a] ta) (hg : Gl X en := by rfl) (hdb : (en == ("__debug__" : Str)) = false := by decide)
    (he : starEach (a :: []) X.env = (false, eval a X.env) :: starEach [] X.env := by rfl) (hpl : (backTo pos (starEach [] X.env)).any (·.1) = false := by rfl) :
    L2N.PMk X (.Call (.Name en p) [a] [] pos) (tMkErr C ta) := by
  intro pins s σ H Q I h
  refine wpAny_Call_Name_kw (ld_glob I hg T.gC ?_ hdb)
  refine PySem.W.callWith_K (h₀ := X.base) I.ok.mod.kin T.kC (thn (ha.run pos pins s σ H _ I h) fun us s1 hh => ?_) he hpl
  obtain ⟨vs, H1, I1, r1, v, ev, q1⟩ := hh
  subst ev
  refine ⟨I1.kIn, ?_⟩
  cases r1 with
  | cons rv rn =>
    rename_i v' us'
    cases rn
    show wpAny _ _ (call (.ref C) [v']) _ _ _
    have hlim := I1.nolimit
    obtain ⟨hp, g, dr, tk, os⟩ := s1
    refine wpAny_call (PySem.ErrX.err_made T I1.kIn hlim (by have := hr.dp; omega) fun h' tk' e d M => ?_)
    show L2N.MkP X pins σ Q (.ref e) ⟨h', g, dr, tk', os⟩
    obtain ⟨oe, fv, hoe, hc, hd, hdat, h1, h2⟩ := M.obj
    have hns := M.ns
    obtain ⟨G', g1, g2⟩ := restrict h' fun b => decide (b ≠ e)
    have gk : ∀ b, b ≠ e → G'.get? b = h'.get? b := fun b hb => g1 b (decide_eq_true hb)
    have ge : G'.get? e = none := g2 e (by simp)
    have old : ∀ b o, hp.get? b = some o → G'.get? b = some o := fun b o q => (gk b (Nat.ne_of_lt (Nat.lt_of_lt_of_le (Heap.lt_size q) M.new))).trans (M.keep b o q)
    have ob : ObjOk X.prog X.w (upd H1 d (.xd [(("at" : Str), v)])) G' d (.xd [(("at" : Str), v)]) :=
      ⟨_, hns.at (fun o q => (gk d M.dne).trans q), fun f => relO_err rv f⟩
    have J : Inv X pins σ (upd H1 d (.xd [(("at" : Str), v)])) ⟨G', g, dr, tk', os⟩ := I1.laid (t' := tk') old M.dbig ob
    refine ⟨e, oe, fv, ⟨G', g, dr, tk', os⟩, _, .ref C, some d, rfl, J, fun b o q => ?_, ge, hoe, ⟨hc, hd, fun vs' z => by rw [hdat] at z; cases z; exact h2⟩, hdat, h1, ?_, rfl, I1.bare, raises_own T.exC T.tyC, q1 d (I1.hok.fresh M.dbig)⟩
    · by_cases hb : b = e
      · have q' : G'.get? b = some o := q
        rw [hb, ge] at q'; cases q'
      · exact (gk b hb).symm.trans q
    · rw [upd_ne (Ne.symm M.dne)]
      exact I1.hok.fresh M.new
/-- raise Low(e) -/
def tRaiseErr (C : Addr) (W : WX) (ta : TA) : TS := fun _ σ H => tMkErr C ta σ H fun cls d H' => W cls d σ H'
theorem ps_raiseErr {a : Expr} {ta : TA} {W : WX} {p pos pos2 : Pos} {k : Nat} (hc : X.calm = true) (T : PySem.ErrX.ErrTxt X.K X.mg en qn C fI) (hr : Room k X.A) (tk : L2N.Takes X W) (ha : PA X [a] ta) (hg : Gl X en := by rfl) (hdb : (en == ("__debug__" : Str)) = false := by decide)
    (he : starEach (a :: []) X.env = (false, eval a X.env) :: starEach [] X.env := by rfl) (hpl : (backTo pos (starEach [] X.env)).any (·.1) = false := by rfl) :
    PS X (.Raise (some (.Call (.Name en p) [a] [] pos)) none pos2) (tRaiseErr C W ta) := L2N.ps_raise hc tk (pmk_err T hr ha hg hdb he hpl)
end
end KX

namespace PySem
namespace ErrX
open PySem.W PySem.Calls PyProof.Rows PySem.HandSPX
def iA0 (p1 : Pos) : Arguments :=
  { posonlyargs := [], args := [{ arg := "self", annotation := none, pos := p1 }], vararg := none,
    kwonlyargs := [], kw_defaults := [], kwarg := none, defaults := [] }
def iS0 : Scope :=
  { kind := .function, names := [(PySem.Str.ofString "self", .local)], isGenerator := false, isCoroutine := false, more := [] }
/-- an error class whose __init__(self) does nothing -/
structure ErrTxt0 (K : Frag) (mg : Str → Option Value) (en qn : Str) (C fI : Addr) : Prop where
  gC : mg en = some (.ref C)
  cls : ∃ nm q N bs bm sn sub ab col dd k0 k1 k2 k3 k5,
    K.lookup C = some (excClassObj nm q C N bs bm true sn sub ab col dd k0 k1 k2 k3 k5 "ValueError.__new__") ∧ refsVE bm = true
  iC : findIn K (.ref C) "__init__" = some (some (.ref fI))
  tC : typeIn K (.ref fI) = some (.type "function")
  kC : keepIn K (.ref C) = true
  exC : subIn K (.ref C) (.type "BaseException") = some true
  tyC : typeIn K (.ref C) = some (.type "type")
  fn : ∃ (oc : Value) (od : Option Addr) (doc pm : Value) (an : Option Addr) (cdv ct : Value) (osl : Array (Option Value)) (p1 q1 : Pos),
    K.lookup fI = some ⟨oc, od, .func (fnOf "__init__" qn (iA0 p1) [.Pass q1] iS0 .none .none doc pm an cdv ct), osl⟩ ∧
      codeIn K cdv qn = true
/-- what is made: an exception without a dict -/
structure OwnMade0 (h h' : Heap) (e C : Addr) : Prop where
  keep : ∀ b o, h.get? b = some o → h'.get? b = some o
  new : h.objs.size ≤ e
  obj : ∃ oe vs, h'.get? e = some oe ∧ oe.cls = .ref C ∧ oe.dict = none ∧ oe.data = .fields vs ∧ vs[1]? = some .none ∧
    vs[2]? = some .none
section
variable {prog : Program} {w : World} {A : Around} {E : Value → Shared → Prop} {R : Result → Shared → Prop}
  {s : Shared} {K : Frag} {mg : Str → Option Value} {C fI : Addr} {en qn : Str}
theorem err_init0 (T : ErrTxt0 K mg en qn C fI) {x : Addr} (X : K.In s.heap) (hlim : s.heap.NoLimit)
    (hroom : A.depth < recursionLimit)
    (hq : ∀ h' tk, (∀ b o, s.heap.get? b = some o → h'.get? b = some o) → R (.ok (.ret .none)) { s with heap := h', toks := tk }) :
    codeAny (model prog w) A (.call (.ref fI) ⟨[.ref x], []⟩) R s := by
  obtain ⟨oc, od, doc, pm, an, cdv, ct, osl, p1, q1, ho, hcd⟩ := T.fn
  refine Att.call_fn (binds := [("self", .ref x)]) X hlim ho hcd hroom
    (BindsTo.of_eq (by first | rfl | with_unfolding_all rfl)) (by first | rfl | decide | with_unfolding_all rfl)
    (fun s₁ IC => ?_) rfl rfl rfl
  obtain ⟨h₁, tk₁, rfl⟩ := IC.toInCall.same
  show wpAny _ _ (execs _ _) _ _ _
  refine wpAny_execs_cons ?_
  refine wpAny_Pass ?_
  show wpAny _ _ (execs _ _) _ _ _
  exact wpAny_execs_nil (hq h₁ tk₁ IC.toInCall.keep)
theorem err_made0 (T : ErrTxt0 K mg en qn C fI) (X : K.In s.heap) (hlim : s.heap.NoLimit) (hroom : A.depth + 1 < recursionLimit)
    (hq : ∀ h' tk e, OwnMade0 s.heap h' e C → R (.ok (.ret (.ref e))) { s with heap := h', toks := tk }) :
    codeAny (model prog w) A (.call (.ref C) ⟨[], []⟩) R s := by
  obtain ⟨nm, q, N, bs, bm, sn, sub, ab, col, dd, k0, k1, k2, k3, k5, hC, hbm⟩ := T.cls
  obtain ⟨hp, g, dr, tk, os⟩ := s
  have k : ∀ b o, hp.get? b = some o → ((hp.push (kdv_tup [])).push (excO C hp.objs.size)).get? b = some o :=
    fun b o e => Heap.get?_push_of_some _ (Heap.get?_push_of_some _ e)
  have hget : ((hp.push (kdv_tup [])).push (excO C hp.objs.size)).get? (hp.objs.size + 1) = some (excO C hp.objs.size) := by
    heap_get
  refine call_own F.excBase_ValueError (fun X => refsVE_contains X bm hbm) (X _ _ hC) (looks_findIn X T.iC)
    (fun self => bind_fn X self T.tC) (Nat.zero_le _) ?_
  refine err_init0 (s := ⟨(hp.push (kdv_tup [])).push (excO C hp.objs.size), g, dr, tk, os⟩) T (X.keeps k) (hlim.keeps k) ?_
    fun h' tk' k' => ?_
  · show A.depth + 1 < recursionLimit
    exact hroom
  · exact ⟨rfl, hq h' tk' (hp.objs.size + 1) ⟨fun b o e => k' b o (k b o e), Nat.le_succ _,
      ⟨_, _, k' _ _ hget, rfl, rfl, rfl, rfl, rfl⟩⟩⟩
end
end ErrX
end PySem

namespace KX
open PySem PySem.Spec PyProof.Rows L2
section
variable {X : Cx} {C fI : Addr} {en qn : Str}
def tMkErr0 (C : Addr) : L2.St → Hp → XK → Prop := fun _ H Q => Q (.ref C) none H
theorem pmk_err0 {p pos : Pos} {k : Nat} (T : PySem.ErrX.ErrTxt0 X.K X.mg en qn C fI) (hr : Room k X.A) (hg : Gl X en := by rfl)
    (hdb : (en == ("__debug__" : Str)) = false := by decide) : L2N.PMk X (.Call (.Name en p) [] [] pos) (tMkErr0 C) := by
  intro pins s σ H Q I h
  refine wpAny_Call_Name_kw (ld_glob I hg T.gC ?_ hdb)
  refine PySem.W.callWith_K0 I.kIn T.kC ?_
  show wpAny _ _ (call (.ref C) []) _ _ _
  have hlim := I.nolimit
  have KX := I.kIn
  obtain ⟨hp, g, dr, tk, os⟩ := s
  refine wpAny_call (PySem.ErrX.err_made0 T KX hlim (by have := hr.dp; omega) fun h' tk' e M => ?_)
  show L2N.MkP X pins σ Q (.ref e) ⟨h', g, dr, tk', os⟩
  obtain ⟨oe, fv, hoe, hc, hd, hdat, h1, h2⟩ := M.obj
  refine ⟨e, oe, fv, ⟨hp, g, dr, tk, os⟩, H, .ref C, none, rfl, I, M.keep, Heap.get?_none_of_le M.new, hoe,
    ⟨hc, hd, fun vs' z => by rw [hdat] at z; cases z; exact h2⟩, hdat, h1, I.hok.fresh M.new, rfl, I.bare,
    raises_own T.exC T.tyC, h⟩
def tRaiseErr0 (C : Addr) (W : WX) : TS := fun _ σ H => W (.ref C) none σ H
theorem ps_raiseErr0 {W : WX} {p pos pos2 : Pos} {k : Nat} (hc : X.calm = true) (T : PySem.ErrX.ErrTxt0 X.K X.mg en qn C fI)
    (hr : Room k X.A) (tk : L2N.Takes X W) (hg : Gl X en := by rfl) (hdb : (en == ("__debug__" : Str)) = false := by decide) :
    PS X (.Raise (some (.Call (.Name en p) [] [] pos)) none pos2) (tRaiseErr0 C W) :=
  L2N.ps_raise hc tk (pmk_err0 T hr hg hdb)
end
end KX

namespace KX
open PySem PySem.Spec PyProof.Rows L2 L2H
/-! contracts under a condition C on the call's surroundings -/
abbrev Con := Around → List Env → Shared → Hp → Prop
structure FnR (P : Program) (w : World) (K : PySem.W.Frag) (mg : Str → Option Value) (base : Heap) (CX : CXT) (C : Con)
    (f : Addr) (fd : FuncData) (ps : List Str) (sp : Sp) : Prop where
  sized : ∀ vs H Q E, sp vs H Q E → vs.length = ps.length
  does : ∀ (A : Around) (outer : List Env) (s : Shared) (H : Hp) (args : Args) (us : List Value) (vs : List V) (Q : VK) (E : XK),
    C A outer s H → Env0 P w K mg base A outer s H → BindsTo s fd args (ps.zip us) → Vals vs us → sp vs H Q E →
      codeAny (model P w) A (.call (.ref f) args) (CR CX outer P w H s Q E) s
/-- no repr is under way -/
def CG (k : Nat) : Con := fun A _ _ _ => Room k A ∧ A.guards = some []
/-- p is the exception that is handled -/
def CP (k : Nat) (p : Addr × Obj) : Con := fun A outer s H => RoomH k A ∧ Hot1 A p ∧ PinOk outer H s p
/-- a body's context, calm or not, with pins -/
abbrev cxV (c : Bool) (pn : List (Addr × Obj)) (X : Cx) : Cx := { X with calm := c, pn := pn }
section
variable {CX : CXT} {P : Program} {w : World} {K : PySem.W.Frag} {mg : Str → Option Value} {base : Heap} {f : Addr}
  {name qual : Str} {params : Arguments} {body : List Stmt} {scope : Scope} {dV kV doc pm cdv ct oc : Value}
  {an od : Option Addr} {osl : Array (Option Value)} {N ps : List Str}
theorem call_body {A : Around} {outer : List Env} {s : Shared} {H : Hp} {args : Args} {us : List Value} {vs : List V} {Q : VK}
    {E : XK} {c : Bool} {pn : List (Addr × Obj)}
    (lk : K.lookup f = some ⟨oc, od, .func (PySem.W.fnOf name qual params body scope dV kV doc pm an cdv ct), osl⟩)
    (hcd : PySem.W.codeIn K cdv qual = true) (S : FnScope N ps scope) (hdp : A.depth < recursionLimit)
    (e0 : Env0 P w K mg base A outer s H)
    (hb : BindsTo s (PySem.W.fnOf name qual params body scope dV kV doc pm an cdv ct) args (ps.zip us))
    (begins : ∀ s1, InCallC s s.heap.objs.size
        (bindL (envOfC qual scope s.heap.objs.size f cdv).kindOf (ps.zip us) fun _ => none)
        (cellsFrom (s.heap.objs.size + 1) scope.names [])
        (bindC (envOfC qual scope s.heap.objs.size f cdv).kindOf (ps.zip us) fun _ => none) s1 →
      L2.Inv (cxV c pn (cxOf CX P w K mg base N qual scope f cdv A outer s H E)) [] (L2.start N vs) H s1)
    (reads : ∃ t, PSs (cxV c pn (cxOf CX P w K mg base N qual scope f cdv A outer s H E)) body t ∧
      t { nx := fun _ H' => Q .non H', rt := Q } (L2.start N vs) H) :
    codeAny (model P w) A (.call (.ref f) args) (CR CX outer P w H s Q E) s := by
  have stays : ∀ b o, base.get? b = some o → s.heap.get? b = some o := fun b o e => (e0.bs b o e).1
  have KI := e0.mod.kin.keeps stays
  have NL := e0.mod.nolimit.keeps stays
  refine codeAny_call_function hdp (KI _ _ lk) rfl S.co S.gen rfl
    (PySem.W.codeRec_of KI hcd) (hb _ _ _ _ ?_)
  refine wpAny_newFunctionEnv_cells S.kind (fun y hy => ?_) fun env he s1 x => ?_
  · obtain ⟨n, v⟩ := y
    cases S.par n (List.of_mem_zip hy).1 with
    | inl q => exact Or.inl q
    | inr q => exact Or.inr ⟨q, PySem.W.cellsFrom_some _ _ _ (Or.inl q)⟩
  · subst he
    obtain ⟨t, ht, hq⟩ := reads
    have I := begins s1 x
    refine ⟨NL.keeps x.toInCall.keep, codeAny_func (wpAny_mono (ht.run [] s1 (L2.start N vs) H _ I hq)
      (fun fl s' hs => ?_) fun e s' hs => hs)⟩
    cases fl with
    | ret u =>
      obtain ⟨v, σ', H', J, rv, q⟩ := hs
      exact ⟨v, H', J.os, J.bare, J.base, J.hok, rv, q⟩
    | next =>
      obtain ⟨σ', H', J, q⟩ := hs
      exact ⟨V.non, H', J.os, J.bare, J.base, J.hok, rfl, q⟩
    | brk => exact False.elim hs.choose_spec.choose_spec.2
    | cont => exact False.elim hs.choose_spec.choose_spec.2
/-- a def under CG -/
theorem fnG_of {k : Nat} {sp : Sp}
    (lk : K.lookup f = some ⟨oc, od, .func (PySem.W.fnOf name qual params body scope dV kV doc pm an cdv ct), osl⟩)
    (hcd : PySem.W.codeIn K cdv qual = true) (S : FnScope N ps scope)
    (sized : ∀ vs H Q E, sp vs H Q E → vs.length = ps.length)
    (reads : ∀ (A : Around) (outer : List Env) (s : Shared) (H : Hp) (vs : List V) (Q : VK) (E : XK),
      Room k (A.deeper (envOfC qual scope s.heap.objs.size f cdv)) → A.guards = some [] → sp vs H Q E →
      ∃ t, PSs (cxOf CX P w K mg base N qual scope f cdv A outer s H E) body t ∧
        t { nx := fun _ H' => Q .non H', rt := Q } (L2.start N vs) H) :
    FnR P w K mg base CX (CG (k + 1)) f (PySem.W.fnOf name qual params body scope dV kV doc pm an cdv ct) ps sp :=
  ⟨sized, fun A outer s H args us vs Q E hc e0 hb r h =>
    call_body (c := true) (pn := []) lk hcd S hc.1.depth e0 hb
      (fun s1 x => inv_start S hc.1.hd e0 (sized _ _ _ _ h) r x) (reads A outer s H vs Q E (hc.1.deeper _) hc.2 h)⟩
/-- a def under CP -/
theorem fnP_of {k : Nat} {sp : Sp} {p : Addr × Obj}
    (lk : K.lookup f = some ⟨oc, od, .func (PySem.W.fnOf name qual params body scope dV kV doc pm an cdv ct), osl⟩)
    (hcd : PySem.W.codeIn K cdv qual = true) (S : FnScope N ps scope)
    (sized : ∀ vs H Q E, sp vs H Q E → vs.length = ps.length)
    (reads : ∀ (A : Around) (outer : List Env) (s : Shared) (H : Hp) (vs : List V) (Q : VK) (E : XK), Hot1 A p →
      RoomH k (A.deeper (envOfC qual scope s.heap.objs.size f cdv)) → sp vs H Q E →
      ∃ t, PSs (cxV false [p] (cxOf CX P w K mg base N qual scope f cdv A outer s H E)) body t ∧
        t { nx := fun _ H' => Q .non H', rt := Q } (L2.start N vs) H) :
    FnR P w K mg base CX (CP (k + 1) p) f (PySem.W.fnOf name qual params body scope dV kV doc pm an cdv ct) ps sp :=
  ⟨sized, fun A outer s H args us vs Q E hc e0 hb r h =>
    call_body (c := false) (pn := [p]) lk hcd S hc.1.depth e0 hb
      (fun s1 x => inv_startH S hc.2.2 e0 (sized _ _ _ _ h) r x)
      (reads A outer s H vs Q E hc.2.1 (hc.1.deeper _) h)⟩
end
section
variable {X : Cx} {CX : CXT} {C : Con} {f : Addr} {fd : FuncData} {ps : List Str} {sp : Sp} {E : XK} {x : Str} {p pos : Pos}
  {e : Expr} {es : List Expr} {t : TA}
/-- a call of such a def -/
theorem pe_callR (F : FnR X.prog X.w X.K X.mg X.base CX C f fd ps sp)
    (hC : ∀ pins σ H s, L2.Inv X pins σ H s → C X.A X.stack s H) (hg : Gl X x) (hm : X.mg x = some (.ref f))
    (hk : PySem.W.keepIn X.K (.ref f) = true) (hb : Binds X.K fd ps []) (hx : Passes CX X E) (ha : PA X (e :: es) t)
    (hdb : (x == ("__debug__" : Str)) = false := by decide)
    (he : starEach (e :: es) X.env = (false, eval e X.env) :: starEach es X.env := by rfl)
    (hpl : (backTo pos (starEach es X.env)).any (·.1) = false := by rfl) :
    PE X (.Call (.Name x p) (e :: es) [] pos) (tCall sp [] E t) := by
  refine ⟨fun pins s σ H Q I h => wpAny_Call_Name_kw (ld_glob I hg hm ?_ hdb)⟩
  refine PySem.W.callWith_K (h₀ := X.base) I.ok.mod.kin hk
    (thn (ha.run pos pins s σ H _ I h) fun us s1 hh => ?_) he hpl
  obtain ⟨vs, H1, I1, r, q⟩ := hh
  rw [List.append_nil] at q
  have hl : (us ++ []).length = ps.length := by
    rw [List.append_nil, ← r.length]
    exact F.sized _ _ _ _ q
  have b := hb s1 us I1.kIn hl
  rw [List.append_nil] at b
  refine ⟨I1.kIn, wpAny_call (codeAny_mono
    (F.does X.A X.stack s1 H1 ⟨us, []⟩ us vs Q E (hC _ _ _ _ I1) I1.env0 b r q) fun r s' hq => ?_)⟩
  match r, hq with
  | .error e, hq => exact hx pins σ H1 s1 e s' I1 hq
  | .ok (.ret u), hq => exact I1.after hq
end
end KX

namespace KX
open PySem PySem.Spec PyProof.Rows L2 L2H
/-! in an except suite -/
theorem hot_suite {X : Cx} {a : Addr} {oe : Obj} {cls : Value} {d : Option Addr} {pn : List (Addr × Obj)}
    (hz : L2N.Zn cls d oe) (hf : ∃ vs, oe.data = .fields vs) : HotC (X.suite a ((a, oe) :: pn)) := by
  obtain ⟨vs, hv⟩ := hf
  exact ⟨(a, oe), ⟨rfl, vs, hv, hz.2.2 vs hv⟩, List.mem_cons_self⟩
/-- the dict of the exception, if any, is tracked -/
def DictIs (d : Option Addr) (H : Hp) : Prop := d = none ∨ ∃ dd fs, d = some dd ∧ H dd = some (.xd fs)
/-- isinstance(e, c), e pinned -/
def rIsP (K : PySem.W.Frag) (D a : Addr) (d : Option Addr) : List V → Hp → VK → Prop := fun xs H Q =>
  DictIs d H ∧ ∃ (c : V) (cv : Value) (b : Bool), xs = [.ref a, c] ∧ (∀ u, RelV c u → u = cv) ∧
    PySem.W.kitOne K (.ref D) cv = some b ∧ Q (.bl b) H
theorem call_isP {X : Cx} {a D : Addr} {oe : Obj} {d : Option Addr} (C : ExcC X.K D) (hp : (a, oe) ∈ X.pn)
    (hz : Zc (.ref D) d oe) (hf : ∃ vs, oe.data = .fields vs) : CallR X (.builtin "isinstance") (rIsP X.K D a d) := by
  intro pins s σ H xs us Q I r h
  obtain ⟨hd, c, cv, b, rfl, hcv, e, q⟩ := h
  cases r with
  | cons rx rr =>
    cases rr with
    | cons rt rr =>
      cases rr
      cases rx
      have ec := hcv _ rt
      subst ec
      obtain ⟨hget, _⟩ := I.pin (a, oe) (List.mem_append_left _ hp)
      obtain ⟨vs, hv⟩ := hf
      obtain ⟨od, J⟩ : ∃ od, PySem.W.InstAt s.heap a oe D od := by
        rcases hd with hd | ⟨dd, fs, hd, hH⟩
        · refine ⟨none, hget, hz.1, by unfold PySem.W.notCls; rw [hv] <;> rfl, ?_⟩
          rw [hz.2, hd]
          trivial
        · have hx : ObjOk X.prog X.w H s.heap dd (.xd fs) := I.hok dd _ hH
          obtain ⟨mA, hns, _⟩ := hx
          obtain ⟨od, ho, _⟩ := lookIn_ns hns
          refine ⟨some od, hget, hz.1, by unfold PySem.W.notCls; rw [hv] <;> rfl, ?_⟩
          rw [hz.2, hd]
          exact ho
      have hcl : (PySem.W.clsIn X.K D).isSome = true := by
        obtain ⟨cd, hc, _⟩ := PySem.W.any_some C.hd
        rw [hc]
        rfl
      exact PySem.W.kia_one (PySem.W.kitx_exc (od := od) (ox := oe) hcl C.hg C.hk C.hs C.ha C.hn C.ht C.hm) I.kIn J e
        (fun z => nomatch z) fun tk => ⟨.bl b, H, I.kept (t' := tk) fun _ _ z => z, rfl, q⟩
/-! a list comprehension there -/
section
variable {X : Cx}
/-- the block's context, the handled exception pinned -/
abbrev hblk (X : Cx) (p : Addr × Obj) (s : Shared) (H : Hp) (scope : Scope) (ce : Env) (fp : List Addr) : Cx :=
  (X.blk s H scope ce fp).tr ([] ++ [p]) (fun _ _ => False)
theorem to_hblk {p : Addr × Obj} {s s' : Shared} {H H' : Hp} {scope : Scope} {ce : Env} {fp : List Addr} {σ : L2.St}
    (I : L2.Inv (X.blk s H scope ce fp) [] σ H' s')
    (h : s'.heap.get? p.1 = some p.2 ∧ H' p.1 = none ∧ p.1 ≠ ce.locals ∧ p.1 ∉ (X.blk s H scope ce fp).fs ∧ ∀ v, p.2.data ≠ .cell v) :
    L2.Inv (hblk X p s H scope ce fp) [] σ H' s' :=
  (I.pins_of (pins' := [p]) fun q hq => by rw [List.mem_singleton.mp hq]; exact h).toTry _
theorem hblk_hot {p : Addr × Obj} {s : Shared} {H : Hp} {scope : Scope} {ce : Env} {fp : List Addr} (h : Hot1 X.A p) :
    HotC (hblk X p s H scope ce fp) := ⟨p, h, by simp⟩
theorem pe_lcHot {p : Addr × Obj} {elt tg iter : Expr} {scope : Scope} {own : List (Str × Nat)} {pos : Pos} {wi : TI} {g : TG}
    {te : TE} (hot : Hot1 X.A p) (hp : p ∈ X.pn) (hN : X.N.Nodup) (hi : PIH X tg iter wi) (ok : BlkOk X.N X.env.scope scope own)
    (hg : ∀ s H C cl fp, PG (hblk X p s H scope (compEnvC scope cl C X.env) fp) tg g)
    (he : ∀ s H C cl fp, PE (hblk X p s H scope (compEnvC scope cl C X.env) fp) elt te)
    (hs : ∀ x, foldedSetIterable iter X.env x = pure x := by intro _; rfl) :
    PE X (.ListComp elt [⟨tg, iter, [], 0⟩] scope pos) (tLc wi g tYes te (own.map (·.2))) := by
  refine ⟨fun pins s σ H Q I h => ?_⟩
  rw [eval_ListComp]
  have free : ∀ y ∈ scope.names, y.2 = .free → ∃ c, X.env.cells.lookup y.1 = some c := fun y hy e =>
    (ok.free y hy e).elim (fun k => I.ok.has _ (Or.inl k)) fun k => I.ok.has _ (Or.inr k)
  refine wpAny_comprehension_free (use := none) rfl hs (closure_ok free) ok.kind
    (fun y hy e => by rw [ok.uniq y hy, e])
    (thn (hi.run pins s σ H _ I h) fun xv s1 hx => thn hx fun itv s2 h2 => ?_)
  obtain ⟨it, fp, tn, J, H2, e, I2, T, st2, f2, q⟩ := h2
  subst e
  refine wpAny_newObj_type (newEnv_comp ?_) (by show 0 ≤ sizeLine; decide)
  generalize hD : s2.heap.objs.size = D
  have hDn : H2 D = none := I2.hok.fresh (Nat.le_of_eq hD)
  obtain ⟨W, ⟨m0, w0⟩, turn⟩ := q D hDn
  generalize hs3 : ({ s2 with heap := s2.heap.push { cls := .type "list", data := .seq ([] : List Value).toArray } } : Shared) = s3
  have k23 : ∀ b o, s2.heap.get? b = some o → s3.heap.get? b = some o := fun b o e => by
    rw [← hs3]
    exact Heap.get?_push_of_some _ e
  have I3 : L2.Inv X pins σ (upd H2 D (.lst [])) s3 := by
    rw [← hs3]
    refine I2.laid (t' := s2.toks) (fun b o e => Heap.get?_push_of_some _ e) (Nat.le_of_eq hD)
      ⟨Nat.zero_le _, [], 0, .nil, ?_⟩
    rw [← hD]
    exact Heap.get?_push_size _ rfl
  have sz3 : s3.heap.objs.size = s2.heap.objs.size + 1 := by rw [← hs3]; exact Heap.size_push ..
  have P3 := I3.pin p (List.mem_append_left _ hp)
  have small : ∀ b ∈ fp, b < s2.heap.objs.size := fun b hb =>
    let ⟨_, e, _⟩ := T.obj _ _ st2 b hb
    Heap.lt_size e
  have f3 : ∀ b ∈ fp, FpOk X pins (upd H2 D (.lst [])) b ∧ b < s3.heap.objs.size := fun b hb => by
    have hlt := small b hb
    refine ⟨⟨?_, (f2 b hb).2⟩, by rw [sz3]; exact Nat.lt_succ_of_lt hlt⟩
    rw [upd_ne (by rw [← hD]; exact Nat.ne_of_lt hlt)]
    exact (f2 b hb).1
  have st3 : tn 0 s3.heap := T.keep _ _ _ st2 fun b _ o e => k23 b o e
  have I4' := block_start I3 ok hN f3
  show codeAny _ _ (.compStart (.ListComp elt [⟨tg, iter, [], 0⟩] scope pos) 0 (.ref it) (.ref D)
      (compEnvC scope (cellsFrom (s3.heap.objs.size + 1) scope.names (cloFrom X.env.cells scope.names [])) s3.heap.objs.size X.env))
    (compPost (model X.prog X.w) X.A X.xe none (EP X pins σ Q) (.ref D) s3.heap.objs.size)
    { s3 with heap := pushCells (s3.heap.push { cls := .type "dict", data := .dict #[] }) scope.names }
  have pg := hg s3 (upd H2 D (.lst [])) s3.heap.objs.size
    (cellsFrom (s3.heap.objs.size + 1) scope.names (cloFrom X.env.cells scope.names [])) fp
  have pe := he s3 (upd H2 D (.lst [])) s3.heap.objs.size
    (cellsFrom (s3.heap.objs.size + 1) scope.names (cloFrom X.env.cells scope.names [])) fp
  generalize hce : compEnvC scope (cellsFrom (s3.heap.objs.size + 1) scope.names
    (cloFrom X.env.cells scope.names [])) s3.heap.objs.size X.env = ce at I4' pg pe ⊢
  have cL : ce.locals = s3.heap.objs.size := by subst hce; rfl
  generalize hH3 : upd H2 D (.lst []) = H3 at I3 I4' pg pe w0 f3 P3
  generalize hs4 : ({ s3 with heap := pushCells (s3.heap.push { cls := .type "dict", data := .dict #[] }) scope.names } : Shared) = s4
    at I4' ⊢
  have k34 : ∀ b o, s3.heap.get? b = some o → s4.heap.get? b = some o := fun b o e => by
    rw [← hs4]
    exact pushCells_keeps _ _ _ _ (Heap.get?_push_of_some _ e)
  have st4 : tn 0 s4.heap := T.keep _ _ _ st3 fun b _ o e => k34 b o e
  have nfs : p.1 ∉ (X.blk s3 H3 scope ce fp).fs := fun hm =>
    (List.mem_cons.mp (I3.stkSub p.1 hm)).elim P3.2.2.1 P3.2.2.2.1
  have I4 : L2.Inv (hblk X p s3 H3 scope ce fp) [] (wipe σ (own.map (·.2))) H3 s4 := to_hblk I4'
    ⟨k34 _ _ P3.1, P3.2.1, by rw [cL]; exact Nat.ne_of_lt (Heap.lt_size P3.1), nfs, P3.2.2.2.2⟩
  have hc : HotC (hblk X p s3 H3 scope ce fp) := hblk_hot hot
  have nfp : ∀ b ∈ fp, H3 b = none := fun b hb => (f3 b hb).1.1
  have stat : ∀ {σ' : L2.St} {H' : Hp} {s' : Shared}, L2.Inv (hblk X p s3 H3 scope ce fp) [] σ' H' s' → (∀ b ∈ fp, H' b = none) →
      ∀ b ∈ fp, FpOk (hblk X p s3 H3 scope ce fp) [] H' b := fun {σ' H' s'} I' hn b hb =>
    ⟨hn b hb, (I'.ok.exf b hb).1, I'.ok.exfs b hb, Or.inl hb, fun x c e => (I'.ok.exf b hb).2 x c e, fun r hr => by
      have er : r = p := by simpa using hr
      rw [er]
      exact (f3 b hb).1.2.2.2.2.2 p (List.mem_append_left _ hp)⟩
  have loop : codeAny (model X.prog X.w) X.A (.compLoop (.ListComp elt [⟨tg, iter, [], 0⟩] scope pos) 0 (.ref it) (.ref D) ce)
      (compPost (model X.prog X.w) X.A X.xe none (EP X pins σ Q) (.ref D) s3.heap.objs.size) s4 := by
    refine compLoop_any (fun n s' => ∃ i H', L2.Inv (hblk X p s3 H3 scope ce fp) [] (wipe σ (own.map (·.2))) H' s' ∧
      tn i s'.heap ∧ (∀ b ∈ fp, H' b = none) ∧ W i n H') ?_ m0 ⟨0, H3, I4, st4, nfp, w0⟩
    rintro n s5 ⟨i, H5, I5, st5, n5, w5⟩
    rcases turn i n H5 w5 with ⟨stop, qq⟩ | ⟨go, Nx, hNx, step⟩
    · refine thnF (T.done (hblk X p s3 H3 scope ce fp) rfl rfl rfl hc i [] s5 _ H5 (fun _ _ => False) I5 (stat I5 n5) st5 stop)
        fun r s6 hr => ?_
      obtain ⟨rfl, I6⟩ := hr
      have I7 : L2.Inv X pins σ H5 s6 := I3.call' (ch := fp) I6.os I6.base I6.hok I6.bare fun b hb =>
        let z := (f3 b hb).1.2
        ⟨z.2.2.1, z.1, z.2.2.2.1, z.2.2.2.2⟩
      have nC : H5 s3.heap.objs.size = none := by rw [← cL]; exact I6.free
      obtain ⟨m, hn, _⟩ := I6.loc
      have hn : s6.heap.Ns s3.heap.objs.size m := by rw [← cL]; exact hn
      obtain ⟨g0, g1, g2, g3, g4, g5⟩ := I3.fpOk (Nat.le_refl _) nC
      exact ⟨m, hn, fun h'' sb => ⟨.ref D, H5,
        I7.turned (t' := s6.toks) (fun b o hb e => (sb.2 b hb).trans e) g0 g1 g3 g4 g5, rfl, qq⟩⟩
    · refine thnF (T.item (hblk X p s3 H3 scope ce fp) rfl rfl rfl hc i [] s5 _ H5 (fun _ _ => False) I5 (stat I5 n5) st5 go)
        fun r s6 hr => ?_
      obtain ⟨u, rfl, h6⟩ := hr
      refine thnF h6 fun _ s7 h7 => ?_
      obtain ⟨x, H7, I7, r7, y7, st7, n7⟩ := h7
      have I7' := I7.pinned (stat I7 n7) (T.obj _ _ st7)
      refine thnF (pg.run _ s7 _ H7 x u _ I7' r7 (step x H7 y7)) fun _ s8 h8 => ?_
      obtain ⟨σ8, H8, I8, hw8, q8⟩ := h8
      refine wpAny_pure ?_
      have q9 : te σ8 H8 fun y H4 => ∃ acc, H4 D = some (.lst acc) ∧ acc.length < sizeLine ∧ Nx (upd H4 D (.lst (acc ++ [y]))) := q8
      simp only [if_true]
      refine thnF (pe.run _ s8 σ8 H8 _ I8 q9) fun z s10 h10 => ?_
      obtain ⟨yv, H10, I10, r10, acc, hD10, hz10, nx⟩ := h10
      refine app_ok (X := hblk X p s3 H3 scope ce fp) I10 hD10 hz10 r10 fun s11 I11 => ?_
      obtain ⟨m', hm, w'⟩ := hNx _ nx
      have kept : ∀ b ∈ fp, ∀ o, s7.heap.get? b = some o → s11.heap.get? b = some o ∧
          (upd H10 D (.lst (acc ++ [yv]))) b = none := fun b hb o e =>
        let z := I11.pin (b, o) (List.mem_append_right _ (List.mem_append_right _ (mem_pinsAt hb e)))
        ⟨z.1, z.2.1⟩
      refine ⟨m', hm, i + 1, _, (I11.unpinned (pins := [])).weak (by rw [← hw8, wipe_length]) (fun j v e => ?_),
        T.keep _ _ _ st7 fun b hb o e => (kept b hb o e).1, fun b hb => ?_, w'⟩
      · rw [← hw8] at e
        exact (wipe_some e).1
      · obtain ⟨o, e, _⟩ := T.obj _ _ st7 b hb
        exact (kept b hb o e).2
  exact codeAny_compStart_list loop (T.self X.A 0 _ _ _ st4 loop)
end
end KX

namespace KX
open PySem PySem.Spec PyProof.Rows L2 L2H
/-! the law's own call, its def promised under CG -/
theorem none_or_at {H : Hp} {a : Addr} (hA : ∀ b, H b ≠ none → b = a) (b : Addr) : H b = none ∨ b = a := by
  cases q : H b with
  | none => exact Or.inl rfl
  | some u => exact Or.inr (hA b (by rw [q]; exact fun z => nomatch z))
theorem lawG_core {P : Program} {w : World} {K : PySem.W.Frag} {mg mb : Str → Option Value} {CX : CXT} {k : Nat} {fa a : Addr}
    {fd : FuncData} {x : Str} {sp : Sp} {s₁ : Shared} {vs : List Value} {H : Hp}
    (KI : K.In s₁.heap) (hns : s₁.heap.Ns mainGlobals mg) (hb : s₁.heap.Ns builtinsNs mb)
    (hbb : ∀ x : Str, x ≠ "__name__" → mb x = bootBuiltins x) (hlim : s₁.heap.NoLimit) (hg : s₁.gens = #[])
    (ha : s₁.heap.get? a = some { cls := .type "list", data := .seq vs.toArray }) (hr : Room k callerA)
    (F : ∀ base : Heap, K.In base → base.Ns mainGlobals mg → FnR P w K mg base CX (CG k) fa fd [x] sp)
    (hbind : ∀ (s : Shared) (u : Value), BindsTo s fd ⟨[u], []⟩ [(x, u)])
    (hCX : ∀ H e s', CX [] H s₁ (fun _ _ _ => False) e s' → False)
    (hO : Only H) (hS : sp [.ref a] H (fun v _ => v = .bl true) fun _ _ _ => False) (hok : HOk P w H s₁.heap)
    (hA : ∀ b, H b ≠ none → b = a) (hK : H a ≠ none → K.lookup a = none) :
    codeAny (model P w) callerA (.call (.ref fa) ⟨[.ref a], []⟩)
      (fun r s' => r = .ok (.ret (.bool true)) ∧ OldK s₁.heap s'.heap ∧ s'.os = s₁.os ∧ AllBare s'.gens) s₁ := by
  have dictFree : ∀ {b : Addr} {o : Obj} {es : Array DictEntry} {ep : Nat}, s₁.heap.get? b = some o → o.data = .dict es ep → H b = none :=
    fun {b o es ep} e d => (none_or_at hA b).resolve_right fun z => by
      subst z
      rw [ha] at e
      cases e
      have d' : Data.seq vs.toArray _ = Data.dict es ep := d
      cases d'
  have ns' : ∀ {b : Addr} {m : Str → Option Value}, s₁.heap.Ns b m → (hidT s₁.heap H).Ns b m := fun {b m} n => by
    obtain ⟨o, es, ep, e, d, r⟩ := n
    exact ⟨o, es, ep, hidT_get e (dictFree e d), d, r⟩
  have KB : K.In (hidT s₁.heap H) := fun b o e => by
    cases q : H b with
    | none => exact hidT_get (KI b o e) q
    | some u =>
      have eb : b = a := hA b (by rw [q]; exact fun z => nomatch z)
      subst eb
      rw [hK (by rw [q]; exact fun z => nomatch z)] at e
      cases e
  have MB : Mod K mg (hidT s₁.heap H) := by
    obtain ⟨mc, h1, h2⟩ := hlim
    exact ⟨KB, ns' hns, ⟨mb, ns' hb, hbb⟩, ⟨mc, ns' h1, h2⟩⟩
  have e0 : Env0 P w K mg (hidT s₁.heap H) callerA [] s₁ H :=
    ⟨rfl, MB, fun b o e => of_hidT e, Nat.le_of_eq (hidT_size _ _), trivial,
      fun b hb => absurd (show b ∈ ([] : List Addr) from hb) (by simp), hok, .of_eq hg⟩
  refine codeAny_mono ((F _ KB (ns' hns)).does callerA [] s₁ H ⟨[.ref a], []⟩ [.ref a] [.ref a] _ _ ⟨hr, rfl⟩ e0
    (hbind s₁ (.ref a)) (.cons rfl .nil) hS) fun r s' h => ?_
  match r, h with
  | .error e, h => exact (hCX H e s' h).elim
  | .ok (.ret u), h =>
    obtain ⟨v, H', os, bare, un, hok', r', q⟩ := h
    have q' : v = .bl true := q
    subst q'
    obtain rfl : u = Value.bool true := r'
    refine ⟨rfl, OldK.of_keep fun b o e => ?_, os, bare⟩
    cases q : H b with
    | none => exact un.keep b o e q (by intro z; exact absurd (show b ∈ ([] : List Addr) from z) (by simp)) (by simp)
    | some u =>
      rcases hO b with z | ⟨ob, xs, z⟩
      · rw [q] at z
        cases z
      · have e1 := (hok b _ z).1
        have e2 := (hok' b _ (un.frzs b ob _ z)).1
        rw [e] at e1
        cases e1
        exact e2
theorem law_callG {P : Program} {w : World} {K : PySem.W.Frag} {mg mb : Str → Option Value} {CX : CXT} {k : Nat} {fa a : Addr}
    {fd : FuncData} {x : Str} {sp : Sp} {s₁ : Shared} {vs : List Value} {ns : List Int}
    (KI : K.In s₁.heap) (hns : s₁.heap.Ns mainGlobals mg) (hb : s₁.heap.Ns builtinsNs mb)
    (hbb : ∀ x : Str, x ≠ "__name__" → mb x = bootBuiltins x) (hlim : s₁.heap.NoLimit) (hg : s₁.gens = #[])
    (ha : s₁.heap.get? a = some { cls := .type "list", data := .seq vs.toArray }) (hi : IntsAre vs ns)
    (hl : ns.length ≤ sizeLine) (hr : Room k callerA)
    (F : ∀ base : Heap, K.In base → base.Ns mainGlobals mg → FnR P w K mg base CX (CG k) fa fd [x] sp)
    (hbind : ∀ (s : Shared) (u : Value), BindsTo s fd ⟨[u], []⟩ [(x, u)])
    (hsp : ∀ H : Hp, Only H → SqL K H a (ns.map V.int) → sp [.ref a] H (fun v _ => v = .bl true) fun _ _ _ => False)
    (hCX : ∀ H e s', CX [] H s₁ (fun _ _ _ => False) e s' → False) :
    codeAny (model P w) callerA (.call (.ref fa) ⟨[.ref a], []⟩)
      (fun r s' => r = .ok (.ret (.bool true)) ∧ OldK s₁.heap s'.heap ∧ s'.os = s₁.os ∧ AllBare s'.gens) s₁ := by
  have rv := vals_ints hi
  cases hk : K.lookup a with
  | some o =>
    have e := KI a o hk
    rw [ha] at e
    cases e
    have O : Only fun _ => none := fun _ => Or.inl rfl
    have S : SqL K (fun _ => none) a (ns.map V.int) :=
      Or.inr ⟨_, vs.toArray, _, hk, rfl, rfl, rfl, by rw [List.size_toArray, hi.length]; exact hl, by simpa using rv⟩
    exact lawG_core KI hns hb hbb hlim hg ha hr F hbind hCX O (hsp _ O S) (fun b u z => nomatch z) (fun b z => absurd rfl z)
      fun z => absurd rfl z
  | none =>
    let H : Hp := fun b => if b = a then
      some (.frz { cls := .type "list", data := .seq vs.toArray } (.lst (ns.map V.int))) else none
    have at_ : H a = some (.frz { cls := .type "list", data := .seq vs.toArray } (.lst (ns.map V.int))) := if_pos rfl
    have off : ∀ {b}, b ≠ a → H b = none := fun h => if_neg h
    have O : Only H := fun b => by
      by_cases h : b = a
      · subst h
        exact Or.inr ⟨_, _, at_⟩
      · exact Or.inl (off h)
    have S : SqL K H a (ns.map V.int) := Or.inl (Or.inr ⟨_, at_⟩)
    refine lawG_core (H := H) KI hns hb hbb hlim hg ha hr F hbind hCX O (hsp _ O S) (fun b u z => ?_)
      (fun b z => Classical.byContradiction fun h => z (off h)) fun _ => hk
    by_cases h : b = a
    · subst h
      rw [at_] at z
      cases z
      exact ⟨ha, by rw [List.length_map]; exact hl, vs, _, rv, ha⟩
    · rw [off h] at z
      cases z
/-- what k_head leaves, by the law's promise under CG -/
theorem walk_ofG {l : PySem.W.OpenLaw} {n k : Nat} {q : Program} {loose : List Str} {XP : (Str → Option Value) → Heap → Prop}
    {YP : World → Heap → Prop} {d : DefRec} {K : Params → PySem.W.Frag} {CX : CXT} {sp : PySem.W.Frag → Sp} {x : Str}
    (hn : l.most = some n) (hn2 : n ≤ sizeLine) (hdf : d.params.defaults = []) (hr : Room k callerA)
    (hY : ∀ (w : World) (h : Heap), YP w h → (K w.params).In h)
    (F : ∀ (w : World) (mg : Str → Option Value) (fa : Addr) (h : Heap), (K w.params).In h → h.Ns mainGlobals mg →
      mg d.name = some (.ref fa) → ∃ fd : FuncData, (∀ (s : Shared) (u : Value), BindsTo s fd ⟨[u], []⟩ [(x, u)]) ∧
        ∀ base : Heap, (K w.params).In base → base.Ns mainGlobals mg →
          FnR l.prog w (K w.params) mg base CX (CG k) fa fd [x] (sp (K w.params)))
    (hsp : ∀ (K : PySem.W.Frag) (H : Hp) (a : Addr) (ns : List Int), ns.length ≤ n → Only H → SqL K H a (ns.map V.int) →
      sp K [.ref a] H (fun v _ => v = .bl true) fun _ _ _ => False)
    (hCX : ∀ (H : Hp) (s : Shared) (e : Value) (s' : Shared), CX [] H s (fun _ _ _ => False) e s' → False) :
    PySem.W.WalkO q loose XP YP l.row.toRowW d [] (fun f vs => PySem.call f vs) := by
  refine Att.attach_call hn hdf fun w s₀ s₁ mg mb fa o pm cd doc a vs ns G Y ho hd hcd hmg hobj hints hlen hg => ?_
  have KI := hY w _ Y
  obtain ⟨fd, hb, hF⟩ := F w mg fa _ KI G.T.g hmg
  exact law_callG KI G.T.g G.T.b G.T.builtins G.T.nolimit hg hobj hints (Nat.le_trans hlen hn2) hr hF hb
    (fun H hO hS => hsp (K w.params) H a ns hlen hO hS) fun H e s' => hCX H s₁ e s'
end KX

namespace K00
open PySem PySem.Spec PyProof.Rows L2 L2H KX
/-! the text -/
def top (i : Nat) : Stmt :=
  PySem.Challenge.pw_handalong_k00_errors_and_what_they_keep.main.body.getD i (.Pass ⟨0, 0, 0, 0⟩)
abbrev sMarks : Stmt := top 16
abbrev sRaise : Stmt := top 17
abbrev sHeard : Stmt := top 18
abbrev sLaw : Stmt := top 19
/-- what the top has written of the errors -/
structure Errs (K : PySem.W.Frag) (mg : Str → Option Value) (C fI : Nat → Addr) : Prop where
  e0 : PySem.ErrX.ErrTxt K mg "InvalidPolicy" "InvalidPolicy.__init__" (C 0) (fI 0)
  e1 : PySem.ErrX.ErrTxt K mg "InvalidNetwork" "InvalidNetwork.__init__" (C 1) (fI 1)
  e2 : PySem.ErrX.ErrTxt K mg "InvalidView" "InvalidView.__init__" (C 2) (fI 2)
  e3 : PySem.ErrX.ErrTxt K mg "InvalidScore" "InvalidScore.__init__" (C 3) (fI 3)
  e4 : PySem.ErrX.ErrTxt K mg "InvalidCollection" "InvalidCollection.__init__" (C 4) (fI 4)
  e5 : PySem.ErrX.ErrTxt K mg "InvalidTransfer" "InvalidTransfer.__init__" (C 5) (fI 5)
  e6 : PySem.ErrX.ErrTxt K mg "InvalidRule" "InvalidRule.__init__" (C 6) (fI 6)
  e7 : PySem.ErrX.ErrTxt K mg "InvalidText" "InvalidText.__init__" (C 7) (fI 7)
  e8 : PySem.ErrX.ErrTxt K mg "InvalidQuestion" "InvalidQuestion.__init__" (C 8) (fI 8)
  e9 : PySem.ErrX.ErrTxt K mg "NotObeyed" "NotObeyed.__init__" (C 9) (fI 9)
  e10 : PySem.ErrX.ErrTxt K mg "Refused" "Refused.__init__" (C 10) (fI 10)
  e11 : PySem.ErrX.ErrTxt0 K mg "NoNetwork" "NoNetwork.__init__" (C 11) (fI 11)
  e12 : PySem.ErrX.ErrTxt0 K mg "InvalidCommand" "InvalidCommand.__init__" (C 12) (fI 12)
/-! _law_raise -/
theorem scR : FnScope ["at", "thing"] ["at", "thing"] (defScope sRaise) :=
  ⟨rfl, rfl, rfl, by decide +kernel, rfl, by decide +kernel, by decide +kernel⟩
def spRaise (C : Nat → Addr) : Sp := fun vs H _ E => ∃ (i : Nat) (v : V), i < 13 ∧ vs = [.int (i : Int), v] ∧
  (i < 11 → ∀ d, H d = none → E (.ref (C i)) (some d) (upd H d (.xd [(("at" : Str), v)]))) ∧
  (11 ≤ i → E (.ref (C i)) none H)
section
variable {P : Program} {w : World} {K : PySem.W.Frag} {mg : Str → Option Value} {base : Heap} {C fI : Nat → Addr}
theorem ok_raise {f : Addr} {fd : FuncData} (F : Fun K "_law_raise" "_law_raise" sRaise f fd) (T : Errs K mg C fI) :
    FnOk P w K mg base (L2N.CX P w) 3 f fd ["at", "thing"] (spRaise C) := by
  obtain ⟨oc, od, kV, doc, pm, an, cdv, ct, osl, rfl, lk, hcd⟩ := F.ex
  refine fn_of lk hcd scR (fun vs H Q E h => ?_) fun A outer s H vs Q E hr h => ?_
  · obtain ⟨i, v, _, rfl, _⟩ := h
    rfl
  · refine ⟨_, 
pss_cons (ps_if (pt_cmpR op_eq (pv 0) pe_int (nomark _))
      (pss_one (ps_raiseErr rfl T.e0 hr (L2N.takes_of rfl rfl rfl rfl) (by exact pa_cons (pv 1) pa_nil))) pss_nil) (pss_cons (ps_if (pt_cmpR op_eq (pv 0) pe_int (nomark _))
      (pss_one (ps_raiseErr rfl T.e1 hr (L2N.takes_of rfl rfl rfl rfl) (by exact pa_cons (pv 1) pa_nil))) pss_nil) (pss_cons (ps_if (pt_cmpR op_eq (pv 0) pe_int (nomark _))
      (pss_one (ps_raiseErr rfl T.e2 hr (L2N.takes_of rfl rfl rfl rfl) (by exact pa_cons (pv 1) pa_nil))) pss_nil) (pss_cons (ps_if (pt_cmpR op_eq (pv 0) pe_int (nomark _))
      (pss_one (ps_raiseErr rfl T.e3 hr (L2N.takes_of rfl rfl rfl rfl) (by exact pa_cons (pv 1) pa_nil))) pss_nil) (pss_cons (ps_if (pt_cmpR op_eq (pv 0) pe_int (nomark _))
      (pss_one (ps_raiseErr rfl T.e4 hr (L2N.takes_of rfl rfl rfl rfl) (by exact pa_cons (pv 1) pa_nil))) pss_nil) (pss_cons (ps_if (pt_cmpR op_eq (pv 0) pe_int (nomark _))
      (pss_one (ps_raiseErr rfl T.e5 hr (L2N.takes_of rfl rfl rfl rfl) (by exact pa_cons (pv 1) pa_nil))) pss_nil) (pss_cons (ps_if (pt_cmpR op_eq (pv 0) pe_int (nomark _))
      (pss_one (ps_raiseErr rfl T.e6 hr (L2N.takes_of rfl rfl rfl rfl) (by exact pa_cons (pv 1) pa_nil))) pss_nil) (pss_cons (ps_if (pt_cmpR op_eq (pv 0) pe_int (nomark _))
      (pss_one (ps_raiseErr rfl T.e7 hr (L2N.takes_of rfl rfl rfl rfl) (by exact pa_cons (pv 1) pa_nil))) pss_nil) (pss_cons (ps_if (pt_cmpR op_eq (pv 0) pe_int (nomark _))
      (pss_one (ps_raiseErr rfl T.e8 hr (L2N.takes_of rfl rfl rfl rfl) (by exact pa_cons (pv 1) pa_nil))) pss_nil) (pss_cons (ps_if (pt_cmpR op_eq (pv 0) pe_int (nomark _))
      (pss_one (ps_raiseErr rfl T.e9 hr (L2N.takes_of rfl rfl rfl rfl) (by exact pa_cons (pv 1) pa_nil))) pss_nil) (pss_cons (ps_if (pt_cmpR op_eq (pv 0) pe_int (nomark _))
      (pss_one (ps_raiseErr rfl T.e10 hr (L2N.takes_of rfl rfl rfl rfl) (by exact pa_cons (pv 1) pa_nil))) pss_nil) (pss_cons (ps_if (pt_cmpR op_eq (pv 0) pe_int (nomark _))
      (pss_one (ps_raiseErr0 rfl T.e11 hr (L2N.takes_of rfl rfl rfl rfl))) pss_nil) (pss_one (ps_raiseErr0 rfl T.e12 hr (L2N.takes_of rfl rfl rfl rfl)))))))))))))), ?_⟩
    obtain ⟨i, v, hi, rfl, k1, k2⟩ := h
    match i, hi with
    | 0, _ => exact ⟨_, rfl, rfl, _, rfl, iteT ⟨_, rfl, _, rfl, fun d hd => k1 (by decide) d hd⟩⟩
    | 1, _ => refine ⟨_, rfl, rfl, _, rfl, iteF ?_⟩; exact ⟨_, rfl, rfl, _, rfl, iteT ⟨_, rfl, _, rfl, fun d hd => k1 (by decide) d hd⟩⟩
    | 2, _ => refine ⟨_, rfl, rfl, _, rfl, iteF ?_⟩; refine ⟨_, rfl, rfl, _, rfl, iteF ?_⟩; exact ⟨_, rfl, rfl, _, rfl, iteT ⟨_, rfl, _, rfl, fun d hd => k1 (by decide) d hd⟩⟩
    | 3, _ => refine ⟨_, rfl, rfl, _, rfl, iteF ?_⟩; refine ⟨_, rfl, rfl, _, rfl, iteF ?_⟩; refine ⟨_, rfl, rfl, _, rfl, iteF ?_⟩; exact ⟨_, rfl, rfl, _, rfl, iteT ⟨_, rfl, _, rfl, fun d hd => k1 (by decide) d hd⟩⟩
    | 4, _ => refine ⟨_, rfl, rfl, _, rfl, iteF ?_⟩; refine ⟨_, rfl, rfl, _, rfl, iteF ?_⟩; refine ⟨_, rfl, rfl, _, rfl, iteF ?_⟩; refine ⟨_, rfl, rfl, _, rfl, iteF ?_⟩; exact ⟨_, rfl, rfl, _, rfl, iteT ⟨_, rfl, _, rfl, fun d hd => k1 (by decide) d hd⟩⟩
    | 5, _ => refine ⟨_, rfl, rfl, _, rfl, iteF ?_⟩; refine ⟨_, rfl, rfl, _, rfl, iteF ?_⟩; refine ⟨_, rfl, rfl, _, rfl, iteF ?_⟩; refine ⟨_, rfl, rfl, _, rfl, iteF ?_⟩; refine ⟨_, rfl, rfl, _, rfl, iteF ?_⟩; exact ⟨_, rfl, rfl, _, rfl, iteT ⟨_, rfl, _, rfl, fun d hd => k1 (by decide) d hd⟩⟩
    | 6, _ => refine ⟨_, rfl, rfl, _, rfl, iteF ?_⟩; refine ⟨_, rfl, rfl, _, rfl, iteF ?_⟩; refine ⟨_, rfl, rfl, _, rfl, iteF ?_⟩; refine ⟨_, rfl, rfl, _, rfl, iteF ?_⟩; refine ⟨_, rfl, rfl, _, rfl, iteF ?_⟩; refine ⟨_, rfl, rfl, _, rfl, iteF ?_⟩; exact ⟨_, rfl, rfl, _, rfl, iteT ⟨_, rfl, _, rfl, fun d hd => k1 (by decide) d hd⟩⟩
    | 7, _ => refine ⟨_, rfl, rfl, _, rfl, iteF ?_⟩; refine ⟨_, rfl, rfl, _, rfl, iteF ?_⟩; refine ⟨_, rfl, rfl, _, rfl, iteF ?_⟩; refine ⟨_, rfl, rfl, _, rfl, iteF ?_⟩; refine ⟨_, rfl, rfl, _, rfl, iteF ?_⟩; refine ⟨_, rfl, rfl, _, rfl, iteF ?_⟩; refine ⟨_, rfl, rfl, _, rfl, iteF ?_⟩; exact ⟨_, rfl, rfl, _, rfl, iteT ⟨_, rfl, _, rfl, fun d hd => k1 (by decide) d hd⟩⟩
    | 8, _ => refine ⟨_, rfl, rfl, _, rfl, iteF ?_⟩; refine ⟨_, rfl, rfl, _, rfl, iteF ?_⟩; refine ⟨_, rfl, rfl, _, rfl, iteF ?_⟩; refine ⟨_, rfl, rfl, _, rfl, iteF ?_⟩; refine ⟨_, rfl, rfl, _, rfl, iteF ?_⟩; refine ⟨_, rfl, rfl, _, rfl, iteF ?_⟩; refine ⟨_, rfl, rfl, _, rfl, iteF ?_⟩; refine ⟨_, rfl, rfl, _, rfl, iteF ?_⟩; exact ⟨_, rfl, rfl, _, rfl, iteT ⟨_, rfl, _, rfl, fun d hd => k1 (by decide) d hd⟩⟩
    | 9, _ => refine ⟨_, rfl, rfl, _, rfl, iteF ?_⟩; refine ⟨_, rfl, rfl, _, rfl, iteF ?_⟩; refine ⟨_, rfl, rfl, _, rfl, iteF ?_⟩; refine ⟨_, rfl, rfl, _, rfl, iteF ?_⟩; refine ⟨_, rfl, rfl, _, rfl, iteF ?_⟩; refine ⟨_, rfl, rfl, _, rfl, iteF ?_⟩; refine ⟨_, rfl, rfl, _, rfl, iteF ?_⟩; refine ⟨_, rfl, rfl, _, rfl, iteF ?_⟩; refine ⟨_, rfl, rfl, _, rfl, iteF ?_⟩; exact ⟨_, rfl, rfl, _, rfl, iteT ⟨_, rfl, _, rfl, fun d hd => k1 (by decide) d hd⟩⟩
    | 10, _ => refine ⟨_, rfl, rfl, _, rfl, iteF ?_⟩; refine ⟨_, rfl, rfl, _, rfl, iteF ?_⟩; refine ⟨_, rfl, rfl, _, rfl, iteF ?_⟩; refine ⟨_, rfl, rfl, _, rfl, iteF ?_⟩; refine ⟨_, rfl, rfl, _, rfl, iteF ?_⟩; refine ⟨_, rfl, rfl, _, rfl, iteF ?_⟩; refine ⟨_, rfl, rfl, _, rfl, iteF ?_⟩; refine ⟨_, rfl, rfl, _, rfl, iteF ?_⟩; refine ⟨_, rfl, rfl, _, rfl, iteF ?_⟩; refine ⟨_, rfl, rfl, _, rfl, iteF ?_⟩; exact ⟨_, rfl, rfl, _, rfl, iteT ⟨_, rfl, _, rfl, fun d hd => k1 (by decide) d hd⟩⟩
    | 11, _ => refine ⟨_, rfl, rfl, _, rfl, iteF ?_⟩; refine ⟨_, rfl, rfl, _, rfl, iteF ?_⟩; refine ⟨_, rfl, rfl, _, rfl, iteF ?_⟩; refine ⟨_, rfl, rfl, _, rfl, iteF ?_⟩; refine ⟨_, rfl, rfl, _, rfl, iteF ?_⟩; refine ⟨_, rfl, rfl, _, rfl, iteF ?_⟩; refine ⟨_, rfl, rfl, _, rfl, iteF ?_⟩; refine ⟨_, rfl, rfl, _, rfl, iteF ?_⟩; refine ⟨_, rfl, rfl, _, rfl, iteF ?_⟩; refine ⟨_, rfl, rfl, _, rfl, iteF ?_⟩; refine ⟨_, rfl, rfl, _, rfl, iteF ?_⟩; exact ⟨_, rfl, rfl, _, rfl, iteT (k2 (by decide))⟩
    | 12, _ => refine ⟨_, rfl, rfl, _, rfl, iteF ?_⟩; refine ⟨_, rfl, rfl, _, rfl, iteF ?_⟩; refine ⟨_, rfl, rfl, _, rfl, iteF ?_⟩; refine ⟨_, rfl, rfl, _, rfl, iteF ?_⟩; refine ⟨_, rfl, rfl, _, rfl, iteF ?_⟩; refine ⟨_, rfl, rfl, _, rfl, iteF ?_⟩; refine ⟨_, rfl, rfl, _, rfl, iteF ?_⟩; refine ⟨_, rfl, rfl, _, rfl, iteF ?_⟩; refine ⟨_, rfl, rfl, _, rfl, iteF ?_⟩; refine ⟨_, rfl, rfl, _, rfl, iteF ?_⟩; refine ⟨_, rfl, rfl, _, rfl, iteF ?_⟩; refine ⟨_, rfl, rfl, _, rfl, iteF ?_⟩; exact k2 (by decide)
end
end K00

namespace K00
open PySem PySem.Spec PyProof.Rows L2 L2H KX
/-! _law_marks -/
structure Isx (K : PySem.W.Frag) (C : Nat → Addr) (CN : Addr) : Prop where
  x : ∀ i, i < 13 → ExcC K (C i)
  kit : ∀ i j, i < 13 → j < 13 → PySem.W.kitOne K (.ref (C i)) (.ref (C j)) = some (decide (j = i))
  ve : ∀ i, i < 13 → PySem.W.kitOne K (.ref (C i)) (.type "ValueError") = some true
  exm : ∀ i, i < 13 → PySem.W.exmOne K (.ref (C i)) (.ref CN) = some true
theorem scM : FnScope ["e", "found"] ["e"] (defScope sMarks) :=
  ⟨rfl, rfl, rfl, by decide +kernel, rfl, by decide +kernel, by decide +kernel⟩
def marks (i : Nat) : List V := (List.range 13).map fun j => V.bl (decide (j = i))
def spMarks (i : Nat) (a : Addr) (d : Option Addr) : Sp := fun vs H Q _ => vs = [.ref a] ∧ DictIs d H ∧
  ∀ H' l, Same H H' → H' l = some (.lst (marks i)) → Q (.ref l) H'
theorem dict_upd {d : Option Addr} {H : Hp} {p : Addr} {o : HO} (h : DictIs d H) (hp : H p = none) : DictIs d (upd H p o) := by
  rcases h with h | ⟨dd, fs, h, e⟩
  · exact Or.inl h
  · exact Or.inr ⟨dd, fs, h, by rw [upd_ne (ne_of_none e hp)]; exact e⟩
theorem same_upd {H H' : Hp} {p : Addr} {o : HO} (h : Same H H') (hp : H' p = none) : Same H (upd H' p o) := fun b u e => by
  rw [upd_ne (ne_of_none (h b u e) hp)]
  exact h b u e
section
variable {P : Program} {w : World} {K : PySem.W.Frag} {mg : Str → Option Value} {base : Heap} {C fI : Nat → Addr} {CN : Addr}
theorem ok_marks {f : Addr} {fd : FuncData} {i : Nat} (hi : i < 13) {a : Addr} {oe : Obj} {d : Option Addr}
    (F : Fun K "_law_marks" "_law_marks" sMarks f fd) (T : Errs K mg C fI) (X : Isx K C CN) (gI : mg "isinstance" = none)
    (hz : Zc (.ref (C i)) d oe) (hf : ∃ vs, oe.data = .fields vs) :
    FnR P w K mg base CX0 (CP 1 (a, oe)) f fd ["e"] (spMarks i a d) := by
  obtain ⟨oc, od, kV, doc, pm, an, cdv, ct, osl, rfl, lk, hcd⟩ := F.ex
  refine fnP_of lk hcd scM (fun vs H Q E h => ?_) fun A outer s H vs Q E hot hr h => ?_
  · obtain ⟨rfl, _⟩ := h
    rfl
  · have cI : CallR (cxV false [(a, oe)] (cxOf CX0 P w K mg base ["e", "found"] "_law_marks" (defScope sMarks) f cdv A outer s H E))
        (.builtin "isinstance") (rIsP K (C i) a d) := call_isP (X.x i hi) List.mem_cons_self hz hf
    refine ⟨_, 
pss_cons (ps_set (i := 1) scM.nd rfl (Or.inl rfl) (pe_lst (pa_cons (pe_callB cI (by rfl) gI (by decide +kernel)
      (by exact pa_cons (pv 0) (pa_cons (pe_glob (v := .ref (C 0)) rfl T.e0.gC rfl) pa_nil))) (pa_cons (pe_callB cI (by rfl) gI (by decide +kernel)
      (by exact pa_cons (pv 0) (pa_cons (pe_glob (v := .ref (C 1)) rfl T.e1.gC rfl) pa_nil))) (pa_cons (pe_callB cI (by rfl) gI (by decide +kernel)
      (by exact pa_cons (pv 0) (pa_cons (pe_glob (v := .ref (C 2)) rfl T.e2.gC rfl) pa_nil))) (pa_cons (pe_callB cI (by rfl) gI (by decide +kernel)
      (by exact pa_cons (pv 0) (pa_cons (pe_glob (v := .ref (C 3)) rfl T.e3.gC rfl) pa_nil))) pa_nil)))))) (pss_cons (ps_set (i := 1) scM.nd rfl (Or.inl rfl) (pe_op op_cat (pv 1) (pe_lst (pa_cons (pe_callB cI (by rfl) gI (by decide +kernel)
      (by exact pa_cons (pv 0) (pa_cons (pe_glob (v := .ref (C 4)) rfl T.e4.gC rfl) pa_nil))) (pa_cons (pe_callB cI (by rfl) gI (by decide +kernel)
      (by exact pa_cons (pv 0) (pa_cons (pe_glob (v := .ref (C 5)) rfl T.e5.gC rfl) pa_nil))) (pa_cons (pe_callB cI (by rfl) gI (by decide +kernel)
      (by exact pa_cons (pv 0) (pa_cons (pe_glob (v := .ref (C 6)) rfl T.e6.gC rfl) pa_nil))) pa_nil)))))) (pss_cons (ps_set (i := 1) scM.nd rfl (Or.inl rfl) (pe_op op_cat (pv 1) (pe_lst (pa_cons (pe_callB cI (by rfl) gI (by decide +kernel)
      (by exact pa_cons (pv 0) (pa_cons (pe_glob (v := .ref (C 7)) rfl T.e7.gC rfl) pa_nil))) (pa_cons (pe_callB cI (by rfl) gI (by decide +kernel)
      (by exact pa_cons (pv 0) (pa_cons (pe_glob (v := .ref (C 8)) rfl T.e8.gC rfl) pa_nil))) (pa_cons (pe_callB cI (by rfl) gI (by decide +kernel)
      (by exact pa_cons (pv 0) (pa_cons (pe_glob (v := .ref (C 9)) rfl T.e9.gC rfl) pa_nil))) (pa_cons (pe_callB cI (by rfl) gI (by decide +kernel)
      (by exact pa_cons (pv 0) (pa_cons (pe_glob (v := .ref (C 10)) rfl T.e10.gC rfl) pa_nil))) pa_nil))))))) (pss_one (ps_ret (pe_op op_cat (pv 1) (pe_lst (pa_cons (pe_callB cI (by rfl) gI (by decide +kernel)
      (by exact pa_cons (pv 0) (pa_cons (pe_glob (v := .ref (C 11)) rfl T.e11.gC rfl) pa_nil))) (pa_cons (pe_callB cI (by rfl) gI (by decide +kernel)
      (by exact pa_cons (pv 0) (pa_cons (pe_glob (v := .ref (C 12)) rfl T.e12.gC rfl) pa_nil))) pa_nil)))))))), ?_⟩
    obtain ⟨rfl, hd, hQ⟩ := h
    refine ⟨_, rfl, hd, .ref (C 0), .ref (C 0), _, rfl, fun u hu => hu, X.kit i 0 hi (by decide), ?_⟩
    refine ⟨_, rfl, hd, .ref (C 1), .ref (C 1), _, rfl, fun u hu => hu, X.kit i 1 hi (by decide), ?_⟩
    refine ⟨_, rfl, hd, .ref (C 2), .ref (C 2), _, rfl, fun u hu => hu, X.kit i 2 hi (by decide), ?_⟩
    refine ⟨_, rfl, hd, .ref (C 3), .ref (C 3), _, rfl, fun u hu => hu, X.kit i 3 hi (by decide), ?_⟩
    refine ⟨(by show 4 ≤ sizeLine; decide), fun p1 n1 => ?_⟩
    generalize hH1 : upd H p1 _ = H1
    have d1 : DictIs d H1 := hH1 ▸ dict_upd hd n1
    have s1 : Same H H1 := hH1 ▸ same_upd (Same.refl H) n1
    have t1 : Same H H1 := hH1 ▸ same_upd (Same.refl H) n1
    have g1 := (congrFun hH1 p1).symm.trans upd_same
    clear hH1
    refine ⟨_, rfl, ?_⟩
    refine ⟨_, rfl, d1, .ref (C 4), .ref (C 4), _, rfl, fun u hu => hu, X.kit i 4 hi (by decide), ?_⟩
    refine ⟨_, rfl, d1, .ref (C 5), .ref (C 5), _, rfl, fun u hu => hu, X.kit i 5 hi (by decide), ?_⟩
    refine ⟨_, rfl, d1, .ref (C 6), .ref (C 6), _, rfl, fun u hu => hu, X.kit i 6 hi (by decide), ?_⟩
    refine ⟨(by show 3 ≤ sizeLine; decide), fun p2 n2 => ?_⟩
    generalize hH2 : upd H1 p2 _ = H2
    have d2 : DictIs d H2 := hH2 ▸ dict_upd d1 n2
    have s2 : Same H H2 := hH2 ▸ same_upd s1 n2
    have t2 : Same H1 H2 := hH2 ▸ same_upd (Same.refl H1) n2
    have g2 := (congrFun hH2 p2).symm.trans upd_same
    clear hH2
    refine ⟨p1, p2, _, _, rfl, rfl, t2 _ _ g1, g2, (by show 7 ≤ sizeLine; decide), fun p3 n3 => ?_⟩
    generalize hH3 : upd H2 p3 _ = H3
    have d3 : DictIs d H3 := hH3 ▸ dict_upd d2 n3
    have s3 : Same H H3 := hH3 ▸ same_upd s2 n3
    have t3 : Same H2 H3 := hH3 ▸ same_upd (Same.refl H2) n3
    have g3 := (congrFun hH3 p3).symm.trans upd_same
    clear hH3
    refine ⟨_, rfl, ?_⟩
    refine ⟨_, rfl, d3, .ref (C 7), .ref (C 7), _, rfl, fun u hu => hu, X.kit i 7 hi (by decide), ?_⟩
    refine ⟨_, rfl, d3, .ref (C 8), .ref (C 8), _, rfl, fun u hu => hu, X.kit i 8 hi (by decide), ?_⟩
    refine ⟨_, rfl, d3, .ref (C 9), .ref (C 9), _, rfl, fun u hu => hu, X.kit i 9 hi (by decide), ?_⟩
    refine ⟨_, rfl, d3, .ref (C 10), .ref (C 10), _, rfl, fun u hu => hu, X.kit i 10 hi (by decide), ?_⟩
    refine ⟨(by show 4 ≤ sizeLine; decide), fun p4 n4 => ?_⟩
    generalize hH4 : upd H3 p4 _ = H4
    have d4 : DictIs d H4 := hH4 ▸ dict_upd d3 n4
    have s4 : Same H H4 := hH4 ▸ same_upd s3 n4
    have t4 : Same H3 H4 := hH4 ▸ same_upd (Same.refl H3) n4
    have g4 := (congrFun hH4 p4).symm.trans upd_same
    clear hH4
    refine ⟨p3, p4, _, _, rfl, rfl, t4 _ _ g3, g4, (by show 11 ≤ sizeLine; decide), fun p5 n5 => ?_⟩
    generalize hH5 : upd H4 p5 _ = H5
    have d5 : DictIs d H5 := hH5 ▸ dict_upd d4 n5
    have s5 : Same H H5 := hH5 ▸ same_upd s4 n5
    have t5 : Same H4 H5 := hH5 ▸ same_upd (Same.refl H4) n5
    have g5 := (congrFun hH5 p5).symm.trans upd_same
    clear hH5
    refine ⟨_, rfl, ?_⟩
    refine ⟨_, rfl, d5, .ref (C 11), .ref (C 11), _, rfl, fun u hu => hu, X.kit i 11 hi (by decide), ?_⟩
    refine ⟨_, rfl, d5, .ref (C 12), .ref (C 12), _, rfl, fun u hu => hu, X.kit i 12 hi (by decide), ?_⟩
    refine ⟨(by show 2 ≤ sizeLine; decide), fun p6 n6 => ?_⟩
    generalize hH6 : upd H5 p6 _ = H6
    have d6 : DictIs d H6 := hH6 ▸ dict_upd d5 n6
    have s6 : Same H H6 := hH6 ▸ same_upd s5 n6
    have t6 : Same H5 H6 := hH6 ▸ same_upd (Same.refl H5) n6
    have g6 := (congrFun hH6 p6).symm.trans upd_same
    clear hH6
    refine ⟨p5, p6, _, _, rfl, rfl, t6 _ _ g5, g6, (by show 13 ≤ sizeLine; decide), fun p7 n7 => ?_⟩
    generalize hH7 : upd H6 p7 _ = H7
    have d7 : DictIs d H7 := hH7 ▸ dict_upd d6 n7
    have s7 : Same H H7 := hH7 ▸ same_upd s6 n7
    have t7 : Same H6 H7 := hH7 ▸ same_upd (Same.refl H6) n7
    have g7 := (congrFun hH7 p7).symm.trans upd_same
    clear hH7
    exact hQ H7 p7 s7 g7
end
end K00

namespace K00
open PySem PySem.Spec PyProof.Rows L2 L2H KX
/-! _law_heard -/
theorem scH : FnScope ["at", "thing", "e", "spot"] ["at", "thing"] (defScope sHeard) :=
  ⟨rfl, rfl, rfl, by decide +kernel, rfl, by decide +kernel, by decide +kernel⟩
/-- v shows as data in every heap that keeps H -/
def Datum (K : PySem.W.Frag) (H : Hp) (v : V) : Prop := ∃ dt : PyData, (∀ H', Same H H' → Dp K H' v dt) ∧ dt.showable = true ∧
  dt.hasDict = false ∧ dt.depth ≤ 64 ∧ dt.shown.length ≤ sizeLine
def spHeard (K : PySem.W.Frag) : Sp := fun vs H Q _ => ∃ (i : Nat) (v : V), i < 13 ∧ vs = [.int (i : Int), v] ∧ Datum K H v ∧
  ∀ H', Same H H' → Q (.bl true) H'
theorem takesN0 {X : Cx} : L2N.Takes X (fun _ _ _ _ => False) := fun u s' h => by
  obtain ⟨_, _, _, _, _, _, _, _, _, _, _, _, _, _, _, _, z⟩ := h
  exact z.elim
theorem pss_given {X : Cx} {ss : List Stmt} {t : TS} {p : Prop} (h : p → PSs X ss t) : PSs X ss (fun D σ H => p ∧ t D σ H) :=
  ⟨fun pins s σ H D I q => (h q.1).run pins s σ H D I q.2⟩
theorem cp_of {X : Cx} {p : Addr × Obj} {k : Nat} (hp : p ∈ X.pn) (hot : Hot1 X.A p) (hr : RoomH k X.A) :
    ∀ pins σ H s, L2.Inv X pins σ H s → CP k p X.A X.stack s H := fun pins σ H s I =>
  have z := I.pin p (List.mem_append_left _ hp)
  ⟨hr, hot, z.1, z.2.1, fun hm => (List.mem_cons.mp (I.stkSub p.1 hm)).elim z.2.2.1 z.2.2.2.1, z.2.2.2.2⟩
/-- the globals that it reads -/
structure GloH (K : PySem.W.Frag) (mg : Str → Option Value) (C : Nat → Addr) (CN : Addr) : Prop where
  isi : mg "isinstance" = none
  ran : mg "range" = none
  vaE : mg "ValueError" = none
  rep : mg "repr" = none
  net : mg "NetError" = some (.ref CN)
  xf : ∀ i, i < 13 → XfC K (C i) ∧ PySem.W.findIn K (.ref (C i)) "at" = some none
theorem int_is (k i : Nat) : decide (V.int (0 + (k : Int)) = V.int (i : Int)) = decide (k = i) := by
  by_cases h : k = i
  · subst h
    rw [decide_eq_true rfl, decide_eq_true (by rw [Int.zero_add])]
  · rw [decide_eq_false h, decide_eq_false fun z => h (by have := V.int.inj z; omega)]
def bits (i k : Nat) : List V := (List.range k).map fun j => V.bl (decide (j = i))
theorem bits_more (i k : Nat) : bits i (k + 1) = bits i k ++ [V.bl (decide (k = i))] := by
  unfold bits
  rw [List.range_succ, List.map_append]
  rfl
def bitsD (i : Nat) : List PyData := (List.range 13).map fun j => PyData.bool (decide (j = i))
theorem dp_bits {K : PySem.W.Frag} {H : Hp} {i : Nat} : ∀ l : List Nat,
    DpAll K H (l.map fun j => V.bl (decide (j = i))) (l.map fun j => PyData.bool (decide (j = i)))
  | [] => .nil
  | j :: l => .cons (.bl _) (dp_bits l)
abbrev rGt2 : R2 := rI0 fun i j => .bl (decide (j < i))
theorem bits_shaped : ∀ i, i < 13 → SeqAt.shaped (.list (bitsD i)) = true := by decide +kernel
theorem bits_eqv : ∀ i, i < 13 → PyData.eqv (.list (bitsD i)) (.list (bitsD i)) = true := by decide +kernel
/-- the except suite -/
def t_suite (K : PySem.W.Frag) (C : Nat → Addr) (i : Nat) (a : Addr) (cls : Value) (d : Option Addr) : TS :=
  tSeq (tIfS (tOr
      (tTest (tOp (rNeD K) (tCall (spMarks i a d) [] E0 (tCons (tVar 2) tNil))
        (tLc (iRng1 (tCons (tC (.int 13)) tNil)) (gName 3) tYes (tOp rEq (tVar 3) (tVar 0)) [3])))
      (tNot (tB (tCB (rIsP K (C i) a d) (tCons (tVar 2) (tCons (tC (.ty "ValueError")) tNil))))))
    (tRet (tC (.bl false))) tNext)
  (tRet (tOrV (tOp rGt2 (tVar 0) (tC (.int 10)))
    (tOp rEq (tCB (rRepr K) (tCons (tXf a cls d (C i) "at" (tVar 2)) tNil)) (tCB (rRepr K) (tCons (tVar 1) tNil)))))
theorem read_suite {K : PySem.W.Frag} {mg : Str → Option Value} {C : Nat → Addr} {CN : Addr} (X : Isx K C CN) {i : Nat} (hi : i < 13) {v : V}
    {H : Hp} {Q : VK} {dt : PyData} (hdt : ∀ H', Same H H' → Dp K H' v dt) (hsh : dt.showable = true) (hnd : dt.hasDict = false)
    (h64 : dt.depth ≤ 64) (hsz : dt.shown.length ≤ sizeLine) (hQ : ∀ H', Same H H' → Q (.bl true) H')
    {d : Option Addr} {H1 : Hp} {a0 : Addr} {D : Ends} (hD : D.rt = Q) (s1 : Same H H1) (hd : DictIs d H1)
    (hx : i < 11 → ∃ dd, d = some dd ∧ H1 dd = some (.xd [(("at" : Str), v)])) :
    t_suite K C i a0 (.ref (C i)) d D [some (.int (i : Int)), some v, some (.ref a0), none] H1 := by
  subst hD
  refine ⟨_, rfl, rfl, hd, fun H2 l1 s2 g2 => ?_⟩
  refine ⟨13, rfl, by decide, by decide, fun L nL => lc_range (lo := 0) (n := 13)
    (fun k H' => H' = upd H2 L (.lst (bits i k))) rfl (fun k H' hk e => ?_) fun H' e => ?_⟩
  · subst e
    refine ⟨rfl, _, rfl, _, rfl, rfl, bits i k, upd_same, ?_, ?_⟩
    · unfold bits
      rw [List.length_map, List.length_range]
      exact Nat.lt_of_lt_of_le hk (by decide)
    · rw [upd_upd, int_is, ← bits_more]
  · subst e
    have s3 : Same H2 (upd H2 L (.lst (bits i 13))) := same_upd (Same.refl H2) nL
    generalize hH3 : upd H2 L (.lst (bits i 13)) = H3 at s3
    have gL : H3 L = some (.lst (bits i 13)) := by rw [← hH3]; exact upd_same
    have gl : H3 l1 = some (.lst (bits i 13)) := s3 _ _ g2
    have sA : Same H H3 := s1.trans (s2.trans s3)
    have d3 : DictIs d H3 := by
      rcases hd with h | ⟨dd, fs, h, e⟩
      · exact Or.inl h
      · exact Or.inr ⟨dd, fs, h, s3 _ _ (s2 _ _ e)⟩
    refine ⟨.list (bitsD i), .list (bitsD i), .lst (SqL.of gl) (dp_bits _), .lst (SqL.of gL) (dp_bits _),
      bits_shaped i hi, bits_shaped i hi, _, rfl, ?_⟩
    rw [bits_eqv i hi]
    refine iteF ⟨_, rfl, d3, .ty "ValueError", .type "ValueError", true, rfl, fun u hu => hu, X.ve i hi, _, rfl, iteF ?_⟩
    refine ⟨_, rfl, (i : Int), 10, rfl, rfl, _, rfl, ?_⟩
    by_cases h10 : (10 : Int) < (i : Int)
    · rw [decide_eq_true h10]
      exact iteT (hQ H3 sA)
    · rw [decide_eq_false h10]
      obtain ⟨dd, rfl, hdd⟩ := hx (by omega)
      refine iteF ⟨_, rfl, rfl, rfl, dd, _, v, rfl, s3 _ _ (s2 _ _ hdd), by simp [List.lookup], v, dt, rfl, hdt H3 sA, hsh, hnd,
        h64, hsz, _, rfl, v, dt, rfl, hdt H3 sA, hsh, hnd, h64, hsz, rfl, ?_⟩
      rw [decide_eq_true rfl]
      exact hQ H3 sA
section
variable {P : Program} {w : World} {K : PySem.W.Frag} {mg : Str → Option Value} {base : Heap} {C fI : Nat → Addr} {CN : Addr}
theorem ok_heard {f fR fM : Addr} {fd fdR fdM : FuncData} (F : Fun K "_law_heard" "_law_heard" sHeard f fd)
    (FR : Fun K "_law_raise" "_law_raise" sRaise fR fdR) (FM : Fun K "_law_marks" "_law_marks" sMarks fM fdM)
    (bR : Binds K fdR ["at", "thing"] []) (bM : Binds K fdM ["e"] []) (gR : mg "_law_raise" = some (.ref fR))
    (gM : mg "_law_marks" = some (.ref fM)) (T : Errs K mg C fI) (X : Isx K C CN) (G : GloH K mg C CN) :
    FnR P w K mg base CX0 (CG 5) f fd ["at", "thing"] (spHeard K) := by
  obtain ⟨oc, od, kV, doc, pm, an, cdv, ct, osl, rfl, lk, hcd⟩ := F.ex
  refine fnG_of lk hcd scH (fun vs H Q E h => ?_) fun A outer s H vs Q E hr hgd h => ?_
  · obtain ⟨i, v, _, rfl, _⟩ := h
    rfl
  obtain ⟨i, v, hi, rfl, ⟨dt, hdt, hsh, hnd, h64, hsz⟩, hQ⟩ := h
  have GR : FnOk P w K mg base (L2N.CX P w) 3 fR fdR ["at", "thing"] (spRaise C) := ok_raise FR T
  refine ⟨_, pss_cons (L2N.ps_try_as (i := 2)
      (tb := fun W => tDrop (tCallS (spRaise C) (WE W) (tCons (tVar 0) (tCons (tVar 1) tNil))))
      (ts := fun a cls d D σ H => cls = .ref (C i) ∧ t_suite K C i a cls d D σ H) (Wout := fun _ _ _ _ => False) rfl rfl scH.nd rfl rfl
      ⟨rfl, by decide, Or.inl G.net⟩ takesN0
      (fun W pn xe tk _ => pss_one (ps_expr (by exact (pe_callS GR (hr.mono (by decide)) rfl gR FR.kp bR (fun σ => L2N.passAt tk σ)
        (by exact pa_cons (pv 0) (pa_cons (pv 1) pa_nil))))))
      (fun a oe cls d pn hz hf => pss_given fun hcls => ?_)) (pss_one (ps_ret pe_bl)), ?_⟩
  · subst hcls
    have GM : FnR P w K mg base CX0 (CP 1 (a, oe)) fM fdM ["e"] (spMarks i a d) := ok_marks hi FM T X G.isi hz.zc hf
    have hot1 : Hot1 (A.deeper (envOfC "_law_heard" (defScope sHeard) s.heap.objs.size f cdv) |>.mark (some (.ref a))) (a, oe) := by
      obtain ⟨vs, hv⟩ := hf
      exact ⟨rfl, vs, hv, hz.2.2 vs hv⟩
    have rH : RoomH 4 (A.deeper (envOfC "_law_heard" (defScope sHeard) s.heap.objs.size f cdv) |>.mark (some (.ref a))) :=
      ⟨hr.dp, by have := hr.un; exact this⟩
    have hu : (A.deeper (envOfC "_law_heard" (defScope sHeard) s.heap.objs.size f cdv) |>.mark (some (.ref a))).units + 66 < cLine := by
      have := rH.un
      omega
    have hu64 : (A.deeper (envOfC "_law_heard" (defScope sHeard) s.heap.objs.size f cdv) |>.mark (some (.ref a))).units + 64 < cLine := by
      omega
    exact pss_cons (ps_if (pw_or (pt_cmpR (op_neD (by exact hu64))
          (by exact (pe_callR GM (cp_of List.mem_cons_self hot1 (rH.mono (by decide))) rfl gM FM.kp bM pass0 (by exact pa_cons (pv 2) pa_nil)))
          (by exact (pe_lcHot (p := (a, oe)) (own := [("spot", 3)]) hot1 List.mem_cons_self scH.nd
            (by exact (pi_range1H rfl G.ran (by exact pa_cons pe_int pa_nil)))
            (blkOk_by (N := ["at", "thing", "e", "spot"]) (sc := defScope sHeard) (by decide +kernel))
            (fun _ _ _ _ _ => pg_name (i := 3) scH.nd rfl (Or.inl rfl))
            (fun _ _ _ _ _ => pe_cmpR op_eq (pv 3) (pv 0) (nomark _)))) (nomark _))
        (pw_or1 (pt_not (pt_val (pe_callB (call_isP (X.x i hi) List.mem_cons_self hz.zc hf) (by rfl) G.isi (by decide +kernel)
          (by exact pa_cons (pv 2) (pa_cons (pe_bltn (v := .ty "ValueError") rfl G.vaE (by decide +kernel) rfl) pa_nil))))))).pt
        (pss_one (ps_ret pe_bl)) pss_nil)
      (pss_one (ps_ret (pe_or (pe_cmpR op_gt (pv 0) pe_int (nomark _))
        (pe_one (pe_cmpR op_eq
          (pe_callB (cr_repr hgd hu) (by rfl) G.rep (by decide +kernel)
            (by exact pa_cons (pe_xf (G.xf i hi).1 (G.xf i hi).2 hz.zc hf (pv 2)) pa_nil))
          (pe_callB (cr_repr hgd hu) (by rfl) G.rep (by decide +kernel) (by exact pa_cons (pv 1) pa_nil)) (nomark _))))))
  · refine ⟨_, rfl, _, rfl, i, v, hi, rfl, fun h11 dd hdd => ?_, fun h11 => ?_⟩
    · refine ⟨true, X.exm i hi, fun _ a0 _ => ⟨rfl, ?_⟩, fun q => Bool.noConfusion q⟩
      exact read_suite (mg := mg) X hi hdt hsh hnd h64 hsz hQ rfl (same_upd (Same.refl H) hdd)
        (Or.inr ⟨dd, _, rfl, upd_same⟩) fun _ => ⟨dd, rfl, upd_same⟩
    · refine ⟨true, X.exm i hi, fun _ a0 _ => ⟨rfl, ?_⟩, fun q => Bool.noConfusion q⟩
      exact read_suite (mg := mg) X hi hdt hsh hnd h64 hsz hQ rfl (Same.refl H) (Or.inl rfl) fun h => absurd h (Nat.not_lt.mpr h11)
end
end K00

namespace K00
open PySem PySem.Spec PyProof.Rows L2 L2H KX
/-! law -/
theorem scL : FnScope ["script", "k", "cell", "things", "at", "thing"] ["script"] (defScope sLaw) :=
  ⟨rfl, rfl, rfl, by decide +kernel, rfl, by decide +kernel, by decide +kernel⟩
def spLaw (K : PySem.W.Frag) : Sp := fun vs H Q _ => ∃ (a : Addr) (ns : List Int), vs = [.ref a] ∧ SqL K H a (ns.map V.int) ∧
  ns.length ≤ 63 ∧ ∀ H', Q (.bl true) H'
/-! the six things are data -/
theorem Datum.mono {K : PySem.W.Frag} {H H' : Hp} {v : V} (h : Datum K H v) (s : Same H H') : Datum K H' v := by
  obtain ⟨dt, h1, h2⟩ := h
  exact ⟨dt, fun H2 s2 => h1 H2 (s.trans s2), h2⟩
theorem datum_int {K : PySem.W.Frag} {H : Hp} {i : Int} (h : i.natAbs < 2 ^ 64) : Datum K H (.int i) := by
  have hl : i.natAbs.log2 < 1920 := by
    by_cases h0 : i.natAbs = 0
    · rw [h0]
      decide
    · exact Nat.lt_trans ((Nat.log2_lt h0).mpr h) (by decide)
  refine ⟨.int i, fun _ _ => .int i, decide_eq_true hl, rfl, by simp [PyData.depth], ?_⟩
  show (Str.ofString (toString i)).length ≤ sizeLine
  exact int_text_fits hl
theorem datum_non {K : PySem.W.Frag} {H : Hp} : Datum K H .non :=
  ⟨.none, fun _ _ => .non, rfl, rfl, by decide, by decide +kernel⟩
theorem str_small : ∀ n : Nat, n < 1000 → (reprText (Str.ofString (toString (n : Int)))).length ≤ 1000 := by decide +kernel
theorem tup_small : ∀ n : Nat, n < 7 → (PyData.shown (.tuple [.int (n : Int), .str "a"])).length ≤ 1000 := by decide +kernel
theorem lst_small : ∀ n : Nat, n < 11 → (PyData.shown (.list [.int (n : Int)])).length ≤ 1000 := by decide +kernel
theorem le_line {n : Nat} (h : n ≤ 1000) : n ≤ sizeLine := Nat.le_of_lt (small1000 h)
theorem mod_nat (c : Int) (m : Nat) (h : 0 < m) : ∃ n : Nat, n < m ∧ c % (m : Int) = (n : Int) :=
  ⟨(c % (m : Int)).toNat, by have := Int.emod_lt_of_pos c (show (0 : Int) < m by omega); have := Int.emod_nonneg c (show (m : Int) ≠ 0 by omega); omega,
    by have := Int.emod_nonneg c (show (m : Int) ≠ 0 by omega); omega⟩
theorem log_small {n m : Nat} (h : n < m) (hm : m ≤ 1000) : ((n : Int).natAbs.log2 < 1920) := by
  by_cases h0 : n = 0
  · subst h0
    decide
  · exact Nat.lt_trans ((Nat.log2_lt (k := 10) h0).mpr (by omega)) (by decide)
theorem datum_str {K : PySem.W.Frag} {H : Hp} {n : Nat} (h : n < 1000) : Datum K H (.str (Str.ofString (toString (n : Int)))) :=
  ⟨.str _, fun _ _ => .str _, rfl, rfl, by simp [PyData.depth], le_line (str_small n h)⟩
theorem datum_tup {K : PySem.W.Frag} {H : Hp} {n : Nat} {p : Addr} (h : n < 7) (e : H p = some (.tup [.int (n : Int), .str "a"])) :
    Datum K H (.ref p) :=
  ⟨.tuple [.int (n : Int), .str "a"], fun H' s => .tup (SqT.of (s _ _ e)) (.cons (.int _) (.cons (.str _) .nil)),
    by simp only [PyData.showable, PyData.showableAll, Bool.and_true, decide_eq_true_eq]; exact log_small h (by decide), rfl, by simp [PyData.depth, PyData.depthAll], le_line (tup_small n h)⟩
theorem datum_lst {K : PySem.W.Frag} {H : Hp} {n : Nat} {p : Addr} (h : n < 11) (e : H p = some (.lst [.int (n : Int)])) :
    Datum K H (.ref p) :=
  ⟨.list [.int (n : Int)], fun H' s => .lst (SqL.of (s _ _ e)) (.cons (.int _) .nil),
    by simp only [PyData.showable, PyData.showableAll, Bool.and_true, decide_eq_true_eq]; exact log_small h (by decide), rfl, by simp [PyData.depth, PyData.depthAll], le_line (lst_small n h)⟩
end K00

namespace K00
open PySem PySem.Spec PyProof.Rows L2 L2H KX
structure GloL (mg : Str → Option Value) : Prop where
  ran : mg "range" = none
  max : mg "max" = none
  min : mg "min" = none
  len : mg "len" = none
  int : mg "int" = none
  str : mg "str" = none
/-- script[k] if k < len(script) else 0 -/
def tCell (K : PySem.W.Frag) : TE := tIf (tTest (tOp (rI0 fun i j => .bl (decide (i < j))) (tVar 1)
    (tCB (fun xs H Q => ∃ p ys, xs = [.ref p] ∧ (SqL K H p ys ∨ SqT K H p ys) ∧ Q (.int (ys.length : Int)) H) (tCons (tVar 0) tNil))))
  (tOp (rIxL K) (tVar 0) (tVar 1)) (tC (.int 0))
theorem read_cell {K : PySem.W.Frag} {H : Hp} {Q : VK} {a : Addr} {ns : List Int} {k : Nat} {l : List (Option V)}
    (hS : SqL K H a (ns.map V.int)) (hQ : ∀ c : Int, Q (.int c) H) :
    tCell K (some (.ref a) :: some (.int (k : Int)) :: l) H Q := by
  refine ⟨_, rfl, _, rfl, a, _, rfl, Or.inl hS, (k : Int), _, rfl, rfl, _, rfl, ite2 (fun h => ?_) fun _ => hQ 0⟩
  have hk : k < ns.length := by
    have h' := of_decide_eq_true h
    rw [List.length_map] at h'
    omega
  refine ⟨_, rfl, _, rfl, a, _, (k : Int), .int ns[k], rfl, rfl, hS, atI_nat ?_, hQ _⟩
  rw [List.getElem?_map, List.getElem?_eq_getElem hk]
  rfl
theorem same_new {H H1 : Hp} {p : Addr} {o : HO} (s : Same H H1) (hp : H1 p = none) :
    ∃ H2, H2 = upd H1 p o ∧ Same H H2 ∧ Same H1 H2 ∧ H2 p = some o :=
  ⟨_, rfl, same_upd s hp, same_upd (Same.refl _) hp, upd_same⟩
section
variable {P : Program} {w : World} {K : PySem.W.Frag} {mg : Str → Option Value} {base : Heap}
theorem ok_law {f fH : Addr} {fd fdH : FuncData} (F : Fun K "law" "law" sLaw f fd)
    (FH : Fun K "_law_heard" "_law_heard" sHeard fH fdH) (bH : Binds K fdH ["at", "thing"] []) (gH : mg "_law_heard" = some (.ref fH))
    (GH : FnR P w K mg base CX0 (CG 5) fH fdH ["at", "thing"] (spHeard K)) (G : GloL mg) :
    FnR P w K mg base CX0 (CG 6) f fd ["script"] (spLaw K) := by
  obtain ⟨oc, od, kV, doc, pm, an, cdv, ct, osl, rfl, lk, hcd⟩ := F.ex
  refine fnG_of lk hcd scL (fun vs H Q E h => ?_) fun A outer s H vs Q E hr hgd h => ?_
  · obtain ⟨a, ns, rfl, _⟩ := h
    rfl
  have hC : ∀ (X : Cx), X.A = A.deeper (envOfC "law" (defScope sLaw) s.heap.objs.size f cdv) →
      ∀ pins σ H s, L2.Inv X pins σ H s → CG 5 X.A X.stack s H := fun X e pins σ H s _ => by
    rw [e]
    exact ⟨hr, hgd⟩
  refine ⟨_, PSs.nox (pss_cons (ps_for PassesOwn.never rfl
      (pi_range1 rfl G.ran (by exact pa_cons (pe_callB (call_max2 rfl) (by rfl) G.max (by decide +kernel)
        (by exact pa_cons pe_int (pa_cons (pe_callB (call_min2 rfl) (by rfl) G.min (by decide +kernel)
          (by exact pa_cons pe_int (pa_cons (pe_callB call_len_seq (by rfl) G.len (by decide +kernel)
            (by exact pa_cons (pv 0) pa_nil)) pa_nil))) pa_nil))) pa_nil))
      (pg_name (i := 1) scL.nd rfl (Or.inl rfl))
      (pss_cons (ps_set (i := 2) scL.nd rfl (Or.inl rfl)
        (pe_ifExp (pt_cmpR op_lt (pv 1) (pe_callB call_len_seq (by rfl) G.len (by decide +kernel) (by exact pa_cons (pv 0) pa_nil)) (nomark _))
          (pe_ix ix_list (pv 0) (pv 1) (fun _ _ => rfl)) pe_int))
      (pss_cons (ps_set (i := 3) scL.nd rfl (Or.inl rfl) (pe_lst
        (pa_cons (pe_op op_mod (pe_callTy call_int1 (by rfl) G.int (by decide +kernel) (by exact pa_cons (pv 2) pa_nil)) pe_int)
        (pa_cons (pe_op op_sub pe_int (pe_op op_mod (pe_callTy call_int1 (by rfl) G.int (by decide +kernel) (by exact pa_cons (pv 2) pa_nil)) pe_int))
        (pa_cons (pe_callTy call_str_int (by rfl) G.str (by decide +kernel) (by exact pa_cons (pe_op op_mod
          (pe_callTy call_int1 (by rfl) G.int (by decide +kernel) (by exact pa_cons (pv 2) pa_nil)) pe_int) pa_nil))
        (pa_cons pe_non
        (pa_cons (pe_tup (pa_cons (pe_op op_mod (pe_callTy call_int1 (by rfl) G.int (by decide +kernel) (by exact pa_cons (pv 2) pa_nil)) pe_int)
          (pa_cons pe_str pa_nil)))
        (pa_cons (pe_lst (pa_cons (pe_op op_mod (pe_callTy call_int1 (by rfl) G.int (by decide +kernel) (by exact pa_cons (pv 2) pa_nil)) pe_int) pa_nil))
        pa_nil))))))))
      (pss_one (ps_for PassesOwn.never rfl (pi_range1 rfl G.ran (by exact pa_cons pe_int pa_nil))
        (pg_name (i := 4) scL.nd rfl (Or.inl rfl))
        (pss_one (ps_for PassesOwn.never rfl (pi_list (pv 3)) (pg_name (i := 5) scL.nd rfl (Or.inl rfl))
          (pss_one (ps_if (pt_not (pt_val (by exact (pe_callR GH (hC _ rfl) rfl gH FH.kp bH pass0 (by exact pa_cons (pv 4) (pa_cons (pv 5) pa_nil))))))
            (pss_one (ps_ret pe_bl)) pss_nil)))))))))
    (pss_one (ps_ret pe_bl))), ?_⟩
  obtain ⟨a, ns, rfl, hS, hlen, hQ⟩ := h
  refine ⟨_, rfl, a, _, rfl, Or.inl hS, _, _, rfl, _, _, rfl, _, rfl, ?_, ?_, ?_⟩
  · split <;> split <;> omega
  · split <;> split <;> omega
  refine for_range (fun _ σ H' => Same H H' ∧ ∃ o1 o2 o3 o4 o5, σ = [some (.ref a), o1, o2, o3, o4, o5])
    ⟨Same.refl H, none, none, none, none, none, rfl⟩ (fun k σ H1 hk h1 => ?_) fun σ H1 h1 => hQ H1
  obtain ⟨s1, o1, o2, o3, o4, o5, rfl⟩ := h1
  rw [Int.zero_add]
  refine read_cell (s1.seq hS) fun c => ?_
  -- the six things
  obtain ⟨n1, l1, (e1 : c % 1000000007 = (n1 : Int))⟩ := mod_nat c 1000000007 (by decide)
  obtain ⟨n2, l2, (e2 : c % 97 = (n2 : Int))⟩ := mod_nat c 97 (by decide)
  obtain ⟨n3, l3, (e3 : c % 1000 = (n3 : Int))⟩ := mod_nat c 1000 (by decide)
  obtain ⟨n5, l5, (e5 : c % 7 = (n5 : Int))⟩ := mod_nat c 7 (by decide)
  obtain ⟨n6, l6, (e6 : c % 11 = (n6 : Int))⟩ := mod_nat c 11 (by decide)
  refine ⟨_, rfl, Or.inl ⟨c, rfl, c, 1000000007, rfl, rfl, (by show (0 : Int) < 1000000007; decide), ?_⟩⟩
  refine ⟨_, rfl, Or.inl ⟨c, rfl, c, 97, rfl, rfl, (by show (0 : Int) < 97; decide), 0, _, rfl, rfl, ?_⟩⟩
  refine ⟨_, rfl, Or.inl ⟨c, rfl, c, 1000, rfl, rfl, (by show (0 : Int) < 1000; decide), _, rfl, (by rw [e3]; exact log_small l3 (by decide)), ?_⟩⟩
  refine ⟨_, rfl, Or.inl ⟨c, rfl, c, 7, rfl, rfl, (by show (0 : Int) < 7; decide), (by show 2 ≤ sizeLine; decide), fun pt nt => ?_⟩⟩
  obtain ⟨H2, h2, s2, s12, g2⟩ := same_new (o := .tup [.int (c % 7), .str "a"]) s1 nt
  rw [← h2]
  refine ⟨_, rfl, Or.inl ⟨c, rfl, c, 11, rfl, rfl, (by show (0 : Int) < 11; decide), (by show 1 ≤ sizeLine; decide), fun pl nl => ?_⟩⟩
  obtain ⟨H3, h3, s3, s23, g3⟩ := same_new (o := .lst [.int (c % 11)]) s2 nl
  rw [← h3]
  refine ⟨(by show 6 ≤ sizeLine; decide), fun L nL => ?_⟩
  obtain ⟨H4, h4, s4, s34, g4⟩ := same_new (o := .lst [.int (c % 1000000007), .int (0 - c % 97), .str (toString (c % 1000)), .non, .ref pt, .ref pl]) s3 nL
  rw [← h4]
  have data : ∀ x ∈ [V.int (c % 1000000007), .int (0 - c % 97), .str (toString (c % 1000)), .non, .ref pt, .ref pl], Datum K H4 x := by
    intro x hx
    simp only [List.mem_cons, List.not_mem_nil, or_false] at hx
    rcases hx with rfl | rfl | rfl | rfl | rfl | rfl
    · rw [e1]
      exact datum_int (by omega)
    · rw [e2]
      exact datum_int (by omega)
    · rw [e3]
      exact datum_str l3
    · exact datum_non
    · exact datum_tup l5 (by rw [← e5]; exact s34 _ _ (s23 _ _ g2))
    · exact datum_lst l6 (by rw [← e6]; exact s34 _ _ g3)
  refine ⟨13, rfl, by decide, by decide, for_range (fun _ σ H' => Same H4 H' ∧
      ∃ o4 o5, σ = [some (.ref a), some (.int (k : Int)), some (.int c), some (.ref L), o4, o5])
    ⟨Same.refl H4, o4, o5, rfl⟩ (fun at_ σ H5 hat h5 => ?_) fun σ H5 h5 => ?_⟩
  · obtain ⟨s5, o4, o5, rfl⟩ := h5
    rw [Int.zero_add]
    refine ⟨_, rfl, L, rfl, ⟨_, SqL.of (s5 _ _ g4)⟩, for_list (K := K) (a := L)
      (xs := [V.int (c % 1000000007), .int (0 - c % 97), .str (toString (c % 1000)), .non, .ref pt, .ref pl])
      (fun _ σ H' => Same H4 H' ∧
        ∃ o5, σ = [some (.ref a), some (.int (k : Int)), some (.int c), some (.ref L), some (.int (at_ : Int)), o5])
      ⟨s5, o5, rfl⟩ (fun j σ H6 _ h6 => SqL.of (h6.1 _ _ g4)) (fun j x σ H6 hj h6 => ?_) fun σ H6 h6 => ?_⟩
    · obtain ⟨s6, o5, rfl⟩ := h6
      refine ⟨_, rfl, _, rfl, at_, x, hat, rfl, (data x (List.mem_of_getElem? hj)).mono s6, fun H7 s7 => ⟨_, rfl, iteF ?_⟩⟩
      exact ⟨s6.trans s7, _, rfl⟩
    · obtain ⟨s6, o5, rfl⟩ := h6
      exact ⟨s6, _, _, rfl⟩
  · obtain ⟨s5, o4, o5, rfl⟩ := h5
    exact ⟨s4.trans s5, _, _, _, _, _, rfl⟩
end
end K00

namespace K00
open PySem PySem.Spec PyProof.Rows L2 L2H KX
/-! what the top has written, as one test -/
def ClsAt (K : PySem.W.Frag) (c : Addr) : Prop := ∃ nm q N bs bm sn sub ab col dd k0 k1 k2 k3 k5,
  K.lookup c = some (excClassObj nm q c N bs bm true sn sub ab col dd k0 k1 k2 k3 k5 "ValueError.__new__") ∧ PySem.HandSPX.refsVE bm = true
def IniAt (K : PySem.W.Frag) (qn : Str) (f : Addr) : Prop :=
  ∃ (oc : Value) (od : Option Addr) (doc pm : Value) (an : Option Addr) (cdv ct : Value) (osl : Array (Option Value)) (p1 p2 q1 q2 q3 q4 : Pos),
    K.lookup f = some ⟨oc, od, .func (PySem.W.fnOf "__init__" qn (PySem.ErrX.iA p1 p2) (PySem.ErrX.iB q1 q2 q3 q4) PySem.ErrX.iS .none .none doc pm an cdv ct), osl⟩ ∧
      PySem.W.codeIn K cdv qn = true
def Ini0At (K : PySem.W.Frag) (qn : Str) (f : Addr) : Prop :=
  ∃ (oc : Value) (od : Option Addr) (doc pm : Value) (an : Option Addr) (cdv ct : Value) (osl : Array (Option Value)) (p1 q1 : Pos),
    K.lookup f = some ⟨oc, od, .func (PySem.W.fnOf "__init__" qn (PySem.ErrX.iA0 p1) [.Pass q1] PySem.ErrX.iS0 .none .none doc pm an cdv ct), osl⟩ ∧
      PySem.W.codeIn K cdv qn = true
def okE (K : PySem.W.Frag) (c f cn : Addr) : Bool :=
  xfB K c && (decide (PySem.W.findIn K (.ref c) "at" = some none) &&
  (decide (PySem.W.findIn K (.ref c) "__setattr__" = some (some (.builtin "object.__setattr__"))) &&
  (decide (PySem.W.findIn K (.ref c) "__init__" = some (some (.ref f))) &&
  (decide (PySem.W.typeIn K (.ref f) = some (.type "function")) && (PySem.W.keepIn K (.ref c) &&
  (decide (PySem.W.typeIn K (.ref c) = some (.type "type")) && (decide (PySem.W.exmOne K (.ref c) (.ref c) = some true) &&
  (decide (PySem.W.findIn K (.ref c) "__class__" = some (some (.builtin "object.__class__"))) &&
  (decide (PySem.W.specialIn K (.builtin "object.__class__") "__get__" = some (some (.builtin "getset_descriptor.__get__"))) &&
  (decide (PySem.W.takesIn K (.builtin "object.__class__") = some true) && (decide (PySem.W.mroIn K c (.type "object") = some true) &&
  (decide (PySem.W.kitOne K (.ref c) (.type "ValueError") = some true) &&
   decide (PySem.W.exmOne K (.ref c) (.ref cn) = some true)))))))))))))
structure OkE (K : PySem.W.Frag) (c f cn : Addr) : Prop where
  xf : XfC K c
  no : PySem.W.findIn K (.ref c) "at" = some none
  sa : PySem.W.findIn K (.ref c) "__setattr__" = some (some (.builtin "object.__setattr__"))
  ini : PySem.W.findIn K (.ref c) "__init__" = some (some (.ref f))
  tf : PySem.W.typeIn K (.ref f) = some (.type "function")
  kc : PySem.W.keepIn K (.ref c) = true
  ty : PySem.W.typeIn K (.ref c) = some (.type "type")
  te : PySem.W.exmOne K (.ref c) (.ref c) = some true
  ha : PySem.W.findIn K (.ref c) "__class__" = some (some (.builtin "object.__class__"))
  hn : PySem.W.specialIn K (.builtin "object.__class__") "__get__" = some (some (.builtin "getset_descriptor.__get__"))
  ht : PySem.W.takesIn K (.builtin "object.__class__") = some true
  hm : PySem.W.mroIn K c (.type "object") = some true
  ve : PySem.W.kitOne K (.ref c) (.type "ValueError") = some true
  exm : PySem.W.exmOne K (.ref c) (.ref cn) = some true
theorem okE_ok {K : PySem.W.Frag} {c f cn : Addr} (h : okE K c f cn = true) : OkE K c f cn := by
  unfold okE at h
  simp only [Bool.and_eq_true, decide_eq_true_eq] at h
  obtain ⟨h1, h2, h3, h4, h5, h6, h7, h8, h9, h10, h11, h12, h13, h14⟩ := h
  exact ⟨xfB_ok h1, h2, h3, h4, h5, h6, h7, h8, h9, h10, h11, h12, h13, h14⟩
def nth (l : List Addr) (i : Nat) : Addr := l.getD i 0
def okAll (K : PySem.W.Frag) (cs fs : List Addr) (cn : Addr) : Bool :=
  ((List.range 13).all fun i => okE K (nth cs i) (nth fs i) cn) &&
  ((List.range 13).all fun i => (List.range 13).all fun j =>
    decide (PySem.W.kitOne K (.ref (nth cs i)) (.ref (nth cs j)) = some (decide (j = i))))
theorem okAll_e {K : PySem.W.Frag} {cs fs : List Addr} {cn : Addr} (h : okAll K cs fs cn = true) {i : Nat} (hi : i < 13) :
    OkE K (nth cs i) (nth fs i) cn := by
  unfold okAll at h
  rw [Bool.and_eq_true] at h
  exact okE_ok (List.all_eq_true.mp h.1 i (List.mem_range.mpr hi))
theorem okAll_k {K : PySem.W.Frag} {cs fs : List Addr} {cn : Addr} (h : okAll K cs fs cn = true) {i j : Nat} (hi : i < 13) (hj : j < 13) :
    PySem.W.kitOne K (.ref (nth cs i)) (.ref (nth cs j)) = some (decide (j = i)) := by
  unfold okAll at h
  rw [Bool.and_eq_true] at h
  exact of_decide_eq_true (List.all_eq_true.mp (List.all_eq_true.mp h.2 i (List.mem_range.mpr hi)) j (List.mem_range.mpr hj))
theorem isx_of {K : PySem.W.Frag} {cs fs : List Addr} {cn : Addr} (h : okAll K cs fs cn = true) : Isx K (nth cs) cn where
  x := fun i hi => have z := okAll_e h hi
    ⟨z.xf.ga, z.xf.gg, z.xf.exC, z.xf.hdC, z.ha, z.hn, z.ht, z.hm⟩
  kit := fun i j hi hj => okAll_k h hi hj
  ve := fun i hi => (okAll_e h hi).ve
  exm := fun i hi => (okAll_e h hi).exm
theorem err_of {K : PySem.W.Frag} {mg : Str → Option Value} {en qn : Str} {c f cn : Addr} (z : OkE K c f cn)
    (g : mg en = some (.ref c)) (hc : ClsAt K c) (hf : IniAt K qn f) : PySem.ErrX.ErrTxt K mg en qn c f :=
  ⟨g, hc, z.sa, z.xf.ga, z.xf.gg, z.no, z.ini, z.tf, z.kc, z.xf.exC, z.ty, z.xf.hdC, z.te, hf⟩
theorem err0_of {K : PySem.W.Frag} {mg : Str → Option Value} {en qn : Str} {c f cn : Addr} (z : OkE K c f cn)
    (g : mg en = some (.ref c)) (hc : ClsAt K c) (hf : Ini0At K qn f) : PySem.ErrX.ErrTxt0 K mg en qn c f :=
  ⟨g, hc, z.ini, z.tf, z.kc, z.xf.exC, z.ty, hf⟩
/-- a def of the top at f -/
def DefAt (K : PySem.W.Frag) (x : Str) (st : Stmt) (f : Addr) : Prop :=
  ∃ (oc : Value) (od : Option Addr) (kV doc pm : Value) (an : Option Addr) (cdv ct : Value) (osl : Array (Option Value)),
    K.lookup f = some ⟨oc, od, .func (PySem.W.fnOf x x (defArgs st) (defBody st) (defScope st) .none kV doc pm an cdv ct), osl⟩ ∧
      PySem.W.codeIn K cdv x = true
theorem fun_of {K : PySem.W.Frag} {x : Str} {st : Stmt} {f : Addr} (h : DefAt K x st f) (k : PySem.W.keepIn K (.ref f) = true) :
    ∃ fd kV doc pm an cdv ct, fd = PySem.W.fnOf x x (defArgs st) (defBody st) (defScope st) .none kV doc pm an cdv ct ∧ Fun K x x st f fd := by
  obtain ⟨oc, od, kV, doc, pm, an, cdv, ct, osl, l, c⟩ := h
  exact ⟨_, kV, doc, pm, an, cdv, ct, rfl, fun_mk l c k⟩
theorem all_mk {l : PySem.W.OpenLaw} {w : World} {K : PySem.W.Frag} {h : Heap} {mg : Str → Option Value} {fa : Addr} (X : K.In h)
    (G : h.Ns mainGlobals mg) (hfa : mg "law" = some (.ref fa))
    {c0 c1 c2 c3 c4 c5 c6 c7 c8 c9 c10 c11 c12 cn f0 f1 f2 f3 f4 f5 f6 f7 f8 f9 f10 f11 f12 fM fR fH fL : Addr}
    (a0 : PySem.W.nsIn K mainGlobals "InvalidPolicy" = some (some (.ref c0)))
    (a1 : PySem.W.nsIn K mainGlobals "InvalidNetwork" = some (some (.ref c1)))
    (a2 : PySem.W.nsIn K mainGlobals "InvalidView" = some (some (.ref c2)))
    (a3 : PySem.W.nsIn K mainGlobals "InvalidScore" = some (some (.ref c3)))
    (a4 : PySem.W.nsIn K mainGlobals "InvalidCollection" = some (some (.ref c4)))
    (a5 : PySem.W.nsIn K mainGlobals "InvalidTransfer" = some (some (.ref c5)))
    (a6 : PySem.W.nsIn K mainGlobals "InvalidRule" = some (some (.ref c6)))
    (a7 : PySem.W.nsIn K mainGlobals "InvalidText" = some (some (.ref c7)))
    (a8 : PySem.W.nsIn K mainGlobals "InvalidQuestion" = some (some (.ref c8)))
    (a9 : PySem.W.nsIn K mainGlobals "NotObeyed" = some (some (.ref c9)))
    (a10 : PySem.W.nsIn K mainGlobals "Refused" = some (some (.ref c10)))
    (a11 : PySem.W.nsIn K mainGlobals "NoNetwork" = some (some (.ref c11)))
    (a12 : PySem.W.nsIn K mainGlobals "InvalidCommand" = some (some (.ref c12)))
    (aN : PySem.W.nsIn K mainGlobals "NetError" = some (some (.ref cn)))
    (i0 : PySem.W.findIn K (.ref c0) "__init__" = some (some (.ref f0)))
    (i1 : PySem.W.findIn K (.ref c1) "__init__" = some (some (.ref f1)))
    (i2 : PySem.W.findIn K (.ref c2) "__init__" = some (some (.ref f2)))
    (i3 : PySem.W.findIn K (.ref c3) "__init__" = some (some (.ref f3)))
    (i4 : PySem.W.findIn K (.ref c4) "__init__" = some (some (.ref f4)))
    (i5 : PySem.W.findIn K (.ref c5) "__init__" = some (some (.ref f5)))
    (i6 : PySem.W.findIn K (.ref c6) "__init__" = some (some (.ref f6)))
    (i7 : PySem.W.findIn K (.ref c7) "__init__" = some (some (.ref f7)))
    (i8 : PySem.W.findIn K (.ref c8) "__init__" = some (some (.ref f8)))
    (i9 : PySem.W.findIn K (.ref c9) "__init__" = some (some (.ref f9)))
    (i10 : PySem.W.findIn K (.ref c10) "__init__" = some (some (.ref f10)))
    (i11 : PySem.W.findIn K (.ref c11) "__init__" = some (some (.ref f11)))
    (i12 : PySem.W.findIn K (.ref c12) "__init__" = some (some (.ref f12)))
    (ok : okAll K [c0, c1, c2, c3, c4, c5, c6, c7, c8, c9, c10, c11, c12] [f0, f1, f2, f3, f4, f5, f6, f7, f8, f9, f10, f11, f12] cn = true)
    (x0 : ClsAt K c0) (y0 : IniAt K "InvalidPolicy.__init__" f0)
    (x1 : ClsAt K c1) (y1 : IniAt K "InvalidNetwork.__init__" f1)
    (x2 : ClsAt K c2) (y2 : IniAt K "InvalidView.__init__" f2)
    (x3 : ClsAt K c3) (y3 : IniAt K "InvalidScore.__init__" f3)
    (x4 : ClsAt K c4) (y4 : IniAt K "InvalidCollection.__init__" f4)
    (x5 : ClsAt K c5) (y5 : IniAt K "InvalidTransfer.__init__" f5)
    (x6 : ClsAt K c6) (y6 : IniAt K "InvalidRule.__init__" f6)
    (x7 : ClsAt K c7) (y7 : IniAt K "InvalidText.__init__" f7)
    (x8 : ClsAt K c8) (y8 : IniAt K "InvalidQuestion.__init__" f8)
    (x9 : ClsAt K c9) (y9 : IniAt K "NotObeyed.__init__" f9)
    (x10 : ClsAt K c10) (y10 : IniAt K "Refused.__init__" f10)
    (x11 : ClsAt K c11) (y11 : Ini0At K "NoNetwork.__init__" f11)
    (x12 : ClsAt K c12) (y12 : Ini0At K "InvalidCommand.__init__" f12)
    (gM : PySem.W.nsIn K mainGlobals "_law_marks" = some (some (.ref fM))) (dM : DefAt K "_law_marks" sMarks fM) (kM : PySem.W.keepIn K (.ref fM) = true)
    (gR : PySem.W.nsIn K mainGlobals "_law_raise" = some (some (.ref fR))) (dR : DefAt K "_law_raise" sRaise fR) (kR : PySem.W.keepIn K (.ref fR) = true)
    (gH : PySem.W.nsIn K mainGlobals "_law_heard" = some (some (.ref fH))) (dH : DefAt K "_law_heard" sHeard fH) (kH : PySem.W.keepIn K (.ref fH) = true)
    (gL : PySem.W.nsIn K mainGlobals "law" = some (some (.ref fL))) (dL : DefAt K "law" sLaw fL) (kL : PySem.W.keepIn K (.ref fL) = true)
    (z_isinstance : PySem.W.nsIn K mainGlobals "isinstance" = some none)
    (z_range : PySem.W.nsIn K mainGlobals "range" = some none)
    (z_ValueError : PySem.W.nsIn K mainGlobals "ValueError" = some none)
    (z_repr : PySem.W.nsIn K mainGlobals "repr" = some none)
    (z_max : PySem.W.nsIn K mainGlobals "max" = some none)
    (z_min : PySem.W.nsIn K mainGlobals "min" = some none)
    (z_len : PySem.W.nsIn K mainGlobals "len" = some none)
    (z_int : PySem.W.nsIn K mainGlobals "int" = some none)
    (z_str : PySem.W.nsIn K mainGlobals "str" = some none)
    : ∃ fd : FuncData, (∀ (s : Shared) (u : Value), BindsTo s fd ⟨[u], []⟩ [("script", u)]) ∧
      ∀ base : Heap, K.In base → base.Ns mainGlobals mg → FnR l.prog w K mg base CX0 (CG 6) fa fd ["script"] (spLaw K) := by
  have e := hfa.symm.trans (PySem.W.mg_of X G gL)
  cases e
  have T : Errs K mg (nth [c0, c1, c2, c3, c4, c5, c6, c7, c8, c9, c10, c11, c12]) (nth [f0, f1, f2, f3, f4, f5, f6, f7, f8, f9, f10, f11, f12]) :=
    ⟨err_of (okAll_e ok (i := 0) (by decide)) (PySem.W.mg_of X G a0) x0 y0,
     err_of (okAll_e ok (i := 1) (by decide)) (PySem.W.mg_of X G a1) x1 y1,
     err_of (okAll_e ok (i := 2) (by decide)) (PySem.W.mg_of X G a2) x2 y2,
     err_of (okAll_e ok (i := 3) (by decide)) (PySem.W.mg_of X G a3) x3 y3,
     err_of (okAll_e ok (i := 4) (by decide)) (PySem.W.mg_of X G a4) x4 y4,
     err_of (okAll_e ok (i := 5) (by decide)) (PySem.W.mg_of X G a5) x5 y5,
     err_of (okAll_e ok (i := 6) (by decide)) (PySem.W.mg_of X G a6) x6 y6,
     err_of (okAll_e ok (i := 7) (by decide)) (PySem.W.mg_of X G a7) x7 y7,
     err_of (okAll_e ok (i := 8) (by decide)) (PySem.W.mg_of X G a8) x8 y8,
     err_of (okAll_e ok (i := 9) (by decide)) (PySem.W.mg_of X G a9) x9 y9,
     err_of (okAll_e ok (i := 10) (by decide)) (PySem.W.mg_of X G a10) x10 y10,
     err0_of (okAll_e ok (i := 11) (by decide)) (PySem.W.mg_of X G a11) x11 y11,
     err0_of (okAll_e ok (i := 12) (by decide)) (PySem.W.mg_of X G a12) x12 y12⟩
  have I := isx_of ok
  have GH : GloH K mg (nth [c0, c1, c2, c3, c4, c5, c6, c7, c8, c9, c10, c11, c12]) cn := ⟨PySem.W.mg_none_of X G z_isinstance, PySem.W.mg_none_of X G z_range, PySem.W.mg_none_of X G z_ValueError,
    PySem.W.mg_none_of X G z_repr, PySem.W.mg_of X G aN, fun i hi => ⟨(okAll_e ok hi).xf, (okAll_e ok hi).no⟩⟩
  have GL : GloL mg := ⟨PySem.W.mg_none_of X G z_range, PySem.W.mg_none_of X G z_max, PySem.W.mg_none_of X G z_min,
    PySem.W.mg_none_of X G z_len, PySem.W.mg_none_of X G z_int, PySem.W.mg_none_of X G z_str⟩
  obtain ⟨fdM, m1, m2, m3, m4, m5, m6, em, FM⟩ := fun_of dM kM
  obtain ⟨fdR, r1, r2, r3, r4, r5, r6, er, FR⟩ := fun_of dR kR
  obtain ⟨fdH, v1, v2, v3, v4, v5, v6, ev, FH⟩ := fun_of dH kH
  obtain ⟨fdL, u1, u2, u3, u4, u5, u6, eu, FL⟩ := fun_of dL kL
  have bM := FM.binds (ps := ["e"]) fun _ _ _ _ _ _ us hl => match us, hl with | [_], _ => rfl
  have bR := FR.binds (ps := ["at", "thing"]) fun _ _ _ _ _ _ us hl => match us, hl with | [_, _], _ => rfl
  have bH := FH.binds (ps := ["at", "thing"]) fun _ _ _ _ _ _ us hl => match us, hl with | [_, _], _ => rfl
  refine ⟨fdL, fun s v => by rw [eu]; exact .of_eq rfl, fun base _ _ => ?_⟩
  exact ok_law FL FH bH (PySem.W.mg_of X G gH) (ok_heard FH FR FM bR bM (PySem.W.mg_of X G gR) (PySem.W.mg_of X G gM) T I GH) GL
end K00

open PySem PySem.W PyProof.Rows
set_option maxRecDepth 100000 in
set_option maxHeartbeats 0 in
theorem PySem.Challenge.cw_handalong_k00_errors_and_what_they_keep_holds : PySem.Challenge.rw_handalong_k00_errors_and_what_they_keep.Holds := by
  w_on; o_law; k_head; (case hw => w_witness2)
  k_fill
  refine KX.walk_ofG (l := PySem.Challenge.rw_handalong_k00_errors_and_what_they_keep) (n := 63) (k := 6) (x := "script") (CX := L2.CX0) (sp := K00.spLaw)
    rfl (by decide) rfl ⟨rfl, by decide, by decide⟩ (fun w h Y => PySem.W.kIn_of Y) ?F (fun _ H a ns hl _ hS => ⟨a, ns, rfl, hS, hl, fun _ => rfl⟩) fun _ _ _ _ z => z
  case F =>
    intro w mg fa h Y G hmg
    refine' K00.all_mk Y G hmg ?a0 ?a1 ?a2 ?a3 ?a4 ?a5 ?a6 ?a7 ?a8 ?a9 ?a10 ?a11 ?a12 ?aN ?i0 ?i1 ?i2 ?i3 ?i4 ?i5 ?i6 ?i7 ?i8 ?i9 ?i10 ?i11 ?i12 ?ok ?x0 ?y0 ?x1 ?y1 ?x2 ?y2 ?x3 ?y3 ?x4 ?y4 ?x5 ?y5 ?x6 ?y6 ?x7 ?y7 ?x8 ?y8 ?x9 ?y9 ?x10 ?y10 ?x11 ?y11 ?x12 ?y12 ?gM ?dM ?kM ?gR ?dR ?kR ?gH ?dH ?kH ?gL ?dL ?kL ?z_isinstance ?z_range ?z_ValueError ?z_repr ?z_max ?z_min ?z_len ?z_int ?z_str
    (case a0 => k_is)
    (case a1 => k_is)
    (case a2 => k_is)
    (case a3 => k_is)
    (case a4 => k_is)
    (case a5 => k_is)
    (case a6 => k_is)
    (case a7 => k_is)
    (case a8 => k_is)
    (case a9 => k_is)
    (case a10 => k_is)
    (case a11 => k_is)
    (case a12 => k_is)
    (case aN => k_is)
    (case i0 => k_is)
    (case i1 => k_is)
    (case i2 => k_is)
    (case i3 => k_is)
    (case i4 => k_is)
    (case i5 => k_is)
    (case i6 => k_is)
    (case i7 => k_is)
    (case i8 => k_is)
    (case i9 => k_is)
    (case i10 => k_is)
    (case i11 => k_is)
    (case i12 => k_is)
    (case ok => kernel_rfl)
    (case x0 => (refine' ⟨_, _, _, _, _, _, _, _, _, _, _, _, _, _, _, ?h1, ?h2⟩; (case h1 => rfl); (case h2 => decide +kernel)))
    (case y0 => (refine' ⟨_, _, _, _, _, _, _, _, _, _, _, _, _, _, ?h1, ?h2⟩; (case h1 => rfl); (case h2 => k_is)))
    (case x1 => (refine' ⟨_, _, _, _, _, _, _, _, _, _, _, _, _, _, _, ?h1, ?h2⟩; (case h1 => rfl); (case h2 => decide +kernel)))
    (case y1 => (refine' ⟨_, _, _, _, _, _, _, _, _, _, _, _, _, _, ?h1, ?h2⟩; (case h1 => rfl); (case h2 => k_is)))
    (case x2 => (refine' ⟨_, _, _, _, _, _, _, _, _, _, _, _, _, _, _, ?h1, ?h2⟩; (case h1 => rfl); (case h2 => decide +kernel)))
    (case y2 => (refine' ⟨_, _, _, _, _, _, _, _, _, _, _, _, _, _, ?h1, ?h2⟩; (case h1 => rfl); (case h2 => k_is)))
    (case x3 => (refine' ⟨_, _, _, _, _, _, _, _, _, _, _, _, _, _, _, ?h1, ?h2⟩; (case h1 => rfl); (case h2 => decide +kernel)))
    (case y3 => (refine' ⟨_, _, _, _, _, _, _, _, _, _, _, _, _, _, ?h1, ?h2⟩; (case h1 => rfl); (case h2 => k_is)))
    (case x4 => (refine' ⟨_, _, _, _, _, _, _, _, _, _, _, _, _, _, _, ?h1, ?h2⟩; (case h1 => rfl); (case h2 => decide +kernel)))
    (case y4 => (refine' ⟨_, _, _, _, _, _, _, _, _, _, _, _, _, _, ?h1, ?h2⟩; (case h1 => rfl); (case h2 => k_is)))
    (case x5 => (refine' ⟨_, _, _, _, _, _, _, _, _, _, _, _, _, _, _, ?h1, ?h2⟩; (case h1 => rfl); (case h2 => decide +kernel)))
    (case y5 => (refine' ⟨_, _, _, _, _, _, _, _, _, _, _, _, _, _, ?h1, ?h2⟩; (case h1 => rfl); (case h2 => k_is)))
    (case x6 => (refine' ⟨_, _, _, _, _, _, _, _, _, _, _, _, _, _, _, ?h1, ?h2⟩; (case h1 => rfl); (case h2 => decide +kernel)))
    (case y6 => (refine' ⟨_, _, _, _, _, _, _, _, _, _, _, _, _, _, ?h1, ?h2⟩; (case h1 => rfl); (case h2 => k_is)))
    (case x7 => (refine' ⟨_, _, _, _, _, _, _, _, _, _, _, _, _, _, _, ?h1, ?h2⟩; (case h1 => rfl); (case h2 => decide +kernel)))
    (case y7 => (refine' ⟨_, _, _, _, _, _, _, _, _, _, _, _, _, _, ?h1, ?h2⟩; (case h1 => rfl); (case h2 => k_is)))
    (case x8 => (refine' ⟨_, _, _, _, _, _, _, _, _, _, _, _, _, _, _, ?h1, ?h2⟩; (case h1 => rfl); (case h2 => decide +kernel)))
    (case y8 => (refine' ⟨_, _, _, _, _, _, _, _, _, _, _, _, _, _, ?h1, ?h2⟩; (case h1 => rfl); (case h2 => k_is)))
    (case x9 => (refine' ⟨_, _, _, _, _, _, _, _, _, _, _, _, _, _, _, ?h1, ?h2⟩; (case h1 => rfl); (case h2 => decide +kernel)))
    (case y9 => (refine' ⟨_, _, _, _, _, _, _, _, _, _, _, _, _, _, ?h1, ?h2⟩; (case h1 => rfl); (case h2 => k_is)))
    (case x10 => (refine' ⟨_, _, _, _, _, _, _, _, _, _, _, _, _, _, _, ?h1, ?h2⟩; (case h1 => rfl); (case h2 => decide +kernel)))
    (case y10 => (refine' ⟨_, _, _, _, _, _, _, _, _, _, _, _, _, _, ?h1, ?h2⟩; (case h1 => rfl); (case h2 => k_is)))
    (case x11 => (refine' ⟨_, _, _, _, _, _, _, _, _, _, _, _, _, _, _, ?h1, ?h2⟩; (case h1 => rfl); (case h2 => decide +kernel)))
    (case y11 => (refine' ⟨_, _, _, _, _, _, _, _, _, _, ?h1, ?h2⟩; (case h1 => rfl); (case h2 => k_is)))
    (case x12 => (refine' ⟨_, _, _, _, _, _, _, _, _, _, _, _, _, _, _, ?h1, ?h2⟩; (case h1 => rfl); (case h2 => decide +kernel)))
    (case y12 => (refine' ⟨_, _, _, _, _, _, _, _, _, _, ?h1, ?h2⟩; (case h1 => rfl); (case h2 => k_is)))
    (case gM => k_is)
    (case dM => (refine' ⟨_, _, _, _, _, _, _, _, _, ?h1, ?h2⟩; (case h1 => rfl); (case h2 => k_is)))
    (case kM => k_is)
    (case gR => k_is)
    (case dR => (refine' ⟨_, _, _, _, _, _, _, _, _, ?h1, ?h2⟩; (case h1 => rfl); (case h2 => k_is)))
    (case kR => k_is)
    (case gH => k_is)
    (case dH => (refine' ⟨_, _, _, _, _, _, _, _, _, ?h1, ?h2⟩; (case h1 => rfl); (case h2 => k_is)))
    (case kH => k_is)
    (case gL => k_is)
    (case dL => (refine' ⟨_, _, _, _, _, _, _, _, _, ?h1, ?h2⟩; (case h1 => rfl); (case h2 => k_is)))
    (case kL => k_is)
    (case z_isinstance => k_is)
    (case z_range => k_is)
    (case z_ValueError => k_is)
    (case z_repr => k_is)
    (case z_max => k_is)
    (case z_min => k_is)
    (case z_len => k_is)
    (case z_int => k_is)
    (case z_str => k_is)
