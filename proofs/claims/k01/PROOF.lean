import PyProof.Rows.All
import Wide.All
import OpenK.AllK
import Wide.FinOn
import PyProof.EqAt
import PyProof.EqKinds
import PyProof.TupleCall
import KE.KExcSuper
import HandS.ForMost
import HandS.ForExc
import HandS.ExcInit
import HandS.IsInst
import HandS.Wide
import HandS.Star
import HandS.CallSlots
import HandS.DictComp
import HandS.OwnEq
import HandS.Codes
import HandS.Defaults
import HandS.Walk
import PySem.Challenge.RW_asofhall_k01_journals_refused
import HandS.More
import KE.GoesMore
import HandS.Deep
import PyProof.InstNe
import OpenK.KOwn
import OpenK.KOps
import HandS.Sort
import HandS.SlotsOwn
import PyProof.NeKinds
import KE.KEqDict
import HandS.TupAny
import HandS.ExcCtx
import HandS.HotCalls
import HandS.SuiteRaise
import HandS.RaiseFrom
import KE.KExcIs
import HandS.ExcIs
import HandS.ExcOwn
import HandS.Exc
import HandS.TryMany
import HandS.SortRule
set_option Elab.async false
set_option linter.all false
set_option maxRecDepth 100000
set_option maxHeartbeats 4000000
namespace PySem
namespace BadX
open PySem.W PySem.Calls PyProof.Rows PySem.HandSPX
/-- super().__init__(text); self.fl = par -/
def shape (tx par fl : Str) (p0 p1 p2 p3 p4 p5 p6 p7 p8 p9 : Pos) (j : Nat) : List Stmt :=
  [.Expr (.Call (.Attribute (.Call (.Name "super" p0) [] [] p1) "__init__" p2) [.Constant (.str tx) j p3] [] p4) p5,
   .Assign [.Attribute (.Name "self" p6) fl p7] (.Name par p8) p9]
def sco (par : Str) : Scope := { kind := .function, names := [(PySem.Str.ofString "self", .local), (par, .local), (PySem.Str.ofString "__class__", .free), (PySem.Str.ofString "super", .globalImplicit)], isGenerator := false, isCoroutine := false, more := [] }
/-- what the written part says of an own error's class at C, its __init__ at fI, whose one field is fl -/
structure Txt (P : Program) (K : Frag) (mg : Str → Option Value) (par fl : Str) (C fI : Addr) : Prop where
  cls : ∃ nm q N bs bm sn sub ab col dd k0 k1 k2 k3 k5, K.lookup C = some (excClassObj nm q C N bs bm true sn sub ab col dd k0 k1 k2 k3 k5 "ValueError.__new__") ∧ refsVE bm = true
  sa : findIn K (.ref C) "__setattr__" = some (some (.builtin "object.__setattr__"))
  ga : findIn K (.ref C) "__getattribute__" = some (some (.builtin "BaseException.__getattribute__"))
  gg : findIn K (.ref C) "__getattr__" = some none
  noN : findIn K (.ref C) fl = some none
  iC : findIn K (.ref C) "__init__" = some (some (.ref fI))
  tC : typeIn K (.ref fI) = some (.type "function")
  kC : keepIn K (.ref C) = true
  exC : subIn K (.ref C) (.type "BaseException") = some true
  veC : subIn K (.ref C) (.type "ValueError") = some true
  slf : mroIn K C (.ref C) = some true
  tyC : typeIn K (.ref C) = some (.type "type")
  hdC : hasDictIn K C = true
  te : exmOne K (.ref C) (.ref C) = some true
  along : ks_superIn K C C "__init__" = some (some (.builtin "ValueError.__init__"))
  opq : nsIn K cStatics "thirdparty.any" = some none
  sup : mg "super" = none
  top : (P.main.scope.names.lookup ("super" : Str)).isSome = false
  fn : ∃ (oc : Value) (od : Option Addr) (qual tx : Str) (doc pm : Value) (an : Option Addr) (cda cc : Addr) (ct : Value) (osl : Array (Option Value)) (pa : Arguments) (p0 p1 p2 p3 p4 p5 p6 p7 p8 p9 : Pos) (j : Nat) (a0 : Arg),
    K.lookup fI = some ⟨oc, od, .func (ksFn "__init__" qual pa (shape tx par fl p0 p1 p2 p3 p4 p5 p6 p7 p8 p9 j) (sco par) .none .none doc pm an (.ref cda) ct cc), osl⟩ ∧ codeIn K (.ref cda) qual = true ∧
    (pa.posonlyargs ++ pa.args).head? = some a0 ∧ a0.arg = "self" ∧
    (∀ (s : Shared) (u v : Value), BindsTo s (ksFn "__init__" qual pa (shape tx par fl p0 p1 p2 p3 p4 p5 p6 p7 p8 p9 j) (sco par) .none .none doc pm an (.ref cda) ct cc) ⟨[u, v], []⟩ [("self", u), (par, v)]) ∧
    (∃ ccl cdd vs ccs file tf, K.lookup cda = some ⟨ccl, cdd, .fields vs, ccs⟩ ∧ vs[2]? = some (.str file tf) ∧ ((P.main.file : Str) == file) = true) ∧
    (p2.endLine == p4.line) = true ∧
    (∃ cl cld csl, K.lookup cc = some ⟨cl, cld, .cell (some (.ref C)), csl⟩)
/-- what __init__ leaves of a fresh exception at x -/
structure Left (fl : Str) (h h' : Heap) (x C dx t1 : Addr) (v : Value) : Prop where
  keep : ∀ b o, b ≠ x → h.get? b = some o → h'.get? b = some o
  obj : h'.get? x = some { cls := .ref C, dict := some dx, data := .fields #[.ref t1, .none, .none, .none, .bool false, .none] }
  dbig : h.objs.size ≤ dx
  dne : dx ≠ x
  ns : h'.Ns1 dx (fun y => if y = fl then some v else none)
section
variable {prog : Program} {w : World} {A : Around} {E : Value → Shared → Prop} {R : Result → Shared → Prop} {s : Shared} {K : Frag} {mg mb : Str → Option Value} {C fI : Addr} {par fl : Str}
/-- the wrapper of ValueError.__init__, bound to x, called -/
theorem call_bound {h : Heap} {g : Array GenState} {d : Drawn} {t : Nat} {os : OsState} {u x t0 : Addr} {rest : List Value} {Q : Value → Shared → Prop} {nm q : Str} {N : Addr} {bs bm : List Value} {sn : List Str} {sub : List Value} {ab : Bool} {col : Option Bool} {dd : Option Addr} {k0 k1 k2 k3 k5 : Option Value}
    (hC : h.get? C = some (excClassObj nm q C N bs bm true sn sub ab col dd k0 k1 k2 k3 k5 "ValueError.__new__")) (hx : h.get? x = some (excO C t0)) (hu : h.get? u = some (kxs_mw "ValueError.__init__" x)) (hr : rest.length ≤ sizeLine)
    (hq : ∀ h', (∀ b o, b ≠ x → h.get? b = some o → h'.get? b = some o) → h'.get? x = some (excO C h.objs.size) → Q .none ⟨h', g, d, t, os⟩) :
    wpAny (model prog w) A (call (.ref u) rest) Q E ⟨h, g, d, t, os⟩ := by
  have FB := F.excBase_ValueError
  refine wpAny_call (codeAny_of_tree ?_)
  show wpAny _ A.in1 (callAny (.ref u) ⟨rest, []⟩) _ _ _
  simp only [callAny]
  refine wpAny_bind (wpAny_load hu ?_)
  have c1 : (Value.type "method-wrapper" == Value.type "method" || Value.type "method-wrapper" == Value.type "builtin_function_or_method" || Value.type "method-wrapper" == Value.type "method-wrapper") = true := by decide
  simp only [kxs_mw, c1, if_true]
  refine KFB.if_so (by decide) (wpAny_bind (check_bound_init FB.toExcCallFacts hC hx rfl (wpAny_bind (wpAny_pure (wpAny_pure ⟨plainId_quiet FB.init.plain _, codeAny_builtin FB.initEntry ?_⟩)))))
  exact exc_init_tree (cls := .ref C) (t0 := t0) (dv := none) (c2 := .none) (c3 := .none) (b4 := .bool false) hx hr fun h' k e' _ => hq h' k e'
theorem init_ok {x t0 : Addr} {v : Value} (T : Txt prog K mg par fl C fI) (X : K.In s.heap) (G : s.heap.Ns mainGlobals mg) (B : s.heap.Ns builtinsNs mb) (hb : mb "super" = some (.type "super")) (hlim : s.heap.NoLimit)
    (hx : s.heap.get? x = some (excO C t0)) (hnx : K.lookup x = none) (hroom : A.depth < recursionLimit) (hp1 : (par == ("__debug__" : Str)) = false) (hp2 : ¬ par = "self")
    (hloc : (sco par).names.lookup par = some .local) (hks : (sco par).names.lookup ("super" : Str) = some .globalImplicit) (hkc : (sco par).names.lookup ("__class__" : Str) = some .free)
    (hq : ∀ h' tk t1 dx, Left fl s.heap h' x C dx t1 v → R (.ok (.ret .none)) { s with heap := h', toks := tk }) :
    codeAny (model prog w) A (.call (.ref fI) ⟨[.ref x, v], []⟩) R s := by
  obtain ⟨oc, od, qual, tx, doc, pm, an, cda, cc, ct, osl, pa, p0, p1, p2, p3, p4, p5, p6, p7, p8, p9, j, a0, ho, hcd, ha0, ha1, hbd, ⟨ccl, cdd, vs, ccs, file, tf, hcode, hvs, hfile⟩, hpe, ⟨cl, cld, csl, hcell⟩⟩ := T.fn
  obtain ⟨nm, q, N, bs, bm, sn, sub, ab, col, dd, k0, k1, k2, k3, k5, hC, hbm⟩ := T.cls
  have hcl : clsIn K C = some { name := nm, bases := bs, mro := .ref C :: bm, ns := N, qualname := q, hasDict := true, slotNames := sn, subclasses := sub, abstract := ab, collection := col, hasDel := false } := by unfold clsIn; rw [hC] <;> rfl
  refine ks_codeAny_call_defAt (binds := [("self", .ref x), (par, v)]) hroom (X _ _ ho) rfl hlim (codeRec_of X hcd) rfl (hbd s (.ref x) v) ?_ ?_ (fun h₁ hns hk₁ => ?_)
  · intro y hy
    have : y ∈ [(PySem.Str.ofString "self", NameKind.local), (par, .local), (PySem.Str.ofString "__class__", .free), (PySem.Str.ofString "super", .globalImplicit)] := hy
    simp only [List.mem_cons, List.not_mem_nil, or_false] at this
    rcases this with rfl | rfl | rfl | rfl <;> (intro z; cases z)
  · intro y hy
    simp only [List.mem_cons, List.not_mem_nil, or_false] at hy
    rcases hy with rfl | rfl
    · exact (by rfl : (sco par).names.lookup ("self" : Str) = some .local)
    · exact hloc
  have hself : ([(("self" : Str), Value.ref x), (par, v)] : List (Str × Value)).reverse.lookup ("self" : Str) = some (Value.ref x) := by
    show List.lookup ("self" : Str) [(par, v), (("self" : Str), Value.ref x)] = _
    have e1 : (("self" : Str) == par) = false := by simpa using fun z => hp2 z.symm
    simp [List.lookup, e1]
  have hpar : ([(("self" : Str), Value.ref x), (par, v)] : List (Str × Value)).reverse.lookup par = some v := by
    show List.lookup par [(par, v), (("self" : Str), Value.ref x)] = _
    simp [List.lookup]
  have X₁ : K.In h₁ := X.keeps hk₁
  have hx₁ := hk₁ _ _ hx
  refine ks_wpAt_execs_cons (ks_wpAt_Expr_any (ks_wpAt_MethodCall (pl := ?pl) ?_ ?he))
  case he =>
    rw [arm_eval_Call]
    unfold methodCall methodCallPos
    rw [hpe]
    with_unfolding_all rfl
  refine ks_wpAt_super_base (hks := hks) (hkc := hkc) (by decide +kernel) rfl (X₁ _ _ ho) rfl ha0 rfl (X₁ _ _ hcode) rfl hvs hfile T.top ?_
  refine ks_loadName_global rfl hks (loadGlobal_builtin (G.keeps hk₁) T.sup (B.keeps hk₁) hb ⟨rfl, ?_⟩)
  refine wpAny_loadName_free rfl hkc rfl ⟨_, X₁ _ _ hcell, rfl⟩ ?_
  rw [ha1]
  refine wpAny_loadName_local rfl rfl hns hself ?_
  refine ks_wpAny_isType_cls (X₁ _ _ hC) rfl ⟨rfl, ?_⟩
  refine ks_wpAny_call_super (X₁ _ _ hC) rfl hx₁ rfl (fun c e => by cases e) (looks_mroIn X₁ T.slf) (fun h₂ e₂ k₂ => ?_)
  have X₂ : K.In h₂ := X₁.keeps k₂
  have hx₂ := k₂ _ _ hx₁
  have I₂ : InstAt h₂ x (excO C t0) C none := ⟨hx₂, rfl, rfl, trivial⟩
  have hal := T.along
  unfold ks_superIn at hal
  rw [hcl] at hal
  refine kxs_getMethod kxs_ValueError e₂ (looks_opaque X₂ T.opq) (l₀ := .ref C :: bm) ?_ rfl X₂ hal (I₂.type.andThen (looks_subIn X₂ T.veC)) (ks_ne X₂ I₂ hcl) (by decide +kernel) ?_
  · exact fun A Q E s k q => wpAny_bind ((looks_clsIn X₂ hcl) A _ E s k (wpAny_pure q))
  have hu : (h₂.push (kxs_mw "ValueError.__init__" x)).get? h₂.objs.size = some (kxs_mw "ValueError.__init__" x) := Heap.get?_push_at rfl rfl
  have k₃ : ∀ b o, h₂.get? b = some o → (h₂.push (kxs_mw "ValueError.__init__" x)).get? b = some o := fun b o e => Heap.get?_push_of_some _ e
  let H₃ := h₂.push (kxs_mw "ValueError.__init__" x)
  refine kxs_callWith1 (i := "ValueError.__init__") (x := x) (u := h₂.objs.size) (h₀ := Att.noObjs H₃) (L := h₂.objs.size + 7) (news := [(h₂.objs.size, kxs_mw "ValueError.__init__" x)]) (fun q hq => ?_) (List.Mem.head _) ?_
  · rcases List.mem_cons.mp hq with rfl | hq
    · exact ⟨hu, by show h₂.objs.size ≠ h₂.objs.size + 7; omega, Att.noObjs_get _ _⟩
    · cases hq
  refine wpAny_items_cons (Constant_str ?_)
  refine wpAny_items_nil ⟨hu, ?_⟩
  have X₃ : K.In (h₂.push (kxs_mw "ValueError.__init__" x)) := X₂.keeps k₃
  refine call_bound (X₃ _ _ hC) (k₃ _ _ hx₂) hu (by rw [sizeLine_eq]; exact (by decide : 1 ≤ 16777216)) fun h₄ k₄ e₄ => ?_
  -- self.fl = par
  have k14 : ∀ b o, b ≠ x → h₁.get? b = some o → h₄.get? b = some o := fun b o hb e => k₄ b o hb (k₃ b o (k₂ b o e))
  have xL : s.heap.objs.size ≠ x := Nat.ne_of_gt (Heap.lt_size hx)
  obtain ⟨oL, es, ep, hL, hr⟩ := hns
  have hns₄ : h₄.Ns s.heap.objs.size (fun y => ([(("self" : Str), Value.ref x), (par, v)] : List (Str × Value)).reverse.lookup y) := ⟨oL, es, ep, k14 _ _ xL hL, hr⟩
  have X₄ : K.In h₄ := fun a o e => k₄ a o (fun z => by rw [z, hnx] at e; cases e) (X₃ a o e)
  refine wpAt_of_wpAny (wpAny_execs_cons (plainObj_wpAny_Assign_Attribute ?_))
  refine wpAny_Name (wpAny_loadName_local rfl hloc hns₄ hpar ?_) hp1
  refine wpAny_Name (wpAny_loadName_local rfl rfl hns₄ hself ?_) (by decide)
  refine set_plain X₄ (ox := excO C h₂.objs.size.succ) (od := none) ⟨?_, rfl, rfl, trivial⟩ T.sa ?_
  · show h₄.get? x = some (excO C h₂.objs.size.succ)
    rw [e₄, Heap.size_push]
  have e₄' : h₄.get? x = some (excO C h₂.objs.size.succ) := by
    rw [e₄, Heap.size_push]
  refine exc_osa X₄ e₄' hcl (show refsVE (.ref C :: bm) = true from hbm) rfl T.noN (fun h₅ tk₅ dx k₅ dn dne hx₅ hn₅ => ?_)
  have z1 : s.heap.objs.size < h₄.objs.size := Heap.lt_size (k14 _ _ xL hL)
  refine wpAny_execs_nil (hq h₅ tk₅ _ dx ⟨fun b o hb e => k₅ b o hb (k14 b o hb (hk₁ b o e)), hx₅, Nat.le_of_lt (Nat.lt_of_lt_of_le z1 dn), dne, hn₅⟩)
theorem one_le (v : Value) : [v].length ≤ sizeLine := by
  rw [sizeLine_eq]
  exact (by decide : 1 ≤ 16777216)
/-- a made error -/
structure Made (fl : Str) (h h' : Heap) (e C d : Addr) (v : Value) : Prop where
  keep : ∀ b o, h.get? b = some o → h'.get? b = some o
  new : h.objs.size ≤ e
  obj : ∃ oe vs, h'.get? e = some oe ∧ oe.cls = .ref C ∧ oe.dict = some d ∧ oe.data = .fields vs ∧ vs[1]? = some .none ∧ vs[2]? = some .none ∧ 4 < vs.size
  dbig : h.objs.size ≤ d
  dne : d ≠ e
  ns : h'.Ns1 d (fun y => if y = fl then some v else none)
/-- the names of such an __init__ -/
structure Par (par : Str) : Prop where
  p1 : (par == ("__debug__" : Str)) = false
  p2 : ¬ par = "self"
  p3 : (sco par).names.lookup par = some .local
  p4 : (sco par).names.lookup ("super" : Str) = some .globalImplicit
  p5 : (sco par).names.lookup ("__class__" : Str) = some .free
theorem made_ok {v : Value} (T : Txt prog K mg par fl C fI) (p : Par par) (X : K.In s.heap) (G : s.heap.Ns mainGlobals mg) (B : s.heap.Ns builtinsNs mb) (hb : mb "super" = some (.type "super")) (hlim : s.heap.NoLimit) (hroom : A.depth + 1 < recursionLimit)
    (hq : ∀ h' tk e d, Made fl s.heap h' e C d v → R (.ok (.ret (.ref e))) { s with heap := h', toks := tk }) :
    codeAny (model prog w) A (.call (.ref C) ⟨[v], []⟩) R s := by
  obtain ⟨nm, q, N, bs, bm, sn, sub, ab, col, dd, k0, k1, k2, k3, k5, hC, hbm⟩ := T.cls
  obtain ⟨hp, g, dr, tk, os⟩ := s
  let hp2 := (hp.push (kdv_tup [v])).push (excO C hp.objs.size)
  have k : ∀ b o, hp.get? b = some o → hp2.get? b = some o := fun b o e => Heap.get?_push_of_some _ (Heap.get?_push_of_some _ e)
  have hget : hp2.get? (hp.objs.size + 1) = some (excO C hp.objs.size) := by
    show ((hp.push (kdv_tup [v])).push (excO C hp.objs.size)).get? (hp.objs.size + 1) = _
    heap_get
  have hsz : hp2.objs.size = hp.objs.size + 2 := by
    show ((hp.push (kdv_tup [v])).push (excO C hp.objs.size)).objs.size = _
    rw [Heap.size_push, Heap.size_push]
  have hnx : K.lookup (hp.objs.size + 1) = none := by
    cases e : K.lookup (hp.objs.size + 1) with
    | none => rfl
    | some o => exact absurd (Nat.lt_of_succ_lt (Heap.lt_size (show hp.get? _ = some o from X _ _ e))) (Nat.lt_irrefl _)
  refine call_own F.excBase_ValueError (fun Y => refsVE_contains Y bm hbm) (X _ _ hC) (looks_findIn X T.iC) (fun self => bind_fn X self T.tC) (one_le v) ?_
  refine init_ok (s := ⟨hp2, g, dr, tk, os⟩) T (X.keeps k) (G.keeps k) (B.keeps k) hb (hlim.keeps k) hget hnx (show A.depth + 1 < recursionLimit from hroom) p.p1 p.p2 p.p3 p.p4 p.p5 fun h' tk' t1 dx ⟨k', hx, dn, dne, hns⟩ => ?_
  have old : ∀ b o, hp.get? b = some o → h'.get? b = some o := fun b o e => k' b o (Nat.ne_of_lt (Nat.lt_succ_of_lt (Heap.lt_size e))) (k b o e)
  have dn' : hp2.objs.size ≤ dx := dn
  rw [hsz] at dn'
  exact ⟨rfl, hq h' tk' (hp.objs.size + 1) dx ⟨old, Nat.le_succ _, ⟨_, _, hx, rfl, rfl, rfl, rfl, rfl, (show 4 < 6 by decide)⟩, (by show hp.objs.size ≤ dx; omega), dne, hns⟩⟩
end
end BadX
end PySem
namespace L2
open PySem PySem.Spec PyProof.Rows
theorem relO_one {v : V} {v' : Value} (r : RelV v v') (fl f : Str) : RelO (List.lookup f [(fl, v)]) (if f = fl then some v' else none) := by
  by_cases hw : f = fl
  · subst hw
    rw [if_pos rfl]
    have q : List.lookup f [(f, v)] = some v := by simp [List.lookup]
    rw [q]
    exact r
  · rw [if_neg hw]
    have qw : (f == fl) = false := by simpa using hw
    have q2 : List.lookup f [(fl, v)] = none := by simp [List.lookup, qw]
    rw [q2]
    trivial
section
variable {X : Cx} {C fI : Addr}
/-- Cls(e), an own error with the one field fl -/
def tMkB (fl : Str) (C : Addr) (ta : TA) : St → Hp → XK → Prop := fun σ H Q => ta σ H fun vs H1 => ∃ v, vs = [v] ∧ ∀ d, H1 d = none → Q (.ref C) (some d) (upd H1 d (.xd [(fl, v)]))
theorem pmk_bad {x par fl : Str} {a : Expr} {ta : TA} {p pos : Pos} {k : Nat} (T : PySem.BadX.Txt X.prog X.K X.mg par fl C fI) (pr : PySem.BadX.Par par) (hm : X.mg x = some (.ref C)) (hr : Room k X.A) (ha : PA X [a] ta) (hg : Gl X x)
    (hdb : (x == ("__debug__" : Str)) = false := by decide)
    (he : starEach (a :: []) X.env = (false, eval a X.env) :: starEach [] X.env := by rfl) (hpl : (backTo pos (starEach [] X.env)).any (·.1) = false := by rfl) :
    PMk X (.Call (.Name x p) [a] [] pos) (tMkB fl C ta) := by
  intro pins s σ H Q I h
  refine wpAny_Call_Name_kw (ld_glob I hg hm ?_ hdb)
  refine PySem.W.callWith_K (h₀ := X.base) I.ok.mod.kin T.kC (thn (ha.run pos pins s σ H _ I h) fun us s1 hh => ?_) he hpl
  obtain ⟨vs, H1, I1, r1, v, ev, q1⟩ := hh
  subst ev
  refine ⟨I1.kIn, ?_⟩
  cases r1 with
  | cons rv rn =>
    rename_i v' us'
    cases rn
    show wpAny _ _ (call (.ref C) [v']) _ _ _
    have hlim := I1.nolimit
    obtain ⟨mb, hb1, hb2⟩ := I1.mod.blt
    have Gn : s1.heap.Ns mainGlobals X.mg := I1.mod.glob.keeps I1.bk
    have Bn : s1.heap.Ns builtinsNs mb := hb1.keeps I1.bk
    have hbs : mb "super" = some (.type "super") := (hb2 _ (by decide +kernel)).trans (by first | boot_by_name | rfl | kernel_rfl)
    obtain ⟨hp, g, dr, tk, os⟩ := s1
    refine wpAny_call (PySem.BadX.made_ok T pr I1.kIn Gn Bn hbs hlim (by have := hr.dp; omega) fun h' tk' e d M => ?_)
    show MkP X pins σ Q (.ref e) ⟨h', g, dr, tk', os⟩
    obtain ⟨oe, fv, hoe, hc, hd, hdat, h1, _⟩ := M.obj
    have hns := M.ns
    obtain ⟨G', g1, g2⟩ := restrict h' fun b => decide (b ≠ e)
    have gk : ∀ b, b ≠ e → G'.get? b = h'.get? b := fun b hb => g1 b (decide_eq_true hb)
    have ge : G'.get? e = none := g2 e (by simp)
    have old : ∀ b o, hp.get? b = some o → G'.get? b = some o := fun b o q => (gk b (Nat.ne_of_lt (Nat.lt_of_lt_of_le (Heap.lt_size q) M.new))).trans (M.keep b o q)
    have ob : ObjOk X.prog X.w (upd H1 d (.xd [(fl, v)])) G' d (.xd [(fl, v)]) :=
      ⟨_, hns.at (fun o q => (gk d M.dne).trans q), fun f => relO_one rv fl f⟩
    have J : Inv X pins σ (upd H1 d (.xd [(fl, v)])) ⟨G', g, dr, tk', os⟩ := I1.laid (t' := tk') old M.dbig ob
    refine ⟨e, oe, fv, ⟨G', g, dr, tk', os⟩, _, .ref C, some d, rfl, J, fun b o q => ?_, ge, hoe, ⟨hc, hd⟩, hdat, h1, ?_, rfl, I1.bare, raises_own T.exC T.tyC, q1 d (I1.hok.fresh M.dbig)⟩
    · by_cases hb : b = e
      · have q' : G'.get? b = some o := q
        rw [hb, ge] at q'; cases q'
      · exact (gk b hb).symm.trans q
    · rw [upd_ne (Ne.symm M.dne)]
      exact I1.hok.fresh M.new
/-- raise Cls(e) -/
def tRaiseB (fl : Str) (C : Addr) (W : WX) (ta : TA) : TS := fun _ σ H => tMkB fl C ta σ H fun cls d H' => W cls d σ H'
theorem ps_raiseB {x par fl : Str} {a : Expr} {ta : TA} {W : WX} {p pos pos2 : Pos} {k : Nat} (hc : X.calm = true) (T : PySem.BadX.Txt X.prog X.K X.mg par fl C fI) (pr : PySem.BadX.Par par) (hm : X.mg x = some (.ref C)) (hr : Room k X.A) (tk : Takes X W) (ha : PA X [a] ta) (hg : Gl X x)
    (hdb : (x == ("__debug__" : Str)) = false := by decide)
    (he : starEach (a :: []) X.env = (false, eval a X.env) :: starEach [] X.env := by rfl) (hpl : (backTo pos (starEach [] X.env)).any (·.1) = false := by rfl) :
    PS X (.Raise (some (.Call (.Name x p) [a] [] pos)) none pos2) (tRaiseB fl C W ta) := ps_raise hc tk (pmk_bad T pr hm hr ha hg hdb he hpl)
end
end L2

set_option Elab.async false
set_option linter.all false
set_option maxRecDepth 100000
set_option maxHeartbeats 4000000
namespace Ash
open PySem PySem.Spec PyProof.Rows L2
abbrev topS (i : Nat) : Stmt := PySem.Challenge.pw_asofhall_k01_journals_refused.main.body.getD i (.Pass ⟨0, 0, 0, 0⟩)
/-- a def of the top by its name, with its promise -/
structure Cal (P : Program) (w : World) (K : PySem.W.Frag) (mg : Str → Option Value) (base : Heap) (CX : CXT) (x : Str) (k : Nat) (ps : List Str) (sp : Sp) : Prop where
  ex : ∃ f fd, mg x = some (.ref f) ∧ PySem.W.keepIn K (.ref f) = true ∧ Binds K fd ps [] ∧ FnOk P w K mg base CX k f fd ps sp
section
variable {X : Cx} {CX : CXT} {k j : Nat} {ps : List Str} {sp : Sp} {E : XK} {x : Str} {p pos : Pos} {e : Expr} {es : List Expr} {t : TA}
theorem pe_cal (G : Cal X.prog X.w X.K X.mg X.base CX x k ps sp) (hr : Room k X.A) (hx : Passes CX X E) (ha : PA X (e :: es) t) (hg : Gl X x := by rfl)
    (hdb : (x == ("__debug__" : Str)) = false := by decide) (he : starEach (e :: es) X.env = (false, eval e X.env) :: starEach es X.env := by rfl) (hpl : (backTo pos (starEach es X.env)).any (·.1) = false := by rfl) :
    PE X (.Call (.Name x p) (e :: es) [] pos) (tCall sp [] E t) := by
  obtain ⟨f, fd, hm, hk, hb, F⟩ := G.ex
  exact pe_call F hr hg hm hk hb .nil hx ha hdb he hpl
theorem pe_calS {E : L2.St → XK} (G : Cal X.prog X.w X.K X.mg X.base CX x k ps sp) (hr : Room k X.A) (hx : ∀ σ, PassesAt CX X σ (E σ)) (ha : PA X (e :: es) t) (hg : Gl X x := by rfl)
    (hdb : (x == ("__debug__" : Str)) = false := by decide) (he : starEach (e :: es) X.env = (false, eval e X.env) :: starEach es X.env := by rfl) (hpl : (backTo pos (starEach es X.env)).any (·.1) = false := by rfl) :
    PE X (.Call (.Name x p) (e :: es) [] pos) (tCallSD sp [] E t) := by
  obtain ⟨f, fd, hm, hk, hb, F⟩ := G.ex
  exact pe_callSD F hr hg hm hk hb .nil hx ha hdb he hpl
/-- a class by its name, with its __init__'s promise -/
structure Mak (P : Program) (w : World) (K : PySem.W.Frag) (mg : Str → Option Value) (base : Heap) (CX : CXT) (x : Str) (C : Addr) (k : Nat) (ps : List Str) (sp : Sp) : Prop where
  ex : ∃ f fd, Mk K C f ∧ mg x = some (.ref C) ∧ Binds K fd ps [] ∧ FnOk P w K mg base CX k f fd ps sp
theorem pe_mak {C : Addr} (G : Mak X.prog X.w X.K X.mg X.base CX x C k ps sp) (hr : Room (k + 1) X.A) (hx : Passes CX X E) (ha : PA X (e :: es) t) (hg : Gl X x := by rfl)
    (hdb : (x == ("__debug__" : Str)) = false := by decide) (he : starEach (e :: es) X.env = (false, eval e X.env) :: starEach es X.env := by rfl) (hpl : (backTo pos (starEach es X.env)).any (·.1) = false := by rfl) :
    PE X (.Call (.Name x p) (e :: es) [] pos) (tMake C sp [] E t) := by
  obtain ⟨f, fd, M, hm, hb, F⟩ := G.ex
  exact pe_make M F hr hg hm hb .nil hx ha hdb he hpl
/-- int(n) of an int -/
theorem call_intI : CallR X (.type "int") (fun xs H Q => ∃ i, xs = [.int i] ∧ Q (.int i) H) := by
  intro pins s σ H xs us Q I r h
  exact call_int1 pins s σ H xs us Q I r (.inl h)
end
/-- what is wanted of an exception at any slots of the def -/
def WEl (X : Cx) (W : WX) : XK := fun cls d H => ∀ σ : L2.St, σ.length = X.N.length → W cls d σ H
theorem passW {X : Cx} {W : WX} (tk : Takes X W) : Passes (L2.CX X.prog X.w) X (WEl X W) := fun _ σ _ _ e s' I c => tk e s' (XE.of_call I (fun cls d H' h => h σ I.len) c)
theorem passE {X : Cx} {E : XK} (tk : Takes X (fun cls d _ H => E cls d H)) : Passes (L2.CX X.prog X.w) X E := passes_call tk fun _ _ _ _ h => h
/-- a method of a class, with its promise -/
structure Met (P : Program) (w : World) (K : PySem.W.Frag) (mg : Str → Option Value) (base : Heap) (CX : CXT) (C : Addr) (m : Str) (k : Nat) (ps : List Str) (sp : Sp) : Prop where
  ex : ∃ f fd, Meth K C m f ∧ Binds K fd ps [] ∧ FnOk P w K mg base CX k f fd ps sp
/-- a dict comprehension over a walk: as lc_it -/
theorem dc_it {J : It} {n : Nat} {W0 : Hp → Prop} {Y : Nat → Hp → V → Hp → Prop} (wk : Walk J n W0 Y) {g : TG} {tt : TT} {tk tv : TE} {vs : List Nat} {σ : L2.St} {H1 : Hp} {D : Addr} {Qd : Hp → Prop} (Pv : Nat → Hp → Prop) (h0 : Pv 0 (upd H1 D (.dK []))) (hG : ∀ i H, i ≤ n → Pv i H → W0 H)
    (hs : ∀ i x H H', i < n → Pv i H → Y i H x H' → g x (wipe σ vs) H' fun σ2 H2 => wipe σ2 vs = wipe σ vs ∧ tt σ2 H2 fun b H3 =>
      if b = true then tk σ2 H3 fun y H4 => tv σ2 H4 fun z H5 => ∃ kvs k, y = kV k ∧ H5 D = some (.dK kvs) ∧ kvs.length < sizeLine ∧ Pv (i + 1) (upd H5 D (.dK (putK kvs k z))) else Pv (i + 1) H3) (hd : ∀ H, Pv n H → Qd H) :
    ∃ W : Nat → Nat → Hp → Prop, (∃ m, W 0 m (upd H1 D (.dK []))) ∧ ∀ i m H, W i m H →
      (J.stop i H ∧ Qd H) ∨ (J.go i H ∧ ∃ Nx : Hp → Prop, (∀ H', Nx H' → ∃ m', m' < m ∧ W (i + 1) m' H') ∧ ∀ x H', J.yld i H x H' → g x (wipe σ vs) H' fun σ2 H2 => wipe σ2 vs = wipe σ vs ∧ tt σ2 H2 fun b H3 =>
        if b = true then tk σ2 H3 fun y H4 => tv σ2 H4 fun z H5 => ∃ kvs k, y = kV k ∧ H5 D = some (.dK kvs) ∧ kvs.length < sizeLine ∧ Nx (upd H5 D (.dK (putK kvs k z))) else Nx H3) := by
  refine ⟨fun i m H => (m + i = n) ∧ Pv i H, ⟨n, rfl, h0⟩, ?_⟩
  rintro i m H ⟨hm, pv⟩
  by_cases c : i < n
  · refine .inr ⟨wk.goes i H c (hG i H (by omega) pv), Pv (i + 1), fun H' pv' => ⟨m - 1, by omega, by omega, pv'⟩, fun x H' y => ?_⟩
    exact hs i x H H' c pv (wk.yields i H x H' c (hG i H (by omega) pv) y)
  · have : i = n := by omega
    subst this
    exact .inl ⟨wk.stops H (hG _ H (Nat.le_refl _) pv), hd H pv⟩
/-- the built-in names that the top leaves alone -/
structure Blt (mg : Str → Option Value) : Prop where
  len : mg "len" = none
  int : mg "int" = none
  bool : mg "bool" = none
  str : mg "str" = none
  list : mg "list" = none
  tuple : mg "tuple" = none
  dict : mg "dict" = none
  isinstance : mg "isinstance" = none
  all : mg "all" = none
  range : mg "range" = none
  enumerate : mg "enumerate" = none
  sorted : mg "sorted" = none
  min : mg "min" = none
  max : mg "max" = none
  set : mg "set" = none
/-- data without depth -/
def flatD : PyData → Bool
  | .none => true
  | .bool _ => true
  | .int _ => true
  | .str x => PyData.strOk x
  | _ => false
theorem flat_lay : ∀ {ds : List PyData}, ds.all flatD = true → PyData.canLayAll0 ds = true ∧ PyData.depthAll ds ≤ 1
  | [], _ => by simp [PyData.canLayAll0, PyData.depthAll]
  | d :: ds, h => by
    rw [List.all_cons, Bool.and_eq_true] at h
    obtain ⟨h1, h2⟩ := flat_lay h.2
    cases d with
    | none => simp [PyData.canLayAll0, PyData.depthAll, PyData.canLay0, PyData.depth, h1, h2]
    | bool b => simp [PyData.canLayAll0, PyData.depthAll, PyData.canLay0, PyData.depth, h1, h2]
    | int b => simp [PyData.canLayAll0, PyData.depthAll, PyData.canLay0, PyData.depth, h1, h2]
    | str b =>
      have hb : PyData.strOk b = true := h.1
      simp [PyData.canLayAll0, PyData.depthAll, PyData.canLay0, PyData.depth, h1, h2, hb]
    | _ => exact absurd h.1 (by simp [flatD])
theorem shaped_flat {ds : List PyData} (h : ds.all flatD = true) : SeqAt.shaped (.tuple ds) = true := by
  obtain ⟨h1, h2⟩ := flat_lay h
  unfold SeqAt.shaped
  simp [PyData.canLay0, PyData.depth, h1]
  omega
/-- all but p stands -/
def But (p : Addr) (H H' : Hp) : Prop := ∀ b o, H b = some o → b ≠ p → H' b = some o
theorem But.refl (p : Addr) (H : Hp) : But p H H := fun _ _ h _ => h
theorem But.trans {p : Addr} {H H1 H2 : Hp} (a : But p H H1) (b : But p H1 H2) : But p H H2 := fun c o h n => b c o (a c o h n) n
theorem But.upd {p : Addr} {H H' : Hp} {o : HO} (a : But p H H') : But p H (L2.upd H' p o) := fun c u h n => by rw [upd_ne n]; exact a c u h n
theorem But.new {p q : Addr} {H H' : Hp} {o : HO} (a : But p H H') (h : H' q = none) (hp : H q = none ∨ q ≠ p := by first | exact .inl ‹_› | exact .inr ‹_›) : But p H (L2.upd H' q o) := fun c u hc n => by
  rw [upd_ne]
  · exact a c u hc n
  · intro z
    subst z
    rw [a c u hc n] at h
    cases h
theorem But.at {p q : Addr} {H H' : Hp} {o : HO} (a : But p H H') (h : H q = none) : But p H (L2.upd H' q o) := fun c u hc n => by
  rw [upd_ne (ne_of_none hc h)]
  exact a c u hc n
theorem sameAt {q : Addr} {H H' : Hp} {o : HO} (a : Same H H') (h : H q = none) : Same H (L2.upd H' q o) := fun c u hc => by
  rw [upd_ne (ne_of_none hc h)]
  exact a c u hc
theorem But.same {p : Addr} {H H' : Hp} (a : Same H H') : But p H H' := fun c o h _ => a c o h
theorem Same.new {q : Addr} {H H' : Hp} {o : HO} (a : Same H H') (h : H' q = none) : Same H (upd H' q o) := fun c u hc => by
  rw [upd_ne (ne_of_none (a c u hc) h)]
  exact a c u hc
theorem But.seq {K : PySem.W.Frag} {p a : Addr} {H H' : Hp} {xs : List V} (e : But p H H') (hn : ∀ o, H p = some o → ∀ ys, o ≠ .lst ys → True) (h : H a = some (.lst xs)) (n : a ≠ p) : SqL K H' a xs := .of (e _ _ h n)
end Ash

set_option Elab.async false
set_option linter.all false
set_option maxRecDepth 100000
set_option maxHeartbeats 4000000
namespace Ash
open PySem PySem.Spec PyProof.Rows L2
open C8 (pss_cut)
/-- the pool of drawn numbers at p, the script's copy at s -/
def PoolAt (H : Hp) (p s : Addr) : Prop := ∃ (ns : List Int) (i c k n : Int), H p = some (.lst [.ref s, .int i, .int c, .int k, .int n]) ∧ H s = some (.lst (ns.map V.int)) ∧ 0 ≤ i ∧ s ≠ p
theorem PoolAt.same {H H' : Hp} {p s : Addr} (h : PoolAt H p s) (e : Same H H') : PoolAt H' p s := by
  obtain ⟨ns, i, c, k, n, h1, h2, h3, h4⟩ := h
  exact ⟨ns, i, c, k, n, e _ _ h1, e _ _ h2, h3, h4⟩
theorem PoolAt.off {H : Hp} {p s q : Addr} {o : HO} (h : PoolAt H p s) (hp : q ≠ p) (hs : q ≠ s) : PoolAt (L2.upd H q o) p s := by
  obtain ⟨ns, i, c, k, n, h1, h2, h3, h4⟩ := h
  exact ⟨ns, i, c, k, n, by rw [upd_ne hp.symm]; exact h1, by rw [upd_ne hs.symm]; exact h2, h3, h4⟩
/-- from H0 to H nothing that was tracked has changed but the pool -/
structure Pl (H0 H : Hp) (p s : Addr) : Prop where
  now : PoolAt H p s
  op : H0 p ≠ none
  os : H0 s ≠ none
  but : But p H0 H
section
variable {H0 H H1 : Hp} {p s q : Addr} {o : HO}
theorem PoolAt.ne (h : PoolAt H p s) : H p ≠ none ∧ H s ≠ none := by
  obtain ⟨ns, i, c, k, n, h1, h2, h3, h4⟩ := h
  rw [h1, h2]
  exact ⟨Option.some_ne_none _, Option.some_ne_none _⟩
theorem Pl.refl (h : PoolAt H p s) : Pl H H p s := ⟨h, h.ne.1, h.ne.2, But.refl p H⟩
theorem Pl.at (h : Pl H0 H p s) (hq : H0 q = none) : Pl H0 (L2.upd H q o) p s :=
  ⟨h.now.off (fun z => h.op (z ▸ hq)) (fun z => h.os (z ▸ hq)), h.op, h.os, h.but.at hq⟩
theorem Pl.keep (h : Pl H0 H p s) {b : Addr} {u : HO} (e : H0 b = some u) (n : b ≠ p) : H b = some u := h.but b u e n
theorem Pl.free (h : Pl H0 H p s) (hq : H q = none) : H0 q = none := by
  cases e : H0 q with
  | none => rfl
  | some u =>
    by_cases hp : q = p
    · exact absurd (hp ▸ hq) h.now.ne.1
    · rw [h.but q u e hp] at hq
      cases hq
theorem Pl.trans (a : Pl H0 H p s) (b : Pl H H1 p s) : Pl H0 H1 p s := ⟨b.now, a.op, a.os, a.but.trans b.but⟩
/-- a new thing -/
theorem Pl.new (h : Pl H0 H p s) (hq : H q = none) : Pl H0 (L2.upd H q o) p s := h.at (h.free hq)
theorem Pl.same (h : Pl H0 H p s) (e : Same H H1) : Pl H0 H1 p s := ⟨h.now.same e, h.op, h.os, fun b u hb n => e b u (h.but b u hb n)⟩
end
def spPool (K : PySem.W.Frag) : Sp := fun vs H Q _ => ∃ (a : Addr) (ns : List Int), vs = [.ref a] ∧ SqL K H a (ns.map V.int) ∧ ∀ p s H', H p = none → PoolAt H' p s → Same H H' → Q (.ref p) H'
def spDraw : Sp := fun vs H Q _ => ∃ (p s : Addr) (many : Int), vs = [.ref p, .int many] ∧ PoolAt H p s ∧ 0 < many ∧ many < 2 ^ 200 ∧ ∀ (d : Int) H', 0 ≤ d → d < many → Pl H H' p s → Q (.int d) H'
section
variable {P : Program} {w : World} {K : PySem.W.Frag} {mg : Str → Option Value} {base : Heap}
abbrev s_l_pool : Stmt := topS 32
theorem sc_l_pool : FnScope ["_law_script"] ["_law_script"] (defScope s_l_pool) := ⟨rfl, rfl, rfl, by decide +kernel, rfl, by decide +kernel, by decide +kernel⟩
theorem ok_pool {f : Addr} {fd : FuncData} (F : Fun K "_law_pool" "_law_pool" s_l_pool f fd) (B : Blt mg) : FnOk P w K mg base CX0 1 f fd ["_law_script"] (spPool K) := by
  refine F.ok sc_l_pool (fun vs H Q E h => ?_) (fun cdv A outer s H vs Q E hr h => ?_)
  · obtain ⟨a, ns, rfl, _⟩ := h
    rfl
  · obtain ⟨a, ns, rfl, hS, k⟩ := h
    refine ⟨_, (pss_one (ps_ret (pe_lst (pa_cons (pe_callTy call_list_of (by rfl) B.list (by decide +kernel) (pa_cons (pv 0) pa_nil)) (pa_cons pe_int (pa_cons pe_int (pa_cons pe_int (pa_cons pe_int pa_nil)))))))), ?_⟩
    refine ⟨_, rfl, _, _, rfl, .inl hS, fun l hl => ⟨(by show 5 ≤ sizeLine; decide), fun p hp => ?_⟩⟩
    have hpl : l ≠ p := fun z => by rw [z, upd_same] at hp; cases hp
    have hp0 : H p = none := by rw [upd_ne (Ne.symm hpl)] at hp; exact hp
    refine k p l _ hp0 ⟨ns, _, _, _, _, upd_same, (by rw [upd_ne hpl, upd_same]), (by decide), hpl⟩ ?_
    exact Same.new (Same.new (Same.refl H) hl) hp
abbrev s_l_draw : Stmt := topS 33
theorem sc_l_draw : FnScope ["_law_pool_here", "_law_many", "_law_cell", "_law_digit", "_law_number"] ["_law_pool_here", "_law_many"] (defScope s_l_draw) := ⟨rfl, rfl, rfl, by decide +kernel, rfl, by decide +kernel, by decide +kernel⟩
theorem ok_draw {f : Addr} {fd : FuncData} (F : Fun K "_law_draw" "_law_draw" s_l_draw f fd) (B : Blt mg) : FnOk P w K mg base CX0 1 f fd ["_law_pool_here", "_law_many"] spDraw := by
  refine F.ok sc_l_draw (fun vs H Q E h => ?_) (fun cdv A outer s H vs Q E hr h => ?_)
  · obtain ⟨p, _, many, rfl, _⟩ := h
    rfl
  · obtain ⟨p, s, many, rfl, hPP, hm, hm2, kk⟩ := h
    obtain ⟨ns, i, c, k, n, hp, hs, hi, hsp⟩ := id hPP
    refine ⟨_, (pss_cons (ps_asg (pe_op op_add (pe_ix ix_list (pv 0) pe_int (fun _ _ => rfl)) pe_int) (pg_sub (pv 0) pe_int set_list))
    (pss_cut (ps_if (PW.pt (pw_and (pt_cmpR op_eq (pe_ix ix_list (pv 0) pe_int (fun _ _ => rfl)) pe_int (nomark _)) (pw_and1 (pt_cmpR op_lt (pe_ix ix_list (pv 0) pe_int (fun _ _ => rfl)) (pe_callB call_len_seq (by rfl) B.len (by decide +kernel) (pa_cons (pe_ix ix_list (pv 0) pe_int (fun _ _ => rfl)) pa_nil)) (nomark _)))))
      (pss_cons (ps_set (i := 2) sc_l_draw.nd rfl (Or.inl rfl) (pe_callTy call_intI (by rfl) B.int (by decide +kernel) (pa_cons (pe_ix ix_list (pe_ix ix_list (pv 0) pe_int (fun _ _ => rfl)) (pe_ix ix_list (pv 0) pe_int (fun _ _ => rfl)) (fun _ _ => rfl)) pa_nil)))
      (pss_cons (ps_asg (pe_op op_add (pe_ix ix_list (pv 0) pe_int (fun _ _ => rfl)) pe_int) (pg_sub (pv 0) pe_int set_list))
      (pss_one (ps_if (pt_cmpR op_ge (pv 2) (pe_op op_pow pe_int pe_int) (nomark _))
        (pss_one (ps_asg (pv 2) (pg_sub (pv 0) pe_int set_list)))
        (pss_one (ps_asg (pe_op op_mod (pe_callTy call_intI (by rfl) B.int (by decide +kernel) (pa_cons (pe_op op_add (pe_op op_add (pe_op op_mul (pe_ix ix_list (pv 0) pe_int (fun _ _ => rfl)) pe_int) (pe_op op_mul (pv 2) pe_int)) pe_int) pa_nil)) pe_int) (pg_sub (pv 0) pe_int set_list)))))))
      pss_nil)
    (pss_cons (ps_if (pt_cmpR op_gt (pe_ix ix_list (pv 0) pe_int (fun _ _ => rfl)) pe_int (nomark _))
      (pss_cons (ps_set (i := 3) sc_l_draw.nd rfl (Or.inl rfl) (pe_op op_mod (pe_callTy call_intI (by rfl) B.int (by decide +kernel) (pa_cons (pe_ix ix_list (pv 0) pe_int (fun _ _ => rfl)) pa_nil)) (pv 1)))
      (pss_cons (ps_asg (pe_op op_fdivW (pe_callTy call_intI (by rfl) B.int (by decide +kernel) (pa_cons (pe_ix ix_list (pv 0) pe_int (fun _ _ => rfl)) pa_nil)) (pv 1)) (pg_sub (pv 0) pe_int set_list))
      (pss_one (ps_ret (pv 3)))))
      pss_nil)
    (pss_cons (ps_set (i := 4) sc_l_draw.nd rfl (Or.inl rfl) (pe_op op_mod (pe_callTy call_intI (by rfl) B.int (by decide +kernel) (pa_cons (pe_op op_add (pe_op op_add (pe_ix ix_list (pv 0) pe_int (fun _ _ => rfl)) (pe_op op_mul (pe_ix ix_list (pv 0) pe_int (fun _ _ => rfl)) pe_int)) pe_int) pa_nil)) pe_int))
    (pss_cons (ps_set (i := 4) sc_l_draw.nd rfl (Or.inl rfl) (pe_op op_mod (pe_callTy call_intI (by rfl) B.int (by decide +kernel) (pa_cons (pe_op op_mul (pv 4) (pe_op op_add (pe_op op_fdiv (pv 4) pe_int) pe_int)) pa_nil)) pe_int))
    (pss_cons (ps_set (i := 4) sc_l_draw.nd rfl (Or.inl rfl) (pe_op op_mod (pe_callTy call_intI (by rfl) B.int (by decide +kernel) (pa_cons (pe_op op_mul (pv 4) (pe_op op_add (pe_op op_fdiv (pv 4) pe_int) pe_int)) pa_nil)) pe_int))
    (pss_cons (ps_asg (pv 4) (pg_sub (pv 0) pe_int set_list))
    (pss_one (ps_ret (pe_op op_mod (pe_callTy call_intI (by rfl) B.int (by decide +kernel) (pa_cons (pe_op op_fdiv (pv 4) pe_int) pa_nil)) (pv 1))))))))))), ?_⟩
    -- pool[3] = pool[3] + 1
    refine ⟨_, rfl, _, _, _, _, rfl, rfl, SqL.of hp, rfl, _, _, rfl, rfl, _, rfl, _, _, _, _, rfl, rfl, hp, rfl, ?_⟩
    -- the first if
    refine ⟨fun σ H1 => (∃ cell, σ = [some (.ref p), some (.int many), cell, none, none]) ∧ ∃ (i c k n : Int), H1 p = some (.lst [.ref s, .int i, .int c, .int k, .int n]) ∧ H1 s = some (.lst (ns.map V.int)) ∧ 0 ≤ i ∧ But p H H1, ?_, ?_⟩
    · generalize eH : upd H p (.lst _) = H1
      have hp1 : H1 p = some (.lst [.ref s, .int i, .int c, .int (k + 1), .int n]) := by rw [← eH]; exact upd_same
      have hs1 : H1 s = some (.lst (ns.map V.int)) := by rw [← eH, upd_ne hsp]; exact hs
      have hb1 : But p H H1 := by rw [← eH]; exact (But.refl p H).upd
      clear eH
      refine ⟨_, rfl, _, _, _, _, rfl, rfl, SqL.of hp1, rfl, rfl, _, rfl, ?_⟩
      refine ite2 (fun c2 => ?_) (fun c2 => ?_)
      · refine ⟨_, rfl, _, _, _, _, rfl, rfl, SqL.of hp1, rfl, _, rfl, _, _, _, _, rfl, rfl, SqL.of hp1, rfl, _, _, rfl, .inl (SqL.of hs1), _, _, rfl, rfl, _, rfl, ?_⟩
        refine ite2 (fun c3 => ?_) (fun c3 => ?_)
        · have c3' : i < (ns.map V.int).length := of_decide_eq_true c3
          obtain ⟨j, rfl⟩ : ∃ j : Nat, i = (j : Int) := ⟨i.toNat, by omega⟩
          have hj : j < ns.length := by rw [List.length_map] at c3'; omega
          -- cell = int(pool[0][pool[1]])
          refine ⟨_, rfl, _, _, _, _, rfl, rfl, SqL.of hp1, rfl, _, rfl, _, _, _, _, rfl, rfl, SqL.of hp1, rfl, _, _, _, V.int ns[j], rfl, rfl, SqL.of hs1, atI_nat (by rw [List.getElem?_map, List.getElem?_eq_getElem hj]; rfl), _, rfl, ?_⟩
          refine ⟨_, rfl, _, _, _, _, rfl, rfl, SqL.of hp1, rfl, _, _, rfl, rfl, _, rfl, _, _, _, _, rfl, rfl, hp1, rfl, ?_⟩
          refine ⟨_, rfl, _, _, rfl, rfl, ⟨by decide, by decide, by decide⟩, _, _, rfl, rfl, _, rfl, ?_⟩
          refine ite2 (fun c4 => ?_) (fun c4 => ?_)
          · refine ⟨_, rfl, _, rfl, _, _, _, _, rfl, rfl, upd_same, rfl, ⟨_, rfl⟩, _, _, _, _, upd_same, (by rw [upd_ne hsp, upd_ne hsp]; exact hs1), (by omega), hb1.upd.upd⟩
          · refine ⟨_, rfl, _, _, _, _, rfl, rfl, SqL.of upd_same, rfl, _, _, rfl, rfl, .inr ⟨by decide, by decide⟩, _, rfl, _, _, rfl, rfl, .inr ⟨by decide, by decide⟩, _, _, rfl, rfl, _, _, rfl, rfl, _, rfl, _, _, rfl, rfl, (by show (0 : Int) < 2147483647; decide), _, rfl, _, _, _, _, rfl, rfl, upd_same, rfl, ⟨_, rfl⟩, _, _, _, _, upd_same, (by rw [upd_ne hsp, upd_ne hsp]; exact hs1), (by omega), hb1.upd.upd⟩
        · exact ⟨⟨_, rfl⟩, _, _, _, _, hp1, hs1, hi, hb1⟩
      · exact ⟨⟨_, rfl⟩, _, _, _, _, hp1, hs1, hi, hb1⟩
    · rintro σ' H1 ⟨⟨cell, rfl⟩, i, c, k, n, hp1, hs1, hi, hb1⟩
      refine ⟨_, rfl, _, _, _, _, rfl, rfl, SqL.of hp1, rfl, _, _, rfl, rfl, _, rfl, ?_⟩
      refine ite2 (fun c2 => ?_) (fun c2 => ?_)
      · refine ⟨_, rfl, _, _, _, _, rfl, rfl, SqL.of hp1, rfl, _, rfl, _, rfl, _, _, rfl, rfl, hm, _, rfl, _, _, _, _, rfl, rfl, SqL.of hp1, rfl, _, rfl, _, rfl, _, _, rfl, rfl, wide_div (b := 200) hm (by omega) (by decide) (by decide), _, rfl, _, _, _, _, rfl, rfl, hp1, rfl, _, rfl, ?_⟩
        refine kk _ _ (Int.emod_nonneg _ (by omega)) (Int.emod_lt_of_pos _ hm) ⟨⟨ns, _, _, _, _, upd_same, (by rw [upd_ne hsp]; exact hs1), hi, hsp⟩, hPP.ne.1, hPP.ne.2, hb1.upd⟩
      · refine ⟨_, rfl, _, _, _, _, rfl, rfl, SqL.of hp1, rfl, _, rfl, _, _, _, _, rfl, rfl, SqL.of hp1, rfl, _, _, rfl, rfl, .inr ⟨by decide, by decide⟩, _, _, rfl, rfl, _, _, rfl, rfl, _, rfl, _, _, rfl, rfl, (by show (0 : Int) < 2147483647; decide), ?_⟩
        generalize ea : (n + k * 104729 + 1) % 2147483647 = a
        have a0 : 0 ≤ a := by rw [← ea]; exact Int.emod_nonneg _ (by decide)
        have a1 : a < 2147483647 := by rw [← ea]; exact Int.emod_lt_of_pos _ (by decide)
        refine ⟨_, rfl, _, rfl, _, _, rfl, rfl, ⟨by decide, by decide⟩, _, _, rfl, rfl, _, _, rfl, rfl, .inl ⟨by omega, by omega⟩, _, rfl, _, _, rfl, rfl, (by show (0 : Int) < 2147483647; decide), ?_⟩
        generalize eb : a * (a / 1009 + 69621) % 2147483647 = b
        have b0 : 0 ≤ b := by rw [← eb]; exact Int.emod_nonneg _ (by decide)
        have b1 : b < 2147483647 := by rw [← eb]; exact Int.emod_lt_of_pos _ (by decide)
        refine ⟨_, rfl, _, rfl, _, _, rfl, rfl, ⟨by decide, by decide⟩, _, _, rfl, rfl, _, _, rfl, rfl, .inl ⟨by omega, by omega⟩, _, rfl, _, _, rfl, rfl, (by show (0 : Int) < 2147483399; decide), ?_⟩
        refine ⟨_, rfl, _, rfl, _, _, _, _, rfl, rfl, hp1, rfl, _, rfl, _, _, rfl, rfl, ⟨by decide, by decide⟩, _, rfl, _, rfl, _, _, rfl, rfl, hm, ?_⟩
        refine kk _ _ (Int.emod_nonneg _ (by omega)) (Int.emod_lt_of_pos _ hm) ⟨⟨ns, _, _, _, _, upd_same, (by rw [upd_ne hsp]; exact hs1), hi, hsp⟩, hPP.ne.1, hPP.ne.2, hb1.upd⟩
end
end Ash

set_option Elab.async false
set_option linter.all false
set_option maxRecDepth 100000
set_option maxHeartbeats 4000000
namespace Ash
open PySem PySem.Spec PyProof.Rows L2
open C8 (pss_cut)
/-! ### names -/
def LET : List Nat := [97, 98, 99, 100, 101, 102, 103, 104, 105, 106, 107, 108, 109, 110, 111, 112, 113, 114, 115, 116, 117, 118, 119, 120, 121, 122]
abbrev abc : Str := "abcdefghijklmnopqrstuvwxyz"
theorem abc_let : abc.cps.toList = LET := by decide +kernel
theorem abc_size : abc.cps.size = 26 := by decide +kernel
/-- a name: 1 to 8 letters -/
def IsNm (z : Str) : Prop := 1 ≤ z.length ∧ z.length ≤ 8 ∧ ∀ c ∈ z.cps.toList, c ∈ LET
theorem let_small : ∀ c ∈ LET, c < 0x110000 := by decide
theorem nm_ok {z : Str} (h : IsNm z) : PyData.strOk z = true := by
  unfold PyData.strOk
  rw [← Array.all_toList, List.all_eq_true]
  exact fun c hc => decide_eq_true (let_small c (h.2.2 c hc))
theorem append_length (a b : Str) : (a ++ b).length = a.length + b.length := by
  show (a.cps ++ b.cps).size = a.cps.size + b.cps.size
  rw [Array.size_append]
theorem append_list (a b : Str) : (a ++ b).cps.toList = a.cps.toList ++ b.cps.toList := by
  show (a.cps ++ b.cps).toList = _
  rw [Array.toList_append]
theorem one_nm {c : Nat} (h : c ∈ LET) : IsNm ⟨#[c]⟩ := ⟨Nat.le_refl 1, (by show 1 ≤ 8; decide), fun d hd => by
  have e : d = c := by simpa using hd
  rw [e]
  exact h⟩
theorem inV_str {z : Str} : ∀ {l : List Str}, inV (.str z) (l.map V.str) = decide (z ∈ l)
  | [] => by simp [inV]
  | a :: l => by
    have ih := inV_str (z := z) (l := l)
    unfold inV at ih ⊢
    rw [List.map_cons, List.any_cons, ih]
    show ((a == z) || decide (z ∈ l)) = decide (z ∈ a :: l)
    by_cases h : a = z
    · subst h
      simp
    · have h' : ¬ z = a := fun q => h q.symm
      by_cases h2 : z ∈ l <;> simp [h, h', h2]
theorem flat_strs (l : List Str) : (l.map V.str).all flatV = true := by
  induction l with
  | nil => rfl
  | cons a l ih =>
    rw [List.map_cons, List.all_cons, ih]
    rfl
theorem sub_len {α : Type} [DecidableEq α] : ∀ {l m : List α}, l.Nodup → (∀ x ∈ l, x ∈ m) → l.length ≤ m.length
  | [], m, _, _ => Nat.zero_le _
  | a :: l, m, hn, h => by
    obtain ⟨h1, h2⟩ := List.nodup_cons.mp hn
    have ha : a ∈ m := h a List.mem_cons_self
    have ih := sub_len (l := l) (m := m.erase a) h2 fun x hx => (List.mem_erase_of_ne (fun z => h1 (by rw [← z]; exact hx))).mpr (h x (List.mem_cons_of_mem _ hx))
    rw [List.length_erase_of_mem ha] at ih
    have : 0 < m.length := List.length_pos_of_mem ha
    rw [List.length_cons]
    omega
theorem atI_natC {α : Type} {xs : List α} {j : Nat} (h : j < xs.length) : atI xs (j : Int) = some xs[j] := by
  unfold atI ixN
  rw [if_pos (by omega), if_pos (by omega), Option.bind_some, Int.toNat_natCast]
  exact List.getElem?_eq_getElem h
theorem let_strs : (LET.map fun c => (⟨#[c]⟩ : Str)).Nodup := by decide +kernel
theorem not_all {l : List Str} (hl : l.length ≤ 25) (h : ∀ c ∈ LET, (⟨#[c]⟩ : Str) ∈ l) : False := by
  have := sub_len let_strs (m := l) fun x hx => by
    obtain ⟨c, hc, rfl⟩ := List.mem_map.mp hx
    exact h c hc
  have e : (LET.map fun c => (⟨#[c]⟩ : Str)).length = 26 := by decide +kernel
  omega
def spNames : Sp := fun vs H Q _ => ∃ (p s : Addr) (many : Int), vs = [.ref p, .int many] ∧ PoolAt H p s ∧ 0 ≤ many ∧ many ≤ 25 ∧
  ∀ (q : Addr) (l : List Str) H', H q = none → H' q = some (.lst (l.map V.str)) → l.length = many.toNat → l.Nodup → (∀ z ∈ l, IsNm z) → Pl H H' p s → Q (.ref q) H'
section
variable {P : Program} {w : World} {K : PySem.W.Frag} {mg : Str → Option Value} {base : Heap}
abbrev CDraw (P : Program) (w : World) (K : PySem.W.Frag) (mg : Str → Option Value) (base : Heap) : Prop := Cal P w K mg base CX0 "_law_draw" 1 ["_law_pool_here", "_law_many"] spDraw
structure G1 (P : Program) (w : World) (K : PySem.W.Frag) (mg : Str → Option Value) (base : Heap) : Prop where
  law_draw : CDraw P w K mg base
abbrev s_l_names : Stmt := topS 34
theorem sc_l_names : FnScope ["_law_pool_here", "_law_many", "_law_letters", "_law_names_here", "_law_k", "_law_length", "_law_name", "_law_at", "_law_letter"] ["_law_pool_here", "_law_many"] (defScope s_l_names) := ⟨rfl, rfl, rfl, by decide +kernel, rfl, by decide +kernel, by decide +kernel⟩
theorem ok_names {f : Addr} {fd : FuncData} (F : Fun K "_law_names" "_law_names" s_l_names f fd) (B : Blt mg) (G : G1 P w K mg base) : FnOk P w K mg base CX0 2 f fd ["_law_pool_here", "_law_many"] spNames := by
  refine F.ok sc_l_names (fun vs H Q E h => ?_) (fun cdv A outer s H vs Q E hr h => ?_)
  · obtain ⟨p, _, many, rfl, _⟩ := h
    rfl
  · obtain ⟨p, s0, many, rfl, hP, hm, hm2, kk⟩ := h
    refine ⟨_, (pss_cons (ps_set (i := 2) sc_l_names.nd rfl (Or.inl rfl) pe_str)
    (pss_cons (ps_set (i := 3) sc_l_names.nd rfl (Or.inl rfl) (pe_lst pa_nil))
    (pss_cons (ps_for PassesOwn.never rfl (pi_range1 (by rfl) B.range (pa_cons (pv 1) pa_nil)) (pg_name (i := 4) sc_l_names.nd rfl (Or.inl rfl))
      (pss_cons (ps_set (i := 5) sc_l_names.nd rfl (Or.inl rfl) pe_int)
      (pss_cut (ps_if (pt_cmpR op_eq (pe_cal G.law_draw (hr.mono (by decide)) pass0 (pa_cons (pv 0) (pa_cons pe_int pa_nil))) pe_int (nomark _))
        (pss_one (ps_set (i := 5) sc_l_names.nd rfl (Or.inl rfl) (pe_op op_add pe_int (pe_cal G.law_draw (hr.mono (by decide)) pass0 (pa_cons (pv 0) (pa_cons pe_int pa_nil))))))
        pss_nil)
      (pss_cons (ps_set (i := 6) sc_l_names.nd rfl (Or.inl rfl) pe_str)
      (pss_cut (ps_for PassesOwn.never rfl (pi_range1 (by rfl) B.range (pa_cons (pv 5) pa_nil)) (pg_name (i := 7) sc_l_names.nd rfl (Or.inl rfl))
        (pss_one (ps_set (i := 6) sc_l_names.nd rfl (Or.inl rfl) (pe_op op_add_str (pv 6) (pe_ix ix_str (pv 2) (pe_cal G.law_draw (hr.mono (by decide)) pass0 (pa_cons (pv 0) (pa_cons pe_int pa_nil))) (fun _ _ => rfl))))))
      (pss_cut (ps_for PassesOwn.never rfl (pi_str (pv 2)) (pg_name (i := 8) sc_l_names.nd rfl (Or.inl rfl))
        (pss_one (ps_if (PW.pt (pw_and (pt_cmpR op_in_seq (pv 6) (pv 3) rfl) (pw_and1 (pt_cmpR op_notIn_seq (pv 8) (pv 3) rfl))))
          (pss_one (ps_set (i := 6) sc_l_names.nd rfl (Or.inl rfl) (pv 8)))
          pss_nil)))
      (pss_one (ps_expr (pe_bm PySem.F.plainAttrs_list PySem.F.slot_list_append PySem.F.type_list_append mt_append (pv 3) (pa_cons (pv 6) pa_nil))))))))))
    (pss_one (ps_ret (pv 3)))))), ?_⟩
    refine ⟨(by show 0 ≤ sizeLine; decide), fun q hq => ?_⟩
    have hr1 : Room 1 _ := hr.mono (by decide)
    refine ⟨_, rfl, _, rfl, (by omega), (by omega), for_range (n := many.toNat) (fun i σ H1 => (∃ a b c d e, σ = [some (.ref p), some (.int many), some (.str abc), some (.ref q), a, b, c, d, e]) ∧ ∃ l : List Str, H1 q = some (.lst (l.map V.str)) ∧ l.length = i ∧ l.Nodup ∧ (∀ z ∈ l, IsNm z) ∧ Pl H H1 p s0) ?_ ?_ ?_⟩
    · exact ⟨⟨_, _, _, _, _, rfl⟩, [], upd_same, rfl, List.nodup_nil, (fun z hz => nomatch hz), (Pl.refl hP).at hq⟩
    · rintro i σ H1 hi ⟨⟨a, b, c, d, e, rfl⟩, l, hl, hlen, hnd, hnm, PL⟩
      have hqp : q ≠ p := fun z => hP.ne.1 (z ▸ hq)
      -- length
      refine ⟨fun σ H2 => (∃ k len c d e, σ = [some (.ref p), some (.int many), some (.str abc), some (.ref q), k, some (.int len), c, d, e] ∧ 1 ≤ len ∧ len ≤ 8) ∧ Pl H1 H2 p s0, ?_, ?_⟩
      · refine ⟨_, rfl, p, s0, 3, rfl, PL.now, (by decide), (by decide), fun x H2 h0 h3 P2 => ⟨rfl, _, rfl, ?_⟩⟩
        refine ite2 (fun c2 => ?_) (fun c2 => ?_)
        · refine ⟨_, rfl, p, s0, 8, rfl, P2.now, (by decide), (by decide), fun y H3 y0 y8 P3 => ?_⟩
          exact ⟨_, _, rfl, rfl, ⟨_, _, _, _, _, rfl, by omega, by omega⟩, P2.trans P3⟩
        · exact ⟨⟨_, _, _, _, _, rfl, by omega, by omega⟩, P2⟩
      rintro σ H2 ⟨⟨k, len, c, d, e, rfl, hlo, hhi⟩, P2⟩
      -- name
      refine ⟨fun σ H3 => (∃ k len nm d e, σ = [some (.ref p), some (.int many), some (.str abc), some (.ref q), k, len, some (.str nm), d, e] ∧ IsNm nm) ∧ Pl H1 H3 p s0, ?_, ?_⟩
      · refine ⟨_, rfl, _, rfl, (by omega), (by omega), for_range (n := len.toNat) (fun j σ H3 => (∃ d nm, σ = [some (.ref p), some (.int many), some (.str abc), some (.ref q), k, some (.int len), some (.str nm), d, e] ∧ nm.length = j ∧ ∀ c ∈ nm.cps.toList, c ∈ LET) ∧ Pl H1 H3 p s0) ?_ ?_ ?_⟩
        · exact ⟨⟨_, _, rfl, rfl, fun c hc => by cases hc⟩, P2⟩
        · rintro j σ H3 hj ⟨⟨d, nm, rfl, hnl, hnc⟩, P3⟩
          refine ⟨_, rfl, _, rfl, _, rfl, p, s0, 26, rfl, P3.now, (by decide), (by decide), fun x H4 x0 x26 P4 => ?_⟩
          obtain ⟨g, rfl⟩ : ∃ g : Nat, x = (g : Int) := ⟨x.toNat, by omega⟩
          have hg : g < LET.length := by show g < 26; omega
          refine ⟨_, _, LET[g], rfl, rfl, (by show abc.cps.size ≤ sizeLine; rw [abc_size]; decide), (by rw [abc_let]; exact atI_natC hg), _, _, rfl, rfl, ?_, ?_⟩
          · show nm.length + 1 ≤ sizeLine
            rw [sizeLine_eq]
            omega
          · refine ⟨⟨_, _, rfl, ?_, ?_⟩, P3.trans P4⟩
            · rw [append_length, hnl]
              rfl
            · intro c hc
              rw [append_list] at hc
              rcases List.mem_append.mp hc with hc | hc
              · exact hnc c hc
              · have e : c = LET[g] := by simpa using hc
                rw [e]
                exact List.getElem_mem hg
        · rintro σ H3 ⟨⟨d, nm, rfl, hnl, hnc⟩, P3⟩
          exact ⟨⟨_, _, _, _, _, rfl, by omega, by omega, hnc⟩, P3⟩
      rintro σ H3 ⟨⟨k, len, nm, d, e, rfl, hN⟩, P3⟩
      -- another name
      have hq3 : H3 q = some (.lst (l.map V.str)) := P3.keep hl hqp
      refine ⟨fun σ H4 => (∃ k len nm d e, σ = [some (.ref p), some (.int many), some (.str abc), some (.ref q), k, len, some (.str nm), d, e] ∧ IsNm nm ∧ nm ∉ l) ∧ H4 = H3, ?_, ?_⟩
      · refine ⟨_, rfl, _, rfl, for_it (walk_str (z := abc)) (fun j σ H4 => (∃ nm e, σ = [some (.ref p), some (.int many), some (.str abc), some (.ref q), k, len, some (.str nm), d, e] ∧ IsNm nm ∧ (nm ∈ l → ∀ (i : Nat) (x : Nat), i < j → LET[i]? = some x → (⟨#[x]⟩ : Str) ∈ l)) ∧ H4 = H3) ?_ (fun _ _ _ _ _ => trivial) ?_ ?_⟩
        · exact ⟨⟨_, _, rfl, hN, fun _ i x hi => by omega⟩, rfl⟩
        · rintro j x σ H4 H5 hj ⟨⟨nm, e, rfl, hN, hall⟩, rfl⟩ ⟨rfl, c, hc, rfl⟩
          have hc' : LET[j]? = some c := by
            rw [← abc_let, Array.getElem?_toList]
            exact hc
          have hcm : c ∈ LET := List.mem_of_getElem? hc'
          refine ⟨_, rfl, _, rfl, _, _, rfl, .inl (SqL.of hq3), rfl, flat_strs l, _, rfl, ?_⟩
          rw [if_neg (by decide), inV_str]
          refine ite2 (fun c2 => ?_) (fun c2 => ?_)
          · have c2 : nm ∈ l := of_decide_eq_true c2
            refine ⟨_, rfl, _, rfl, _, _, rfl, .inl (SqL.of hq3), rfl, flat_strs l, _, rfl, ?_⟩
            rw [if_pos rfl, inV_str]
            refine ite2 (fun c3 => ?_) (fun c3 => ?_)
            · have c3 : ¬ (⟨#[c]⟩ : Str) ∈ l := by simpa using c3
              exact ⟨_, rfl, ⟨_, _, rfl, one_nm hcm, fun z => absurd z c3⟩, rfl⟩
            · have c3 : (⟨#[c]⟩ : Str) ∈ l := by simpa using c3
              refine ⟨⟨_, _, rfl, hN, fun _ i x hi hx => ?_⟩, rfl⟩
              by_cases hij : i < j
              · exact hall c2 i x hij hx
              · have : i = j := by omega
                subst this
                rw [hc'] at hx
                cases hx
                exact c3
          · have c2 : ¬ nm ∈ l := by simpa using c2
            exact ⟨⟨_, _, rfl, hN, fun z => absurd z c2⟩, rfl⟩
        · rintro σ H4 ⟨⟨nm, e, rfl, hN, hall⟩, rfl⟩
          refine ⟨⟨_, _, _, _, _, rfl, hN, fun z => ?_⟩, rfl⟩
          refine not_all (l := l) (by omega) fun c hc => ?_
          obtain ⟨i, hi, e2⟩ := List.getElem_of_mem hc
          exact hall z i c (by rw [abc_size]; exact hi) (by rw [List.getElem?_eq_getElem hi, e2])
      rintro σ H4 ⟨⟨k, len, nm, d, e, rfl, hN, hnl⟩, rfl⟩
      refine ⟨_, rfl, .inl ⟨rfl, _, SqL.of hq3⟩, _, rfl, q, _, _, rfl, rfl, hq3, (by rw [List.length_map]; exact small1000 (by omega)), ?_⟩
      refine ⟨⟨_, _, _, _, _, rfl⟩, l ++ [nm], ?_, ?_, nd_snoc hnd hnl, ?_, (PL.trans P3).at hq⟩
      · rw [upd_same, List.map_append]
        rfl
      · rw [List.length_append, hlen]
        rfl
      · intro z hz
        rcases List.mem_append.mp hz with hz | hz
        · exact hnm z hz
        · rw [List.mem_singleton.mp hz]
          exact hN
    · rintro σ H1 ⟨⟨a, b, c, d, e, rfl⟩, l, hl, hlen, hnd, hnm, PL⟩
      exact ⟨_, rfl, kk q l H1 hq hl hlen hnd hnm PL⟩
end
end Ash

set_option Elab.async false
set_option linter.all false
set_option maxRecDepth 100000
set_option maxHeartbeats 4000000
namespace Ash
open PySem PySem.Spec PyProof.Rows L2
open C8 (pss_cut)
/-- a book's lates as a dict's pairs -/
def LK (L : List (Str × Int)) : List (Key × V) := L.map fun x => (Sum.inr x.1, V.int x.2)
structure Lates (L : List (Str × Int)) : Prop where
  some_ : 1 ≤ L.length
  few : L.length ≤ 8
  nd : (L.map (·.1)).Nodup
  nm : ∀ x ∈ L, IsNm x.1
  lo : ∀ x ∈ L, 0 ≤ x.2
  hi : ∀ x ∈ L, x.2 ≤ 1000000
theorem LK_len (L : List (Str × Int)) : (LK L).length = L.length := List.length_map _
theorem LK_val : ∀ (L : List (Str × Int)) (z : Str), valV (LK L) (Sum.inr z : Key) = (L.lookup z).map V.int
  | [], z => rfl
  | a :: L, z => by
    have ih := LK_val L z
    by_cases h : a.1 = z
    · have h' : (z == a.1) = true := by simpa using h.symm
      show valV ((Sum.inr a.1, V.int a.2) :: LK L) (Sum.inr z : Key) = _
      rw [valV_pos (by rw [h])]
      obtain ⟨a1, a2⟩ := a
      simp only [List.lookup, h', Option.map_some]
    · have h' : (z == a.1) = false := by simpa using fun q => h q.symm
      show valV ((Sum.inr a.1, V.int a.2) :: LK L) (Sum.inr z : Key) = _
      rw [valV_neg (fun q => h (Sum.inr.inj q)), ih]
      obtain ⟨a1, a2⟩ := a
      simp only [List.lookup, h']
theorem lookup_none : ∀ {L : List (Str × Int)} {z : Str}, z ∉ L.map (·.1) → L.lookup z = none
  | [], _, _ => rfl
  | (a1, a2) :: L, z, h => by
    have h1 : ¬ z = a1 := fun q => h (by rw [q]; exact List.mem_cons_self)
    have h' : (z == a1) = false := by simpa using h1
    simp only [List.lookup, h']
    exact lookup_none fun q => h (List.mem_cons_of_mem _ q)
def spLates : Sp := fun vs H Q _ => ∃ (p s : Addr), vs = [.ref p] ∧ PoolAt H p s ∧
  ∀ (d : Addr) (L : List (Str × Int)) H', H d = none → H' d = some (.dK (LK L)) → Lates L → Pl H H' p s → Q (.ref d) H'
section
variable {P : Program} {w : World} {K : PySem.W.Frag} {mg : Str → Option Value} {base : Heap}
structure G2 (P : Program) (w : World) (K : PySem.W.Frag) (mg : Str → Option Value) (base : Heap) : Prop extends G1 P w K mg base where
  law_names : Cal P w K mg base CX0 "_law_names" 2 ["_law_pool_here", "_law_many"] spNames
abbrev s_l_lates : Stmt := topS 35
theorem sc_l_lates : FnScope ["_law_pool_here", "_law_many", "_law_lates_here", "_law_name", "_law_kind"] ["_law_pool_here"] (defScope s_l_lates) := ⟨rfl, rfl, rfl, by decide +kernel, rfl, by decide +kernel, by decide +kernel⟩
theorem ok_lates {f : Addr} {fd : FuncData} (F : Fun K "_law_lates" "_law_lates" s_l_lates f fd) (B : Blt mg) (G : G2 P w K mg base) : FnOk P w K mg base CX0 3 f fd ["_law_pool_here"] spLates := by
  refine F.ok sc_l_lates (fun vs H Q E h => ?_) (fun cdv A outer s H vs Q E hr h => ?_)
  · obtain ⟨p, _, rfl, _⟩ := h
    rfl
  · obtain ⟨p, s0, rfl, hP, kk⟩ := h
    have hu := hu_of hr
    refine ⟨_, (pss_cons (ps_set (i := 1) sc_l_lates.nd rfl (Or.inl rfl) (pe_op op_add pe_int (pe_cal G.law_draw (hr.mono (by decide)) pass0 (pa_cons (pv 0) (pa_cons pe_int pa_nil)))))
    (pss_cut (ps_if (pt_cmpR op_eq (pe_cal G.law_draw (hr.mono (by decide)) pass0 (pa_cons (pv 0) (pa_cons pe_int pa_nil))) pe_int (nomark _))
      (pss_one (ps_set (i := 1) sc_l_lates.nd rfl (Or.inl rfl) (pe_op op_add pe_int (pe_cal G.law_draw (hr.mono (by decide)) pass0 (pa_cons (pv 0) (pa_cons pe_int pa_nil))))))
      pss_nil)
    (pss_cons (ps_set (i := 2) sc_l_lates.nd rfl (Or.inl rfl) pe_dnewK)
    (pss_cons (ps_for PassesOwn.never rfl (pi_list (pe_cal G.law_names (hr.mono (by decide)) pass0 (pa_cons (pv 0) (pa_cons (pv 1) pa_nil)))) (pg_name (i := 3) sc_l_lates.nd rfl (Or.inl rfl))
      (pss_cons (ps_set (i := 4) sc_l_lates.nd rfl (Or.inl rfl) (pe_cal G.law_draw (hr.mono (by decide)) pass0 (pa_cons (pv 0) (pa_cons pe_int pa_nil))))
      (pss_one (ps_dput hu (pv 2) (pv 3) (pe_ix ix_list (pe_lst (pa_cons pe_int (pa_cons (pe_cal G.law_draw (hr.mono (by decide)) pass0 (pa_cons (pv 0) (pa_cons pe_int pa_nil))) (pa_cons (pe_cal G.law_draw (hr.mono (by decide)) pass0 (pa_cons (pv 0) (pa_cons pe_int pa_nil))) (pa_cons (pe_cal G.law_draw (hr.mono (by decide)) pass0 (pa_cons (pv 0) (pa_cons (pe_op op_add (pe_op op_pow pe_int pe_int) pe_int) pa_nil))) pa_nil))))) (pv 4) (fun _ _ => rfl)) rfl))))
    (pss_one (ps_ret (pv 2))))))), ?_⟩
    -- many
    refine ⟨_, rfl, p, s0, 3, rfl, hP, (by decide), (by decide), fun x H1 x0 x3 P1 => ⟨_, _, rfl, rfl, ?_⟩⟩
    refine ⟨fun σ H2 => (∃ many b c d, σ = [some (.ref p), some (.int many), b, c, d] ∧ 1 ≤ many ∧ many ≤ 8) ∧ Pl H H2 p s0, ?_, ?_⟩
    · refine ⟨_, rfl, p, s0, 12, rfl, P1.now, (by decide), (by decide), fun y H2 y0 y3 P2 => ⟨rfl, _, rfl, ?_⟩⟩
      refine ite2 (fun c2 => ?_) (fun c2 => ?_)
      · exact ⟨_, rfl, p, s0, 8, rfl, P2.now, (by decide), (by decide), fun z H3 z0 z3 P3 => ⟨_, _, rfl, rfl, ⟨_, _, _, _, rfl, by omega, by omega⟩, (P1.trans P2).trans P3⟩⟩
      · exact ⟨⟨_, _, _, _, rfl, by omega, by omega⟩, P1.trans P2⟩
    rintro σ H2 ⟨⟨many, b, c, e, rfl, m1, m8⟩, P2⟩
    intro d hd
    have hd0 := P2.free hd
    have P3 : Pl H (upd H2 d (.dK [])) p s0 := P2.at hd0
    refine ⟨_, rfl, _, rfl, p, s0, many, rfl, P3.now, (by omega), (by omega), fun q l H4 hq hl hlen hnd hnm P4 => ?_⟩
    have hdp : d ≠ p := fun z => by rw [z] at hd; exact P2.now.ne.1 hd
    have hd4 : H4 d = some (.dK []) := P4.keep upd_same hdp
    have hdq : q ≠ d := fun z => by rw [z, upd_same] at hq; cases hq
    have hqp : q ≠ p := fun z => by rw [z] at hq; exact P3.now.ne.1 hq
    have hq0 : H q = none := P3.free hq
    refine ⟨q, rfl, ⟨_, SqL.of hl⟩, for_list (K := K) (a := q) (xs := l.map V.str) (fun i σ H5 => (∃ a b, σ = [some (.ref p), some (.int many), some (.ref d), a, b]) ∧ H5 q = some (.lst (l.map V.str)) ∧ (∃ L : List (Str × Int), H5 d = some (.dK (LK L)) ∧ L.map (·.1) = l.take i ∧ ∀ x ∈ L, 0 ≤ x.2 ∧ x.2 ≤ 1000000) ∧ Pl H H5 p s0) ?_ (fun i σ H5 _ hv => SqL.of hv.2.1) ?_ ?_⟩
    · exact ⟨⟨_, _, rfl⟩, hl, ⟨[], hd4, rfl, fun x hx => nomatch hx⟩, P3.trans P4⟩
    · rintro i y σ H5 hi ⟨⟨a, b, rfl⟩, hq5, ⟨L, hd5, hL, hLb⟩, P5⟩
      obtain ⟨nm, hn, rfl⟩ : ∃ nm, l[i]? = some nm ∧ y = V.str nm := by
        rw [List.getElem?_map] at hi
        cases e : l[i]? with
        | none => rw [e] at hi; cases hi
        | some z => rw [e] at hi; exact ⟨z, rfl, (Option.some.inj hi).symm⟩
      have hil : i < l.length := (List.getElem?_eq_some_iff.mp hn).1
      have hnL : nm ∉ L.map (·.1) := by
        rw [hL]
        intro hm
        obtain ⟨j, hj, e⟩ := List.getElem_of_mem hm
        rw [List.length_take] at hj
        rw [List.getElem_take] at e
        have := nd_ix hnd (List.getElem?_eq_some_iff.mpr ⟨by omega, e⟩) hn
        omega
      have hLl : L.length = i := by
        have := congrArg List.length hL
        rw [List.length_map, List.length_take] at this
        omega
      refine ⟨_, rfl, p, s0, 4, rfl, P5.now, (by decide), (by decide), fun kind H6 k0 k4 P6 => ?_⟩
      refine ⟨_, rfl, p, s0, 4, rfl, P6.now, (by decide), (by decide), fun v1 H7 a0 a1 P7 => ?_⟩
      refine ⟨_, rfl, p, s0, 8, rfl, P7.now, (by decide), (by decide), fun v2 H8 b0 b1 P8 => ?_⟩
      refine ⟨_, rfl, _, _, rfl, rfl, ⟨by decide, by decide, by decide⟩, _, _, rfl, rfl, p, s0, _, rfl, P8.now, (by decide), (by decide), fun v3 H9 c0 c1 P9 => ⟨(by show 4 ≤ sizeLine; decide), fun u hu9 => ?_⟩⟩
      have c1 : v3 < 1000001 := c1
      have P59 : Pl H5 H9 p s0 := ((P6.trans P7).trans P8).trans P9
      have hdu : d ≠ u := fun z => by rw [← z, P59.keep hd5 hdp] at hu9; cases hu9
      have hqu : q ≠ u := fun z => by rw [← z, P59.keep hq5 hqp] at hu9; cases hu9
      obtain ⟨v, hv, vge, vle⟩ : ∃ v : Int, atI ([V.int 0, V.int v1, V.int v2, V.int v3]) kind = some (V.int v) ∧ 0 ≤ v ∧ v ≤ 1000000 := by
        have : kind = 0 ∨ kind = 1 ∨ kind = 2 ∨ kind = 3 := by omega
        rcases this with rfl | rfl | rfl | rfl
        · exact ⟨0, rfl, by omega, by omega⟩
        · exact ⟨v1, rfl, by omega, by omega⟩
        · exact ⟨v2, rfl, by omega, by omega⟩
        · exact ⟨v3, rfl, by omega, by omega⟩
      have hdX : (upd H9 u (.lst [V.int 0, V.int v1, V.int v2, V.int v3])) d = some (.dK (LK L)) := by rw [upd_ne hdu]; exact P59.keep hd5 hdp
      refine ⟨_, rfl, _, _, _, _, rfl, rfl, SqL.of upd_same, hv, _, rfl, _, rfl, d, _, rfl, DPut.k (k := Sum.inr nm) hdX (by rw [LK_len]; exact small1000 (by omega)), ?_⟩
      have hput : putK (LK L) (Sum.inr nm : Key) (V.int v) = LK (L ++ [(nm, v)]) := by
        rw [putK_new _ (by rw [LK_val, lookup_none hnL]; rfl)]
        unfold LK
        rw [List.map_append]
        rfl
      rw [hput]
      refine ⟨⟨_, _, rfl⟩, ?_, ⟨L ++ [(nm, v)], upd_same, ?_, ?_⟩, ?_⟩
      · rw [upd_ne hdq, upd_ne hqu]
        exact P59.keep hq5 hqp
      · rw [List.map_append, hL, List.take_add_one, hn]
        rfl
      · intro x hx
        rcases List.mem_append.mp hx with hx | hx
        · exact hLb x hx
        · rw [List.mem_singleton.mp hx]
          exact ⟨vge, vle⟩
      · exact (((P5.trans P59).new hu9).at hd0)
    · rintro σ H5 ⟨⟨a, b, rfl⟩, hq5, ⟨L, hd5, hL, hLb⟩, P5⟩
      rw [List.length_map, List.take_length] at hL
      have hLl : L.length = l.length := by rw [← hL, List.length_map]
      refine ⟨_, rfl, kk d L H5 hd0 hd5 ⟨by omega, by omega, by rw [hL]; exact hnd, fun x hx => hnm _ (by rw [← hL]; exact List.mem_map_of_mem hx), fun x hx => (hLb x hx).1, fun x hx => (hLb x hx).2⟩ P5⟩
end
end Ash

set_option Elab.async false
set_option linter.all false
set_option maxRecDepth 100000
set_option maxHeartbeats 4000000
namespace Ash
open PySem PySem.Spec PyProof.Rows L2
open C8 (pss_cut)
/-! ### kinds of values -/
def NotInt (K : PySem.W.Frag) (H : Hp) (v : V) : Prop := ∃ t bi bb, TyX K H v t ∧ PySem.W.kitOne K t (.type "int") = some bi ∧ PySem.W.kitOne K t (.type "bool") = some bb ∧ (bi && !bb) = false
def NotStr (K : PySem.W.Frag) (H : Hp) (v : V) : Prop := ∃ t, TyX K H v t ∧ PySem.W.kitOne K t (.type "str") = some false
def NotTup (K : PySem.W.Frag) (H : Hp) (v : V) : Prop := ∃ t, TyX K H v t ∧ PySem.W.kitOne K t (.type "tuple") = some false
def spIsInt (K : PySem.W.Frag) : Sp := fun vs H Q _ => ∃ v, vs = [v] ∧ ((∃ n, v = .int n ∧ Q (.bl true) H) ∨ (NotInt K H v ∧ Q (.bl false) H))
def spIsNat (K : PySem.W.Frag) : Sp := fun vs H Q _ => ∃ v, vs = [v] ∧ ((∃ n, v = .int n ∧ Q (.bl (decide (0 ≤ n))) H) ∨ (NotInt K H v ∧ Q (.bl false) H))
/-- the test of names -/
def nmB (z : Str) : Bool := decide (1 ≤ z.length ∧ z.length ≤ 8) && z.cps.toList.all fun c => decide (c ∈ LET)
theorem nmB_iff (z : Str) : nmB z = true ↔ IsNm z := by
  unfold nmB IsNm
  simp only [Bool.and_eq_true, decide_eq_true_eq, List.all_eq_true]
  exact ⟨fun ⟨⟨a, b⟩, c⟩ => ⟨a, b, c⟩, fun ⟨a, b, c⟩ => ⟨⟨a, b⟩, c⟩⟩
def spIsName (K : PySem.W.Frag) : Sp := fun vs H Q _ => ∃ v, vs = [v] ∧ ((∃ z, v = .str z ∧ z.length ≤ sizeLine ∧ ∀ H', Same H H' → Q (.bl (nmB z)) H') ∨ (NotStr K H v ∧ Q (.bl false) H))
def spAreInts (K : PySem.W.Frag) : Sp := fun vs H Q _ => ∃ (a : Addr) (ns : List Int), vs = [.ref a] ∧ SqT K H a (ns.map V.int) ∧ ns.length ≤ 100 ∧ ∀ H', Same H H' → Q (.bl true) H'
def spIsLate (K : PySem.W.Frag) : Sp := fun vs H Q _ => ∃ n : Int, vs = [.int n] ∧ Q (.bl (decide (0 ≤ n ∧ n ≤ 1000000))) H
def spIsLates (K : PySem.W.Frag) : Sp := fun vs H Q _ => ∃ (d : Addr) (L : List (Str × Int)), vs = [.ref d] ∧ H d = some (.dK (LK L)) ∧ Lates L ∧ ∀ H', Same H H' → Q (.bl true) H'
theorem list_take {α : Type} {l : List α} {i : Nat} {x : α} (h : l[i]? = some x) : l.take (i + 1) = l.take i ++ [x] := by
  rw [List.take_add_one, h]
  rfl
theorem list_lit (l : List Nat) : ∀ i x, l[i]? = some x → l.take (i + 1) = l.take i ++ [x] := fun i x h => by
  rw [List.take_add_one, h]
  rfl
structure Cst (mg : Str → Option Value) : Prop where
  k_LETTERS : ∃ t, mg "LETTERS" = some (.str abc t)
  k_LONGEST_NAME : ∃ t, mg "LONGEST_NAME" = some (.int 8 t)
  k_MOST_STREAMS : ∃ t, mg "MOST_STREAMS" = some (.int 8 t)
  k_MOST_LATE : ∃ t, mg "MOST_LATE" = some (.int 1000000 t)
  k_MOST_ENTRIES : ∃ t, mg "MOST_ENTRIES" = some (.int 400 t)
section
variable {P : Program} {w : World} {K : PySem.W.Frag} {mg : Str → Option Value} {base : Heap}
structure K1 (P : Program) (w : World) (K : PySem.W.Frag) (mg : Str → Option Value) (base : Heap) : Prop where
  is_integer : Cal P w K mg base CX0 "is_integer" 1 ["thing"] (spIsInt K)
abbrev s_is_integer : Stmt := topS 10
theorem sc_is_integer : FnScope ["thing"] ["thing"] (defScope s_is_integer) := ⟨rfl, rfl, rfl, by decide +kernel, rfl, by decide +kernel, by decide +kernel⟩
theorem ok_is_integer {f : Addr} {fd : FuncData} (F : Fun K "is_integer" "is_integer" s_is_integer f fd) (B : Blt mg) : FnOk P w K mg base CX0 1 f fd ["thing"] (spIsInt K) := by
  refine F.ok sc_is_integer (fun vs H Q E h => ?_) (fun cdv A outer s H vs Q E hr h => ?_)
  · obtain ⟨v, rfl, _⟩ := h
    rfl
  · obtain ⟨v, rfl, hv⟩ := h
    refine ⟨_, (pss_one (ps_ret (pe_and (pe_callB call_isi (by rfl) B.isinstance (by decide +kernel) (pa_cons (pv 0) (pa_cons (pe_bltn (v := .ty "int") (by rfl) B.int (by decide +kernel) rfl) pa_nil))) (pe_one (pe_not (pe_callB call_isi (by rfl) B.isinstance (by decide +kernel) (pa_cons (pv 0) (pa_cons (pe_bltn (v := .ty "bool") (by rfl) B.bool (by decide +kernel) rfl) pa_nil)))))))), ?_⟩
    rcases hv with ⟨n, rfl, q⟩ | ⟨⟨t, bi, bb, ty, e1, e2, e3⟩, q⟩
    · refine ⟨_, rfl, _, _, _, _, true, rfl, ClsV.ty _, .base (.int n), kit_ty (by decide +kernel), _, rfl, iteT ?_⟩
      refine ⟨_, rfl, _, _, _, _, false, rfl, ClsV.ty _, .base (.int n), kit_ty (by decide +kernel), _, rfl, q⟩
    · refine ⟨_, rfl, _, _, _, _, bi, rfl, ClsV.ty _, ty, e1, _, rfl, ?_⟩
      cases bi with
      | false => exact iteF q
      | true =>
        refine iteT ⟨_, rfl, _, _, _, _, bb, rfl, ClsV.ty _, ty, e2, _, rfl, ?_⟩
        have e3 : (!bb) = false := e3
        rw [e3]
        exact q
abbrev s_is_natural : Stmt := topS 11
theorem sc_is_natural : FnScope ["thing"] ["thing"] (defScope s_is_natural) := ⟨rfl, rfl, rfl, by decide +kernel, rfl, by decide +kernel, by decide +kernel⟩
theorem ok_is_natural {f : Addr} {fd : FuncData} (F : Fun K "is_natural" "is_natural" s_is_natural f fd) (B : Blt mg) (G : K1 P w K mg base) : FnOk P w K mg base CX0 2 f fd ["thing"] (spIsNat K) := by
  refine F.ok sc_is_natural (fun vs H Q E h => ?_) (fun cdv A outer s H vs Q E hr h => ?_)
  · obtain ⟨v, rfl, _⟩ := h
    rfl
  · obtain ⟨v, rfl, hv⟩ := h
    refine ⟨_, (pss_one (ps_ret (pe_and (pe_cal G.is_integer (hr.mono (by decide)) pass0 (pa_cons (pv 0) pa_nil)) (pe_one (pe_cmpR op_ge (pv 0) pe_int (nomark _)))))), ?_⟩
    rcases hv with ⟨n, rfl, q⟩ | ⟨ni, q⟩
    · exact ⟨_, rfl, _, rfl, .inl ⟨n, rfl, _, rfl, iteT ⟨_, rfl, _, _, rfl, rfl, q⟩⟩⟩
    · exact ⟨_, rfl, _, rfl, .inr ⟨ni, _, rfl, iteF q⟩⟩
abbrev s_is_name : Stmt := topS 12
theorem sc_is_name : FnScope ["thing", "letter"] ["thing"] (defScope s_is_name) := ⟨rfl, rfl, rfl, by decide +kernel, rfl, by decide +kernel, by decide +kernel⟩
theorem ok_is_name {f : Addr} {fd : FuncData} (F : Fun K "is_name" "is_name" s_is_name f fd) (B : Blt mg) (Cs : Cst mg) : FnOk P w K mg base CX0 1 f fd ["thing"] (spIsName K) := by
  obtain ⟨t1, g_LETTERS⟩ := Cs.k_LETTERS
  obtain ⟨t2, g_LONGEST_NAME⟩ := Cs.k_LONGEST_NAME
  refine F.ok sc_is_name (fun vs H Q E h => ?_) (fun cdv A outer s H vs Q E hr h => ?_)
  · obtain ⟨v, rfl, _⟩ := h
    rfl
  · obtain ⟨v, rfl, hv⟩ := h
    refine ⟨_, (pss_cons (ps_if (PW.pt (pw_or (pt_not (pt_val (pe_callB call_isi (by rfl) B.isinstance (by decide +kernel) (pa_cons (pv 0) (pa_cons (pe_bltn (v := .ty "str") (by rfl) B.str (by decide +kernel) rfl) pa_nil))))) (pw_or1 (pt_not (pt_chain op_le op_le pe_int (pe_callB call_len_str (by rfl) B.len (by decide +kernel) (pa_cons (pv 0) pa_nil)) (pe_glob (v := .int 8) (by rfl) g_LONGEST_NAME ⟨_, rfl⟩))))))
      (pss_one (ps_ret pe_bl))
      pss_nil)
    (pss_one (ps_ret (pe_callB (cr_all rfl) (by rfl) B.all (by decide +kernel) (pa_cons (pe_lc (own := [("letter", 1)]) (g := gName 1) (tt := tYes) (by rfl) sc_is_name.nd (pi_str (pv 0)) (blkOk_by (own := [("letter", 1)]) (N := ["thing", "letter"]) (sc := defScope s_is_name) (by decide +kernel)) (fun _ _ _ _ _ => (pg_name (i := 1) sc_is_name.nd rfl (Or.inl rfl))) (fun _ _ _ _ _ => pts_nil) (fun _ _ _ _ _ => (pe_cmpR op_in_sign (pv 1) (pe_glob (v := .str "abcdefghijklmnopqrstuvwxyz") (by rfl) g_LETTERS ⟨_, rfl⟩) rfl))) pa_nil))))), ?_⟩
    rcases hv with ⟨z, rfl, hz, q⟩ | ⟨⟨t, ty, e1⟩, q⟩
    · refine ⟨_, rfl, _, _, _, _, true, rfl, ClsV.ty _, .base (.str z), kit_ty (by decide +kernel), _, rfl, iteF ?_⟩
      refine ⟨_, rfl, _, rfl, hz, _, _, rfl, rfl, _, rfl, ?_⟩
      refine ite2 (fun c1 => ?_) (fun c1 => ?_)
      · have c1 : (1 : Int) ≤ z.length := of_decide_eq_true c1
        refine ⟨_, _, rfl, rfl, _, rfl, ?_⟩
        by_cases c8 : (z.length : Int) ≤ 8
        · refine iteNS c8 ?_
          refine ⟨_, rfl, z, rfl, fun D hD => lc_it (walk_str (z := z)) (fun i H1 => H1 D = some (.lst (((z.cps.toList.take i).map fun c => decide (c ∈ LET)).map V.bl)) ∧ Same H H1) ⟨upd_same, sameAt (Same.refl H) hD⟩ (fun _ _ _ _ => trivial) ?_ ?_⟩
          · rintro i x H1 H2 hi ⟨hD1, hs⟩ ⟨rfl, c, hc, rfl⟩
            have hc' : z.cps.toList[i]? = some c := by rw [Array.getElem?_toList]; exact hc
            have hlen : (z.cps.toList.take i).length ≤ 8 := by
              have : i < z.length := hi
              rw [List.length_take]
              omega
            refine ⟨rfl, _, rfl, c, abc, rfl, rfl, _, hD1, (by rw [List.length_map, List.length_map]; exact small1000 (by omega)), ?_, sameAt hs hD⟩
            rw [upd_same, list_lit _ _ _ hc', abc_let, List.map_append, List.map_append]
            rfl
          · rintro H1 ⟨hD1, hs⟩
            have e : z.cps.toList.take z.cps.size = z.cps.toList := by rw [← Array.length_toList, List.take_length]
            rw [e] at hD1
            refine ⟨D, _, rfl, SqL.of hD1, ?_⟩
            have e2 : ((z.cps.toList.map fun c => decide (c ∈ LET)).all id) = nmB z := by
              unfold nmB
              rw [decide_eq_true (show 1 ≤ z.length ∧ z.length ≤ 8 by omega), Bool.true_and, List.all_map]
              rfl
            rw [e2]
            exact q _ hs
        · rw [decide_eq_false c8]
          refine iteT ?_
          have e2 : nmB z = false := by
            unfold nmB
            rw [decide_eq_false (show ¬ (1 ≤ z.length ∧ z.length ≤ 8) by omega), Bool.false_and]
          have := q H (Same.refl H)
          rw [e2] at this
          exact this
      · have c1 : ¬ (1 : Int) ≤ z.length := by simpa using c1
        refine ⟨_, rfl, iteT ?_⟩
        have e2 : nmB z = false := by
          unfold nmB
          rw [decide_eq_false (show ¬ (1 ≤ z.length ∧ z.length ≤ 8) by omega), Bool.false_and]
        have := q H (Same.refl H)
        rw [e2] at this
        exact this
    · refine ⟨_, rfl, _, _, _, _, false, rfl, ClsV.ty _, ty, e1, _, rfl, iteT q⟩
structure K2 (P : Program) (w : World) (K : PySem.W.Frag) (mg : Str → Option Value) (base : Heap) : Prop extends K1 P w K mg base where
  is_natural : Cal P w K mg base CX0 "is_natural" 2 ["thing"] (spIsNat K)
  is_name : Cal P w K mg base CX0 "is_name" 1 ["thing"] (spIsName K)
abbrev s_are_integers : Stmt := topS 14
theorem sc_are_integers : FnScope ["things", "thing"] ["things"] (defScope s_are_integers) := ⟨rfl, rfl, rfl, by decide +kernel, rfl, by decide +kernel, by decide +kernel⟩
theorem ok_are_integers {f : Addr} {fd : FuncData} (F : Fun K "are_integers" "are_integers" s_are_integers f fd) (B : Blt mg) (G : K2 P w K mg base) : FnOk P w K mg base CX0 2 f fd ["things"] (spAreInts K) := by
  refine F.ok sc_are_integers (fun vs H Q E h => ?_) (fun cdv A outer s H vs Q E hr h => ?_)
  · obtain ⟨a, ns, rfl, _⟩ := h
    rfl
  · obtain ⟨a, ns, rfl, hS, hn, q⟩ := h
    refine ⟨_, (pss_one (ps_ret (pe_callB (cr_all rfl) (by rfl) B.all (by decide +kernel) (pa_cons (pe_lc (own := [("thing", 1)]) (g := gName 1) (tt := tYes) (by rfl) sc_are_integers.nd (pi_tup (pv 0)) (blkOk_by (own := [("thing", 1)]) (N := ["things", "thing"]) (sc := defScope s_are_integers) (by decide +kernel)) (fun _ _ _ _ _ => (pg_name (i := 1) sc_are_integers.nd rfl (Or.inl rfl))) (fun _ _ _ _ _ => pts_nil) (fun _ _ _ _ _ => (pe_cal G.is_integer (hr.mono (by decide)) pass0 (pa_cons (pv 1) pa_nil)))) pa_nil)))), ?_⟩
    refine ⟨_, rfl, a, rfl, ⟨_, hS⟩, fun D hD => lc_it (walk_tup (xs := ns.map V.int)) (fun i H1 => H1 D = some (.lst ((List.replicate i true).map V.bl)) ∧ Same H H1) ⟨upd_same, sameAt (Same.refl H) hD⟩ (fun i H1 _ hv => ?_) ?_ ?_⟩
    · rcases hS with (h | ⟨o, h⟩) | h
      · exact .inl (.inl (hv.2 _ _ h))
      · exact .inl (.inr ⟨o, hv.2 _ _ h⟩)
      · exact .inr h
    · rintro i x H1 H2 hi ⟨hD1, hs⟩ ⟨rfl, hx⟩
      obtain ⟨z, rfl⟩ : ∃ z, x = V.int z := by
        rw [List.getElem?_map] at hx
        cases e : ns[i]? with
        | none => rw [e] at hx; cases hx
        | some z => rw [e] at hx; exact ⟨z, (Option.some.inj hx).symm⟩
      rw [List.length_map] at hi
      refine ⟨rfl, _, rfl, _, rfl, .inl ⟨z, rfl, _, hD1, (by rw [List.length_map, List.length_replicate]; exact small1000 (by omega)), ?_, sameAt hs hD⟩⟩
      rw [upd_same, List.replicate_succ', List.map_append]
      rfl
    · rintro H1 ⟨hD1, hs⟩
      refine ⟨D, _, rfl, SqL.of hD1, ?_⟩
      rw [List.length_map] at hD1 ⊢
      have e2 : ((List.replicate ns.length true).all id) = true := by simp
      rw [e2]
      exact q _ hs
abbrev s_is_late : Stmt := topS 20
theorem sc_is_late : FnScope ["thing"] ["thing"] (defScope s_is_late) := ⟨rfl, rfl, rfl, by decide +kernel, rfl, by decide +kernel, by decide +kernel⟩
theorem ok_is_late {f : Addr} {fd : FuncData} (F : Fun K "is_late" "is_late" s_is_late f fd) (B : Blt mg) (Cs : Cst mg) (G : K2 P w K mg base) : FnOk P w K mg base CX0 2 f fd ["thing"] (spIsLate K) := by
  obtain ⟨t1, g_MOST_LATE⟩ := Cs.k_MOST_LATE
  refine F.ok sc_is_late (fun vs H Q E h => ?_) (fun cdv A outer s H vs Q E hr h => ?_)
  · obtain ⟨n, rfl, _⟩ := h
    rfl
  · obtain ⟨n, rfl, q⟩ := h
    refine ⟨_, (pss_one (ps_ret (pe_and (pe_cal G.is_integer (hr.mono (by decide)) pass0 (pa_cons (pv 0) pa_nil)) (pe_one (pe_chain op_le op_le pe_int (pv 0) (pe_glob (v := .int 1000000) (by rfl) g_MOST_LATE ⟨_, rfl⟩)))))), ?_⟩
    refine ⟨_, rfl, _, rfl, .inl ⟨n, rfl, _, rfl, iteT ⟨_, rfl, _, _, rfl, rfl, _, rfl, ?_⟩⟩⟩
    refine ite2 (fun c1 => ?_) (fun c1 => ?_)
    · have c1 : 0 ≤ n := of_decide_eq_true c1
      refine ⟨_, _, rfl, rfl, ?_⟩
      have e : decide (0 ≤ n ∧ n ≤ 1000000) = decide (n ≤ 1000000) := by simp [c1]
      rw [e] at q
      exact q
    · have c1 : ¬ 0 ≤ n := by simpa using c1
      have e : decide (0 ≤ n ∧ n ≤ 1000000) = false := by simp [c1]
      rw [e] at q
      exact q
structure K3 (P : Program) (w : World) (K : PySem.W.Frag) (mg : Str → Option Value) (base : Heap) : Prop extends K2 P w K mg base where
  are_integers : Cal P w K mg base CX0 "are_integers" 2 ["things"] (spAreInts K)
  is_late : Cal P w K mg base CX0 "is_late" 2 ["thing"] (spIsLate K)
abbrev s_is_lates : Stmt := topS 19
theorem sc_is_lates : FnScope ["thing", "stream", "late"] ["thing"] (defScope s_is_lates) := ⟨rfl, rfl, rfl, by decide +kernel, rfl, by decide +kernel, by decide +kernel⟩
theorem ok_is_lates {f : Addr} {fd : FuncData} (F : Fun K "is_lates" "is_lates" s_is_lates f fd) (B : Blt mg) (Cs : Cst mg) (G : K3 P w K mg base) : FnOk P w K mg base CX0 3 f fd ["thing"] (spIsLates K) := by
  obtain ⟨t1, g_MOST_STREAMS⟩ := Cs.k_MOST_STREAMS
  refine F.ok sc_is_lates (fun vs H Q E h => ?_) (fun cdv A outer s H vs Q E hr h => ?_)
  · obtain ⟨d, L, rfl, _⟩ := h
    rfl
  · obtain ⟨d, L, rfl, hd, LL, q⟩ := h
    refine ⟨_, (pss_cons (ps_if (PW.pt (pw_or (pt_not (pt_val (pe_callB call_isi (by rfl) B.isinstance (by decide +kernel) (pa_cons (pv 0) (pa_cons (pe_bltn (v := .ty "dict") (by rfl) B.dict (by decide +kernel) rfl) pa_nil))))) (pw_or1 (pt_not (pt_chain op_le op_le pe_int (pe_callB call_lenD (by rfl) B.len (by decide +kernel) (pa_cons (pv 0) pa_nil)) (pe_glob (v := .int 8) (by rfl) g_MOST_STREAMS ⟨_, rfl⟩))))))
      (pss_one (ps_ret pe_bl))
      pss_nil)
    (pss_one (ps_ret (pe_callB (cr_all rfl) (by rfl) B.all (by decide +kernel) (pa_cons (pe_lock (pe_lc (own := [("stream", 1), ("late", 2)]) (g := gTup K 2 (gCons (gName 1) (gCons (gName 2) gNil))) (tt := tYes) (by rfl) sc_is_lates.nd (pi_items (pv 0)) (blkOk_by (own := [("stream", 1), ("late", 2)]) (N := ["thing", "stream", "late"]) (sc := defScope s_is_lates) (by decide +kernel)) (fun _ _ _ _ _ => (pg_tup (by rfl) (pgs_cons (pg_name (i := 1) sc_is_lates.nd rfl (Or.inl rfl)) (pgs_cons (pg_name (i := 2) sc_is_lates.nd rfl (Or.inl rfl)) pgs_nil)))) (fun _ _ _ _ _ => pts_nil) (fun _ _ _ _ _ => (pe_and (pe_cal G.is_name (hr.mono (by decide)) pass0 (pa_cons (pv 1) pa_nil)) (pe_one (pe_cal G.is_late (hr.mono (by decide)) pass0 (pa_cons (pv 2) pa_nil))))))) pa_nil))))), ?_⟩
    refine ⟨_, rfl, _, _, _, _, true, rfl, ClsV.ty _, .base (.dK hd), kit_ty (by decide +kernel), _, rfl, iteF ?_⟩
    refine ⟨_, rfl, d, _, rfl, hd, _, _, rfl, rfl, _, rfl, ?_⟩
    rw [LK_len]
    have l1 := LL.some_
    have l2 := LL.few
    rw [decide_eq_true (show (1 : Int) ≤ (L.length : Int) by omega)]
    refine iteT ⟨_, _, rfl, rfl, _, rfl, iteNS (by omega) ?_⟩
    refine ⟨d, _, hd, trivial, fun od => ?_⟩
    have hDd : ∀ {D : Addr}, (upd H d (.frz od (.dK (LK L)))) D = none → D ≠ d := fun h z => by rw [z, upd_same] at h; cases h
    refine ⟨_, rfl, d, od, _, rfl, upd_same, fun D hD => lc_it (walk_items (kvs := LK L)) (fun i H1 => H1 D = some (.lst ((List.replicate i true).map V.bl)) ∧ Same (upd H d (.frz od (.dK (LK L)))) H1) ⟨upd_same, sameAt (Same.refl _) hD⟩ (fun i H1 _ hv => hv.2 _ _ upd_same) ?_ ?_⟩
    · rintro i x H1 H2 hi ⟨hD1, hs⟩ ⟨T, x1, x2, rfl, hT, rfl, h1, h2⟩
      rw [LK_len] at hi
      have hx : (LK L)[i]? = some (Sum.inr L[i].1, V.int L[i].2) := by
        unfold LK
        rw [List.getElem?_map, List.getElem?_eq_getElem hi]
        rfl
      simp only [hx, Option.map_some] at h1 h2
      cases h1
      cases h2
      have hm : L[i] ∈ L := List.getElem_mem hi
      have hDT : D ≠ T := fun z => by rw [← z, hD1] at hT; cases hT
      have nmz : nmB L[i].1 = true := (nmB_iff _).mpr (LL.nm _ hm)
      have lz : decide (0 ≤ L[i].2 ∧ L[i].2 ≤ 1000000) = true := decide_eq_true ⟨LL.lo _ hm, LL.hi _ hm⟩
      refine ⟨T, _, rfl, SqT.of upd_same, rfl, _, _, rfl, _, _, rfl, rfl, rfl, ?_⟩
      refine ⟨_, rfl, _, rfl, .inl ⟨L[i].1, rfl, (by have := (LL.nm _ hm).2.1; rw [sizeLine_eq]; omega), fun H3 s3 => ⟨_, rfl, ?_⟩⟩⟩
      rw [nmz]
      refine iteT ⟨_, rfl, L[i].2, rfl, ?_⟩
      rw [lz]
      refine ⟨_, s3 _ _ (by rw [upd_ne hDT]; exact hD1), (by rw [List.length_map, List.length_replicate]; exact small1000 (by omega)), ?_, fun b o hb => ?_⟩
      · rw [upd_same, List.replicate_succ', List.map_append]
        rfl
      · rw [upd_ne (ne_of_none hb hD)]
        refine s3 _ _ ?_
        rw [upd_ne (ne_of_none (hs _ _ hb) hT)]
        exact hs _ _ hb
    · rintro H1 ⟨hD1, hs⟩
      refine ⟨hs _ _ upd_same, D, _, rfl, SqL.of (by rw [upd_ne (hDd hD)]; exact hD1), ?_⟩
      have e2 : ((List.replicate (LK L).length true).all id) = true := by simp
      rw [e2]
      refine q _ fun b o hb => ?_
      by_cases e : b = d
      · rw [e, hd] at hb
        cases hb
        rw [e, upd_same]
      · rw [upd_ne e]
        exact hs _ _ (by rw [upd_ne e]; exact hb)
end
end Ash

set_option Elab.async false
set_option linter.all false
set_option maxRecDepth 100000
set_option maxHeartbeats 4000000
namespace Ash
open PySem PySem.Spec PyProof.Rows L2
open C8 (pss_cut)
/-! ### books -/
def BookAt (CB : Addr) (H : Hp) (b : Addr) (L : List (Str × Int)) : Prop := ∃ dx d L', H b = some (.ins CB dx [("_lates", .ref d)]) ∧ H d = some (.dK (LK L')) ∧ (∀ z, L'.lookup z = L.lookup z) ∧ (L'.map (·.1)).Nodup
theorem BookAt.same {CB : Addr} {H H' : Hp} {b : Addr} {L : List (Str × Int)} (h : BookAt CB H b L) (s : Same H H') : BookAt CB H' b L := by
  obtain ⟨dx, d, L', h1, h2, h3⟩ := h
  exact ⟨dx, d, L', s _ _ h1, s _ _ h2, h3⟩
theorem BookAt.pl {CB : Addr} {H H' : Hp} {b p s : Addr} {L : List (Str × Int)} (h : BookAt CB H b L) (P0 : PoolAt H p s) (P : Pl H H' p s) : BookAt CB H' b L := by
  obtain ⟨dx, d, L', h1, h2, h3⟩ := h
  obtain ⟨ns, i, c, k, n, hp, _⟩ := P0
  exact ⟨dx, d, L', P.keep h1 (ne_of h1 hp (by intro z; cases z)), P.keep h2 (ne_of h2 hp (by intro z; cases z)), h3⟩
theorem lookup_perm {L : List (Str × Int)} (hn : (L.map (·.1)).Nodup) {ys : List Str} (hp : ys.Perm (L.map (·.1))) (f : Str → Int) (hf : ∀ x ∈ L, f x.1 = x.2) (z : Str) : (ys.map fun y => (y, f y)).lookup z = L.lookup z := by
  by_cases hz : z ∈ L.map (·.1)
  · have hy : z ∈ ys := hp.mem_iff.mpr hz
    have a1 : ∀ (l : List Str), z ∈ l → (l.map fun y => (y, f y)).lookup z = some (f z) := fun l => by
      induction l with
      | nil => intro h; cases h
      | cons a l ih =>
        intro h
        by_cases e : z = a
        · subst e
          simp [List.lookup]
        · have h' : (z == a) = false := by simpa using e
          show List.lookup z ((a, f a) :: l.map fun y => (y, f y)) = _
          simp only [List.lookup, h']
          exact ih ((List.mem_cons.mp h).resolve_left e)
    have a2 : ∀ (l : List (Str × Int)), (∀ x ∈ l, f x.1 = x.2) → z ∈ l.map (·.1) → l.lookup z = some (f z) := fun l => by
      induction l with
      | nil => intro _ h; cases h
      | cons a l ih =>
        intro hf h
        obtain ⟨a1, a2⟩ := a
        by_cases e : z = a1
        · subst e
          have := hf _ List.mem_cons_self
          simp only [List.lookup, beq_self_eq_true]
          exact congrArg some this.symm
        · have h' : (z == a1) = false := by simpa using e
          simp only [List.lookup, h']
          exact ih (fun x hx => hf x (List.mem_cons_of_mem _ hx)) ((List.mem_cons.mp h).resolve_left e)
    rw [a1 ys hy, a2 L hf hz]
  · rw [lookup_none hz, lookup_none (L := ys.map fun y => (y, f y))]
    rw [List.map_map]
    show z ∉ ys.map fun y => y
    rw [List.map_id']
    exact fun h => hz (hp.mem_iff.mp h)
theorem lookup_mem : ∀ {L : List (Str × Int)} {x : Str × Int}, (L.map (·.1)).Nodup → x ∈ L → L.lookup x.1 = some x.2
  | [], x, _, h => nomatch h
  | (a1, a2) :: L, x, hn, h => by
    obtain ⟨h1, h2⟩ := List.nodup_cons.mp (show (a1 :: L.map (·.1)).Nodup from hn)
    rcases List.mem_cons.mp h with rfl | h
    · simp [List.lookup]
    · have e : ¬ x.1 = a1 := fun z => h1 (by rw [← z]; exact List.mem_map_of_mem h)
      have h' : (x.1 == a1) = false := by simpa using e
      simp only [List.lookup, h']
      exact lookup_mem h2 h
def spBookInit (CB : Addr) : Sp := fun vs H Q _ => ∃ (b dx d : Addr) (L : List (Str × Int)), vs = [.ref b, .ref d] ∧ H b = some (.ins CB dx []) ∧ H d = some (.dK (LK L)) ∧ Lates L ∧
  ∀ H', BookAt CB H' b L → (∀ c o, H c = some o → c ≠ b → H' c = some o) → Q .non H'
/-- has(stream) of a text -/
def spHas (CB : Addr) : Sp := fun vs H Q _ => ∃ (b : Addr) (L : List (Str × Int)) (z : Str), vs = [.ref b, .str z] ∧ BookAt CB H b L ∧ IsNm z ∧ ∀ H', Same H H' → Q (.bl (L.lookup z).isSome) H'
def spLate (CB : Addr) : Sp := fun vs H Q _ => ∃ (b : Addr) (L : List (Str × Int)) (z : Str) (n : Int), vs = [.ref b, .str z] ∧ BookAt CB H b L ∧ IsNm z ∧ L.lookup z = some n ∧ ∀ H', Same H H' → Q (.int n) H'
structure Cb (K : PySem.W.Frag) (mg : Str → Option Value) (CB : Addr) : Prop where
  cl : Cls K CB
  nL : NoAttr K CB "_lates"
  c : mg "Book" = some (.ref CB)
section
variable {P : Program} {w : World} {K : PySem.W.Frag} {mg : Str → Option Value} {base : Heap}
structure K4 (P : Program) (w : World) (K : PySem.W.Frag) (mg : Str → Option Value) (base : Heap) : Prop extends K3 P w K mg base where
  is_lates : Cal P w K mg base CX0 "is_lates" 3 ["thing"] (spIsLates K)
abbrev s_Book_init : Stmt := inClass (topS 18) 0
theorem sc_Book_init : FnScope ["self", "lates", "stream"] ["self", "lates"] (defScope s_Book_init) := ⟨rfl, rfl, rfl, by decide +kernel, rfl, by decide +kernel, by decide +kernel⟩
theorem ok_book_init {f CB : Addr} {fd : FuncData} (F : Fun K "__init__" "Book.__init__" s_Book_init f fd) (B : Blt mg) (T : Cb K mg CB) (G : K4 P w K mg base) : FnOk P w K mg base CX0 4 f fd ["self", "lates"] (spBookInit CB) := by
  refine F.ok sc_Book_init (fun vs H Q E h => ?_) (fun cdv A outer s H vs Q E hr h => ?_)
  · obtain ⟨b, dx, d, L, rfl, _⟩ := h
    rfl
  · obtain ⟨b, dx, d, L, rfl, hb, hd, LL, q⟩ := h
    have hu := hu_of hr
    refine ⟨_, (pss_cons (ps_if (pt_not (pt_val (pe_cal G.is_lates (hr.mono (by decide)) pass0 (pa_cons (pv 1) pa_nil))))
      (pss_one ps_never)
      pss_nil)
    (pss_one (ps_fld (pv 0) (pe_dc (own := [("stream", 2)]) (g := gName 2) (tt := tYes) (by rfl) sc_Book_init.nd (pi_list (pe_callB cr_sortedS (by rfl) B.sorted (by decide +kernel) (pa_cons (pe_callTy (call_listD (by rfl)) (by rfl) B.list (by decide +kernel) (pa_cons (pv 1) pa_nil)) pa_nil))) (blkOk_by (own := [("stream", 2)]) (N := ["self", "lates", "stream"]) (sc := defScope s_Book_init) (by decide +kernel)) (fun _ _ _ _ _ => (pg_name (i := 2) sc_Book_init.nd rfl (Or.inl rfl))) (fun _ _ _ _ _ => pts_nil) (fun _ _ _ _ _ => (pv 2)) (fun _ _ _ _ _ => (pe_dget hu (pv 1) (pv 2) (fun _ _ => rfl)))) rfl))), ?_⟩
    refine ⟨_, rfl, d, L, rfl, hd, LL, fun H1 s1 => ⟨_, rfl, iteF ?_⟩⟩
    refine ⟨_, rfl, d, _, rfl, .of (s1 _ _ hd), fun l hl => ?_⟩
    have e1 : (LK L).map (fun kv => kV kv.1) = (L.map (·.1)).map V.str := by
      unfold LK
      rw [List.map_map, List.map_map]
      rfl
    rw [e1]
    have l8 := LL.few
    refine ⟨l, _, rfl, SqL.of upd_same, (by rw [List.length_map]; omega), fun ys q1 hperm hsort hq1 => ?_⟩
    have hln : l ≠ q1 := fun z => by rw [← z, upd_same] at hq1; cases hq1
    have s2 : Same H (upd (upd H1 l (.lst ((L.map (·.1)).map V.str))) q1 (.lst (ys.map V.str))) := (s1.trans (sameAt (Same.refl H1) hl)).trans (sameAt (Same.refl _) hq1)
    have hlenY : ys.length ≤ 8 := by rw [hperm.length_eq, List.length_map]; exact l8
    have fOf : ∀ z, z ∈ L.map (·.1) → L.lookup z = some ((L.lookup z).getD 0) := fun z hz => by
      obtain ⟨x, hx, rfl⟩ := List.mem_map.mp hz
      rw [lookup_mem LL.nd hx]
      rfl
    refine ⟨q1, rfl, ⟨_, SqL.of upd_same⟩, fun D hD => dc_it (walk_list (xs := ys.map V.str)) (fun i H3 => H3 D = some (.dK (LK ((ys.take i).map fun y => (y, (L.lookup y).getD 0)))) ∧ Same (upd (upd H1 l (.lst ((L.map (·.1)).map V.str))) q1 (.lst (ys.map V.str))) H3) ⟨upd_same, sameAt (Same.refl _) hD⟩ (fun i H3 _ hv => SqL.of (hv.2 _ _ upd_same)) ?_ ?_⟩
    · rintro i x H3 H4 hi ⟨hD3, s3⟩ ⟨rfl, hx⟩
      obtain ⟨z, hz, rfl⟩ : ∃ z, ys[i]? = some z ∧ x = V.str z := by
        rw [List.getElem?_map] at hx
        cases e : ys[i]? with
        | none => rw [e] at hx; cases hx
        | some z => rw [e] at hx; exact ⟨z, rfl, (Option.some.inj hx).symm⟩
      have hzL : z ∈ L.map (·.1) := hperm.mem_iff.mp (List.mem_of_getElem? hz)
      have hd3 : H4 d = some (.dK (LK L)) := s3 _ _ (s2 _ _ hd)
      have hyn : ys.Nodup := hperm.symm.nodup LL.nd
      rw [List.length_map] at hi
      have hg := DGet.k (k := Sum.inr z) hd3
      rw [LK_val, fOf z hzL, Option.map_some] at hg
      refine ⟨rfl, _, rfl, _, rfl, _, rfl, d, _, rfl, hg, _, Sum.inr z, rfl, hD3, (by rw [LK_len, List.length_map, List.length_take]; exact small1000 (by omega)), ?_, sameAt s3 hD⟩
      rw [upd_same, putK_new]
      · rw [list_take hz, List.map_append]
        unfold LK
        rw [List.map_append]
        rfl
      · rw [LK_val, lookup_none]
        · rfl
        · rw [List.map_map]
          show z ∉ (ys.take i).map fun y => y
          rw [List.map_id']
          intro hm
          obtain ⟨j, hj, e⟩ := List.getElem_of_mem hm
          rw [List.length_take] at hj
          rw [List.getElem_take] at e
          have := nd_ix hyn (List.getElem?_eq_some_iff.mpr ⟨by omega, e⟩) hz
          omega
    · rintro H3 ⟨hD3, s3⟩
      rw [List.length_map, List.take_length] at hD3
      have hb3 : H3 b = some (.ins CB dx []) := s3 _ _ (s2 _ _ hb)
      have hbD : D ≠ b := fun z => by rw [z] at hD; exact absurd (s2 _ _ hb) (by rw [hD]; simp)
      refine ⟨_, rfl, b, CB, dx, [], rfl, hb3, T.cl, T.nL, (by show 0 < 1000; decide), ?_⟩
      refine q _ ⟨dx, D, _, upd_same, (by rw [upd_ne hbD]; exact hD3), fun z => ?_, ?_⟩ fun c o hc hn => ?_
      · exact lookup_perm LL.nd hperm _ (fun x hx => by rw [lookup_mem LL.nd hx]; rfl) z
      · rw [List.map_map]
        show (ys.map fun y => y).Nodup
        rw [List.map_id']
        exact hperm.symm.nodup LL.nd
      · rw [upd_ne hn]
        exact s3 _ _ (s2 _ _ hc)
abbrev s_Book_has : Stmt := inClass (topS 18) 3
theorem sc_Book_has : FnScope ["self", "stream"] ["self", "stream"] (defScope s_Book_has) := ⟨rfl, rfl, rfl, by decide +kernel, rfl, by decide +kernel, by decide +kernel⟩
theorem ok_book_has {f CB : Addr} {fd : FuncData} (F : Fun K "has" "Book.has" s_Book_has f fd) (B : Blt mg) (T : Cb K mg CB) (G : K4 P w K mg base) : FnOk P w K mg base CX0 2 f fd ["self", "stream"] (spHas CB) := by
  refine F.ok sc_Book_has (fun vs H Q E h => ?_) (fun cdv A outer s H vs Q E hr h => ?_)
  · obtain ⟨b, L, z, rfl, _⟩ := h
    rfl
  · obtain ⟨b, L, z, rfl, hB, hz, q⟩ := h
    have hu := hu_of hr
    refine ⟨_, (pss_one (ps_ret (pe_and (pe_cal G.is_name (hr.mono (by decide)) pass0 (pa_cons (pv 1) pa_nil)) (pe_one (pe_cmp (pc_din hu (pv 1) (pe_fld (pv 0) rfl)) rfl))))), ?_⟩
    refine ⟨_, rfl, _, rfl, .inl ⟨z, rfl, (by have := hz.2.1; rw [sizeLine_eq]; omega), fun H1 s1 => ⟨_, rfl, ?_⟩⟩⟩
    rw [(nmB_iff z).mpr hz]
    obtain ⟨dx, d, L', h1, h2, h3, _⟩ := hB.same s1
    refine iteT ⟨_, rfl, _, rfl, b, CB, dx, _, _, rfl, h1, T.cl, T.nL, rfl, d, _, rfl, DGet.k (k := Sum.inr z) h2, ?_⟩
    have e : (valV (LK L') (Sum.inr z : Key)).isSome = (L.lookup z).isSome := by rw [LK_val, Option.isSome_map, h3]
    rw [e]
    exact q H1 s1
abbrev s_Book_late : Stmt := inClass (topS 18) 4
theorem sc_Book_late : FnScope ["self", "stream"] ["self", "stream"] (defScope s_Book_late) := ⟨rfl, rfl, rfl, by decide +kernel, rfl, by decide +kernel, by decide +kernel⟩
theorem ok_book_late {f fh CB : Addr} {fd fdh : FuncData} (F : Fun K "late" "Book.late" s_Book_late f fd) (B : Blt mg) (T : Cb K mg CB) (M_has : Meth K CB "has" fh) (b_has : Binds K fdh ["self", "stream"] []) (F_has : FnOk P w K mg base CX0 2 fh fdh ["self", "stream"] (spHas CB)) : FnOk P w K mg base CX0 3 f fd ["self", "stream"] (spLate CB) := by
  refine F.ok sc_Book_late (fun vs H Q E h => ?_) (fun cdv A outer s H vs Q E hr h => ?_)
  · obtain ⟨b, L, z, n, rfl, _⟩ := h
    rfl
  · obtain ⟨b, L, z, n, rfl, hB, hz, hn, q⟩ := h
    have hu := hu_of hr
    refine ⟨_, (pss_cons (ps_if (pt_not (pt_val (pe_meth (pv 0) T.cl M_has F_has (hr.mono (by decide)) b_has .nil pass0 (pa_cons (pv 1) pa_nil))))
      (pss_one ps_never)
      pss_nil)
    (pss_one (ps_ret (pe_dget hu (pe_fld (pv 0) rfl) (pv 1) (fun _ _ => rfl))))), ?_⟩
    obtain ⟨dx, d, L', h1, h2, h3, _⟩ := id hB
    refine ⟨_, rfl, b, dx, _, rfl, h1, rfl, _, rfl, b, L, z, rfl, hB, hz, fun H1 s1 => ⟨_, rfl, ?_⟩⟩
    rw [hn]
    refine iteF ?_
    have hg := DGet.k (k := Sum.inr z) (s1 _ _ h2)
    rw [LK_val, h3, hn] at hg
    exact ⟨_, rfl, b, CB, dx, _, _, rfl, s1 _ _ h1, T.cl, T.nL, rfl, _, rfl, d, _, rfl, hg, q H1 s1⟩
end
end Ash

set_option Elab.async false
set_option linter.all false
set_option maxRecDepth 100000
set_option maxHeartbeats 4000000
namespace PySem
open Sem (wp)
open AutoSeq1 (wpAny_loadPart')
theorem ash_enum_newT (l : Addr) (its : Array Value) (n : Nat) (dc : Option Addr) (sl : Array (Option Value)) :
    Meets (Builtin.«enumerate.__new__» ⟨[.type "enumerate", .ref l], []⟩) (fun _ R s => s.heap.get? l = some { cls := .type "tuple", dict := dc, data := .seq its n, slots := sl } ∧
      R (.ok (.ret (.ref (s.heap.push { cls := .type "tuple_iterator", data := .fields #[.ref l, .int 0 0] }).objs.size)))
        { s with heap := (s.heap.push { cls := .type "tuple_iterator", data := .fields #[.ref l, .int 0 0] }).push { cls := .type "enumerate", data := .fields #[.none, .bool false, .ref s.heap.objs.size, rawInt 0, .none, .none] } }) :=
  .of_wp fun prog w A R s h => by
    obtain ⟨hp, g, d, tk, os⟩ := s
    obtain ⟨ht, h⟩ := h
    have hsub := sub_enumerate
    have hT : Heap.IsTuple (Shared.heap ⟨hp, g, d, tk, os⟩) l its := ⟨_, ht, rfl, n, rfl⟩
    wp_walk using wpAny_loadPart' ht
    refine wpAny_stack_any fun st => wpAny_pure ?_
    split
    · rename_i c _ _ _ _ _
      cases (c == Value.type "enumerate") <;>
      · wp_walk using wpAny_loadPart' ht, wpAny_pyIter_tuple hT
        exact ⟨_, rfl, h⟩
    · wp_walk using wpAny_loadPart' ht, wpAny_pyIter_tuple hT
      exact ⟨_, rfl, h⟩
section
variable {prog : Program} {w : World} {A : Around} {E : Value → Shared → Prop} {s : Shared}
theorem ash_call_enumT {l : Addr} {its : Array Value} {Q : Value → Shared → Prop} (hT : s.heap.IsTuple l its)
    (h : ∀ h', IsEnum h' (s.heap.objs.size + 1) s.heap.objs.size 0 .none → h'.IsTupleIter s.heap.objs.size l 0 →
      (∀ b o, s.heap.get? b = some o → h'.get? b = some o) → Q (.ref (s.heap.objs.size + 1)) { s with heap := h' }) :
    wpAny (model prog w) A (call (.type "enumerate") [.ref l]) Q E s := by
  obtain ⟨⟨c, dc, dt, sl⟩, hl, hc, n, hd⟩ := hT
  replace hc : c = .type "tuple" := hc
  replace hd : dt = .seq its n := hd
  subst hc hd
  refine callType_new F.called_enumerate (by decide) (F.typeCall_enumerate_1 _) (F.newCall_enumerate_1 _) (fun o => F.args_object_init_2 o _) F.entry_enumerate_new (ash_enum_newT l its n dc sl) ⟨hl, ?_⟩
  let oi : Obj := { cls := .type "tuple_iterator", data := .fields #[.ref l, .int 0 0] }
  let oe : Obj := { cls := .type "enumerate", data := .fields #[.none, .bool false, .ref s.heap.objs.size, rawInt 0, .none, .none] }
  have hz : (s.heap.push oi).objs.size = s.heap.objs.size + 1 := Heap.size_push ..
  have he : IsEnum ((s.heap.push oi).push oe) (s.heap.objs.size + 1) s.heap.objs.size 0 .none := by
    have q := Heap.get?_push_size (s.heap.push oi) (o := oe) rfl
    rw [hz] at q
    exact q
  show _ ∧ _
  rw [hz]
  exact ⟨⟨_, he, rfl⟩, h _ he ⟨_, Heap.get?_push_of_some _ (Heap.get?_push_size _ rfl), rfl, rfl⟩ fun b o x => Heap.get?_push_of_some _ (Heap.get?_push_of_some _ x)⟩
end
end PySem
namespace Ash
open PySem PySem.Spec PyProof.Rows L2
/-- enumerate of a tuple: its items in new pairs -/
def Itet (K : PySem.W.Frag) (a : Addr) : It :=
  ⟨fun i H => ∃ (xs : List V) (x : V), SqT K H a xs ∧ xs[i]? = some x, fun i H v H' => ∃ T x, v = .ref T ∧ H T = none ∧ H' = upd H T (.tup [.int (i : Nat), x]) ∧ ∀ xs, SqT K H a xs → xs[i]? = some x, fun i H => ∃ xs : List V, SqT K H a xs ∧ xs.length ≤ i⟩
theorem turn_enumT {P : Program} {w : World} {K : PySem.W.Frag} {elts : List Expr} {kk : Nat} {tpos : Pos} (a e it : Addr) :
    Turn P w K (.Tuple elts kk tpos) (Itet K a) [e, it] e (fun i h => (∃ old, IsEnum h e it ((i : Nat) : Int) old) ∧ h.IsTupleIter it a i ∧ e ≠ it) where
  mem := by simp
  obj := fun i h st b hb => by
    obtain ⟨⟨old, he⟩, ⟨o, ho, hc, hd⟩, _⟩ := st
    rcases (show b = e ∨ b = it by simpa using hb) with z | z
    · subst z
      exact ⟨_, he, fun v q => nomatch q⟩
    · exact ⟨o, by rw [z]; exact ho, fun v q => by rw [hd] at q; cases q⟩
  keep := fun i h h' st k => by
    obtain ⟨⟨old, he⟩, hi, hne⟩ := st
    exact ⟨⟨old, k e (by simp) _ he⟩, hi.at fun o q => k it (by simp) o q, hne⟩
  item := by
    intro X hP hw hK hc i pins s σ H E I hf st hg
    subst hP hw hK
    obtain ⟨⟨old, he⟩, hit, hne⟩ := st
    obtain ⟨xs, x, hq, hx⟩ := hg
    obtain ⟨its, rv, p, hz⟩ := I.tuple hq
    obtain ⟨u, hu, ru⟩ := rv.get hx
    have hpT : s.heap.IsTuple a its.toArray := p
    have hel : e < s.heap.objs.size := Heap.lt_size he
    have hil : it < s.heap.objs.size := by
      obtain ⟨_, q, _⟩ := hit
      exact Heap.lt_size q
    have hae : e ≠ a := fun z => by
      obtain ⟨o, q1, q2, _⟩ := hpT
      rw [← z] at q1
      have q3 : s.heap.get? e = some _ := he
      rw [q3] at q1
      cases q1
      exact absurd (Value.type.inj q2) (by decide)
    have hai : a ≠ it := fun z => by
      obtain ⟨o, q1, q2, _⟩ := hpT
      obtain ⟨o2, q3, q4, _⟩ := hit
      rw [z, q3] at q1
      cases q1
      rw [q4] at q2
      exact absurd (Value.type.inj q2) (by decide)
    have hh : X.A.in1.handled = none := I.ok.hd hc
    have D := Draws.tuple (prog := X.prog) (w := X.w) hh it a hai its.toArray
    have hlt : i < its.toArray.size := by
      have := (List.getElem?_eq_some_iff.mp hu).1
      simpa using this
    refine wpAny_pyNext_enum_itemD D he ⟨hit, hpT⟩ hlt hne (by simp [hne, hae]) fun y h' tk hy ho hst hT hsz hk => ?_
    have hyu : y = u := by
      have q : its[i]? = some y := by simpa using hy
      rw [hu] at q
      exact (Option.some.inj q).symm
    subst hyu
    refine ⟨_, rfl, wpAny_letOwnedTupleGo_enum (s := { s with heap := h', toks := tk + 1 }) ho fun h'' he' sb => ?_⟩
    have hT2 : h''.get? s.heap.objs.size = some { cls := .type "tuple", data := .seq #[.int i tk, y] } := (sb.2 _ (Nat.ne_of_gt hel)).trans hT
    have new : ObjOk X.prog X.w (upd H s.heap.objs.size (.tup [.int (i : Nat), x])) h'' s.heap.objs.size (.tup [.int (i : Nat), x]) :=
      ⟨by show 2 ≤ sizeLine; decide, [.int i tk, y], .cons ⟨_, rfl⟩ (.cons ru .nil), ⟨_, hT2, rfl, _, rfl⟩⟩
    have I1 : Inv X pins σ (upd H s.heap.objs.size (.tup [.int (i : Nat), x])) { s with heap := h'', toks := tk + 1 } :=
      I.turnedNew (ch := [e, it]) (fun b o hb q => (sb.2 b (fun z => hb (by simp [z]))).trans (hk b o (fun z => hb (by simp [z])) (fun z => hb (by simp [z])) q)) hf (Nat.le_refl _) new
    refine ⟨.ref s.heap.objs.size, _, I1, rfl, ⟨_, x, rfl, I.hok.fresh (Nat.le_refl _), rfl, fun ys hy => by rw [I.tuple_inj hy hq]; exact hx⟩, ⟨⟨y, ?_⟩, hst.1.at fun o q => (sb.2 it (Ne.symm hne)).trans q, hne⟩, fun b hb => ?_⟩
    · rw [show ((i + 1 : Nat) : Int) = (i : Int) + 1 by omega]
      exact he'
    · have hb' : b < s.heap.objs.size := by
        rcases (show b = e ∨ b = it by simpa using hb) with z | z <;> rw [z] <;> assumption
      rw [upd_ne (Nat.ne_of_lt hb')]
      exact (hf b hb).1
  done := by
    intro X hP hw hK hc i pins s σ H E I hf st hg
    subst hP hw hK
    obtain ⟨⟨old, he⟩, hit, hne⟩ := st
    obtain ⟨xs, hq, hx⟩ := hg
    obtain ⟨its, rv, p, hz⟩ := I.tuple hq
    have hpT : s.heap.IsTuple a its.toArray := p
    obtain ⟨f0, f1, f2, f3, f4, f5⟩ := hf it (by simp)
    have hl := rv.length
    have hh : X.A.in1.handled = none := I.ok.hd hc
    have hT : s.TypeIs (.ref e) "enumerate" := ⟨_, he, rfl⟩
    unfold pyNext
    refine wpAny_bind (wpAny_attempt (wpAny_callSpecial?_slot (name := Str.ofString "__next__") hT F.slot_enumerate_next
      (wpAny_call_entry F.slot_enumerate_next hT F.entry_enumerate_next ?_ (F.args_enumerate_next_1 _))))
    show wpAny _ _ (field (.ref e) 2 >>= _) _ _ _
    refine wpAny_bind (wpAny_field he rfl (x := .ref it) rfl (wpAny_bind (wpAny_nextOf_tuple_end hh hit hpT (by simp; omega) fun h' x hb ⟨o, ho, hco⟩ => ?_)))
    refine wpAny_bind (wpAny_isInstance (T := "StopIteration") (b := true) ⟨o, ho, hco⟩ isSubtype_stop ?_)
    exact wpAny_pure ⟨rfl, I.turned (t' := s.toks) (fun b o hn q => hb b o hn q) f0 f1 f3 f4 f5⟩
  self := fun A i s Q E st h => by
    obtain ⟨⟨_, he⟩, _⟩ := st
    exact wpAny_pyIter_enum he h
/-- enumerate of a list or a tuple -/
def iEnumS (K : PySem.W.Frag) (ta : TA) : TI := fun σ H R => ta σ H fun vs H1 => ∃ a, vs = [.ref a] ∧ ((∃ xs, SqL K H1 a xs ∧ R (Ite K a) H1) ∨ ∃ xs, SqT K H1 a xs ∧ R (Itet K a) H1)
theorem pi_enumS {X : Cx} {e : Expr} {ta : TA} {p pos tpos : Pos} {elts : List Expr} {kk : Nat} (hg : Gl X "enumerate") (hm : X.mg "enumerate" = none) (ha : PA X [e] ta) (hs : starEach [e] X.env = [(false, eval e X.env)] := by rfl) :
    PI X (.Tuple elts kk tpos) (.Call (.Name "enumerate" p) [e] [] pos) (iEnumS X.K ta) := by
  refine ⟨fun pins s σ H R I h => ?_⟩
  refine Call_ (ld_blt I hg hm boot_enumerate (PyProof.Rows.callWith_type1 (thn (ha.run pos pins s σ H _ I h) fun us s1 ⟨vs, H1, I1, r1, a, ex, q1⟩ => ?_) hs rfl))
  subst ex
  have fresh : ∀ b, b ∈ [s1.heap.objs.size + 1, s1.heap.objs.size] → FpOk X pins H1 b := fun b hb => by
    have hle : s1.heap.objs.size ≤ b := by
      rcases (show b = s1.heap.objs.size + 1 ∨ b = s1.heap.objs.size by simpa using hb) with z | z <;> omega
    exact I1.fpOk hle (I1.hok.fresh hle)
  cases r1 with
  | cons r rr =>
    cases rr
    cases r
    rcases q1 with ⟨xs, hq, q⟩ | ⟨xs, hq, q⟩
    · obtain ⟨its, rv, p', hz⟩ := I1.list hq
      exact call_enumerate_list p'.isList fun h' he hit _ hk => wpAny_pyIter_enum he ⟨_, _, _, _, H1, rfl, I1.kept (t' := s1.toks) hk, turn_enum a _ _, ⟨⟨.none, he⟩, hit, Nat.succ_ne_self _⟩, fresh, q⟩
    · obtain ⟨its, rv, p', hz⟩ := I1.tuple hq
      exact ash_call_enumT (show s1.heap.IsTuple a its.toArray from p') fun h' he hit hk => wpAny_pyIter_enum he ⟨_, _, _, _, H1, rfl, I1.kept (t' := s1.toks) hk, turn_enumT a _ _, ⟨⟨.none, he⟩, hit, Nat.succ_ne_self _⟩, fresh, q⟩
theorem walk_enumT {K : PySem.W.Frag} {a : Addr} {xs : List V} : Walk (Itet K a) xs.length (fun H => SqT K H a xs) (YPair (fun i => some (.int (i : Nat))) (fun i => xs[i]?)) := by
  refine ⟨fun i _ hi q => ⟨xs, xs[i], q, by simp [hi]⟩, fun _ q => ⟨xs, q, Nat.le_refl _⟩, fun i H v H' _ q y => ?_⟩
  obtain ⟨T, x, h1, h2, h3, h4⟩ := y
  exact ⟨T, .int (i : Nat), x, h1, h2, h3, rfl, h4 xs q⟩
end Ash

set_option Elab.async false
set_option linter.all false
set_option maxRecDepth 100000
set_option maxHeartbeats 4000000
namespace L2
open PySem PySem.Spec PyProof.Rows
/-! ### an own __eq__ asked by !=, an own __len__, list(d.values()) -/
/-- a name of a written namespace -/
theorem ns_at {K : PySem.W.Frag} {h : Heap} {N : Addr} {mN : Str → Option Value} {n : Str} {v : Value} (X : K.In h) (G : h.Ns N mN) (e : PySem.W.nsIn K N n = some (some v)) : mN n = some v := by
  obtain ⟨o, es, ep, ho, hd, _, hf⟩ := G
  unfold PySem.W.nsIn at e
  split at e
  case h_2 => cases e
  case h_1 c d es' n' sl q =>
    have z := X _ _ q
    rw [ho] at z
    cases z
    cases hd
    split at e
    case h_2 => split at e <;> cases e
    case h_1 en he =>
      cases e
      rw [← hf]
      unfold nsFind findBy
      rw [← Array.find?_toList, he]
      rfl
/-- a plain class with an own __eq__ and no __ne__ -/
structure NeC (K : PySem.W.Frag) (C f : Addr) : Prop where
  ex : ∃ (nm q : Str) (N : Addr) (bs : List Value) (hd : Bool) (sn : List Str) (sub : List Value) (ab : Bool) (col : Option Bool) (dd : Option Addr) (k0 k1 k2 k3 k5 : Option Value) (nid : String) (fo : Obj),
    K.lookup C = some (excClassObj nm q C N bs [.type "object"] hd sn sub ab col dd k0 k1 k2 k3 k5 nid) ∧ PySem.W.nsOkIn K N = true ∧ PySem.W.nsIn K N "__eq__" = some (some (.ref f)) ∧ PySem.W.nsIn K N "__ne__" = some none ∧ K.lookup f = some fo ∧ fo.cls = .type "function"
theorem obj_eq : ∃ y, typeLookup (.type "object") "__eq__" = pure y := ⟨_, PySem.F.cmp_object.eq.lookup⟩
section
variable {X : Cx} {n : Nat} {CX : CXT} {C f : Addr} {fd : FuncData} {ps : List Str} {R : Addr → Addr → Hp → Prop} {E : XK}
theorem op_neG (F : FnOk X.prog X.w X.K X.mg X.base CX n f fd ps (spEq R)) (Z : NeC X.K C f) (hb : Binds X.K fd ps []) (hx : Passes CX X E) (hr : Room (n + 2) X.A) :
    OpR X (compareOp .NotEq) (fun x y H Q => DIns C R x y H ∧ ∀ H', Ext H H' → Q (.bl false) H') := by
  intro pins s σ H x y v u Q I rx ry hq
  obtain ⟨⟨a, b, dx, dy, fs, gs, rfl, rfl, ha, hb', hR⟩, q⟩ := hq
  cases rx
  cases ry
  obtain ⟨mA, J, _⟩ := ins_get I.hok ha
  obtain ⟨mB, J', _⟩ := ins_get I.hok hb'
  obtain ⟨od, J, _⟩ := J.look
  obtain ⟨od', J', _⟩ := J'.look
  obtain ⟨nm, qn, N, bs, hd, sn, sub, ab, col, dd, k0, k1, k2, k3, k5, nid, fo, z1, z2, z3, z4, z5, z6⟩ := Z.ex
  have XK := I.kIn
  have Gn := Heap.Ns.of_isNs (PySem.W.isNs_of_in XK z2)
  obtain ⟨y0, hy0⟩ := obj_eq
  have Y : s.heap.OwnEqNoNe a C f "object" [.type "object"] := ⟨_, fo, nm, qn, N, bs, hd, sn, sub, ab, col, dd, k0, k1, k2, k3, k5, nid, _, y0, J.at_, J.cls, XK _ _ z1, Gn, ns_at XK Gn z3, XK _ _ z5, z6, PySem.F.mro_object, hy0, PySem.W.ns_none_of XK Gn z4⟩
  obtain ⟨hp, gg, dw, tk, os⟩ := s
  refine compareOp_ne_ownEq PySem.F.cmp_object Y J'.at_ J'.cls hr.in1.units0 ?_
  have hsp : spEq R [.ref a, .ref b] H (fun v H' => v = .bl true ∧ Ext H H') E := ⟨a, b, rfl, hR, fun H' e => ⟨rfl, e⟩⟩
  have e0 : Env0 X.prog X.w X.K X.mg X.base X.A.in1 X.stack ⟨hp, gg, dw, tk, os⟩ H := by
    have e := I.env0
    exact ⟨e.frames, e.mod, e.bs, e.bsz, e.funs, e.frf, e.hok, e.bare⟩
  have hl := F.len _ _ _ _ hsp
  have r2 : Vals [V.ref a, V.ref b] [Value.ref a, Value.ref b] := .cons rfl (.cons rfl .nil)
  refine wpAny_call (codeAny_mono (F.run X.A.in1 X.stack _ H ⟨[.ref a, .ref b], []⟩ [.ref a, .ref b] [.ref a, .ref b] _ E (hr.in1.mono (by omega)) e0 (by
    have := hb ⟨hp, gg, dw, tk, os⟩ [.ref a, .ref b] I.kIn (by simpa using hl)
    simpa using this) r2 hsp) fun r s' hq => ?_)
  cases r with
  | error e => exact hx pins σ H _ e s' I hq
  | ok fl =>
    cases fl with
    | ret w =>
      obtain ⟨z, H', I', rz, ez, ex⟩ := I.after hq
      subst ez
      cases rz
      exact ⟨true, rfl, .bl false, H', I', rfl, q H' ex⟩
    | next => exact False.elim hq
    | brk => exact False.elim hq
    | cont => exact False.elim hq
/-- len(o) by an own __len__ -/
theorem call_lenI {sp : Sp} (F : FnOk X.prog X.w X.K X.mg X.base CX n f fd ["self"] sp) (hs : PySem.W.findIn X.K (.ref C) "__len__" = some (some (.ref f))) (hf : PySem.W.isFn X.K (.ref f) = true) (hb : Binds X.K fd ["self"] []) (hx : Passes CX X E) (hr : Room (n + 1) X.A) :
    CallR X (.builtin "len") (fun xs H Q => ∃ a dx fs, xs = [.ref a] ∧ H a = some (.ins C dx fs) ∧ sp [.ref a] H (fun v H' => ∃ m : Nat, v = .int m ∧ m < 2 ^ 62 ∧ Q (.int m) H') E) := by
  intro pins s σ H xs us Q I r h
  obtain ⟨a, dx, fs, rfl, ha, h⟩ := h
  rw [Vals.ref1 r]
  obtain ⟨mA, J, _⟩ := ins_get I.hok ha
  obtain ⟨od, J, _⟩ := J.look
  obtain ⟨m, hF⟩ := I.fr
  refine PySem.W.len_K hF I.ok.mod.kin J hs hf ?_
  have e0 : Env0 X.prog X.w X.K X.mg X.base X.A.in1 X.stack s H := by
    have e := I.env0
    exact ⟨e.frames, e.mod, e.bs, e.bsz, e.funs, e.frf, e.hok, e.bare⟩
  have hl := F.len _ _ _ _ h
  refine wpAny_call (codeAny_mono (F.run X.A.in1 X.stack _ H ⟨[.ref a], []⟩ [.ref a] [.ref a] _ E (hr.in1.mono (by omega)) e0 (by
    have := hb s [.ref a] I.kIn (by simpa using hl)
    simpa using this) (.cons rfl .nil) h) fun r s' hq => ?_)
  cases r with
  | error e => exact hx pins σ H _ e s' I hq
  | ok fl =>
    cases fl with
    | ret w =>
      obtain ⟨z, H', I', rz, m, ez, hm, q⟩ := I.after hq
      subst ez
      obtain ⟨t, rfl⟩ := rz
      exact ⟨⟨Int.natCast_nonneg m, by omega⟩, .int m, H', I'.tok _, ⟨_, rfl⟩, q⟩
    | next => exact False.elim hq
    | brk => exact False.elim hq
    | cont => exact False.elim hq
/-- the same object -/
def DOne : Eqv := fun x y _ => x = y ∧ ∃ a, x = .ref a
theorem mon_one : Mon DOne := fun _ _ _ _ _ d => d
theorem eqG_one : EqG X 0 DOne := by
  intro A pins s σ H x y u v sb I rx ry d
  obtain ⟨rfl, a, rfl⟩ := d
  cases rx
  cases ry
  exact SeqAt.EqAt.same (A := A) (s := s) (.ref a) X.prog X.w X.xe _ ⟨rfl, H, I, Ext.rfl'⟩
end
section
variable {X : Cx} {o : Expr} {p pos apos mpos : Pos} {td : TE}
/-- list(o.values()) of a dict -/
def tListVals (td : TE) : TE := fun σ H Q => td σ H fun x H1 => ∃ a kvs, x = V.ref a ∧ H1 a = some (.dK kvs) ∧ ∀ l, H1 l = none → Q (.ref l) (upd H1 l (.lst (kvs.map (·.2))))
theorem vals_vals {kvs : List (Key × V)} {vs : List (Key × Value)} (r : KV kvs vs) {us : List Value} (hn : us.length = vs.length) (hu : ∀ (j : Nat) v, us[j]? = some v → ∃ k, vs[j]? = some (k, v)) : Vals (kvs.map (·.2)) us := by
  have e : us = vs.map (·.2) := PySem.W.kdl_vals_eq us hn hu
  subst e
  unfold KV at r
  clear hn hu
  induction r with
  | nil => exact .nil
  | cons h t ih => exact .cons h.2 ih
theorem pe_listVals (hcalm : X.calm = true) (hg : Gl X "list") (hm : X.mg "list" = none) (hd : PE X o td) (hbase : attributeBase o "values" X.env (eval o X.env) = eval o X.env := by rfl) (hline : (apos.endLine == mpos.line) = true := by rfl)
    (hse : starEach [Expr.Call (.Attribute o "values" apos) [] [] mpos] X.env = [(false, eval (Expr.Call (.Attribute o "values" apos) [] [] mpos) X.env)] := by rfl) :
    PE X (.Call (.Name "list" p) [.Call (.Attribute o "values" apos) [] [] mpos] [] pos) (tListVals td) := by
  refine ⟨fun pins s σ H Q I h => ?_⟩
  refine wpAny_Call_Name_kw (ld_blt I hg hm (u := .type "list") (by first | rfl | decide +kernel) ?_ (by first | decide +kernel | decide) (by first | decide +kernel | decide))
  rw [hse]
  refine PySem.callWith_type1 (wpAny_Call_method0_late hbase hline (thn (hd.run pins s σ H _ I h) fun v s1 ⟨x, H1, I1, r1, a, kvs, ex, ha, q⟩ => ?_))
  subst ex
  obtain rfl : v = Value.ref a := r1
  obtain ⟨hz, hsys, vs, rel, dof⟩ := dk_of I1.hok ha
  obtain ⟨ep, dat⟩ := dof.dictAt
  obtain ⟨ob, es, ho, ex, _⟩ := id dat
  refine ⟨"dict", "dict.values", F.plainAttrs_dict, F.slot_dict_values, F.type_dict_values, ⟨ob, ho, ex.1⟩, fun b e => ?_, Calls.callWith_builtin rfl (PySem.evalArgs_none ?_)⟩
  · cases e
    exact ⟨ob, ho, ex.2.1⟩
  refine call_meetsIn F.slot_dict_values ⟨ob, ho, ex.1⟩ F.entry_dict_values (F.args_dict_values_1 _) (meets_dict_values (mixKind X.prog X.w) a hsys) ⟨⟨vs, dof⟩, ?_⟩
  have up : ∀ b u, s1.heap.get? b = some u → (s1.heap.push { cls := .type "dict_values", data := .fields #[.ref a] }).get? b = some u := fun b u e => Heap.get?_push_of_some _ e
  have hlen : vs.length = kvs.length := (KV.length rel).symm
  refine PySem.W.kdl_call (PySem.W.kdl_values (knd := mixKind X.prog X.w) (kvs := vs) (ep := ep)) (I1.ok.hd hcalm) ⟨⟨_, Heap.get?_push_size _ rfl, rfl, rfl⟩, dat.keep up⟩ (by rw [hlen]; exact hz) fun h' tk acc c' hk hD hacc => ?_
  have hv : Vals (kvs.map (·.2)) acc.toList := vals_vals rel (by rw [Array.length_toList]; exact hacc.1) fun j v e => hacc.2 j v (by rw [← Array.getElem?_toList]; exact e)
  refine ⟨.ref _, upd H1 _ (.lst (kvs.map (·.2))), I1.laid (t' := tk) (fun b u e => hk b u (up b u e)) (Nat.le_of_lt (Nat.lt_of_lt_of_le (Nat.lt_succ_self _) (by rw [Heap.size_push]; exact Nat.le_refl _)))
    (show ObjOk X.prog X.w _ _ _ (.lst (kvs.map (·.2))) from ⟨by rw [List.length_map]; exact hz, acc.toList, c', hv, by rw [Array.toArray_toList]; exact hD⟩), rfl, q _ (I1.hok.fresh (Nat.le_of_lt (Nat.lt_of_lt_of_le (Nat.lt_succ_self _) (by rw [Heap.size_push]; exact Nat.le_refl _))))⟩
end
end L2

set_option Elab.async false
set_option linter.all false
set_option maxRecDepth 100000
set_option maxHeartbeats 4000000
namespace L2
open PySem PySem.Spec PyProof.Rows
open Sem (wp)
open Builtin
/-! ### != of instances of one class, whose __eq__ may be inherited -/
section
open PySem.W PySem.Calls
variable {prog : Program} {w : World} {A : Around} {E : Value → Shared → Prop} {s : Shared} {K : PySem.W.Frag} {x y C f : Addr} {ox oy : Obj} {od od' : Option Obj}
theorem ifBound_slot {M : Model} {name : Str} {id : String} {args : List Value} {Q : Option Value → Shared → Prop} (X : K.In s.heap) (I : InstAt s.heap x ox C od) (hs : findIn K (.ref C) name = some (some (.builtin id))) (hb : ∀ v, bindSpecial (.builtin id) v = pure (.builtin id, [v]))
    (h : wpAny M A (call (.builtin id) (.ref x :: args)) (fun v => Q (some v)) E s) : wpAny M A (callSpecialIfBound? (.ref x) name args) Q E s := by
  simp only [callSpecialIfBound?, bindSpecialIfBound?]
  refine wpAny_holding (wpAny_bind (wpAny_bind (wpAny_bind (I.type.here ((looks_findIn X hs).here ?_)))))
  refine wpAny_bind (wpAny_askSetting (wpAny_ite ?_))
  have fin : wpAny M A (call (.builtin id) ([.ref x] ++ args) >>= fun v => pure (some v)) Q E s := wpAny_bind (wpAny_mono h (fun v s' h' => wpAny_pure h') fun _ _ h' => h')
  rw [hb]
  split
  · exact wpAny_bind (wpAny_pure (wpAny_pure fin))
  · exact wpAny_tryCatch (wpAny_bind (wpAny_pure (wpAny_pure fin)))
theorem objNe_K {b : Value} {Q : Fin → Shared → Prop} (hu : A.units < cLine) (X : K.In s.heap) (I : InstAt s.heap x ox C od) (he : findIn K (.ref C) "__eq__" = some (some (.ref f))) (hf : isFn K (.ref f) = true)
    (hcall : wpAny (model prog w) A (call (.ref f) [.ref x, b]) (fun v s' => ∃ c, v = .bool c ∧ Q (.done (.ret (.bool (!c)))) s') E s) :
    wpAny (model prog w) A (Builtin.«object.__ne__» ⟨[.ref x, b], []⟩) Q E s := by
  unfold Builtin.«object.__ne__»
  repeat (first
    | with_reducible refine wpAny_cRoomFor hu ?_
    | (refine wpAny_bind (m := callSpecialIfBound? (.ref x) (Str.ofString "__eq__") [b])
        (ifBound_K X I he hf (wpAny_mono hcall (fun r s' hr => by
          obtain ⟨c, rfl, hq⟩ := hr
          repeat (first | exact hq | exact wpAny_pure hq | exact wpAny_truthy_bool hq | (refine wpAny_bind (m := truthy (.bool _)) (wpAny_truthy_bool ?_)) | wp_step)) fun _ _ e => e)))
    | wp_step)
theorem tryNe_K {b : Value} {Q : Option Value → Shared → Prop} (hu : A.units + 1 < cLine) (X : K.In s.heap) (I : InstAt s.heap x ox C od) (hn : findIn K (.ref C) "__ne__" = some (some (.builtin "object.__ne__"))) (he : findIn K (.ref C) "__eq__" = some (some (.ref f))) (hf : isFn K (.ref f) = true)
    (hob : subIn K (.ref C) (.type "object") = some true)
    (hcall : wpAny (model prog w) A.in1 (call (.ref f) [.ref x, b]) (fun v s' => ∃ c, v = .bool c ∧ Q (some (.bool (!c))) s') E s) :
    wpAny (model prog w) A (tryCompare (.ref x) "__ne__" b) Q E s := by
  simp only [tryCompare]
  have hi : Looks (model prog w) s.heap (isInstance (.ref x) (.type "object")) true := I.type.andThen (looks_subIn X hob)
  refine wpAny_bind (ifBound_slot X I hn PySem.F.cmp_object.ne.bind (wpAny_call (codeAny_call_builtin PySem.F.cmp_object.ne.plain F.cmpEntry_ne
    (check_slot F.cmpKind_ne F.cmpSplit_ne hi (F.cmpArgs_ne _ _)
      (objNe_K (A := A.in1) hu X I he hf (wpAny_mono hcall (fun v s' hv => ?_) fun _ _ e => e))))))
  obtain ⟨c, rfl, hq⟩ := hv
  first | exact ⟨c, rfl, wpAny_pure hq⟩ | exact ⟨c, rfl, wpAny_pure (wpAny_pure hq)⟩ | exact ⟨c, rfl, hq⟩
theorem compareNe_K {Q : Value → Shared → Prop} (hu : A.units + 1 < cLine) (X : K.In s.heap) (I : InstAt s.heap x ox C od) (J : InstAt s.heap y oy C od') (hn : findIn K (.ref C) "__ne__" = some (some (.builtin "object.__ne__"))) (he : findIn K (.ref C) "__eq__" = some (some (.ref f))) (hf : isFn K (.ref f) = true)
    (hob : subIn K (.ref C) (.type "object") = some true)
    (hcall : wpAny (model prog w) A.in1 (call (.ref f) [.ref x, .ref y]) (fun v s' => ∃ c, v = .bool c ∧ Q (.bool (!c)) s') E s) :
    wpAny (model prog w) A (compareOp .NotEq (.ref x) (.ref y)) Q E s := by
  unfold compareOp richCompare
  simp only [oneThing_ref]
  refine wpAny_holding (wpAny_bind (wpAny_cRoomFor (Nat.lt_of_succ_lt hu) ?_))
  rw [cmpInfo_NotEq]
  dsimp only
  refine wpAny_bind (I.type.here (wpAny_bind (J.type.here ?_)))
  rw [show (Value.ref C != Value.ref C) = false from by simp]
  simp only [Bool.false_eq_true, if_false]
  refine wpAny_bind (wpAny_pure ?_)
  simp only [Bool.false_eq_true, if_false]
  refine wpAny_bind (tryNe_K hu X I hn he hf hob (wpAny_mono hcall (fun v s' hv => ?_) fun _ _ e => e))
  obtain ⟨c, rfl, hq⟩ := hv
  first | exact ⟨c, rfl, wpAny_pure hq⟩ | exact ⟨c, rfl, wpAny_pure (wpAny_pure hq)⟩
end
/-- what the top says of != in a family of classes -/
structure NeF (K : PySem.W.Frag) (S : Addr → Prop) (f : Addr) : Prop where
  ne : ∀ C, S C → PySem.W.findIn K (.ref C) "__ne__" = some (some (.builtin "object.__ne__"))
  eq : ∀ C, S C → PySem.W.findIn K (.ref C) "__eq__" = some (some (.ref f))
  fn : PySem.W.isFn K (.ref f) = true
  ob : ∀ C, S C → PySem.W.subIn K (.ref C) (.type "object") = some true
section
variable {X : Cx} {n : Nat} {CX : CXT} {f : Addr} {fd : FuncData} {ps : List Str} {S : Addr → Prop} {sp : Sp} {E : XK}
/-- x != y of two instances of one class: not what the own __eq__ says -/
def rNeF (S : Addr → Prop) (sp : Sp) (E : XK) : R2 := fun x y H Q => ∃ a b C dx dy fs gs, x = .ref a ∧ y = .ref b ∧ H a = some (.ins C dx fs) ∧ H b = some (.ins C dy gs) ∧ S C ∧ sp [x, y] H (fun v H' => ∃ c, v = .bl c ∧ Q (.bl (!c)) H') E
theorem op_neF (Z : NeF X.K S f) (F : FnOk X.prog X.w X.K X.mg X.base CX n f fd ps sp) (hb : Binds X.K fd ps []) (hx : Passes CX X E) (hr : Room (n + 2) X.A) : OpR X (compareOp .NotEq) (rNeF S sp E) := by
  intro pins s σ H x y v u Q I rx ry hq
  obtain ⟨a, b, C, dx, dy, fs, gs, rfl, rfl, ha, hb', sC, hsp⟩ := hq
  cases rx
  cases ry
  obtain ⟨mA, J, _⟩ := ins_get I.hok ha
  obtain ⟨mB, J', _⟩ := ins_get I.hok hb'
  obtain ⟨od, J, _⟩ := J.look
  obtain ⟨od', J', _⟩ := J'.look
  refine compareNe_K hr.in1.units0 I.kIn J J' (Z.ne C sC) (Z.eq C sC) Z.fn (Z.ob C sC) ?_
  have e0 : Env0 X.prog X.w X.K X.mg X.base X.A.in1 X.stack s H := by
    have e := I.env0
    exact ⟨e.frames, e.mod, e.bs, e.bsz, e.funs, e.frf, e.hok, e.bare⟩
  have hl := F.len _ _ _ _ hsp
  have r2 : Vals [V.ref a, V.ref b] [Value.ref a, Value.ref b] := .cons rfl (.cons rfl .nil)
  refine wpAny_call (codeAny_mono (F.run X.A.in1 X.stack _ H ⟨[.ref a, .ref b], []⟩ [.ref a, .ref b] [.ref a, .ref b] _ E (hr.in1.mono (by omega)) e0 (by
    have := hb s [.ref a, .ref b] I.kIn (by simpa using hl)
    simpa using this) r2 hsp) fun r s' hq => ?_)
  cases r with
  | error e => exact hx pins σ H _ e s' I hq
  | ok fl =>
    cases fl with
    | ret w =>
      obtain ⟨z, H', I', rz, c, ez, ex⟩ := I.after hq
      subst ez
      cases rz
      exact ⟨c, rfl, .bl (!c), H', I', rfl, ex⟩
    | next => exact False.elim hq
    | brk => exact False.elim hq
    | cont => exact False.elim hq
end
end L2

set_option Elab.async false
set_option linter.all false
set_option maxRecDepth 100000
set_option maxHeartbeats 4000000
namespace L2
open PySem PySem.Spec PyProof.Rows
open Sem (wp)
open Builtin
/-! ### == and != of an instance of a family of classes with any other thing -/
section
open PySem.W PySem.Calls
variable {prog : Program} {w : World} {A : Around} {E : Value → Shared → Prop} {s : Shared} {K : PySem.W.Frag} {x C f : Addr} {b tb : Value} {ox : Obj} {od : Option Obj}
theorem compareNe_V {Q : Value → Shared → Prop} (hu : A.units + 1 < cLine) (X : K.In s.heap) (I : InstAt s.heap x ox C od) (hb : Looks (model prog w) s.heap (typeOf b) tb) (hn0 : notFirst K C tb = true) (hn : findIn K (.ref C) "__ne__" = some (some (.builtin "object.__ne__"))) (he : findIn K (.ref C) "__eq__" = some (some (.ref f))) (hf : isFn K (.ref f) = true)
    (hob : subIn K (.ref C) (.type "object") = some true)
    (hcall : wpAny (model prog w) A.in1 (call (.ref f) [.ref x, b]) (fun v s' => ∃ c, v = .bool c ∧ Q (.bool (!c)) s') E s) :
    wpAny (model prog w) A (compareOp .NotEq (.ref x) b) Q E s := by
  have one : wpAny (model prog w) A (tryCompare (.ref x) "__ne__" b) (fun r s' => ∃ c, r = some (.bool c) ∧ Q (.bool c) s') E s := tryNe_K hu X I hn he hf hob (wpAny_mono hcall (fun v s' hv => by
    obtain ⟨c, rfl, hq⟩ := hv
    exact ⟨c, rfl, _, rfl, hq⟩) fun _ _ e => e)
  unfold compareOp richCompare
  simp only [oneThing_ref]
  refine wpAny_holding (wpAny_bind (wpAny_cRoomFor (Nat.lt_of_succ_lt hu) ?_))
  rw [cmpInfo_NotEq]
  dsimp only
  refine wpAny_bind (I.type.here (wpAny_bind (hb.here ?_)))
  split
  · rename_i q
    have e : subIn K tb (.ref C) = some false := by
      rcases Bool.or_eq_true_iff.mp hn0 with e | e
      · rw [beq_iff_eq.mp e] at q; simp at q
      · exact beq_iff_eq.mp e
    refine wpAny_bind ((looks_subIn X e).here ?_)
    simp only [Bool.false_eq_true, if_false]
    refine wpAny_bind (wpAny_mono one (fun r s' z => ?_) fun _ _ e => e)
    obtain ⟨c, rfl, hq⟩ := z
    exact wpAny_pure hq
  · refine wpAny_bind (wpAny_pure ?_)
    simp only [Bool.false_eq_true, if_false]
    refine wpAny_bind (wpAny_mono one (fun r s' z => ?_) fun _ _ e => e)
    obtain ⟨c, rfl, hq⟩ := z
    exact wpAny_pure hq
end
section
variable {X : Cx} {n : Nat} {CX : CXT} {f : Addr} {fd : FuncData} {ps : List Str} {S : Addr → Prop} {sp : Sp} {E : XK}
def rEqF (K : PySem.W.Frag) (S : Addr → Prop) (sp : Sp) (E : XK) : R2 := fun x y H Q => ∃ a C dx fs t, x = .ref a ∧ H a = some (.ins C dx fs) ∧ S C ∧ TyX K H y t ∧ PySem.W.notFirst K C t = true ∧ sp [x, y] H Q E
theorem op_eqF (Z : NeF X.K S f) (F : FnOk X.prog X.w X.K X.mg X.base CX n f fd ps sp) (hb : Binds X.K fd ps []) (hx : Passes CX X E) (hr : Room n X.A) : OpR X (compareOp .Eq) (rEqF X.K S sp E) := by
  intro pins s σ H x y v u Q I rx ry hq
  obtain ⟨a, C, dx, fs, t, rfl, ha, sC, ty, nf, hsp⟩ := hq
  cases rx
  obtain ⟨mA, J, _⟩ := ins_get I.hok ha
  obtain ⟨od, J, _⟩ := J.look
  obtain ⟨m, Fm⟩ := I.fr
  obtain ⟨Pk, kx, hp, _⟩ := kit_of I ry ty
  refine PySem.W.cmp_K (op := .Eq) (tb := t) hr.units0 Fm I.ok.mod.kin J (kx.ty _ _ I.kIn hp) nf (Z.eq C sC) Z.fn (wpAny_mono (run_fn (us := [.ref a, u]) (vs := [.ref a, y]) F hr hb .nil hx I (.cons rfl (.cons ry .nil)) hsp) (fun z s' hz => ?_) fun _ _ e => e)
  obtain ⟨zv, H', I', rz, q⟩ := hz
  exact SlX.cmpback rz ⟨zv, H', I', rz, q⟩
def rNeFV (K : PySem.W.Frag) (S : Addr → Prop) (sp : Sp) (E : XK) : R2 := fun x y H Q => ∃ a C dx fs t, x = .ref a ∧ H a = some (.ins C dx fs) ∧ S C ∧ TyX K H y t ∧ PySem.W.notFirst K C t = true ∧ sp [x, y] H (fun v H' => ∃ c, v = .bl c ∧ Q (.bl (!c)) H') E
theorem op_neFV (Z : NeF X.K S f) (F : FnOk X.prog X.w X.K X.mg X.base CX n f fd ps sp) (hb : Binds X.K fd ps []) (hx : Passes CX X E) (hr : Room (n + 2) X.A) : OpR X (compareOp .NotEq) (rNeFV X.K S sp E) := by
  intro pins s σ H x y v u Q I rx ry hq
  obtain ⟨a, C, dx, fs, t, rfl, ha, sC, ty, nf, hsp⟩ := hq
  cases rx
  obtain ⟨mA, J, _⟩ := ins_get I.hok ha
  obtain ⟨od, J, _⟩ := J.look
  obtain ⟨Pk, kx, hp, _⟩ := kit_of I ry ty
  refine compareNe_V hr.in1.units0 I.kIn J (kx.ty _ _ I.kIn hp) nf (Z.ne C sC) (Z.eq C sC) Z.fn (Z.ob C sC) ?_
  have e0 : Env0 X.prog X.w X.K X.mg X.base X.A.in1 X.stack s H := by
    have e := I.env0
    exact ⟨e.frames, e.mod, e.bs, e.bsz, e.funs, e.frf, e.hok, e.bare⟩
  have hl := F.len _ _ _ _ hsp
  have r2 : Vals [V.ref a, y] [Value.ref a, u] := .cons rfl (.cons ry .nil)
  refine wpAny_call (codeAny_mono (F.run X.A.in1 X.stack _ H ⟨[.ref a, u], []⟩ [.ref a, u] [.ref a, y] _ E (hr.in1.mono (by omega)) e0 (by
    have := hb s [.ref a, u] I.kIn (by simpa using hl)
    simpa using this) r2 hsp) fun r s' hq => ?_)
  cases r with
  | error e => exact hx pins σ H _ e s' I hq
  | ok fl =>
    cases fl with
    | ret w =>
      obtain ⟨z, H', I', rz, c, ez, ex⟩ := I.after hq
      subst ez
      cases rz
      exact ⟨c, rfl, .bl (!c), H', I', rfl, ex⟩
    | next => exact False.elim hq
    | brk => exact False.elim hq
    | cont => exact False.elim hq
end
end L2

set_option Elab.async false
set_option linter.all false
set_option maxRecDepth 100000
set_option maxHeartbeats 4000000
namespace Ash
open PySem PySem.Spec PyProof.Rows L2
/-! ### equality by identity, item by item -/
def SameV (x y : V) : Prop := (flatV x = true ∧ flatV y = true ∧ eqV x y = true) ∨ (x = y ∧ ∃ a, x = .ref a)
def SeqS (K : PySem.W.Frag) (H : Hp) (x y : V) : Prop := ∃ a b xs ys, x = .ref a ∧ y = .ref b ∧ SqT K H a xs ∧ SqT K H b ys ∧ xs.length = ys.length ∧ ∀ (i : Nat) u v, xs[i]? = some u → ys[i]? = some v → SameV u v
section
variable {X : Cx}
theorem same_at {A : Around} {s : Shared} {x y : V} {u v : Value} (h : SameV x y) (rx : RelV x u) (ry : RelV y v) : SeqAt.EqAt A s u v true := by
  rcases h with ⟨fx, fy, e⟩ | ⟨rfl, a, rfl⟩
  · have q := eqAt_V (A := A) (s := s) rx ry fx fy
    rw [e] at q
    exact q
  · cases (show u = Value.ref a from rx)
    cases (show v = Value.ref a from ry)
    exact SeqAt.EqAt.same _
theorem op_neS (hu : X.A.units < cLine) : OpR X (compareOp .NotEq) (fun x y H Q => SeqS X.K H x y ∧ Q (.bl false) H) := by
  intro pins s σ H x y v u Q I rx ry ⟨h, q⟩
  obtain ⟨a, b, xs, ys, rfl, rfl, ha, hb, hl, hi⟩ := h
  cases (show v = Value.ref a from rx)
  cases (show u = Value.ref b from ry)
  obtain ⟨i1, r1, t1, z1⟩ := I.tuple ha
  obtain ⟨i2, r2, t2, z2⟩ := I.tuple hb
  have l1 := r1.length
  have l2 := r2.length
  have e : (!((List.range (min i1.toArray.size i2.toArray.size)).all (fun _ => true) && i1.toArray.size == i2.toArray.size)) = false := by
    have : i1.toArray.size = i2.toArray.size := by simp; omega
    simp [this]
  have key := SeqAt.RcNeAt.tuples (A := X.A) (s := s) (e := fun _ => true) (show s.heap.IsTuple a i1.toArray from t1) (show s.heap.IsTuple b i2.toArray from t2) hu fun j h1 h2 => by
    have h1' : j < i1.length := by simpa using h1
    have h2' : j < i2.length := by simpa using h2
    have x1 : xs[j]? = some xs[j] := List.getElem?_eq_getElem (by omega)
    have y1 : ys[j]? = some ys[j] := List.getElem?_eq_getElem (by omega)
    obtain ⟨u1, e1, q1⟩ := r1.get x1
    obtain ⟨u2, e2, q2⟩ := r2.get y1
    have e1' : i1.toArray[j] = u1 := by
      rw [List.getElem?_eq_getElem h1'] at e1
      simpa using Option.some.inj e1
    have e2' : i2.toArray[j] = u2 := by
      rw [List.getElem?_eq_getElem h2'] at e2
      simpa using Option.some.inj e2
    rw [e1', e2']
    exact same_at (hi j _ _ x1 y1) q1 q2
  rw [e] at key
  exact key X.prog X.w X.xe _ ⟨.bl false, H, I, rfl, q⟩
end
end Ash

set_option Elab.async false
set_option linter.all false
set_option maxRecDepth 100000
set_option maxHeartbeats 4000000
namespace PySem.SeqAt
open AutoSeq1 (wpAny_loadPart')
open MeetsSeq PyProof.Rows
theorem ash_str_eq_declines_dict (b : Str) (u : Tok) (l : Addr) (c : Value) (es : Array DictEntry) (n : Nat) (dd : Option Addr) (sl : Array (Option Value)) :
    Meets (Builtin.«str.__eq__» ⟨[.str b u, .ref l], []⟩) (fun _ R s => s.heap.get? l = some { cls := c, dict := dd, data := .dict es n, slots := sl } ∧ R (.ok (.ret .notImplemented)) s) :=
  .of_wp fun prog w A R s h => by obtain ⟨hp, g, d, tk, os⟩ := s; obtain ⟨hl, h⟩ := h; wp_walk using wpAny_loadPart' hl, wpAny_load hl; exact ⟨_, rfl, h⟩
section
variable {A : Around} {s : Shared}
theorem RcAt.ash_dict_str {l : Addr} {dd : Option Addr} {es : Array DictEntry} {n : Nat} {sl : Array (Option Value)} (b : Str) (u : Tok) (ho : s.heap.get? l = some { cls := .type "dict", dict := dd, data := .dict es n, slots := sl }) (hu : A.units < cLine) : RcAt A s (.ref l) (.str b u) false := fun prog w E Q h => by
  have hT : s.TypeIs (.ref l) "dict" := ⟨_, ho, rfl⟩
  refine rc_eq_decline_or (k := false) hT (typeIs_str s b u) (by decide) F.sub_str_dict F.slot_dict_eq F.slot_str_eq_refl
    (fun Q' hq => ?_)
    (fun _ hq => call_meets F.slot_str_eq_refl (typeIs_str s b u) F.entry_str_eq (F.args_str_eq_2 _ _) (ash_str_eq_declines_dict b u l (.type "dict") es n dd sl) ⟨ho, hq⟩)
    (fun _ hq => wpAny_of_eq (rfl : isSame (.ref l) (.str b u) = pure false) hq) (.inr hu) h
  refine wpAny_call_entry PySem.F.slot_dict_eq hT PySem.F.entry_dict_eq ?_ (PySem.F.args_dict_eq_2 _ _)
  show wpAny _ _ (Builtin.Dict.dictSlotArgs "__eq__" ⟨[.ref l, .str b u], []⟩ >>= _) _ _ s
  refine wpAny_bind ?_
  unfold Builtin.Dict.dictSlotArgs
  refine wpAny_bind (wpAny_notOrdered_dict hT ?_)
  show wpAny _ _ (pure (Value.ref l, Value.str b u)) _ _ s
  refine wpAny_pure ?_
  refine wpAny_bind (wpAny_isInstance (T := "str") (typeIs_str s b u) PySem.F.sub_str_dict ?_)
  simp only [Bool.not_false, if_true]
  exact wpAny_bind (wpAny_rule (wpAny_pure ⟨_, rfl, hq⟩))
end
end PySem.SeqAt
namespace L2
open PySem PySem.Spec PyProof.Rows
theorem op_altT {X : Cx} {f : Value → Value → Sem Value} {r r' : R2} (h : OpR X f r) (h' : OpR X f r') : OpR X f (fun x y H Q => r x y H Q ∨ r' x y H Q) := by
  intro pins s σ H x y v u Q I rx ry q
  rcases q with q | q
  · exact h pins s σ H x y v u Q I rx ry q
  · exact h' pins s σ H x y v u Q I rx ry q
section
variable {X : Cx}
/-- a dict is no text -/
def rEqDS : R2 := fun x y H Q => ∃ a ks z, x = .ref a ∧ y = .str z ∧ H a = some (.dK ks) ∧ Q (.bl false) H
theorem op_eqDS (hu : X.A.units < cLine) : OpR X (compareOp .Eq) rEqDS := by
  intro pins s σ H x y v u Q I rx ry h
  obtain ⟨a, ks, n, rfl, rfl, ea, q⟩ := h
  obtain rfl : v = Value.ref a := rx
  obtain ⟨_, ya, va, ra, da⟩ := (show ObjOk X.prog X.w H s.heap a (.dK ks) from I.hok a _ ea)
  obtain ⟨o, es, ep, ho, he, hd, _⟩ := da
  obtain ⟨t, rfl⟩ := ry
  obtain ⟨cls, dd, data, sl⟩ := o
  simp only at hd
  obtain ⟨h1, h2, h3⟩ := he
  simp only at h1 h2 h3
  subst h1 h2 h3 hd
  exact SeqAt.RcAt.ash_dict_str n t ho hu X.prog X.w X.xe _ ⟨.bl false, H, I, rfl, q⟩
/-- == with a text, of anything -/
def rEqT (K : PySem.W.Frag) (CB : Addr) (sp : Sp) (E : XK) : R2 := fun x y H Q => rEq x y H Q ∨ (rEqD K x y H Q ∨ (rEqDS x y H Q ∨ rEqF K (fun C => C = CB) sp E x y H Q))
theorem op_eqT {CB f : Addr} {n : Nat} {CX : CXT} {fd : FuncData} {ps : List Str} {sp : Sp} {E : XK} (h1 : X.A.units + 64 < cLine) (Z : NeF X.K (fun C => C = CB) f) (F : FnOk X.prog X.w X.K X.mg X.base CX n f fd ps sp) (hb : Binds X.K fd ps []) (hx : Passes CX X E) (hr : Room n X.A) : OpR X (compareOp .Eq) (rEqT X.K CB sp E) :=
  op_altT op_eq (op_altT (op_eqD h1) (op_altT (op_eqDS (by omega)) (op_eqF Z F hb hx hr)))
end
end L2
namespace Ash
open PySem PySem.Spec PyProof.Rows L2
def SeqL (K : PySem.W.Frag) (H : Hp) (x y : V) : Prop := ∃ a b xs ys, x = .ref a ∧ y = .ref b ∧ SqL K H a xs ∧ SqL K H b ys ∧ xs.length = ys.length ∧ ∀ (i : Nat) u v, xs[i]? = some u → ys[i]? = some v → SameV u v
theorem op_neLS {X : Cx} (hu : X.A.units < cLine) : OpR X (compareOp .NotEq) (fun x y H Q => SeqL X.K H x y ∧ Q (.bl false) H) := by
  intro pins s σ H x y v u Q I rx ry ⟨h, q⟩
  obtain ⟨a, b, xs, ys, rfl, rfl, ha, hb, hl, hi⟩ := h
  cases (show v = Value.ref a from rx)
  cases (show u = Value.ref b from ry)
  obtain ⟨i1, r1, t1, z1⟩ := I.list ha
  obtain ⟨i2, r2, t2, z2⟩ := I.list hb
  have l1 := r1.length
  have l2 := r2.length
  have e : (!((List.range i1.toArray.size).all (fun _ => true))) = false := by simp
  have key := SeqAt.RcNeAt.lists (A := X.A) (s := s) (e := fun _ => true) (show s.heap.IsList a i1.toArray from t1.isList) (show s.heap.IsList b i2.toArray from t2.isList) (by simp; omega) hu fun j h1 h2 => by
    have h1' : j < i1.length := by simpa using h1
    have h2' : j < i2.length := by simpa using h2
    have x1 : xs[j]? = some xs[j] := List.getElem?_eq_getElem (by omega)
    have y1 : ys[j]? = some ys[j] := List.getElem?_eq_getElem (by omega)
    obtain ⟨u1, e1, q1⟩ := r1.get x1
    obtain ⟨u2, e2, q2⟩ := r2.get y1
    have e1' : i1.toArray[j] = u1 := by
      rw [List.getElem?_eq_getElem h1'] at e1
      simpa using Option.some.inj e1
    have e2' : i2.toArray[j] = u2 := by
      rw [List.getElem?_eq_getElem h2'] at e2
      simpa using Option.some.inj e2
    rw [e1', e2']
    exact same_at (hi j _ _ x1 y1) q1 q2
  rw [e] at key
  exact key X.prog X.w X.xe _ ⟨.bl false, H, I, rfl, q⟩
end Ash

set_option Elab.async false
set_option linter.all false
set_option maxRecDepth 100000
set_option maxHeartbeats 400000
set_option pp.maxSteps 300
namespace Ash
open PySem PySem.Spec PyProof.Rows L2
open C8 (pss_cut)
/-! ### things that may be entries -/
/-- the class of books -/
def BkC (K : PySem.W.Frag) (C : Addr) : Prop := PySem.W.nsIn K mainGlobals "Book" = some (some (.ref C))
theorem bkc_eq {K : PySem.W.Frag} {C D : Addr} (h : BkC K C) (g : BkC K D) : C = D := by
  unfold BkC at h g
  rw [h] at g
  exact Value.ref.inj (Option.some.inj (Option.some.inj g))
def spBookEqN (CB : Addr) : Sp := fun vs H Q _ => ∃ (a : Addr) (z : Str) (L : List (Str × Int)), vs = [.ref a, .str z] ∧ BookAt CB H a L ∧ Q (.bl false) H
theorem tyS {K : PySem.W.Frag} {H H' : Hp} {v : V} {t : Value} (h : TyX K H v t) (s : Same H H') : TyX K H' v t := by
  cases h with
  | base b =>
    refine .base ?_
    cases b with
    | non => exact .non
    | bl x => exact .bl x
    | int x => exact .int x
    | str x => exact .str x
    | flt x => exact .flt x
    | lst e => exact .lst (s _ _ e)
    | frz e => exact .frz (s _ _ e)
    | tup e => exact .tup (s _ _ e)
    | dK e => exact .dK (s _ _ e)
    | dT e => exact .dT (s _ _ e)
    | ins e c a b d f => exact .ins (s _ _ e) c a b d f
  | byt b => exact .byt b
  | set e => exact .set (s _ _ e)
  | kList e c => exact .kList e c
  | kTuple e c => exact .kTuple e c
  | kDict e c => exact .kDict e c
  | fTuple e => exact .fTuple (s _ _ e)
  | fDict e => exact .fDict (s _ _ e)
/-- no text -/
def NeS (K : PySem.W.Frag) (H : Hp) (v : V) : Prop := (∀ z : Str, scal v (.str z) = true ∧ v ≠ .str z) ∨ (∃ d, (∀ H', Same H H' → Dp K H' v d) ∧ SeqAt.shaped d = true ∧ ∀ z, PyData.eqv d (.str z) = false) ∨ (∃ a, v = .ref a ∧ H a = some (.dK [])) ∨ ∃ b C L, v = .ref b ∧ BkC K C ∧ BookAt C H b L
inductive It
  | int (n : Int) | str (z : Str) | oth
def ItA (K : PySem.W.Frag) (H : Hp) (v : V) : It → Prop
  | .int n => v = .int n
  | .str z => v = .str z ∧ z.length ≤ 20
  | .oth => NotInt K H v ∧ NotStr K H v ∧ NeS K H v
inductive ItsA (K : PySem.W.Frag) (H : Hp) : List V → List It → Prop
  | nil : ItsA K H [] []
  | cons {v : V} {i : It} {us : List V} {is : List It} : ItA K H v i → ItsA K H us is → ItsA K H (v :: us) (i :: is)
inductive Th
  | tup (is : List It) | no
def ThA (K : PySem.W.Frag) (H : Hp) (v : V) : Th → Prop
  | .tup is => ∃ a us, v = .ref a ∧ H a = some (.tup us) ∧ ItsA K H us is ∧ us.length ≤ 9
  | .no => NotTup K H v
section
variable {K : PySem.W.Frag} {H H' : Hp}
theorem ItA.same {v : V} {i : It} (h : ItA K H v i) (s : Same H H') : ItA K H' v i := by
  cases i with
  | int n => exact h
  | str z => exact h
  | oth =>
    obtain ⟨⟨t, bi, bb, h1, h2, h3, h4⟩, ⟨t', g1, g2⟩, h5⟩ := h
    refine ⟨⟨t, bi, bb, tyS h1 s, h2, h3, h4⟩, ⟨t', tyS g1 s, g2⟩, ?_⟩
    rcases h5 with h | ⟨d, h, k⟩ | ⟨a, e, h⟩ | ⟨b, C, L, e, hc, h⟩
    · exact .inl h
    · exact .inr (.inl ⟨d, fun H2 s2 => h _ (s.trans s2), k⟩)
    · exact .inr (.inr (.inl ⟨a, e, s _ _ h⟩))
    · exact .inr (.inr (.inr ⟨b, C, L, e, hc, h.same s⟩))
namespace ItsA
theorem same : ∀ {us : List V} {is : List It}, ItsA K H us is → Same H H' → ItsA K H' us is
  | _, _, .nil, _ => .nil
  | _, _, .cons h t, s => .cons (h.same s) (t.same s)
theorem len : ∀ {us : List V} {is : List It}, ItsA K H us is → us.length = is.length
  | _, _, .nil => rfl
  | _, _, .cons _ t => by rw [List.length_cons, List.length_cons, t.len]
theorem app : ∀ {us vs : List V} {is js : List It}, ItsA K H us is → ItsA K H vs js → ItsA K H (us ++ vs) (is ++ js)
  | _, _, _, _, .nil, b => b
  | _, _, _, _, .cons h t, b => .cons h (t.app b)
theorem take : ∀ {us : List V} {is : List It} (n : Nat), ItsA K H us is → ItsA K H (us.take n) (is.take n)
  | _, _, 0, _ => .nil
  | _, _, _ + 1, .nil => .nil
  | _, _, n + 1, .cons h t => .cons h (t.take n)
theorem drop : ∀ {us : List V} {is : List It} (n : Nat), ItsA K H us is → ItsA K H (us.drop n) (is.drop n)
  | _, _, 0, h => h
  | _, _, _ + 1, .nil => .nil
  | _, _, n + 1, .cons _ t => t.drop n
theorem set {v : V} {i : It} (h : ItA K H v i) : ∀ {us : List V} {is : List It} (n : Nat), ItsA K H us is → ItsA K H (us.set n v) (is.set n i)
  | _, _, _, .nil => .nil
  | _, _, 0, .cons _ t => .cons h t
  | _, _, n + 1, .cons g t => .cons g (ItsA.set h n t)
theorem erase : ∀ {us : List V} {is : List It} (n : Nat), ItsA K H us is → ItsA K H (us.eraseIdx n) (is.eraseIdx n)
  | _, _, _, .nil => .nil
  | _, _, 0, .cons _ t => t
  | _, _, n + 1, .cons g t => .cons g (t.erase n)
end ItsA
theorem ThA.same {v : V} {th : Th} (h : ThA K H v th) (s : Same H H') : ThA K H' v th := by
  cases th with
  | tup is =>
    obtain ⟨a, us, h1, h2, h3, h4⟩ := h
    exact ⟨a, us, h1, s _ _ h2, h3.same s, h4⟩
  | no =>
    obtain ⟨t, h1, h2⟩ := h
    exact ⟨t, tyS h1 s, h2⟩
end
def rSlU (K : PySem.W.Frag) : V → Option Int → Option Int → Hp → VK → Prop := fun x lo hi H Q => ∃ a xs, x = .ref a ∧ SqT K H a xs ∧ ∀ u H', Same H H' → SqT K H' u (cutV xs lo hi) → Q (.ref u) H'
theorem sl_tupU {X : Cx} : SlR X (rSlU X.K) := by
  intro pins s σ H x v vl vu lo hi sl Q I rx hs pl pu h
  obtain ⟨a, xs, rfl, hx, q⟩ := h
  refine sl_tupA pins s σ H _ v vl vu lo hi sl Q I rx hs pl pu ⟨a, xs, rfl, hx, fun hw => q a H (Same.refl H) ?_, fun _ p hp => q p _ (sameAt (Same.refl H) hp) (SqT.of upd_same)⟩
  have e : cutV xs lo hi = xs := by
    unfold cutV
    rw [hw.1, hw.2, List.drop_zero, Nat.sub_zero, List.take_length]
  rw [e]
  exact hx
theorem cut_drop {xs : List V} {k : Nat} (h : k ≤ xs.length) : cutV xs (some (k : Int)) none = xs.drop k := by
  unfold cutV
  rw [HT.sIx_none, HT.sIx_nat, Nat.min_eq_left h]
  exact List.take_of_length_le (by rw [List.length_drop]; exact Nat.le_refl _)
def It.isI : It → Bool
  | .int _ => true
  | _ => false
def It.isN : It → Bool
  | .int n => decide (0 ≤ n)
  | _ => false
def It.isNm : It → Bool
  | .str z => nmB z
  | _ => false
def It.isS : It → Str → Bool
  | .str y, z => decide (y = z)
  | _, _ => false
def gE : List It → Bool
  | w :: n :: rest => n.isN && (if w.isS "row" = true then (match rest with
      | s :: k :: r => decide (r.length = 3) && (s.isNm && (k.isNm && r.all It.isI))
      | _ => false) else if w.isS "fix" = true then decide (rest.length = 3) && rest.all It.isI else w.isS "gone" && (decide (rest.length = 1) && rest.all It.isI))
  | _ => false
def gT : Th → Bool
  | .tup is => gE is
  | .no => false
theorem eqS_of {K : PySem.W.Frag} {H : Hp} {CB : Addr} {E : XK} {v : V} {i : It} {z : Str} {Q : VK} (hB : BkC K CB) (nf : PySem.W.notFirst K CB (.type "str") = true) (h : ItA K H v i) (ok : PyData.strOk z = true) (q : Q (.bl (i.isS z)) H) : rEqT K CB (spBookEqN CB) E v (.str z) H Q := by
  cases i with
  | int n =>
    cases (show v = _ from h)
    exact .inl ⟨rfl, by rw [decide_eq_false (fun e => by cases e)]; exact q⟩
  | str y =>
    obtain ⟨rfl, _⟩ := h
    refine .inl ⟨rfl, ?_⟩
    rw [show decide (V.str y = V.str z) = decide (y = z) by rw [Bool.eq_iff_iff]; simp]
    exact q
  | oth =>
    obtain ⟨_, _, h⟩ := h
    rcases h with h | ⟨d, h, k, e⟩ | ⟨a, rfl, h⟩ | ⟨b, C, L, rfl, hc, h⟩
    · exact .inl ⟨(h z).1, by rw [decide_eq_false (h z).2]; exact q⟩
    · refine .inr (.inl ⟨d, .str z, h H (Same.refl H), .str z, k, by unfold SeqAt.shaped; simp [PyData.canLay0, PyData.depth]; exact ok, ?_⟩)
      rw [e z]
      exact q
    · exact .inr (.inr (.inl ⟨a, [], z, rfl, rfl, h, q⟩))
    · obtain rfl := bkc_eq hc hB
      obtain ⟨dx, d, L', h1, h2⟩ := id h
      exact .inr (.inr (.inr ⟨b, C, dx, _, _, rfl, h1, rfl, .base (.str z), nf, b, z, L, rfl, h, q⟩))
theorem gE_cons {i0 i1 i2 : It} {r : List It} : gE (i0 :: i1 :: i2 :: r) = (i1.isN && (if i0.isS "row" = true then (match r with
      | k :: r => decide (r.length = 3) && (i2.isNm && (k.isNm && r.all It.isI))
      | _ => false) else if i0.isS "fix" = true then decide ((i2 :: r).length = 3) && (i2 :: r).all It.isI else i0.isS "gone" && (decide ((i2 :: r).length = 1) && (i2 :: r).all It.isI))) := by
  cases r <;> rfl
theorem gE_short : ∀ {is : List It}, is.length < 3 → gE is = false
  | [], _ => rfl
  | [_], _ => rfl
  | [a, b], _ => by
    show (b.isN && _) = false
    cases a.isS "row" <;> cases a.isS "fix" <;> simp
  | _ :: _ :: _ :: _, h => by simp only [List.length_cons] at h; omega
theorem ItsA.three {K : PySem.W.Frag} {H : Hp} {us : List V} {is : List It} (h : ItsA K H us is) (l : 3 ≤ us.length) : ∃ v0 v1 v2 vr i0 i1 i2 ir, us = v0 :: v1 :: v2 :: vr ∧ is = i0 :: i1 :: i2 :: ir ∧ ItA K H v0 i0 ∧ ItA K H v1 i1 ∧ ItA K H v2 i2 ∧ ItsA K H vr ir := by
  cases h with
  | nil => simp at l
  | cons h0 t0 => cases t0 with
    | nil => simp at l
    | cons h1 t1 => cases t1 with
      | nil => simp at l
      | cons h2 t2 => exact ⟨_, _, _, _, _, _, _, _, rfl, rfl, h0, h1, h2, t2⟩
def spIsIntA (K : PySem.W.Frag) : Sp := fun vs H Q _ => ∃ v i, vs = [v] ∧ ItA K H v i ∧ Q (.bl i.isI) H
def spIsNatA (K : PySem.W.Frag) : Sp := fun vs H Q _ => ∃ v i, vs = [v] ∧ ItA K H v i ∧ Q (.bl i.isN) H
def spIsNmA (K : PySem.W.Frag) : Sp := fun vs H Q _ => ∃ v i, vs = [v] ∧ ItA K H v i ∧ ∀ H', Same H H' → Q (.bl i.isNm) H'
def spAreA (K : PySem.W.Frag) : Sp := fun vs H Q _ => ∃ (a : Addr) (us : List V) (is : List It), vs = [.ref a] ∧ SqT K H a us ∧ us.length ≤ 9 ∧ ItsA K H us is ∧ ∀ H', Same H H' → Q (.bl (is.all It.isI)) H'
def spIsEA (K : PySem.W.Frag) : Sp := fun vs H Q _ => ∃ v th, vs = [v] ∧ ThA K H v th ∧ ∀ H', Same H H' → Q (.bl (gT th)) H'
theorem ItsA.get {K : PySem.W.Frag} {H : Hp} : ∀ {us : List V} {is : List It} {k : Nat} {v : V}, ItsA K H us is → us[k]? = some v → ∃ i, is[k]? = some i ∧ ItA K H v i
  | _, _, _, _, .nil, h => by simp at h
  | _, _, 0, _, .cons h _, e => by
    cases Option.some.inj (show some _ = some _ from e)
    exact ⟨_, rfl, h⟩
  | _, _, k + 1, _, .cons _ t, e => t.get (k := k) e
section
variable {P : Program} {w : World} {K : PySem.W.Frag} {mg : Str → Option Value} {base : Heap}
theorem ok_isint {f : Addr} {fd : FuncData} (F : Fun K "is_integer" "is_integer" s_is_integer f fd) (B : Blt mg) : FnOk P w K mg base CX0 1 f fd ["thing"] (spIsIntA K) := by
  refine F.ok sc_is_integer (fun vs H Q E h => ?_) (fun cdv A outer s H vs Q E hr h => ?_)
  · obtain ⟨v, i, rfl, _⟩ := h
    rfl
  · obtain ⟨v, i, rfl, hv, q⟩ := h
    refine ⟨_, (pss_one (ps_ret (pe_and (pe_callB call_isi (by rfl) B.isinstance (by decide +kernel) (pa_cons (pv 0) (pa_cons (pe_bltn (v := .ty "int") (by rfl) B.int (by decide +kernel) rfl) pa_nil))) (pe_one (pe_not (pe_callB call_isi (by rfl) B.isinstance (by decide +kernel) (pa_cons (pv 0) (pa_cons (pe_bltn (v := .ty "bool") (by rfl) B.bool (by decide +kernel) rfl) pa_nil)))))))), ?_⟩
    cases i with
    | int n =>
      cases (show v = _ from hv)
      exact ⟨_, rfl, _, _, _, _, true, rfl, ClsV.ty _, .base (.int n), kit_ty (by decide +kernel), _, rfl, iteT ⟨_, rfl, _, _, _, _, false, rfl, ClsV.ty _, .base (.int n), kit_ty (by decide +kernel), _, rfl, q⟩⟩
    | str z =>
      obtain ⟨rfl, _⟩ := hv
      exact ⟨_, rfl, _, _, _, _, false, rfl, ClsV.ty _, .base (.str z), kit_ty (by decide +kernel), _, rfl, iteF q⟩
    | oth =>
      obtain ⟨⟨t, bi, bb, ty, e1, e2, e3⟩, _⟩ := hv
      refine ⟨_, rfl, _, _, _, _, bi, rfl, ClsV.ty _, ty, e1, _, rfl, ?_⟩
      cases bi with
      | false => exact iteF q
      | true =>
        refine iteT ⟨_, rfl, _, _, _, _, bb, rfl, ClsV.ty _, ty, e2, _, rfl, ?_⟩
        have e3 : (!bb) = false := e3
        rw [e3]
        exact q
structure GI (P : Program) (w : World) (K : PySem.W.Frag) (mg : Str → Option Value) (base : Heap) : Prop where
  is_integer : Cal P w K mg base CX0 "is_integer" 1 ["thing"] (spIsIntA K)
theorem ok_isnat {f : Addr} {fd : FuncData} (F : Fun K "is_natural" "is_natural" s_is_natural f fd) (B : Blt mg) (G : GI P w K mg base) : FnOk P w K mg base CX0 2 f fd ["thing"] (spIsNatA K) := by
  refine F.ok sc_is_natural (fun vs H Q E h => ?_) (fun cdv A outer s H vs Q E hr h => ?_)
  · obtain ⟨v, i, rfl, _⟩ := h
    rfl
  · obtain ⟨v, i, rfl, hv, q⟩ := h
    refine ⟨_, (pss_one (ps_ret (pe_and (pe_cal G.is_integer (hr.mono (by decide)) pass0 (pa_cons (pv 0) pa_nil)) (pe_one (pe_cmpR op_ge (pv 0) pe_int (nomark _)))))), ?_⟩
    refine ⟨_, rfl, v, i, rfl, hv, ?_⟩
    cases i with
    | int n =>
      cases (show v = _ from hv)
      exact ⟨_, rfl, iteT ⟨_, rfl, _, _, rfl, rfl, q⟩⟩
    | str z => exact ⟨_, rfl, iteF q⟩
    | oth => exact ⟨_, rfl, iteF q⟩
theorem ok_isname {f : Addr} {fd : FuncData} (F : Fun K "is_name" "is_name" s_is_name f fd) (B : Blt mg) (k_LETTERS : ∃ t, mg "LETTERS" = some (.str abc t)) (k_LONGEST_NAME : ∃ t, mg "LONGEST_NAME" = some (.int 8 t)) : FnOk P w K mg base CX0 1 f fd ["thing"] (spIsNmA K) := by
  obtain ⟨t1, g_LETTERS⟩ := k_LETTERS
  obtain ⟨t2, g_LONGEST_NAME⟩ := k_LONGEST_NAME
  refine F.ok sc_is_name (fun vs H Q E h => ?_) (fun cdv A outer s H vs Q E hr h => ?_)
  · obtain ⟨v, i, rfl, _⟩ := h
    rfl
  · obtain ⟨v, i, rfl, hv, q⟩ := h
    refine ⟨_, (pss_cons (ps_if (PW.pt (pw_or (pt_not (pt_val (pe_callB call_isi (by rfl) B.isinstance (by decide +kernel) (pa_cons (pv 0) (pa_cons (pe_bltn (v := .ty "str") (by rfl) B.str (by decide +kernel) rfl) pa_nil))))) (pw_or1 (pt_not (pt_chain op_le op_le pe_int (pe_callB call_len_str (by rfl) B.len (by decide +kernel) (pa_cons (pv 0) pa_nil)) (pe_glob (v := .int 8) (by rfl) g_LONGEST_NAME ⟨_, rfl⟩))))))
      (pss_one (ps_ret pe_bl))
      pss_nil)
    (pss_one (ps_ret (pe_callB (cr_all rfl) (by rfl) B.all (by decide +kernel) (pa_cons (pe_lc (own := [("letter", 1)]) (g := gName 1) (tt := tYes) (by rfl) sc_is_name.nd (pi_str (pv 0)) (blkOk_by (own := [("letter", 1)]) (N := ["thing", "letter"]) (sc := defScope s_is_name) (by decide +kernel)) (fun _ _ _ _ _ => (pg_name (i := 1) sc_is_name.nd rfl (Or.inl rfl))) (fun _ _ _ _ _ => pts_nil) (fun _ _ _ _ _ => (pe_cmpR op_in_sign (pv 1) (pe_glob (v := .str "abcdefghijklmnopqrstuvwxyz") (by rfl) g_LETTERS ⟨_, rfl⟩) rfl))) pa_nil))))), ?_⟩
    cases i with
    | int n =>
      cases (show v = _ from hv)
      exact ⟨_, rfl, _, _, _, _, false, rfl, ClsV.ty _, .base (.int n), kit_ty (by decide +kernel), _, rfl, iteT (q H (Same.refl H))⟩
    | oth =>
      obtain ⟨_, ⟨t, ty, e1⟩, _⟩ := hv
      exact ⟨_, rfl, _, _, _, _, false, rfl, ClsV.ty _, ty, e1, _, rfl, iteT (q H (Same.refl H))⟩
    | str z =>
      obtain ⟨rfl, hz⟩ := hv
      have q : ∀ H', Same H H' → Q (.bl (nmB z)) H' := q
      refine ⟨_, rfl, _, _, _, _, true, rfl, ClsV.ty _, .base (.str z), kit_ty (by decide +kernel), _, rfl, iteF ?_⟩
      refine ⟨_, rfl, _, rfl, (by rw [sizeLine_eq]; omega), _, _, rfl, rfl, _, rfl, ?_⟩
      refine ite2 (fun c1 => ?_) (fun c1 => ?_)
      · have c1 : (1 : Int) ≤ z.length := of_decide_eq_true c1
        refine ⟨_, _, rfl, rfl, _, rfl, ?_⟩
        by_cases c8 : (z.length : Int) ≤ 8
        · refine iteNS c8 ?_
          refine ⟨_, rfl, z, rfl, fun D hD => lc_it (walk_str (z := z)) (fun i H1 => H1 D = some (.lst (((z.cps.toList.take i).map fun c => decide (c ∈ LET)).map V.bl)) ∧ Same H H1) ⟨upd_same, sameAt (Same.refl H) hD⟩ (fun _ _ _ _ => trivial) ?_ ?_⟩
          · rintro i x H1 H2 hi ⟨hD1, hs⟩ ⟨rfl, c, hc, rfl⟩
            have hc' : z.cps.toList[i]? = some c := by rw [Array.getElem?_toList]; exact hc
            have hlen : (z.cps.toList.take i).length ≤ 8 := by
              have : i < z.length := hi
              rw [List.length_take]
              omega
            refine ⟨rfl, _, rfl, c, abc, rfl, rfl, _, hD1, (by rw [List.length_map, List.length_map]; exact small1000 (by omega)), ?_, sameAt hs hD⟩
            rw [upd_same, list_lit _ _ _ hc', abc_let, List.map_append, List.map_append]
            rfl
          · rintro H1 ⟨hD1, hs⟩
            have e : z.cps.toList.take z.cps.size = z.cps.toList := by rw [← Array.length_toList, List.take_length]
            rw [e] at hD1
            refine ⟨D, _, rfl, SqL.of hD1, ?_⟩
            have e2 : ((z.cps.toList.map fun c => decide (c ∈ LET)).all id) = nmB z := by
              unfold nmB
              rw [decide_eq_true (show 1 ≤ z.length ∧ z.length ≤ 8 by omega), Bool.true_and, List.all_map]
              rfl
            rw [e2]
            exact q _ hs
        · rw [decide_eq_false c8]
          refine iteT ?_
          have e2 : nmB z = false := by
            unfold nmB
            rw [decide_eq_false (show ¬ (1 ≤ z.length ∧ z.length ≤ 8) by omega), Bool.false_and]
          have := q H (Same.refl H)
          rw [e2] at this
          exact this
      · have c1 : ¬ (1 : Int) ≤ z.length := by simpa using c1
        refine ⟨_, rfl, iteT ?_⟩
        have e2 : nmB z = false := by
          unfold nmB
          rw [decide_eq_false (show ¬ (1 ≤ z.length ∧ z.length ≤ 8) by omega), Bool.false_and]
        have := q H (Same.refl H)
        rw [e2] at this
        exact this
theorem ok_areA {f : Addr} {fd : FuncData} (F : Fun K "are_integers" "are_integers" s_are_integers f fd) (B : Blt mg) (G : GI P w K mg base) : FnOk P w K mg base CX0 2 f fd ["things"] (spAreA K) := by
  refine F.ok sc_are_integers (fun vs H Q E h => ?_) (fun cdv A outer s H vs Q E hr h => ?_)
  · obtain ⟨a, us, is, rfl, _⟩ := h
    rfl
  · obtain ⟨a, us, is, rfl, hS, hn, hv, q⟩ := h
    refine ⟨_, (pss_one (ps_ret (pe_callB (cr_all rfl) (by rfl) B.all (by decide +kernel) (pa_cons (pe_lc (own := [("thing", 1)]) (g := gName 1) (tt := tYes) (by rfl) sc_are_integers.nd (pi_tup (pv 0)) (blkOk_by (own := [("thing", 1)]) (N := ["things", "thing"]) (sc := defScope s_are_integers) (by decide +kernel)) (fun _ _ _ _ _ => (pg_name (i := 1) sc_are_integers.nd rfl (Or.inl rfl))) (fun _ _ _ _ _ => pts_nil) (fun _ _ _ _ _ => (pe_cal G.is_integer (hr.mono (by decide)) pass0 (pa_cons (pv 1) pa_nil)))) pa_nil)))), ?_⟩
    refine ⟨_, rfl, a, rfl, ⟨_, hS⟩, fun D hD => lc_it (walk_tup (xs := us)) (fun i H1 => H1 D = some (.lst (((is.take i).map It.isI).map V.bl)) ∧ Same H H1) ⟨upd_same, sameAt (Same.refl H) hD⟩ (fun i H1 _ hv => ?_) ?_ ?_⟩
    · rcases hS with (h | ⟨o, h⟩) | h
      · exact .inl (.inl (hv.2 _ _ h))
      · exact .inl (.inr ⟨o, hv.2 _ _ h⟩)
      · exact .inr h
    · rintro i x H1 H2 hi ⟨hD1, hs⟩ ⟨rfl, hx⟩
      obtain ⟨it, hit, hI⟩ := hv.get hx
      have il := hv.len
      have sz : (((is.take i).map It.isI).map V.bl).length < sizeLine := by rw [List.length_map, List.length_map, List.length_take]; exact small1000 (by omega)
      refine ⟨rfl, _, rfl, _, it, rfl, hI.same hs, _, hD1, sz, ?_, sameAt hs hD⟩
      rw [upd_same, List.take_add_one, hit, List.map_append, List.map_append]
      rfl
    · rintro H1 ⟨hD1, hs⟩
      refine ⟨D, _, rfl, SqL.of hD1, ?_⟩
      rw [hv.len, List.take_length] at hD1 ⊢
      rw [show ((is.map It.isI).all id) = is.all It.isI by rw [List.all_map]; rfl]
      exact q _ hs
structure GE (P : Program) (w : World) (K : PySem.W.Frag) (mg : Str → Option Value) (base : Heap) : Prop where
  is_natural : Cal P w K mg base CX0 "is_natural" 2 ["thing"] (spIsNatA K)
  is_name : Cal P w K mg base CX0 "is_name" 1 ["thing"] (spIsNmA K)
  are_integers : Cal P w K mg base CX0 "are_integers" 2 ["things"] (spAreA K)
abbrev s_is_entry : Stmt := topS 23
theorem sc_is_entry : FnScope ["thing"] ["thing"] (defScope s_is_entry) := ⟨rfl, rfl, rfl, by decide +kernel, rfl, by decide +kernel, by decide +kernel⟩
theorem ok_isentry {f CB fq : Addr} {fd fdq : FuncData} (F : Fun K "is_entry" "is_entry" s_is_entry f fd) (B : Blt mg) (hBk : BkC K CB) (nfs : PySem.W.notFirst K CB (.type "str") = true) (Z : NeF K (fun C => C = CB) fq) (bq : Binds K fdq ["self", "other"] []) (Fq : FnOk P w K mg base CX0 2 fq fdq ["self", "other"] (spBookEqN CB)) (G : GE P w K mg base) : FnOk P w K mg base CX0 3 f fd ["thing"] (spIsEA K) := by
  refine F.ok sc_is_entry (fun vs H Q E h => ?_) (fun cdv A outer s H vs Q E hr h => ?_)
  · obtain ⟨v, th, rfl, _⟩ := h
    rfl
  · obtain ⟨v, th, rfl, hT, q⟩ := h
    refine ⟨_, (pss_cons (ps_if (PW.pt (pw_or (pt_not (pt_val (pe_callB call_isi (by rfl) B.isinstance (by decide +kernel) (pa_cons (pv 0) (pa_cons (pe_bltn (v := .ty "tuple") (by rfl) B.tuple (by decide +kernel) rfl) pa_nil))))) (pw_or (pt_cmpR op_lt (pe_callB call_len_seq (by rfl) B.len (by decide +kernel) (pa_cons (pv 0) pa_nil)) pe_int (nomark _)) (pw_or1 (pt_not (pt_val (pe_cal G.is_natural (hr.mono (by decide)) pass0 (pa_cons (pe_ix ix_tup (pv 0) pe_int (fun _ _ => rfl)) pa_nil))))))))
      (pss_one (ps_ret pe_bl))
      pss_nil)
    (pss_cons (ps_if (pt_cmpR (op_eqT hr.units Z Fq bq pass0 (hr.mono (by decide))) (pe_ix ix_tup (pv 0) pe_int (fun _ _ => rfl)) pe_str (nomark _))
      (pss_one (ps_ret (pe_and (pe_cmpR op_eq (pe_callB call_len_seq (by rfl) B.len (by decide +kernel) (pa_cons (pv 0) pa_nil)) pe_int (nomark _)) (pe_and (pe_cal G.is_name (hr.mono (by decide)) pass0 (pa_cons (pe_ix ix_tup (pv 0) pe_int (fun _ _ => rfl)) pa_nil)) (pe_and (pe_cal G.is_name (hr.mono (by decide)) pass0 (pa_cons (pe_ix ix_tup (pv 0) pe_int (fun _ _ => rfl)) pa_nil)) (pe_one (pe_cal G.are_integers (hr.mono (by decide)) pass0 (pa_cons (pe_slice (show SlR _ (rSlU K) from sl_tupU) (pv 0) (po_some pe_int) po_none) pa_nil))))))))
      pss_nil)
    (pss_cons (ps_if (pt_cmpR (op_eqT hr.units Z Fq bq pass0 (hr.mono (by decide))) (pe_ix ix_tup (pv 0) pe_int (fun _ _ => rfl)) pe_str (nomark _))
      (pss_one (ps_ret (pe_and (pe_cmpR op_eq (pe_callB call_len_seq (by rfl) B.len (by decide +kernel) (pa_cons (pv 0) pa_nil)) pe_int (nomark _)) (pe_one (pe_cal G.are_integers (hr.mono (by decide)) pass0 (pa_cons (pe_slice (show SlR _ (rSlU K) from sl_tupU) (pv 0) (po_some pe_int) po_none) pa_nil))))))
      pss_nil)
    (pss_one (ps_ret (pe_and (pe_cmpR (op_eqT hr.units Z Fq bq pass0 (hr.mono (by decide))) (pe_ix ix_tup (pv 0) pe_int (fun _ _ => rfl)) pe_str (nomark _)) (pe_and (pe_cmpR op_eq (pe_callB call_len_seq (by rfl) B.len (by decide +kernel) (pa_cons (pv 0) pa_nil)) pe_int (nomark _)) (pe_one (pe_cal G.are_integers (hr.mono (by decide)) pass0 (pa_cons (pe_slice (show SlR _ (rSlU K) from sl_tupU) (pv 0) (po_some pe_int) po_none) pa_nil)))))))))), ?_⟩
    cases th with
    | no =>
      obtain ⟨t, ty, e1⟩ := hT
      exact ⟨_, rfl, _, _, _, _, false, rfl, ClsV.ty _, ty, e1, _, rfl, iteT (q H (Same.refl H))⟩
    | tup is =>
      obtain ⟨e, us, rfl, hx, hI, l9⟩ := hT
      refine ⟨_, rfl, _, _, _, _, true, rfl, ClsV.ty _, .base (.tup hx), kit_ty (by decide +kernel), _, rfl, iteF ?_⟩
      refine ⟨_, rfl, e, _, rfl, .inr (SqT.of hx), _, _, rfl, rfl, _, rfl, ?_⟩
      refine ite2 (fun c => ?_) (fun c => ?_)
      · have c : (us.length : Int) < 3 := of_decide_eq_true c
        have := q H (Same.refl H)
        rw [show gT (.tup is) = false from gE_short (by rw [← hI.len]; omega)] at this
        exact this
      have c : ¬ (us.length : Int) < 3 := fun z => by rw [decide_eq_true z] at c; exact c rfl
      obtain ⟨v0, v1, v2, vr, i0, i1, i2, ir, rfl, rfl, h0, h1, h2, hr'⟩ := hI.three (by omega)
      have lr := hr'.len
      have ll : (v0 :: v1 :: v2 :: vr).length = vr.length + 3 := rfl
      have at0 : atI (v0 :: v1 :: v2 :: vr) 0 = some v0 := atI_nat (j := 0) rfl
      have at1 : atI (v0 :: v1 :: v2 :: vr) 1 = some v1 := atI_nat (j := 1) rfl
      have at2 : atI (v0 :: v1 :: v2 :: vr) 2 = some v2 := atI_nat (j := 2) rfl
      refine ⟨_, rfl, _, _, _, _, rfl, rfl, SqT.of (hx), at1, v1, i1, rfl, h1, _, rfl, ?_⟩
      have r0 := Same.refl H
      have q : ∀ H', Same H H' → Q (.bl (gE (i0 :: i1 :: i2 :: ir))) H' := q
      cases e1 : i1.isN with
      | false => exact iteT (by have := q H r0; rw [gE_cons, e1] at this; exact this)
      | true =>
        refine iteF ⟨_, rfl, _, _, _, _, rfl, rfl, SqT.of (hx), at0, eqS_of hBk nfs h0 (by decide +kernel) ⟨_, rfl, ?_⟩⟩
        cases e2 : i0.isS "row" with
        | true =>
          refine iteT ⟨_, rfl, e, _, rfl, .inr (SqT.of hx), rfl, _, rfl, ?_⟩
          refine ite2 (fun c7 => ?_) (fun c7 => ?_)
          · have c7 : (vr.length + 3 : Nat) = 7 := by have := V.int.inj (of_decide_eq_true c7); rw [ll] at this; omega
            obtain ⟨i3, ir, rfl⟩ : ∃ i r, ir = i :: r := by cases ir with
              | nil => rw [List.length_nil] at lr; omega
              | cons i r => exact ⟨i, r, rfl⟩
            obtain ⟨v3, vr, rfl⟩ : ∃ i r, vr = i :: r := by cases hr' with
              | cons => exact ⟨_, _, rfl⟩
            cases hr' with
            | cons h3 hr' =>
            have e7 : ir.length = 3 := by simp only [List.length_cons] at lr c7; omega
            have q : ∀ H', Same H H' → Q (.bl (i2.isNm && (i3.isNm && ir.all It.isI))) H' := fun H' s => by
              have := q H' s
              rw [gE_cons, e1, e2] at this
              have this : Q (.bl (decide (ir.length = 3) && (i2.isNm && (i3.isNm && ir.all It.isI)))) H' := this
              rw [decide_eq_true e7] at this
              exact this
            have at3 : atI (v0 :: v1 :: v2 :: v3 :: vr) 3 = some v3 := atI_nat (j := 3) rfl
            refine ⟨_, rfl, _, _, _, _, rfl, rfl, SqT.of (hx), at2, v2, i2, rfl, h2, fun H1 s1 => ⟨_, rfl, ?_⟩⟩
            cases e3 : i2.isNm with
            | false => exact iteF (by have := q H1 s1; rw [e3] at this; exact this)
            | true =>
              refine iteT ⟨_, rfl, _, _, _, _, rfl, rfl, SqT.of (s1 _ _ hx), at3, v3, i3, rfl, h3.same s1, fun H2 s2 => ⟨_, rfl, ?_⟩⟩
              cases e4 : i3.isNm with
              | false => exact iteF (by have := q H2 (s1.trans s2); rw [e3, e4] at this; exact this)
              | true =>
                have s12 := s1.trans s2
                refine iteT ⟨_, rfl, _, rfl, e, _, rfl, SqT.of (s12 _ _ hx), fun u H3 s3 hu => ?_⟩
                rw [show ((4 : Int)) = ((4 : Nat) : Int) from rfl, cut_drop (by rw [ll]; omega)] at hu
                refine ⟨u, _, ir, rfl, hu, (by simp only [List.length_cons, List.drop_succ_cons, List.drop_zero] at *; omega), (hr'.same (s12.trans s3)), fun H4 s4 => ?_⟩
                have := q H4 ((s12.trans s3).trans s4)
                rw [e3, e4] at this
                exact this
          · have c7 : ¬ vr.length = 4 := fun z => by rw [ll, z] at c7; exact absurd (decide_eq_true rfl) c7
            have : gE (i0 :: i1 :: i2 :: ir) = false := by
              rw [gE_cons, e1, e2]
              cases ir with
              | nil => rfl
              | cons i r =>
                show (decide (r.length = 3) && _) = false
                rw [decide_eq_false (by simp only [List.length_cons] at lr; omega)]
                rfl
            have q := q H r0
            rw [this] at q
            exact q
        | false =>
          refine iteF ⟨_, rfl, _, _, _, _, rfl, rfl, SqT.of (hx), at0, eqS_of hBk nfs h0 (by decide +kernel) ⟨_, rfl, ?_⟩⟩
          cases e5 : i0.isS "fix" with
          | true =>
            refine iteT ⟨_, rfl, e, _, rfl, .inr (SqT.of hx), rfl, _, rfl, ?_⟩
            refine ite2 (fun c7 => ?_) (fun c7 => ?_)
            · have c7 : (vr.length + 3 : Nat) = 5 := by have := V.int.inj (of_decide_eq_true c7); rw [ll] at this; omega
              have q : ∀ H', Same H H' → Q (.bl ((i2 :: ir).all It.isI)) H' := fun H' s => by
                have := q H' s
                rw [gE_cons, e1, e2, e5] at this
                have this : Q (.bl (decide (ir.length + 1 = 3) && (i2 :: ir).all It.isI)) H' := this
                rw [decide_eq_true (show ir.length + 1 = 3 by omega)] at this
                exact this
              refine ⟨_, rfl, _, rfl, e, _, rfl, SqT.of hx, fun u H3 s3 hu => ?_⟩
              rw [show ((2 : Int)) = ((2 : Nat) : Int) from rfl, cut_drop (by rw [ll]; omega)] at hu
              exact ⟨u, _, i2 :: ir, rfl, hu, (by simp only [List.length_cons, List.drop_succ_cons, List.drop_zero] at *; omega), .cons (h2.same s3) (hr'.same s3), fun H4 s4 => q H4 (s3.trans s4)⟩
            · have c7 : ¬ vr.length = 2 := fun z => by rw [ll, z] at c7; exact absurd (decide_eq_true rfl) c7
              have : gE (i0 :: i1 :: i2 :: ir) = false := by
                rw [gE_cons, e1, e2, e5]
                show (decide (ir.length + 1 = 3) && _) = false
                rw [decide_eq_false (by omega)]
                rfl
              have q := q H r0
              rw [this] at q
              exact q
          | false =>
            refine iteF ⟨_, rfl, _, _, _, _, rfl, rfl, SqT.of (hx), at0, eqS_of hBk nfs h0 (by decide +kernel) ⟨_, rfl, ?_⟩⟩
            cases e6 : i0.isS "gone" with
            | true =>
              refine iteT ⟨_, rfl, e, _, rfl, .inr (SqT.of hx), rfl, _, rfl, ?_⟩
              refine ite2 (fun c7 => ?_) (fun c7 => ?_)
              · have c7 : (vr.length + 3 : Nat) = 3 := by have := V.int.inj (of_decide_eq_true c7); rw [ll] at this; omega
                have q : ∀ H', Same H H' → Q (.bl ((i2 :: ir).all It.isI)) H' := fun H' s => by
                  have := q H' s
                  rw [gE_cons, e1, e2, e5, e6] at this
                  have this : Q (.bl (decide (ir.length + 1 = 1) && (i2 :: ir).all It.isI)) H' := this
                  rw [decide_eq_true (show ir.length + 1 = 1 by omega)] at this
                  exact this
                refine ⟨_, rfl, _, rfl, e, _, rfl, SqT.of hx, fun u H3 s3 hu => ?_⟩
                rw [show ((2 : Int)) = ((2 : Nat) : Int) from rfl, cut_drop (by rw [ll]; omega)] at hu
                exact ⟨u, _, i2 :: ir, rfl, hu, (by simp only [List.length_cons, List.drop_succ_cons, List.drop_zero] at *; omega), .cons (h2.same s3) (hr'.same s3), fun H4 s4 => q H4 (s3.trans s4)⟩
              · have c7 : ¬ vr.length = 0 := fun z => by rw [ll, z] at c7; exact absurd (decide_eq_true rfl) c7
                have : gE (i0 :: i1 :: i2 :: ir) = false := by
                  rw [gE_cons, e1, e2, e5, e6]
                  show (decide (ir.length + 1 = 1) && _) = false
                  rw [decide_eq_false (by omega)]
                  rfl
                have q := q H r0
                rw [this] at q
                exact q
            | false =>
              have q := q H r0
              rw [gE_cons, e1, e2, e5, e6] at q
              exact iteF q
end
end Ash

set_option Elab.async false
set_option linter.all false
set_option maxRecDepth 100000
set_option maxHeartbeats 4000000
namespace Ash
open PySem PySem.Spec PyProof.Rows L2
open C8 (pss_cut)
/-! ### entries -/
inductive Ent where
  | row (id : Int) (s k : Str) (m a r : Int)
  | fix (id m a r : Int)
  | gone (id r : Int)
  deriving DecidableEq
def Ent.vs : Ent → List V
  | .row id s k m a r => [.str "row", .int id, .str s, .str k, .int m, .int a, .int r]
  | .fix id m a r => [.str "fix", .int id, .int m, .int a, .int r]
  | .gone id r => [.str "gone", .int id, .int r]
def Ent.id : Ent → Int
  | .row id _ _ _ _ _ => id
  | .fix id _ _ _ => id
  | .gone id _ => id
def Ent.arr : Ent → Int
  | .row _ _ _ _ _ r => r
  | .fix _ _ _ r => r
  | .gone _ r => r
def Ent.ok (x : Ent) : Prop := 0 ≤ x.id ∧ ∀ id s k m a r, x = .row id s k m a r → IsNm s ∧ IsNm k
def EntAt (H : Hp) (e : Addr) (x : Ent) : Prop := H e = some (.tup x.vs)
def Ent.its : Ent → List It
  | .row id s k m a r => [.str "row", .int id, .str s, .str k, .int m, .int a, .int r]
  | .fix id m a r => [.str "fix", .int id, .int m, .int a, .int r]
  | .gone id r => [.str "gone", .int id, .int r]
theorem thA_of {K : PySem.W.Frag} {H : Hp} {e : Addr} {x : Ent} (h : EntAt H e x) (ok : x.ok) : ThA K H (.ref e) (.tup x.its) := by
  cases x with
  | row id s k m a r =>
    obtain ⟨h1, h2⟩ := ok.2 _ _ _ _ _ _ rfl
    have l1 := h1.2.1
    have l2 := h2.2.1
    exact ⟨e, _, rfl, h, .cons (i := .str "row") ⟨rfl, by decide +kernel⟩ (.cons (i := .int id) rfl (.cons (i := .str s) ⟨rfl, by omega⟩ (.cons (i := .str k) ⟨rfl, by omega⟩ (.cons (i := .int m) rfl (.cons (i := .int a) rfl (.cons (i := .int r) rfl .nil)))))), by show 7 ≤ 9; decide⟩
  | fix id m a r => exact ⟨e, _, rfl, h, .cons (i := .str "fix") ⟨rfl, by decide +kernel⟩ (.cons (i := .int id) rfl (.cons (i := .int m) rfl (.cons (i := .int a) rfl (.cons (i := .int r) rfl .nil)))), by show 5 ≤ 9; decide⟩
  | gone id r => exact ⟨e, _, rfl, h, .cons (i := .str "gone") ⟨rfl, by decide +kernel⟩ (.cons (i := .int id) rfl (.cons (i := .int r) rfl .nil)), by show 3 ≤ 9; decide⟩
theorem gT_of {x : Ent} (ok : x.ok) : gT (.tup x.its) = true := by
  cases x with
  | row id s k m a r =>
    obtain ⟨h1, h2⟩ := ok.2 _ _ _ _ _ _ rfl
    show (decide (0 ≤ id) && (if decide (("row" : Str) = "row") = true then decide (3 = 3) && (nmB s && (nmB k && true)) else _)) = true
    rw [decide_eq_true (show 0 ≤ id from ok.1), if_pos (by decide +kernel), (nmB_iff s).mpr h1, (nmB_iff k).mpr h2]
    rfl
  | fix id m a r =>
    show (decide (0 ≤ id) && (if decide (("fix" : Str) = "row") = true then _ else if decide (("fix" : Str) = "fix") = true then decide (3 = 3) && true else _)) = true
    rw [decide_eq_true (show 0 ≤ id from ok.1), if_neg (by decide +kernel), if_pos (by decide +kernel)]
    rfl
  | gone id r =>
    show (decide (0 ≤ id) && (if decide (("gone" : Str) = "row") = true then _ else if decide (("gone" : Str) = "fix") = true then _ else decide (("gone" : Str) = "gone") && (decide (1 = 1) && true))) = true
    rw [decide_eq_true (show 0 ≤ id from ok.1), if_neg (by decide +kernel), if_neg (by decide +kernel), decide_eq_true (rfl : ("gone" : Str) = "gone")]
    rfl
/-- what is known of a row: taken back, or what it is -/
inductive RowSt where
  | tb
  | at_ (s k : Str) (m a : Int)
def RowV (aT : Addr) (H : Hp) : Option V → Option RowSt → Prop
  | none, none => True
  | some v, some .tb => v = .ref aT
  | some v, some (.at_ s k m a) => ∃ t, v = .ref t ∧ H t = some (.tup [.str s, .str k, .int m, .int a])
  | _, _ => False
theorem RowV.same {aT : Addr} {H H' : Hp} {v : Option V} {o : Option RowSt} (h : RowV aT H v o) (s : Same H H') : RowV aT H' v o := by
  cases v with
  | none => cases o <;> exact h
  | some v =>
    cases o with
    | none => exact h
    | some o =>
      cases o with
      | tb => exact h
      | at_ z k m a =>
        obtain ⟨t, e, h⟩ := h
        exact ⟨t, e, s _ _ h⟩
/-- what an entry makes of its row -/
def behind (L : List (Str × Int)) : Ent → Option RowSt → Option RowSt
  | .row _ s k m a r, none => (L.lookup s).bind fun l => if m ≤ r ∧ r ≤ m + l then some (.at_ s k m a) else none
  | .fix _ m a r, some (.at_ s k m0 _) => (L.lookup s).bind fun l => if r ≤ m0 + l ∧ m ≤ r ∧ r ≤ m + l then some (.at_ s k m a) else none
  | .gone _ r, some (.at_ s _ m0 _) => (L.lookup s).bind fun l => if r ≤ m0 + l then some .tb else none
  | _, _ => none
def spArr (K : PySem.W.Frag) : Sp := fun vs H Q _ => ∃ e x, vs = [.ref e] ∧ EntAt H e x ∧ Q (.int x.arr) H
def spPlaced (CB : Addr) : Sp := fun vs H Q _ => ∃ (b t : Addr) (L : List (Str × Int)) (s k : Str) (m a r l : Int), vs = [.ref b, .ref t, .int r] ∧ BookAt CB H b L ∧ H t = some (.tup [.str s, .str k, .int m, .int a]) ∧ IsNm s ∧ L.lookup s = some l ∧
  ∀ H', Same H H' → Q (if m ≤ r ∧ r ≤ m + l then .ref t else .non) H'
def spBehind (aT CB : Addr) : Sp := fun vs H Q _ => ∃ (b e : Addr) (L : List (Str × Int)) (x : Ent) (ov : Option V) (o : Option RowSt), vs = [.ref b, .ref e, ov.getD .non] ∧ BookAt CB H b L ∧ EntAt H e x ∧ x.ok ∧ RowV aT H ov o ∧
  (∀ s k m a, o = some (.at_ s k m a) → IsNm s ∧ IsNm k ∧ (L.lookup s).isSome) ∧
  ∀ v H', Same H H' → ((behind L x o = none ∧ v = .non) ∨ (v ≠ .non ∧ ∃ y, behind L x o = some y ∧ RowV aT H' (some v) (some y))) → Q v H'
section
variable {P : Program} {w : World} {K : PySem.W.Frag} {mg : Str → Option Value} {base : Heap}
abbrev s_arrival_of : Stmt := topS 24
theorem sc_arrival_of : FnScope ["entry"] ["entry"] (defScope s_arrival_of) := ⟨rfl, rfl, rfl, by decide +kernel, rfl, by decide +kernel, by decide +kernel⟩
theorem ok_arrival_of {f : Addr} {fd : FuncData} (F : Fun K "arrival_of" "arrival_of" s_arrival_of f fd) (B : Blt mg) : FnOk P w K mg base CX0 1 f fd ["entry"] (spArr K) := by
  refine F.ok sc_arrival_of (fun vs H Q E h => ?_) (fun cdv A outer s H vs Q E hr h => ?_)
  · obtain ⟨e, x, rfl, _⟩ := h
    rfl
  · obtain ⟨e, x, rfl, hx, q⟩ := h
    refine ⟨_, (pss_one (ps_ret (pe_ix ix_tup (pv 0) (pe_un un_neg pe_int) (fun _ _ => rfl)))), ?_⟩
    cases x with
    | row id s k m a r => exact ⟨_, rfl, _, rfl, _, _, _, _, rfl, rfl, SqT.of hx, rfl, q⟩
    | fix id m a r => exact ⟨_, rfl, _, rfl, _, _, _, _, rfl, rfl, SqT.of hx, rfl, q⟩
    | gone id r => exact ⟨_, rfl, _, rfl, _, _, _, _, rfl, rfl, SqT.of hx, rfl, q⟩
abbrev s_placed : Stmt := topS 26
theorem sc_placed : FnScope ["book", "row", "arrival", "stream", "moment"] ["book", "row", "arrival"] (defScope s_placed) := ⟨rfl, rfl, rfl, by decide +kernel, rfl, by decide +kernel, by decide +kernel⟩
theorem ok_placed {f fl CB : Addr} {fd fdl : FuncData} (F : Fun K "placed" "placed" s_placed f fd) (B : Blt mg) (T : Cb K mg CB) (M_late : Meth K CB "late" fl) (b_late : Binds K fdl ["self", "stream"] []) (F_late : FnOk P w K mg base CX0 3 fl fdl ["self", "stream"] (spLate CB)) : FnOk P w K mg base CX0 4 f fd ["book", "row", "arrival"] (spPlaced CB) := by
  refine F.ok sc_placed (fun vs H Q E h => ?_) (fun cdv A outer s H vs Q E hr h => ?_)
  · obtain ⟨b, t, L, z, k, m, a, r, l, rfl, _⟩ := h
    rfl
  · obtain ⟨b, t, L, z, k, m, a, r, l, rfl, hB, ht, hz, hl, q⟩ := h
    refine ⟨_, (pss_cons (ps_par (i := 3) (j := 4) (by rfl) sc_placed.nd rfl rfl (by decide) rfl rfl (pa_cons (pe_ix ix_tup (pv 1) pe_int (fun _ _ => rfl)) (pa_cons (pe_ix ix_tup (pv 1) pe_int (fun _ _ => rfl)) pa_nil)) (by rfl))
    (pss_cons (ps_if (pt_chain op_le op_le (pv 4) (pv 2) (pe_op op_add (pv 4) (pe_meth (pv 0) T.cl M_late F_late (hr.mono (by decide)) b_late .nil pass0 (pa_cons (pv 3) pa_nil))))
      (pss_one (ps_ret (pv 1)))
      pss_nil)
    (pss_one (ps_ret pe_non)))), ?_⟩
    refine ⟨_, rfl, _, _, _, _, rfl, rfl, SqT.of ht, rfl, _, rfl, _, _, _, _, rfl, rfl, SqT.of ht, rfl, _, _, rfl, ?_⟩
    obtain ⟨dx, d, L', h1, h2, h3⟩ := id hB
    refine ⟨_, rfl, _, rfl, _, _, rfl, rfl, _, rfl, ?_⟩
    refine ite2 (fun c1 => ?_) (fun c1 => ?_)
    · have c1 : m ≤ r := of_decide_eq_true c1
      refine ⟨_, rfl, _, rfl, b, dx, _, rfl, h1, rfl, _, rfl, b, L, z, l, rfl, hB, hz, hl, fun H1 s1 => ⟨_, _, rfl, rfl, _, _, rfl, rfl, _, rfl, ?_⟩⟩
      refine ite2 (fun c2 => ?_) (fun c2 => ?_)
      · have c2 : r ≤ m + l := of_decide_eq_true c2
        have := q H1 s1
        rw [if_pos ⟨c1, c2⟩] at this
        exact ⟨_, rfl, this⟩
      · have c2 : ¬ r ≤ m + l := by simpa using c2
        have := q H1 s1
        rw [if_neg (fun z => c2 z.2)] at this
        exact this
    · have c1 : ¬ m ≤ r := by simpa using c1
      have := q H (Same.refl H)
      rw [if_neg (fun z => c1 z.1)] at this
      exact ⟨_, rfl, iteF this⟩
structure K5 (P : Program) (w : World) (K : PySem.W.Frag) (mg : Str → Option Value) (base : Heap) (CB : Addr) : Prop extends K4 P w K mg base where
  is_entry : Cal P w K mg base CX0 "is_entry" 3 ["thing"] (spIsEA K)
  arrival_of : Cal P w K mg base CX0 "arrival_of" 1 ["entry"] (spArr K)
  placed : Cal P w K mg base CX0 "placed" 4 ["book", "row", "arrival"] (spPlaced CB)
/-- the written () -/
structure Tb (K : PySem.W.Frag) (mg : Str → Option Value) (aT : Addr) : Prop where
  g : mg "TAKEN_BACK" = some (.ref aT)
  t : ∃ (o : Obj) (n : Nat), K.lookup aT = some o ∧ o.cls = .type "tuple" ∧ o.data = .seq #[] n
theorem Tb.sq {aT : Addr} (h : Tb K mg aT) (H : Hp) : SqT K H aT [] := by
  obtain ⟨o, n, h1, h2, h3⟩ := h.t
  exact .inr ⟨o, #[], n, h1, h2, h3, Nat.zero_le _, .nil⟩
abbrev s_row_behind : Stmt := topS 25
theorem sc_row_behind : FnScope ["book", "entry", "old", "stream", "key", "moment", "_"] ["book", "entry", "old"] (defScope s_row_behind) := ⟨rfl, rfl, rfl, by decide +kernel, rfl, by decide +kernel, by decide +kernel⟩
theorem ok_row_behind {f fh fl CB a_TAKEN_BACK : Addr} {fd fdh fdl : FuncData} (F : Fun K "row_behind" "row_behind" s_row_behind f fd) (B : Blt mg) (T : Cb K mg CB) (TB : Tb K mg a_TAKEN_BACK) (G : K5 P w K mg base CB) (M_has : Meth K CB "has" fh) (b_has : Binds K fdh ["self", "stream"] []) (F_has : FnOk P w K mg base CX0 2 fh fdh ["self", "stream"] (spHas CB))
    (M_late : Meth K CB "late" fl) (b_late : Binds K fdl ["self", "stream"] []) (F_late : FnOk P w K mg base CX0 3 fl fdl ["self", "stream"] (spLate CB)) : FnOk P w K mg base CX0 5 f fd ["book", "entry", "old"] (spBehind a_TAKEN_BACK CB) := by
  have g_TAKEN_BACK := TB.g
  refine F.ok sc_row_behind (fun vs H Q E h => ?_) (fun cdv A outer s H vs Q E hr h => ?_)
  · obtain ⟨b, e, L, x, ov, o, rfl, _⟩ := h
    rfl
  · obtain ⟨b, e, L, x, ov, o, rfl, hB, hx, hok, hV, hNm, q⟩ := h
    have hu := hu_of hr
    obtain ⟨dx, d, L', h1, h2, h3⟩ := id hB
    refine ⟨_, (pss_cons (ps_if (pt_cmpR op_eq (pe_ix ix_tup (pv 1) pe_int (fun _ _ => rfl)) pe_str (nomark _))
      (pss_cons (ps_if (PW.pt (pw_or (pt_cmpR op_notN (pv 2) pe_non (nomark _)) (pw_or1 (pt_not (pt_val (pe_meth (pv 0) T.cl M_has F_has (hr.mono (by decide)) b_has .nil pass0 (pa_cons (pe_ix ix_tup (pv 1) pe_int (fun _ _ => rfl)) pa_nil)))))))
        (pss_one (ps_ret pe_non))
        pss_nil)
      (pss_one (ps_ret (pe_cal G.placed (hr.mono (by decide)) pass0 (pa_cons (pv 0) (pa_cons (pe_slice sl_tup (pv 1) (po_some pe_int) (po_some pe_int)) (pa_cons (pe_cal G.arrival_of (hr.mono (by decide)) pass0 (pa_cons (pv 1) pa_nil)) pa_nil)))))))
      pss_nil)
    (pss_cons (ps_if (PW.pt (pw_or (pt_cmpR op_isN (pv 2) pe_non (nomark _)) (pw_or1 (pt_cmpR (op_eqD hr.units) (pv 2) (pe_glob (v := .ref a_TAKEN_BACK) (by rfl) g_TAKEN_BACK rfl) (nomark _)))))
      (pss_one (ps_ret pe_non))
      pss_nil)
    (pss_cons (ps_asg (pv 2) (pg_tup (by rfl) (pgs_cons (pg_name (i := 3) sc_row_behind.nd rfl (Or.inl rfl)) (pgs_cons (pg_name (i := 4) sc_row_behind.nd rfl (Or.inl rfl)) (pgs_cons (pg_name (i := 5) sc_row_behind.nd rfl (Or.inl rfl)) (pgs_cons (pg_name (i := 6) sc_row_behind.nd rfl (Or.inl rfl)) pgs_nil))))))
    (pss_cons (ps_if (pt_cmpR op_gt (pe_cal G.arrival_of (hr.mono (by decide)) pass0 (pa_cons (pv 1) pa_nil)) (pe_op op_add (pv 5) (pe_meth (pv 0) T.cl M_late F_late (hr.mono (by decide)) b_late .nil pass0 (pa_cons (pv 3) pa_nil))) (nomark _))
      (pss_one (ps_ret pe_non))
      pss_nil)
    (pss_cons (ps_if (pt_cmpR op_eq (pe_ix ix_tup (pv 1) pe_int (fun _ _ => rfl)) pe_str (nomark _))
      (pss_one (ps_ret (pe_glob (v := .ref a_TAKEN_BACK) (by rfl) g_TAKEN_BACK rfl)))
      pss_nil)
    (pss_one (ps_ret (pe_cal G.placed (hr.mono (by decide)) pass0 (pa_cons (pv 0) (pa_cons (pe_tup (pa_cons (pv 3) (pa_cons (pv 4) (pa_cons (pe_ix ix_tup (pv 1) pe_int (fun _ _ => rfl)) (pa_cons (pe_ix ix_tup (pv 1) pe_int (fun _ _ => rfl)) pa_nil))))) (pa_cons (pe_cal G.arrival_of (hr.mono (by decide)) pass0 (pa_cons (pv 1) pa_nil)) pa_nil))))))))))), ?_⟩
    cases x with
    | row id s k m a r =>
      obtain ⟨hs, hk⟩ := hok.2 _ _ _ _ _ _ rfl
      refine ⟨_, rfl, _, _, _, _, rfl, rfl, SqT.of hx, rfl, rfl, _, rfl, iteT ?_⟩
      cases ov with
      | some v =>
        have hvn : v ≠ .non := by
          cases o with
          | none => exact absurd hV (fun z => z)
          | some o =>
            cases o with
            | tb => obtain rfl : v = .ref a_TAKEN_BACK := hV; exact fun z => nomatch z
            | at_ s k m a => obtain ⟨t, rfl, _⟩ := hV; exact fun z => nomatch z
        refine ⟨_, rfl, rfl, _, rfl, ?_⟩
        show if (!decide (v = .non)) = true then _ else _
        rw [decide_eq_false hvn]
        refine iteT (q _ H (Same.refl H) (.inl ⟨?_, rfl⟩))
        cases o with
        | none => exact absurd hV (fun z => z)
        | some o => cases o <;> rfl
      | none =>
        cases o with
        | some o => exact absurd hV (fun z => z)
        | none =>
          refine ⟨_, rfl, rfl, _, rfl, iteF ?_⟩
          refine ⟨_, rfl, b, dx, _, rfl, h1, rfl, _, rfl, _, _, _, _, rfl, rfl, SqT.of hx, rfl, b, L, s, rfl, hB, hs, fun H1 s1 => ⟨_, rfl, ?_⟩⟩
          cases el : L.lookup s with
          | none =>
            refine iteT (q _ H1 s1 (.inl ⟨?_, rfl⟩))
            show (L.lookup s).bind _ = none
            rw [el]
            rfl
          | some l =>
            have hx1 := s1 _ _ hx
            refine iteF ⟨_, rfl, _, rfl, _, rfl, _, rfl, e, _, rfl, SqT.of hx1, (by show ¬ (HT.sIx 7 0 (some 2) = 0 ∧ HT.sIx 7 7 (some 6) = 7); decide), fun p hp => ?_⟩
            have hs2 : Same H (upd H1 p (.tup [.str s, .str k, .int m, .int a])) := s1.trans (sameAt (Same.refl _) hp)
            have hx2 : EntAt (upd H1 p (.tup [.str s, .str k, .int m, .int a])) e (.row id s k m a r) := hs2 _ _ hx
            refine ⟨_, rfl, e, _, rfl, hx2, b, p, L, s, k, m, a, r, l, rfl, hB.same hs2, upd_same, hs, el, fun H3 s3 => ?_⟩
            refine q _ H3 (hs2.trans s3) ?_
            by_cases c : m ≤ r ∧ r ≤ m + l
            · rw [if_pos c]
              refine .inr ⟨(fun z => nomatch z), .at_ s k m a, ?_, p, rfl, s3 _ _ upd_same⟩
              show (L.lookup s).bind _ = _
              rw [el, Option.bind_some, if_pos c]
            · rw [if_neg c]
              refine .inl ⟨?_, rfl⟩
              show (L.lookup s).bind _ = _
              rw [el, Option.bind_some, if_neg c]
    | fix id m a r =>
      refine ⟨_, rfl, _, _, _, _, rfl, rfl, SqT.of hx, rfl, rfl, _, rfl, iteF ?_⟩
      cases ov with
      | none =>
        cases o with
        | some o => exact absurd hV (fun z => z)
        | none => exact ⟨_, rfl, rfl, _, rfl, iteT (q _ H (Same.refl H) (.inl ⟨rfl, rfl⟩))⟩
      | some v =>
        cases o with
        | none => exact absurd hV (fun z => z)
        | some o =>
          cases o with
          | tb =>
            obtain rfl : v = .ref a_TAKEN_BACK := hV
            exact ⟨_, rfl, rfl, _, rfl, iteF ⟨_, rfl, .tuple [], .tuple [], .tup (TB.sq H) .nil, .tup (TB.sq H) .nil, rfl, rfl, _, rfl, iteT (q _ H (Same.refl H) (.inl ⟨rfl, rfl⟩))⟩⟩
          | at_ z k m0 a0 =>
            obtain ⟨t, rfl, ht⟩ := hV
            obtain ⟨hz, hk0, hzl⟩ := hNm _ _ _ _ rfl
            obtain ⟨l, el⟩ := Option.isSome_iff_exists.mp hzl
            refine ⟨_, rfl, rfl, _, rfl, iteF ⟨_, rfl, .tuple [.str z, .str k, .int m0, .int a0], .tuple [], .tup (SqT.of ht) (.cons (.str _) (.cons (.str _) (.cons (.int _) (.cons (.int _) .nil)))), .tup (TB.sq H) .nil, shaped_flat (by simp [flatD, nm_ok hz, nm_ok hk0]), rfl, _, rfl, iteF ?_⟩⟩
            refine ⟨_, rfl, t, _, rfl, SqT.of ht, rfl, _, _, rfl, _, _, rfl, _, _, rfl, _, _, rfl, rfl, ?_⟩
            refine ⟨_, rfl, e, _, rfl, hx, _, rfl, _, rfl, b, dx, _, rfl, h1, rfl, _, rfl, b, L, z, l, rfl, hB, hz, el, fun H1 s1 => ⟨_, _, rfl, rfl, _, _, rfl, rfl, _, rfl, ?_⟩⟩
            have hx1 : EntAt H1 e (.fix id m a r) := s1 _ _ hx
            have hB1 := hB.same s1
            refine ite2 (fun c1 => ?_) (fun c1 => ?_)
            · have c1 : m0 + l < r := of_decide_eq_true c1
              refine q _ H1 s1 (.inl ⟨?_, rfl⟩)
              show (L.lookup z).bind _ = none
              rw [el, Option.bind_some, if_neg (by omega)]
            · have c1 : ¬ m0 + l < r := fun z => c1 (decide_eq_true z)
              refine ⟨_, rfl, _, _, _, _, rfl, rfl, SqT.of hx1, rfl, rfl, _, rfl, iteF ?_⟩
              refine ⟨_, rfl, _, rfl, _, rfl, _, rfl, _, _, _, _, rfl, rfl, SqT.of hx1, rfl, _, rfl, _, _, _, _, rfl, rfl, SqT.of hx1, rfl, (by show 4 ≤ sizeLine; decide), fun p hp => ?_⟩
              have s2 : Same H (upd H1 p (.tup [.str z, .str k, .int m, .int a])) := s1.trans (sameAt (Same.refl _) hp)
              have hx2 : EntAt (upd H1 p (.tup [.str z, .str k, .int m, .int a])) e (.fix id m a r) := s2 _ _ hx
              refine ⟨_, rfl, e, _, rfl, hx2, b, p, L, z, k, m, a, r, l, rfl, hB.same s2, upd_same, hz, el, fun H3 s3 => ?_⟩
              refine q _ H3 (s2.trans s3) ?_
              by_cases c : m ≤ r ∧ r ≤ m + l
              · rw [if_pos c]
                refine .inr ⟨(fun z => nomatch z), .at_ z k m a, ?_, p, rfl, s3 _ _ upd_same⟩
                show (L.lookup z).bind _ = _
                rw [el, Option.bind_some, if_pos ⟨by omega, c.1, c.2⟩]
              · rw [if_neg c]
                refine .inl ⟨?_, rfl⟩
                show (L.lookup z).bind _ = _
                rw [el, Option.bind_some, if_neg (fun y => c y.2)]
    | gone id r =>
      refine ⟨_, rfl, _, _, _, _, rfl, rfl, SqT.of hx, rfl, rfl, _, rfl, iteF ?_⟩
      cases ov with
      | none =>
        cases o with
        | some o => exact absurd hV (fun z => z)
        | none => exact ⟨_, rfl, rfl, _, rfl, iteT (q _ H (Same.refl H) (.inl ⟨rfl, rfl⟩))⟩
      | some v =>
        cases o with
        | none => exact absurd hV (fun z => z)
        | some o =>
          cases o with
          | tb =>
            obtain rfl : v = .ref a_TAKEN_BACK := hV
            exact ⟨_, rfl, rfl, _, rfl, iteF ⟨_, rfl, .tuple [], .tuple [], .tup (TB.sq H) .nil, .tup (TB.sq H) .nil, rfl, rfl, _, rfl, iteT (q _ H (Same.refl H) (.inl ⟨rfl, rfl⟩))⟩⟩
          | at_ z k m0 a0 =>
            obtain ⟨t, rfl, ht⟩ := hV
            obtain ⟨hz, hk0, hzl⟩ := hNm _ _ _ _ rfl
            obtain ⟨l, el⟩ := Option.isSome_iff_exists.mp hzl
            refine ⟨_, rfl, rfl, _, rfl, iteF ⟨_, rfl, .tuple [.str z, .str k, .int m0, .int a0], .tuple [], .tup (SqT.of ht) (.cons (.str _) (.cons (.str _) (.cons (.int _) (.cons (.int _) .nil)))), .tup (TB.sq H) .nil, shaped_flat (by simp [flatD, nm_ok hz, nm_ok hk0]), rfl, _, rfl, iteF ?_⟩⟩
            refine ⟨_, rfl, t, _, rfl, SqT.of ht, rfl, _, _, rfl, _, _, rfl, _, _, rfl, _, _, rfl, rfl, ?_⟩
            refine ⟨_, rfl, e, _, rfl, hx, _, rfl, _, rfl, b, dx, _, rfl, h1, rfl, _, rfl, b, L, z, l, rfl, hB, hz, el, fun H1 s1 => ⟨_, _, rfl, rfl, _, _, rfl, rfl, _, rfl, ?_⟩⟩
            have hx1 : EntAt H1 e (.gone id r) := s1 _ _ hx
            refine ite2 (fun c1 => ?_) (fun c1 => ?_)
            · have c1 : m0 + l < r := of_decide_eq_true c1
              refine q _ H1 s1 (.inl ⟨?_, rfl⟩)
              show (L.lookup z).bind _ = none
              rw [el, Option.bind_some, if_neg (by omega)]
            · have c1 : ¬ m0 + l < r := fun z => c1 (decide_eq_true z)
              refine ⟨_, rfl, _, _, _, _, rfl, rfl, SqT.of hx1, rfl, rfl, _, rfl, iteT ?_⟩
              refine q _ H1 s1 (.inr ⟨(fun z => nomatch z), .tb, ?_, rfl⟩)
              show (L.lookup z).bind _ = _
              rw [el, Option.bind_some, if_pos (by omega)]
end
end Ash

set_option Elab.async false
set_option linter.all false
set_option maxRecDepth 100000
set_option maxHeartbeats 4000000
namespace Ash
open PySem PySem.Spec PyProof.Rows L2
open C8 (pss_cut)
/-! ### rows of things that may be entries -/
abbrev Kn := Int → Option RowSt
def late? (l : Option Int) (r : Int) : Bool := match l with
  | some t => decide (r < t)
  | none => false
/-- the index of the first thing that is not a good entry, and what is known ahead of it -/
def wk (L : List (Str × Int)) : List (Option Ent) → Nat → Kn → Option Int → Option Nat × Kn
  | [], _, S, _ => (none, S)
  | none :: _, i, S, _ => (some i, S)
  | some x :: r, i, S, l => if late? l x.arr = true then (some i, S) else match behind L x (S x.id) with
    | none => (some i, S)
    | some y => wk L r (i + 1) (fun j => if j = x.id then some y else S j) (some x.arr)
def ThAt (K : PySem.W.Frag) (H : Hp) (v : V) : Option Ent → Prop
  | some x => ∃ e, v = .ref e ∧ EntAt H e x ∧ x.ok
  | none => ∃ th, ThA K H v th ∧ gT th = false
/-- a dict with keys that are ints, each once -/
structure KLen (kvs : List (Key × V)) (n : Nat) : Prop where
  len : kvs.length ≤ n
  nd : (kvs.map (·.1)).Nodup
  ik : ∀ kv ∈ kvs, ∃ id, kv.1 = Sum.inl id
theorem KLen.mono {kvs : List (Key × V)} {n m : Nat} (h : KLen kvs n) (l : n ≤ m) : KLen kvs m := ⟨Nat.le_trans h.len l, h.nd, h.ik⟩
theorem KLen.nil {n : Nat} : KLen [] n := ⟨Nat.zero_le _, .nil, fun _ h => nomatch h⟩
theorem KLen.put {kvs : List (Key × V)} {n : Nat} (h : KLen kvs n) (id : Int) (v : V) : KLen (putK kvs (Sum.inl id : Key) v) (n + 1) := by
  have hl := length_putK kvs (Sum.inl id : Key) v
  have h1 := h.len
  refine ⟨by omega, ?_, ?_⟩
  · unfold putK
    split
    · rw [List.map_map]
      have e : ((fun x : Key × V => x.1) ∘ fun kv : Key × V => if kv.1 = Sum.inl id then (kv.1, v) else kv) = fun x => x.1 := by
        funext x
        show (if x.1 = Sum.inl id then (x.1, v) else x).1 = x.1
        split <;> rfl
      first
        | exact e ▸ h.nd
        | (rw [show (kvs.map _) = kvs.map (·.1) from List.map_congr_left fun x _ => by
            show (if x.1 = Sum.inl id then _ else _ : Key × V).1 = x.1
            split <;> simp_all]
           exact h.nd)
    · rename_i c
      rw [List.map_append, List.nodup_append]
      refine ⟨h.nd, by simp, fun a ha b hb => ?_⟩
      obtain ⟨x, hx, rfl⟩ := List.mem_map.mp ha
      have : b = Sum.inl id := by simpa using hb
      subst this
      intro z
      exact c (List.any_eq_true.mpr ⟨x, hx, by simp [z]⟩)
  · intro kv hkv
    unfold putK at hkv
    split at hkv
    · obtain ⟨x, hx, rfl⟩ := List.mem_map.mp hkv
      obtain ⟨j, hj⟩ := h.ik x hx
      split
      · exact ⟨j, hj⟩
      · exact ⟨j, hj⟩
    · rcases List.mem_append.mp hkv with hk | hk
      · exact h.ik kv hk
      · rw [List.mem_singleton.mp hk]
        exact ⟨id, rfl⟩
def KnAt (aT : Addr) (H : Hp) (d : Addr) (S : Kn) (n : Nat) : Prop := ∃ kvs : List (Key × V), H d = some (.dK kvs) ∧ KLen kvs n ∧ ∀ id, RowV aT H (valV kvs (Sum.inl id)) (S id)
def KnOk (L : List (Str × Int)) (S : Kn) : Prop := ∀ id s k m a, S id = some (.at_ s k m a) → IsNm s ∧ IsNm k ∧ (L.lookup s).isSome
theorem tyx_same {K : PySem.W.Frag} {H H' : Hp} {v : V} {t : Value} (h : TyX K H v t) (s : Same H H') : TyX K H' v t := by
  cases h with
  | base b =>
    refine .base ?_
    cases b with
    | non => exact .non
    | bl x => exact .bl x
    | int x => exact .int x
    | str x => exact .str x
    | flt x => exact .flt x
    | lst e => exact .lst (s _ _ e)
    | frz e => exact .frz (s _ _ e)
    | tup e => exact .tup (s _ _ e)
    | dK e => exact .dK (s _ _ e)
    | dT e => exact .dT (s _ _ e)
    | ins e c a b d f => exact .ins (s _ _ e) c a b d f
  | byt b => exact .byt b
  | set e => exact .set (s _ _ e)
  | kList e c => exact .kList e c
  | kTuple e c => exact .kTuple e c
  | kDict e c => exact .kDict e c
  | fTuple e => exact .fTuple (s _ _ e)
  | fDict e => exact .fDict (s _ _ e)
theorem ThAt.same {K : PySem.W.Frag} {H H' : Hp} {v : V} {o : Option Ent} (h : ThAt K H v o) (s : Same H H') : ThAt K H' v o := by
  cases o with
  | some x =>
    obtain ⟨e, h1, h2, h3⟩ := h
    exact ⟨e, h1, s _ _ h2, h3⟩
  | none =>
    obtain ⟨th, h1, h2⟩ := h
    exact ⟨th, h1.same s, h2⟩
theorem behind_ok {L : List (Str × Int)} {x : Ent} {o : Option RowSt} {y : RowSt} (hx : x.ok) (ho : ∀ s k m a, o = some (.at_ s k m a) → IsNm s ∧ IsNm k ∧ (L.lookup s).isSome) (h : behind L x o = some y) :
    ∀ s k m a, y = .at_ s k m a → IsNm s ∧ IsNm k ∧ (L.lookup s).isSome := by
  rintro s k m a rfl
  cases x with
  | row id s' k' m' a' r =>
    cases o with
    | some o => cases h
    | none =>
      have h : (L.lookup s').bind _ = _ := h
      cases el : L.lookup s' with
      | none => rw [el] at h; cases h
      | some l =>
        rw [el, Option.bind_some] at h
        split at h
        · cases h
          obtain ⟨h1, h2⟩ := hx.2 _ _ _ _ _ _ rfl
          exact ⟨h1, h2, by rw [el]; rfl⟩
        · cases h
  | fix id m' a' r =>
    cases o with
    | none => cases h
    | some o =>
      cases o with
      | tb => cases h
      | at_ s' k' m0 a0 =>
        have h : (L.lookup s').bind _ = _ := h
        cases el : L.lookup s' with
        | none => rw [el] at h; cases h
        | some l =>
          rw [el, Option.bind_some] at h
          split at h
          · cases h
            exact ho _ _ _ _ rfl
          · cases h
  | gone id r =>
    cases o with
    | none => cases h
    | some o =>
      cases o with
      | tb => cases h
      | at_ s' k' m0 a0 =>
        have h : (L.lookup s').bind _ = _ := h
        cases el : L.lookup s' with
        | none => rw [el] at h; cases h
        | some l =>
          rw [el, Option.bind_some] at h
          split at h <;> cases h
def atV : Option Nat → V
  | none => .non
  | some i => .int (i : Int)
def spWalked (K : PySem.W.Frag) (aT CB : Addr) : Sp := fun vs H Q _ => ∃ (b a : Addr) (L : List (Str × Int)) (us : List V) (ths : List (Option Ent)), vs = [.ref b, .ref a] ∧ BookAt CB H b L ∧ (SqL K H a us ∨ SqT K H a us) ∧ us.length ≤ 1000 ∧ us.length = ths.length ∧
  (∀ (i : Nat) v o, us[i]? = some v → ths[i]? = some o → ThAt K H v o) ∧
  ∀ t kd H', H kd = none → Same H H' → H' t = some (.tup [atV (wk L ths 0 (fun _ => none) none).1, .ref kd]) → KnAt aT H' kd (wk L ths 0 (fun _ => none) none).2 us.length → Q (.ref t) H'
theorem pk_len {κ : Type} [DecidableEq κ] (c : List (κ × V)) (k : κ) (x : V) : (putK c k x).length ≤ c.length + 1 := by
  unfold putK
  split
  · rw [List.length_map]
    omega
  · rw [List.length_append]
    exact Nat.le_refl _
theorem seqS {K : PySem.W.Frag} {H H' : Hp} {a : Addr} {us : List V} (h : SqT K H a us) (s : Same H H') : SqT K H' a us := by
  rcases h with (h | ⟨o, h⟩) | h
  · exact .inl (.inl (s _ _ h))
  · exact .inl (.inr ⟨o, s _ _ h⟩)
  · exact .inr h
theorem rowV_off {aT d : Addr} {H : Hp} {kvs : List (Key × V)} {o' : HO} {w : Option V} {o : Option RowSt} (h : RowV aT H w o) (hd : H d = some (.dK kvs)) : RowV aT (upd H d o') w o := by
  cases w with
  | none => cases o <;> exact h
  | some v =>
    cases o with
    | none => exact h
    | some o =>
      cases o with
      | tb => exact h
      | at_ z k m a =>
        obtain ⟨t, e, h⟩ := h
        exact ⟨t, e, by rw [upd_ne (ne_of h hd (by intro z; cases z))]; exact h⟩
def latV : Option Int → V
  | none => .non
  | some n => .int n
theorem ent_id (y : Ent) : atI y.vs 1 = some (.int y.id) := by cases y <;> rfl
theorem wk_odd (L : List (Str × Int)) (r : List (Option Ent)) (i : Nat) (S : Kn) (l : Option Int) : wk L (none :: r) i S l = (some i, S) := rfl
theorem wk_late {L : List (Str × Int)} {x : Ent} {r : List (Option Ent)} {i : Nat} {S : Kn} {l : Option Int} (h : late? l x.arr = true) : wk L (some x :: r) i S l = (some i, S) := by
  show (if late? l x.arr = true then _ else _) = _
  rw [if_pos h]
theorem wk_bad {L : List (Str × Int)} {x : Ent} {r : List (Option Ent)} {i : Nat} {S : Kn} {l : Option Int} (h : late? l x.arr = false) (hb : behind L x (S x.id) = none) : wk L (some x :: r) i S l = (some i, S) := by
  show (if late? l x.arr = true then _ else _) = _
  rw [h, if_neg Bool.false_ne_true, hb]
theorem wk_go {L : List (Str × Int)} {x : Ent} {r : List (Option Ent)} {i : Nat} {S : Kn} {l : Option Int} {y : RowSt} (h : late? l x.arr = false) (hb : behind L x (S x.id) = some y) : wk L (some x :: r) i S l = wk L r (i + 1) (fun j => if j = x.id then some y else S j) (some x.arr) := by
  show (if late? l x.arr = true then _ else _) = _
  rw [h, if_neg Bool.false_ne_true, hb]
section
variable {P : Program} {w : World} {K : PySem.W.Frag} {mg : Str → Option Value} {base : Heap}
structure K6 (P : Program) (w : World) (K : PySem.W.Frag) (mg : Str → Option Value) (base : Heap) (CB aT : Addr) : Prop extends K5 P w K mg base CB where
  row_behind : Cal P w K mg base CX0 "row_behind" 5 ["book", "entry", "old"] (spBehind aT CB)
abbrev s_walked : Stmt := topS 27
theorem sc_walked : FnScope ["book", "things", "known", "latest", "at", "thing", "row"] ["book", "things"] (defScope s_walked) := ⟨rfl, rfl, rfl, by decide +kernel, rfl, by decide +kernel, by decide +kernel⟩
theorem ok_walked {f CB a_TAKEN_BACK : Addr} {fd : FuncData} (F : Fun K "walked" "walked" s_walked f fd) (B : Blt mg) (G : K6 P w K mg base CB a_TAKEN_BACK) : FnOk P w K mg base CX0 6 f fd ["book", "things"] (spWalked K a_TAKEN_BACK CB) := by
  refine F.ok sc_walked (fun vs H Q E h => ?_) (fun cdv A outer s H vs Q E hr h => ?_)
  · obtain ⟨b, a, L, us, ths, rfl, _⟩ := h
    rfl
  · obtain ⟨b, a, L, us, ths, rfl, hB, hS, hn, hlen, hT3, q⟩ := h
    have hu := hu_of hr
    refine ⟨_, (pss_cons (ps_set (i := 2) sc_walked.nd rfl (Or.inl rfl) pe_dnewK)
    (pss_cons (ps_set (i := 3) sc_walked.nd rfl (Or.inl rfl) pe_non)
    (pss_cons (ps_for PassesOwn.never rfl (pi_enumS (by rfl) B.enumerate (pa_cons (pv 1) pa_nil)) (pg_tup (by rfl) (pgs_cons (pg_name (i := 4) sc_walked.nd rfl (Or.inl rfl)) (pgs_cons (pg_name (i := 5) sc_walked.nd rfl (Or.inl rfl)) pgs_nil)))
      (pss_cut (ps_if (PW.pt (pw_or (pt_not (pt_val (pe_cal G.is_entry (hr.mono (by decide)) pass0 (pa_cons (pv 5) pa_nil)))) (pw_or1 (PW.pt (pw_and (pt_cmpR op_notN (pv 3) pe_non (nomark _)) (pw_and1 (pt_cmpR op_lt (pe_cal G.arrival_of (hr.mono (by decide)) pass0 (pa_cons (pv 5) pa_nil)) (pv 3) (nomark _))))))))
        (pss_one (ps_ret (pe_tup (pa_cons (pv 4) (pa_cons (pv 2) pa_nil)))))
        pss_nil)
      (pss_cons (ps_set (i := 6) sc_walked.nd rfl (Or.inl rfl) (pe_cal G.row_behind (hr.mono (by decide)) pass0 (pa_cons (pv 0) (pa_cons (pv 5) (pa_cons (pe_dget1 hu (pv 2) (pe_ix ix_tup (pv 5) pe_int (fun _ _ => rfl)) ⟨rfl, rfl, rfl, rfl⟩) pa_nil)))))
      (pss_cons (ps_if (pt_cmpR op_isN (pv 6) pe_non (nomark _))
        (pss_one (ps_ret (pe_tup (pa_cons (pv 4) (pa_cons (pv 2) pa_nil)))))
        pss_nil)
      (pss_cons (ps_dput hu (pv 2) (pe_ix ix_tup (pv 5) pe_int (fun _ _ => rfl)) (pv 6) rfl)
      (pss_one (ps_set (i := 3) sc_walked.nd rfl (Or.inl rfl) (pe_cal G.arrival_of (hr.mono (by decide)) pass0 (pa_cons (pv 5) pa_nil)))))))))
    (pss_one (ps_ret (pe_tup (pa_cons pe_non (pa_cons (pv 2) pa_nil)))))))), ?_⟩
    intro d hd
    rcases hS with hS | hS
    · refine ⟨_, rfl, a, rfl, .inl ⟨_, (sameAt (Same.refl H) hd).seq hS, for_it walk_enum (fun i σ H1 => ∃ (S : Kn) (lo : Option Int), (∃ a1 a2 a3, σ = [some (.ref b), some (.ref a), some (.ref d), some (latV lo), a1, a2, a3]) ∧ wk L ths 0 (fun _ => none) none = wk L (ths.drop i) i S lo ∧ KnAt a_TAKEN_BACK H1 d S i ∧ Same H H1 ∧ KnOk L S) ?_ (fun i σ H1 _ hv => by
        obtain ⟨S, lo, _, _, _, s1, _⟩ := hv
        exact s1.seq hS) ?_ ?_⟩⟩
      · exact ⟨fun _ => none, none, ⟨_, _, _, rfl⟩, rfl, ⟨[], upd_same, KLen.nil, fun id => trivial⟩, sameAt (Same.refl H) hd, fun _ _ _ _ _ z => nomatch z⟩
      · rintro i x σ H1 H2 hi ⟨S, lo, ⟨a1, a2, a3, rfl⟩, hw, ⟨kvs, hk1, hk2, hk3⟩, s1, hKn⟩ ⟨T, x1, x2, rfl, hT, rfl, e1, e2⟩
        cases e1
        have hil : i < ths.length := by rw [← hlen]; exact hi
        obtain ⟨o, ho⟩ : ∃ o, ths[i]? = some o := ⟨_, List.getElem?_eq_getElem hil⟩
        have s2 : Same H (upd H1 T (.tup [.int (i : Nat), x2])) := s1.trans (sameAt (Same.refl _) hT)
        have hdT : d ≠ T := fun z => by rw [← z, hk1] at hT; cases hT
        have hkd2 : (upd H1 T (.tup [.int (i : Nat), x2])) d = some (.dK kvs) := by rw [upd_ne hdT]; exact hk1
        have hth := hT3 i x2 o e2 ho
        have hdrop : ths.drop i = o :: ths.drop (i + 1) := by
          rw [List.drop_eq_getElem_cons hil]
          rw [List.getElem?_eq_getElem hil] at ho
          rw [Option.some.inj ho]
        rw [hdrop] at hw
        refine ⟨T, _, rfl, SqT.of upd_same, rfl, _, _, rfl, _, _, rfl, rfl, ?_⟩
        have bad : ∀ H3, Same (upd H1 T (.tup [.int (i : Nat), x2])) H3 → wk L (o :: ths.drop (i + 1)) i S lo = (some i, S) →
            ∀ (p : Addr), H3 p = none → Q (.ref p) (upd H3 p (.tup [.int (i : Nat), .ref d])) := fun H3 s3 hbad p hp => by
          have s4 := s3.trans (sameAt (Same.refl H3) hp (o := .tup [.int (i : Nat), .ref d]))
          rw [hbad] at hw
          refine q p d _ hd (s2.trans s4) ?_ ?_
          · rw [upd_same, hw]
            rfl
          · rw [hw]
            exact ⟨kvs, s4 _ _ hkd2, hk2.mono (Nat.le_of_lt hi), fun id => (hk3 id).same ((sameAt (Same.refl H1) hT).trans s4)⟩
        refine ⟨fun σ' H3 => (∃ e y a3, o = some y ∧ x2 = .ref e ∧ EntAt H e y ∧ y.ok ∧ σ' = [some (.ref b), some (.ref a), some (.ref d), some (latV lo), some (.int (i : Nat)), some (.ref e), a3] ∧ late? lo y.arr = false) ∧ Same (upd H1 T (.tup [.int (i : Nat), x2])) H3, ?_, ?_⟩
        · cases o with
          | none =>
            obtain ⟨th, h1, h2⟩ := hth.same s2
            refine ⟨_, rfl, x2, th, rfl, h1, fun H3 s3 => ⟨_, rfl, ?_⟩⟩
            rw [h2]
            exact iteT ⟨_, rfl, _, rfl, (by show 2 ≤ sizeLine; decide), fun p hp => bad _ s3 rfl p hp⟩
          | some y =>
            obtain ⟨e, rfl, hx, hok⟩ := hth
            refine ⟨_, rfl, _, _, rfl, thA_of (s2 _ _ hx) hok, fun H3 s3 => ⟨_, rfl, ?_⟩⟩
            rw [gT_of hok]
            refine iteF ?_
            have hx3 : EntAt H3 e y := s3 _ _ (s2 _ _ hx)
            cases lo with
            | none => exact ⟨_, rfl, rfl, _, rfl, iteF ⟨⟨e, y, _, rfl, rfl, hx, hok, rfl, rfl⟩, s3⟩⟩
            | some n =>
              refine ⟨_, rfl, rfl, _, rfl, iteT ⟨_, rfl, e, y, rfl, hx3, _, rfl, _, _, rfl, rfl, _, rfl, ?_⟩⟩
              refine ite2 (fun c1 => ?_) (fun c1 => ?_)
              · exact ⟨_, rfl, _, rfl, (by show 2 ≤ sizeLine; decide), fun p hp => bad _ s3 (wk_late c1) p hp⟩
              · exact ⟨⟨e, y, _, rfl, rfl, hx, hok, rfl, Bool.eq_false_iff.mpr c1⟩, s3⟩
        · rintro σ' H3 ⟨⟨e, y, a3, rfl, rfl, hx, hok, rfl, hlt⟩, s3⟩
          have s23 := s2.trans s3
          have hx3 : EntAt H3 e y := s23 _ _ hx
          have hkd3 : H3 d = some (.dK kvs) := s3 _ _ hkd2
          have s13 : Same H1 H3 := (sameAt (Same.refl H1) hT).trans s3
          refine ⟨_, rfl, _, rfl, _, rfl, d, rfl, .inl ⟨_, .of hkd3⟩, _, rfl, _, _, _, _, rfl, rfl, SqT.of hx3, ent_id y, _, DGet.k (k := Sum.inl y.id) hkd3, b, e, L, y, _, S y.id, rfl, hB.same s23, hx3, hok, (hk3 y.id).same s13, hKn y.id, fun v H4 s4 hv => ?_⟩
          have s34 := s3.trans s4
          rcases hv with ⟨hb, rfl⟩ | ⟨hvn, z, hb, hvz⟩
          · exact ⟨_, rfl, rfl, _, rfl, iteT ⟨_, rfl, _, rfl, (by show 2 ≤ sizeLine; decide), fun p hp => bad _ s34 (wk_bad hlt hb) p hp⟩⟩
          · refine ⟨_, rfl, rfl, _, rfl, ?_⟩
            rw [decide_eq_false hvn]
            have hx4 : EntAt H4 e y := s4 _ _ hx3
            have hkd4 : H4 d = some (.dK kvs) := s4 _ _ hkd3
            refine iteF ⟨_, rfl, _, rfl, _, rfl, _, _, _, _, rfl, rfl, SqT.of hx4, ent_id y, d, _, rfl, DPut.k (k := Sum.inl y.id) hkd4 (small1000 (by have := hk2.len; omega)), ?_⟩
            have hed : e ≠ d := fun q => by rw [q] at hx4; rw [show H4 d = _ from hx4] at hkd4; cases hkd4
            have hx5 : EntAt (upd H4 d (.dK (putK kvs (Sum.inl y.id) v))) e y := by show upd _ _ _ _ = _; rw [upd_ne hed]; exact hx4
            have s5 : Same H (upd H4 d (.dK (putK kvs (Sum.inl y.id) v))) := sameAt (s23.trans s4) hd
            refine ⟨_, rfl, e, y, rfl, hx5, (fun j => if j = y.id then some z else S j), some y.arr, ⟨_, _, _, rfl⟩, ?_, ⟨_, upd_same, hk2.put _ _, fun id => ?_⟩, s5, ?_⟩
            · rw [hw, wk_go hlt hb]
            · rw [valV_put]
              show RowV _ _ _ (if id = y.id then some z else S id)
              have rv : ∀ {w : Option V} {o : Option RowSt}, RowV a_TAKEN_BACK H4 w o → RowV a_TAKEN_BACK (upd H4 d (.dK (putK kvs (Sum.inl y.id) v))) w o := fun {w o} h => rowV_off h hkd4
              by_cases ej : id = y.id
              · rw [if_pos (by rw [ej]), if_pos ej]
                exact rv hvz
              · rw [if_neg (fun q => ej (Sum.inl.inj q)), if_neg ej]
                exact rv (((hk3 id).same s13).same s4)
            · intro id z1 k m a' he
              by_cases ej : id = y.id
              · have he : (if id = y.id then some z else S id) = some (.at_ z1 k m a') := he
                rw [if_pos ej] at he
                exact behind_ok hok (hKn y.id) hb _ _ _ _ (Option.some.inj he)
              · have he : (if id = y.id then some z else S id) = some (.at_ z1 k m a') := he
                rw [if_neg ej] at he
                exact hKn id _ _ _ _ he
      · rintro σ H1 ⟨S, lo, ⟨a1, a2, a3, rfl⟩, hw, hk, s1, hKn⟩
        have e : ths.drop us.length = [] := by rw [hlen]; exact List.drop_length
        rw [e] at hw
        refine ⟨_, rfl, (by show 2 ≤ sizeLine; decide), fun p hp => ?_⟩
        have s4 := sameAt (Same.refl H1) hp (o := .tup [.non, .ref d])
        obtain ⟨kvs, hk1, hk2, hk3⟩ := hk
        refine q p d _ hd (s1.trans s4) ?_ ?_
        · rw [upd_same, hw]
          rfl
        · rw [hw]
          exact ⟨kvs, s4 _ _ hk1, hk2, fun id => (hk3 id).same s4⟩
    · refine ⟨_, rfl, a, rfl, .inr ⟨_, seqS hS (sameAt (Same.refl H) hd), for_it walk_enumT (fun i σ H1 => ∃ (S : Kn) (lo : Option Int), (∃ a1 a2 a3, σ = [some (.ref b), some (.ref a), some (.ref d), some (latV lo), a1, a2, a3]) ∧ wk L ths 0 (fun _ => none) none = wk L (ths.drop i) i S lo ∧ KnAt a_TAKEN_BACK H1 d S i ∧ Same H H1 ∧ KnOk L S) ?_ (fun i σ H1 _ hv => by
        obtain ⟨S, lo, _, _, _, s1, _⟩ := hv
        exact seqS hS s1) ?_ ?_⟩⟩
      · exact ⟨fun _ => none, none, ⟨_, _, _, rfl⟩, rfl, ⟨[], upd_same, KLen.nil, fun id => trivial⟩, sameAt (Same.refl H) hd, fun _ _ _ _ _ z => nomatch z⟩
      · rintro i x σ H1 H2 hi ⟨S, lo, ⟨a1, a2, a3, rfl⟩, hw, ⟨kvs, hk1, hk2, hk3⟩, s1, hKn⟩ ⟨T, x1, x2, rfl, hT, rfl, e1, e2⟩
        cases e1
        have hil : i < ths.length := by rw [← hlen]; exact hi
        obtain ⟨o, ho⟩ : ∃ o, ths[i]? = some o := ⟨_, List.getElem?_eq_getElem hil⟩
        have s2 : Same H (upd H1 T (.tup [.int (i : Nat), x2])) := s1.trans (sameAt (Same.refl _) hT)
        have hdT : d ≠ T := fun z => by rw [← z, hk1] at hT; cases hT
        have hkd2 : (upd H1 T (.tup [.int (i : Nat), x2])) d = some (.dK kvs) := by rw [upd_ne hdT]; exact hk1
        have hth := hT3 i x2 o e2 ho
        have hdrop : ths.drop i = o :: ths.drop (i + 1) := by
          rw [List.drop_eq_getElem_cons hil]
          rw [List.getElem?_eq_getElem hil] at ho
          rw [Option.some.inj ho]
        rw [hdrop] at hw
        refine ⟨T, _, rfl, SqT.of upd_same, rfl, _, _, rfl, _, _, rfl, rfl, ?_⟩
        have bad : ∀ H3, Same (upd H1 T (.tup [.int (i : Nat), x2])) H3 → wk L (o :: ths.drop (i + 1)) i S lo = (some i, S) →
            ∀ (p : Addr), H3 p = none → Q (.ref p) (upd H3 p (.tup [.int (i : Nat), .ref d])) := fun H3 s3 hbad p hp => by
          have s4 := s3.trans (sameAt (Same.refl H3) hp (o := .tup [.int (i : Nat), .ref d]))
          rw [hbad] at hw
          refine q p d _ hd (s2.trans s4) ?_ ?_
          · rw [upd_same, hw]
            rfl
          · rw [hw]
            exact ⟨kvs, s4 _ _ hkd2, hk2.mono (Nat.le_of_lt hi), fun id => (hk3 id).same ((sameAt (Same.refl H1) hT).trans s4)⟩
        refine ⟨fun σ' H3 => (∃ e y a3, o = some y ∧ x2 = .ref e ∧ EntAt H e y ∧ y.ok ∧ σ' = [some (.ref b), some (.ref a), some (.ref d), some (latV lo), some (.int (i : Nat)), some (.ref e), a3] ∧ late? lo y.arr = false) ∧ Same (upd H1 T (.tup [.int (i : Nat), x2])) H3, ?_, ?_⟩
        · cases o with
          | none =>
            obtain ⟨th, h1, h2⟩ := hth.same s2
            refine ⟨_, rfl, x2, th, rfl, h1, fun H3 s3 => ⟨_, rfl, ?_⟩⟩
            rw [h2]
            exact iteT ⟨_, rfl, _, rfl, (by show 2 ≤ sizeLine; decide), fun p hp => bad _ s3 rfl p hp⟩
          | some y =>
            obtain ⟨e, rfl, hx, hok⟩ := hth
            refine ⟨_, rfl, _, _, rfl, thA_of (s2 _ _ hx) hok, fun H3 s3 => ⟨_, rfl, ?_⟩⟩
            rw [gT_of hok]
            refine iteF ?_
            have hx3 : EntAt H3 e y := s3 _ _ (s2 _ _ hx)
            cases lo with
            | none => exact ⟨_, rfl, rfl, _, rfl, iteF ⟨⟨e, y, _, rfl, rfl, hx, hok, rfl, rfl⟩, s3⟩⟩
            | some n =>
              refine ⟨_, rfl, rfl, _, rfl, iteT ⟨_, rfl, e, y, rfl, hx3, _, rfl, _, _, rfl, rfl, _, rfl, ?_⟩⟩
              refine ite2 (fun c1 => ?_) (fun c1 => ?_)
              · exact ⟨_, rfl, _, rfl, (by show 2 ≤ sizeLine; decide), fun p hp => bad _ s3 (wk_late c1) p hp⟩
              · exact ⟨⟨e, y, _, rfl, rfl, hx, hok, rfl, Bool.eq_false_iff.mpr c1⟩, s3⟩
        · rintro σ' H3 ⟨⟨e, y, a3, rfl, rfl, hx, hok, rfl, hlt⟩, s3⟩
          have s23 := s2.trans s3
          have hx3 : EntAt H3 e y := s23 _ _ hx
          have hkd3 : H3 d = some (.dK kvs) := s3 _ _ hkd2
          have s13 : Same H1 H3 := (sameAt (Same.refl H1) hT).trans s3
          refine ⟨_, rfl, _, rfl, _, rfl, d, rfl, .inl ⟨_, .of hkd3⟩, _, rfl, _, _, _, _, rfl, rfl, SqT.of hx3, ent_id y, _, DGet.k (k := Sum.inl y.id) hkd3, b, e, L, y, _, S y.id, rfl, hB.same s23, hx3, hok, (hk3 y.id).same s13, hKn y.id, fun v H4 s4 hv => ?_⟩
          have s34 := s3.trans s4
          rcases hv with ⟨hb, rfl⟩ | ⟨hvn, z, hb, hvz⟩
          · exact ⟨_, rfl, rfl, _, rfl, iteT ⟨_, rfl, _, rfl, (by show 2 ≤ sizeLine; decide), fun p hp => bad _ s34 (wk_bad hlt hb) p hp⟩⟩
          · refine ⟨_, rfl, rfl, _, rfl, ?_⟩
            rw [decide_eq_false hvn]
            have hx4 : EntAt H4 e y := s4 _ _ hx3
            have hkd4 : H4 d = some (.dK kvs) := s4 _ _ hkd3
            refine iteF ⟨_, rfl, _, rfl, _, rfl, _, _, _, _, rfl, rfl, SqT.of hx4, ent_id y, d, _, rfl, DPut.k (k := Sum.inl y.id) hkd4 (small1000 (by have := hk2.len; omega)), ?_⟩
            have hed : e ≠ d := fun q => by rw [q] at hx4; rw [show H4 d = _ from hx4] at hkd4; cases hkd4
            have hx5 : EntAt (upd H4 d (.dK (putK kvs (Sum.inl y.id) v))) e y := by show upd _ _ _ _ = _; rw [upd_ne hed]; exact hx4
            have s5 : Same H (upd H4 d (.dK (putK kvs (Sum.inl y.id) v))) := sameAt (s23.trans s4) hd
            refine ⟨_, rfl, e, y, rfl, hx5, (fun j => if j = y.id then some z else S j), some y.arr, ⟨_, _, _, rfl⟩, ?_, ⟨_, upd_same, hk2.put _ _, fun id => ?_⟩, s5, ?_⟩
            · rw [hw, wk_go hlt hb]
            · rw [valV_put]
              show RowV _ _ _ (if id = y.id then some z else S id)
              have rv : ∀ {w : Option V} {o : Option RowSt}, RowV a_TAKEN_BACK H4 w o → RowV a_TAKEN_BACK (upd H4 d (.dK (putK kvs (Sum.inl y.id) v))) w o := fun {w o} h => rowV_off h hkd4
              by_cases ej : id = y.id
              · rw [if_pos (by rw [ej]), if_pos ej]
                exact rv hvz
              · rw [if_neg (fun q => ej (Sum.inl.inj q)), if_neg ej]
                exact rv (((hk3 id).same s13).same s4)
            · intro id z1 k m a' he
              by_cases ej : id = y.id
              · have he : (if id = y.id then some z else S id) = some (.at_ z1 k m a') := he
                rw [if_pos ej] at he
                exact behind_ok hok (hKn y.id) hb _ _ _ _ (Option.some.inj he)
              · have he : (if id = y.id then some z else S id) = some (.at_ z1 k m a') := he
                rw [if_neg ej] at he
                exact hKn id _ _ _ _ he
      · rintro σ H1 ⟨S, lo, ⟨a1, a2, a3, rfl⟩, hw, hk, s1, hKn⟩
        have e : ths.drop us.length = [] := by rw [hlen]; exact List.drop_length
        rw [e] at hw
        refine ⟨_, rfl, (by show 2 ≤ sizeLine; decide), fun p hp => ?_⟩
        have s4 := sameAt (Same.refl H1) hp (o := .tup [.non, .ref d])
        obtain ⟨kvs, hk1, hk2, hk3⟩ := hk
        refine q p d _ hd (s1.trans s4) ?_ ?_
        · rw [upd_same, hw]
          rfl
        · rw [hw]
          exact ⟨kvs, s4 _ _ hk1, hk2, fun id => (hk3 id).same s4⟩
end
end Ash

set_option Elab.async false
set_option linter.all false
set_option maxRecDepth 100000
set_option maxHeartbeats 4000000
namespace Ash
open PySem PySem.Spec PyProof.Rows L2
open C8 (pss_cut)
/-! ### journals -/
def jf (b t kd : Addr) : List (Str × V) := putF "_known" (.ref kd) (putF "entries" (.ref t) (putF "book" (.ref b) []))
theorem jf_b (b t kd : Addr) : (jf b t kd).lookup ("book" : Str) = some (.ref b) := by
  unfold jf
  rw [lookup_putF, if_neg (by decide +kernel), lookup_putF, if_neg (by decide +kernel), lookup_putF, if_pos rfl]
theorem jf_e (b t kd : Addr) : (jf b t kd).lookup ("entries" : Str) = some (.ref t) := by
  unfold jf
  rw [lookup_putF, if_neg (by decide +kernel), lookup_putF, if_pos rfl]
theorem jf_k (b t kd : Addr) : (jf b t kd).lookup ("_known" : Str) = some (.ref kd) := by
  unfold jf
  rw [lookup_putF, if_pos rfl]
theorem jf_no (b t kd : Addr) {m : Str} (h1 : ¬ m = "_known") (h2 : ¬ m = "entries") (h3 : ¬ m = "book") : (jf b t kd).lookup m = none := by
  unfold jf
  rw [lookup_putF, if_neg h1, lookup_putF, if_neg h2, lookup_putF, if_neg h3]
  rfl
/-- a journal of the book at b with the things us, which are the entries xs -/
def JAt (K : PySem.W.Frag) (aT CJ CB : Addr) (H : Hp) (j b : Addr) (L : List (Str × Int)) (us : List V) (xs : List Ent) : Prop := ∃ dx t kd, H j = some (.ins CJ dx (jf b t kd)) ∧ BookAt CB H b L ∧ SqT K H t us ∧ us.length = xs.length ∧
  (∀ (i : Nat) v x, us[i]? = some v → xs[i]? = some x → ThAt K H v (some x)) ∧ (wk L (xs.map some) 0 (fun _ => none) none).1 = none ∧ KnAt aT H kd (wk L (xs.map some) 0 (fun _ => none) none).2 us.length
theorem KnAt.same {aT : Addr} {H H' : Hp} {d : Addr} {S : Kn} {n : Nat} (h : KnAt aT H d S n) (s : Same H H') : KnAt aT H' d S n := by
  obtain ⟨kvs, h1, h2, h3⟩ := h
  exact ⟨kvs, s _ _ h1, h2, fun id => (h3 id).same s⟩
theorem JAt.same {K : PySem.W.Frag} {aT CJ CB : Addr} {H H' : Hp} {j b : Addr} {L : List (Str × Int)} {us : List V} {xs : List Ent} (h : JAt K aT CJ CB H j b L us xs) (s : Same H H') : JAt K aT CJ CB H' j b L us xs := by
  obtain ⟨dx, t, kd, h1, h2, h3, h4, h5, h6, h7⟩ := h
  exact ⟨dx, t, kd, s _ _ h1, h2.same s, seqS h3 s, h4, fun i v x a b => (h5 i v x a b).same s, h6, h7.same s⟩
def spIsRow (K : PySem.W.Frag) : Sp := fun vs H Q _ => ∃ (a : Addr) (us : List V), vs = [.ref a] ∧ (H a = some (.lst us) ∨ SqT K H a us) ∧ ∀ H', Same H H' → Q (.bl true) H'
/-- the made error's dict -/
def Xd (H : Hp) (d : Addr) (fl : Str) (v : V) : Prop := H d = some (.xd [(fl, v)])
def spJInit (K : PySem.W.Frag) (aT CJ CB CE : Addr) : Sp := fun vs H Q E => ∃ (j dx b a : Addr) (L : List (Str × Int)) (us : List V) (ths : List (Option Ent)), vs = [.ref j, .ref b, .ref a] ∧ H j = some (.ins CJ dx []) ∧ BookAt CB H b L ∧ (H a = some (.lst us) ∨ SqT K H a us) ∧ us.length ≤ 400 ∧ us.length = ths.length ∧
  (∀ (i : Nat) v o, us[i]? = some v → ths[i]? = some o → ThAt K H v o) ∧
  (∀ H' xs, ths = xs.map some → (wk L ths 0 (fun _ => none) none).1 = none → JAt K aT CJ CB H' j b L us xs → (∃ dx t kd, H' j = some (.ins CJ dx (jf b t kd)) ∧ H kd = none) → (∀ c o, H c = some o → c ≠ j → H' c = some o) → Q .non H') ∧
  (∀ i d H', (wk L ths 0 (fun _ => none) none).1 = some i → Same H H' → Xd H' d "at" (.int (i : Int)) → E (.ref CE) (some d) H')
/-- what the top says of Journal and of the errors -/
structure Cj (P : Program) (K : PySem.W.Frag) (mg : Str → Option Value) (CJ CB : Addr) : Prop where
  cl : Cls K CJ
  nB : NoAttr K CJ "book"
  nE : NoAttr K CJ "entries"
  nK : NoAttr K CJ "_known"
  c : mg "Journal" = some (.ref CJ)
theorem wk_some {L : List (Str × Int)} : ∀ {ths : List (Option Ent)} {i : Nat} {S : Kn} {l : Option Int}, (wk L ths i S l).1 = none → ∃ xs : List Ent, ths = xs.map some
  | [], _, _, _, _ => ⟨[], rfl⟩
  | none :: r, i, S, l, h => by
    rw [wk_odd] at h
    cases h
  | some x :: r, i, S, l, h => by
    by_cases c : late? l x.arr = true
    · rw [wk_late c] at h
      cases h
    · have c : late? l x.arr = false := Bool.eq_false_iff.mpr c
      cases hb : behind L x (S x.id) with
      | none =>
        rw [wk_bad c hb] at h
        cases h
      | some y =>
        rw [wk_go c hb] at h
        obtain ⟨xs, e⟩ := wk_some h
        exact ⟨x :: xs, by rw [e]; rfl⟩
/-- all but an instance stands -/
theorem BookAt.chg {CB j C dx : Addr} {H H' : Hp} {b : Addr} {L : List (Str × Int)} (h : BookAt CB H b L) (hj : H j = some (.ins C dx [])) (k : ∀ c o, H c = some o → c ≠ j → H' c = some o) : BookAt CB H' b L := by
  obtain ⟨dx, d, L', h1, h2, h3⟩ := h
  exact ⟨dx, d, L', k _ _ h1 (ne_of h1 hj (by intro z; cases z)), k _ _ h2 (ne_of h2 hj (by intro z; cases z)), h3⟩
theorem seqC {K : PySem.W.Frag} {H H' : Hp} {a j C dx : Addr} {us : List V} (h : SqT K H a us) (hj : H j = some (.ins C dx [])) (k : ∀ c o, H c = some o → c ≠ j → H' c = some o) : SqT K H' a us := by
  rcases h with (h | ⟨o, h⟩) | h
  · exact .inl (.inl (k _ _ h (ne_of h hj (by intro z; cases z))))
  · exact .inl (.inr ⟨o, k _ _ h (ne_of h hj (by intro z; cases z))⟩)
  · exact .inr h
theorem knC {aT j : Addr} {H H' : Hp} {d : Addr} {S : Kn} {n : Nat} (h : KnAt aT H d S n) (k : ∀ c o, H c = some o → c ≠ j → H' c = some o) (hj : ∃ C dx fs, H j = some (.ins C dx fs)) : KnAt aT H' d S n := by
  obtain ⟨kvs, h1, h2, h3⟩ := h
  obtain ⟨C, dx, fs, hj⟩ := hj
  refine ⟨kvs, k _ _ h1 (ne_of h1 hj (by intro z; cases z)), h2, fun id => ?_⟩
  have q := h3 id
  cases e : valV kvs (Sum.inl id : Key) with
  | none => rw [e] at q; cases eS : S id <;> (rw [eS] at q; exact q)
  | some v =>
    rw [e] at q
    cases eS : S id with
    | none => rw [eS] at q; exact q
    | some o =>
      rw [eS] at q
      cases o with
      | tb => exact q
      | at_ z kk m a =>
        obtain ⟨t, e1, e2⟩ := q
        exact ⟨t, e1, k _ _ e2 (ne_of e2 hj (by intro z; cases z))⟩
theorem thC {K : PySem.W.Frag} {H H' : Hp} {j C dx : Addr} {v : V} {x : Ent} (h : ThAt K H v (some x)) (hj : H j = some (.ins C dx [])) (k : ∀ c o, H c = some o → c ≠ j → H' c = some o) : ThAt K H' v (some x) := by
  obtain ⟨e, h1, h2, h3⟩ := h
  exact ⟨e, h1, k _ _ h2 (ne_of h2 hj (by intro z; cases z)), h3⟩
section
variable {P : Program} {w : World} {K : PySem.W.Frag} {mg : Str → Option Value} {base : Heap}
abbrev s_is_row : Stmt := topS 13
theorem sc_is_row : FnScope ["thing"] ["thing"] (defScope s_is_row) := ⟨rfl, rfl, rfl, by decide +kernel, rfl, by decide +kernel, by decide +kernel⟩
theorem ok_is_row {f : Addr} {fd : FuncData} (F : Fun K "is_row" "is_row" s_is_row f fd) (B : Blt mg) : FnOk P w K mg base CX0 1 f fd ["thing"] (spIsRow K) := by
  refine F.ok sc_is_row (fun vs H Q E h => ?_) (fun cdv A outer s H vs Q E hr h => ?_)
  · obtain ⟨a, us, rfl, _⟩ := h
    rfl
  · obtain ⟨a, us, rfl, hS, q⟩ := h
    refine ⟨_, (pss_one (ps_ret (pe_callB call_isiT (by rfl) B.isinstance (by decide +kernel) (pa_cons (pv 0) (pa_cons (pe_tup (pa_cons (pe_bltn (v := .ty "list") (by rfl) B.list (by decide +kernel) rfl) (pa_cons (pe_bltn (v := .ty "tuple") (by rfl) B.tuple (by decide +kernel) rfl) pa_nil))) pa_nil))))), ?_⟩
    refine ⟨_, rfl, (by show 2 ≤ sizeLine; decide), fun p hp => ?_⟩
    rcases hS with hS | hS
    · refine ⟨_, p, _, .type "list", [.type "list", .type "tuple"], true, rfl, upd_same, .cons (ClsV.ty _) (.cons (ClsV.ty _) .nil), .base (.lst (by rw [upd_ne (ne_of_none hS hp)]; exact hS)), kitAny_cons (b := true) (kit_ty (by decide +kernel)) (fun z => by cases z) (fun _ => rfl), q _ (sameAt (Same.refl H) hp)⟩
    · have ty : TyX K (upd H p (.tup [.ty "list", .ty "tuple"])) (.ref a) (.type "tuple") := by
        rcases hS with (h | ⟨o, h⟩) | ⟨o, its, n, h1, h2, h3⟩
        · exact .base (.tup (by rw [upd_ne (ne_of_none h hp)]; exact h))
        · exact .fTuple (by rw [upd_ne (ne_of_none h hp)]; exact h)
        · exact .kTuple h1 h2
      refine ⟨_, p, _, .type "tuple", [.type "list", .type "tuple"], true, rfl, upd_same, .cons (ClsV.ty _) (.cons (ClsV.ty _) .nil), ty, kitAny_cons (b := false) (kit_ty (by decide +kernel)) (fun _ => kitAny_cons (b := true) (kit_ty (by decide +kernel)) (fun z => by cases z) (fun _ => rfl)) (fun z => by cases z), q _ (sameAt (Same.refl H) hp)⟩
structure K7 (P : Program) (w : World) (K : PySem.W.Frag) (mg : Str → Option Value) (base : Heap) (CB aT : Addr) : Prop extends K6 P w K mg base CB aT where
  walked : Cal P w K mg base CX0 "walked" 6 ["book", "things"] (spWalked K aT CB)
  is_row : Cal P w K mg base CX0 "is_row" 1 ["thing"] (spIsRow K)
theorem par_at : PySem.BadX.Par "at" := ⟨by decide, by decide +kernel, by decide +kernel, by decide +kernel, by decide +kernel⟩
theorem par_value : PySem.BadX.Par "value" := ⟨by decide, by decide +kernel, by decide +kernel, by decide +kernel, by decide +kernel⟩
abbrev s_Journal_init : Stmt := inClass (topS 30) 0
theorem sc_Journal_init : FnScope ["self", "book", "entries", "at", "known"] ["self", "book", "entries"] (defScope s_Journal_init) := ⟨rfl, rfl, rfl, by decide +kernel, rfl, by decide +kernel, by decide +kernel⟩
theorem ok_j_init {f CJ CBook CE fE aT aE : Addr} {fd : FuncData} (F : FunD K "__init__" "Journal.__init__" (defArgs s_Journal_init) (defBody s_Journal_init) (defScope s_Journal_init) [.ref aE] [] f fd) (B : Blt mg) (Cs : Cst mg) (T : Cj P K mg CJ CBook) (TB : Cb K mg CBook) (TE : PySem.BadX.Txt P K mg "at" "at" CE fE) (c_BadEntry : mg "BadEntry" = some (.ref CE))
    (bk : ∀ H b dx fs, H b = some (.ins CBook dx fs) → TyX K H (.ref b) (.ref CBook)) (G : K7 P w K mg base CBook aT) : FnOk P w K mg base (L2.CX P w) 7 f fd ["self", "book", "entries"] (spJInit K aT CJ CBook CE) := by
  obtain ⟨t1, g_MOST_ENTRIES⟩ := Cs.k_MOST_ENTRIES
  have c_Book := TB.c
  refine F.ok (CX := L2.CX P w) sc_Journal_init (fun vs H Q E h => ?_) (fun cdv A outer s H vs Q E hr h => ?_)
  · obtain ⟨j, dx, b, a, L, us, ths, rfl, _⟩ := h
    rfl
  · obtain ⟨j, dx, b, a, L, us, ths, rfl, hj, hB, hS, h4, hlen, hT, qg, qb⟩ := h
    have hu := hu_of hr
    refine ⟨_, (pss_cons (ps_if (pt_not (pt_val (pe_callB call_isi (by rfl) B.isinstance (by decide +kernel) (pa_cons (pv 1) (pa_cons (pe_glob (v := .ref CBook) (by rfl) c_Book rfl) pa_nil)))))
      (pss_one ps_never)
      pss_nil)
    (pss_cons (ps_if (PW.pt (pw_or (pt_not (pt_val (pe_cal G.is_row (hr.mono (by decide)) pass0 (pa_cons (pv 2) pa_nil)))) (pw_or1 (pt_cmpR op_gt (pe_callB call_len_seq (by rfl) B.len (by decide +kernel) (pa_cons (pv 2) pa_nil)) (pe_glob (v := .int 400) (by rfl) g_MOST_ENTRIES ⟨_, rfl⟩) (nomark _)))))
      (pss_one ps_never)
      pss_nil)
    (pss_cons (ps_asg (pe_cal G.walked (hr.mono (by decide)) pass0 (pa_cons (pv 1) (pa_cons (pv 2) pa_nil))) (pg_tup (by rfl) (pgs_cons (pg_name (i := 3) sc_Journal_init.nd rfl (Or.inl rfl)) (pgs_cons (pg_name (i := 4) sc_Journal_init.nd rfl (Or.inl rfl)) pgs_nil))))
    (pss_cons (ps_if (pt_cmpR op_notN (pv 3) pe_non (nomark _))
      (pss_one (ps_raiseB rfl TE par_at c_BadEntry (hr.mono (Nat.zero_le _)) (takes_of rfl rfl rfl rfl) (pa_cons (pv 3) pa_nil) (by rfl)))
      pss_nil)
    (pss_cons (ps_fld (pv 0) (pv 1) rfl)
    (pss_cons (ps_fld (pv 0) (pe_callTy call_tuple_of (by rfl) B.tuple (by decide +kernel) (pa_cons (pv 2) pa_nil)) rfl)
    (pss_one (ps_fld (pv 0) (pv 4) rfl)))))))), ?_⟩
    obtain ⟨bx, bd, L', b1, b2, b3⟩ := id hB
    refine ⟨_, rfl, _, _, _, _, true, rfl, ClsV.own _, bk _ _ _ _ b1, (by show PySem.W.kitOne K _ _ = _; unfold PySem.W.kitOne; rw [if_pos (by simp)]), _, rfl, iteF ?_⟩
    refine ⟨_, rfl, a, us, rfl, hS, fun H1 s1 => ⟨_, rfl, iteF ?_⟩⟩
    have hS1 : SqL K H1 a us ∨ SqT K H1 a us := by
      rcases hS with h | h
      · exact .inl (SqL.of (s1 _ _ h))
      · exact .inr (seqS h s1)
    refine ⟨_, rfl, a, us, rfl, hS1, _, _, rfl, rfl, _, rfl, ?_⟩
    rw [decide_eq_false (show ¬ (400 : Int) < (us.length : Int) by omega)]
    refine iteF ⟨_, rfl, _, rfl, b, a, L, us, ths, rfl, hB.same s1, hS1, by omega, hlen, fun i v o x y => (hT i v o x y).same s1, fun t kd H2 hkn s2 ht hk => ?_⟩
    have s12 := s1.trans s2
    have hkd0 : H kd = none := by
      cases e : H kd with
      | none => rfl
      | some o => rw [s1 _ _ e] at hkn; cases hkn
    refine ⟨t, _, rfl, SqT.of ht, rfl, _, _, rfl, _, _, rfl, rfl, ?_⟩
    have hj2 : H2 j = some (.ins CJ dx []) := s12 _ _ hj
    cases hw : (wk L ths 0 (fun _ => none) none).1 with
    | some i =>
      refine ⟨_, rfl, rfl, _, rfl, ?_⟩
      show if (!decide (atV (some i) = V.non)) = true then _ else _
      exact iteT ⟨_, rfl, _, rfl, fun d hd => qb i d _ hw (s12.trans (sameAt (Same.refl H2) hd)) upd_same⟩
    | none =>
      refine ⟨_, rfl, rfl, _, rfl, ?_⟩
      show if (!decide (atV none = V.non)) = true then _ else _
      refine iteF ?_
      obtain ⟨xs, hxs⟩ := wk_some hw
      have hlx : us.length = xs.length := by rw [hlen, hxs, List.length_map]
      have hTx : ∀ (i : Nat) v x, us[i]? = some v → xs[i]? = some x → ThAt K H v (some x) := fun i v x a b => hT i v (some x) a (by rw [hxs, List.getElem?_map, b]; rfl)
      have fin : ∀ H', (∀ c o, H2 c = some o → c ≠ j → H' c = some o) → (∃ t, H' j = some (.ins CJ dx (jf b t kd)) ∧ SqT K H' t us) → Q .non H' := fun H' kk2 ⟨t, h1, h2⟩ => by
        have kk : ∀ c o, H c = some o → c ≠ j → H' c = some o := fun c o h n => kk2 c o (s12 _ _ h) n
        refine qg H' xs hxs hw ⟨dx, t, kd, h1, hB.chg hj kk, h2, hlx, fun i v x a b => thC (hTx i v x a b) hj kk, by rw [← hxs]; exact hw, by rw [← hxs]; exact knC hk kk2 ⟨_, _, _, hj2⟩⟩ ⟨dx, t, kd, h1, hkd0⟩ kk
      refine ⟨_, rfl, _, rfl, j, CJ, dx, [], rfl, hj2, T.cl, T.nB, (by show 0 < 1000; decide), ?_⟩
      generalize eA : upd H2 j (.ins CJ dx (putF "book" (.ref b) [])) = HA
      have hA : HA j = some (.ins CJ dx (putF "book" (.ref b) [])) := by rw [← eA]; exact upd_same
      have kA2 : ∀ c o, H2 c = some o → c ≠ j → HA c = some o := fun c o h n => by rw [← eA, upd_ne n]; exact h
      have kA : ∀ c o, H c = some o → c ≠ j → HA c = some o := fun c o h n => kA2 c o (s12 _ _ h) n
      clear eA
      rcases hS with hS | hS
      · have haj : a ≠ j := ne_of hS hj (by intro z; cases z)
        refine ⟨_, rfl, a, us, rfl, .inl ⟨SqL.of (kA _ _ hS haj), fun l hl => ?_⟩⟩
        have hlj : l ≠ j := fun z => by rw [z, hA] at hl; cases hl
        refine ⟨_, rfl, j, CJ, dx, _, rfl, (by rw [upd_ne hlj.symm]; exact hA), T.cl, T.nE, (by show 1 < 1000; decide), ?_⟩
        refine ⟨_, rfl, _, rfl, j, CJ, dx, _, rfl, upd_same, T.cl, T.nK, (by show 2 < 1000; decide), ?_⟩
        refine fin _ (fun c o h n => ?_) ⟨l, upd_same, SqT.of (by rw [upd_ne hlj, upd_ne hlj, upd_same])⟩
        have hcl : c ≠ l := fun z => by rw [← z, kA2 c o h n] at hl; cases hl
        rw [upd_ne n, upd_ne n, upd_ne hcl]
        exact kA2 c o h n
      · refine ⟨_, rfl, a, us, rfl, .inr ⟨seqC hS hj kA, ?_⟩⟩
        refine ⟨_, rfl, j, CJ, dx, _, rfl, hA, T.cl, T.nE, (by show 1 < 1000; decide), ?_⟩
        refine ⟨_, rfl, _, rfl, j, CJ, dx, _, rfl, upd_same, T.cl, T.nK, (by show 2 < 1000; decide), ?_⟩
        have kF : ∀ c o, H2 c = some o → c ≠ j → (upd (upd HA j (.ins CJ dx (putF "entries" (.ref a) (putF "book" (.ref b) [])))) j (.ins CJ dx (putF "_known" (.ref kd) (putF "entries" (.ref a) (putF "book" (.ref b) []))))) c = some o := fun c o h n => by
          rw [upd_ne n, upd_ne n]
          exact kA2 c o h n
        exact fin _ kF ⟨a, upd_same, seqC hS hj fun c o h n => kF c o (s12 _ _ h) n⟩
structure K8 (P : Program) (w : World) (K : PySem.W.Frag) (mg : Str → Option Value) (base : Heap) (CB aT CJ CE : Addr) : Prop extends K7 P w K mg base CB aT where
  Journal : Mak P w K mg base (L2.CX P w) "Journal" CJ 7 ["self", "book", "entries"] (spJInit K aT CJ CB CE)
theorem wk_ge {L : List (Str × Int)} : ∀ {xs : List Ent} {i : Nat} {S : Kn} {t : Int}, (wk L (xs.map some) i S (some t)).1 = none → ∀ x ∈ xs, t ≤ x.arr
  | [], _, _, _, _, x, hx => nomatch hx
  | y :: r, i, S, t, h, x, hx => by
    have h : (wk L (some y :: r.map some) i S (some t)).1 = none := h
    by_cases c : late? (some t) y.arr = true
    · rw [wk_late c] at h
      cases h
    · have c0 : late? (some t) y.arr = false := Bool.eq_false_iff.mpr c
      have c1 : ¬ y.arr < t := fun z => c (decide_eq_true z)
      cases hb : behind L y (S y.id) with
      | none =>
        rw [wk_bad c0 hb] at h
        cases h
      | some z =>
        rw [wk_go c0 hb] at h
        rcases List.mem_cons.mp hx with rfl | hx
        · omega
        · have := wk_ge h x hx
          omega
theorem wk_cut {L : List (Str × Int)} (n : Int) : ∀ {xs : List Ent} {i : Nat} {S : Kn} {l : Option Int}, (wk L (xs.map some) i S l).1 = none →
    ∃ k, k ≤ xs.length ∧ (∀ (j : Nat) x, xs[j]? = some x → (x.arr ≤ n ↔ j < k)) ∧ (wk L ((xs.take k).map some) i S l).1 = none ∧ xs.filter (fun x => decide (x.arr ≤ n)) = xs.take k
  | [], _, _, _, _ => ⟨0, Nat.le_refl _, fun j x h => by simp at h, rfl, rfl⟩
  | y :: r, i, S, l, h => by
    have h : (wk L (some y :: r.map some) i S l).1 = none := h
    by_cases c : late? l y.arr = true
    · rw [wk_late c] at h
      cases h
    · have c0 : late? l y.arr = false := Bool.eq_false_iff.mpr c
      cases hb : behind L y (S y.id) with
      | none =>
        rw [wk_bad c0 hb] at h
        cases h
      | some z =>
        rw [wk_go c0 hb] at h
        by_cases cn : y.arr ≤ n
        · obtain ⟨k, k1, k2, k3, k4⟩ := wk_cut n h
          refine ⟨k + 1, by rw [List.length_cons]; omega, fun j x hj => ?_, ?_, ?_⟩
          · cases j with
            | zero =>
              have : y = x := Option.some.inj hj
              subst this
              exact ⟨fun _ => Nat.succ_pos _, fun _ => cn⟩
            | succ j =>
              have := k2 j x hj
              omega
          · show (wk L (some y :: (r.take k).map some) i S l).1 = none
            rw [wk_go c0 hb]
            exact k3
          · rw [List.filter_cons, if_pos (decide_eq_true cn), k4]
            rfl
        · refine ⟨0, Nat.zero_le _, fun j x hj => ?_, rfl, ?_⟩
          · have hx := List.mem_of_getElem? hj
            have : n < x.arr := by
              rcases List.mem_cons.mp hx with rfl | hx
              · omega
              · have := wk_ge h x hx
                omega
            omega
          · rw [List.filter_eq_nil_iff.mpr]
            · rfl
            · intro x hx
              rcases List.mem_cons.mp hx with rfl | hx
              · simpa using cn
              · have := wk_ge h x hx
                simp
                omega
def spThen (K : PySem.W.Frag) (aT CJ CB CE : Addr) : Sp := fun vs H Q E => ∃ (j b : Addr) (L : List (Str × Int)) (us : List V) (xs : List Ent) (v : V) (o : Option Ent), vs = [.ref j, v] ∧ JAt K aT CJ CB H j b L us xs ∧ us.length < 400 ∧ ThAt K H v o ∧
  (∀ j' H' x, o = some x → (wk L ((xs ++ [x]).map some) 0 (fun _ => none) none).1 = none → Same H H' → JAt K aT CJ CB H' j' b L (us ++ [v]) (xs ++ [x]) → Q (.ref j') H') ∧
  (∀ i d H', (wk L (xs.map some ++ [o]) 0 (fun _ => none) none).1 = some i → Same H H' → Xd H' d "at" (.int (i : Int)) → E (.ref CE) (some d) H')
def spHeard (K : PySem.W.Frag) (aT CJ CB CM : Addr) : Sp := fun vs H Q E => ∃ (j b : Addr) (L : List (Str × Int)) (us : List V) (xs : List Ent) (v : V), vs = [.ref j, v] ∧ JAt K aT CJ CB H j b L us xs ∧ us.length ≤ 400 ∧
  ((∃ n, v = .int n ∧ ∀ k j' H', xs.filter (fun x => decide (x.arr ≤ n)) = xs.take k → Same H H' → JAt K aT CJ CB H' j' b L (us.take k) (xs.take k) → Q (.ref j') H') ∨
   (NotInt K H v ∧ ∀ d H', Same H H' → Xd H' d "value" v → E (.ref CM) (some d) H'))
theorem mk_same {H H' : Hp} {x dx C : Addr} (nx : H x = none) (nd : H dx = none) (k : ∀ c o, (upd (upd H dx (.own x)) x (.ins C dx [])) c = some o → c ≠ x → H' c = some o) : Same H H' := fun c o h =>
  k c o (by rw [upd_ne (ne_of_none h nx), upd_ne (ne_of_none h nd)]; exact h) (ne_of_none h nx)
end
end Ash

set_option Elab.async false
set_option linter.all false
set_option maxRecDepth 100000
set_option maxHeartbeats 4000000
namespace Ash
open PySem PySem.Spec PyProof.Rows L2
open C8 (pss_cut)
section
variable {P : Program} {w : World} {K : PySem.W.Frag} {mg : Str → Option Value} {base : Heap}
abbrev s_Journal_heard : Stmt := inClass (topS 30) 6
theorem sc_Journal_heard : FnScope ["self", "h", "entry"] ["self", "h"] (defScope s_Journal_heard) := ⟨rfl, rfl, rfl, by decide +kernel, rfl, by decide +kernel, by decide +kernel⟩
theorem ok_heard {f CJ CB CE CM fM aT : Addr} {fd : FuncData} (F : Fun K "heard" "Journal.heard" s_Journal_heard f fd) (B : Blt mg) (T : Cj P K mg CJ CB) (TM : PySem.BadX.Txt P K mg "value" "value" CM fM) (c_BadMoment : mg "BadMoment" = some (.ref CM)) (G : K8 P w K mg base CB aT CJ CE) : FnOk P w K mg base (L2.CX P w) 9 f fd ["self", "h"] (spHeard K aT CJ CB CM) := by
  refine F.okX sc_Journal_heard (fun vs H Q E h => ?_) (fun cdv A outer s H vs Q E hr h => ?_)
  · obtain ⟨j, b, L, us, xs, v, rfl, _⟩ := h
    rfl
  · obtain ⟨j, b, L, us, xs, v, rfl, hJ, h4, hv⟩ := h
    refine ⟨_, (pss_cons (ps_if (pt_not (pt_val (pe_cal G.is_integer (hr.mono (by decide)) pass0 (pa_cons (pv 1) pa_nil))))
      (pss_one (ps_raiseB rfl TM par_value c_BadMoment (hr.mono (Nat.zero_le _)) (takes_of rfl rfl rfl rfl) (pa_cons (pv 1) pa_nil) (by rfl)))
      pss_nil)
    (pss_one (ps_ret (pe_mak G.Journal (hr.mono (by decide)) (passE (takes_of rfl rfl rfl rfl)) (pa_cons (pe_fld (pv 0) rfl) (pa_cons (pe_lc (own := [("entry", 2)]) (g := gName 2) (by rfl) sc_Journal_heard.nd (pi_tup (pe_fld (pv 0) rfl)) (blkOk_by (own := [("entry", 2)]) (N := ["self", "h", "entry"]) (sc := defScope s_Journal_heard) (by decide +kernel)) (fun _ _ _ _ _ => (pg_name (i := 2) sc_Journal_heard.nd rfl (Or.inl rfl))) (fun _ _ _ _ _ => pts_one (pt_cmpR op_le (pe_cal G.arrival_of (hr.mono (by decide)) pass0 (pa_cons (pv 2) pa_nil)) (pv 1) (nomark _))) (fun _ _ _ _ _ => (pv 2))) pa_nil)))))), ?_⟩
    obtain ⟨dx, t, kd, h1, h2, h3, hl, h5, h6, h7⟩ := id hJ
    rcases hv with ⟨n, rfl, q⟩ | ⟨ni, q⟩
    · refine ⟨_, rfl, _, rfl, .inl ⟨n, rfl, _, rfl, iteF ?_⟩⟩
      obtain ⟨k, k1, k2, k3, k4⟩ := wk_cut n h6
      refine ⟨_, rfl, j, CJ, dx, _, _, rfl, h1, T.cl, T.nB, jf_b _ _ _, _, rfl, j, CJ, dx, _, _, rfl, h1, T.cl, T.nE, jf_e _ _ _, t, rfl, ⟨_, h3⟩, fun D hD => lc_it (walk_tup (xs := us)) (fun i H1 => H1 D = some (.lst (us.take (min i k))) ∧ Same H H1) ⟨by rw [Nat.zero_min]; exact upd_same, sameAt (Same.refl H) hD⟩ (fun i H1 _ hv => seqS h3 hv.2) ?_ ?_⟩
      · rintro i v H1 H2 hi ⟨hD1, s1⟩ ⟨rfl, hvi⟩
        have hix : i < xs.length := by rw [← hl]; exact hi
        obtain ⟨x, hx⟩ : ∃ x, xs[i]? = some x := ⟨_, List.getElem?_eq_getElem hix⟩
        obtain ⟨e, rfl, he, hok⟩ := h5 i v x hvi hx
        refine ⟨rfl, _, rfl, e, x, rfl, s1 _ _ he, _, rfl, _, _, rfl, rfl, _, rfl, ?_⟩
        refine ite2 (fun c => ?_) (fun c => ?_)
        · have c : x.arr ≤ n := of_decide_eq_true c
          have ik := (k2 i x hx).mp c
          refine ⟨_, rfl, _, hD1, (by rw [List.length_take]; exact small1000 (by omega)), ?_, sameAt s1 hD⟩
          rw [upd_same, Nat.min_eq_left (Nat.le_of_lt ik), Nat.min_eq_left (by omega), list_take hvi]
        · have c : ¬ x.arr ≤ n := fun z => c (decide_eq_true z)
          have ik : k ≤ i := Nat.le_of_not_lt fun z => c ((k2 i x hx).mpr z)
          refine ⟨?_, s1⟩
          rw [hD1, Nat.min_eq_right ik, Nat.min_eq_right (by omega)]
      · rintro H1 ⟨hD1, s1⟩
        rw [Nat.min_eq_right (by omega)] at hD1
        intro x dx' nx ndx nex
        have sX : Same H1 (upd (upd H1 dx' (.own x)) x (.ins CJ dx' [])) := (sameAt (Same.refl _) ndx).trans (sameAt (Same.refl _) (by rw [upd_ne (Ne.symm nex)]; exact nx))
        refine ⟨x, dx', b, D, L, us.take k, (xs.take k).map some, rfl, upd_same, h2.same (s1.trans sX), .inl (sX _ _ hD1), by rw [List.length_take]; omega, by rw [List.length_take, List.length_map, List.length_take, hl], fun i v' o' hi ho => ?_, fun H' ys hys hw hJ' _ kk => ⟨rfl, ?_⟩, fun i d H' hw s hx => ?_⟩
        · have hik : i < k := by
            have := (List.getElem?_eq_some_iff.mp hi).1
            rw [List.length_take] at this
            omega
          rw [List.getElem?_take_of_lt hik] at hi
          rw [List.getElem?_map, List.getElem?_take_of_lt hik] at ho
          cases e : xs[i]? with
          | none => rw [e] at ho; cases ho
          | some y =>
            rw [e] at ho
            cases ho
            exact (h5 i v' y hi e).same (s1.trans sX)
        · have e : ys = xs.take k := (List.map_inj_right (fun a b h => Option.some.inj h)).mp hys.symm
          subst e
          exact q k x H' k4 (s1.trans (mk_same nx ndx kk)) hJ'
        · rw [k3] at hw
          cases hw
    · refine ⟨_, rfl, _, rfl, .inr ⟨ni, _, rfl, iteT ?_⟩⟩
      exact ⟨_, rfl, _, rfl, fun d hd => q d _ (sameAt (Same.refl H) hd) upd_same⟩
end
end Ash

set_option Elab.async false
set_option linter.all false
set_option maxRecDepth 100000
set_option maxHeartbeats 4000000
/-! ### own errors in a suite that handles one, and out of it -/
namespace L2H
open PySem PySem.Spec PyProof.Rows L2 HotX
theorem roomM {k : Nat} {A : Around} {h : Option Value} (r : Room k A) : RoomH 0 (A.mark h) := ⟨by have := r.dp; show A.depth + 3 * 0 + 5 < _; omega, by have := r.un; show A.units + 16 * 0 + 200 < _; omega⟩
section
variable {X : Cx} {C fI : Addr}
theorem pmk_bad5 {x par fl : Str} {a : Expr} {ta : TA} {p pos : Pos} {k : Nat} (T : PySem.BadX.Txt X.prog X.K X.mg par fl C fI) (pr : PySem.BadX.Par par) (hm : X.mg x = some (.ref C)) (hr : RoomH k X.A) (ha : PA X [a] ta) (hg : Gl X x)
    (hdb : (x == ("__debug__" : Str)) = false := by decide)
    (he : starEach (a :: []) X.env = (false, eval a X.env) :: starEach [] X.env := by rfl) (hpl : (backTo pos (starEach [] X.env)).any (·.1) = false := by rfl) :
    PMk5 X (.Call (.Name x p) [a] [] pos) (tMkB fl C ta) := by
  intro pins s σ H Q I h
  refine wpAny_Call_Name_kw (ld_glob I hg hm ?_ hdb)
  refine PySem.W.callWith_K (h₀ := X.base) I.ok.mod.kin T.kC (thn (ha.run pos pins s σ H _ I h) fun us s1 hh => ?_) he hpl
  obtain ⟨vs, H1, I1, r1, v, ev, q1⟩ := hh
  subst ev
  refine ⟨I1.kIn, ?_⟩
  cases r1 with
  | cons rv rn =>
    rename_i v' us'
    cases rn
    show wpAny _ _ (call (.ref C) [v']) _ _ _
    have hlim := I1.nolimit
    obtain ⟨mb, hb1, hb2⟩ := I1.mod.blt
    have Gn : s1.heap.Ns mainGlobals X.mg := I1.mod.glob.keeps I1.bk
    have Bn : s1.heap.Ns builtinsNs mb := hb1.keeps I1.bk
    have hbs : mb "super" = some (.type "super") := (hb2 _ (by decide +kernel)).trans (by first | boot_by_name | rfl | kernel_rfl)
    obtain ⟨hp, g, dr, tk, os⟩ := s1
    refine wpAny_call (PySem.BadX.made_ok T pr I1.kIn Gn Bn hbs hlim (by have := hr.dp; omega) fun h' tk' e d M => ?_)
    show L2N.MkP X pins σ Q (.ref e) ⟨h', g, dr, tk', os⟩ ∧ Six (.ref e) ⟨h', g, dr, tk', os⟩
    obtain ⟨oe, fv, hoe, hc, hd, hdat, h1, h2, h4⟩ := M.obj
    have hns := M.ns
    obtain ⟨G', g1, g2⟩ := restrict h' fun b => decide (b ≠ e)
    have gk : ∀ b, b ≠ e → G'.get? b = h'.get? b := fun b hb => g1 b (decide_eq_true hb)
    have ge : G'.get? e = none := g2 e (by simp)
    have old : ∀ b o, hp.get? b = some o → G'.get? b = some o := fun b o q => (gk b (Nat.ne_of_lt (Nat.lt_of_lt_of_le (Heap.lt_size q) M.new))).trans (M.keep b o q)
    have ob : ObjOk X.prog X.w (upd H1 d (.xd [(fl, v)])) G' d (.xd [(fl, v)]) :=
      ⟨_, hns.at (fun o q => (gk d M.dne).trans q), fun f => relO_one rv fl f⟩
    have J : Inv X pins σ (upd H1 d (.xd [(fl, v)])) ⟨G', g, dr, tk', os⟩ := I1.laid (t' := tk') old M.dbig ob
    refine ⟨⟨e, oe, fv, ⟨G', g, dr, tk', os⟩, _, .ref C, some d, rfl, J, fun b o q => ?_, ge, hoe, ⟨hc, hd, fun vs q => ?_⟩, hdat, h1, ?_, rfl, I1.bare, raises_own T.exC T.tyC, q1 d (I1.hok.fresh M.dbig)⟩, fun a' oe' vs' ea hg' hd' => ?_⟩
    · by_cases hb : b = e
      · have q' : G'.get? b = some o := q
        rw [hb, ge] at q'; cases q'
      · exact (gk b hb).symm.trans q
    · rw [hdat] at q
      cases q
      exact h2
    · rw [upd_ne (Ne.symm M.dne)]
      exact I1.hok.fresh M.new
    · cases ea
      have hg2 : h'.get? e = some oe' := hg'
      rw [hoe] at hg2
      cases hg2
      rw [hdat] at hd'
      cases hd'
      exact h4
theorem ps_raiseBN {x par fl : Str} {a : Expr} {ta : TA} {W : WX} {p pos pos2 : Pos} {k : Nat} (hc : X.calm = true) (T : PySem.BadX.Txt X.prog X.K X.mg par fl C fI) (pr : PySem.BadX.Par par) (hm : X.mg x = some (.ref C)) (hr : Room k X.A) (tk : L2N.Takes X W) (ha : PA X [a] ta) (hg : Gl X x)
    (hdb : (x == ("__debug__" : Str)) = false := by decide)
    (he : starEach (a :: []) X.env = (false, eval a X.env) :: starEach [] X.env := by rfl) (hpl : (backTo pos (starEach [] X.env)).any (·.1) = false := by rfl) :
    PS X (.Raise (some (.Call (.Name x p) [a] [] pos)) none pos2) (tRaiseB fl C W ta) := L2N.ps_raise hc tk (pmk_bad5 T pr hm (roomH_of hr) ha hg hdb he hpl).pmk
/-- try: .. except Cls: a suite that raises -/
def tTryX (K : PySem.W.Frag) (c : Value) (tb : WX → TS) (ts : Addr → Value → Option Addr → TS) (Wout : WX) : TS := fun D σ H => tb (wOnly K c ts Wout D) D σ H
theorem ps_tryX {x : Str} {c : Value} {body suite : List Stmt} {b₀ : Stmt} {np pos pos' : Pos} {tb : WX → TS} {ts : Addr → Value → Option Addr → TS} {Wout : WX} (hs : X.stack = X.env :: X.outer) (hf : X.env.frame = some X.env.locals) (hc : Names X x c) (hpa : ∀ hd : Option Value, PassesOwnAt (model X.prog X.w) (X.A.mark hd) X.A X.env X.xe) (tk : L2.Takes X Wout)
    (hb : ∀ (W : WX) (pn : List (Addr × Obj)) (xe : Value → Shared → Prop), L2N.Takes (X.tr pn xe) W → L2.Takes (X.tr pn xe) (wPass X.K c Wout) → PassesOwn (model X.prog X.w) X.A X.env xe → PSs (X.tr pn xe) body (tb W))
    (hsu : ∀ (a : Addr) (oe : Obj) (cls : Value) (d : Option Addr) (pn : List (Addr × Obj)), L2N.Zn cls d oe → (∃ vs, oe.data = .fields vs) → L2.Takes (suiteX X a ((a, oe) :: pn)) Wout → HotC (suiteX X a ((a, oe) :: pn)) → PSs (suiteX X a ((a, oe) :: pn)) (b₀ :: suite) (ts a cls d)) :
    PS X (.Try body [.ExceptHandler (some (.Name x np)) none (b₀ :: suite) pos'] [] [] pos) (tTryX X.K c tb ts Wout) := ps_try_onlyX hs hf hc hpa tk hb hsu
/-- raise Cls(e) from None, in a suite -/
theorem ps_raiseBF {x par fl : Str} {a : Expr} {ta : TA} {W : WX} {p pos pos2 cpos : Pos} {j k : Nat} (hc : HotC X) (T : PySem.BadX.Txt X.prog X.K X.mg par fl C fI) (pr : PySem.BadX.Par par) (hm : X.mg x = some (.ref C)) (hr : RoomH k X.A) (tk : L2.Takes X W) (ha : PA X [a] ta) (hg : Gl X x)
    (hdb : (x == ("__debug__" : Str)) = false := by decide)
    (he : starEach (a :: []) X.env = (false, eval a X.env) :: starEach [] X.env := by rfl) (hpl : (backTo pos (starEach [] X.env)).any (·.1) = false := by rfl) :
    PS X (.Raise (some (.Call (.Name x p) [a] [] pos)) (some (.Constant .none j cpos)) pos2) (tRaiseB fl C W ta) := ps_raiseHN hc tk (pmk_bad5 T pr hm hr ha hg hdb he hpl)
/-- raise Cls(e), in a suite -/
theorem ps_raiseBH {x par fl : Str} {a : Expr} {ta : TA} {W : WX} {p pos pos2 : Pos} {k : Nat} (hc : HotC X) (T : PySem.BadX.Txt X.prog X.K X.mg par fl C fI) (pr : PySem.BadX.Par par) (hm : X.mg x = some (.ref C)) (hr : RoomH k X.A) (tk : L2.Takes X W) (ha : PA X [a] ta) (hg : Gl X x)
    (hdb : (x == ("__debug__" : Str)) = false := by decide)
    (he : starEach (a :: []) X.env = (false, eval a X.env) :: starEach [] X.env := by rfl) (hpl : (backTo pos (starEach [] X.env)).any (·.1) = false := by rfl) :
    PS X (.Raise (some (.Call (.Name x p) [a] [] pos)) none pos2) (tRaiseB fl C W ta) := ps_raiseH hc tk (pmk_bad5 T pr hm hr ha hg hdb he hpl).pmk
end
end L2H
namespace Ash
open PySem PySem.Spec PyProof.Rows L2
section
variable {P : Program} {w : World} {K : PySem.W.Frag} {mg : Str → Option Value} {base : Heap}
theorem okN {x qual : Str} {st : Stmt} {f : Addr} {fd : FuncData} {N ps : List Str} {k : Nat} {sp : Sp} (F : Fun K x qual st f fd) (S : FnScope N ps (defScope st)) (len : ∀ vs H Q E, sp vs H Q E → vs.length = ps.length)
    (hbody : ∀ (cdv : Value) (A : Around) (outer : List Env) (s : Shared) (H : Hp) (vs : List V) (Q : VK) (E : XK), Room k (A.deeper (envOfC qual (defScope st) s.heap.objs.size f cdv)) → sp vs H Q E →
      ∃ t, PSs (cxOf (L2N.CX P w) P w K mg base N qual (defScope st) f cdv A outer s H E) (defBody st) t ∧ t { nx := fun _ H' => Q .non H', rt := Q } (start N vs) H) : FnOk P w K mg base (L2N.CX P w) (k + 1) f fd ps sp := by
  obtain ⟨oc, od, kV, doc, pm, an, cdv, ct, osl, rfl, lk, hcd⟩ := F.ex
  exact fn_of lk hcd S len fun A outer s H vs Q E hr hsp => hbody cdv A outer s H vs Q E hr hsp
theorem cxN {outer : List Env} {H : Hp} {s : Shared} {E : XK} {u : Value} {s' : Shared} (h : L2N.CX P w outer H s E u s') : L2.CX P w outer H s E u s' := by
  obtain ⟨a, B, H', cls, d, e, fl, r⟩ := h
  exact ⟨a, B, H', cls, d, e, L2H.flyingZ_imp (fun o z => L2N.Zn.zc z) fl, r⟩
theorem ofN {k : Nat} {f : Addr} {fd : FuncData} {ps : List Str} {sp : Sp} (F : FnOk P w K mg base (L2N.CX P w) k f fd ps sp) : FnOk P w K mg base (L2.CX P w) k f fd ps sp :=
  ⟨F.len, fun A outer s H args us vs Q E hr he hb hv hs => by
    have h := F.run A outer s H args us vs Q E hr he hb hv hs
    exact codeAny_mono h (fun o s1 c => match o, c with
      | .ok (.ret _), c => c
      | .error _, c => cxN c)⟩
end
end Ash

set_option Elab.async false
set_option linter.all false
set_option maxRecDepth 100000
set_option maxHeartbeats 4000000
namespace Ash
open PySem PySem.Spec PyProof.Rows L2
open C8 (pss_cut)
/-! ### journals whose errors may be caught and raised on -/
theorem passEN {X : Cx} {E : XK} (tk : L2N.Takes X (fun cls d _ H => E cls d H)) : Passes (L2N.CX X.prog X.w) X E := L2N.passes_call tk fun _ _ _ _ h => h
section
variable {P : Program} {w : World} {K : PySem.W.Frag} {mg : Str → Option Value} {base : Heap}
structure K8N (P : Program) (w : World) (K : PySem.W.Frag) (mg : Str → Option Value) (base : Heap) (CB aT CJ CE : Addr) : Prop extends K7 P w K mg base CB aT where
  Journal : Mak P w K mg base (L2N.CX P w) "Journal" CJ 7 ["self", "book", "entries"] (spJInit K aT CJ CB CE)
theorem makN {x : Str} {C : Addr} {k : Nat} {ps : List Str} {sp : Sp} (M : Mak P w K mg base (L2N.CX P w) x C k ps sp) : Mak P w K mg base (L2.CX P w) x C k ps sp := by
  obtain ⟨f, fd, a, b, c, d⟩ := M.ex
  exact ⟨f, fd, a, b, c, ofN d⟩
theorem metN {C : Addr} {m : Str} {k : Nat} {ps : List Str} {sp : Sp} (M : Met P w K mg base (L2N.CX P w) C m k ps sp) : Met P w K mg base (L2.CX P w) C m k ps sp := by
  obtain ⟨f, fd, a, b, d⟩ := M.ex
  exact ⟨f, fd, a, b, ofN d⟩
theorem K8N.k8 {CB aT CJ CE : Addr} (G : K8N P w K mg base CB aT CJ CE) : K8 P w K mg base CB aT CJ CE := ⟨G.toK7, makN G.Journal⟩
def spThenN (K : PySem.W.Frag) (aT CJ CB CE : Addr) : Sp := fun vs H Q E => ∃ (j b : Addr) (L : List (Str × Int)) (us : List V) (xs : List Ent) (v : V) (o : Option Ent), vs = [.ref j, v] ∧ JAt K aT CJ CB H j b L us xs ∧ ThAt K H v o ∧ us.length ≤ 400 ∧
  (∀ j' H' x, o = some x → (wk L ((xs ++ [x]).map some) 0 (fun _ => none) none).1 = none → Same H H' → JAt K aT CJ CB H' j' b L (us ++ [v]) (xs ++ [x]) → us.length < 400 → H j' = none → (∃ dx t kd, H' j' = some (.ins CJ dx (jf b t kd)) ∧ H kd = none) → Q (.ref j') H') ∧
  (∀ i d H', (wk L (xs.map some ++ [o]) 0 (fun _ => none) none).1 = some i → Same H H' → Xd H' d "at" (.int (i : Int)) → us.length < 400 → E (.ref CE) (some d) H') ∧
  (us.length = 400 → ∀ d H', Same H H' → Xd H' d "at" (.int 400) → E (.ref CE) (some d) H')
theorem ok_j_initN {f CJ CBook CE fE aT aE : Addr} {fd : FuncData} (F : FunD K "__init__" "Journal.__init__" (defArgs s_Journal_init) (defBody s_Journal_init) (defScope s_Journal_init) [.ref aE] [] f fd) (B : Blt mg) (Cs : Cst mg) (T : Cj P K mg CJ CBook) (TB : Cb K mg CBook) (TE : PySem.BadX.Txt P K mg "at" "at" CE fE) (c_BadEntry : mg "BadEntry" = some (.ref CE))
    (bk : ∀ H b dx fs, H b = some (.ins CBook dx fs) → TyX K H (.ref b) (.ref CBook)) (G : K7 P w K mg base CBook aT) : FnOk P w K mg base (L2N.CX P w) 7 f fd ["self", "book", "entries"] (spJInit K aT CJ CBook CE) := by
  obtain ⟨t1, g_MOST_ENTRIES⟩ := Cs.k_MOST_ENTRIES
  have c_Book := TB.c
  refine F.ok (CX := L2N.CX P w) sc_Journal_init (fun vs H Q E h => ?_) (fun cdv A outer s H vs Q E hr h => ?_)
  · obtain ⟨j, dx, b, a, L, us, ths, rfl, _⟩ := h
    rfl
  · obtain ⟨j, dx, b, a, L, us, ths, rfl, hj, hB, hS, h4, hlen, hT, qg, qb⟩ := h
    have hu := hu_of hr
    refine ⟨_, (pss_cons (ps_if (pt_not (pt_val (pe_callB call_isi (by rfl) B.isinstance (by decide +kernel) (pa_cons (pv 1) (pa_cons (pe_glob (v := .ref CBook) (by rfl) c_Book rfl) pa_nil)))))
      (pss_one ps_never)
      pss_nil)
    (pss_cons (ps_if (PW.pt (pw_or (pt_not (pt_val (pe_cal G.is_row (hr.mono (by decide)) pass0 (pa_cons (pv 2) pa_nil)))) (pw_or1 (pt_cmpR op_gt (pe_callB call_len_seq (by rfl) B.len (by decide +kernel) (pa_cons (pv 2) pa_nil)) (pe_glob (v := .int 400) (by rfl) g_MOST_ENTRIES ⟨_, rfl⟩) (nomark _)))))
      (pss_one ps_never)
      pss_nil)
    (pss_cons (ps_asg (pe_cal G.walked (hr.mono (by decide)) pass0 (pa_cons (pv 1) (pa_cons (pv 2) pa_nil))) (pg_tup (by rfl) (pgs_cons (pg_name (i := 3) sc_Journal_init.nd rfl (Or.inl rfl)) (pgs_cons (pg_name (i := 4) sc_Journal_init.nd rfl (Or.inl rfl)) pgs_nil))))
    (pss_cons (ps_if (pt_cmpR op_notN (pv 3) pe_non (nomark _))
      (pss_one (L2H.ps_raiseBN rfl TE par_at c_BadEntry (hr.mono (Nat.zero_le _)) (L2N.takes_of rfl rfl rfl rfl) (pa_cons (pv 3) pa_nil) (by rfl)))
      pss_nil)
    (pss_cons (ps_fld (pv 0) (pv 1) rfl)
    (pss_cons (ps_fld (pv 0) (pe_callTy call_tuple_of (by rfl) B.tuple (by decide +kernel) (pa_cons (pv 2) pa_nil)) rfl)
    (pss_one (ps_fld (pv 0) (pv 4) rfl)))))))), ?_⟩
    obtain ⟨bx, bd, L', b1, b2, b3⟩ := id hB
    refine ⟨_, rfl, _, _, _, _, true, rfl, ClsV.own _, bk _ _ _ _ b1, (by show PySem.W.kitOne K _ _ = _; unfold PySem.W.kitOne; rw [if_pos (by simp)]), _, rfl, iteF ?_⟩
    refine ⟨_, rfl, a, us, rfl, hS, fun H1 s1 => ⟨_, rfl, iteF ?_⟩⟩
    have hS1 : SqL K H1 a us ∨ SqT K H1 a us := by
      rcases hS with h | h
      · exact .inl (SqL.of (s1 _ _ h))
      · exact .inr (seqS h s1)
    refine ⟨_, rfl, a, us, rfl, hS1, _, _, rfl, rfl, _, rfl, ?_⟩
    rw [decide_eq_false (show ¬ (400 : Int) < (us.length : Int) by omega)]
    refine iteF ⟨_, rfl, _, rfl, b, a, L, us, ths, rfl, hB.same s1, hS1, by omega, hlen, fun i v o x y => (hT i v o x y).same s1, fun t kd H2 hkn s2 ht hk => ?_⟩
    have s12 := s1.trans s2
    have hkd0 : H kd = none := by
      cases e : H kd with
      | none => rfl
      | some o => rw [s1 _ _ e] at hkn; cases hkn
    refine ⟨t, _, rfl, SqT.of ht, rfl, _, _, rfl, _, _, rfl, rfl, ?_⟩
    have hj2 : H2 j = some (.ins CJ dx []) := s12 _ _ hj
    cases hw : (wk L ths 0 (fun _ => none) none).1 with
    | some i =>
      refine ⟨_, rfl, rfl, _, rfl, ?_⟩
      show if (!decide (atV (some i) = V.non)) = true then _ else _
      exact iteT ⟨_, rfl, _, rfl, fun d hd => qb i d _ hw (s12.trans (sameAt (Same.refl H2) hd)) upd_same⟩
    | none =>
      refine ⟨_, rfl, rfl, _, rfl, ?_⟩
      show if (!decide (atV none = V.non)) = true then _ else _
      refine iteF ?_
      obtain ⟨xs, hxs⟩ := wk_some hw
      have hlx : us.length = xs.length := by rw [hlen, hxs, List.length_map]
      have hTx : ∀ (i : Nat) v x, us[i]? = some v → xs[i]? = some x → ThAt K H v (some x) := fun i v x a b => hT i v (some x) a (by rw [hxs, List.getElem?_map, b]; rfl)
      have fin : ∀ H', (∀ c o, H2 c = some o → c ≠ j → H' c = some o) → (∃ t, H' j = some (.ins CJ dx (jf b t kd)) ∧ SqT K H' t us) → Q .non H' := fun H' kk2 ⟨t, h1, h2⟩ => by
        have kk : ∀ c o, H c = some o → c ≠ j → H' c = some o := fun c o h n => kk2 c o (s12 _ _ h) n
        refine qg H' xs hxs hw ⟨dx, t, kd, h1, hB.chg hj kk, h2, hlx, fun i v x a b => thC (hTx i v x a b) hj kk, by rw [← hxs]; exact hw, by rw [← hxs]; exact knC hk kk2 ⟨_, _, _, hj2⟩⟩ ⟨dx, t, kd, h1, hkd0⟩ kk
      refine ⟨_, rfl, _, rfl, j, CJ, dx, [], rfl, hj2, T.cl, T.nB, (by show 0 < 1000; decide), ?_⟩
      generalize eA : upd H2 j (.ins CJ dx (putF "book" (.ref b) [])) = HA
      have hA : HA j = some (.ins CJ dx (putF "book" (.ref b) [])) := by rw [← eA]; exact upd_same
      have kA2 : ∀ c o, H2 c = some o → c ≠ j → HA c = some o := fun c o h n => by rw [← eA, upd_ne n]; exact h
      have kA : ∀ c o, H c = some o → c ≠ j → HA c = some o := fun c o h n => kA2 c o (s12 _ _ h) n
      clear eA
      rcases hS with hS | hS
      · have haj : a ≠ j := ne_of hS hj (by intro z; cases z)
        refine ⟨_, rfl, a, us, rfl, .inl ⟨SqL.of (kA _ _ hS haj), fun l hl => ?_⟩⟩
        have hlj : l ≠ j := fun z => by rw [z, hA] at hl; cases hl
        refine ⟨_, rfl, j, CJ, dx, _, rfl, (by rw [upd_ne hlj.symm]; exact hA), T.cl, T.nE, (by show 1 < 1000; decide), ?_⟩
        refine ⟨_, rfl, _, rfl, j, CJ, dx, _, rfl, upd_same, T.cl, T.nK, (by show 2 < 1000; decide), ?_⟩
        refine fin _ (fun c o h n => ?_) ⟨l, upd_same, SqT.of (by rw [upd_ne hlj, upd_ne hlj, upd_same])⟩
        have hcl : c ≠ l := fun z => by rw [← z, kA2 c o h n] at hl; cases hl
        rw [upd_ne n, upd_ne n, upd_ne hcl]
        exact kA2 c o h n
      · refine ⟨_, rfl, a, us, rfl, .inr ⟨seqC hS hj kA, ?_⟩⟩
        refine ⟨_, rfl, j, CJ, dx, _, rfl, hA, T.cl, T.nE, (by show 1 < 1000; decide), ?_⟩
        refine ⟨_, rfl, _, rfl, j, CJ, dx, _, rfl, upd_same, T.cl, T.nK, (by show 2 < 1000; decide), ?_⟩
        have kF : ∀ c o, H2 c = some o → c ≠ j → (upd (upd HA j (.ins CJ dx (putF "entries" (.ref a) (putF "book" (.ref b) [])))) j (.ins CJ dx (putF "_known" (.ref kd) (putF "entries" (.ref a) (putF "book" (.ref b) []))))) c = some o := fun c o h n => by
          rw [upd_ne n, upd_ne n]
          exact kA2 c o h n
        exact fin _ kF ⟨a, upd_same, seqC hS hj fun c o h n => kF c o (s12 _ _ h) n⟩
abbrev s_Journal_then : Stmt := inClass (topS 30) 5
theorem sc_Journal_then : FnScope ["self", "entry"] ["self", "entry"] (defScope s_Journal_then) := ⟨rfl, rfl, rfl, by decide +kernel, rfl, by decide +kernel, by decide +kernel⟩
theorem ok_thenN {f CJ CB CE aT fE : Addr} {fd : FuncData} (F : Fun K "then" "Journal.then" s_Journal_then f fd) (B : Blt mg) (Cs : Cst mg) (T : Cj P K mg CJ CB) (TE : PySem.BadX.Txt P K mg "at" "at" CE fE) (c_BadEntry : mg "BadEntry" = some (.ref CE)) (G : K8N P w K mg base CB aT CJ CE) : FnOk P w K mg base (L2N.CX P w) 9 f fd ["self", "entry"] (spThenN K aT CJ CB CE) := by
  obtain ⟨t1, g_MOST_ENTRIES⟩ := Cs.k_MOST_ENTRIES
  refine okN F sc_Journal_then (fun vs H Q E h => ?_) (fun cdv A outer s H vs Q E hr h => ?_)
  · obtain ⟨j, b, L, us, xs, v, o, rfl, _⟩ := h
    rfl
  · obtain ⟨j, b, L, us, xs, v, o, rfl, hJ, hT, h4, qg, qb, qf⟩ := h
    refine ⟨_, (pss_cons (ps_if (pt_cmpR op_eq (pe_callB call_len_seq (by rfl) B.len (by decide +kernel) (pa_cons (pe_fld (pv 0) rfl) pa_nil)) (pe_glob (v := .int 400) (by rfl) g_MOST_ENTRIES ⟨_, rfl⟩) (nomark _))
      (pss_one (L2H.ps_raiseBN rfl TE par_at c_BadEntry (hr.mono (Nat.zero_le _)) (L2N.takes_of rfl rfl rfl rfl) (pa_cons (pe_glob (v := .int 400) (by rfl) g_MOST_ENTRIES ⟨_, rfl⟩) pa_nil) (by rfl)))
      pss_nil)
    (pss_one (ps_ret (pe_mak G.Journal (hr.mono (by decide)) (passEN (L2N.takes_of rfl rfl rfl rfl)) (pa_cons (pe_fld (pv 0) rfl) (pa_cons (pe_lst (StX.pa_star (pe_fld (pv 0) rfl) (pa_cons (pv 1) pa_nil))) pa_nil)))))), ?_⟩
    obtain ⟨dx, t, kd, h1, h2, h3, hl, h5, h6, h7⟩ := id hJ
    refine ⟨_, rfl, j, CJ, dx, _, _, rfl, h1, T.cl, T.nE, jf_e _ _ _, t, us, rfl, .inr h3, rfl, _, rfl, ?_⟩
    by_cases h5f : us.length = 400
    · rw [h5f, decide_eq_true (show (V.int ((400 : Nat) : Int) = V.int 400) from rfl)]
      exact iteT ⟨_, rfl, fun d hd => qf h5f d _ (sameAt (Same.refl H) hd) upd_same⟩
    have h4 : us.length < 400 := by omega
    rw [decide_eq_false (show ¬ (V.int (us.length : Int) = V.int 400) from fun z => by have := V.int.inj z; omega)]
    refine iteF ⟨_, rfl, j, CJ, dx, _, _, rfl, h1, T.cl, T.nB, jf_b _ _ _, _, rfl, j, CJ, dx, _, _, rfl, h1, T.cl, T.nE, jf_e _ _ _, t, us, rfl, .inl h3, _, rfl, (by rw [List.length_append]; exact Nat.le_of_lt (small1000 (by show us.length + 1 ≤ 1000; omega))), fun a ha => ?_⟩
    intro x dx' nx ndx nex
    have sA : Same H (upd H a (.lst (us ++ [v]))) := sameAt (Same.refl H) ha
    have sX : Same H (upd (upd (upd H a (.lst (us ++ [v]))) dx' (.own x)) x (.ins CJ dx' [])) := (sA.trans (sameAt (Same.refl _) ndx)).trans (sameAt (Same.refl _) (by rw [upd_ne (Ne.symm nex)]; exact nx))
    have haX : (upd (upd (upd H a (.lst (us ++ [v]))) dx' (.own x)) x (.ins CJ dx' [])) a = some (.lst (us ++ [v])) := by
      rw [upd_ne (fun z => by rw [← z, upd_same] at nx; cases nx), upd_ne (fun z => by rw [← z, upd_same] at ndx; cases ndx), upd_same]
    refine ⟨x, dx', b, a, L, us ++ [v], xs.map some ++ [o], rfl, upd_same, h2.same sX, .inl haX, by rw [List.length_append]; show us.length + 1 ≤ 400; omega, by rw [List.length_append, List.length_append, List.length_map, hl]; rfl, fun i v' o' hi ho => ?_, fun H' ys hys hw hJ' hkd kk => ⟨rfl, ?_⟩, fun i d H' hw s hx => ?_⟩
    · by_cases hil : i < us.length
      · rw [List.getElem?_append_left hil] at hi
        rw [List.getElem?_append_left (by rw [List.length_map, ← hl]; exact hil), List.getElem?_map] at ho
        cases e : xs[i]? with
        | none => rw [e] at ho; cases ho
        | some y =>
          rw [e] at ho
          cases ho
          exact (h5 i v' y hi e).same sX
      · have hi' : i = us.length := by
          have := (List.getElem?_eq_some_iff.mp hi).1
          rw [List.length_append] at this
          have : i < us.length + 1 := this
          omega
        subst hi'
        rw [List.getElem?_append_right (Nat.le_refl _), Nat.sub_self] at hi
        rw [hl, List.getElem?_append_right (by rw [List.length_map]; exact Nat.le_refl _), List.length_map, Nat.sub_self] at ho
        cases hi
        cases ho
        exact hT.same sX
    · obtain ⟨y, rfl⟩ : ∃ y, o = some y := by
        cases o with
        | none =>
          have hm : (none : Option Ent) ∈ ys.map some := by rw [← hys]; simp
          obtain ⟨y, _, e⟩ := List.mem_map.mp hm
          cases e
        | some y => exact ⟨y, rfl⟩
      have e : ys = xs ++ [y] := by
        have e2 : (xs ++ [y]).map some = ys.map some := by rw [← hys, List.map_append]; rfl
        exact (List.map_inj_right (fun a b h => Option.some.inj h)).mp e2.symm
      subst e
      obtain ⟨dx2, t2, kd2, hk1, hk2⟩ := hkd
      refine qg x H' y rfl (by rw [← hys]; exact hw) ?_ hJ' h4 (by
        cases e : H x with
        | none => rfl
        | some u => rw [sA _ _ e] at nx; cases nx) ⟨dx2, t2, kd2, hk1, (by
        cases e : H kd2 with
        | none => rfl
        | some u => rw [sX _ _ e] at hk2; cases hk2)⟩
      exact sA.trans (mk_same nx ndx kk)
    · exact qb i d H' hw (sX.trans s) hx h4
end
end Ash

set_option Elab.async false
set_option linter.all false
set_option maxRecDepth 100000
set_option maxHeartbeats 4000000
namespace Ash
open PySem PySem.Spec PyProof.Rows L2
/-! ### entries as data -/
def Ent.data : Ent → PyData
  | .row id s k m a r => .tuple [.str "row", .int id, .str s, .str k, .int m, .int a, .int r]
  | .fix id m a r => .tuple [.str "fix", .int id, .int m, .int a, .int r]
  | .gone id r => .tuple [.str "gone", .int id, .int r]
theorem ent_dp {K : PySem.W.Frag} {H : Hp} {e : Addr} {x : Ent} (h : EntAt H e x) : Dp K H (.ref e) x.data := by
  cases x with
  | row id s k m a r => exact .tup (SqT.of h) (.cons (.str _) (.cons (.int _) (.cons (.str _) (.cons (.str _) (.cons (.int _) (.cons (.int _) (.cons (.int _) .nil)))))))
  | fix id m a r => exact .tup (SqT.of h) (.cons (.str _) (.cons (.int _) (.cons (.int _) (.cons (.int _) (.cons (.int _) .nil)))))
  | gone id r => exact .tup (SqT.of h) (.cons (.str _) (.cons (.int _) (.cons (.int _) .nil)))
theorem ent_lay {x : Ent} (h : x.ok) : x.data.canLay0 = true ∧ x.data.depth ≤ 2 := by
  have key : ∀ ds : List PyData, ds.all flatD = true → (PyData.tuple ds).canLay0 = true ∧ (PyData.tuple ds).depth ≤ 2 := fun ds hd => by
    obtain ⟨h1, h2⟩ := flat_lay hd
    simp [PyData.canLay0, PyData.depth, h1]
    omega
  cases x with
  | row id s k m a r =>
    obtain ⟨h1, h2⟩ := h.2 _ _ _ _ _ _ rfl
    have hr : PyData.strOk "row" = true := by decide +kernel
    exact key _ (by simp [flatD, nm_ok h1, nm_ok h2, hr])
  | fix id m a r =>
    have hr : PyData.strOk "fix" = true := by decide +kernel
    exact key _ (by simp [flatD, hr])
  | gone id r =>
    have hr : PyData.strOk "gone" = true := by decide +kernel
    exact key _ (by simp [flatD, hr])
theorem ents_lay : ∀ {xs : List Ent}, (∀ x ∈ xs, x.ok) → PyData.canLayAll0 (xs.map Ent.data) = true ∧ PyData.depthAll (xs.map Ent.data) ≤ 2
  | [], _ => by simp [PyData.canLayAll0, PyData.depthAll]
  | x :: xs, h => by
    obtain ⟨h1, h2⟩ := ents_lay fun y hy => h y (List.mem_cons_of_mem _ hy)
    obtain ⟨h3, h4⟩ := ent_lay (h x List.mem_cons_self)
    rw [List.map_cons]
    simp only [PyData.canLayAll0, PyData.depthAll, h1, h3, Bool.and_self, true_and]
    exact Nat.max_le.mpr ⟨h4, h2⟩
/-- us are the entries xs -/
def Ents (H : Hp) (us : List V) (xs : List Ent) : Prop := us.length = xs.length ∧ ∀ (i : Nat) v x, us[i]? = some v → xs[i]? = some x → ∃ e, v = .ref e ∧ EntAt H e x ∧ x.ok
theorem Ents.same {H H' : Hp} {us : List V} {xs : List Ent} (h : Ents H us xs) (s : Same H H') : Ents H' us xs := ⟨h.1, fun i v x a b => by
  obtain ⟨e, h1, h2, h3⟩ := h.2 i v x a b
  exact ⟨e, h1, s _ _ h2, h3⟩⟩
theorem Ents.dp {K : PySem.W.Frag} {H : Hp} : ∀ {us : List V} {xs : List Ent}, Ents H us xs → DpAll K H us (xs.map Ent.data)
  | [], [], _ => .nil
  | [], _ :: _, h => by have := h.1; simp at this
  | _ :: _, [], h => by have := h.1; simp at this
  | v :: us, x :: xs, h => by
    obtain ⟨e, rfl, h2, _⟩ := h.2 0 v x rfl rfl
    exact .cons (ent_dp h2) (Ents.dp ⟨by have := h.1; simpa using this, fun i v x a b => h.2 (i + 1) v x a b⟩)
theorem Ents.ok {H : Hp} {us : List V} {xs : List Ent} (h : Ents H us xs) : ∀ x ∈ xs, x.ok := fun x hx => by
  obtain ⟨i, hi, e⟩ := List.getElem_of_mem hx
  have hu : i < us.length := by rw [h.1]; exact hi
  obtain ⟨_, _, _, h3⟩ := h.2 i us[i] x (List.getElem?_eq_getElem hu) (by rw [List.getElem?_eq_getElem hi, e])
  exact h3
theorem told_shaped {xs : List Ent} {w : Str} (hw : PyData.strOk w = true) (h : ∀ x ∈ xs, x.ok) : SeqAt.shaped (.tuple [.str w, .list (xs.map Ent.data)]) = true := by
  obtain ⟨h1, h2⟩ := ents_lay h
  unfold SeqAt.shaped
  simp [PyData.canLay0, PyData.canLayAll0, PyData.depth, PyData.depthAll, h1, hw]
  omega
theorem list_shaped {xs : List Ent} (h : ∀ x ∈ xs, x.ok) : SeqAt.shaped (.list (xs.map Ent.data)) = true := by
  obtain ⟨h1, h2⟩ := ents_lay h
  unfold SeqAt.shaped
  simp [PyData.canLay0, PyData.depth, h1]
  omega
end Ash

set_option Elab.async false
set_option linter.all false
set_option maxRecDepth 100000
set_option maxHeartbeats 4000000
namespace Ash
open PySem PySem.Spec PyProof.Rows L2
open C8 (pss_cut)
/-! ### the law's own draws -/
def spInt : Sp := fun vs H Q _ => ∃ (p s : Addr), vs = [.ref p] ∧ PoolAt H p s ∧ ∀ (n : Int) H', Pl H H' p s → Q (.int n) H'
def SV (H : Hp) : Option V → Option RowSt → Prop
  | none, none => True
  | some v, some .tb => v = .non
  | some v, some (.at_ s k m a) => ∃ t, v = .ref t ∧ H t = some (.tup [.str s, .str k, .int m, .int a])
  | _, _ => False
theorem SV.but {H H' : Hp} {v : Option V} {o : Option RowSt} (h : SV H v o) (s : ∀ t xs, H t = some (.tup xs) → H' t = some (.tup xs)) : SV H' v o := by
  cases v with
  | none => cases o <;> exact h
  | some v =>
    cases o with
    | none => exact h
    | some o =>
      cases o with
      | tb => exact h
      | at_ z k m a =>
        obtain ⟨t, e, h⟩ := h
        exact ⟨t, e, s _ _ h⟩
/-- the law's states: a dict from ids to None or what is known -/
def StAt (H : Hp) (d : Addr) (S : Kn) (n : Nat) : Prop := ∃ kvs : List (Key × V), H d = some (.dK kvs) ∧ kvs.length ≤ n ∧ (∀ kv ∈ kvs, ∃ id, kv.1 = Sum.inl id) ∧ ∀ id, SV H (valV kvs (Sum.inl id)) (S id)
theorem StAt.same {H H' : Hp} {d : Addr} {S : Kn} {n : Nat} (h : StAt H d S n) (s : Same H H') : StAt H' d S n := by
  obtain ⟨kvs, h1, h2, h3, h4⟩ := h
  exact ⟨kvs, s _ _ h1, h2, h3, fun id => (h4 id).but fun t xs e => s _ _ e⟩
theorem StAt.pl {H H' : Hp} {d p s : Addr} {S : Kn} {n : Nat} (h : StAt H d S n) (P0 : PoolAt H p s) (P : Pl H H' p s) : StAt H' d S n := by
  obtain ⟨kvs, h1, h2, h3, h4⟩ := h
  obtain ⟨ns, i, c, k, m, hp, _⟩ := P0
  exact ⟨kvs, P.keep h1 (ne_of h1 hp (by intro z; cases z)), h2, h3, fun id => (h4 id).but fun t xs e => P.keep e (ne_of e hp (by intro z; cases z))⟩
theorem Pl.dk {H H' : Hp} {p s d : Addr} {kvs : List (Key × V)} (P : Pl H H' p s) (P0 : PoolAt H p s) (h : H d = some (.dK kvs)) : H' d = some (.dK kvs) := by
  obtain ⟨ns, i, c, k, m, hp, _⟩ := P0
  exact P.keep h (ne_of h hp (by intro z; cases z))
theorem Pl.tp {H H' : Hp} {p s d : Addr} {xs : List V} (P : Pl H H' p s) (P0 : PoolAt H p s) (h : H d = some (.tup xs)) : H' d = some (.tup xs) := by
  obtain ⟨ns, i, c, k, m, hp, _⟩ := P0
  exact P.keep h (ne_of h hp (by intro z; cases z))
theorem strs_ne {ns : List Int} {r : Addr} {a b c d : Int} {ks : List Str} : (HO.lst (ks.map V.str)) ≠ .lst [.ref r, .int a, .int b, .int c, .int d] := fun z => by
  injection z with z
  cases ks with
  | nil => cases z
  | cons k ks => injection z with z1 _; cases z1
theorem Pl.sl {H H' : Hp} {p s d : Addr} {ks : List Str} (P : Pl H H' p s) (P0 : PoolAt H p s) (h : H d = some (.lst (ks.map V.str))) : H' d = some (.lst (ks.map V.str)) := by
  obtain ⟨ns, i, c, k, m, hp, _⟩ := P0
  exact P.keep h (ne_of h hp (strs_ne (ns := ns)))
theorem mem_val {kvs : List (Key × V)} {kv : Key × V} (h : kv ∈ kvs) : ∃ v, valV kvs kv.1 = some v := by
  have q : (kvs.any fun x => decide (x.1 = kv.1)) = true := List.any_eq_true.mpr ⟨kv, h, decide_eq_true rfl⟩
  rw [valV_any] at q
  exact Option.isSome_iff_exists.mp q
/-- what the entry is drawn from -/
structure Draw (H : Hp) (p s dl dk ds : Addr) (L : List (Str × Int)) (ks : List Str) (S : Kn) : Prop where
  pool : PoolAt H p s
  dl : H dl = some (.dK (LK L))
  LL : Lates L
  dk : H dk = some (.lst (ks.map V.str))
  k1 : 1 ≤ ks.length
  k2 : ks.length ≤ 30
  kn : ∀ z ∈ ks, IsNm z
  st : StAt H ds S 500
  ok : KnOk L S
  pos : ∀ id, S id ≠ none → 0 ≤ id
/-- a row of one of the keys -/
def KIn (ks : List Str) (x : Ent) : Prop := ∀ id s k m a r, x = .row id s k m a r → k ∈ ks
def spEntry : Sp := fun vs H Q _ => ∃ (p s dl dk ds : Addr) (L : List (Str × Int)) (ks : List Str) (S : Kn) (number arrival : Int), vs = [.ref p, .ref dl, .ref dk, .ref ds, .int number, .int arrival] ∧ Draw H p s dl dk ds L ks S ∧ 0 ≤ number ∧ S number = none ∧
  ∀ e x y H', EntAt H' e x → x.ok → KIn ks x → x.arr = arrival → behind L x (S x.id) = some y → (x.id = number ∨ S x.id ≠ none) → Pl H H' p s → Q (.ref e) H'
section
variable {P : Program} {w : World} {K : PySem.W.Frag} {mg : Str → Option Value} {base : Heap}
abbrev s_l_amount : Stmt := topS 36
theorem sc_l_amount : FnScope ["_law_pool_here"] ["_law_pool_here"] (defScope s_l_amount) := ⟨rfl, rfl, rfl, by decide +kernel, rfl, by decide +kernel, by decide +kernel⟩
theorem ok_amount {f : Addr} {fd : FuncData} (F : Fun K "_law_amount" "_law_amount" s_l_amount f fd) (B : Blt mg) (G : G2 P w K mg base) : FnOk P w K mg base CX0 2 f fd ["_law_pool_here"] spInt := by
  refine F.ok sc_l_amount (fun vs H Q E h => ?_) (fun cdv A outer s H vs Q E hr h => ?_)
  · obtain ⟨p, s, rfl, _⟩ := h
    rfl
  · obtain ⟨p, s0, rfl, hP, q⟩ := h
    refine ⟨_, (pss_cons (ps_if (pt_cmpR op_eq (pe_cal G.law_draw (hr.mono (by decide)) pass0 (pa_cons (pv 0) (pa_cons pe_int pa_nil))) pe_int (nomark _))
      (pss_one (ps_ret (pe_op op_sub (pe_cal G.law_draw (hr.mono (by decide)) pass0 (pa_cons (pv 0) (pa_cons (pe_op op_mul pe_int (pe_op op_pow pe_int pe_int)) pa_nil))) (pe_op op_pow pe_int pe_int))))
      pss_nil)
    (pss_one (ps_ret (pe_op op_sub (pe_cal G.law_draw (hr.mono (by decide)) pass0 (pa_cons (pv 0) (pa_cons pe_int pa_nil))) pe_int)))), ?_⟩
    refine ⟨_, rfl, p, s0, 6, rfl, hP, (by decide), (by decide), fun x H1 x0 x6 P1 => ⟨rfl, _, rfl, ?_⟩⟩
    refine ite2 (fun c => ?_) (fun c => ?_)
    · exact ⟨_, rfl, _, _, rfl, rfl, ⟨by decide, by decide, by decide⟩, _, _, rfl, rfl, .inl ⟨by decide, by decide⟩, p, s0, _, rfl, P1.now, (by decide), (by decide), fun y H2 y0 y6 P2 => ⟨_, _, rfl, rfl, ⟨by decide, by decide, by decide⟩, _, _, rfl, rfl, q _ H2 (P1.trans P2)⟩⟩
    · exact ⟨_, rfl, p, s0, 21, rfl, P1.now, (by decide), (by decide), fun y H2 y0 y6 P2 => ⟨_, _, rfl, rfl, q _ H2 (P1.trans P2)⟩⟩
abbrev s_l_begin : Stmt := topS 40
theorem sc_l_begin : FnScope ["_law_pool_here"] ["_law_pool_here"] (defScope s_l_begin) := ⟨rfl, rfl, rfl, by decide +kernel, rfl, by decide +kernel, by decide +kernel⟩
theorem ok_begin {f : Addr} {fd : FuncData} (F : Fun K "_law_begin" "_law_begin" s_l_begin f fd) (B : Blt mg) (G : G2 P w K mg base) : FnOk P w K mg base CX0 2 f fd ["_law_pool_here"] spInt := by
  refine F.ok sc_l_begin (fun vs H Q E h => ?_) (fun cdv A outer s H vs Q E hr h => ?_)
  · obtain ⟨p, s, rfl, _⟩ := h
    rfl
  · obtain ⟨p, s0, rfl, hP, q⟩ := h
    refine ⟨_, (pss_cons (ps_if (pt_cmpR op_eq (pe_cal G.law_draw (hr.mono (by decide)) pass0 (pa_cons (pv 0) (pa_cons pe_int pa_nil))) pe_int (nomark _))
      (pss_one (ps_ret (pe_op op_sub (pe_cal G.law_draw (hr.mono (by decide)) pass0 (pa_cons (pv 0) (pa_cons (pe_op op_mul pe_int (pe_op op_pow pe_int pe_int)) pa_nil))) (pe_op op_pow pe_int pe_int))))
      pss_nil)
    (pss_one (ps_ret (pe_op op_sub (pe_cal G.law_draw (hr.mono (by decide)) pass0 (pa_cons (pv 0) (pa_cons pe_int pa_nil))) pe_int)))), ?_⟩
    refine ⟨_, rfl, p, s0, 3, rfl, hP, (by decide), (by decide), fun x H1 x0 x6 P1 => ⟨rfl, _, rfl, ?_⟩⟩
    refine ite2 (fun c => ?_) (fun c => ?_)
    · exact ⟨_, rfl, _, _, rfl, rfl, ⟨by decide, by decide, by decide⟩, _, _, rfl, rfl, .inl ⟨by decide, by decide⟩, p, s0, _, rfl, P1.now, (by decide), (by decide), fun y H2 y0 y6 P2 => ⟨_, _, rfl, rfl, ⟨by decide, by decide, by decide⟩, _, _, rfl, rfl, q _ H2 (P1.trans P2)⟩⟩
    · exact ⟨_, rfl, p, s0, 21, rfl, P1.now, (by decide), (by decide), fun y H2 y0 y6 P2 => ⟨_, _, rfl, rfl, q _ H2 (P1.trans P2)⟩⟩
structure G3 (P : Program) (w : World) (K : PySem.W.Frag) (mg : Str → Option Value) (base : Heap) : Prop extends G2 P w K mg base where
  law_lates : Cal P w K mg base CX0 "_law_lates" 3 ["_law_pool_here"] spLates
  law_amount : Cal P w K mg base CX0 "_law_amount" 2 ["_law_pool_here"] spInt
  law_begin : Cal P w K mg base CX0 "_law_begin" 2 ["_law_pool_here"] spInt
abbrev s_l_entry : Stmt := topS 37
theorem sc_l_entry : FnScope ["_law_pool_here", "_law_lates_here", "_law_keys", "_law_states", "_law_number", "_law_arrival", "_law_open_ones", "_law_other", "_law_kind", "_law_stream", "_law_moment"] ["_law_pool_here", "_law_lates_here", "_law_keys", "_law_states", "_law_number", "_law_arrival"] (defScope s_l_entry) := ⟨rfl, rfl, rfl, by decide +kernel, rfl, by decide +kernel, by decide +kernel⟩
theorem ok_entry {f : Addr} {fd : FuncData} (F : Fun K "_law_entry" "_law_entry" s_l_entry f fd) (B : Blt mg) (G : G3 P w K mg base) : FnOk P w K mg base CX0 3 f fd ["_law_pool_here", "_law_lates_here", "_law_keys", "_law_states", "_law_number", "_law_arrival"] spEntry := by
  refine F.ok sc_l_entry (fun vs H Q E h => ?_) (fun cdv A outer s H vs Q E hr h => ?_)
  · obtain ⟨p, s, dl, dk, ds, L, ks, S, number, arrival, rfl, _⟩ := h
    rfl
  · obtain ⟨p, s0, dl, dk, ds, L, ks, S, number, arrival, rfl, D, hn, hSn, q⟩ := h
    have hu := hu_of hr
    refine ⟨_, (pss_cons (ps_set (i := 6) sc_l_entry.nd rfl (Or.inl rfl) (pe_lst pa_nil))
    (pss_cut (ps_for PassesOwn.never rfl (pi_list (pe_callTy (call_listD (by rfl)) (by rfl) B.list (by decide +kernel) (pa_cons (pv 3) pa_nil))) (pg_name (i := 7) sc_l_entry.nd rfl (Or.inl rfl))
      (pss_one (ps_if (PW.pt (pw_and (pt_cmpR op_notN (pe_dget hu (pv 3) (pv 7) (fun _ _ => rfl)) pe_non (nomark _)) (pw_and1 (pt_cmpR op_le (pv 5) (pe_op op_add (pe_ix ix_tup (pe_dget hu (pv 3) (pv 7) (fun _ _ => rfl)) pe_int (fun _ _ => rfl)) (pe_dget hu (pv 1) (pe_ix ix_tup (pe_dget hu (pv 3) (pv 7) (fun _ _ => rfl)) pe_int (fun _ _ => rfl)) (fun _ _ => rfl))) (nomark _)))))
        (pss_one (ps_expr (pe_bm PySem.F.plainAttrs_list PySem.F.slot_list_append PySem.F.type_list_append mt_append (pv 6) (pa_cons (pv 7) pa_nil))))
        pss_nil)))
    (pss_cons (ps_set (i := 8) sc_l_entry.nd rfl (Or.inl rfl) (pe_cal G.law_draw (hr.mono (by decide)) pass0 (pa_cons (pv 0) (pa_cons pe_int pa_nil))))
    (pss_cons (ps_if (PW.pt (pw_or (pt_cmpR op_lt (pv 8) pe_int (nomark _)) (pw_or1 (pt_cmpR op_eq (pe_callB call_len_seq (by rfl) B.len (by decide +kernel) (pa_cons (pv 6) pa_nil)) pe_int (nomark _)))))
      (pss_cons (ps_set (i := 9) sc_l_entry.nd rfl (Or.inl rfl) (pe_ix ix_list (pe_callTy (call_listD (by rfl)) (by rfl) B.list (by decide +kernel) (pa_cons (pv 1) pa_nil)) (pe_cal G.law_draw (hr.mono (by decide)) pass0 (pa_cons (pv 0) (pa_cons (pe_callB call_lenD (by rfl) B.len (by decide +kernel) (pa_cons (pv 1) pa_nil)) pa_nil))) (fun _ _ => rfl)))
      (pss_cons (ps_set (i := 10) sc_l_entry.nd rfl (Or.inl rfl) (pe_op op_sub (pv 5) (pe_cal G.law_draw (hr.mono (by decide)) pass0 (pa_cons (pv 0) (pa_cons (pe_op op_add (pe_dget hu (pv 1) (pv 9) (fun _ _ => rfl)) pe_int) pa_nil)))))
      (pss_one (ps_ret (pe_tup (pa_cons pe_str (pa_cons (pv 4) (pa_cons (pv 9) (pa_cons (pe_ix ix_list (pv 2) (pe_cal G.law_draw (hr.mono (by decide)) pass0 (pa_cons (pv 0) (pa_cons (pe_callB call_len_seq (by rfl) B.len (by decide +kernel) (pa_cons (pv 2) pa_nil)) pa_nil))) (fun _ _ => rfl)) (pa_cons (pv 10) (pa_cons (pe_cal G.law_amount (hr.mono (by decide)) pass0 (pa_cons (pv 0) pa_nil)) (pa_cons (pv 5) pa_nil))))))))))))
      pss_nil)
    (pss_cons (ps_set (i := 7) sc_l_entry.nd rfl (Or.inl rfl) (pe_ix ix_list (pv 6) (pe_cal G.law_draw (hr.mono (by decide)) pass0 (pa_cons (pv 0) (pa_cons (pe_callB call_len_seq (by rfl) B.len (by decide +kernel) (pa_cons (pv 6) pa_nil)) pa_nil))) (fun _ _ => rfl)))
    (pss_cons (ps_if (pt_cmpR op_eq (pv 8) pe_int (nomark _))
      (pss_cons (ps_set (i := 10) sc_l_entry.nd rfl (Or.inl rfl) (pe_op op_sub (pv 5) (pe_cal G.law_draw (hr.mono (by decide)) pass0 (pa_cons (pv 0) (pa_cons (pe_op op_add (pe_dget hu (pv 1) (pe_ix ix_tup (pe_dget hu (pv 3) (pv 7) (fun _ _ => rfl)) pe_int (fun _ _ => rfl)) (fun _ _ => rfl)) pe_int) pa_nil)))))
      (pss_one (ps_ret (pe_tup (pa_cons pe_str (pa_cons (pv 7) (pa_cons (pv 10) (pa_cons (pe_cal G.law_amount (hr.mono (by decide)) pass0 (pa_cons (pv 0) pa_nil)) (pa_cons (pv 5) pa_nil)))))))))
      pss_nil)
    (pss_one (ps_ret (pe_tup (pa_cons pe_str (pa_cons (pv 7) (pa_cons (pv 5) pa_nil)))))))))))), ?_⟩
    refine ⟨(by show 0 ≤ sizeLine; decide), fun q0 hq0 => ?_⟩
    obtain ⟨kvs, hst, hst1, hst2, hst3⟩ := D.st
    have s0' := sameAt (Same.refl H) hq0 (o := .lst [])
    -- open_ones
    refine ⟨fun σ H1 => (∃ a b c d, ∃ ids : List Int, σ = [some (.ref p), some (.ref dl), some (.ref dk), some (.ref ds), some (.int number), some (.int arrival), some (.ref q0), a, b, c, d] ∧ H1 q0 = some (.lst (ids.map V.int)) ∧ ids.length ≤ 500 ∧
      ∀ id ∈ ids, ∃ z k m a l, S id = some (.at_ z k m a) ∧ L.lookup z = some l ∧ arrival ≤ m + l) ∧ Same H H1, ?_, ?_⟩
    · refine ⟨_, rfl, ds, kvs, rfl, .of (s0' _ _ hst), fun l hl => ⟨l, rfl, ⟨_, SqL.of upd_same⟩, ?_⟩⟩
      have e1 : kvs.map (fun kv => kV kv.1) = kvs.map (fun kv => kV kv.1) := rfl
      have s1 : Same H (upd (upd H q0 (.lst [])) l (.lst (kvs.map fun kv => kV kv.1))) := s0'.trans (sameAt (Same.refl _) hl)
      have hql : q0 ≠ l := fun z => by rw [← z, upd_same] at hl; cases hl
      refine for_list (K := K) (a := l) (xs := kvs.map fun kv => kV kv.1) (fun i σ H1 => (∃ a b c d, ∃ ids : List Int, σ = [some (.ref p), some (.ref dl), some (.ref dk), some (.ref ds), some (.int number), some (.int arrival), some (.ref q0), a, b, c, d] ∧ H1 q0 = some (.lst (ids.map V.int)) ∧ ids.length ≤ i ∧
        ∀ id ∈ ids, ∃ z k m a l, S id = some (.at_ z k m a) ∧ L.lookup z = some l ∧ arrival ≤ m + l) ∧ H1 l = some (.lst (kvs.map fun kv => kV kv.1)) ∧ Same H H1) ?_ (fun i σ H1 _ hv => SqL.of hv.2.1) ?_ ?_
      · exact ⟨⟨_, _, _, _, [], rfl, by rw [upd_ne hql]; exact upd_same, Nat.le_refl _, fun _ h => nomatch h⟩, upd_same, s1⟩
      · rintro i x σ H1 hi ⟨⟨a, b, c, d, ids, rfl, hq1, hlen, hids⟩, hl1, s2⟩
        obtain ⟨kv, hkv, rfl⟩ : ∃ kv, kvs[i]? = some kv ∧ x = kV kv.1 := by
          rw [List.getElem?_map] at hi
          cases e : kvs[i]? with
          | none => rw [e] at hi; cases hi
          | some z => rw [e] at hi; exact ⟨z, rfl, (Option.some.inj hi).symm⟩
        have hil : i < kvs.length := (List.getElem?_eq_some_iff.mp hkv).1
        have hm := List.mem_of_getElem? hkv
        obtain ⟨id, hid⟩ := hst2 _ hm
        obtain ⟨v, hv⟩ := mem_val hm
        rw [hid] at hv ⊢
        have hs1 := s2 _ _ hst
        have hd1 := s2 _ _ D.dl
        have sv := (hst3 id).but (fun t xs e => s2 _ _ e)
        rw [hv] at sv
        have hg := DGet.k (k := Sum.inl id) hs1
        rw [hv] at hg
        cases eS : S id with
        | none => rw [eS] at sv; exact absurd sv (fun z => z)
        | some r =>
          rw [eS] at sv
          cases r with
          | tb =>
            obtain rfl : v = .non := sv
            refine ⟨_, rfl, _, rfl, ds, _, rfl, hg, rfl, _, rfl, iteF ?_⟩
            exact ⟨⟨_, _, _, _, ids, rfl, hq1, by omega, hids⟩, hl1, s2⟩
          | at_ z k m am =>
            obtain ⟨t, rfl, ht⟩ := sv
            obtain ⟨_, _, hz⟩ := D.ok _ _ _ _ _ eS
            obtain ⟨lt, hlt⟩ := Option.isSome_iff_exists.mp hz
            have hgl := DGet.k (k := Sum.inr z) hd1
            rw [LK_val, hlt] at hgl
            refine ⟨_, rfl, _, rfl, ds, _, rfl, hg, rfl, _, rfl, iteT ?_⟩
            refine ⟨_, rfl, _, rfl, _, rfl, ds, _, rfl, hg, _, _, _, _, rfl, rfl, SqT.of ht, rfl, _, rfl, _, rfl, _, rfl, ds, _, rfl, hg, _, _, _, _, rfl, rfl, SqT.of ht, rfl, dl, _, rfl, hgl, _, _, rfl, rfl, _, _, rfl, rfl, _, rfl, ?_⟩
            refine ite2 (fun c1 => ?_) (fun c1 => ?_)
            · have c1 : arrival ≤ m + lt := of_decide_eq_true c1
              refine ⟨_, rfl, .inl ⟨rfl, _, SqL.of hq1⟩, _, rfl, q0, _, _, rfl, rfl, hq1, (by rw [List.length_map]; exact small1000 (by omega)), ?_⟩
              refine ⟨⟨_, _, _, _, ids ++ [id], rfl, ?_, by rw [List.length_append]; show ids.length + 1 ≤ i + 1; omega, fun id' hid' => ?_⟩, ?_, ?_⟩
              · rw [upd_same, List.map_append]
                rfl
              · rcases List.mem_append.mp hid' with h | h
                · exact hids _ h
                · rw [List.mem_singleton.mp h]
                  exact ⟨z, k, m, am, lt, eS, hlt, c1⟩
              · rw [upd_ne (Ne.symm hql)]
                exact hl1
              · exact sameAt s2 hq0
            · exact ⟨⟨_, _, _, _, ids, rfl, hq1, by omega, hids⟩, hl1, s2⟩
      · rintro σ H1 ⟨⟨a, b, c, d, ids, rfl, hq1, hlen, hids⟩, hl1, s2⟩
        rw [List.length_map] at hlen
        exact ⟨⟨_, _, _, _, ids, rfl, hq1, by omega, hids⟩, s2⟩
    rintro σ H1 ⟨⟨a, b, c, d, ids, rfl, hq1, hlen, hids⟩, s1⟩
    have P1 := D.pool.same s1
    refine ⟨_, rfl, p, s0, 4, rfl, P1, (by decide), (by decide), fun kind H2 k0 k4 P2 => ?_⟩
    have PP2 : Pl H H2 p s0 := ⟨P2.now, D.pool.ne.1, D.pool.ne.2, fun b o hb hn => P2.keep (s1 _ _ hb) hn⟩
    have hqp : q0 ≠ p := fun z => D.pool.ne.1 (z ▸ hq0)
    have hq2 : H2 q0 = some (.lst (ids.map V.int)) := P2.keep hq1 hqp
    have hd2 : H2 dl = some (.dK (LK L)) := PP2.dk D.pool D.dl
    have hk2 : H2 dk = some (.lst (ks.map V.str)) := PP2.sl D.pool D.dk
    have l1 := D.LL.some_
    have l8 := D.LL.few
    refine ⟨_, rfl, _, _, rfl, rfl, _, rfl, ?_⟩
    refine ite2 (fun c1 => ?_) (fun c1 => ?_)
    · skip
      refine ⟨_, rfl, dl, _, rfl, .of hd2, fun l hl => ?_⟩
      have e1 : (LK L).map (fun kv => kV kv.1) = (L.map (·.1)).map V.str := by
        unfold LK
        rw [List.map_map, List.map_map]
        rfl
      rw [e1]
      have PP3 : Pl H (upd H2 l (.lst ((L.map (·.1)).map V.str))) p s0 := PP2.new hl
      have hlp : l ≠ p := fun z => P2.now.ne.1 (z ▸ hl)
      refine ⟨_, rfl, _, rfl, dl, _, rfl, PP3.dk D.pool D.dl, p, s0, _, rfl, PP3.now, (by rw [LK_len]; omega), (by rw [LK_len]; omega), fun g H4 g0 g1 P4 => ?_⟩
      rw [LK_len] at g1
      obtain ⟨g, rfl⟩ : ∃ n : Nat, g = (n : Int) := ⟨g.toNat, by omega⟩
      have hg : g < L.length := by omega
      have PP4 := PP3.trans P4
      have hm : L[g] ∈ L := List.getElem_mem hg
      have hlk : L.lookup L[g].1 = some L[g].2 := lookup_mem D.LL.nd hm
      have b0 := D.LL.lo _ hm
      have b1 := D.LL.hi _ hm
      refine ⟨_, _, _, V.str L[g].1, rfl, rfl, SqL.of (P4.keep upd_same hlp), atI_nat (by rw [List.getElem?_map, List.getElem?_map, List.getElem?_eq_getElem hg]; rfl), ?_⟩
      have hgl := DGet.k (k := Sum.inr L[g].1) (PP4.dk D.pool D.dl)
      rw [LK_val, hlk] at hgl
      refine ⟨_, rfl, _, rfl, _, rfl, _, rfl, dl, _, rfl, hgl, _, _, rfl, rfl, p, s0, _, rfl, PP4.now, (by omega), (by omega), fun dd H5 d0 d1 P5 => ⟨_, _, rfl, rfl, ?_⟩⟩
      have PP5 := PP4.trans P5
      have k1 := D.k1
      have k2 := D.k2
      refine ⟨_, rfl, _, rfl, _, rfl, _, rfl, _, rfl, dk, _, rfl, .inl (SqL.of (PP5.sl D.pool D.dk)), p, s0, _, rfl, PP5.now, (by rw [List.length_map]; omega), (by rw [List.length_map]; omega), fun gk H6 gk0 gk1 P6 => ?_⟩
      rw [List.length_map] at gk1
      obtain ⟨gk, rfl⟩ : ∃ n : Nat, gk = (n : Int) := ⟨gk.toNat, by omega⟩
      have hgk : gk < ks.length := by omega
      have PP6 := PP5.trans P6
      refine ⟨_, _, _, V.str ks[gk], rfl, rfl, SqL.of (PP6.sl D.pool D.dk), atI_nat (by rw [List.getElem?_map, List.getElem?_eq_getElem hgk]; rfl), _, rfl, _, rfl, p, s0, rfl, PP6.now, fun am H7 P7 => ⟨_, rfl, (by show 7 ≤ sizeLine; decide), fun e he => ?_⟩⟩
      refine q e (.row number L[g].1 ks[gk] (arrival - dd) am arrival) (.at_ L[g].1 ks[gk] (arrival - dd) am) _ upd_same ⟨hn, fun _ _ _ _ _ _ z => by
        cases z
        exact ⟨D.LL.nm _ hm, D.kn _ (List.getElem_mem hgk)⟩⟩ (fun _ _ _ _ _ _ z => by cases z; exact List.getElem_mem hgk) rfl ?_ (.inl rfl) ((PP6.trans P7).new he)
      show behind L _ (S number) = _
      rw [hSn]
      show (L.lookup L[g].1).bind _ = _
      rw [hlk, Option.bind_some, if_pos ⟨by omega, by omega⟩]
    · refine ⟨_, rfl, q0, _, rfl, .inl (SqL.of hq2), rfl, _, rfl, ?_⟩
      refine ite2 (fun c2 => ?_) (fun c2 => ?_)
      · skip
        refine ⟨_, rfl, dl, _, rfl, .of hd2, fun l hl => ?_⟩
        have e1 : (LK L).map (fun kv => kV kv.1) = (L.map (·.1)).map V.str := by
          unfold LK
          rw [List.map_map, List.map_map]
          rfl
        rw [e1]
        have PP3 : Pl H (upd H2 l (.lst ((L.map (·.1)).map V.str))) p s0 := PP2.new hl
        have hlp : l ≠ p := fun z => P2.now.ne.1 (z ▸ hl)
        refine ⟨_, rfl, _, rfl, dl, _, rfl, PP3.dk D.pool D.dl, p, s0, _, rfl, PP3.now, (by rw [LK_len]; omega), (by rw [LK_len]; omega), fun g H4 g0 g1 P4 => ?_⟩
        rw [LK_len] at g1
        obtain ⟨g, rfl⟩ : ∃ n : Nat, g = (n : Int) := ⟨g.toNat, by omega⟩
        have hg : g < L.length := by omega
        have PP4 := PP3.trans P4
        have hm : L[g] ∈ L := List.getElem_mem hg
        have hlk : L.lookup L[g].1 = some L[g].2 := lookup_mem D.LL.nd hm
        have b0 := D.LL.lo _ hm
        have b1 := D.LL.hi _ hm
        refine ⟨_, _, _, V.str L[g].1, rfl, rfl, SqL.of (P4.keep upd_same hlp), atI_nat (by rw [List.getElem?_map, List.getElem?_map, List.getElem?_eq_getElem hg]; rfl), ?_⟩
        have hgl := DGet.k (k := Sum.inr L[g].1) (PP4.dk D.pool D.dl)
        rw [LK_val, hlk] at hgl
        refine ⟨_, rfl, _, rfl, _, rfl, _, rfl, dl, _, rfl, hgl, _, _, rfl, rfl, p, s0, _, rfl, PP4.now, (by omega), (by omega), fun dd H5 d0 d1 P5 => ⟨_, _, rfl, rfl, ?_⟩⟩
        have PP5 := PP4.trans P5
        have k1 := D.k1
        have k2 := D.k2
        refine ⟨_, rfl, _, rfl, _, rfl, _, rfl, _, rfl, dk, _, rfl, .inl (SqL.of (PP5.sl D.pool D.dk)), p, s0, _, rfl, PP5.now, (by rw [List.length_map]; omega), (by rw [List.length_map]; omega), fun gk H6 gk0 gk1 P6 => ?_⟩
        rw [List.length_map] at gk1
        obtain ⟨gk, rfl⟩ : ∃ n : Nat, gk = (n : Int) := ⟨gk.toNat, by omega⟩
        have hgk : gk < ks.length := by omega
        have PP6 := PP5.trans P6
        refine ⟨_, _, _, V.str ks[gk], rfl, rfl, SqL.of (PP6.sl D.pool D.dk), atI_nat (by rw [List.getElem?_map, List.getElem?_eq_getElem hgk]; rfl), _, rfl, _, rfl, p, s0, rfl, PP6.now, fun am H7 P7 => ⟨_, rfl, (by show 7 ≤ sizeLine; decide), fun e he => ?_⟩⟩
        refine q e (.row number L[g].1 ks[gk] (arrival - dd) am arrival) (.at_ L[g].1 ks[gk] (arrival - dd) am) _ upd_same ⟨hn, fun _ _ _ _ _ _ z => by
          cases z
          exact ⟨D.LL.nm _ hm, D.kn _ (List.getElem_mem hgk)⟩⟩ (fun _ _ _ _ _ _ z => by cases z; exact List.getElem_mem hgk) rfl ?_ (.inl rfl) ((PP6.trans P7).new he)
        show behind L _ (S number) = _
        rw [hSn]
        show (L.lookup L[g].1).bind _ = _
        rw [hlk, Option.bind_some, if_pos ⟨by omega, by omega⟩]
      · have hne : 0 < ids.length := by
          refine Nat.pos_of_ne_zero fun z => c2 (decide_eq_true ?_)
          rw [List.length_map, z]
          rfl
        refine ⟨_, rfl, _, rfl, _, rfl, q0, _, rfl, .inl (SqL.of hq2), p, s0, _, rfl, PP2.now, (by rw [List.length_map]; omega), (by rw [List.length_map]; omega), fun g H3 g0 g1 P3 => ?_⟩
        rw [List.length_map] at g1
        obtain ⟨g, rfl⟩ : ∃ n : Nat, g = (n : Int) := ⟨g.toNat, by omega⟩
        have hg : g < ids.length := by omega
        have PP3 := PP2.trans P3
        obtain ⟨z, k, m, a0, lt, eS, hlt, hend⟩ := hids _ (List.getElem_mem hg)
        obtain ⟨hzn, hkn, _⟩ := D.ok _ _ _ _ _ eS
        have hpos : 0 ≤ ids[g] := D.pos _ (by rw [eS]; exact fun z => nomatch z)
        have hlo : 0 ≤ lt ∧ lt ≤ 1000000 := by
          have hzm : z ∈ L.map (·.1) := by
            by_cases hz : z ∈ L.map (·.1)
            · exact hz
            · rw [lookup_none hz] at hlt
              cases hlt
          obtain ⟨x, hx, rfl⟩ := List.mem_map.mp hzm
          rw [lookup_mem D.LL.nd hx] at hlt
          cases hlt
          exact ⟨D.LL.lo _ hx, D.LL.hi _ hx⟩
        have sv := (hst3 ids[g]).but (fun t xs e => PP3.tp D.pool e)
        rw [eS] at sv
        obtain ⟨v, hv⟩ : ∃ v, valV kvs (Sum.inl ids[g]) = some v := by
          cases e : valV kvs (Sum.inl ids[g] : Key) with
          | none => rw [e] at sv; exact absurd sv (fun z => z)
          | some v => exact ⟨v, rfl⟩
        rw [hv] at sv
        obtain ⟨t, rfl, ht⟩ := sv
        have hgs := DGet.k (k := Sum.inl ids[g]) (PP3.dk D.pool hst)
        rw [hv] at hgs
        have hgl := DGet.k (k := Sum.inr z) (PP3.dk D.pool D.dl)
        rw [LK_val, hlt] at hgl
        refine ⟨_, _, _, V.int ids[g], rfl, rfl, SqL.of (P3.keep hq2 hqp), atI_nat (by rw [List.getElem?_map, List.getElem?_eq_getElem hg]; rfl), _, rfl, rfl, _, rfl, ?_⟩
        refine ite2 (fun c3 => ?_) (fun c3 => ?_)
        · refine ⟨_, rfl, _, rfl, _, rfl, _, rfl, _, rfl, ds, _, rfl, hgs, _, _, _, _, rfl, rfl, SqT.of ht, rfl, dl, _, rfl, hgl, _, _, rfl, rfl, p, s0, _, rfl, PP3.now, (by omega), (by omega), fun dd H4 d0 d1 P4 => ⟨_, _, rfl, rfl, ?_⟩⟩
          have PP4 := PP3.trans P4
          refine ⟨_, rfl, _, rfl, _, rfl, p, s0, rfl, PP4.now, fun am H5 P5 => ⟨_, rfl, (by show 5 ≤ sizeLine; decide), fun e he => ?_⟩⟩
          refine q e (.fix ids[g] (arrival - dd) am arrival) (.at_ z k (arrival - dd) am) _ upd_same ⟨hpos, fun _ _ _ _ _ _ z => by cases z⟩ (fun _ _ _ _ _ _ z => by cases z) rfl ?_ (.inr (by show S ids[g] ≠ none; rw [eS]; exact fun z => nomatch z)) ((PP4.trans P5).new he)
          show behind L _ (S ids[g]) = _
          rw [eS]
          show (L.lookup z).bind _ = _
          rw [hlt, Option.bind_some, if_pos ⟨hend, by omega, by omega⟩]
        · refine ⟨_, rfl, _, rfl, (by show 3 ≤ sizeLine; decide), fun e he => ?_⟩
          refine q e (.gone ids[g] arrival) .tb _ upd_same ⟨hpos, fun _ _ _ _ _ _ z => by cases z⟩ (fun _ _ _ _ _ _ z => by cases z) rfl ?_ (.inr (by show S ids[g] ≠ none; rw [eS]; exact fun z => nomatch z)) (PP3.new he)
          show behind L _ (S ids[g]) = _
          rw [eS]
          show (L.lookup z).bind _ = _
          rw [hlt, Option.bind_some, if_pos hend]
end
end Ash

set_option Elab.async false
set_option linter.all false
set_option maxRecDepth 100000
set_option maxHeartbeats 4000000
namespace Ash
open PySem PySem.Spec PyProof.Rows L2
open C8 (pss_cut)
/-! ### states that change -/
def TK (H H' : Hp) : Prop := ∀ t xs, H t = some (.tup xs) → H' t = some (.tup xs)
theorem Ents.tk {H H' : Hp} {us : List V} {xs : List Ent} (h : Ents H us xs) (s : TK H H') : Ents H' us xs := ⟨h.1, fun i v x a b => by
  obtain ⟨e, h1, h2, h3⟩ := h.2 i v x a b
  exact ⟨e, h1, s _ _ h2, h3⟩⟩
theorem Pl.tk {H H' : Hp} {p s : Addr} (P : Pl H H' p s) (P0 : PoolAt H p s) : TK H H' := fun t xs h => P.tp P0 h
theorem tk_same {H H' : Hp} (s : Same H H') : TK H H' := fun t xs h => s _ _ h
theorem TK.trans {H H1 H2 : Hp} (a : TK H H1) (b : TK H1 H2) : TK H H2 := fun t xs h => b t xs (a t xs h)
theorem tk_off {H : Hp} {q : Addr} {o u : HO} (h : H q = some u) (hu : ∀ xs, u ≠ .tup xs) : TK H (upd H q o) := fun t xs e => by
  rw [upd_ne (ne_of e h (fun z => hu xs z.symm))]
  exact e
theorem mem_putK {kvs : List (Key × V)} {id : Int} {v : V} (h : ∀ kv ∈ kvs, ∃ id, kv.1 = Sum.inl id) : ∀ kv ∈ putK kvs (Sum.inl id : Key) v, ∃ id, kv.1 = Sum.inl id := by
  intro kv hkv
  unfold putK at hkv
  split at hkv
  · obtain ⟨x, hx, rfl⟩ := List.mem_map.mp hkv
    obtain ⟨j, hj⟩ := h x hx
    split
    · exact ⟨j, hj⟩
    · exact ⟨j, hj⟩
  · rcases List.mem_append.mp hkv with hk | hk
    · exact h kv hk
    · rw [List.mem_singleton.mp hk]
      exact ⟨id, rfl⟩
def setK (S : Kn) (id : Int) (y : RowSt) : Kn := fun j => if j = id then some y else S j
theorem StAt.put {H H1 : Hp} {ds : Addr} {S : Kn} {n : Nat} {kvs : List (Key × V)} {id : Int} {v : V} {y : RowSt} (h1 : H ds = some (.dK kvs)) (h2 : kvs.length ≤ n) (h3 : ∀ kv ∈ kvs, ∃ id, kv.1 = Sum.inl id) (h4 : ∀ id, SV H (valV kvs (Sum.inl id)) (S id))
    (s : Same H H1) (hv : SV H1 (some v) (some y)) : StAt (upd H1 ds (.dK (putK kvs (Sum.inl id) v))) ds (setK S id y) (n + 1) := by
  refine ⟨_, upd_same, Nat.le_trans (pk_len _ _ _) (by omega), mem_putK h3, fun j => ?_⟩
  have tk : TK H1 (upd H1 ds (.dK (putK kvs (Sum.inl id) v))) := tk_off (s _ _ h1) (fun xs z => by cases z)
  rw [valV_put]
  show SV _ _ (if j = id then some y else S j)
  by_cases e : j = id
  · rw [if_pos (by rw [e]), if_pos e]
    exact hv.but tk
  · rw [if_neg (fun q => e (Sum.inl.inj q)), if_neg e]
    exact ((h4 j).but fun t xs z => s _ _ z).but tk
theorem behind_row {L : List (Str × Int)} {id : Int} {s k : Str} {m a r : Int} {o : Option RowSt} {y : RowSt} (h : behind L (.row id s k m a r) o = some y) : y = .at_ s k m a := by
  cases o with
  | some o => cases h
  | none =>
    have h : (L.lookup s).bind _ = _ := h
    cases e : L.lookup s with
    | none => rw [e] at h; cases h
    | some l =>
      rw [e, Option.bind_some] at h
      split at h
      · exact (Option.some.inj h).symm
      · cases h
theorem behind_fix {L : List (Str × Int)} {id m a r : Int} {o : Option RowSt} {y : RowSt} (h : behind L (.fix id m a r) o = some y) : ∃ s k m0 a0, o = some (.at_ s k m0 a0) ∧ y = .at_ s k m a := by
  cases o with
  | none => cases h
  | some o =>
    cases o with
    | tb => cases h
    | at_ s k m0 a0 =>
      have h : (L.lookup s).bind _ = _ := h
      cases e : L.lookup s with
      | none => rw [e] at h; cases h
      | some l =>
        rw [e, Option.bind_some] at h
        split at h
        · exact ⟨s, k, m0, a0, rfl, (Option.some.inj h).symm⟩
        · cases h
theorem behind_gone {L : List (Str × Int)} {id r : Int} {o : Option RowSt} {y : RowSt} (h : behind L (.gone id r) o = some y) : y = .tb := by
  cases o with
  | none => cases h
  | some o =>
    cases o with
    | tb => cases h
    | at_ s k m0 a0 =>
      have h : (L.lookup s).bind _ = _ := h
      cases e : L.lookup s with
      | none => rw [e] at h; cases h
      | some l =>
        rw [e, Option.bind_some] at h
        split at h
        · exact (Option.some.inj h).symm
        · cases h
def spPut : Sp := fun vs H Q _ => ∃ (ds e : Addr) (L : List (Str × Int)) (S : Kn) (n : Nat) (x : Ent) (y : RowSt), vs = [.ref ds, .ref e] ∧ StAt H ds S n ∧ n ≤ 900 ∧ EntAt H e x ∧ behind L x (S x.id) = some y ∧
  ∀ H', StAt H' ds (setK S x.id y) (n + 1) → (∀ c o, H c = some o → c ≠ ds → H' c = some o) → Q .non H'
/-- the latest arrival -/
def lastA : List Ent → Option Int → Option Int
  | [], l => l
  | x :: r, _ => lastA r (some x.arr)
theorem lastA_snoc : ∀ (xs : List Ent) (x : Ent) (l : Option Int), lastA (xs ++ [x]) l = some x.arr
  | [], _, _ => rfl
  | _ :: r, x, _ => lastA_snoc r x _
theorem wk_app {L : List (Str × Int)} {S1 : Kn} (rest : List (Option Ent)) : ∀ {xs : List Ent} {i : Nat} {S : Kn} {l : Option Int}, wk L (xs.map some) i S l = (none, S1) → wk L (xs.map some ++ rest) i S l = wk L rest (i + xs.length) S1 (lastA xs l)
  | [], i, S, l, h => by
    have h : ((none : Option Nat), S) = (none, S1) := h
    cases h
    rfl
  | x :: r, i, S, l, h => by
    have h : wk L (some x :: r.map some) i S l = (none, S1) := h
    show wk L (some x :: (r.map some ++ rest)) i S l = _
    by_cases c : late? l x.arr = true
    · rw [wk_late c] at h
      cases h
    · have c0 : late? l x.arr = false := Bool.eq_false_iff.mpr c
      cases hb : behind L x (S x.id) with
      | none =>
        rw [wk_bad c0 hb] at h
        cases h
      | some z =>
        rw [wk_go c0 hb] at h ⊢
        rw [wk_app rest h]
        show wk L rest (i + 1 + r.length) S1 _ = wk L rest (i + (r.length + 1)) S1 _
        rw [show i + 1 + r.length = i + (r.length + 1) by omega]
        rfl
/-- what is left of the heap when the pool and the states have changed -/
structure Pd (H0 H : Hp) (p s ds : Addr) : Prop where
  now : PoolAt H p s
  op : H0 p ≠ none
  os : H0 s ≠ none
  but : ∀ b o, H0 b = some o → b ≠ p → b ≠ ds → H b = some o
theorem Pd.pl {H0 H H1 : Hp} {p s ds : Addr} (a : Pd H0 H p s ds) (b : Pl H H1 p s) : Pd H0 H1 p s ds := ⟨b.now, a.op, a.os, fun c o h n1 n2 => b.keep (a.but c o h n1 n2) n1⟩
theorem Pd.chg {H0 H H1 : Hp} {p s ds : Addr} {kvs : List (Key × V)} (a : Pd H0 H p s ds) (hd : H ds = some (.dK kvs)) (k : ∀ c o, H c = some o → c ≠ ds → H1 c = some o) : Pd H0 H1 p s ds := by
  refine ⟨?_, a.op, a.os, fun c o h n1 n2 => k _ _ (a.but c o h n1 n2) n2⟩
  obtain ⟨ns, i, c, kk, n, h1, h2, h3, h4⟩ := a.now
  exact ⟨ns, i, c, kk, n, k _ _ h1 (ne_of h1 hd (by intro z; cases z)), k _ _ h2 (ne_of h2 hd (by intro z; cases z)), h3, h4⟩
theorem Pd.at {H0 H : Hp} {p s ds q : Addr} {o : HO} (a : Pd H0 H p s ds) (hq : H0 q = none) : Pd H0 (upd H q o) p s ds :=
  ⟨a.now.off (fun z => a.op (z ▸ hq)) (fun z => a.os (z ▸ hq)), a.op, a.os, fun c o h n1 n2 => by rw [upd_ne (ne_of_none h hq)]; exact a.but c o h n1 n2⟩
theorem Pd.free {H0 H : Hp} {p s ds q : Addr} (a : Pd H0 H p s ds) (hd : H ds ≠ none) (hq : H q = none) : H0 q = none := by
  cases e : H0 q with
  | none => rfl
  | some u =>
    by_cases h1 : q = p
    · exact absurd (h1 ▸ hq) a.now.ne.1
    · by_cases h2 : q = ds
      · exact absurd (h2 ▸ hq) hd
      · rw [a.but q u e h1 h2] at hq
        cases hq
theorem Ents.snoc {H : Hp} {us : List V} {xs : List Ent} {e : Addr} {x : Ent} (h : Ents H us xs) (he : EntAt H e x) (hok : x.ok) : Ents H (us ++ [.ref e]) (xs ++ [x]) := by
  refine ⟨by rw [List.length_append, List.length_append, h.1]; rfl, fun i v y a b => ?_⟩
  by_cases hi : i < us.length
  · rw [List.getElem?_append_left hi] at a
    rw [List.getElem?_append_left (by rw [← h.1]; exact hi)] at b
    exact h.2 i v y a b
  · have hi' : i = us.length := by
      have := (List.getElem?_eq_some_iff.mp a).1
      rw [List.length_append] at this
      have : i < us.length + 1 := this
      omega
    subst hi'
    rw [List.getElem?_append_right (Nat.le_refl _), Nat.sub_self] at a
    rw [h.1, List.getElem?_append_right (Nat.le_refl _), Nat.sub_self] at b
    cases a
    cases b
    exact ⟨e, rfl, he, hok⟩
def spEntries : Sp := fun vs H Q _ => ∃ (p s dl dk ds : Addr) (L : List (Str × Int)) (ks : List Str) (S0 : Kn) (n0 : Nat) (number arrival many : Int), vs = [.ref p, .ref dl, .ref dk, .ref ds, .int number, .int arrival, .int many] ∧ Draw H p s dl dk ds L ks S0 ∧ StAt H ds S0 n0 ∧ 0 ≤ many ∧ many ≤ 100 ∧ (n0 : Int) + many ≤ 500 ∧
  0 ≤ number ∧ (∀ id, S0 id ≠ none → id < number) ∧ ds ≠ dl ∧
  ∀ (q : Addr) us xs S1 H', H q = none → H' q = some (.lst us) → Ents H' us xs → (xs.length : Int) = many → (∀ l, (∀ t, l = some t → t ≤ arrival) → ∀ i, wk L (xs.map some) i S0 l = (none, S1)) → (∀ x ∈ xs, arrival ≤ x.arr) →
    StAt H' ds S1 (n0 + xs.length) → KnOk L S1 → (∀ id, S1 id ≠ none → 0 ≤ id ∧ id < number + 3 * many) → Pd H H' p s ds → Q (.ref q) H'
section
variable {P : Program} {w : World} {K : PySem.W.Frag} {mg : Str → Option Value} {base : Heap}
abbrev s_l_put : Stmt := topS 38
theorem sc_l_put : FnScope ["_law_states", "_law_entry_here", "_law_old"] ["_law_states", "_law_entry_here"] (defScope s_l_put) := ⟨rfl, rfl, rfl, by decide +kernel, rfl, by decide +kernel, by decide +kernel⟩
theorem ok_put {f : Addr} {fd : FuncData} (F : Fun K "_law_put" "_law_put" s_l_put f fd) (B : Blt mg) : FnOk P w K mg base CX0 1 f fd ["_law_states", "_law_entry_here"] spPut := by
  refine F.ok sc_l_put (fun vs H Q E h => ?_) (fun cdv A outer s H vs Q E hr h => ?_)
  · obtain ⟨ds, e, L, S, n, x, y, rfl, _⟩ := h
    rfl
  · obtain ⟨ds, e, L, S, n, x, y, rfl, hst, hn, hx, hb, q⟩ := h
    have hu := hu_of hr
    obtain ⟨kvs, h1, h2, h3, h4⟩ := id hst
    refine ⟨_, (pss_one (ps_if (pt_cmpR op_eq (pe_ix ix_tup (pv 1) pe_int (fun _ _ => rfl)) pe_str (nomark _))
      (pss_one (ps_dput hu (pv 0) (pe_ix ix_tup (pv 1) pe_int (fun _ _ => rfl)) (pe_tup (pa_cons (pe_ix ix_tup (pv 1) pe_int (fun _ _ => rfl)) (pa_cons (pe_ix ix_tup (pv 1) pe_int (fun _ _ => rfl)) (pa_cons (pe_ix ix_tup (pv 1) pe_int (fun _ _ => rfl)) (pa_cons (pe_ix ix_tup (pv 1) pe_int (fun _ _ => rfl)) pa_nil))))) rfl))
      (pss_one (ps_if (pt_cmpR op_eq (pe_ix ix_tup (pv 1) pe_int (fun _ _ => rfl)) pe_str (nomark _))
        (pss_cons (ps_set (i := 2) sc_l_put.nd rfl (Or.inl rfl) (pe_dget hu (pv 0) (pe_ix ix_tup (pv 1) pe_int (fun _ _ => rfl)) (fun _ _ => rfl)))
        (pss_one (ps_dput hu (pv 0) (pe_ix ix_tup (pv 1) pe_int (fun _ _ => rfl)) (pe_tup (pa_cons (pe_ix ix_tup (pv 2) pe_int (fun _ _ => rfl)) (pa_cons (pe_ix ix_tup (pv 2) pe_int (fun _ _ => rfl)) (pa_cons (pe_ix ix_tup (pv 1) pe_int (fun _ _ => rfl)) (pa_cons (pe_ix ix_tup (pv 1) pe_int (fun _ _ => rfl)) pa_nil))))) rfl)))
        (pss_one (ps_dput hu (pv 0) (pe_ix ix_tup (pv 1) pe_int (fun _ _ => rfl)) pe_non rfl)))))), ?_⟩
    cases x with
    | row id z k m a r =>
      obtain rfl := behind_row hb
      refine ⟨_, rfl, _, _, _, _, rfl, rfl, SqT.of hx, rfl, rfl, _, rfl, iteT ?_⟩
      refine ⟨_, rfl, _, _, _, _, rfl, rfl, SqT.of hx, rfl, _, rfl, _, _, _, _, rfl, rfl, SqT.of hx, rfl, _, rfl, _, _, _, _, rfl, rfl, SqT.of hx, rfl, _, rfl, _, _, _, _, rfl, rfl, SqT.of hx, rfl, (by show 4 ≤ sizeLine; decide), fun t ht => ?_⟩
      have s1 := sameAt (Same.refl H) ht (o := .tup [.str z, .str k, .int m, .int a])
      have hx1 : EntAt (upd H t (.tup [.str z, .str k, .int m, .int a])) e (.row id z k m a r) := s1 _ _ hx
      refine ⟨_, rfl, _, rfl, _, _, _, _, rfl, rfl, SqT.of hx1, rfl, ds, _, rfl, DPut.k (k := Sum.inl id) (s1 _ _ h1) (small1000 (by omega)), ?_⟩
      exact q _ (StAt.put h1 h2 h3 h4 s1 ⟨t, rfl, upd_same⟩) fun c o hc hn => by rw [upd_ne hn]; exact s1 _ _ hc
    | fix id m a r =>
      obtain ⟨z, k, m0, a0, eS, rfl⟩ := behind_fix hb
      have sv := h4 id
      have eS : S id = some (.at_ z k m0 a0) := eS
      rw [eS] at sv
      obtain ⟨v, hv⟩ : ∃ v, valV kvs (Sum.inl id) = some v := by
        cases e : valV kvs (Sum.inl id : Key) with
        | none => rw [e] at sv; exact absurd sv (fun z => z)
        | some v => exact ⟨v, rfl⟩
      rw [hv] at sv
      obtain ⟨t0, rfl, ht0⟩ := sv
      have hg := DGet.k (k := Sum.inl id) h1
      rw [hv] at hg
      refine ⟨_, rfl, _, _, _, _, rfl, rfl, SqT.of hx, rfl, rfl, _, rfl, iteF ?_⟩
      refine ⟨_, rfl, _, _, _, _, rfl, rfl, SqT.of hx, rfl, rfl, _, rfl, iteT ?_⟩
      refine ⟨_, rfl, _, rfl, _, _, _, _, rfl, rfl, SqT.of hx, rfl, ds, _, rfl, hg, ?_⟩
      refine ⟨_, rfl, _, _, _, _, rfl, rfl, SqT.of ht0, rfl, _, rfl, _, _, _, _, rfl, rfl, SqT.of ht0, rfl, _, rfl, _, _, _, _, rfl, rfl, SqT.of hx, rfl, _, rfl, _, _, _, _, rfl, rfl, SqT.of hx, rfl, (by show 4 ≤ sizeLine; decide), fun t ht => ?_⟩
      have s1 := sameAt (Same.refl H) ht (o := .tup [.str z, .str k, .int m, .int a])
      have hx1 : EntAt (upd H t (.tup [.str z, .str k, .int m, .int a])) e (.fix id m a r) := s1 _ _ hx
      refine ⟨_, rfl, _, rfl, _, _, _, _, rfl, rfl, SqT.of hx1, rfl, ds, _, rfl, DPut.k (k := Sum.inl id) (s1 _ _ h1) (small1000 (by omega)), ?_⟩
      exact q _ (StAt.put h1 h2 h3 h4 s1 ⟨t, rfl, upd_same⟩) fun c o hc hn => by rw [upd_ne hn]; exact s1 _ _ hc
    | gone id r =>
      obtain rfl := behind_gone hb
      refine ⟨_, rfl, _, _, _, _, rfl, rfl, SqT.of hx, rfl, rfl, _, rfl, iteF ?_⟩
      refine ⟨_, rfl, _, _, _, _, rfl, rfl, SqT.of hx, rfl, rfl, _, rfl, iteF ?_⟩
      refine ⟨_, rfl, _, rfl, _, _, _, _, rfl, rfl, SqT.of hx, rfl, ds, _, rfl, DPut.k (k := Sum.inl id) h1 (small1000 (by omega)), ?_⟩
      exact q _ (StAt.put h1 h2 h3 h4 (Same.refl H) rfl) fun c o hc hn => by rw [upd_ne hn]; exact hc
structure G4 (P : Program) (w : World) (K : PySem.W.Frag) (mg : Str → Option Value) (base : Heap) : Prop extends G3 P w K mg base where
  law_entry : Cal P w K mg base CX0 "_law_entry" 3 ["_law_pool_here", "_law_lates_here", "_law_keys", "_law_states", "_law_number", "_law_arrival"] spEntry
  law_put : Cal P w K mg base CX0 "_law_put" 1 ["_law_states", "_law_entry_here"] spPut
abbrev s_l_entries : Stmt := topS 39
theorem sc_l_entries : FnScope ["_law_pool_here", "_law_lates_here", "_law_keys", "_law_states", "_law_number", "_law_arrival", "_law_many", "_law_entries_here", "_law_k", "_law_entry_here"] ["_law_pool_here", "_law_lates_here", "_law_keys", "_law_states", "_law_number", "_law_arrival", "_law_many"] (defScope s_l_entries) := ⟨rfl, rfl, rfl, by decide +kernel, rfl, by decide +kernel, by decide +kernel⟩
theorem ok_entries {f : Addr} {fd : FuncData} (F : Fun K "_law_entries" "_law_entries" s_l_entries f fd) (B : Blt mg) (G : G4 P w K mg base) : FnOk P w K mg base CX0 4 f fd ["_law_pool_here", "_law_lates_here", "_law_keys", "_law_states", "_law_number", "_law_arrival", "_law_many"] spEntries := by
  refine F.ok sc_l_entries (fun vs H Q E h => ?_) (fun cdv A outer s H vs Q E hr h => ?_)
  · obtain ⟨p, s, dl, dk, ds, L, ks, S, n0, number, arrival, many, rfl, _⟩ := h
    rfl
  · obtain ⟨p, s0, dl, dk, ds, L, ks, S0, n0, number, arrival, many, rfl, D, hst, hm0, hm1, hm5, hn0, hids, hdd, q⟩ := h
    refine ⟨_, (pss_cons (ps_set (i := 7) sc_l_entries.nd rfl (Or.inl rfl) (pe_lst pa_nil))
    (pss_cons (ps_for PassesOwn.never rfl (pi_range1 (by rfl) B.range (pa_cons (pv 6) pa_nil)) (pg_name (i := 8) sc_l_entries.nd rfl (Or.inl rfl))
      (pss_cons (ps_set (i := 5) sc_l_entries.nd rfl (Or.inl rfl) (pe_op op_add (pv 5) (pe_ix ix_list (pe_lst (pa_cons pe_int (pa_cons pe_int (pa_cons pe_int (pa_cons pe_int (pa_cons pe_int (pa_cons pe_int (pa_cons pe_int (pa_cons (pe_cal G.law_draw (hr.mono (by decide)) pass0 (pa_cons (pv 0) (pa_cons (pe_op op_pow pe_int pe_int) pa_nil))) pa_nil))))))))) (pe_cal G.law_draw (hr.mono (by decide)) pass0 (pa_cons (pv 0) (pa_cons pe_int pa_nil))) (fun _ _ => rfl))))
      (pss_cons (ps_set (i := 9) sc_l_entries.nd rfl (Or.inl rfl) (pe_cal G.law_entry (hr.mono (by decide)) pass0 (pa_cons (pv 0) (pa_cons (pv 1) (pa_cons (pv 2) (pa_cons (pv 3) (pa_cons (pe_op op_add (pe_op op_add (pv 4) (pe_op op_mul pe_int (pv 8))) (pe_cal G.law_draw (hr.mono (by decide)) pass0 (pa_cons (pv 0) (pa_cons pe_int pa_nil)))) (pa_cons (pv 5) pa_nil))))))))
      (pss_cons (ps_expr (pe_cal G.law_put (hr.mono (by decide)) pass0 (pa_cons (pv 3) (pa_cons (pv 9) pa_nil))))
      (pss_one (ps_expr (pe_bm PySem.F.plainAttrs_list PySem.F.slot_list_append PySem.F.type_list_append mt_append (pv 7) (pa_cons (pv 9) pa_nil))))))))
    (pss_one (ps_ret (pv 7))))), ?_⟩
    refine ⟨(by show 0 ≤ sizeLine; decide), fun q0 hq0 => ?_⟩
    have PD0 : Pd H (upd H q0 (.lst [])) p s0 ds := (⟨D.pool, D.pool.ne.1, D.pool.ne.2, fun b o h _ _ => h⟩ : Pd H H p s0 ds).at hq0
    refine ⟨_, rfl, _, rfl, (by omega), (by omega), for_range (n := many.toNat) (fun k σ H1 => ∃ (us : List V) (xs : List Ent) (S : Kn) (ar : Int), (∃ a b, σ = [some (.ref p), some (.ref dl), some (.ref dk), some (.ref ds), some (.int number), some (.int ar), some (.int many), some (.ref q0), a, b]) ∧ H1 q0 = some (.lst us) ∧ Ents H1 us xs ∧ xs.length = k ∧
      (∀ l, (∀ t, l = some t → t ≤ arrival) → (∀ i, wk L (xs.map some) i S0 l = (none, S)) ∧ ∀ t, lastA xs l = some t → t ≤ ar) ∧ arrival ≤ ar ∧ (∀ x ∈ xs, arrival ≤ x.arr) ∧ StAt H1 ds S (n0 + k) ∧ KnOk L S ∧ (∀ id, S id ≠ none → 0 ≤ id ∧ id < number + 3 * (k : Int)) ∧ Pd H H1 p s0 ds) ?_ ?_ ?_⟩
    · refine ⟨[], [], S0, arrival, ⟨_, _, rfl⟩, upd_same, ⟨rfl, fun i v x a b => by simp at a⟩, rfl, fun l hl => ⟨fun i => rfl, hl⟩, Int.le_refl _, (fun x hx => nomatch hx), hst.same (sameAt (Same.refl H) hq0), D.ok, (fun id h => ⟨D.pos id h, by have := hids id h; omega⟩), PD0⟩
    · rintro k σ H1 hk ⟨us, xs, S, ar, ⟨a, b, rfl⟩, hq1, hE, hlen, hwk, har, harr, hst1, hok, hpos, PD⟩
      have hqp : q0 ≠ p := fun z => D.pool.ne.1 (z ▸ hq0)
      obtain ⟨kvs0, hst0, _⟩ := id hst
      have hqd : q0 ≠ ds := fun z => by rw [z, hst0] at hq0; cases hq0
      obtain ⟨ns, i1, c1, k1, m1, hp1, _⟩ := id D.pool
      have dlp : dl ≠ p := ne_of D.dl hp1 (by intro z; cases z)
      have dkp : dk ≠ p := ne_of D.dk hp1 (strs_ne (ns := ns))
      have dkd : dk ≠ ds := ne_of D.dk hst0 (by intro z; cases z)
      obtain ⟨kvs1, hst1', _⟩ := id hst1
      -- arrival
      refine ⟨_, rfl, _, rfl, _, _, rfl, rfl, ⟨by decide, by decide, by decide⟩, p, s0, _, rfl, PD.now, (by decide), (by decide), fun v H2 v0 v1 P2 => ⟨(by show 8 ≤ sizeLine; decide), fun u hu2 => ?_⟩⟩
      have v1 : v < 1000000 := v1
      have PD2 := PD.pl P2
      have hd2 := P2.dk PD.now hst1'
      have hu0 : H u = none := PD2.free (by rw [hd2]; exact fun z => nomatch z) hu2
      have PD3 : Pd H (upd H2 u (.lst [V.int 0, V.int 0, V.int 1, V.int 1, V.int 2, V.int 3, V.int 7, V.int v])) p s0 ds := PD2.at hu0
      have hup : u ≠ p := fun z => D.pool.ne.1 (z ▸ hu0)
      have hud : u ≠ ds := fun z => by rw [z, hst0] at hu0; cases hu0
      refine ⟨_, rfl, p, s0, 8, rfl, PD3.now, (by decide), (by decide), fun g H4 g0 g1 P4 => ?_⟩
      obtain ⟨inc, hinc, inc0⟩ : ∃ inc : Int, atI ([V.int 0, V.int 0, V.int 1, V.int 1, V.int 2, V.int 3, V.int 7, V.int v]) g = some (V.int inc) ∧ 0 ≤ inc := by
        have : g = 0 ∨ g = 1 ∨ g = 2 ∨ g = 3 ∨ g = 4 ∨ g = 5 ∨ g = 6 ∨ g = 7 := by omega
        rcases this with rfl | rfl | rfl | rfl | rfl | rfl | rfl | rfl
        · exact ⟨0, rfl, by omega⟩
        · exact ⟨0, rfl, by omega⟩
        · exact ⟨1, rfl, by omega⟩
        · exact ⟨1, rfl, by omega⟩
        · exact ⟨2, rfl, by omega⟩
        · exact ⟨3, rfl, by omega⟩
        · exact ⟨7, rfl, by omega⟩
        · exact ⟨v, rfl, v0⟩
      have PD4 := PD3.pl P4
      refine ⟨_, _, _, V.int inc, rfl, rfl, SqL.of (P4.keep upd_same hup), hinc, _, _, rfl, rfl, ?_⟩
      -- entry
      refine ⟨_, rfl, _, rfl, _, rfl, _, rfl, _, rfl, _, rfl, _, _, rfl, rfl, .inl ⟨by decide, by decide⟩, _, _, rfl, rfl, _, rfl, p, s0, 3, rfl, PD4.now, (by decide), (by decide), fun g3 H5 g30 g33 P5 => ⟨_, _, rfl, rfl, _, rfl, ?_⟩⟩
      have PD5 := PD4.pl P5
      have tk15 : TK H1 H5 := (((P2.tk PD.now).trans (tk_same (sameAt (Same.refl H2) hu2))).trans (P4.tk PD3.now)).trans (P5.tk PD4.now)
      have st5 : StAt H5 ds S (n0 + k) := ((((hst1.pl PD.now P2).same (sameAt (Same.refl H2) hu2)).pl PD3.now P4).pl PD4.now P5)
      have D5 : Draw H5 p s0 dl dk ds L ks S := ⟨PD5.now, PD5.but _ _ D.dl dlp (Ne.symm hdd), D.LL, PD5.but _ _ D.dk dkp dkd, D.k1, D.k2, D.kn, by
        obtain ⟨kk, a1, a2, a3, a4⟩ := st5
        exact ⟨kk, a1, by omega, a3, a4⟩, hok, fun id h => (hpos id h).1⟩
      refine ⟨p, s0, dl, dk, ds, L, ks, S, _, _, rfl, D5, (by omega), ?_, fun e x y H6 he hxok _ hxarr hbh hid P6 => ?_⟩
      · cases eS : S (number + 3 * (0 + (k : Int)) + g3) with
        | none => rfl
        | some r =>
          have := (hpos _ (by rw [eS]; exact fun z => nomatch z)).2
          omega
      have PD6 := PD5.pl P6
      have st6 := st5.pl PD5.now P6
      obtain ⟨kvs6, hd6, _⟩ := id st6
      refine ⟨_, rfl, _, rfl, ds, e, L, S, n0 + k, x, y, rfl, st6, (by omega), he, hbh, fun H7 st7 k7 => ?_⟩
      have PD7 := PD6.chg hd6 k7
      have tk67 : TK H6 H7 := fun t zs h => k7 _ _ h (ne_of h hd6 (by intro z; cases z))
      have keepq : H7 q0 = some (.lst us) := by
        have a2 := P2.keep hq1 hqp
        have a3 : (upd H2 u (.lst [V.int 0, V.int 0, V.int 1, V.int 1, V.int 2, V.int 3, V.int 7, V.int v])) q0 = some (.lst us) := by rw [upd_ne (ne_of_none a2 hu2)]; exact a2
        exact k7 _ _ (P6.keep (P5.keep (P4.keep a3 hqp) hqp) hqp) hqd
      refine ⟨_, rfl, .inl ⟨rfl, _, SqL.of keepq⟩, _, rfl, q0, us, _, rfl, rfl, keepq, (by rw [hE.1]; exact small1000 (by omega)), ?_⟩
      have tk78 : TK H7 (upd H7 q0 (.lst (us ++ [.ref e]))) := tk_off keepq (fun xs z => by cases z)
      have tkAll := ((tk15.trans (P6.tk PD5.now)).trans tk67).trans tk78
      refine ⟨us ++ [.ref e], xs ++ [x], setK S x.id y, ar + inc, ⟨_, _, rfl⟩, upd_same, (hE.tk tkAll).snoc ((tk67.trans tk78) _ _ he) hxok, by rw [List.length_append, hlen]; rfl, fun l hl => ⟨fun i => ?_, fun t ht => ?_⟩, by omega, fun z hz => ?_, ?_, ?_, fun id hid' => ?_, PD7.at hq0⟩
      · rw [List.map_append]
        show wk L (xs.map some ++ [some x]) i S0 l = _
        rw [wk_app [some x] ((hwk l hl).1 i)]
        have hlt : late? (lastA xs l) x.arr = false := by
          cases e : lastA xs l with
          | none => rfl
          | some t =>
            have := (hwk l hl).2 t e
            exact decide_eq_false (by omega)
        rw [wk_go hlt hbh]
        rfl
      · rw [lastA_snoc] at ht
        cases ht
        omega
      · rcases List.mem_append.mp hz with hz | hz
        · exact harr z hz
        · rw [List.mem_singleton.mp hz]
          omega
      · obtain ⟨kk, a1, a2, a3, a4⟩ := st7
        exact ⟨kk, by rw [upd_ne (Ne.symm hqd)]; exact a1, by omega, a3, fun id => (a4 id).but tk78⟩
      · intro id z1 kk m a' he'
        have he' : (if id = x.id then some y else S id) = some (.at_ z1 kk m a') := he'
        by_cases ej : id = x.id
        · rw [if_pos ej] at he'
          exact behind_ok hxok (hok x.id) hbh _ _ _ _ (Option.some.inj he')
        · rw [if_neg ej] at he'
          exact hok id _ _ _ _ he'
      · have hid' : (if id = x.id then some y else S id) ≠ none := hid'
        by_cases ej : id = x.id
        · have hx0 : 0 ≤ x.id := hxok.1
          rw [ej]
          refine ⟨hx0, ?_⟩
          rcases hid with h | h
          · omega
          · have := (hpos _ h).2
            omega
        · rw [if_neg ej] at hid'
          have := hpos _ hid'
          omega
    · rintro σ H1 ⟨us, xs, S, ar, ⟨a, b, rfl⟩, hq1, hE, hlen, hwk, har, harr, hst1, hok, hpos, PD⟩
      refine ⟨_, rfl, q q0 us xs S H1 hq0 hq1 hE (by omega) (fun l hl => (hwk l hl).1) harr (by rw [hlen]; exact hst1) hok (fun id h => ⟨(hpos id h).1, by have := (hpos id h).2; omega⟩) PD⟩
end
end Ash

set_option Elab.async false
set_option linter.all false
set_option maxRecDepth 100000
set_option maxHeartbeats 4000000
namespace Ash
open PySem PySem.Spec PyProof.Rows L2
open C8 (pss_cut)
def spJLen (K : PySem.W.Frag) (aT CJ CB : Addr) : Sp := fun vs H Q _ => ∃ (j b : Addr) (L : List (Str × Int)) (us : List V) (xs : List Ent), vs = [.ref j] ∧ JAt K aT CJ CB H j b L us xs ∧ Q (.int us.length) H
section
variable {P : Program} {w : World} {K : PySem.W.Frag} {mg : Str → Option Value} {base : Heap}
abbrev s_Journal_len : Stmt := inClass (topS 30) 2
theorem sc_Journal_len : FnScope ["self"] ["self"] (defScope s_Journal_len) := ⟨rfl, rfl, rfl, by decide +kernel, rfl, by decide +kernel, by decide +kernel⟩
theorem ok_jlen {f CJ CB aT : Addr} {fd : FuncData} (F : Fun K "__len__" "Journal.__len__" s_Journal_len f fd) (B : Blt mg) (T : Cj P K mg CJ CB) : FnOk P w K mg base CX0 1 f fd ["self"] (spJLen K aT CJ CB) := by
  refine F.ok sc_Journal_len (fun vs H Q E h => ?_) (fun cdv A outer s H vs Q E hr h => ?_)
  · obtain ⟨j, b, L, us, xs, rfl, _⟩ := h
    rfl
  · obtain ⟨j, b, L, us, xs, rfl, hJ, q⟩ := h
    refine ⟨_, (pss_one (ps_ret (pe_callB call_len_seq (by rfl) B.len (by decide +kernel) (pa_cons (pe_fld (pv 0) rfl) pa_nil)))), ?_⟩
    obtain ⟨dx, t, kd, h1, h2, h3, hl, h5, h6, h7⟩ := id hJ
    exact ⟨_, rfl, j, CJ, dx, _, _, rfl, h1, T.cl, T.nE, jf_e _ _ _, t, us, rfl, .inr h3, q⟩
end
end Ash

set_option Elab.async false
set_option linter.all false
set_option maxRecDepth 100000
set_option maxHeartbeats 4000000
namespace L2
open PySem PySem.Spec PyProof.Rows
section
variable {X : Cx} {C fI : Addr} {par fl : Str}
/-- n.f in the suite that caught an own error with the one field fl -/
def tByB (fl : Str) (C a : Addr) (cls : Value) (d : Option Addr) (te : TE) : TE := fun σ H Q => te σ H fun x H1 => x = .ref a ∧ cls = .ref C ∧ ∃ (dd : Addr) (v : V), d = some dd ∧ H1 dd = some (.xd [(fl, v)]) ∧ Q v H1
theorem pe_byB {a : Addr} {oe : Obj} {cls : Value} {d : Option Addr} {pn : List (Addr × Obj)} {e : Expr} {te : TE} {pos : Pos} (T : PySem.BadX.Txt X.prog X.K X.mg par fl C fI) (hz : Zc cls d oe) (hf : ∃ vs, oe.data = .fields vs) (he : PE (X.suite a ((a, oe) :: pn)) e te)
    (hb : attributeBase e fl X.env (eval e X.env) = eval e X.env := by rfl) :
    PE (X.suite a ((a, oe) :: pn)) (.Attribute e fl pos) (tByB fl C a cls d te) := by
  refine ⟨fun pins s σ H Q I h => ?_⟩
  refine attr_of hb (thn (he.run pins s σ H _ I h) fun u s1 hh => ?_)
  obtain ⟨x, H1, I1, rx, ex, ec, dd, v, ed, ea, q⟩ := hh
  subst ex
  obtain rfl : u = Value.ref a := rx
  subst ec
  subst ed
  obtain ⟨ha, _⟩ := I1.pin (a, oe) (List.mem_append_left _ List.mem_cons_self)
  obtain ⟨vs, hd⟩ := hf
  have hx : ObjOk X.prog X.w H1 s1.heap dd (.xd [(fl, v)]) := I1.hok dd _ ea
  obtain ⟨mA, hns, hr⟩ := hx
  obtain ⟨od, ho, hl⟩ := lookIn_ns hns
  have l : List.lookup fl [(fl, v)] = some v := by simp [List.lookup]
  obtain ⟨u, hu, ru⟩ := RelO.some_of (v := v) (o := mA fl) (by rw [← l]; exact hr fl)
  have J : PySem.W.InstAt s1.heap a oe C (some od) := ⟨ha, hz.1, by unfold PySem.W.notCls; rw [hd] <;> rfl, by rw [hz.2]; exact ho⟩
  exact HandSPX.exc_get I1.kIn J T.ga T.gg T.exC (PySem.W.findObj_own T.hdC T.noN rfl (by rw [hl, hu])) (handed_of ru) ⟨v, H1, I1.tok _, ru, q⟩
end
end L2
namespace Ash
open PySem PySem.Spec PyProof.Rows L2
open C8 (pss_cut)
/-- what is wanted of an exception at any n slots -/
def WEn (n : Nat) (W : WX) : XK := fun cls d H => ∀ σ : L2.St, σ.length = n → W cls d σ H
theorem passN {X : Cx} {W : WX} {n : Nat} (hn : X.N.length = n) (tk : Takes X W) : Passes (L2.CX X.prog X.w) X (WEn n W) := fun _ σ _ _ e s' I c => tk e s' (XE.of_call I (fun cls d H' h => h σ (I.len.trans hn)) c)
section
variable {X : Cx} {CX : CXT} {k : Nat} {ps : List Str} {sp : Sp} {E : XK} {o e : Expr} {es : List Expr} {ta : TE} {t : TA} {C : Addr} {m : Str} {apos pos : Pos}
theorem pe_met {pl : Sem Bool} (c : Cls X.K C) (G : Met X.prog X.w X.K X.mg X.base CX C m k ps sp) (hr : Room k X.A) (hx : Passes CX X E) (ho : PE X o ta) (ha : PA X (e :: es) t) 
    (he : starEach (e :: es) X.env = (false, eval e X.env) :: starEach es X.env := by rfl) (hpl : (backTo pos (starEach es X.env)).any (·.1) = false := by rfl)
    (ht : eval (.Call (.Attribute o m apos) (e :: es) [] pos) X.env = (do
      let ov ← eval o X.env
      standAt apos.atName
      let (f, first) ← holding [ov] (getMethod ov m pl)
      callWith pos f first (backTo pos (starEach (e :: es) X.env)) (backToKw pos (keywordEach [] X.env))) := by rfl) :
    PE X (.Call (.Attribute o m apos) (e :: es) [] pos) (tMeth C m sp [] E ta t) := by
  obtain ⟨f, fd, hm, hb, F⟩ := G.ex
  exact pe_meth ho c hm F hr hb .nil hx ha he hpl ht
end
section
variable {X : Cx} {CX : CXT} {k : Nat} {ps : List Str} {sp : Sp} {E : L2.St → XK} {o e : Expr} {es : List Expr} {ta : TE} {t : TA} {C : Addr} {m : Str} {apos pos : Pos}
/-- o.m(e, ..), what is raised being wished for at the caller's slots -/
def tMethS (C : Addr) (m : Str) (sp : Sp) (E : L2.St → XK) (ta : TE) (t : TA) : TE := fun σ H Q => ta σ H fun x H1 => ∃ a dx fs, x = .ref a ∧ H1 a = some (.ins C dx fs) ∧ fs.lookup m = none ∧ t σ H1 fun vs H2 => sp (x :: (vs ++ [])) H2 Q (E σ)
theorem pe_metS {pl : Sem Bool} (c : Cls X.K C) (G : Met X.prog X.w X.K X.mg X.base CX C m k ps sp) (hr : Room k X.A) (hx : ∀ σ, PassesAt CX X σ (E σ)) (ho : PE X o ta) (ha : PA X (e :: es) t) 
    (he : starEach (e :: es) X.env = (false, eval e X.env) :: starEach es X.env := by rfl) (hpl : (backTo pos (starEach es X.env)).any (·.1) = false := by rfl)
    (ht : eval (.Call (.Attribute o m apos) (e :: es) [] pos) X.env = (do
      let ov ← eval o X.env
      standAt apos.atName
      let (f, first) ← holding [ov] (getMethod ov m pl)
      callWith pos f first (backTo pos (starEach (e :: es) X.env)) (backToKw pos (keywordEach [] X.env))) := by rfl) :
    PE X (.Call (.Attribute o m apos) (e :: es) [] pos) (tMethS C m sp E ta t) := by
  obtain ⟨f, fd, hm, hb, F⟩ := G.ex
  refine ⟨fun pins s σ H Q I h => PySem.W.methodCall_KW (pl := pl) (thn (ho.run pins s σ H _ I h) fun u s1 ⟨x, H1, I1, rx, a, dx, fs, ex, ea, l, q⟩ => ?_) ht⟩
  cases ex
  cases (show u = Value.ref a from rx)
  refine getmeth_ok I1 ea c hm l (PySem.W.callWith_K (first := [.ref a]) (h₀ := X.base) I.ok.mod.kin hm.kp (thn (ha.run pos pins s1 σ H1 _ I1 q) fun us s2 ⟨vs, H2, I2, r, q2⟩ => ⟨I2.kIn, ?_⟩) he hpl)
  exact run_fnSD (us := .ref a :: us) (vs := .ref a :: vs) F hr hb .nil (hx σ) I2 (.cons rfl r) q2
theorem pe_metS0 {pl : Sem Bool} (c : Cls X.K C) (G : Met X.prog X.w X.K X.mg X.base CX C m k ps sp) (hr : Room k X.A) (hx : ∀ σ, PassesAt CX X σ (E σ)) (ho : PE X o ta)
    (ht : eval (.Call (.Attribute o m apos) [] [] pos) X.env = (do
      let ov ← eval o X.env
      standAt apos.atName
      let (f, first) ← holding [ov] (getMethod ov m pl)
      callWith pos f first (backTo pos (starEach [] X.env)) (backToKw pos (keywordEach [] X.env))) := by rfl) :
    PE X (.Call (.Attribute o m apos) [] [] pos) (tMethS C m sp E ta tNil) := by
  obtain ⟨f, fd, hm, hb, F⟩ := G.ex
  refine ⟨fun pins s σ H Q I h => PySem.W.methodCall_KW (pl := pl) (thn (ho.run pins s σ H _ I h) fun u s1 ⟨x, H1, I1, rx, a, dx, fs, ex, ea, l, q⟩ => ?_) ht⟩
  cases ex
  cases (show u = Value.ref a from rx)
  exact getmeth_ok I1 ea c hm l (PySem.W.callWith_K0 (first := [.ref a]) I1.kIn hm.kp (run_fnSD (us := [.ref a]) (vs := [.ref a]) F hr hb .nil (hx σ) I1 (.cons rfl .nil) q))
end
section
variable {X : Cx} {CX : CXT} {k : Nat} {ps : List Str} {sp : Sp} {E : XK} {o : Expr} {ta : TE} {C : Addr} {m : Str} {apos pos : Pos}
theorem pe_met0 {pl : Sem Bool} (c : Cls X.K C) (G : Met X.prog X.w X.K X.mg X.base CX C m k ps sp) (hr : Room k X.A) (hx : Passes CX X E) (ho : PE X o ta) 
    (ht : eval (.Call (.Attribute o m apos) [] [] pos) X.env = (do
      let ov ← eval o X.env
      standAt apos.atName
      let (f, first) ← holding [ov] (getMethod ov m pl)
      callWith pos f first (backTo pos (starEach [] X.env)) (backToKw pos (keywordEach [] X.env))) := by rfl) :
    PE X (.Call (.Attribute o m apos) [] [] pos) (tMeth C m sp [] E ta tNil) := by
  obtain ⟨f, fd, hm, hb, F⟩ := G.ex
  exact pe_meth0 ho c hm F hr hb .nil hx ht
end
section
variable {X : Cx} {CX : CXT} {k : Nat} {ps : List Str} {sp : Sp} {E : XK} {x : Str} {p pos : Pos} {e : Expr} {es : List Expr} {t : TA}
structure MakD (P : Program) (w : World) (K : PySem.W.Frag) (mg : Str → Option Value) (base : Heap) (CX : CXT) (x : Str) (C : Addr) (k : Nat) (ps : List Str) (dv : V) (sp : Sp) : Prop where
  ex : ∃ f fd u, Mk K C f ∧ mg x = some (.ref C) ∧ Binds K fd ps [u] ∧ RelV dv u ∧ FnOk P w K mg base CX k f fd ps sp
section
variable {X : Cx} {CX : CXT} {k j : Nat} {ps : List Str} {sp : Sp} {E : XK} {x : Str} {p pos : Pos} {e : Expr} {es : List Expr} {t : TA}
theorem pe_makD {C : Addr} {dv : V} (G : MakD X.prog X.w X.K X.mg X.base CX x C k ps dv sp) (hr : Room (k + 1) X.A) (hx : Passes CX X E) (ha : PA X (e :: es) t) (hg : Gl X x := by rfl)
    (hdb : (x == ("__debug__" : Str)) = false := by decide) (he : starEach (e :: es) X.env = (false, eval e X.env) :: starEach es X.env := by rfl) (hpl : (backTo pos (starEach es X.env)).any (·.1) = false := by rfl) :
    PE X (.Call (.Name x p) (e :: es) [] pos) (tMake C sp [dv] E t) := by
  obtain ⟨f, fd, u, M, hm, hb, hv, F⟩ := G.ex
  exact pe_make M F hr hg hm hb (.cons hv .nil) hx ha hdb he hpl
end
end
end Ash

set_option Elab.async false
set_option linter.all false
set_option maxRecDepth 100000
set_option maxHeartbeats 4000000
namespace L2
open PySem PySem.Spec PyProof.Rows
section
variable {X : Cx} {k : Nat} {CX : CXT} {f C : Addr} {fd : FuncData} {ps : List Str} {sp : Sp} {E : St → XK} {e : Expr} {es : List Expr} {x : Str} {t : TA} {pos p : Pos}
/-- C(..) at the slots of the place -/
theorem makAt {pins : List (Addr × Obj)} {σ : St} {H : Hp} {s : Shared} {Q : VK} {us : List Value} {vs : List V} (M : Mk X.K C f) (F : FnOk X.prog X.w X.K X.mg X.base CX k f fd ps sp) (hr : Room (k + 1) X.A) (hb : Binds X.K fd ps []) (hx : PassesAt CX X σ (E σ)) (I : Inv X pins σ H s) (r : Vals vs us)
    (h : ∀ y dx, H y = none → H dx = none → dx ≠ y → sp (.ref y :: vs) (upd (upd H dx (.own y)) y (.ins C dx [])) (fun v H2 => v = .non ∧ Q (.ref y) H2) (E σ)) : wpAny (model X.prog X.w) X.A (call (.ref C) us) (EP X pins σ Q) X.xe s := by
  have J := Inv.made (C := C) I
  have w := h (s.heap.objs.size + 1) s.heap.objs.size (I.hok.fresh (by omega)) (I.hok.fresh (Nat.le_refl s.heap.objs.size)) (Nat.ne_of_lt (Nat.lt_succ_self _))
  have rr : Vals (V.ref (s.heap.objs.size + 1) :: vs) (Value.ref (s.heap.objs.size + 1) :: us) := .cons rfl r
  have bd := hb _ (Value.ref (s.heap.objs.size + 1) :: us) J.kIn (by rw [List.append_nil, ← rr.length]; exact F.len _ _ _ _ w)
  rw [List.append_nil] at bd
  have run := F.run _ X.stack _ _ ⟨Value.ref (s.heap.objs.size + 1) :: us, []⟩ _ _ _ (E σ) (hr.make C us []) (J.env0.make C us []) bd rr w
  refine wpAny_call (make_map (f := f) I.kIn M.makes M.init (beq_iff_eq.mp M.fn) (codeAny_mono run fun g s2 hg => ?_))
  rcases g with e | fl
  · exact hx pins _ _ e s2 J hg
  · cases fl with
    | ret u =>
      obtain ⟨v, H3, I3, rv, ev, q3⟩ := J.after hg
      subst ev
      exact ⟨rv, V.ref (s.heap.objs.size + 1), H3, I3, rfl, q3⟩
    | _ => exact hg.elim
def tMakS (C : Addr) (sp : Sp) (E : St → XK) (t : TA) : TE := fun σ H Q => t σ H fun vs H1 => ∀ y dx, H1 y = none → H1 dx = none → dx ≠ y →
  sp (.ref y :: vs) (upd (upd H1 dx (.own y)) y (.ins C dx [])) (fun v H2 => v = .non ∧ Q (.ref y) H2) (E σ)
theorem makS (M : Mk X.K C f) (F : FnOk X.prog X.w X.K X.mg X.base CX k f fd ps sp) (hr : Room (k + 1) X.A) (hg : Gl X x) (hm : X.mg x = some (.ref C)) (hb : Binds X.K fd ps []) (hx : ∀ σ, PassesAt CX X σ (E σ))
    (ha : PA X (e :: es) t) (hdb : (x == ("__debug__" : Str)) = false := by decide) (he : starEach (e :: es) X.env = (false, eval e X.env) :: starEach es X.env := by rfl) (hpl : (backTo pos (starEach es X.env)).any (·.1) = false := by rfl) :
    PE X (.Call (.Name x p) (e :: es) [] pos) (tMakS C sp E t) := by
  refine ⟨fun pins s σ H Q I h => wpAny_Call_Name_kw (ld_glob I hg hm (PySem.W.callWith_K (h₀ := X.base) I.ok.mod.kin M.kp (thn (ha.run pos pins s σ H _ I h) fun us s1 ⟨vs, H1, I1, r, q⟩ => ⟨I1.kIn, ?_⟩) he hpl) hdb)⟩
  exact makAt M F hr hb (hx σ) I1 r q
end
/-- isinstance(n, c) in the suite that caught an own error with a field -/
def rIsB (K : PySem.W.Frag) (D a : Addr) (cls : Value) (d : Option Addr) : List V → Hp → VK → Prop := fun xs H Q => cls = .ref D ∧ ∃ (c : V) (cv : Value) (b : Bool) (dd : Addr) (fl : List (Str × V)), xs = [.ref a, c] ∧ d = some dd ∧ H dd = some (.xd fl) ∧ (∀ u, RelV c u → u = cv) ∧ PySem.W.kitOne K (.ref D) cv = some b ∧ Q (.bl b) H
theorem call_isB {X : Cx} {a D : Addr} {oe : Obj} {cls : Value} {d : Option Addr} {pn : List (Addr × Obj)} (C : ExcC X.K D) (hc : PySem.W.isClsIn X.K D = true) (hz : Zc cls d oe) (hf : ∃ vs, oe.data = .fields vs) : CallR (X.suite a ((a, oe) :: pn)) (.builtin "isinstance") (rIsB X.K D a cls d) := by
  intro pins s σ H xs us Q I r h
  obtain ⟨rfl, c, cv, b, dd, fl, rfl, rfl, ea, hcv, e, q⟩ := h
  obtain ⟨u1, u2, rfl, r1, r2⟩ := r.two
  cases r1
  have ec := hcv _ r2
  subst ec
  obtain ⟨ha, _⟩ := I.pin (a, oe) (List.mem_append_left _ List.mem_cons_self)
  obtain ⟨vs, hd⟩ := hf
  obtain ⟨mA, hns, _⟩ := (show ObjOk X.prog X.w H s.heap dd (.xd fl) from I.hok dd _ ea)
  obtain ⟨od, ho, _⟩ := lookIn_ns hns
  have J : PySem.W.InstAt s.heap a oe D (some od) := ⟨ha, hz.1, by unfold PySem.W.notCls; rw [hd] <;> rfl, by rw [hz.2]; exact ho⟩
  exact PySem.W.kia_one (PySem.W.kitx_exc hc C.hg C.hk C.hs C.ha C.hn C.ht C.hm) I.kIn J e (fun z => nomatch z) fun tk => ⟨.bl b, H, I.kept (t' := tk) fun _ _ z => z, rfl, q⟩
/-- two rules of one operator -/
theorem op_alt {X : Cx} {f : Value → Value → Sem Value} {r r' : R2} (h : OpR X f r) (h' : OpR X f r') : OpR X f (fun x y H Q => r x y H Q ∨ r' x y H Q) := by
  intro pins s σ H x y v u Q I rx ry q
  rcases q with q | q
  · exact h pins s σ H x y v u Q I rx ry q
  · exact h' pins s σ H x y v u Q I rx ry q
end L2
namespace Ash
open PySem PySem.Spec PyProof.Rows L2
section
variable {X : Cx} {CX : CXT} {k : Nat} {x : Str} {ps : List Str} {sp : Sp} {E : L2.St → XK} {e : Expr} {es : List Expr} {t : TA} {p pos : Pos}
theorem pe_makS {C : Addr} (G : Mak X.prog X.w X.K X.mg X.base CX x C k ps sp) (hr : Room (k + 1) X.A) (hx : ∀ σ, PassesAt CX X σ (E σ)) (ha : PA X (e :: es) t) (hg : Gl X x := by rfl)
    (hdb : (x == ("__debug__" : Str)) = false := by decide) (he : starEach (e :: es) X.env = (false, eval e X.env) :: starEach es X.env := by rfl) (hpl : (backTo pos (starEach es X.env)).any (·.1) = false := by rfl) :
    PE X (.Call (.Name x p) (e :: es) [] pos) (tMakS C sp E t) := by
  obtain ⟨f, fd, M, hm, hb, F⟩ := G.ex
  exact makS M F hr hg hm hb hx ha hdb he hpl
end
end Ash

set_option Elab.async false
set_option linter.all false
set_option maxRecDepth 100000
set_option maxHeartbeats 4000000
namespace L2
open PySem PySem.Spec PyProof.Rows
/-! ### several except clauses, each with a name or without -/
abbrev Clause := Value × Option Nat × (Addr → Value → Option Addr → TS)
/-- behind a suite its name is gone -/
def endAs (i : Nat) (D : Ends) : Ends := { nx := fun σ H => D.nx (σ.set i none) H, rt := D.rt, bk := fun σ H => D.bk (σ.set i none) H, ct := fun σ H => D.ct (σ.set i none) H }
def clGo (D : Ends) : Option Nat → (Addr → Value → Option Addr → TS) → WX
  | none, ts => fun cls d σ H => ∀ q, H q = none → ts q cls d D σ H
  | some i, ts => fun cls d σ H => ∀ q, H q = none → ts q cls d (endAs i D) (σ.set i (some (.ref q))) H
def wCls (K : PySem.W.Frag) (W0 : WX) (D : Ends) : List Clause → WX
  | [] => W0
  | (c, o, ts) :: r => fun cls d σ H => ∃ b, PySem.W.exmOne K cls c = some b ∧ (b = true → clGo D o ts cls d σ H) ∧ (b = false → wCls K W0 D r cls d σ H)
/-- the name of a clause -/
def ClName (X : Cx) : Option Str → Option Nat → Prop
  | none, none => True
  | some n, some i => X.N[i]? = some n ∧ X.env.kindOf n = some .local
  | _, _ => False
inductive ClsOk (X : Cx) : List ExceptHandler → List Clause → Prop
  | nil : ClsOk X [] []
  | cons {x : Str} {n : Option Str} {o : Option Nat} {c : Value} {ts : Addr → Value → Option Addr → TS} {b0 : Stmt} {su : List Stmt} {p1 p2 : Pos} {hs : List ExceptHandler} {l : List Clause} (hc : Names X x c) (hn : ClName X n o)
      (hsu : ∀ (q : Addr) (oe : Obj) (cls : Value) (d : Option Addr) (pn : List (Addr × Obj)), Zc cls d oe → (∃ vs, oe.data = .fields vs) → PSs (X.suite q ((q, oe) :: pn)) (b0 :: su) (ts q cls d)) (r : ClsOk X hs l) :
      ClsOk X (.ExceptHandler (some (.Name x p1)) n (b0 :: su) p2 :: hs) ((c, o, ts) :: l)
section
variable {X : Cx} {body : List Stmt} {h0 : ExceptHandler} {hs : List ExceptHandler} {l : List Clause} {pos : Pos} {tb : WX → TS} {W0 : WX}
theorem ps_try_cls (st : X.stack = X.env :: X.outer) (fr : X.env.frame = some X.env.locals) (nd : X.N.Nodup) (tk : Takes X W0)
    (hb : ∀ (W : WX) (pn : List (Addr × Obj)) (xe : Value → Shared → Prop), Takes (X.tr pn xe) W → PassesOwn (model X.prog X.w) X.A X.env xe → PSs (X.tr pn xe) body (tb W))
    (hh : ClsOk X (h0 :: hs) l) : PS X (.Try body (h0 :: hs) [] [] pos) (fun D σ H => tb (wCls X.K W0 D l) D σ H) := by
  refine ⟨fun pins s σ H D I h => ?_⟩
  have ok := I.ok
  have fA : X.A.frames = some (X.env :: X.outer) := by rw [ok.frames, st]
  refine wpAny_Try_except (wpAny_mono ((hb (wCls X.K W0 D l) (X.pn ++ pins) (fun e s1 => wpAny (model X.prog X.w) X.A (noteFrame e X.env) (fun _ s2 => wpAny (model X.prog X.w) X.A (setFlight e none) (fun _ s3 => wpAny (model X.prog X.w) X.A (handleBy e X.env (h0 :: hs)) (SP X pins D) X.xe s3) X.xe s2) X.xe s1)
    (fun u s' xx => ?_) PassesOwn.looking).run [] s σ H D (I.toTry _) h) (fun f s1 k => ?_) (fun _ _ he => he))
  · obtain ⟨q, M, t0, pins', τ, G, cls, d, rfl, J', nb, up, sky, nq, os, ag, w⟩ := xx
    have J : Inv X pins τ G t0 := J'.ofTry ok
    have sk : Sky M (X.env :: X.outer) q (Zc cls d) X.env.locals s'.heap := st ▸ sky
    refine (show wpAny (model X.prog X.w) X.A (noteFrame (.ref q) X.env) _ _ _ from Sky.land Zc.steady fA fr sk fun g3 f3 u3 => ?_)
    have J3 : Inv X pins τ G { s' with heap := g3 } := J.landed nb f3.1 (up.trans u3) os ag
    obtain ⟨oe3, vs3, he3, hz3, hd3⟩ := f3.there
    have off : ∀ {g : Heap} {o : Obj} {vs : Array Value}, g.FunFrames M (X.env :: X.outer) → g.get? q = some o → o.data = .fields vs → q ∉ frs (X.env :: X.outer) := fun {g o vs} ff e dd hm => by
      obtain ⟨_, o2, e2, hnf⟩ := ff.mem hm
      rw [e] at e2
      cases e2
      exact hnf _ dd
    have nfr := off f3.2.2.1 he3 hd3
    have nL : q ≠ X.env.locals := fun z => nfr (List.mem_filterMap.mpr ⟨X.env, List.mem_cons_self, fr.trans (congrArg some z.symm)⟩)
    have nF : q ∉ X.fs := fun hm => by
      obtain ⟨e, he, z⟩ := List.mem_filterMap.mp hm
      exact nfr (List.mem_filterMap.mpr ⟨e, List.mem_cons_of_mem _ he, z⟩)
    have S3 := J3.suite he3 hd3 nq nL nF
    have go : ∀ {ks : List ExceptHandler} {ls : List Clause}, ClsOk X ks ls → wCls X.K W0 D ls cls d τ G → wpAny (model X.prog X.w) X.A (handleBy (.ref q) X.env ks) (SP X pins D) X.xe { s' with heap := g3 } := by
      intro ks ls hk
      induction hk with
      | nil =>
        intro w
        refine wpAny_handleBy_nil ?_
        obtain ⟨_, _, _, oe, vs, T, oT, ts', he, hz, hd, h1, hr⟩ := id f3
        unfold PySem.passOn
        refine wpAny_bind (wpAny_field he hd h1 ?_)
        rw [if_neg (show ¬ ((Value.ref T == Value.none) = true) from Bool.false_ne_true)]
        have fin : wpAny (model X.prog X.w) X.A (setFlight (.ref q) X.env.frame) (fun _ s4 => wpAny (model X.prog X.w) X.A (throw (.ref q) : Sem Flow) (SP X pins D) X.xe s4) X.xe { s' with heap := g3 } := by
          rw [fr]
          exact HandSPX.setFlight_upZ f3 fun g4 k4 u4 => wpAny_throw (tk _ _ ⟨q, M, t0, pins, τ, G, cls, d, rfl, J, nb, (up.trans u3).trans u4, .inr (.inr (by rw [st]; exact k4)), nq, os, ag, w⟩)
        first
          | exact wpAny_bind (wpAny_pure (wpAny_bind fin))
          | exact wpAny_bind fin
      | @cons x n o c ts b0 su p1 p2 ks2 l2 hc hn hsu r ih =>
        intro w
        obtain ⟨b, b1, yes, no⟩ := w
        refine wpAny_handleBy_cons (codeAny_handlers_test ?_) (by intro z; cases z)
        have LM := PySem.W.exm_one (M := model X.prog X.w) (J3.kIn) (show PySem.W.Looks (model X.prog X.w) g3 (typeOf (.ref q)) cls from fun A Q E s k z => wpAny_typeOf_ref (k _ _ he3) (by rw [hz3.1]; exact z)) b1
        have test : ∀ {Q E : Value → Shared → Prop}, Q c { s' with heap := g3 } → wpAny (model X.prog X.w) (X.A.mark (some (.ref q))) (eval (.Name x p1) X.env) Q E { s' with heap := g3 } := fun {Q E} z => by
          obtain ⟨e1, e2, e3 | ⟨e3, e4, e5⟩⟩ := hc
          · exact ld_glob (X := X.suite q ((q, oe3) :: (X.pn ++ pins))) S3 e1 e3 z e2
          · exact ld_blt (X := X.suite q ((q, oe3) :: (X.pn ++ pins))) S3 e1 e3 e4 z e5 e2
        refine test (LM.here ?_)
        cases b with
        | false => exact (show wpAny _ X.A (handleBy (.ref q) X.env ks2) _ _ _ from ih (no rfl))
        | true =>
          have yes := yes rfl
          match n, o, hn with
          | none, none, _ =>
            refine codeAny_handlers_suite (HandSPX.lands_againZ f3 fun g4 f4 u4 => ?_)
            have J4 : Inv X pins τ G { s' with heap := g4 } := J.landed nb f4.1 ((up.trans u3).trans u4) os ag
            obtain ⟨oe4, vs4, he4, hz4, hd4⟩ := f4.there
            refine wpAny_mono ((hsu q oe4 cls d (X.pn ++ pins) hz4 ⟨_, hd4⟩).run [] _ _ G _ (J4.suite he4 hd4 nq nL nF) (yes q nq)) (fun f s6 k => ?_) (fun _ _ z => False.elim z)
            cases f with
            | ret u =>
              obtain ⟨v6, σ6, H6, S6, r6, q6⟩ := k
              exact ⟨_, _, _, S6.unsuite ok, r6, q6⟩
            | _ =>
              obtain ⟨σ6, H6, S6, q6⟩ := k
              exact ⟨_, _, S6.unsuite ok, q6⟩
          | some n, some i, ⟨hi, hln⟩ =>
            refine codeAny_handlers_suite_as (HandSPX.lands_againZ f3 fun g4 f4 u4 => ?_)
            have J4 : Inv X pins τ G { s' with heap := g4 } := J.landed nb f4.1 ((up.trans u3).trans u4) os ag
            obtain ⟨oe4, vs4, he4, hz4, hd4⟩ := f4.there
            have S4 := J4.suite he4 hd4 nq nL nF
            refine store_ok (X := X.suite q ((q, oe4) :: (X.pn ++ pins))) (v := .ref q) S4 nd hi (.inl hln) rfl (fun s5 S5 => ?_) (.inr hln)
            refine wpAny_mono ((hsu q oe4 cls d (X.pn ++ pins) hz4 ⟨_, hd4⟩).run [] s5 _ G _ S5 (yes q nq)) (fun f s6 k => ?_) (fun _ _ z => False.elim z)
            have out : ∀ {σ6 : St} {H6 : Hp} {Q : Shared → Prop}, Inv (X.suite q ((q, oe4) :: (X.pn ++ pins))) [] σ6 H6 s6 → (∀ s7, Inv X pins (σ6.set i none) H6 s7 → Q s7) → wpAny (model X.prog X.w) X.A (do bindName X.env n .none; unbindBehindTheSuite X.env n p2) (fun _ s7 => Q s7) X.xe s6 :=
              fun {σ6 H6 Q} S6 hq => gone_ok (S6.unsuite ok) nd hi hln hq
            cases f with
            | ret u =>
              obtain ⟨v6, σ6, H6, S6, r6, q6⟩ := k
              exact out S6 fun s7 J7 => ⟨_, _, _, J7, r6, q6⟩
            | _ =>
              obtain ⟨σ6, H6, S6, q6⟩ := k
              exact out S6 fun s7 J7 => ⟨_, _, J7, q6⟩
    exact go hh w
  · cases f with
    | next =>
      obtain ⟨τ, G, J', z⟩ := k
      exact wpAny_execs_nil ⟨τ, G, J'.ofTry ok, z⟩
    | ret u =>
      obtain ⟨v, τ, G, J', r, z⟩ := k
      exact ⟨v, τ, G, J'.ofTry ok, r, z⟩
    | _ =>
      obtain ⟨τ, G, J', z⟩ := k
      exact ⟨τ, G, J'.ofTry ok, z⟩
end
end L2

set_option Elab.async false
set_option linter.all false
set_option maxRecDepth 100000
set_option maxHeartbeats 400000
set_option pp.maxSteps 100
namespace Ash
open PySem PySem.Spec PyProof.Rows L2
open C8 (pss_cut)
/-! ### journals refused -/
def orS (a b : Sp) : Sp := fun vs H Q E => a vs H Q E ∨ b vs H Q E
theorem fnOr {P : Program} {w : World} {K : PySem.W.Frag} {mg : Str → Option Value} {base : Heap} {CX : CXT} {k : Nat} {f : Addr} {fd : FuncData} {ps : List Str} {a b : Sp} (F : FnOk P w K mg base CX k f fd ps a) (G : FnOk P w K mg base CX k f fd ps b) : FnOk P w K mg base CX k f fd ps (orS a b) :=
  ⟨fun vs H Q E h => h.elim (F.len vs H Q E) (G.len vs H Q E), fun A outer s H args us vs Q E hr he hb hv hs => hs.elim (F.run A outer s H args us vs Q E hr he hb hv) (G.run A outer s H args us vs Q E hr he hb hv)⟩
/-- neither list nor tuple -/
def NotRw (K : PySem.W.Frag) (H : Hp) (v : V) : Prop := ∃ t, TyX K H v t ∧ PySem.W.kitOne K t (.type "list") = some false ∧ PySem.W.kitOne K t (.type "tuple") = some false
def NotBk (K : PySem.W.Frag) (CB : Addr) (H : Hp) (v : V) : Prop := ∃ t, TyX K H v t ∧ PySem.W.kitOne K t (.ref CB) = some false
def spIsRowN (K : PySem.W.Frag) : Sp := fun vs H Q _ => ∃ v, vs = [v] ∧ NotRw K H v ∧ ∀ H', Same H H' → Q (.bl false) H'
def spJRef (K : PySem.W.Frag) (CJ CB CE CBB : Addr) : Sp := fun vs H Q E => ∃ (j dx : Addr) (bv ev : V), vs = [.ref j, bv, ev] ∧ H j = some (.ins CJ dx []) ∧
  ((NotBk K CB H bv ∧ ∀ d H', Same H H' → Xd H' d "value" bv → E (.ref CBB) (some d) H') ∨
   (∃ b L, bv = .ref b ∧ BookAt CB H b L ∧ (NotRw K H ev ∨ ∃ a us, ev = .ref a ∧ (H a = some (.lst us) ∨ SqT K H a us) ∧ 400 < us.length ∧ us.length ≤ 1000) ∧ ∀ d H', Same H H' → Xd H' d "at" (.int (-1)) → E (.ref CE) (some d) H'))
section
variable {P : Program} {w : World} {K : PySem.W.Frag} {mg : Str → Option Value} {base : Heap}
theorem ok_is_rowN {f : Addr} {fd : FuncData} (F : Fun K "is_row" "is_row" s_is_row f fd) (B : Blt mg) : FnOk P w K mg base CX0 1 f fd ["thing"] (spIsRowN K) := by
  refine F.ok sc_is_row (fun vs H Q E h => ?_) (fun cdv A outer s H vs Q E hr h => ?_)
  · obtain ⟨a, rfl, _⟩ := h
    rfl
  · obtain ⟨v, rfl, ⟨t, ty, k1, k2⟩, q⟩ := h
    refine ⟨_, (pss_one (ps_ret (pe_callB call_isiT (by rfl) B.isinstance (by decide +kernel) (pa_cons (pv 0) (pa_cons (pe_tup (pa_cons (pe_bltn (v := .ty "list") (by rfl) B.list (by decide +kernel) rfl) (pa_cons (pe_bltn (v := .ty "tuple") (by rfl) B.tuple (by decide +kernel) rfl) pa_nil))) pa_nil))))), ?_⟩
    refine ⟨_, rfl, (by show 2 ≤ sizeLine; decide), fun p hp => ?_⟩
    have s1 := sameAt (o := .tup [.ty "list", .ty "tuple"]) (Same.refl H) hp
    exact ⟨_, p, _, t, [.type "list", .type "tuple"], false, rfl, upd_same, .cons (ClsV.ty _) (.cons (ClsV.ty _) .nil), tyS ty s1, kitAny_cons (b := false) k1 (fun _ => kitAny_cons (b := false) k2 (fun _ => rfl) (fun z => by cases z)) (fun z => by cases z), q _ s1⟩
structure GR (P : Program) (w : World) (K : PySem.W.Frag) (mg : Str → Option Value) (base : Heap) : Prop where
  is_row : Cal P w K mg base CX0 "is_row" 1 ["thing"] (orS (spIsRow K) (spIsRowN K))
  walked : Cal P w K mg base CX0 "walked" 6 ["book", "things"] (fun _ _ _ _ => False)
theorem ok_j_ref {f CJ CBook CE fE CBB fBB aE : Addr} {fd : FuncData} (F : FunD K "__init__" "Journal.__init__" (defArgs s_Journal_init) (defBody s_Journal_init) (defScope s_Journal_init) [.ref aE] [] f fd) (B : Blt mg) (Cs : Cst mg) (T : Cj P K mg CJ CBook) (TB : Cb K mg CBook) (TE : PySem.BadX.Txt P K mg "at" "at" CE fE) (TBB : PySem.BadX.Txt P K mg "value" "value" CBB fBB) (c_BadEntry : mg "BadEntry" = some (.ref CE)) (c_BadBook : mg "BadBook" = some (.ref CBB))
    (bk : ∀ H b dx fs, H b = some (.ins CBook dx fs) → TyX K H (.ref b) (.ref CBook)) (G : GR P w K mg base) : FnOk P w K mg base (L2.CX P w) 7 f fd ["self", "book", "entries"] (spJRef K CJ CBook CE CBB) := by
  obtain ⟨t1, g_MOST_ENTRIES⟩ := Cs.k_MOST_ENTRIES
  have c_Book := TB.c
  refine F.ok (CX := L2.CX P w) sc_Journal_init (fun vs H Q E h => ?_) (fun cdv A outer s H vs Q E hr h => ?_)
  · obtain ⟨j, dx, bv, ev, rfl, _⟩ := h
    rfl
  · obtain ⟨j, dx, bv, ev, rfl, hj, h⟩ := h
    have hu := hu_of hr
    refine ⟨_, (pss_cons (ps_if (pt_not (pt_val (pe_callB call_isi (by rfl) B.isinstance (by decide +kernel) (pa_cons (pv 1) (pa_cons (pe_glob (v := .ref CBook) (by rfl) c_Book rfl) pa_nil)))))
      (pss_one (ps_raiseB rfl TBB par_value c_BadBook (hr.mono (Nat.zero_le _)) (takes_of rfl rfl rfl rfl) (pa_cons (pv 1) pa_nil) (by rfl)))
      pss_nil)
    (pss_cons (ps_if (PW.pt (pw_or (pt_not (pt_val (pe_cal G.is_row (hr.mono (by decide)) pass0 (pa_cons (pv 2) pa_nil)))) (pw_or1 (pt_cmpR op_gt (pe_callB call_len_seq (by rfl) B.len (by decide +kernel) (pa_cons (pv 2) pa_nil)) (pe_glob (v := .int 400) (by rfl) g_MOST_ENTRIES ⟨_, rfl⟩) (nomark _)))))
      (pss_one (ps_raiseB rfl TE par_at c_BadEntry (hr.mono (Nat.zero_le _)) (takes_of rfl rfl rfl rfl) (pa_cons (pe_un un_neg pe_int) pa_nil) (by rfl)))
      pss_nil)
    (pss_cons (ps_asg (pe_cal G.walked (hr.mono (by decide)) pass0 (pa_cons (pv 1) (pa_cons (pv 2) pa_nil))) (pg_tup (by rfl) (pgs_cons (pg_name (i := 3) sc_Journal_init.nd rfl (Or.inl rfl)) (pgs_cons (pg_name (i := 4) sc_Journal_init.nd rfl (Or.inl rfl)) pgs_nil))))
    (pss_cons (ps_if (pt_cmpR op_notN (pv 3) pe_non (nomark _))
      (pss_one ps_never)
      pss_nil)
    (pss_cons (ps_fld (pv 0) (pv 1) rfl)
    (pss_cons (ps_fld (pv 0) (pe_callTy call_tuple_of (by rfl) B.tuple (by decide +kernel) (pa_cons (pv 2) pa_nil)) rfl)
    (pss_one (ps_fld (pv 0) (pv 4) rfl)))))))), ?_⟩
    rcases h with ⟨⟨t, ty, k⟩, q⟩ | ⟨b, L, rfl, hB, hw, q⟩
    · exact ⟨_, rfl, _, _, _, _, false, rfl, ClsV.own _, ty, k, _, rfl, iteT ⟨_, rfl, _, rfl, fun d hd => q d _ (sameAt (Same.refl _) hd) upd_same⟩⟩
    · obtain ⟨bx, bd, L', b1, b2, b3⟩ := id hB
      refine ⟨_, rfl, _, _, _, _, true, rfl, ClsV.own _, bk _ _ _ _ b1, (by show PySem.W.kitOne K _ _ = _; unfold PySem.W.kitOne; rw [if_pos (by simp)]), _, rfl, iteF ?_⟩
      rcases hw with hw | ⟨a, us, rfl, hS, l4, l1⟩
      · exact ⟨_, rfl, .inr ⟨ev, rfl, hw, fun H1 s1 => ⟨_, rfl, iteT ⟨_, rfl, _, rfl, fun d hd => q d _ (s1.trans (sameAt (Same.refl _) hd)) upd_same⟩⟩⟩⟩
      · refine ⟨_, rfl, .inl ⟨a, us, rfl, hS, fun H1 s1 => ⟨_, rfl, iteF ?_⟩⟩⟩
        have hS1 : SqL K H1 a us ∨ SqT K H1 a us := by
          rcases hS with h | h
          · exact .inl (SqL.of (s1 _ _ h))
          · exact .inr (seqS h s1)
        refine ⟨_, rfl, a, us, rfl, hS1, _, _, rfl, rfl, _, rfl, ?_⟩
        rw [decide_eq_true (show (400 : Int) < (us.length : Int) by omega)]
        exact iteT ⟨_, rfl, _, rfl, fun d hd => q d _ (s1.trans (sameAt (Same.refl _) hd)) upd_same⟩
end
end Ash

set_option Elab.async false
set_option linter.all false
set_option maxRecDepth 100000
set_option maxHeartbeats 400000
set_option pp.maxSteps 100
namespace Ash
open PySem PySem.Spec PyProof.Rows L2
open C8 (pss_cut)
/-! ### a journal made, or what is refused -/
def Things (K : PySem.W.Frag) (H : Hp) (us : List V) (ths : List (Option Ent)) : Prop := us.length = ths.length ∧ ∀ (i : Nat) v o, us[i]? = some v → ths[i]? = some o → ThAt K H v o
def firstB (L : List (Str × Int)) (ths : List (Option Ent)) : Option Nat := (wk L ths 0 (fun _ => none) none).1
def spMade (K : PySem.W.Frag) (CB : Addr) : Sp := fun vs H Q _ => ∃ (bv ev : V), vs = [bv, ev] ∧
  ((∃ b a L us ths, bv = .ref b ∧ ev = .ref a ∧ BookAt CB H b L ∧ (H a = some (.lst us) ∨ SqT K H a us) ∧ us.length ≤ 400 ∧ Things K H us ths ∧
      (firstB L ths = none → ∀ t H', Same H H' → H' t = some (.tup [.str "made", .int us.length]) → Q (.ref t) H') ∧ (∀ i, firstB L ths = some i → ∀ t H', Same H H' → H' t = some (.tup [.str "entry", .int (i : Int), .bl true]) → Q (.ref t) H')) ∨
   (NotBk K CB H bv ∧ ∀ t H', Same H H' → H' t = some (.tup [.str "book", bv]) → Q (.ref t) H') ∨
   (∃ b L, bv = .ref b ∧ BookAt CB H b L ∧ (NotRw K H ev ∨ ∃ a us, ev = .ref a ∧ (H a = some (.lst us) ∨ SqT K H a us) ∧ 400 < us.length ∧ us.length ≤ 1000) ∧ ∀ t H', Same H H' → H' t = some (.tup [.str "entry", .int (-1), .bl true]) → Q (.ref t) H'))
section
variable {P : Program} {w : World} {K : PySem.W.Frag} {mg : Str → Option Value} {base : Heap}
structure GM (P : Program) (w : World) (K : PySem.W.Frag) (mg : Str → Option Value) (base : Heap) (aT CJ CB CE CBB : Addr) : Prop where
  Journal : Mak P w K mg base (L2.CX P w) "Journal" CJ 7 ["self", "book", "entries"] (orS (spJInit K aT CJ CB CE) (spJRef K CJ CB CE CBB))
abbrev s_l_made : Stmt := topS 49
theorem sc_l_made : FnScope ["_law_book", "_law_entries_here", "e", "_law_right"] ["_law_book", "_law_entries_here"] (defScope s_l_made) := ⟨rfl, rfl, rfl, by decide +kernel, rfl, by decide +kernel, by decide +kernel⟩
theorem ok_made {f fl CJ CB CE CBB fE fBB CHallError CBadMoment aT : Addr} {fd fdl : FuncData} (F : Fun K "_law_made" "_law_made" s_l_made f fd) (B : Blt mg) (TE : PySem.BadX.Txt P K mg "at" "at" CE fE) (TBB : PySem.BadX.Txt P K mg "value" "value" CBB fBB) (c_BadEntry : mg "BadEntry" = some (.ref CE)) (c_BadBook : mg "BadBook" = some (.ref CBB)) (c_HallError : mg "HallError" = some (.ref CHallError)) (c_BadMoment : mg "BadMoment" = some (.ref CBadMoment)) (XE : ExcC K CE) (hcE : PySem.W.isClsIn K CE = true)
    (kE : PySem.W.kitOne K (.ref CE) (.ref CHallError) = some true) (kV : PySem.W.kitOne K (.ref CE) (.type "ValueError") = some true) (kM : PySem.W.kitOne K (.ref CE) (.ref CBadMoment) = some false) (nBE : PySem.W.exmOne K (.ref CBB) (.ref CE) = some false)
    (Fl : FnOk P w K mg base CX0 1 fl fdl ["self"] (spJLen K aT CJ CB)) (hl1 : PySem.W.findIn K (.ref CJ) "__len__" = some (some (.ref fl))) (hl2 : PySem.W.isFn K (.ref fl) = true) (hl3 : Binds K fdl ["self"] []) (BV : mg "ValueError" = none) (G : GM P w K mg base aT CJ CB CE CBB) : FnOk P w K mg base CX0 9 f fd ["_law_book", "_law_entries_here"] (spMade K CB) := by
  refine F.ok sc_l_made (fun vs H Q E h => ?_) (fun cdv A outer s H vs Q E hr h => ?_)
  · obtain ⟨bv, ev, rfl, _⟩ := h
    rfl
  · obtain ⟨bv, ev, rfl, h⟩ := h
    have hu := hu_of hr
    refine ⟨_, (pss_one (ps_try_cls (tb := fun W => _) (l := [(.ref CE, some 2, fun a cls d => tSeq (tAsg (tAndV (tCB (rIsB K CE a cls d) (tCons (tVar 2) (tCons (tC (.ref CHallError)) tNil))) (tAndV (tCB (rIsB K CE a cls d) (tCons (tVar 2) (tCons (tC (.ty "ValueError")) tNil))) (tNotV (tCB (rIsB K CE a cls d) (tCons (tVar 2) (tCons (tC (.ref CBadMoment)) tNil)))))) (gName 3)) (tRet (tTup (tCons (tC (.str "entry")) (tCons (tByB "at" CE a cls d (tVar 2)) (tCons (tVar 3) tNil)))))), (.ref CBB, some 2, fun a cls d => tRet (tTup (tCons (tC (.str "book")) (tCons (tByB "value" CBB a cls d (tVar 2)) tNil))))]) (W0 := fun _ _ _ _ => False) rfl rfl sc_l_made.nd takes0 (fun W pn xe tk _ =>
      (pss_one (ps_ret (pe_tup (pa_cons pe_str (pa_cons (pe_callB (call_lenI Fl hl1 hl2 hl3 pass0 (hr.mono (by decide))) (by rfl) B.len (by decide +kernel) (pa_cons (pe_makS G.Journal (hr.mono (by decide)) (fun σ => passAt tk σ) (pa_cons (pv 0) (pa_cons (pv 1) pa_nil))) pa_nil)) pa_nil))))))
      (.cons ⟨rfl, by decide, .inl c_BadEntry⟩ ⟨rfl, rfl⟩ (fun a oe cls d pn hz hf => (pss_cons (ps_set (i := 3) sc_l_made.nd rfl (Or.inl rfl) (pe_and (pe_callB (show CallR _ (.builtin "isinstance") (rIsB K CE a cls d) from call_isB XE hcE hz hf) (by rfl) B.isinstance (by decide +kernel) (pa_cons (pv 2) (pa_cons (pe_glob (v := .ref CHallError) (by rfl) c_HallError rfl) pa_nil))) (pe_and (pe_callB (show CallR _ (.builtin "isinstance") (rIsB K CE a cls d) from call_isB XE hcE hz hf) (by rfl) B.isinstance (by decide +kernel) (pa_cons (pv 2) (pa_cons (pe_bltn (v := .ty "ValueError") (by rfl) BV (by decide +kernel) rfl) pa_nil))) (pe_one (pe_not (pe_callB (show CallR _ (.builtin "isinstance") (rIsB K CE a cls d) from call_isB XE hcE hz hf) (by rfl) B.isinstance (by decide +kernel) (pa_cons (pv 2) (pa_cons (pe_glob (v := .ref CBadMoment) (by rfl) c_BadMoment rfl) pa_nil))))))))
      (pss_one (ps_ret (pe_tup (pa_cons pe_str (pa_cons (pe_byB TE hz hf (pv 2)) (pa_cons (pv 3) pa_nil)))))))) (.cons ⟨rfl, by decide, .inl c_BadBook⟩ ⟨rfl, rfl⟩ (fun a oe cls d pn hz hf => (pss_one (ps_ret (pe_tup (pa_cons pe_str (pa_cons (pe_byB TBB hz hf (pv 2)) pa_nil)))))) .nil)))), ?_⟩
    have no : ∀ {α : Prop}, (false = true) → α := fun z => Bool.noConfusion z
    have yes : ∀ {α : Prop}, (true = false) → α := fun z => Bool.noConfusion z
    have two : (2 : Nat) ≤ sizeLine := by decide
    have three : (3 : Nat) ≤ sizeLine := by decide
    refine ⟨_, rfl, _, rfl, fun y dx hy hdx hne => ?_⟩
    have sN : Same H (upd (upd H dx (.own y)) y (.ins CJ dx [])) := sameAt (sameAt (Same.refl H) hdx) hy
    have rowS : ∀ {a us}, (H a = some (.lst us) ∨ SqT K H a us) → ((upd (upd H dx (.own y)) y (.ins CJ dx [])) a = some (.lst us) ∨ SqT K (upd (upd H dx (.own y)) y (.ins CJ dx [])) a us) := fun h => h.imp (sN _ _) (fun h => seqS h sN)
    rcases h with ⟨b, a, L, us, ths, rfl, rfl, hB, hS, l4, hT, q0, q1⟩ | ⟨⟨t, ty, kk⟩, q⟩ | ⟨b, L, rfl, hB, hw, q⟩
    · refine .inl ⟨y, dx, b, a, L, us, ths, rfl, upd_same, hB.same sN, rowS hS, l4, hT.1, fun i v o x z => (hT.2 i v o x z).same sN, fun H1 xs e hw hJ _ kk => ⟨rfl, ?_⟩, fun i d H1 hw s1 hx => ⟨true, TE.te, fun _ a ha => ?_, yes⟩⟩
      · obtain ⟨dx', t', kd', j1, _⟩ := id hJ
        have s1 : Same H H1 := fun c o hc => kk c o (sN _ _ hc) (fun z => by rw [z, hy] at hc; cases hc)
        exact ⟨y, dx', _, rfl, j1, y, b, L, us, xs, rfl, hJ, us.length, rfl, by omega, two, fun t ht => q0 hw t _ (s1.trans (sameAt (Same.refl _) ht)) upd_same⟩
      · refine ⟨_, rfl, rfl, .ref CHallError, .ref CHallError, true, d, _, rfl, rfl, hx, (fun u r => r), kE, _, rfl, iteT ⟨_, rfl, rfl, .ty "ValueError", .type "ValueError", true, d, _, rfl, rfl, hx, (fun u r => r), kV, _, rfl, iteT ⟨_, rfl, rfl, .ref CBadMoment, .ref CBadMoment, false, d, _, rfl, rfl, hx, (fun u r => r), kM, _, rfl, ?_⟩⟩⟩
        exact ⟨_, rfl, rfl, rfl, d, _, rfl, hx, _, rfl, three, fun t ht => q1 i hw t _ ((sN.trans s1).trans (sameAt (Same.refl _) ht)) upd_same⟩
    · refine .inr ⟨y, dx, bv, ev, rfl, upd_same, .inl ⟨⟨t, tyS ty sN, kk⟩, fun d H1 s1 hx => ⟨false, nBE, no, fun _ => ⟨true, TBB.te, fun _ a ha => ?_, yes⟩⟩⟩⟩
      exact ⟨_, rfl, rfl, rfl, d, _, rfl, hx, two, fun t ht => q t _ ((sN.trans s1).trans (sameAt (Same.refl _) ht)) upd_same⟩
    · refine .inr ⟨y, dx, .ref b, ev, rfl, upd_same, .inr ⟨b, L, rfl, hB.same sN, ?_, fun d H1 s1 hx => ⟨true, TE.te, fun _ a ha => ?_, yes⟩⟩⟩
      · rcases hw with ⟨t, ty, k1, k2⟩ | ⟨a, us, e, hS, l1, l2⟩
        · exact .inl ⟨t, tyS ty sN, k1, k2⟩
        · exact .inr ⟨a, us, e, rowS hS, l1, l2⟩
      · refine ⟨_, rfl, rfl, .ref CHallError, .ref CHallError, true, d, _, rfl, rfl, hx, (fun u r => r), kE, _, rfl, iteT ⟨_, rfl, rfl, .ty "ValueError", .type "ValueError", true, d, _, rfl, rfl, hx, (fun u r => r), kV, _, rfl, iteT ⟨_, rfl, rfl, .ref CBadMoment, .ref CBadMoment, false, d, _, rfl, rfl, hx, (fun u r => r), kM, _, rfl, ?_⟩⟩⟩
        exact ⟨_, rfl, rfl, rfl, d, _, rfl, hx, _, rfl, three, fun t ht => q t _ ((sN.trans s1).trans (sameAt (Same.refl _) ht)) upd_same⟩
end
end Ash

set_option Elab.async false
set_option linter.all false
set_option maxRecDepth 100000
set_option maxHeartbeats 400000
set_option pp.maxSteps 300
namespace Ash
open PySem PySem.Spec PyProof.Rows L2
open C8 (pss_cut)
/-! ### what the law takes for an entry -/
theorem lk_vals : ∀ {L : List (Str × Int)} (z : Str), valV (LK L) (Sum.inr z : Key) = (L.lookup z).map V.int
  | [], z => rfl
  | (y, n) :: r, z => by
    show valV ((Sum.inr y, V.int n) :: LK r) (Sum.inr z) = _
    rw [List.lookup_cons]
    by_cases c : z = y
    · subst c
      rw [beq_self_eq_true]
      exact valV_pos (p := ((Sum.inr z : Key), V.int n)) rfl
    · rw [beq_false_of_ne c]
      rw [valV_neg (p := ((Sum.inr y : Key), V.int n)) (fun e => c (Sum.inr.inj e).symm)]
      exact lk_vals z
theorem isS_eq {i : It} {z : Str} (h : i.isS z = true) : i = .str z := by
  cases i with
  | str y => exact congrArg It.str (of_decide_eq_true h)
  | int n => cases h
  | oth => cases h
/-- the stream of a row is one of the lateness -/
def inL (L : List (Str × Int)) : List It → Bool
  | .str w :: _ :: .str s :: _ => !decide (w = "row") || (L.lookup s).isSome
  | _ => true
theorem inL_no {L : List (Str × Int)} {w : Str} {i : It} {s : Str} {r : List It} (h : decide (w = "row") = false) : inL L (.str w :: i :: .str s :: r) = true := by
  show (!decide (w = "row") || (L.lookup s).isSome) = true
  rw [h]; rfl
def kindB (L : List (Str × Int)) : Th → Bool
  | .tup is => gE is && inL L is
  | .no => false
def spIsKind (K : PySem.W.Frag) : Sp := fun vs H Q _ => ∃ dl v L th, vs = [.ref dl, v] ∧ H dl = some (.dK (LK L)) ∧ ThA K H v th ∧ ∀ H', Same H H' → Q (.bl (kindB L th)) H'
section
variable {P : Program} {w : World} {K : PySem.W.Frag} {mg : Str → Option Value} {base : Heap}
abbrev s_l_is_int : Stmt := topS 41
theorem sc_l_is_int : FnScope ["_law_value"] ["_law_value"] (defScope s_l_is_int) := ⟨rfl, rfl, rfl, by decide +kernel, rfl, by decide +kernel, by decide +kernel⟩
theorem ok_lisint {f : Addr} {fd : FuncData} (F : Fun K "_law_is_int" "_law_is_int" s_l_is_int f fd) (B : Blt mg) : FnOk P w K mg base CX0 1 f fd ["_law_value"] (spIsIntA K) := by
  refine F.ok sc_l_is_int (fun vs H Q E h => ?_) (fun cdv A outer s H vs Q E hr h => ?_)
  · obtain ⟨v, i, rfl, _⟩ := h
    rfl
  · obtain ⟨v, i, rfl, hv, q⟩ := h
    refine ⟨_, (pss_one (ps_ret (pe_and (pe_callB call_isi (by rfl) B.isinstance (by decide +kernel) (pa_cons (pv 0) (pa_cons (pe_bltn (v := .ty "int") (by rfl) B.int (by decide +kernel) rfl) pa_nil))) (pe_one (pe_not (pe_callB call_isi (by rfl) B.isinstance (by decide +kernel) (pa_cons (pv 0) (pa_cons (pe_bltn (v := .ty "bool") (by rfl) B.bool (by decide +kernel) rfl) pa_nil)))))))), ?_⟩
    cases i with
    | int n =>
      cases (show v = _ from hv)
      exact ⟨_, rfl, _, _, _, _, true, rfl, ClsV.ty _, .base (.int n), kit_ty (by decide +kernel), _, rfl, iteT ⟨_, rfl, _, _, _, _, false, rfl, ClsV.ty _, .base (.int n), kit_ty (by decide +kernel), _, rfl, q⟩⟩
    | str z =>
      obtain ⟨rfl, _⟩ := hv
      exact ⟨_, rfl, _, _, _, _, false, rfl, ClsV.ty _, .base (.str z), kit_ty (by decide +kernel), _, rfl, iteF q⟩
    | oth =>
      obtain ⟨⟨t, bi, bb, ty, e1, e2, e3⟩, _⟩ := hv
      refine ⟨_, rfl, _, _, _, _, bi, rfl, ClsV.ty _, ty, e1, _, rfl, ?_⟩
      cases bi with
      | false => exact iteF q
      | true =>
        refine iteT ⟨_, rfl, _, _, _, _, bb, rfl, ClsV.ty _, ty, e2, _, rfl, ?_⟩
        have e3 : (!bb) = false := e3
        rw [e3]
        exact q
abbrev s_l_is_name : Stmt := topS 42
theorem sc_l_is_name : FnScope ["_law_value", "_law_letter"] ["_law_value"] (defScope s_l_is_name) := ⟨rfl, rfl, rfl, by decide +kernel, rfl, by decide +kernel, by decide +kernel⟩
theorem ok_lisname {f : Addr} {fd : FuncData} (F : Fun K "_law_is_name" "_law_is_name" s_l_is_name f fd) (B : Blt mg) : FnOk P w K mg base CX0 1 f fd ["_law_value"] (spIsNmA K) := by
  refine F.ok sc_l_is_name (fun vs H Q E h => ?_) (fun cdv A outer s H vs Q E hr h => ?_)
  · obtain ⟨v, i, rfl, _⟩ := h
    rfl
  · obtain ⟨v, i, rfl, hv, q⟩ := h
    refine ⟨_, (pss_cons (ps_if (PW.pt (pw_or (pt_not (pt_val (pe_callB call_isi (by rfl) B.isinstance (by decide +kernel) (pa_cons (pv 0) (pa_cons (pe_bltn (v := .ty "str") (by rfl) B.str (by decide +kernel) rfl) pa_nil))))) (pw_or1 (pt_not (pt_chain op_le op_le pe_int (pe_callB call_len_str (by rfl) B.len (by decide +kernel) (pa_cons (pv 0) pa_nil)) pe_int)))))
      (pss_one (ps_ret pe_bl))
      pss_nil)
    (pss_one (ps_ret (pe_callB (cr_all rfl) (by rfl) B.all (by decide +kernel) (pa_cons (pe_lc (own := [("_law_letter", 1)]) (g := gName 1) (tt := tYes) (by rfl) sc_l_is_name.nd (pi_str (pv 0)) (blkOk_by (own := [("_law_letter", 1)]) (N := ["_law_value", "_law_letter"]) (sc := defScope s_l_is_name) (by decide +kernel)) (fun _ _ _ _ _ => (pg_name (i := 1) sc_l_is_name.nd rfl (Or.inl rfl))) (fun _ _ _ _ _ => pts_nil) (fun _ _ _ _ _ => (pe_cmpR op_in_sign (pv 1) pe_str rfl))) pa_nil))))), ?_⟩
    cases i with
    | int n =>
      cases (show v = _ from hv)
      exact ⟨_, rfl, _, _, _, _, false, rfl, ClsV.ty _, .base (.int n), kit_ty (by decide +kernel), _, rfl, iteT (q H (Same.refl H))⟩
    | oth =>
      obtain ⟨_, ⟨t, ty, e1⟩, _⟩ := hv
      exact ⟨_, rfl, _, _, _, _, false, rfl, ClsV.ty _, ty, e1, _, rfl, iteT (q H (Same.refl H))⟩
    | str z =>
      obtain ⟨rfl, hz⟩ := hv
      have q : ∀ H', Same H H' → Q (.bl (nmB z)) H' := q
      refine ⟨_, rfl, _, _, _, _, true, rfl, ClsV.ty _, .base (.str z), kit_ty (by decide +kernel), _, rfl, iteF ?_⟩
      refine ⟨_, rfl, _, rfl, (by rw [sizeLine_eq]; omega), _, _, rfl, rfl, _, rfl, ?_⟩
      refine ite2 (fun c1 => ?_) (fun c1 => ?_)
      · have c1 : (1 : Int) ≤ z.length := of_decide_eq_true c1
        refine ⟨_, _, rfl, rfl, _, rfl, ?_⟩
        by_cases c8 : (z.length : Int) ≤ 8
        · refine iteNS c8 ?_
          refine ⟨_, rfl, z, rfl, fun D hD => lc_it (walk_str (z := z)) (fun i H1 => H1 D = some (.lst (((z.cps.toList.take i).map fun c => decide (c ∈ LET)).map V.bl)) ∧ Same H H1) ⟨upd_same, sameAt (Same.refl H) hD⟩ (fun _ _ _ _ => trivial) ?_ ?_⟩
          · rintro i x H1 H2 hi ⟨hD1, hs⟩ ⟨rfl, c, hc, rfl⟩
            have hc' : z.cps.toList[i]? = some c := by rw [Array.getElem?_toList]; exact hc
            have hlen : (z.cps.toList.take i).length ≤ 8 := by
              have : i < z.length := hi
              rw [List.length_take]
              omega
            refine ⟨rfl, _, rfl, c, abc, rfl, rfl, _, hD1, (by rw [List.length_map, List.length_map]; exact small1000 (by omega)), ?_, sameAt hs hD⟩
            rw [upd_same, list_lit _ _ _ hc', abc_let, List.map_append, List.map_append]
            rfl
          · rintro H1 ⟨hD1, hs⟩
            have e : z.cps.toList.take z.cps.size = z.cps.toList := by rw [← Array.length_toList, List.take_length]
            rw [e] at hD1
            refine ⟨D, _, rfl, SqL.of hD1, ?_⟩
            have e2 : ((z.cps.toList.map fun c => decide (c ∈ LET)).all id) = nmB z := by
              unfold nmB
              rw [decide_eq_true (show 1 ≤ z.length ∧ z.length ≤ 8 by omega), Bool.true_and, List.all_map]
              rfl
            rw [e2]
            exact q _ hs
        · rw [decide_eq_false c8]
          refine iteT ?_
          have e2 : nmB z = false := by
            unfold nmB
            rw [decide_eq_false (show ¬ (1 ≤ z.length ∧ z.length ≤ 8) by omega), Bool.false_and]
          have := q H (Same.refl H)
          rw [e2] at this
          exact this
      · have c1 : ¬ (1 : Int) ≤ z.length := by simpa using c1
        refine ⟨_, rfl, iteT ?_⟩
        have e2 : nmB z = false := by
          unfold nmB
          rw [decide_eq_false (show ¬ (1 ≤ z.length ∧ z.length ≤ 8) by omega), Bool.false_and]
        have := q H (Same.refl H)
        rw [e2] at this
        exact this
structure GK (P : Program) (w : World) (K : PySem.W.Frag) (mg : Str → Option Value) (base : Heap) : Prop where
  law_is_int : Cal P w K mg base CX0 "_law_is_int" 1 ["_law_value"] (spIsIntA K)
  law_is_name : Cal P w K mg base CX0 "_law_is_name" 1 ["_law_value"] (spIsNmA K)
abbrev s_l_is_kind : Stmt := topS 43
theorem sc_l_is_kind : FnScope ["_law_lates_here", "_law_entry_here", "_law_value"] ["_law_lates_here", "_law_entry_here"] (defScope s_l_is_kind) := ⟨rfl, rfl, rfl, by decide +kernel, rfl, by decide +kernel, by decide +kernel⟩
theorem ok_kind {f CB fq : Addr} {fd fdq : FuncData} (F : Fun K "_law_is_kind" "_law_is_kind" s_l_is_kind f fd) (B : Blt mg) (hBk : BkC K CB) (nfs : PySem.W.notFirst K CB (.type "str") = true) (Z : NeF K (fun C => C = CB) fq) (bq : Binds K fdq ["self", "other"] []) (Fq : FnOk P w K mg base CX0 2 fq fdq ["self", "other"] (spBookEqN CB)) (G : GK P w K mg base) : FnOk P w K mg base CX0 3 f fd ["_law_lates_here", "_law_entry_here"] (spIsKind K) := by
  refine F.ok sc_l_is_kind (fun vs H Q E h => ?_) (fun cdv A outer s H vs Q E hr h => ?_)
  · obtain ⟨dl, v, L, th, rfl, _⟩ := h
    rfl
  · obtain ⟨dl, v, L, th, rfl, hL, hT, q⟩ := h
    have hu := hu_of hr
    refine ⟨_, (pss_cons (ps_if (PW.pt (pw_or (pt_not (pt_val (pe_callB call_isi (by rfl) B.isinstance (by decide +kernel) (pa_cons (pv 1) (pa_cons (pe_bltn (v := .ty "tuple") (by rfl) B.tuple (by decide +kernel) rfl) pa_nil))))) (pw_or (pt_cmpR op_lt (pe_callB call_len_seq (by rfl) B.len (by decide +kernel) (pa_cons (pv 1) pa_nil)) pe_int (nomark _)) (pw_or (pt_not (pt_val (pe_cal G.law_is_int (hr.mono (by decide)) pass0 (pa_cons (pe_ix ix_tup (pv 1) pe_int (fun _ _ => rfl)) pa_nil)))) (pw_or1 (pt_cmpR op_lt (pe_ix ix_tup (pv 1) pe_int (fun _ _ => rfl)) pe_int (nomark _)))))))
      (pss_one (ps_ret pe_bl))
      pss_nil)
    (pss_cons (ps_if (PW.pt (pw_and (pt_cmpR (op_eqT hr.units Z Fq bq pass0 (hr.mono (by decide))) (pe_ix ix_tup (pv 1) pe_int (fun _ _ => rfl)) pe_str (nomark _)) (pw_and1 (pt_cmpR op_eq (pe_callB call_len_seq (by rfl) B.len (by decide +kernel) (pa_cons (pv 1) pa_nil)) pe_int (nomark _)))))
      (pss_cons (ps_if (PW.pt (pw_or (pt_not (pt_val (pe_cal G.law_is_name (hr.mono (by decide)) pass0 (pa_cons (pe_ix ix_tup (pv 1) pe_int (fun _ _ => rfl)) pa_nil)))) (pw_or (pt_cmp (pc_dnotin hu (pe_ix ix_tup (pv 1) pe_int (fun _ _ => rfl)) (pv 0)) rfl) (pw_or1 (pt_not (pt_val (pe_cal G.law_is_name (hr.mono (by decide)) pass0 (pa_cons (pe_ix ix_tup (pv 1) pe_int (fun _ _ => rfl)) pa_nil))))))))
        (pss_one (ps_ret pe_bl))
        pss_nil)
      (pss_one (ps_ret (pe_callB (cr_all rfl) (by rfl) B.all (by decide +kernel) (pa_cons (pe_lc (own := [("_law_value", 2)]) (g := gName 2) (tt := tYes) (by rfl) sc_l_is_kind.nd (pi_tup (pe_slice (show SlR _ (rSlU K) from sl_tupU) (pv 1) (po_some pe_int) po_none)) (blkOk_by (own := [("_law_value", 2)]) (N := ["_law_lates_here", "_law_entry_here", "_law_value"]) (sc := defScope s_l_is_kind) (by decide +kernel)) (fun _ _ _ _ _ => (pg_name (i := 2) sc_l_is_kind.nd rfl (Or.inl rfl))) (fun _ _ _ _ _ => pts_nil) (fun _ _ _ _ _ => (pe_cal G.law_is_int (hr.mono (by decide)) pass0 (pa_cons (pv 2) pa_nil)))) pa_nil)))))
      pss_nil)
    (pss_cons (ps_if (PW.pt (pw_or (PW.pt (pw_and (pt_cmpR (op_eqT hr.units Z Fq bq pass0 (hr.mono (by decide))) (pe_ix ix_tup (pv 1) pe_int (fun _ _ => rfl)) pe_str (nomark _)) (pw_and1 (pt_cmpR op_eq (pe_callB call_len_seq (by rfl) B.len (by decide +kernel) (pa_cons (pv 1) pa_nil)) pe_int (nomark _))))) (pw_or1 (PW.pt (pw_and (pt_cmpR (op_eqT hr.units Z Fq bq pass0 (hr.mono (by decide))) (pe_ix ix_tup (pv 1) pe_int (fun _ _ => rfl)) pe_str (nomark _)) (pw_and1 (pt_cmpR op_eq (pe_callB call_len_seq (by rfl) B.len (by decide +kernel) (pa_cons (pv 1) pa_nil)) pe_int (nomark _))))))))
      (pss_one (ps_ret (pe_callB (cr_all rfl) (by rfl) B.all (by decide +kernel) (pa_cons (pe_lc (own := [("_law_value", 2)]) (g := gName 2) (tt := tYes) (by rfl) sc_l_is_kind.nd (pi_tup (pe_slice (show SlR _ (rSlU K) from sl_tupU) (pv 1) (po_some pe_int) po_none)) (blkOk_by (own := [("_law_value", 2)]) (N := ["_law_lates_here", "_law_entry_here", "_law_value"]) (sc := defScope s_l_is_kind) (by decide +kernel)) (fun _ _ _ _ _ => (pg_name (i := 2) sc_l_is_kind.nd rfl (Or.inl rfl))) (fun _ _ _ _ _ => pts_nil) (fun _ _ _ _ _ => (pe_cal G.law_is_int (hr.mono (by decide)) pass0 (pa_cons (pv 2) pa_nil)))) pa_nil))))
      pss_nil)
    (pss_one (ps_ret pe_bl))))), ?_⟩
    cases th with
    | no =>
      obtain ⟨t, ty, e1⟩ := hT
      exact ⟨_, rfl, _, _, _, _, false, rfl, ClsV.ty _, ty, e1, _, rfl, iteT (q H (Same.refl H))⟩
    | tup is =>
      obtain ⟨e, us, rfl, hx, hI, l9⟩ := hT
      have r0 := Same.refl H
      refine ⟨_, rfl, _, _, _, _, true, rfl, ClsV.ty _, .base (.tup hx), kit_ty (by decide +kernel), _, rfl, iteF ?_⟩
      refine ⟨_, rfl, e, _, rfl, .inr (SqT.of hx), _, _, rfl, rfl, _, rfl, ?_⟩
      have q : ∀ H', Same H H' → Q (.bl (gE is && inL L is)) H' := q
      refine ite2 (fun c => ?_) (fun c => ?_)
      · have c : (us.length : Int) < 3 := of_decide_eq_true c
        have := q H r0
        rw [gE_short (by rw [← hI.len]; omega)] at this
        exact this
      have c : ¬ (us.length : Int) < 3 := fun z => by rw [decide_eq_true z] at c; exact c rfl
      obtain ⟨v0, v1, v2, vr, i0, i1, i2, ir, rfl, rfl, h0, h1, h2, hr'⟩ := hI.three (by omega)
      have lr := hr'.len
      have ll : (v0 :: v1 :: v2 :: vr).length = vr.length + 3 := rfl
      have at0 : atI (v0 :: v1 :: v2 :: vr) 0 = some v0 := atI_nat (j := 0) rfl
      have at1 : atI (v0 :: v1 :: v2 :: vr) 1 = some v1 := atI_nat (j := 1) rfl
      have at2 : atI (v0 :: v1 :: v2 :: vr) 2 = some v2 := atI_nat (j := 2) rfl
      have NOW : i1.isN = false → Q (.bl false) H := fun e => by
        have := q H r0
        rw [gE_cons, e] at this
        exact this
      refine ⟨_, rfl, _, _, _, _, rfl, rfl, SqT.of (hx), at1, v1, i1, rfl, h1, _, rfl, ?_⟩
      cases i1 with
      | str y => exact iteT (NOW rfl)
      | oth => exact iteT (NOW rfl)
      | int n =>
      cases (show v1 = _ from h1)
      refine iteF ⟨_, rfl, _, _, _, _, rfl, rfl, SqT.of (hx), at1, _, _, rfl, rfl, _, rfl, ite2 (fun c0 => NOW (decide_eq_false (by have : n < 0 := of_decide_eq_true c0; omega))) (fun c0 => ?_)⟩
      have e1 : (It.int n).isN = true := decide_eq_true (by
        have : ¬ n < 0 := fun h => c0 (decide_eq_true h)
        omega)
      clear NOW
      refine ⟨_, rfl, _, _, _, _, rfl, rfl, SqT.of (hx), at0, eqS_of hBk nfs h0 (by decide +kernel) ⟨_, rfl, ?_⟩⟩
      cases e2 : i0.isS "row" with
      | true =>
        have e0 := isS_eq e2
        subst e0
        refine iteT ⟨_, rfl, e, _, rfl, .inr (SqT.of hx), rfl, _, rfl, ?_⟩
        refine ite2 (fun c7 => ?_) (fun c7 => ?_)
        · have c7 : (vr.length + 3 : Nat) = 7 := by have := V.int.inj (of_decide_eq_true c7); rw [ll] at this; omega
          obtain ⟨i3, ir, rfl⟩ : ∃ i r, ir = i :: r := by cases ir with
            | nil => rw [List.length_nil] at lr; omega
            | cons i r => exact ⟨i, r, rfl⟩
          obtain ⟨v3, vr, rfl⟩ : ∃ i r, vr = i :: r := by cases hr' with
            | cons => exact ⟨_, _, rfl⟩
          cases hr' with
          | cons h3 hr' =>
          have e7 : ir.length = 3 := by simp only [List.length_cons] at lr c7; omega
          have at3 : atI (v0 :: V.int n :: v2 :: v3 :: vr) 3 = some v3 := atI_nat (j := 3) rfl
          have q : ∀ H', Same H H' → Q (.bl ((i2.isNm && (i3.isNm && ir.all It.isI)) && inL L (.str "row" :: .int n :: i2 :: i3 :: ir))) H' := fun H' s => by
            have := q H' s
            rw [gE_cons, e1, e2] at this
            have this : Q (.bl ((decide (ir.length = 3) && (i2.isNm && (i3.isNm && ir.all It.isI))) && inL L (.str "row" :: .int n :: i2 :: i3 :: ir))) H' := this
            rw [decide_eq_true e7] at this
            exact this
          obtain ⟨ia, ib, ic, rfl⟩ : ∃ a b c, ir = [a, b, c] := by
            rcases ir with _ | ⟨a, _ | ⟨b, _ | ⟨c, _ | ⟨d, r⟩⟩⟩⟩ <;> simp at e7
            exact ⟨a, b, c, rfl⟩
          refine ⟨_, rfl, _, _, _, _, rfl, rfl, SqT.of (hx), at2, v2, i2, rfl, h2, fun H1 s1 => ⟨_, rfl, ?_⟩⟩
          cases b2 : i2.isNm with
          | false => exact iteT (by have := q H1 s1; rw [b2] at this; exact this)
          | true =>
          cases i2 with
          | int n => cases b2
          | oth => cases b2
          | str s =>
          obtain ⟨rfl, sl⟩ := h2
          refine iteF ⟨_, rfl, _, _, _, _, rfl, rfl, SqT.of (s1 _ _ hx), at2, _, rfl, dl, _, rfl, DGet.k (k := Sum.inr s) (s1 _ _ hL), _, rfl, ?_⟩
          rw [lk_vals]
          have iL : inL L [.str "row", .int n, .str s, i3, ia, ib, ic] = (L.lookup s).isSome := by
            show (!decide (("row" : Str) = "row") || (L.lookup s).isSome) = _
            rw [decide_eq_true rfl]
            rfl
          rw [iL] at q
          cases hl : L.lookup s with
          | none =>
            refine iteT ?_
            have := q H1 s1
            rw [hl] at this
            rw [show (Option.isSome (none : Option Int)) = false from rfl, Bool.and_false] at this
            exact this
          | some lt =>
          rw [hl, show (Option.isSome (some lt)) = true from rfl, b2] at q
          refine iteF ⟨_, rfl, _, _, _, _, rfl, rfl, SqT.of (s1 _ _ hx), at3, v3, i3, rfl, h3.same s1, fun H2 s2 => ⟨_, rfl, ?_⟩⟩
          have s12 := s1.trans s2
          cases b3 : i3.isNm with
          | false => exact iteT (by have := q H2 s12; rw [b3] at this; exact this)
          | true =>
            refine iteF ⟨_, rfl, _, rfl, e, _, rfl, SqT.of (s12 _ _ hx), fun a H4 s4 hS => ?_⟩
            rw [show ((4 : Int)) = ((4 : Nat) : Int) from rfl, cut_drop (by show 4 ≤ vr.length + 4; omega)] at hS
            have hS : SqT K H4 a vr := hS
            have hv : ItsA K H4 vr [ia, ib, ic] := hr'.same (s12.trans s4)
            have hn : vr.length ≤ 9 := by simp only [List.length_cons] at *; omega
            have q : ∀ H', Same H4 H' → Q (.bl ([ia, ib, ic].all It.isI)) H' := fun H' s => by
              have := q H' ((s12.trans s4).trans s)
              rw [b3, Bool.and_true] at this
              exact this
            generalize [ia, ib, ic] = is at hv q
            generalize vr = us at hS hv hn
            refine ⟨a, rfl, ⟨_, hS⟩, fun D hD => lc_it (walk_tup (xs := us)) (fun i H1 => H1 D = some (.lst (((is.take i).map It.isI).map V.bl)) ∧ Same H4 H1) ⟨upd_same, sameAt (Same.refl _) hD⟩ (fun i H1 _ hv => ?_) ?_ ?_⟩
            · rcases hS with (h | ⟨o, h⟩) | h
              · exact .inl (.inl (hv.2 _ _ h))
              · exact .inl (.inr ⟨o, hv.2 _ _ h⟩)
              · exact .inr h
            · rintro i x H1 H2 hi ⟨hD1, hs⟩ ⟨rfl, hx⟩
              obtain ⟨it, hit, hI⟩ := hv.get hx
              have il := hv.len
              have sz : (((is.take i).map It.isI).map V.bl).length < sizeLine := by rw [List.length_map, List.length_map, List.length_take]; exact small1000 (by omega)
              refine ⟨rfl, _, rfl, _, it, rfl, hI.same hs, _, hD1, sz, ?_, sameAt hs hD⟩
              rw [upd_same, List.take_add_one, hit, List.map_append, List.map_append]
              rfl
            · rintro H1 ⟨hD1, hs⟩
              refine ⟨D, _, rfl, SqL.of hD1, ?_⟩
              rw [hv.len, List.take_length] at hD1 ⊢
              rw [show ((is.map It.isI).all id) = is.all It.isI by rw [List.all_map]; rfl]
              exact q _ hs
        · have c7 : ¬ vr.length = 4 := fun z => by rw [ll, z] at c7; exact absurd (decide_eq_true rfl) c7
          have hf : gE (It.str "row" :: It.int n :: i2 :: ir) = false := by
            rw [gE_cons, e1, e2]
            cases ir with
            | nil => rfl
            | cons i r =>
              show (decide (r.length = 3) && _) = false
              rw [decide_eq_false (by simp only [List.length_cons] at lr; omega)]
              rfl
          have q := q H r0
          rw [hf] at q
          obtain ⟨rfl, _⟩ := h0
          exact ⟨_, rfl, _, _, _, _, rfl, rfl, SqT.of (hx), at0, .inl ⟨rfl, _, rfl, iteF ⟨_, rfl, _, _, _, _, rfl, rfl, SqT.of (hx), at0, .inl ⟨rfl, _, rfl, iteF q⟩⟩⟩⟩
      | false =>
        refine iteF ⟨_, rfl, _, _, _, _, rfl, rfl, SqT.of (hx), at0, eqS_of hBk nfs h0 (by decide +kernel) ⟨_, rfl, ?_⟩⟩
        cases e5 : i0.isS "fix" with
        | true =>
          have e0 := isS_eq e5
          subst e0
          refine iteT ⟨_, rfl, e, _, rfl, .inr (SqT.of hx), rfl, _, rfl, ?_⟩
          refine ite2 (fun c7 => ?_) (fun c7 => ?_)
          · have c7 : (vr.length + 3 : Nat) = 5 := by have := V.int.inj (of_decide_eq_true c7); rw [ll] at this; omega
            have inO : inL L (It.str "fix" :: It.int n :: i2 :: ir) = true := by
              cases i2 with
              | str s => exact inL_no (by decide +kernel)
              | int m => rfl
              | oth => rfl
            refine ⟨_, rfl, _, rfl, e, _, rfl, SqT.of hx, fun a H4 s4 hS => ?_⟩
            rw [show ((2 : Int)) = ((2 : Nat) : Int) from rfl, cut_drop (by rw [ll]; omega)] at hS
            have hS : SqT K H4 a (v2 :: vr) := hS
            have hv : ItsA K H4 (v2 :: vr) (i2 :: ir) := .cons (h2.same s4) (hr'.same s4)
            have hn : (v2 :: vr).length ≤ 9 := by simp only [List.length_cons] at *; omega
            have q : ∀ H', Same H4 H' → Q (.bl ((i2 :: ir).all It.isI)) H' := fun H' s => by
              have := q H' (s4.trans s)
              rw [gE_cons, e1, e2, e5] at this
              have this : Q (.bl ((decide (ir.length + 1 = 3) && (i2 :: ir).all It.isI) && inL L (It.str "fix" :: It.int n :: i2 :: ir))) H' := this
              rw [decide_eq_true (show ir.length + 1 = 3 by omega), inO, Bool.and_true] at this
              exact this
            generalize v2 :: vr = us at hS hv hn
            generalize i2 :: ir = is at hv q
            clear lr ll hr'
            refine ⟨a, rfl, ⟨_, hS⟩, fun D hD => lc_it (walk_tup (xs := us)) (fun i H1 => H1 D = some (.lst (((is.take i).map It.isI).map V.bl)) ∧ Same H4 H1) ⟨upd_same, sameAt (Same.refl _) hD⟩ (fun i H1 _ hv => ?_) ?_ ?_⟩
            · rcases hS with (h | ⟨o, h⟩) | h
              · exact .inl (.inl (hv.2 _ _ h))
              · exact .inl (.inr ⟨o, hv.2 _ _ h⟩)
              · exact .inr h
            · rintro i x H1 H2 hi ⟨hD1, hs⟩ ⟨rfl, hx⟩
              obtain ⟨it, hit, hI⟩ := hv.get hx
              have il := hv.len
              have sz : (((is.take i).map It.isI).map V.bl).length < sizeLine := by rw [List.length_map, List.length_map, List.length_take]; exact small1000 (by omega)
              refine ⟨rfl, _, rfl, _, it, rfl, hI.same hs, _, hD1, sz, ?_, sameAt hs hD⟩
              rw [upd_same, List.take_add_one, hit, List.map_append, List.map_append]
              rfl
            · rintro H1 ⟨hD1, hs⟩
              refine ⟨D, _, rfl, SqL.of hD1, ?_⟩
              rw [hv.len, List.take_length] at hD1 ⊢
              rw [show ((is.map It.isI).all id) = is.all It.isI by rw [List.all_map]; rfl]
              exact q _ hs
          · skip
            have c7 : ¬ vr.length = 2 := fun z => by rw [ll, z] at c7; exact absurd (decide_eq_true rfl) c7
            have hf : gE (It.str "fix" :: It.int n :: i2 :: ir) = false := by
              rw [gE_cons, e1, e2, e5]
              show (decide (ir.length + 1 = 3) && _) = false
              rw [decide_eq_false (by omega)]
              rfl
            have q := q H r0
            rw [hf] at q
            exact ⟨_, rfl, _, _, _, _, rfl, rfl, SqT.of (hx), at0, eqS_of hBk nfs h0 (by decide +kernel) ⟨_, rfl, iteF q⟩⟩
        | false =>
          refine iteF ⟨_, rfl, _, _, _, _, rfl, rfl, SqT.of (hx), at0, eqS_of hBk nfs h0 (by decide +kernel) ⟨_, rfl, ?_⟩⟩
          cases e6 : i0.isS "gone" with
          | true =>
            have e0 := isS_eq e6
            subst e0
            refine iteT ⟨_, rfl, e, _, rfl, .inr (SqT.of hx), rfl, _, rfl, ?_⟩
            refine ite2 (fun c7 => ?_) (fun c7 => ?_)
            · have c7 : (vr.length + 3 : Nat) = 3 := by have := V.int.inj (of_decide_eq_true c7); rw [ll] at this; omega
              have inO : inL L (It.str "gone" :: It.int n :: i2 :: ir) = true := by
                cases i2 with
                | str s => exact inL_no (by decide +kernel)
                | int m => rfl
                | oth => rfl
              refine ⟨_, rfl, _, rfl, e, _, rfl, SqT.of hx, fun a H4 s4 hS => ?_⟩
              rw [show ((2 : Int)) = ((2 : Nat) : Int) from rfl, cut_drop (by rw [ll]; omega)] at hS
              have hS : SqT K H4 a (v2 :: vr) := hS
              have hv : ItsA K H4 (v2 :: vr) (i2 :: ir) := .cons (h2.same s4) (hr'.same s4)
              have hn : (v2 :: vr).length ≤ 9 := by simp only [List.length_cons] at *; omega
              have q : ∀ H', Same H4 H' → Q (.bl ((i2 :: ir).all It.isI)) H' := fun H' s => by
                have := q H' (s4.trans s)
                rw [gE_cons, e1, e2, e5, e6] at this
                have this : Q (.bl ((decide (ir.length + 1 = 1) && (i2 :: ir).all It.isI) && inL L (It.str "gone" :: It.int n :: i2 :: ir))) H' := this
                rw [decide_eq_true (show ir.length + 1 = 1 by omega), inO, Bool.and_true] at this
                exact this
              generalize v2 :: vr = us at hS hv hn
              generalize i2 :: ir = is at hv q
              clear lr ll hr'
              refine ⟨a, rfl, ⟨_, hS⟩, fun D hD => lc_it (walk_tup (xs := us)) (fun i H1 => H1 D = some (.lst (((is.take i).map It.isI).map V.bl)) ∧ Same H4 H1) ⟨upd_same, sameAt (Same.refl _) hD⟩ (fun i H1 _ hv => ?_) ?_ ?_⟩
              · rcases hS with (h | ⟨o, h⟩) | h
                · exact .inl (.inl (hv.2 _ _ h))
                · exact .inl (.inr ⟨o, hv.2 _ _ h⟩)
                · exact .inr h
              · rintro i x H1 H2 hi ⟨hD1, hs⟩ ⟨rfl, hx⟩
                obtain ⟨it, hit, hI⟩ := hv.get hx
                have il := hv.len
                have sz : (((is.take i).map It.isI).map V.bl).length < sizeLine := by rw [List.length_map, List.length_map, List.length_take]; exact small1000 (by omega)
                refine ⟨rfl, _, rfl, _, it, rfl, hI.same hs, _, hD1, sz, ?_, sameAt hs hD⟩
                rw [upd_same, List.take_add_one, hit, List.map_append, List.map_append]
                rfl
              · rintro H1 ⟨hD1, hs⟩
                refine ⟨D, _, rfl, SqL.of hD1, ?_⟩
                rw [hv.len, List.take_length] at hD1 ⊢
                rw [show ((is.map It.isI).all id) = is.all It.isI by rw [List.all_map]; rfl]
                exact q _ hs
            · skip
              have c7 : ¬ vr.length = 0 := fun z => by rw [ll, z] at c7; exact absurd (decide_eq_true rfl) c7
              have hf : gE (It.str "gone" :: It.int n :: i2 :: ir) = false := by
                rw [gE_cons, e1, e2, e5, e6]
                show (decide (ir.length + 1 = 1) && _) = false
                rw [decide_eq_false (by omega)]
                rfl
              have q := q H r0
              rw [hf] at q
              exact q
          | false =>
            have q := q H r0
            rw [gE_cons, e1, e2, e5, e6] at q
            exact iteF q
end
end Ash

set_option Elab.async false
set_option linter.all false
set_option maxRecDepth 100000
set_option maxHeartbeats 400000
set_option pp.maxSteps 100
namespace Ash
open PySem PySem.Spec PyProof.Rows L2
open C8 (pss_cut)
/-! ### is a thing a good entry behind what is known -/
def LastV : Option Int → V
  | none => .non
  | some t => .int t
def good? (L : List (Str × Int)) (S : Kn) (l : Option Int) (x : Ent) : Bool := !late? l x.arr && (behind L x (S x.id)).isSome
def goodO (L : List (Str × Int)) (S : Kn) (l : Option Int) : Option Ent → Bool
  | some x => good? L S l x
  | none => false
def StIn (L : List (Str × Int)) (S : Kn) : Prop := ∀ id s k m a, S id = some (.at_ s k m a) → (L.lookup s).isSome
def spGood (K : PySem.W.Frag) : Sp := fun vs H Q _ => ∃ (dl ds : Addr) (v : V) (L : List (Str × Int)) (S : Kn) (n : Nat) (l : Option Int) (o : Option Ent), vs = [.ref dl, .ref ds, LastV l, v] ∧ H dl = some (.dK (LK L)) ∧ StAt H ds S n ∧ ThAt K H v o ∧ StIn L S ∧ ∀ H', Same H H' → Q (.bl (goodO L S l o)) H'
section
variable {P : Program} {w : World} {K : PySem.W.Frag} {mg : Str → Option Value} {base : Heap}
structure GG1 (P : Program) (w : World) (K : PySem.W.Frag) (mg : Str → Option Value) (base : Heap) : Prop where
  law_is_kind : Cal P w K mg base CX0 "_law_is_kind" 3 ["_law_lates_here", "_law_entry_here"] (spIsKind K)
abbrev s_l_is_good : Stmt := topS 44
theorem sc_l_is_good : FnScope ["_law_lates_here", "_law_states", "_law_last", "_law_entry_here", "_law_arrival", "_law_old", "_law_late"] ["_law_lates_here", "_law_states", "_law_last", "_law_entry_here"] (defScope s_l_is_good) := ⟨rfl, rfl, rfl, by decide +kernel, rfl, by decide +kernel, by decide +kernel⟩
theorem ok_good {f : Addr} {fd : FuncData} (F : Fun K "_law_is_good" "_law_is_good" s_l_is_good f fd) (B : Blt mg) (G : GG1 P w K mg base) : FnOk P w K mg base CX0 4 f fd ["_law_lates_here", "_law_states", "_law_last", "_law_entry_here"] (spGood K) := by
  refine F.ok sc_l_is_good (fun vs H Q E h => ?_) (fun cdv A outer s H vs Q E hr h => ?_)
  · obtain ⟨dl, ds, e, L, S, n, l, x, rfl, _⟩ := h
    rfl
  · obtain ⟨dl, ds, v, L, S, n, l, o, rfl, hdl, hst, hT, hI, q⟩ := h
    have hu := hu_of hr
    refine ⟨_, (pss_cons (ps_if (PW.pt (pw_or (pt_not (pt_val (pe_cal G.law_is_kind (hr.mono (by decide)) pass0 (pa_cons (pv 0) (pa_cons (pv 3) pa_nil))))) (pw_or1 (PW.pt (pw_and (pt_cmpR op_notN (pv 2) pe_non (nomark _)) (pw_and1 (pt_cmpR op_lt (pe_ix ix_tup (pv 3) (pe_op op_sub (pe_callB call_len_seq (by rfl) B.len (by decide +kernel) (pa_cons (pv 3) pa_nil)) pe_int) (fun _ _ => rfl)) (pv 2) (nomark _))))))))
      (pss_one (ps_ret pe_bl))
      pss_nil)
    (pss_cons (ps_set (i := 4) sc_l_is_good.nd rfl (Or.inl rfl) (pe_ix ix_tup (pv 3) (pe_op op_sub (pe_callB call_len_seq (by rfl) B.len (by decide +kernel) (pa_cons (pv 3) pa_nil)) pe_int) (fun _ _ => rfl)))
    (pss_cons (ps_if (pt_cmpR op_eq (pe_ix ix_tup (pv 3) pe_int (fun _ _ => rfl)) pe_str (nomark _))
      (pss_one (ps_ret (pe_and (pe_cmp (pc_dnotin hu (pe_ix ix_tup (pv 3) pe_int (fun _ _ => rfl)) (pv 1)) rfl) (pe_one (pe_chain op_le op_le (pe_ix ix_tup (pv 3) pe_int (fun _ _ => rfl)) (pv 4) (pe_op op_add (pe_ix ix_tup (pv 3) pe_int (fun _ _ => rfl)) (pe_dget hu (pv 0) (pe_ix ix_tup (pv 3) pe_int (fun _ _ => rfl)) (fun _ _ => rfl))))))))
      pss_nil)
    (pss_cons (ps_if (PW.pt (pw_or (pt_cmp (pc_dnotin hu (pe_ix ix_tup (pv 3) pe_int (fun _ _ => rfl)) (pv 1)) rfl) (pw_or1 (pt_cmpR op_isN (pe_dget hu (pv 1) (pe_ix ix_tup (pv 3) pe_int (fun _ _ => rfl)) (fun _ _ => rfl)) pe_non (nomark _)))))
      (pss_one (ps_ret pe_bl))
      pss_nil)
    (pss_cons (ps_set (i := 5) sc_l_is_good.nd rfl (Or.inl rfl) (pe_dget hu (pv 1) (pe_ix ix_tup (pv 3) pe_int (fun _ _ => rfl)) (fun _ _ => rfl)))
    (pss_cons (ps_set (i := 6) sc_l_is_good.nd rfl (Or.inl rfl) (pe_dget hu (pv 0) (pe_ix ix_tup (pv 5) pe_int (fun _ _ => rfl)) (fun _ _ => rfl)))
    (pss_cons (ps_if (pt_cmpR op_gt (pv 4) (pe_op op_add (pe_ix ix_tup (pv 5) pe_int (fun _ _ => rfl)) (pv 6)) (nomark _))
      (pss_one (ps_ret pe_bl))
      pss_nil)
    (pss_one (ps_ret (pe_or (pe_cmpR op_eq (pe_ix ix_tup (pv 3) pe_int (fun _ _ => rfl)) pe_str (nomark _)) (pe_one (pe_chain op_le op_le (pe_ix ix_tup (pv 3) pe_int (fun _ _ => rfl)) (pv 4) (pe_op op_add (pe_ix ix_tup (pv 3) pe_int (fun _ _ => rfl)) (pv 6)))))))))))))), ?_⟩
    cases o with
    | none =>
      obtain ⟨th, hT, hg⟩ := hT
      refine ⟨_, rfl, _, rfl, dl, v, L, th, rfl, hdl, hT, fun H1 s1 => ?_⟩
      have hk : kindB L th = false := by
        cases th with
        | no => rfl
        | tup is => exact (congrArg (· && inL L is) hg).trans (Bool.false_and _)
      rw [hk]
      exact ⟨_, rfl, iteT (q H1 s1)⟩
    | some x =>
    obtain ⟨e, rfl, he0, hok⟩ := hT
    refine ⟨_, rfl, _, rfl, dl, .ref e, L, .tup x.its, rfl, hdl, thA_of he0 hok, fun H1 s1 => ?_⟩
    have he : EntAt H1 e x := s1 _ _ he0
    have hdl : H1 dl = some (.dK (LK L)) := s1 _ _ hdl
    have hst := hst.same s1
    have q := q H1 s1
    have hgk : kindB L (.tup x.its) = inL L x.its := (congrArg (· && inL L x.its) (gT_of hok)).trans (Bool.true_and _)
    rw [hgk]
    cases hin : inL L x.its with
    | false =>
      have hgd : good? L S l x = false := by
        cases x with
        | row id z k m a r =>
          have hin : (!decide (("row" : Str) = "row") || (L.lookup z).isSome) = false := hin
          rw [decide_eq_true rfl] at hin
          have hz : L.lookup z = none := Option.not_isSome_iff_eq_none.mp (by rw [show (L.lookup z).isSome = false from hin]; exact fun h => nomatch h)
          show (!late? l r && (behind L _ (S id)).isSome) = false
          have : behind L (.row id z k m a r) (S id) = none := by
            cases S id with
            | some y => rfl
            | none => show (L.lookup z).bind _ = none; rw [hz]; rfl
          rw [this]
          exact Bool.and_false _
        | fix id m a r => rw [show inL L (Ent.fix id m a r).its = true from rfl] at hin; cases hin
        | gone id r => rw [show inL L (Ent.gone id r).its = true from rfl] at hin; cases hin
      have q : Q (.bl (good? L S l x)) H1 := q
      rw [hgd] at q
      exact ⟨_, rfl, iteT q⟩
    | true =>
    have hI : (∀ id s k m a, S id = some (.at_ s k m a) → (L.lookup s).isSome) ∧ ∀ id s k m a r, x = .row id s k m a r → (L.lookup s).isSome := ⟨hI, by
      rintro id z k m a r rfl
      have hin : (!decide (("row" : Str) = "row") || (L.lookup z).isSome) = true := hin
      rw [decide_eq_true rfl] at hin
      exact hin⟩
    have q : Q (.bl (good? L S l x)) H1 := q
    generalize H1 = H at he hdl hst q
    obtain ⟨kvs, hd1, hkl, hk2, hsv⟩ := id hst
    have no (b : Bool) (e0 : good? L S l x = b) : Q (.bl b) H := e0 ▸ q
    have lk (s : Str) (hs : (L.lookup s).isSome) : ∃ lt, L.lookup s = some lt ∧ DGet H dl (.str s) (some (.int lt)) := by
      obtain ⟨lt, hlt⟩ := Option.isSome_iff_exists.mp hs
      have := DGet.k (k := Sum.inr s) hdl
      rw [LK_val, hlt] at this
      exact ⟨lt, hlt, this⟩
    have st (id : Int) : (S id = none ∧ DGet H ds (.int id) none) ∨ (S id = some .tb ∧ DGet H ds (.int id) (some .non)) ∨ ∃ s k m a t, S id = some (.at_ s k m a) ∧ DGet H ds (.int id) (some (.ref t)) ∧ H t = some (.tup [.str s, .str k, .int m, .int a]) := by
      have sv := hsv id
      have hg := DGet.k (k := Sum.inl id) hd1
      cases ev : valV kvs (Sum.inl id : Key) with
      | none =>
        rw [ev] at sv hg
        cases eS : S id with
        | none => exact .inl ⟨rfl, hg⟩
        | some y => rw [eS] at sv; exact absurd sv (fun z => z)
      | some v =>
        rw [ev] at sv hg
        cases eS : S id with
        | none => rw [eS] at sv; exact absurd sv (fun z => z)
        | some y =>
          rw [eS] at sv
          cases y with
          | tb => obtain rfl : v = .non := sv; exact .inr (.inl ⟨rfl, hg⟩)
          | at_ s k m a => obtain ⟨t, rfl, ht⟩ := sv; exact .inr (.inr ⟨s, k, m, a, t, rfl, hg, ht⟩)
    cases x with
    | row id s k m a r =>
      cases l with
      | none =>
        have hl : late? none r = false := rfl
        refine ⟨_, rfl, iteF ⟨_, rfl, rfl, _, rfl, iteF ⟨_, rfl, _, rfl, e, _, rfl, .inr (SqT.of he), _, _, rfl, rfl, _, _, _, _, rfl, rfl, SqT.of he, rfl, ?_⟩⟩⟩
        have ge (o) (eS : S id = o) : good? L S none (.row id s k m a r) = (behind L (.row id s k m a r) o).isSome := by
          show (!late? _ r && (behind L _ (S id)).isSome) = _
          rw [hl, eS]; rfl
        obtain ⟨lt, hlt, hgl⟩ := lk s (hI.2 _ _ _ _ _ _ rfl)
        refine ⟨_, rfl, _, _, _, _, rfl, rfl, SqT.of he, rfl, rfl, _, rfl, iteT ?_⟩
        rcases st id with ⟨eS, hg⟩ | h
        · refine ⟨_, rfl, _, _, _, _, rfl, rfl, SqT.of he, rfl, _, rfl, ds, _, rfl, hg, _, rfl, iteT ?_⟩
          have e0 := ge _ eS
          have e1 : (behind L (.row id s k m a r) none).isSome = decide (m ≤ r ∧ r ≤ m + lt) := by
            show ((L.lookup s).bind _).isSome = _
            rw [hlt, Option.bind_some]
            split
            · rename_i c; rw [decide_eq_true c]; rfl
            · rename_i c; rw [decide_eq_false c]; rfl
          rw [e1] at e0
          by_cases c1 : m ≤ r
          · refine ⟨_, rfl, _, _, _, _, rfl, rfl, SqT.of he, rfl, _, rfl, _, _, rfl, rfl, true, congrArg V.bl (decide_eq_true c1), iteT ⟨_, rfl, _, _, _, _, rfl, rfl, SqT.of he, rfl, _, rfl, _, rfl, _, _, _, _, rfl, rfl, SqT.of he, rfl, dl, _, rfl, hgl, _, _, rfl, rfl, _, _, rfl, rfl, ?_⟩⟩
            exact no _ (e0.trans (by congr 1; exact propext ⟨fun z => z.2, fun z => ⟨c1, z⟩⟩))
          · refine ⟨_, rfl, _, _, _, _, rfl, rfl, SqT.of he, rfl, _, rfl, _, _, rfl, rfl, false, congrArg V.bl (decide_eq_false c1), iteF ?_⟩
            exact no _ (e0.trans (decide_eq_false fun z => c1 z.1))
        · have h2 : ∃ y v, S id = some y ∧ DGet H ds (.int id) (some v) := by
            rcases h with ⟨eS, hg⟩ | ⟨_, _, _, _, _, eS, hg, _⟩
            · exact ⟨_, _, eS, hg⟩
            · exact ⟨_, _, eS, hg⟩
          obtain ⟨y, v, eS, hg⟩ := h2
          refine ⟨_, rfl, _, _, _, _, rfl, rfl, SqT.of he, rfl, _, rfl, ds, _, rfl, hg, _, rfl, iteF ?_⟩
          exact no _ (ge _ eS)

      | some t0 =>
        refine ⟨_, rfl, iteF ⟨_, rfl, rfl, _, rfl, iteT ⟨_, rfl, _, rfl, e, _, rfl, .inr (SqT.of he), _, _, rfl, rfl, _, _, _, _, rfl, rfl, SqT.of he, rfl, _, rfl, _, _, rfl, rfl, _, rfl, ?_⟩⟩⟩
        refine ite2 (fun c => ?_) (fun c => ?_)
        · exact no false (by have c := of_decide_eq_true c; show (!decide (r < t0) && _) = false; rw [decide_eq_true c]; rfl)
        · have hl : late? (some t0) r = false := decide_eq_false fun z => c (decide_eq_true z)
          refine ⟨_, rfl, _, rfl, e, _, rfl, .inr (SqT.of he), _, _, rfl, rfl, _, _, _, _, rfl, rfl, SqT.of he, rfl, ?_⟩
          have ge (o) (eS : S id = o) : good? L S (some t0) (.row id s k m a r) = (behind L (.row id s k m a r) o).isSome := by
            show (!late? _ r && (behind L _ (S id)).isSome) = _
            rw [hl, eS]; rfl
          obtain ⟨lt, hlt, hgl⟩ := lk s (hI.2 _ _ _ _ _ _ rfl)
          refine ⟨_, rfl, _, _, _, _, rfl, rfl, SqT.of he, rfl, rfl, _, rfl, iteT ?_⟩
          rcases st id with ⟨eS, hg⟩ | h
          · refine ⟨_, rfl, _, _, _, _, rfl, rfl, SqT.of he, rfl, _, rfl, ds, _, rfl, hg, _, rfl, iteT ?_⟩
            have e0 := ge _ eS
            have e1 : (behind L (.row id s k m a r) none).isSome = decide (m ≤ r ∧ r ≤ m + lt) := by
              show ((L.lookup s).bind _).isSome = _
              rw [hlt, Option.bind_some]
              split
              · rename_i c; rw [decide_eq_true c]; rfl
              · rename_i c; rw [decide_eq_false c]; rfl
            rw [e1] at e0
            by_cases c1 : m ≤ r
            · refine ⟨_, rfl, _, _, _, _, rfl, rfl, SqT.of he, rfl, _, rfl, _, _, rfl, rfl, true, congrArg V.bl (decide_eq_true c1), iteT ⟨_, rfl, _, _, _, _, rfl, rfl, SqT.of he, rfl, _, rfl, _, rfl, _, _, _, _, rfl, rfl, SqT.of he, rfl, dl, _, rfl, hgl, _, _, rfl, rfl, _, _, rfl, rfl, ?_⟩⟩
              exact no _ (e0.trans (by congr 1; exact propext ⟨fun z => z.2, fun z => ⟨c1, z⟩⟩))
            · refine ⟨_, rfl, _, _, _, _, rfl, rfl, SqT.of he, rfl, _, rfl, _, _, rfl, rfl, false, congrArg V.bl (decide_eq_false c1), iteF ?_⟩
              exact no _ (e0.trans (decide_eq_false fun z => c1 z.1))
          · have h2 : ∃ y v, S id = some y ∧ DGet H ds (.int id) (some v) := by
              rcases h with ⟨eS, hg⟩ | ⟨_, _, _, _, _, eS, hg, _⟩
              · exact ⟨_, _, eS, hg⟩
              · exact ⟨_, _, eS, hg⟩
            obtain ⟨y, v, eS, hg⟩ := h2
            refine ⟨_, rfl, _, _, _, _, rfl, rfl, SqT.of he, rfl, _, rfl, ds, _, rfl, hg, _, rfl, iteF ?_⟩
            exact no _ (ge _ eS)

    | fix id m a r =>
      cases l with
      | none =>
        have hl : late? none r = false := rfl
        refine ⟨_, rfl, iteF ⟨_, rfl, rfl, _, rfl, iteF ⟨_, rfl, _, rfl, e, _, rfl, .inr (SqT.of he), _, _, rfl, rfl, _, _, _, _, rfl, rfl, SqT.of he, rfl, ?_⟩⟩⟩
        have ge (o) (eS : S id = o) : good? L S none (.fix id m a r) = (behind L (.fix id m a r) o).isSome := by
          show (!late? _ r && (behind L _ (S id)).isSome) = _
          rw [hl, eS]; rfl
        refine ⟨_, rfl, _, _, _, _, rfl, rfl, SqT.of he, rfl, rfl, _, rfl, iteF ?_⟩
        rcases st id with ⟨eS, hg⟩ | ⟨eS, hg⟩ | ⟨s, k, m0, a0, t, eS, hg, ht⟩
        · refine ⟨_, rfl, _, _, _, _, rfl, rfl, SqT.of he, rfl, _, rfl, ds, _, rfl, hg, _, rfl, iteT ?_⟩
          exact no _ (ge _ eS)
        · refine ⟨_, rfl, _, _, _, _, rfl, rfl, SqT.of he, rfl, _, rfl, ds, _, rfl, hg, _, rfl, iteF ⟨_, rfl, _, rfl, _, _, _, _, rfl, rfl, SqT.of he, rfl, ds, _, rfl, hg, rfl, _, rfl, iteT ?_⟩⟩
          exact no _ (ge _ eS)
        obtain ⟨lt, hlt, hgl⟩ := lk s (hI.1 _ _ _ _ _ eS)
        refine ⟨_, rfl, _, _, _, _, rfl, rfl, SqT.of he, rfl, _, rfl, ds, _, rfl, hg, _, rfl, iteF ⟨_, rfl, _, rfl, _, _, _, _, rfl, rfl, SqT.of he, rfl, ds, _, rfl, hg, rfl, _, rfl, iteF ?_⟩⟩
        refine ⟨_, rfl, _, rfl, _, _, _, _, rfl, rfl, SqT.of he, rfl, ds, _, rfl, hg, _, rfl, _, rfl, _, _, _, _, rfl, rfl, SqT.of ht, rfl, dl, _, rfl, hgl, _, rfl, _, rfl, _, _, _, _, rfl, rfl, SqT.of ht, rfl, _, rfl, _, _, rfl, rfl, _, _, rfl, rfl, _, rfl, ?_⟩
        have e0 := ge _ eS
        have e1 : (behind L (.fix id m a r) (some (.at_ s k m0 a0))).isSome = decide (r ≤ m0 + lt ∧ m ≤ r ∧ r ≤ m + lt) := by
          show ((L.lookup s).bind _).isSome = _
          rw [hlt, Option.bind_some]
          split
          · rename_i c; rw [decide_eq_true c]; rfl
          · rename_i c; rw [decide_eq_false c]; rfl
        rw [e1] at e0
        refine ite2 (fun c => ?_) (fun c => ?_)
        · have c := of_decide_eq_true c
          exact no _ (e0.trans (decide_eq_false fun z => by have := z.1; omega))
        · have c : ¬ m0 + lt < r := fun z => c (decide_eq_true z)
          refine ⟨_, rfl, _, _, _, _, rfl, rfl, SqT.of he, rfl, rfl, _, rfl, iteF ?_⟩
          by_cases c1 : m ≤ r
          · refine ⟨_, rfl, _, _, _, _, rfl, rfl, SqT.of he, rfl, _, rfl, _, _, rfl, rfl, true, congrArg V.bl (decide_eq_true c1), iteT ⟨_, rfl, _, _, _, _, rfl, rfl, SqT.of he, rfl, _, rfl, _, _, rfl, rfl, _, _, rfl, rfl, ?_⟩⟩
            exact no _ (e0.trans (by congr 1; exact propext ⟨fun z => z.2.2, fun z => ⟨by omega, c1, z⟩⟩))
          · refine ⟨_, rfl, _, _, _, _, rfl, rfl, SqT.of he, rfl, _, rfl, _, _, rfl, rfl, false, congrArg V.bl (decide_eq_false c1), iteF ?_⟩
            exact no _ (e0.trans (decide_eq_false fun z => c1 z.2.1))

      | some t0 =>
        refine ⟨_, rfl, iteF ⟨_, rfl, rfl, _, rfl, iteT ⟨_, rfl, _, rfl, e, _, rfl, .inr (SqT.of he), _, _, rfl, rfl, _, _, _, _, rfl, rfl, SqT.of he, rfl, _, rfl, _, _, rfl, rfl, _, rfl, ?_⟩⟩⟩
        refine ite2 (fun c => ?_) (fun c => ?_)
        · exact no false (by have c := of_decide_eq_true c; show (!decide (r < t0) && _) = false; rw [decide_eq_true c]; rfl)
        · have hl : late? (some t0) r = false := decide_eq_false fun z => c (decide_eq_true z)
          refine ⟨_, rfl, _, rfl, e, _, rfl, .inr (SqT.of he), _, _, rfl, rfl, _, _, _, _, rfl, rfl, SqT.of he, rfl, ?_⟩
          have ge (o) (eS : S id = o) : good? L S (some t0) (.fix id m a r) = (behind L (.fix id m a r) o).isSome := by
            show (!late? _ r && (behind L _ (S id)).isSome) = _
            rw [hl, eS]; rfl
          refine ⟨_, rfl, _, _, _, _, rfl, rfl, SqT.of he, rfl, rfl, _, rfl, iteF ?_⟩
          rcases st id with ⟨eS, hg⟩ | ⟨eS, hg⟩ | ⟨s, k, m0, a0, t, eS, hg, ht⟩
          · refine ⟨_, rfl, _, _, _, _, rfl, rfl, SqT.of he, rfl, _, rfl, ds, _, rfl, hg, _, rfl, iteT ?_⟩
            exact no _ (ge _ eS)
          · refine ⟨_, rfl, _, _, _, _, rfl, rfl, SqT.of he, rfl, _, rfl, ds, _, rfl, hg, _, rfl, iteF ⟨_, rfl, _, rfl, _, _, _, _, rfl, rfl, SqT.of he, rfl, ds, _, rfl, hg, rfl, _, rfl, iteT ?_⟩⟩
            exact no _ (ge _ eS)
          obtain ⟨lt, hlt, hgl⟩ := lk s (hI.1 _ _ _ _ _ eS)
          refine ⟨_, rfl, _, _, _, _, rfl, rfl, SqT.of he, rfl, _, rfl, ds, _, rfl, hg, _, rfl, iteF ⟨_, rfl, _, rfl, _, _, _, _, rfl, rfl, SqT.of he, rfl, ds, _, rfl, hg, rfl, _, rfl, iteF ?_⟩⟩
          refine ⟨_, rfl, _, rfl, _, _, _, _, rfl, rfl, SqT.of he, rfl, ds, _, rfl, hg, _, rfl, _, rfl, _, _, _, _, rfl, rfl, SqT.of ht, rfl, dl, _, rfl, hgl, _, rfl, _, rfl, _, _, _, _, rfl, rfl, SqT.of ht, rfl, _, rfl, _, _, rfl, rfl, _, _, rfl, rfl, _, rfl, ?_⟩
          have e0 := ge _ eS
          have e1 : (behind L (.fix id m a r) (some (.at_ s k m0 a0))).isSome = decide (r ≤ m0 + lt ∧ m ≤ r ∧ r ≤ m + lt) := by
            show ((L.lookup s).bind _).isSome = _
            rw [hlt, Option.bind_some]
            split
            · rename_i c; rw [decide_eq_true c]; rfl
            · rename_i c; rw [decide_eq_false c]; rfl
          rw [e1] at e0
          refine ite2 (fun c => ?_) (fun c => ?_)
          · have c := of_decide_eq_true c
            exact no _ (e0.trans (decide_eq_false fun z => by have := z.1; omega))
          · have c : ¬ m0 + lt < r := fun z => c (decide_eq_true z)
            refine ⟨_, rfl, _, _, _, _, rfl, rfl, SqT.of he, rfl, rfl, _, rfl, iteF ?_⟩
            by_cases c1 : m ≤ r
            · refine ⟨_, rfl, _, _, _, _, rfl, rfl, SqT.of he, rfl, _, rfl, _, _, rfl, rfl, true, congrArg V.bl (decide_eq_true c1), iteT ⟨_, rfl, _, _, _, _, rfl, rfl, SqT.of he, rfl, _, rfl, _, _, rfl, rfl, _, _, rfl, rfl, ?_⟩⟩
              exact no _ (e0.trans (by congr 1; exact propext ⟨fun z => z.2.2, fun z => ⟨by omega, c1, z⟩⟩))
            · refine ⟨_, rfl, _, _, _, _, rfl, rfl, SqT.of he, rfl, _, rfl, _, _, rfl, rfl, false, congrArg V.bl (decide_eq_false c1), iteF ?_⟩
              exact no _ (e0.trans (decide_eq_false fun z => c1 z.2.1))

    | gone id r =>
      cases l with
      | none =>
        have hl : late? none r = false := rfl
        refine ⟨_, rfl, iteF ⟨_, rfl, rfl, _, rfl, iteF ⟨_, rfl, _, rfl, e, _, rfl, .inr (SqT.of he), _, _, rfl, rfl, _, _, _, _, rfl, rfl, SqT.of he, rfl, ?_⟩⟩⟩
        have ge (o) (eS : S id = o) : good? L S none (.gone id r) = (behind L (.gone id r) o).isSome := by
          show (!late? _ r && (behind L _ (S id)).isSome) = _
          rw [hl, eS]; rfl
        refine ⟨_, rfl, _, _, _, _, rfl, rfl, SqT.of he, rfl, rfl, _, rfl, iteF ?_⟩
        rcases st id with ⟨eS, hg⟩ | ⟨eS, hg⟩ | ⟨s, k, m0, a0, t, eS, hg, ht⟩
        · refine ⟨_, rfl, _, _, _, _, rfl, rfl, SqT.of he, rfl, _, rfl, ds, _, rfl, hg, _, rfl, iteT ?_⟩
          exact no _ (ge _ eS)
        · refine ⟨_, rfl, _, _, _, _, rfl, rfl, SqT.of he, rfl, _, rfl, ds, _, rfl, hg, _, rfl, iteF ⟨_, rfl, _, rfl, _, _, _, _, rfl, rfl, SqT.of he, rfl, ds, _, rfl, hg, rfl, _, rfl, iteT ?_⟩⟩
          exact no _ (ge _ eS)
        obtain ⟨lt, hlt, hgl⟩ := lk s (hI.1 _ _ _ _ _ eS)
        refine ⟨_, rfl, _, _, _, _, rfl, rfl, SqT.of he, rfl, _, rfl, ds, _, rfl, hg, _, rfl, iteF ⟨_, rfl, _, rfl, _, _, _, _, rfl, rfl, SqT.of he, rfl, ds, _, rfl, hg, rfl, _, rfl, iteF ?_⟩⟩
        refine ⟨_, rfl, _, rfl, _, _, _, _, rfl, rfl, SqT.of he, rfl, ds, _, rfl, hg, _, rfl, _, rfl, _, _, _, _, rfl, rfl, SqT.of ht, rfl, dl, _, rfl, hgl, _, rfl, _, rfl, _, _, _, _, rfl, rfl, SqT.of ht, rfl, _, rfl, _, _, rfl, rfl, _, _, rfl, rfl, _, rfl, ?_⟩
        have e0 := ge _ eS
        have e1 : (behind L (.gone id r) (some (.at_ s k m0 a0))).isSome = decide (r ≤ m0 + lt) := by
          show ((L.lookup s).bind _).isSome = _
          rw [hlt, Option.bind_some]
          split
          · rename_i c; rw [decide_eq_true c]; rfl
          · rename_i c; rw [decide_eq_false c]; rfl
        rw [e1] at e0
        refine ite2 (fun c => ?_) (fun c => ?_)
        · have c := of_decide_eq_true c
          exact no _ (e0.trans (decide_eq_false (by omega)))
        · have c : ¬ m0 + lt < r := fun z => c (decide_eq_true z)
          refine ⟨_, rfl, _, _, _, _, rfl, rfl, SqT.of he, rfl, rfl, _, rfl, iteT ?_⟩
          exact no _ (e0.trans (decide_eq_true (by omega)))

      | some t0 =>
        refine ⟨_, rfl, iteF ⟨_, rfl, rfl, _, rfl, iteT ⟨_, rfl, _, rfl, e, _, rfl, .inr (SqT.of he), _, _, rfl, rfl, _, _, _, _, rfl, rfl, SqT.of he, rfl, _, rfl, _, _, rfl, rfl, _, rfl, ?_⟩⟩⟩
        refine ite2 (fun c => ?_) (fun c => ?_)
        · exact no false (by have c := of_decide_eq_true c; show (!decide (r < t0) && _) = false; rw [decide_eq_true c]; rfl)
        · have hl : late? (some t0) r = false := decide_eq_false fun z => c (decide_eq_true z)
          refine ⟨_, rfl, _, rfl, e, _, rfl, .inr (SqT.of he), _, _, rfl, rfl, _, _, _, _, rfl, rfl, SqT.of he, rfl, ?_⟩
          have ge (o) (eS : S id = o) : good? L S (some t0) (.gone id r) = (behind L (.gone id r) o).isSome := by
            show (!late? _ r && (behind L _ (S id)).isSome) = _
            rw [hl, eS]; rfl
          refine ⟨_, rfl, _, _, _, _, rfl, rfl, SqT.of he, rfl, rfl, _, rfl, iteF ?_⟩
          rcases st id with ⟨eS, hg⟩ | ⟨eS, hg⟩ | ⟨s, k, m0, a0, t, eS, hg, ht⟩
          · refine ⟨_, rfl, _, _, _, _, rfl, rfl, SqT.of he, rfl, _, rfl, ds, _, rfl, hg, _, rfl, iteT ?_⟩
            exact no _ (ge _ eS)
          · refine ⟨_, rfl, _, _, _, _, rfl, rfl, SqT.of he, rfl, _, rfl, ds, _, rfl, hg, _, rfl, iteF ⟨_, rfl, _, rfl, _, _, _, _, rfl, rfl, SqT.of he, rfl, ds, _, rfl, hg, rfl, _, rfl, iteT ?_⟩⟩
            exact no _ (ge _ eS)
          obtain ⟨lt, hlt, hgl⟩ := lk s (hI.1 _ _ _ _ _ eS)
          refine ⟨_, rfl, _, _, _, _, rfl, rfl, SqT.of he, rfl, _, rfl, ds, _, rfl, hg, _, rfl, iteF ⟨_, rfl, _, rfl, _, _, _, _, rfl, rfl, SqT.of he, rfl, ds, _, rfl, hg, rfl, _, rfl, iteF ?_⟩⟩
          refine ⟨_, rfl, _, rfl, _, _, _, _, rfl, rfl, SqT.of he, rfl, ds, _, rfl, hg, _, rfl, _, rfl, _, _, _, _, rfl, rfl, SqT.of ht, rfl, dl, _, rfl, hgl, _, rfl, _, rfl, _, _, _, _, rfl, rfl, SqT.of ht, rfl, _, rfl, _, _, rfl, rfl, _, _, rfl, rfl, _, rfl, ?_⟩
          have e0 := ge _ eS
          have e1 : (behind L (.gone id r) (some (.at_ s k m0 a0))).isSome = decide (r ≤ m0 + lt) := by
            show ((L.lookup s).bind _).isSome = _
            rw [hlt, Option.bind_some]
            split
            · rename_i c; rw [decide_eq_true c]; rfl
            · rename_i c; rw [decide_eq_false c]; rfl
          rw [e1] at e0
          refine ite2 (fun c => ?_) (fun c => ?_)
          · have c := of_decide_eq_true c
            exact no _ (e0.trans (decide_eq_false (by omega)))
          · have c : ¬ m0 + lt < r := fun z => c (decide_eq_true z)
            refine ⟨_, rfl, _, _, _, _, rfl, rfl, SqT.of he, rfl, rfl, _, rfl, iteT ?_⟩
            exact no _ (e0.trans (decide_eq_true (by omega)))

end
end Ash

set_option Elab.async false
set_option linter.all false
set_option maxRecDepth 100000
set_option maxHeartbeats 400000
set_option pp.maxSteps 100
namespace Ash
open PySem PySem.Spec PyProof.Rows L2
open C8 (pss_cut)
/-! ### the first thing that is no good entry -/
theorem behind_in {L : List (Str × Int)} {x : Ent} {o : Option RowSt} {s k : Str} {m a : Int} (h : behind L x o = some (.at_ s k m a)) : (L.lookup s).isSome := by
  cases x with
  | row id z k1 m1 a1 r =>
    cases o with
    | some o => exact nomatch h
    | none =>
      have h : (L.lookup z).bind _ = some (RowSt.at_ s k m a) := h
      cases e : L.lookup z with
      | none => rw [e] at h; cases h
      | some l =>
        rw [e, Option.bind_some] at h
        split at h
        · cases h; rw [e]; rfl
        · cases h
  | fix id m1 a1 r =>
    cases o with
    | none => exact nomatch h
    | some o =>
      cases o with
      | tb => exact nomatch h
      | at_ z k1 m0 a0 =>
        have h : (L.lookup z).bind _ = some (RowSt.at_ s k m a) := h
        cases e : L.lookup z with
        | none => rw [e] at h; cases h
        | some l =>
          rw [e, Option.bind_some] at h
          split at h
          · cases h; rw [e]; rfl
          · cases h
  | gone id r =>
    cases o with
    | none => exact nomatch h
    | some o =>
      cases o with
      | tb => exact nomatch h
      | at_ z k1 m0 a0 =>
        have h : (L.lookup z).bind _ = some (RowSt.at_ s k m a) := h
        cases e : L.lookup z with
        | none => rw [e] at h; cases h
        | some l =>
          rw [e, Option.bind_some] at h
          split at h <;> cases h
theorem StIn.put {L : List (Str × Int)} {S : Kn} {x : Ent} {y : RowSt} (h : StIn L S) (hb : behind L x (S x.id) = some y) : StIn L (setK S x.id y) := by
  intro id s k m a e
  by_cases c : id = x.id
  · have e' : some y = some (.at_ s k m a) := by rw [← e]; show _ = (if id = x.id then _ else _); rw [if_pos c]
    cases e'
    exact behind_in hb
  · have e' : S id = some (.at_ s k m a) := by rw [← e]; show _ = (if id = x.id then _ else _); rw [if_neg c]
    exact h _ _ _ _ _ e'
theorem take_succ {α : Type} {xs : List α} {i : Nat} {x : α} (h : xs[i]? = some x) : xs.take (i + 1) = xs.take i ++ [x] := by
  rw [List.take_add_one, h]
  rfl
theorem good_step {L : List (Str × Int)} {ths : List (Option Ent)} {xs : List Ent} {i : Nat} {o : Option Ent} {S : Kn} (ho : ths[i]? = some o) (ht : ths.take i = xs.map some) (hk : wk L (xs.map some) 0 (fun _ => none) none = (none, S)) :
    (goodO L S (lastA xs none) o = true ∧ ∃ x y, o = some x ∧ behind L x (S x.id) = some y ∧ ths.take (i + 1) = (xs ++ [x]).map some ∧ wk L ((xs ++ [x]).map some) 0 (fun _ => none) none = (none, setK S x.id y)) ∨
    (goodO L S (lastA xs none) o = false ∧ firstB L ths = some i) := by
  have hil := (List.getElem?_eq_some_iff.mp ho).1
  have xl : xs.length = i := by
    have := congrArg List.length ht
    rw [List.length_take, List.length_map, Nat.min_eq_left (by omega)] at this
    exact this.symm
  have all : wk L ths 0 (fun _ => none) none = wk L (o :: ths.drop (i + 1)) i S (lastA xs none) := by
    have e : ths = xs.map some ++ o :: ths.drop (i + 1) := by
      rw [← ht]
      have e2 := (List.getElem?_eq_some_iff.mp ho).2
      have e3 := List.drop_eq_getElem_cons hil
      rw [e2] at e3
      conv => lhs; rw [← List.take_append_drop i ths]
      rw [e3]
    conv => lhs; rw [e]
    rw [wk_app _ hk, Nat.zero_add, xl]
  cases o with
  | none => exact .inr ⟨rfl, by unfold firstB; rw [all, wk_odd]⟩
  | some x =>
    by_cases c : late? (lastA xs none) x.arr = true
    · exact .inr ⟨by show good? _ _ _ _ = _; unfold good?; rw [c]; rfl, by unfold firstB; rw [all, wk_late c]⟩
    · have c : late? (lastA xs none) x.arr = false := Bool.eq_false_iff.mpr c
      cases hb : behind L x (S x.id) with
      | none => exact .inr ⟨by show good? _ _ _ _ = _; unfold good?; rw [c, hb]; rfl, by unfold firstB; rw [all, wk_bad c hb]⟩
      | some y =>
        refine .inl ⟨by show good? _ _ _ _ = _; unfold good?; rw [c, hb]; rfl, x, y, rfl, hb, ?_, ?_⟩
        · rw [take_succ ho, ht, List.map_append]; rfl
        · rw [List.map_append, wk_app _ hk]
          show wk L [some x] _ S _ = _
          rw [wk_go c hb]
          rfl
def spBad (K : PySem.W.Frag) : Sp := fun vs H Q _ => ∃ (dl a : Addr) (L : List (Str × Int)) (us : List V) (ths : List (Option Ent)), vs = [.ref dl, .ref a] ∧ H dl = some (.dK (LK L)) ∧ H a = some (.lst us) ∧ us.length ≤ 450 ∧ Things K H us ths ∧
  ∀ H', Same H H' → Q (atV (firstB L ths)) H'
section
variable {P : Program} {w : World} {K : PySem.W.Frag} {mg : Str → Option Value} {base : Heap}
structure GB1 (P : Program) (w : World) (K : PySem.W.Frag) (mg : Str → Option Value) (base : Heap) : Prop where
  law_put : Cal P w K mg base CX0 "_law_put" 1 ["_law_states", "_law_entry_here"] spPut
  law_is_good : Cal P w K mg base CX0 "_law_is_good" 4 ["_law_lates_here", "_law_states", "_law_last", "_law_entry_here"] (spGood K)
abbrev s_l_first_bad : Stmt := topS 45
theorem sc_l_first_bad : FnScope ["_law_lates_here", "_law_entries_here", "_law_states", "_law_last", "_law_at"] ["_law_lates_here", "_law_entries_here"] (defScope s_l_first_bad) := ⟨rfl, rfl, rfl, by decide +kernel, rfl, by decide +kernel, by decide +kernel⟩
theorem ok_bad {f : Addr} {fd : FuncData} (F : Fun K "_law_first_bad" "_law_first_bad" s_l_first_bad f fd) (B : Blt mg) (G : GB1 P w K mg base) : FnOk P w K mg base CX0 5 f fd ["_law_lates_here", "_law_entries_here"] (spBad K) := by
  refine F.ok sc_l_first_bad (fun vs H Q E h => ?_) (fun cdv A outer s H vs Q E hr h => ?_)
  · obtain ⟨dl, a, L, us, xs, rfl, _⟩ := h
    rfl
  · obtain ⟨dl, a, L, us, ths, rfl, hdl, ha, h9, hE, q⟩ := h
    have hu := hu_of hr
    refine ⟨_, (pss_cons (ps_set (i := 2) sc_l_first_bad.nd rfl (Or.inl rfl) pe_dnewK)
    (pss_cons (ps_set (i := 3) sc_l_first_bad.nd rfl (Or.inl rfl) pe_non)
    (pss_cons (ps_for PassesOwn.never rfl (pi_range1 (by rfl) B.range (pa_cons (pe_callB call_len_seq (by rfl) B.len (by decide +kernel) (pa_cons (pv 1) pa_nil)) pa_nil)) (pg_name (i := 4) sc_l_first_bad.nd rfl (Or.inl rfl))
      (pss_cons (ps_if (pt_not (pt_val (pe_cal G.law_is_good (hr.mono (by decide)) pass0 (pa_cons (pv 0) (pa_cons (pv 2) (pa_cons (pv 3) (pa_cons (pe_ix ix_list (pv 1) (pv 4) (fun _ _ => rfl)) pa_nil)))))))
        (pss_one (ps_ret (pv 4)))
        pss_nil)
      (pss_cons (ps_expr (pe_cal G.law_put (hr.mono (by decide)) pass0 (pa_cons (pv 2) (pa_cons (pe_ix ix_list (pv 1) (pv 4) (fun _ _ => rfl)) pa_nil))))
      (pss_one (ps_set (i := 3) sc_l_first_bad.nd rfl (Or.inl rfl) (pe_ix ix_tup (pe_ix ix_list (pv 1) (pv 4) (fun _ _ => rfl)) (pe_op op_sub (pe_callB call_len_seq (by rfl) B.len (by decide +kernel) (pa_cons (pe_ix ix_list (pv 1) (pv 4) (fun _ _ => rfl)) pa_nil)) pe_int) (fun _ _ => rfl)))))))
    (pss_one (ps_ret pe_non))))), ?_⟩
    intro d hd
    have s1 := sameAt (Same.refl H) hd (o := .dK [])
    have hEl := hE.1
    refine ⟨_, rfl, a, _, rfl, .inl (SqL.of (s1 _ _ ha)), _, rfl, (by omega), (by omega), for_range (n := us.length) (fun i σ H1 => ∃ Si xs, (∃ b, σ = [some (.ref dl), some (.ref a), some (.ref d), some (LastV (lastA xs none)), b]) ∧ ths.take i = xs.map some ∧ wk L (xs.map some) 0 (fun _ => none) none = (none, Si) ∧ StIn L Si ∧ StAt H1 d Si i ∧ Same H H1) ?_ ?_ ?_⟩
    · exact ⟨fun _ => none, [], ⟨_, rfl⟩, rfl, rfl, (fun _ _ _ _ _ h => nomatch h), ⟨[], upd_same, Nat.zero_le _, (fun _ h => nomatch h), fun id => True.intro⟩, s1⟩
    · rintro i σ H1 hi ⟨Si, xs, ⟨b, rfl⟩, ht, hw, hSt, hst, sH⟩
      rw [show ((0 : Int) + (i : Int)) = i from Int.zero_add _]
      obtain ⟨o, ho⟩ : ∃ o, ths[i]? = some o := ⟨_, List.getElem?_eq_getElem (by omega)⟩
      obtain ⟨v, hv⟩ : ∃ v, us[i]? = some v := ⟨_, List.getElem?_eq_getElem hi⟩
      have hTh := hE.2 i v o hv ho
      refine ⟨_, rfl, _, rfl, _, rfl, _, rfl, _, rfl, _, _, _, v, rfl, rfl, SqL.of (sH _ _ ha), atI_nat hv, dl, d, v, L, Si, i, lastA xs none, o, rfl, sH _ _ hdl, hst, hTh.same sH, hSt, fun H2 s2 => ⟨_, rfl, ?_⟩⟩
      have sH2 := sH.trans s2
      rcases good_step ho ht hw with ⟨hg, x, y, rfl, hb, ht1, hw1⟩ | ⟨hg, hr1⟩
      · rw [hg]
        refine iteF ?_
        obtain ⟨e, rfl, he, hok⟩ := hTh
        refine ⟨_, rfl, _, rfl, _, rfl, _, _, _, V.ref e, rfl, rfl, SqL.of (sH2 _ _ ha), atI_nat hv, d, e, L, Si, i, x, y, rfl, hst.same s2, (by omega), sH2 _ _ he, hb, fun H3 st3 k3 => ?_⟩
        have sd : Same H H3 := fun c o hc => k3 c o (sH2 _ _ hc) (fun z => by rw [z, hd] at hc; cases hc)
        refine ⟨_, rfl, _, rfl, _, _, _, V.ref e, rfl, rfl, SqL.of (sd _ _ ha), atI_nat hv, _, rfl, _, rfl, _, _, _, V.ref e, rfl, rfl, SqL.of (sd _ _ ha), atI_nat hv, e, _, rfl, .inr (SqT.of (sd _ _ he)), _, _, rfl, rfl, _, _, _, V.int x.arr, rfl, rfl, SqT.of (sd _ _ he), (by cases x <;> rfl), ?_⟩
        exact ⟨setK Si x.id y, xs ++ [x], ⟨_, by rw [lastA_snoc]; rfl⟩, ht1, hw1, hSt.put hb, st3, sd⟩
      · rw [hg]
        refine iteT ⟨_, rfl, ?_⟩
        have := q H2 sH2
        rw [hr1] at this
        exact this
    · rintro σ H1 ⟨Si, xs, ⟨b, rfl⟩, ht, hw, hSt, hst, sH⟩
      have := q H1 sH
      rw [hEl, List.take_length] at ht
      unfold firstB at this
      rw [ht, hw] at this
      exact this
end
end Ash

set_option Elab.async false
set_option linter.all false
set_option maxRecDepth 100000
set_option maxHeartbeats 400000
set_option pp.maxSteps 200
namespace Ash
open PySem PySem.Spec PyProof.Rows L2
open C8 (pss_cut)
/-! ### odd things -/
inductive Od
  | non | bl (b : Bool) | int (n : Int) | str (z : Str) | t0 | l0 | d0 | t1 | deep | l1 | bk
def DeepAt (H : Hp) : Nat → V → Prop
  | 0, v => ∃ a, v = .ref a ∧ H a = some (.tup [.int 0])
  | n + 1, v => ∃ a w, v = .ref a ∧ H a = some (.tup [w]) ∧ DeepAt H n w
def deepD : Nat → PyData
  | 0 => .tuple [.int 0]
  | n + 1 => .tuple [deepD n]
def OdAt (CB : Addr) (H : Hp) (v : V) : Od → Prop
  | .non => v = .non
  | .bl b => v = .bl b
  | .int n => v = .int n
  | .str z => v = .str z ∧ z.length ≤ 20
  | .t0 => ∃ a, v = .ref a ∧ H a = some (.tup [])
  | .l0 => ∃ a, v = .ref a ∧ H a = some (.lst [])
  | .d0 => ∃ a, v = .ref a ∧ H a = some (.dK [])
  | .t1 => ∃ a, v = .ref a ∧ H a = some (.tup [.str "row"])
  | .deep => DeepAt H 12 v
  | .l1 => ∃ a, v = .ref a ∧ H a = some (.lst [.int 0])
  | .bk => ∃ b L, v = .ref b ∧ BookAt CB H b L
section
variable {K : PySem.W.Frag} {H H' : Hp} {CB : Addr}
theorem DeepAt.tk (s : TK H H') : ∀ {n : Nat} {v : V}, DeepAt H n v → DeepAt H' n v
  | 0, _, ⟨a, e, h⟩ => ⟨a, e, s _ _ h⟩
  | _ + 1, _, ⟨a, w, e, h, t⟩ => ⟨a, w, e, s _ _ h, t.tk s⟩
theorem DeepAt.dp : ∀ {n : Nat} {v : V}, DeepAt H n v → Dp K H v (deepD n)
  | 0, _, ⟨a, e, h⟩ => e ▸ .tup (SqT.of h) (.cons (.int 0) .nil)
  | _ + 1, _, ⟨a, w, e, h, t⟩ => e ▸ .tup (SqT.of h) (.cons t.dp .nil)
theorem OdAt.same {v : V} {o : Od} (h : OdAt CB H v o) (s : Same H H') : OdAt CB H' v o := by
  cases o with
  | non => exact h
  | bl b => exact h
  | int n => exact h
  | str z => exact h
  | t0 => obtain ⟨a, e, h⟩ := h; exact ⟨a, e, s _ _ h⟩
  | l0 => obtain ⟨a, e, h⟩ := h; exact ⟨a, e, s _ _ h⟩
  | d0 => obtain ⟨a, e, h⟩ := h; exact ⟨a, e, s _ _ h⟩
  | t1 => obtain ⟨a, e, h⟩ := h; exact ⟨a, e, s _ _ h⟩
  | deep => exact DeepAt.tk (tk_same s) h
  | l1 => obtain ⟨a, e, h⟩ := h; exact ⟨a, e, s _ _ h⟩
  | bk => obtain ⟨b, L, e, h⟩ := h; exact ⟨b, L, e, h.same s⟩
theorem OdAt.pl {p s : Addr} {v : V} {o : Od} (h : OdAt CB H v o) (P0 : PoolAt H p s) (P : Pl H H' p s) : OdAt CB H' v o := by
  obtain ⟨ns, i, c, k, m, hp, _⟩ := id P0
  cases o with
  | non => exact h
  | bl b => exact h
  | int n => exact h
  | str z => exact h
  | t0 => obtain ⟨a, e, h⟩ := h; exact ⟨a, e, P.keep h (ne_of h hp (by intro z; cases z))⟩
  | l0 => obtain ⟨a, e, h⟩ := h; exact ⟨a, e, P.keep h (ne_of h hp (by intro z; cases z))⟩
  | d0 => obtain ⟨a, e, h⟩ := h; exact ⟨a, e, P.keep h (ne_of h hp (by intro z; cases z))⟩
  | t1 => obtain ⟨a, e, h⟩ := h; exact ⟨a, e, P.keep h (ne_of h hp (by intro z; cases z))⟩
  | deep => exact DeepAt.tk (P.tk P0) h
  | l1 => obtain ⟨a, e, h⟩ := h; exact ⟨a, e, P.keep h (ne_of h hp (by intro z; cases z))⟩
  | bk => obtain ⟨b, L, e, h⟩ := h; exact ⟨b, L, e, h.pl P0 P⟩
/-- a row of refs -/
def RefL (u : HO) : Prop := ∃ ys, u = .lst ys ∧ ys ≠ [] ∧ ∀ w ∈ ys, ∃ a, w = .ref a
/-- nothing has changed but rows of refs -/
def RL (H H' : Hp) : Prop := ∀ c u, H c = some u → ¬ RefL u → H' c = some u
theorem RL.refl (H : Hp) : RL H H := fun _ _ h _ => h
theorem RL.of (s : Same H H') : RL H H' := fun c u h _ => s c u h
theorem RL.trans {H2 : Hp} (a : RL H H') (b : RL H' H2) : RL H H2 := fun c u h n => b c u (a c u h n) n
theorem rl_tup {xs : List V} : ¬ RefL (.tup xs) := fun ⟨_, e, _⟩ => by cases e
theorem rl_dk {xs : List (Key × V)} : ¬ RefL (.dK xs) := fun ⟨_, e, _⟩ => by cases e
theorem rl_off {l : Addr} {ys zs : List V} (h : H l = some (.lst ys)) (r : RefL (.lst ys)) : RL H (upd H l (.lst zs)) := fun c u hc n => by
  by_cases e : c = l
  · rw [e, h] at hc
    cases hc
    exact absurd r n
  · rw [upd_ne e]
    exact hc
theorem OdAt.rl {v : V} {o : Od} (h : OdAt CB H v o) (s : RL H H') : OdAt CB H' v o := by
  cases o with
  | non => exact h
  | bl b => exact h
  | int n => exact h
  | str z => exact h
  | t0 => obtain ⟨a, e, h⟩ := h; exact ⟨a, e, s _ _ h rl_tup⟩
  | l0 => obtain ⟨a, e, h⟩ := h; exact ⟨a, e, s _ _ h fun ⟨ys, e, n, _⟩ => by cases e; exact n rfl⟩
  | d0 => obtain ⟨a, e, h⟩ := h; exact ⟨a, e, s _ _ h rl_dk⟩
  | t1 => obtain ⟨a, e, h⟩ := h; exact ⟨a, e, s _ _ h rl_tup⟩
  | deep => exact DeepAt.tk (fun t xs e => s _ _ e rl_tup) h
  | l1 =>
    obtain ⟨a, e, h⟩ := h
    exact ⟨a, e, s _ _ h fun ⟨ys, e, n, f⟩ => by
      cases e
      obtain ⟨a, e⟩ := f _ List.mem_cons_self
      cases e⟩
  | bk =>
    obtain ⟨b, L, e, dx, d, L', h1, h2, h3⟩ := h
    exact ⟨b, L, e, dx, d, L', s _ _ h1 (fun ⟨_, e, _⟩ => by cases e), s _ _ h2 rl_dk, h3⟩
/-- what the class of books is not -/
structure BkT (K : PySem.W.Frag) (CB : Addr) : Prop where
  me : BkC K CB
  ty : ∀ H b dx fs, H b = some (.ins CB dx fs) → TyX K H (.ref b) (.ref CB)
  int : PySem.W.kitOne K (.ref CB) (.type "int") = some false
  bool : PySem.W.kitOne K (.ref CB) (.type "bool") = some false
  str : PySem.W.kitOne K (.ref CB) (.type "str") = some false
  tuple : PySem.W.kitOne K (.ref CB) (.type "tuple") = some false
  list : PySem.W.kitOne K (.ref CB) (.type "list") = some false
theorem BkT.at (T : BkT K CB) {b : Addr} {L : List (Str × Int)} (h : BookAt CB H b L) : TyX K H (.ref b) (.ref CB) := by
  obtain ⟨dx, d, L', h1, h2⟩ := h
  exact T.ty _ _ _ _ h1
theorem nes_dp {v : V} {d : PyData} (h : ∀ H', Same H H' → Dp K H' v d) (k : SeqAt.shaped d = true) (e : ∀ z, PyData.eqv d (.str z) = false) : NeS K H v := .inr (.inl ⟨d, h, k, e⟩)
theorem deep_item {n : Nat} (hn : n ≤ 12) {v : V} (h : DeepAt H n v) : ItA K H v .oth := by
  obtain ⟨a, us, e, ha⟩ : ∃ a us, v = .ref a ∧ H a = some (.tup us) := by
    cases n with
    | zero => obtain ⟨a, e, h⟩ := h; exact ⟨a, _, e, h⟩
    | succ n => obtain ⟨a, w, e, h, _⟩ := h; exact ⟨a, _, e, h⟩
  subst e
  refine ⟨⟨.type "tuple", false, false, .base (.tup ha), kit_ty (by decide +kernel), kit_ty (by decide +kernel), rfl⟩, ⟨_, .base (.tup ha), kit_ty (by decide +kernel)⟩, nes_dp (d := deepD n) (fun H' s => (h.tk (tk_same s)).dp) ?_ ?_⟩
  · have : ∀ n, n ≤ 12 → SeqAt.shaped (deepD n) = true := by decide +kernel
    exact this n hn
  · intro z
    cases n <;> simp [deepD, PyData.eqv]
/-- which values of the law are books -/
def Od.isBk : Od → Bool
  | .bk => true
  | _ => false
def Od.it : Od → It
  | .int n => .int n
  | .str z => .str z
  | _ => .oth
def Od.th : Od → Th
  | .t0 => .tup []
  | .t1 => .tup [.str "row"]
  | .deep => .tup [.oth]
  | _ => .no
theorem od_g : ∀ o : Od, gT o.th = false := fun o => by cases o <;> rfl
theorem ity {v : V} {t : Value} (ty : TyX K H v t) (h1 : PySem.W.kitOne K t (.type "int") = some false) (h2 : PySem.W.kitOne K t (.type "bool") = some false) (h3 : PySem.W.kitOne K t (.type "str") = some false) (h4 : NeS K H v) : ItA K H v .oth := ⟨⟨t, false, false, ty, h1, h2, rfl⟩, ⟨t, ty, h3⟩, h4⟩
theorem OdAt.it (T : BkT K CB) {v : V} {o : Od} (h : OdAt CB H v o) : ItA K H v o.it := by
  cases o with
  | non =>
    cases (show v = _ from h)
    exact ity (.base .non) (kit_ty (by decide +kernel)) (kit_ty (by decide +kernel)) (kit_ty (by decide +kernel)) (.inl fun z => ⟨rfl, fun e => by cases e⟩)
  | bl b =>
    cases (show v = _ from h)
    exact ⟨⟨_, true, true, .base (.bl b), kit_ty (by decide +kernel), kit_ty (by decide +kernel), rfl⟩, ⟨_, .base (.bl b), kit_ty (by decide +kernel)⟩, .inl fun z => ⟨rfl, fun e => by cases e⟩⟩
  | int n => exact h
  | str z => exact h
  | t0 =>
    obtain ⟨a, rfl, h⟩ := h
    exact ity (.base (.tup h)) (kit_ty (by decide +kernel)) (kit_ty (by decide +kernel)) (kit_ty (by decide +kernel)) (nes_dp (d := .tuple []) (fun H' s => .tup (SqT.of (s _ _ h)) .nil) (by decide +kernel) (fun z => by simp [PyData.eqv]))
  | l0 =>
    obtain ⟨a, rfl, h⟩ := h
    exact ity (.base (.lst h)) (kit_ty (by decide +kernel)) (kit_ty (by decide +kernel)) (kit_ty (by decide +kernel)) (nes_dp (d := .list []) (fun H' s => .lst (SqL.of (s _ _ h)) .nil) (by decide +kernel) (fun z => by simp [PyData.eqv]))
  | d0 =>
    obtain ⟨a, rfl, h⟩ := h
    exact ity (.base (.dK h)) (kit_ty (by decide +kernel)) (kit_ty (by decide +kernel)) (kit_ty (by decide +kernel)) (.inr (.inr (.inl ⟨a, rfl, h⟩)))
  | t1 =>
    obtain ⟨a, rfl, h⟩ := h
    exact ity (.base (.tup h)) (kit_ty (by decide +kernel)) (kit_ty (by decide +kernel)) (kit_ty (by decide +kernel)) (nes_dp (d := .tuple [.str "row"]) (fun H' s => .tup (SqT.of (s _ _ h)) (.cons (.str _) .nil)) (by decide +kernel) (fun z => by simp [PyData.eqv]))
  | deep => exact deep_item (Nat.le_refl _) h
  | l1 =>
    obtain ⟨a, rfl, h⟩ := h
    exact ity (.base (.lst h)) (kit_ty (by decide +kernel)) (kit_ty (by decide +kernel)) (kit_ty (by decide +kernel)) (nes_dp (d := .list [.int 0]) (fun H' s => .lst (SqL.of (s _ _ h)) (.cons (.int _) .nil)) (by decide +kernel) (fun z => by simp [PyData.eqv]))
  | bk =>
    obtain ⟨b, L, rfl, h⟩ := h
    exact ity (T.at h) T.int T.bool T.str (.inr (.inr (.inr ⟨b, CB, L, rfl, T.me, h⟩)))
theorem OdAt.th (T : BkT K CB) {v : V} {o : Od} (h : OdAt CB H v o) : ThA K H v o.th := by
  cases o with
  | non => cases (show v = _ from h); exact ⟨_, .base .non, kit_ty (by decide +kernel)⟩
  | bl b => cases (show v = _ from h); exact ⟨_, .base (.bl b), kit_ty (by decide +kernel)⟩
  | int n => cases (show v = _ from h); exact ⟨_, .base (.int n), kit_ty (by decide +kernel)⟩
  | str z => obtain ⟨rfl, _⟩ := h; exact ⟨_, .base (.str z), kit_ty (by decide +kernel)⟩
  | t0 => obtain ⟨a, rfl, h⟩ := h; exact ⟨a, [], rfl, h, .nil, by decide⟩
  | l0 => obtain ⟨a, rfl, h⟩ := h; exact ⟨_, .base (.lst h), kit_ty (by decide +kernel)⟩
  | d0 => obtain ⟨a, rfl, h⟩ := h; exact ⟨_, .base (.dK h), kit_ty (by decide +kernel)⟩
  | t1 => obtain ⟨a, rfl, h⟩ := h; exact ⟨a, _, rfl, h, .cons (i := .str "row") ⟨rfl, by decide +kernel⟩ .nil, (by show 1 ≤ 9; decide)⟩
  | deep =>
    obtain ⟨a, w, rfl, h, t⟩ := h
    exact ⟨a, _, rfl, h, .cons (i := .oth) (deep_item (by decide) t) .nil, (by show 1 ≤ 9; decide)⟩
  | l1 => obtain ⟨a, rfl, h⟩ := h; exact ⟨_, .base (.lst h), kit_ty (by decide +kernel)⟩
  | bk => obtain ⟨b, L, rfl, h⟩ := h; exact ⟨_, T.at h, T.tuple⟩
theorem OdAt.sv {v : V} {o : Od} (h : OdAt CB H v o) : SameV v v := by
  cases o with
  | non => cases (show v = _ from h); exact .inl ⟨rfl, rfl, by decide +kernel⟩
  | bl b => cases (show v = _ from h); exact .inl ⟨rfl, rfl, by cases b <;> decide +kernel⟩
  | int n => cases (show v = _ from h); exact .inl ⟨rfl, rfl, decide_eq_true rfl⟩
  | str z => obtain ⟨rfl, _⟩ := h; exact .inl ⟨rfl, rfl, decide_eq_true rfl⟩
  | t0 => obtain ⟨a, rfl, h⟩ := h; exact .inr ⟨rfl, _, rfl⟩
  | l0 => obtain ⟨a, rfl, h⟩ := h; exact .inr ⟨rfl, _, rfl⟩
  | d0 => obtain ⟨a, rfl, h⟩ := h; exact .inr ⟨rfl, _, rfl⟩
  | t1 => obtain ⟨a, rfl, h⟩ := h; exact .inr ⟨rfl, _, rfl⟩
  | deep => obtain ⟨a, w, rfl, h, t⟩ := h; exact .inr ⟨rfl, _, rfl⟩
  | l1 => obtain ⟨a, rfl, h⟩ := h; exact .inr ⟨rfl, _, rfl⟩
  | bk => obtain ⟨b, L, rfl, h⟩ := h; exact .inr ⟨rfl, _, rfl⟩
theorem OdAt.thAt (T : BkT K CB) {v : V} {o : Od} (h : OdAt CB H v o) : ThAt K H v none := ⟨_, h.th T, od_g o⟩
end
theorem lates_a : Lates [("a", 1)] := ⟨by decide, by decide, by decide +kernel, fun x hx => by
  rw [List.mem_singleton.mp hx]
  exact (nmB_iff _).mp (by decide +kernel), fun x hx => by rw [List.mem_singleton.mp hx]; decide, fun x hx => by rw [List.mem_singleton.mp hx]; decide⟩
def spOdd (CB : Addr) : Sp := fun vs H Q _ => ∃ p s, vs = [.ref p] ∧ PoolAt H p s ∧ ∀ v o H', OdAt CB H' v o → Pl H H' p s → Q v H'
section
variable {P : Program} {w : World} {K : PySem.W.Frag} {mg : Str → Option Value} {base : Heap}
structure GO (P : Program) (w : World) (K : PySem.W.Frag) (mg : Str → Option Value) (base : Heap) (CB : Addr) : Prop extends G2 P w K mg base where
  Book : Mak P w K mg base CX0 "Book" CB 4 ["self", "lates"] (spBookInit CB)
abbrev s_l_odd : Stmt := topS 46
theorem sc_l_odd : FnScope ["_law_pool_here", "_law_deep", "_law_k", "_law_odd_here"] ["_law_pool_here"] (defScope s_l_odd) := ⟨rfl, rfl, rfl, by decide +kernel, rfl, by decide +kernel, by decide +kernel⟩
theorem ok_odd {f CB : Addr} {fd : FuncData} (F : Fun K "_law_odd" "_law_odd" s_l_odd f fd) (B : Blt mg) (G : GO P w K mg base CB) : FnOk P w K mg base CX0 6 f fd ["_law_pool_here"] (spOdd CB) := by
  refine F.ok sc_l_odd (fun vs H Q E h => ?_) (fun cdv A outer s H vs Q E hr h => ?_)
  · obtain ⟨p, s, rfl, _⟩ := h
    rfl
  · obtain ⟨p, s0, rfl, hP, q⟩ := h
    refine ⟨_, (pss_cons (ps_set (i := 1) sc_l_odd.nd rfl (Or.inl rfl) (pe_tup (pa_cons pe_int pa_nil)))
    (pss_cons (ps_for PassesOwn.never rfl (pi_range1 (by rfl) B.range (pa_cons pe_int pa_nil)) (pg_name (i := 2) sc_l_odd.nd rfl (Or.inl rfl))
      (pss_one (ps_set (i := 1) sc_l_odd.nd rfl (Or.inl rfl) (pe_tup (pa_cons (pv 1) pa_nil)))))
    (pss_cons (ps_set (i := 3) sc_l_odd.nd rfl (Or.inl rfl) (pe_lst (pa_cons pe_non (pa_cons pe_bl (pa_cons pe_bl (pa_cons (pe_un un_neg pe_int) (pa_cons pe_str (pa_cons pe_str (pa_cons pe_str (pa_cons (pe_tup pa_nil) (pa_cons (pe_lst pa_nil) (pa_cons pe_dnewK (pa_cons (pe_tup (pa_cons pe_str pa_nil)) (pa_cons (pe_op op_pow pe_int pe_int) (pa_cons (pv 1) (pa_cons (pe_lst (pa_cons pe_int pa_nil)) (pa_cons pe_str (pa_cons pe_int (pa_cons (pe_mak G.Book (hr.mono (by decide)) pass0 (pa_cons (pe_disp (pps_cons pe_str pe_int pps_nil) (by rfl) (by rfl) (fun z => by cases z) (by decide)) pa_nil)) pa_nil)))))))))))))))))))
    (pss_one (ps_ret (pe_ix ix_list (pv 3) (pe_cal G.law_draw (hr.mono (by decide)) pass0 (pa_cons (pv 0) (pa_cons (pe_callB call_len (by rfl) B.len (by decide +kernel) (pa_cons (pv 3) pa_nil)) pa_nil))) (fun _ _ => rfl))))))), ?_⟩
    refine ⟨(by show 1 ≤ sizeLine; decide), fun t0 ht0 => ?_⟩
    have s1 := sameAt (o := .tup [.int 0]) (Same.refl H) ht0
    refine ⟨_, rfl, (by decide), (by decide), for_range (n := 12) (fun i σ H1 => ∃ v b, σ = [some (.ref p), some v, b, none] ∧ DeepAt H1 i v ∧ Same H H1) ?_ ?_ ?_⟩
    · exact ⟨_, _, rfl, ⟨t0, rfl, upd_same⟩, s1⟩
    · rintro i σ H1 hi ⟨v, b, rfl, hd, sH⟩
      refine ⟨_, rfl, (by show 1 ≤ sizeLine; decide), fun t ht => ?_⟩
      have s2 := sameAt (o := .tup [v]) (Same.refl H1) ht
      exact ⟨_, _, rfl, ⟨t, v, rfl, upd_same, hd.tk (tk_same s2)⟩, sH.trans s2⟩
    rintro σ H1 ⟨v, b, rfl, hd, sH⟩
    have hP1 := hP.same sH
    have P1 := (Pl.refl hP).same sH
    refine ⟨_, rfl, (by show 0 ≤ sizeLine; decide), fun t1 ht1 => ⟨(by show 0 ≤ sizeLine; decide), fun t2 ht2 t3 ht3 => ⟨(by show 1 ≤ sizeLine; decide), fun t4 ht4 => ?_⟩⟩⟩
    refine ⟨_, _, rfl, rfl, ⟨by decide, by decide⟩, _, rfl, (by show 1 ≤ sizeLine; decide), fun t5 ht5 t6 ht6 => ⟨upd_same, [(.inr "a", .int 1)], rfl, (by decide), fun y dx hy hdx hne => ?_⟩⟩
    have w1 := sameAt (o := .tup []) (Same.refl H1) ht1
    have w2 := sameAt (o := .lst []) (Same.refl _) ht2
    have w3 := sameAt (o := .dK []) (Same.refl _) ht3
    have w4 := sameAt (o := .tup [.str "row"]) (Same.refl _) ht4
    have w5 := sameAt (o := .lst [.int 0]) (Same.refl _) ht5
    have w6 := sameAt (o := .dK (mergeK [] [(.inr "a", .int 1)])) (sameAt (o := .dK []) (Same.refl _) ht6) ht6
    have h6 : (upd (upd (upd (upd (upd (upd (upd H1 t1 (.tup [])) t2 (.lst [])) t3 (.dK [])) t4 (.tup [.str "row"])) t5 (.lst [.int 0])) t6 (.dK [])) t6 (.dK (mergeK [] [(.inr "a", .int 1)]))) t6 = some (.dK (LK [("a", 1)])) := upd_same
    have h5 := w6 _ _ (upd_same (a := t5))
    have h4 := (w5.trans w6) _ _ (upd_same (a := t4))
    have h3 := (w4.trans (w5.trans w6)) _ _ (upd_same (a := t3))
    have h2 := (w3.trans (w4.trans (w5.trans w6))) _ _ (upd_same (a := t2))
    have h1 := (w2.trans (w3.trans (w4.trans (w5.trans w6)))) _ _ (upd_same (a := t1))
    have W := w1.trans (w2.trans (w3.trans (w4.trans (w5.trans w6))))
    clear w1 w2 w3 w4 w5 w6
    generalize upd (upd (upd (upd (upd (upd (upd H1 t1 (.tup [])) t2 (.lst [])) t3 (.dK [])) t4 (.tup [.str "row"])) t5 (.lst [.int 0])) t6 (.dK [])) t6 (.dK (mergeK [] [(.inr "a", .int 1)])) = H6 at hy hdx h1 h2 h3 h4 h5 h6 W ⊢
    have sN : Same H6 (upd (upd H6 dx (.own y)) y (.ins CB dx [])) := sameAt (sameAt (Same.refl H6) hdx) hy
    refine ⟨y, dx, t6, [("a", 1)], rfl, upd_same, sN _ _ h6, lates_a, fun H7 hB hk => ⟨rfl, (by show 17 ≤ sizeLine; decide), fun l hl => ?_⟩⟩
    have s7 : Same H6 H7 := fun c o hc => hk c o (sN _ _ hc) (fun z => by rw [z, hy] at hc; cases hc)
    have S7 := W.trans s7
    have s8 := sameAt (o := .lst [.non, .bl true, .bl false, .int (-1), .str "", .str "A", .str "row", .ref t1, .ref t2, .ref t3, .ref t4, .int (10 ^ 40), v, .ref t5, .str "a", .int 0, .ref y]) (Same.refl H7) hl
    have P8 := (P1.same S7).same s8
    have hlp : l ≠ p := fun z => (P1.same S7).now.ne.1 (z ▸ hl)
    have T := s7.trans s8
    have hd8 := hd.tk (tk_same (S7.trans s8))
    refine ⟨_, rfl, _, rfl, _, rfl, _, _, rfl, .inl ⟨_, SqL.of upd_same, rfl⟩, p, s0, 17, rfl, P8.now, (by decide), (by decide), fun g H9 g0 g1 P9 => ?_⟩
    obtain ⟨j, rfl⟩ : ∃ j : Nat, g = (j : Int) := ⟨g.toNat, by omega⟩
    suffices fin : ∃ (u : V) (o : Od), ([.non, .bl true, .bl false, .int (-1), .str "", .str "A", .str "row", .ref t1, .ref t2, .ref t3, .ref t4, .int (10 ^ 40), v, .ref t5, .str "a", .int 0, .ref y] : List V)[j]? = some u ∧ OdAt CB (upd H7 l (.lst [.non, .bl true, .bl false, .int (-1), .str "", .str "A", .str "row", .ref t1, .ref t2, .ref t3, .ref t4, .int (10 ^ 40), v, .ref t5, .str "a", .int 0, .ref y])) u o by
      obtain ⟨u, o, hu, ho⟩ := fin
      exact ⟨_, _, _, u, rfl, rfl, SqL.of (P9.keep upd_same hlp), atI_nat hu, q u o H9 (ho.pl P8.now P9) (P8.trans P9)⟩
    rcases j with _ | _ | _ | _ | _ | _ | _ | _ | _ | _ | _ | _ | _ | _ | _ | _ | _ | j
    · exact ⟨_, .non, rfl, rfl⟩
    · exact ⟨_, (.bl true), rfl, rfl⟩
    · exact ⟨_, (.bl false), rfl, rfl⟩
    · exact ⟨_, .int (-1), rfl, rfl⟩
    · exact ⟨_, (.str ""), rfl, ⟨rfl, by decide⟩⟩
    · exact ⟨_, (.str "A"), rfl, ⟨rfl, by decide⟩⟩
    · exact ⟨_, (.str "row"), rfl, ⟨rfl, by decide⟩⟩
    · exact ⟨_, .t0, rfl, ⟨_, rfl, T _ _ h1⟩⟩
    · exact ⟨_, .l0, rfl, ⟨_, rfl, T _ _ h2⟩⟩
    · exact ⟨_, .d0, rfl, ⟨_, rfl, T _ _ h3⟩⟩
    · exact ⟨_, .t1, rfl, ⟨_, rfl, T _ _ h4⟩⟩
    · exact ⟨_, .int (10 ^ 40), rfl, rfl⟩
    · exact ⟨_, .deep, rfl, hd8⟩
    · exact ⟨_, .l1, rfl, ⟨_, rfl, T _ _ h5⟩⟩
    · exact ⟨_, (.str "a"), rfl, ⟨rfl, by decide⟩⟩
    · exact ⟨_, (.int 0), rfl, rfl⟩
    · exact ⟨_, .bk, rfl, ⟨y, _, rfl, hB.same s8⟩⟩
    · omega
end
end Ash

set_option Elab.async false
set_option linter.all false
set_option maxRecDepth 100000
set_option maxHeartbeats 400000
set_option pp.maxSteps 200
namespace Ash
open PySem PySem.Spec PyProof.Rows L2
open C8 (pss_cut)
/-! ### entries turned -/
theorem shape3 {i0 i1 : It} {rest : List It} (h : gE (i0 :: i1 :: rest) = true) : ∃ n, i1 = .int n ∧ 0 ≤ n ∧ ((i0 = .str "row" ∧ ∃ s k m a r, rest = [.str s, .str k, .int m, .int a, .int r] ∧ nmB s = true ∧ nmB k = true) ∨ (i0 = .str "fix" ∧ ∃ m a r, rest = [.int m, .int a, .int r]) ∨ (i0 = .str "gone" ∧ ∃ r, rest = [.int r])) := by
  have nm : ∀ {i : It}, i.isNm = true → ∃ s, i = .str s ∧ nmB s = true := fun {i} h => by
    cases i with
    | str z => exact ⟨z, rfl, h⟩
    | int n => cases h
    | oth => cases h
  have it : ∀ {i : It}, i.isI = true → ∃ n, i = .int n := fun {i} h => by
    cases i with
    | int n => exact ⟨n, rfl⟩
    | str z => cases h
    | oth => cases h
  have len3 : ∀ {r : List It}, decide (r.length = 3) = true → ∃ a b c, r = [a, b, c] := fun {r} h => by
    have h := of_decide_eq_true h
    match r, h with
    | [a, b, c], _ => exact ⟨a, b, c, rfl⟩
  have all3 : ∀ {a b c : It}, [a, b, c].all It.isI = true → ∃ x y z, a = .int x ∧ b = .int y ∧ c = .int z := fun {a b c} h => by
    simp only [List.all_cons, List.all_nil, Bool.and_true, Bool.and_eq_true] at h
    obtain ⟨x, hx⟩ := it h.1
    obtain ⟨y, hy⟩ := it h.2.1
    obtain ⟨z, hz⟩ := it h.2.2
    exact ⟨x, y, z, hx, hy, hz⟩
  unfold gE at h
  rw [Bool.and_eq_true] at h
  obtain ⟨h1, h⟩ := h
  obtain ⟨n, rfl, hn⟩ : ∃ n, i1 = .int n ∧ 0 ≤ n := by
    cases i1 with
    | int n => exact ⟨n, rfl, of_decide_eq_true h1⟩
    | str z => cases h1
    | oth => cases h1
  refine ⟨n, rfl, hn, ?_⟩
  split at h
  · rename_i c
    refine .inl ⟨isS_eq c, ?_⟩
    split at h
    · rename_i s k r
      simp only [Bool.and_eq_true] at h
      obtain ⟨h3, h4, h5, h6⟩ := h
      obtain ⟨a, b, c, rfl⟩ := len3 h3
      obtain ⟨x, y, z, rfl, rfl, rfl⟩ := all3 h6
      obtain ⟨s, rfl, hs⟩ := nm h4
      obtain ⟨k, rfl, hk⟩ := nm h5
      exact ⟨s, k, x, y, z, rfl, hs, hk⟩
    · cases h
  · split at h
    · rename_i c
      rw [Bool.and_eq_true] at h
      obtain ⟨a, b, d, rfl⟩ := len3 h.1
      obtain ⟨x, y, z, rfl, rfl, rfl⟩ := all3 h.2
      exact .inr (.inl ⟨isS_eq c, x, y, z, rfl⟩)
    · simp only [Bool.and_eq_true] at h
      obtain ⟨c, h3, h4⟩ := h
      have h3 := of_decide_eq_true h3
      match rest, h3, h4 with
      | [a], _, h4 =>
        simp only [List.all_cons, List.all_nil, Bool.and_true] at h4
        obtain ⟨x, rfl⟩ := it h4
        exact .inr (.inr ⟨isS_eq c, x, rfl⟩)
section
variable {K : PySem.W.Frag} {H H' : Hp} {CB : Addr}
theorem ItsA.vs : ∀ {us : List V} {is : List It} {ws : List V}, ItsA K H us is → (∀ (j : Nat) i v, is[j]? = some i → us[j]? = some v → ItA K H v i) := fun h j i v a b => by
  obtain ⟨i', e, q⟩ := h.get b
  rw [a] at e
  cases e
  exact q
theorem its_uncons {i : It} {us : List V} {is : List It} : ItsA K H us (i :: is) → ∃ v r, us = v :: r ∧ ItA K H v i ∧ ItsA K H r is := fun h => by
  cases h with
  | cons a b => exact ⟨_, _, rfl, a, b⟩
theorem its_nil {us : List V} : ItsA K H us [] → us = [] := fun h => by cases h; rfl
theorem ent_of {us : List V} {is : List It} (h : ItsA K H us is) (g : gE is = true) : ∃ x : Ent, us = x.vs ∧ x.ok := by
  have ie : ∀ {v : V} {n : Int}, ItA K H v (.int n) → v = .int n := fun h => h
  have se : ∀ {v : V} {z : Str}, ItA K H v (.str z) → v = .str z := fun h => h.1
  match is, g, h with
  | i0 :: i1 :: rest, g, h =>
    obtain ⟨n, rfl, hn, hh⟩ := shape3 g
    obtain ⟨v0, r, rfl, h0, ha⟩ := its_uncons h
    obtain ⟨v1, r, rfl, h1, hb⟩ := its_uncons ha
    clear h ha
    rcases hh with ⟨rfl, s, k, m, a, r', rfl, hs, hk⟩ | ⟨rfl, m, a, r', rfl⟩ | ⟨rfl, r', rfl⟩
    · obtain ⟨v2, r, rfl, h2, h⟩ := its_uncons hb
      clear hb
      obtain ⟨v3, r, rfl, h3, h⟩ := its_uncons h
      obtain ⟨v4, r, rfl, h4, h⟩ := its_uncons h
      obtain ⟨v5, r, rfl, h5, h⟩ := its_uncons h
      obtain ⟨v6, r, rfl, h6, h⟩ := its_uncons h
      refine ⟨.row n s k m a r', ?_, hn, fun _ _ _ _ _ _ e => by cases e; exact ⟨(nmB_iff s).mp hs, (nmB_iff k).mp hk⟩⟩
      rw [its_nil h, se h0, ie h1, se h2, se h3, ie h4, ie h5, ie h6]
      rfl
    · obtain ⟨v2, r, rfl, h2, h⟩ := its_uncons hb
      clear hb
      obtain ⟨v3, r, rfl, h3, h⟩ := its_uncons h
      obtain ⟨v4, r, rfl, h4, h⟩ := its_uncons h
      refine ⟨.fix n m a r', ?_, hn, fun _ _ _ _ _ _ e => by cases e⟩
      rw [its_nil h, se h0, ie h1, ie h2, ie h3, ie h4]
      rfl
    · obtain ⟨v2, r, rfl, h2, h⟩ := its_uncons hb
      clear hb
      refine ⟨.gone n r', ?_, hn, fun _ _ _ _ _ _ e => by cases e⟩
      rw [its_nil h, se h0, ie h1, ie h2]
      rfl
theorem th_tup {a : Addr} {us : List V} {is : List It} (h : H a = some (.tup us)) (hi : ItsA K H us is) (l : us.length ≤ 9) : ∃ o, ThAt K H (.ref a) o := by
  cases g : gE is with
  | true =>
    obtain ⟨x, rfl, ok⟩ := ent_of hi g
    exact ⟨some x, a, rfl, h, ok⟩
  | false => exact ⟨none, .tup is, ⟨a, us, rfl, h, hi, l⟩, g⟩
theorem th_tupR {a : Addr} {us : List V} {is : List It} (h : H a = some (.tup us)) (hi : ∀ H2, RL H H2 → ItsA K H2 us is) (l : us.length ≤ 9) : ∃ o, ∀ H2, RL H H2 → ThAt K H2 (.ref a) o := by
  cases g : gE is with
  | true =>
    obtain ⟨x, rfl, ok⟩ := ent_of (hi H (RL.refl H)) g
    exact ⟨some x, fun H2 r => ⟨a, rfl, r _ _ h rl_tup, ok⟩⟩
  | false => exact ⟨none, fun H2 r => ⟨.tup is, ⟨a, us, rfl, r _ _ h rl_tup, hi H2 r, l⟩, g⟩⟩
theorem its_x {x : Ent} (ok : x.ok) : ItsA K H x.vs x.its := by
  have it : ∀ (n : Int), ItA K H (.int n) (.int n) := fun n => rfl
  have st : ∀ {z : Str}, z.length ≤ 20 → ItA K H (.str z) (.str z) := fun h => ⟨rfl, h⟩
  cases x with
  | row id s k m a r =>
    obtain ⟨h1, h2⟩ := ok.2 _ _ _ _ _ _ rfl
    have l1 := h1.2.1
    have l2 := h2.2.1
    exact .cons (st (by decide +kernel)) (.cons (it _) (.cons (st (by omega)) (.cons (st (by omega)) (.cons (it _) (.cons (it _) (.cons (it _) .nil))))))
  | fix id m a r => exact .cons (st (by decide +kernel)) (.cons (it _) (.cons (it _) (.cons (it _) (.cons (it _) .nil))))
  | gone id r => exact .cons (st (by decide +kernel)) (.cons (it _) (.cons (it _) .nil))
theorem x_len (x : Ent) : 3 ≤ x.vs.length ∧ x.vs.length ≤ 7 := by cases x <;> simp [Ent.vs]
theorem x_last (x : Ent) : x.vs[x.vs.length - 1]? = some (.int x.arr) := by cases x <;> rfl
theorem cut_take {xs : List V} {k : Nat} (h : k ≤ xs.length) : cutV xs none (some (k : Int)) = xs.take k := by
  unfold cutV
  rw [HT.sIx_none, HT.sIx_nat, List.drop_zero, Nat.sub_zero, Nat.min_eq_left h]
end
theorem slA_use {K : PySem.W.Frag} {H : Hp} {Q : VK} {a : Addr} {xs : List V} {lo hi : Option Int} (h : H a = some (.tup xs)) (q : ∀ a' H', Same H H' → H' a' = some (.tup (cutV xs lo hi)) → Q (.ref a') H') : rSlA K (.ref a) lo hi H Q := by
  refine ⟨a, xs, rfl, SqT.of h, fun w => q a H (Same.refl H) ?_, fun _ p hp => q p _ (sameAt (Same.refl H) hp) upd_same⟩
  have e : cutV xs lo hi = xs := by
    unfold cutV
    rw [w.1, w.2, List.drop_zero, Nat.sub_zero, List.take_length]
  rw [e]
  exact h
theorem catA_use {K : PySem.W.Frag} {H : Hp} {Q : VK} {a b : Addr} {xs ys : List V} (ha : H a = some (.tup xs)) (hb : H b = some (.tup ys)) (hz : xs.length + ys.length ≤ 1000) (q : ∀ c H', Same H H' → H' c = some (.tup (xs ++ ys)) → Q (.ref c) H') : rCatA K (.ref a) (.ref b) H Q := by
  refine ⟨a, b, xs, ys, rfl, rfl, SqT.of ha, SqT.of hb, by rw [sizeLine_eq]; omega, fun e => q b H (Same.refl H) (by rw [e]; exact hb), fun _ e => q a H (Same.refl H) (by rw [e, List.append_nil]; exact ha), fun _ _ p hp => q p _ (sameAt (Same.refl H) hp) upd_same⟩
theorem noPart {σ : L2.St} {H : Hp} {Q : Option Int → Hp → Prop} (h : Q none H) : tNoPart σ H Q := h
def spTurned (K : PySem.W.Frag) : Sp := fun vs H Q _ => ∃ (p s dl e : Addr) (L : List (Str × Int)) (x : Ent), vs = [.ref p, .ref dl, .ref e] ∧ PoolAt H p s ∧ H dl = some (.dK (LK L)) ∧ Lates L ∧ EntAt H e x ∧ x.ok ∧ ∀ v o H', (∀ H2, RL H' H2 → ThAt K H2 v o) → SameV v v → Pl H H' p s → Q v H'
section
variable {P : Program} {w : World} {K : PySem.W.Frag} {mg : Str → Option Value} {base : Heap}
structure GTu (P : Program) (w : World) (K : PySem.W.Frag) (mg : Str → Option Value) (base : Heap) (CB : Addr) : Prop extends G2 P w K mg base where
  law_odd : Cal P w K mg base CX0 "_law_odd" 6 ["_law_pool_here"] (spOdd CB)
  law_is_int : Cal P w K mg base CX0 "_law_is_int" 1 ["_law_value"] (spIsIntA K)
abbrev s_l_turned : Stmt := topS 47
theorem sc_l_turned : FnScope ["_law_pool_here", "_law_lates_here", "_law_entry_here", "_law_kind", "_law_at", "_law_step"] ["_law_pool_here", "_law_lates_here", "_law_entry_here"] (defScope s_l_turned) := ⟨rfl, rfl, rfl, by decide +kernel, rfl, by decide +kernel, by decide +kernel⟩
theorem ok_turned {f CB : Addr} {fd : FuncData} (F : Fun K "_law_turned" "_law_turned" s_l_turned f fd) (B : Blt mg) (BT : BkT K CB) (G : GTu P w K mg base CB) : FnOk P w K mg base CX0 7 f fd ["_law_pool_here", "_law_lates_here", "_law_entry_here"] (spTurned K) := by
  refine F.ok sc_l_turned (fun vs H Q E h => ?_) (fun cdv A outer s H vs Q E hr h => ?_)
  · obtain ⟨p, s, dl, e, L, x, rfl, _⟩ := h
    rfl
  · obtain ⟨p, s0, dl, e, L, x, rfl, hP, hdl, LL, he, hok, q⟩ := h
    refine ⟨_, (pss_cons (ps_set (i := 3) sc_l_turned.nd rfl (Or.inl rfl) (pe_cal G.law_draw (hr.mono (by decide)) pass0 (pa_cons (pv 0) (pa_cons pe_int pa_nil))))
    (pss_cons (ps_set (i := 4) sc_l_turned.nd rfl (Or.inl rfl) (pe_cal G.law_draw (hr.mono (by decide)) pass0 (pa_cons (pv 0) (pa_cons (pe_callB call_len_seq (by rfl) B.len (by decide +kernel) (pa_cons (pv 2) pa_nil)) pa_nil))))
    (pss_cons (ps_if (pt_cmpR op_eq (pv 3) pe_int (nomark _))
      (pss_one (ps_ret (pe_ix ix_list (pe_lst (pa_cons (pe_callTy call_list_of (by rfl) B.list (by decide +kernel) (pa_cons (pv 2) pa_nil)) (pa_cons (pe_op op_catA (pv 2) (pe_tup (pa_cons pe_int pa_nil))) (pa_cons (pe_slice sl_tupA (pv 2) po_none (po_some (pe_op op_sub (pe_callB call_len_seq (by rfl) B.len (by decide +kernel) (pa_cons (pv 2) pa_nil)) pe_int))) (pa_cons (pe_cal G.law_odd (hr.mono (by decide)) pass0 (pa_cons (pv 0) pa_nil)) pa_nil))))) (pe_cal G.law_draw (hr.mono (by decide)) pass0 (pa_cons (pv 0) (pa_cons pe_int pa_nil))) (fun _ _ => rfl))))
      pss_nil)
    (pss_cons (ps_if (pt_cmpR op_eq (pv 3) pe_int (nomark _))
      (pss_one (ps_ret (pe_op op_catA (pe_op op_catA (pe_slice sl_tupA (pv 2) po_none (po_some (pv 4))) (pe_tup (pa_cons (pe_cal G.law_odd (hr.mono (by decide)) pass0 (pa_cons (pv 0) pa_nil)) pa_nil))) (pe_slice sl_tupA (pv 2) (po_some (pe_op op_add (pv 4) pe_int)) po_none))))
      pss_nil)
    (pss_cons (ps_if (pt_cmpR op_eq (pv 3) pe_int (nomark _))
      (pss_one (ps_ret (pe_op op_catA (pe_tup (pa_cons (pe_ix ix_list (pe_lst (pa_cons pe_str (pa_cons pe_str (pa_cons pe_str (pa_cons pe_str pa_nil))))) (pe_cal G.law_draw (hr.mono (by decide)) pass0 (pa_cons (pv 0) (pa_cons pe_int pa_nil))) (fun _ _ => rfl)) pa_nil)) (pe_slice sl_tupA (pv 2) (po_some pe_int) po_none))))
      pss_nil)
    (pss_cons (ps_set (i := 5) sc_l_turned.nd rfl (Or.inl rfl) (pe_ix ix_list (pe_lst (pa_cons pe_int (pa_cons (pe_un un_neg pe_int) (pa_cons pe_int (pa_cons (pe_un un_neg pe_int) (pa_cons (pe_callB (cr_max rfl) (by rfl) B.max (by decide +kernel) (pa_cons (pe_listVals rfl (by rfl) B.list (pv 1)) pa_nil)) (pa_cons (pe_op op_sub pe_int (pe_callB (cr_max rfl) (by rfl) B.max (by decide +kernel) (pa_cons (pe_listVals rfl (by rfl) B.list (pv 1)) pa_nil))) pa_nil))))))) (pe_cal G.law_draw (hr.mono (by decide)) pass0 (pa_cons (pv 0) (pa_cons pe_int pa_nil))) (fun _ _ => rfl)))
    (pss_cons (ps_if (PW.pt (pw_or (pt_cmpR op_eq (pv 3) pe_int (nomark _)) (pw_or1 (pt_not (pt_val (pe_cal G.law_is_int (hr.mono (by decide)) pass0 (pa_cons (pe_ix ix_tup (pv 2) (pv 4) (fun _ _ => rfl)) pa_nil)))))))
      (pss_one (ps_ret (pe_op op_catA (pe_slice sl_tupA (pv 2) po_none (po_some (pe_op op_sub (pe_callB call_len_seq (by rfl) B.len (by decide +kernel) (pa_cons (pv 2) pa_nil)) pe_int))) (pe_tup (pa_cons (pe_op op_add (pe_ix ix_tup (pv 2) (pe_op op_sub (pe_callB call_len_seq (by rfl) B.len (by decide +kernel) (pa_cons (pv 2) pa_nil)) pe_int) (fun _ _ => rfl)) (pv 5)) pa_nil)))))
      pss_nil)
    (pss_one (ps_ret (pe_op op_catA (pe_op op_catA (pe_slice sl_tupA (pv 2) po_none (po_some (pv 4))) (pe_tup (pa_cons (pe_op op_add (pe_ix ix_tup (pv 2) (pv 4) (fun _ _ => rfl)) (pv 5)) pa_nil))) (pe_slice sl_tupA (pv 2) (po_some (pe_op op_add (pv 4) pe_int)) po_none))))))))))), ?_⟩
    obtain ⟨n3, n7⟩ := x_len x
    have xl := x_last x
    have fin : ∀ (c : Addr) (H3 : Hp) (us : List V) (is : List It), Pl H H3 p s0 → H3 c = some (.tup us) → (∀ H2, RL H3 H2 → ItsA K H2 us is) → us.length ≤ 9 → Q (.ref c) H3 := fun c H3 us is P3 h hi hn => by
      obtain ⟨o, ho⟩ := th_tupR h hi hn
      exact q _ _ _ ho (.inr ⟨rfl, _, rfl⟩) P3
    have cm1 : cutV x.vs none (some ((x.vs.length : Int) - 1)) = x.vs.take (x.vs.length - 1) := by
      rw [show ((x.vs.length : Int) - 1) = ((x.vs.length - 1 : Nat) : Int) by omega]
      exact cut_take (by omega)
    have tl : ∀ n, (x.vs.take n).length ≤ 7 := fun n => by rw [List.length_take]; omega
    have dl7 : ∀ n, (x.vs.drop n).length ≤ 7 := fun n => by rw [List.length_drop]; omega
    refine ⟨_, rfl, p, s0, 5, rfl, hP, (by decide), (by decide), fun kind H1 k0 k5 P1 => ?_⟩
    refine ⟨_, rfl, _, rfl, e, _, rfl, .inr (SqT.of (P1.tp hP he)), p, s0, _, rfl, P1.now, (by omega), Int.lt_of_le_of_lt (show (x.vs.length : Int) ≤ 7 by omega) (by decide), fun at_ H2 a0 a1 P2 => ?_⟩
    obtain ⟨k, rfl⟩ : ∃ n : Nat, at_ = (n : Int) := ⟨at_.toNat, by omega⟩
    have hk : k < x.vs.length := by omega
    have P12 := P1.trans P2
    have he2 : H2 e = some (.tup x.vs) := P12.tp hP he
    have hd2 := P12.dk hP hdl
    clear P1 P2
    refine ⟨_, rfl, rfl, _, rfl, ite2 (fun c0 => ?_) (fun c0 => ?_)⟩
    · refine ⟨_, rfl, e, _, rfl, .inr (SqT.of he2), fun l1 hl1 => ⟨_, rfl, (by show 1 ≤ sizeLine; decide), fun t1 ht1 => ?_⟩⟩
      have w1 := sameAt (o := .lst x.vs) (Same.refl H2) hl1
      have w2 := sameAt (o := .tup [.int 0]) (Same.refl _) ht1
      refine catA_use ((w1.trans w2) _ _ he2) upd_same (by show x.vs.length + 1 ≤ 1000; omega) fun c1 H3 s3 h3 => ?_
      have W3 := w1.trans (w2.trans s3)
      have hl3 := (w2.trans s3) _ _ (upd_same (a := l1))
      refine ⟨_, rfl, _, rfl, e, _, rfl, .inr (SqT.of (W3 _ _ he2)), _, _, rfl, rfl, _, rfl, slA_use (W3 _ _ he2) fun c2 H4 s4 h4 => ?_⟩
      have P4 := P12.same (W3.trans s4)
      rw [cm1] at h4
      refine ⟨_, rfl, p, s0, rfl, P4.now, fun u o H5 ho P5 => ⟨(by show 4 ≤ sizeLine; decide), fun l hl => ?_⟩⟩
      have s5 := sameAt (o := .lst [.ref l1, .ref c1, .ref c2, u]) (Same.refl H5) hl
      have P6 := (P4.trans P5).same s5
      have hlp : l ≠ p := fun z => (P4.trans P5).now.ne.1 (z ▸ hl)
      refine ⟨_, rfl, p, s0, 4, rfl, P6.now, (by decide), (by decide), fun g H7 g0 g4 P7 => ?_⟩
      obtain ⟨j, rfl⟩ : ∃ j : Nat, g = (j : Int) := ⟨g.toNat, by omega⟩
      have P8 := P6.trans P7
      suffices hh : ∃ u', ([.ref l1, .ref c1, .ref c2, u] : List V)[j]? = some u' ∧ Q u' H7 by
        obtain ⟨u', hu, hq⟩ := hh
        exact ⟨_, _, _, u', rfl, rfl, SqL.of (P7.keep upd_same hlp), atI_nat hu, hq⟩
      have tp : ∀ {c xs}, H4 c = some (.tup xs) → H7 c = some (.tup xs) := fun h => P7.tp P6.now (s5 _ _ (P5.tp P4.now h))
      rcases j with _ | _ | _ | _ | j
      · have hl7 : H7 l1 = some (.lst x.vs) := by
          have l1p : l1 ≠ p := fun z => P12.now.ne.1 (z ▸ hl1)
          exact P7.keep (s5 _ _ (P5.keep (s4 _ _ hl3) l1p)) l1p
        exact ⟨_, rfl, q _ none _ (fun H2 r => ⟨.no, ⟨_, .base (.lst (r _ _ hl7 fun ⟨ys, e, n, f⟩ => by cases e; cases x <;> (obtain ⟨a, e⟩ := f _ List.mem_cons_self; cases e))), kit_ty (by decide +kernel)⟩, rfl⟩) (.inr ⟨rfl, _, rfl⟩) P8⟩
      · exact ⟨_, rfl, fin _ _ _ _ P8 (tp (s4 _ _ h3)) (fun H2 r => (its_x hok).app (.cons (i := .int 0) rfl .nil)) (by rw [List.length_append]; show x.vs.length + 1 ≤ 9; omega)⟩
      · exact ⟨_, rfl, fin _ _ _ _ P8 (tp h4) (fun H2 r => (its_x hok).take _) (by have := tl (x.vs.length - 1); omega)⟩
      · exact ⟨_, rfl, q _ none _ (fun H2 r => ((((ho.same s5).pl P6.now P7)).rl r).thAt BT) ho.sv P8⟩
      · omega
    refine ⟨_, rfl, rfl, _, rfl, ite2 (fun c1 => ?_) (fun c1 => ?_)⟩
    · refine ⟨_, rfl, _, rfl, _, rfl, slA_use he2 fun a1 H3 s3 h3 => ?_⟩
      have P3 := P12.same s3
      rw [cut_take (by omega)] at h3
      refine ⟨_, rfl, p, s0, rfl, P3.now, fun u o H4 ho P4 => ⟨(by show 1 ≤ sizeLine; decide), fun t1 ht1 => ?_⟩⟩
      have w1 := sameAt (o := .tup [u]) (Same.refl H4) ht1
      have t1l := tl k
      refine catA_use (w1 _ _ (P4.tp P3.now h3)) upd_same (by show _ + 1 ≤ 1000; omega) fun c H5 s5 h5 => ⟨_, rfl, _, rfl, _, _, rfl, rfl, _, rfl, ?_⟩
      have he5 := s5 _ _ (w1 _ _ (P4.tp P3.now (s3 _ _ he2)))
      refine noPart (slA_use he5 fun a2 H6 s6 h6 => ?_)
      rw [show ((k : Int) + 1) = ((k + 1 : Nat) : Int) from rfl, cut_drop (by omega)] at h6
      have t2l : (x.vs.drop (k + 1)).length = x.vs.length - (k + 1) := List.length_drop
      have t3l : (x.vs.take k).length = k := by rw [List.length_take]; omega
      refine catA_use (s6 _ _ h5) h6 (by rw [List.length_append, t2l, t3l]; show k + 1 + _ ≤ 1000; omega) fun c' H7 s7 h7 => ?_
      have W := w1.trans (s5.trans (s6.trans s7))
      exact fin _ _ _ _ ((P3.trans P4).same W) h7 (fun H2 r => (((its_x hok).take k).app (.cons (((ho.same W).rl r).it BT) .nil)).app ((its_x hok).drop (k + 1))) (by rw [List.length_append, List.length_append, t2l, t3l]; show k + 1 + _ ≤ 9; omega)
    refine ⟨_, rfl, rfl, _, rfl, ite2 (fun c2 => ?_) (fun c2 => ?_)⟩
    · refine ⟨(by show 4 ≤ sizeLine; decide), fun l hl => ⟨_, rfl, p, s0, 4, rfl, (P12.same (sameAt (Same.refl H2) hl)).now, (by decide), (by decide), fun g H4 g0 g4 P4 => ?_⟩⟩
      have w1 := sameAt (o := .lst [.str "row", .str "fix", .str "gone", .str "rows"]) (Same.refl H2) hl
      have P3 := P12.same w1
      have hlp : l ≠ p := fun z => P12.now.ne.1 (z ▸ hl)
      obtain ⟨j, rfl⟩ : ∃ j : Nat, g = (j : Int) := ⟨g.toNat, by omega⟩
      obtain ⟨z, hz, hz20⟩ : ∃ z : Str, ([.str "row", .str "fix", .str "gone", .str "rows"] : List V)[j]? = some (.str z) ∧ z.length ≤ 20 := by
        rcases j with _ | _ | _ | _ | j
        · exact ⟨_, rfl, by decide +kernel⟩
        · exact ⟨_, rfl, by decide +kernel⟩
        · exact ⟨_, rfl, by decide +kernel⟩
        · exact ⟨_, rfl, by decide +kernel⟩
        · omega
      refine ⟨_, _, _, .str z, rfl, rfl, SqL.of (P4.keep upd_same hlp), atI_nat hz, (by show 1 ≤ sizeLine; decide), fun t1 ht1 => ⟨_, rfl, _, rfl, ?_⟩⟩
      have w2 := sameAt (o := .tup [.str z]) (Same.refl H4) ht1
      have he4 := w2 _ _ (P4.tp P3.now (w1 _ _ he2))
      refine noPart (slA_use he4 fun a2 H5 s5 h5 => ?_)
      rw [show ((1 : Int)) = ((1 : Nat) : Int) from rfl, cut_drop (by omega)] at h5
      have := dl7 1
      refine catA_use (s5 _ _ upd_same) h5 (by show 1 + _ ≤ 1000; omega) fun c H6 s6 h6 => ?_
      exact fin _ _ _ _ ((P3.trans P4).same (w2.trans (s5.trans s6))) h6 (fun H2 r => (ItsA.cons (i := .str z) ⟨rfl, hz20⟩ .nil).app ((its_x hok).drop 1)) (by rw [List.length_append]; show 1 + _ ≤ 9; omega)
    have hvals : (LK L).map (·.2) = (L.map (·.2)).map V.int := by
      unfold LK
      rw [List.map_map, List.map_map]
      rfl
    have l1 : 0 < (L.map (·.2)).length := by rw [List.length_map]; exact LL.some_
    refine ⟨_, rfl, _, rfl, _, rfl, dl, _, rfl, hd2, fun l hl => ?_⟩
    have w1 := sameAt (o := .lst ((LK L).map (·.2))) (Same.refl H2) hl
    refine ⟨l, L.map (·.2), rfl, SqL.of (by rw [upd_same, hvals]), l1, fun m _ _ => ⟨_, rfl, dl, _, rfl, w1 _ _ hd2, fun l' hl' => ?_⟩⟩
    have w2 := sameAt (o := .lst ((LK L).map (·.2))) (Same.refl _) hl'
    refine ⟨l', L.map (·.2), rfl, SqL.of (by rw [upd_same, hvals]), l1, fun m' _ _ => ⟨_, _, rfl, rfl, (by show 6 ≤ sizeLine; decide), fun l3 hl3 => ?_⟩⟩
    have w3 := sameAt (o := .lst [.int 1, .int (-1), .int 2, .int (-2), .int m, .int (0 - m')]) (Same.refl _) hl3
    have W := w1.trans (w2.trans w3)
    have P3 := P12.same W
    have hlp : l3 ≠ p := fun z => (P12.same (w1.trans w2)).now.ne.1 (z ▸ hl3)
    refine ⟨_, rfl, p, s0, 6, rfl, P3.now, (by decide), (by decide), fun g H4 g0 g4 P4 => ?_⟩
    obtain ⟨j, rfl⟩ : ∃ j : Nat, g = (j : Int) := ⟨g.toNat, by omega⟩
    obtain ⟨z, hz⟩ : ∃ z : Int, ([.int 1, .int (-1), .int 2, .int (-2), .int m, .int (0 - m')] : List V)[j]? = some (.int z) := by
      rcases j with _ | _ | _ | _ | _ | _ | j
      · exact ⟨_, rfl⟩
      · exact ⟨_, rfl⟩
      · exact ⟨_, rfl⟩
      · exact ⟨_, rfl⟩
      · exact ⟨_, rfl⟩
      · exact ⟨_, rfl⟩
      · omega
    have PP := P3.trans P4
    have he4 : H4 e = some (.tup x.vs) := P4.tp P3.now (W _ _ he2)
    refine ⟨_, _, _, .int z, rfl, rfl, SqL.of (P4.keep upd_same hlp), atI_nat hz, ?_⟩
    clear P4 P3 W w1 w2 w3 hl hl' hl3 P12 he2 hd2
    refine ⟨_, rfl, rfl, _, rfl, ite2 (fun c3 => ?_) (fun c3 => ?_)⟩
    · skip
      refine ⟨_, rfl, _, rfl, e, _, rfl, .inr (SqT.of he4), _, _, rfl, rfl, _, rfl, slA_use he4 fun a1 H5 s5 h5 => ?_⟩
      rw [cm1] at h5
      refine ⟨_, rfl, _, rfl, e, _, rfl, .inr (SqT.of (s5 _ _ he4)), _, _, rfl, rfl, _, _, _, V.int x.arr, rfl, rfl, SqT.of (s5 _ _ he4), (by cases x <;> rfl), _, rfl, _, _, rfl, rfl, (by show 1 ≤ sizeLine; decide), fun t1 ht1 => ?_⟩
      have w1 := sameAt (o := .tup [.int (x.arr + z)]) (Same.refl H5) ht1
      have t1l := tl (x.vs.length - 1)
      refine catA_use (w1 _ _ h5) upd_same (by show _ + 1 ≤ 1000; omega) fun c H6 s6 h6 => ?_
      exact fin _ _ _ _ (PP.same (s5.trans (w1.trans s6))) h6 (fun H2 r => ((its_x hok).take _).app (.cons (i := .int _) rfl .nil)) (by rw [List.length_append]; show _ + 1 ≤ 9; omega)
    obtain ⟨v, hv⟩ : ∃ v, x.vs[k]? = some v := ⟨_, List.getElem?_eq_getElem hk⟩
    obtain ⟨i, hi, hI⟩ := (its_x (K := K) (H := H4) hok).get hv
    refine ⟨_, rfl, _, rfl, _, _, _, v, rfl, rfl, SqT.of he4, atI_nat hv, v, i, rfl, hI, _, rfl, ?_⟩
    cases hn : i.isI with
    | false =>
      refine iteT ?_
      refine ⟨_, rfl, _, rfl, e, _, rfl, .inr (SqT.of he4), _, _, rfl, rfl, _, rfl, slA_use he4 fun a1 H5 s5 h5 => ?_⟩
      rw [cm1] at h5
      refine ⟨_, rfl, _, rfl, e, _, rfl, .inr (SqT.of (s5 _ _ he4)), _, _, rfl, rfl, _, _, _, V.int x.arr, rfl, rfl, SqT.of (s5 _ _ he4), (by cases x <;> rfl), _, rfl, _, _, rfl, rfl, (by show 1 ≤ sizeLine; decide), fun t1 ht1 => ?_⟩
      have w1 := sameAt (o := .tup [.int (x.arr + z)]) (Same.refl H5) ht1
      have t1l := tl (x.vs.length - 1)
      refine catA_use (w1 _ _ h5) upd_same (by show _ + 1 ≤ 1000; omega) fun c H6 s6 h6 => ?_
      exact fin _ _ _ _ (PP.same (s5.trans (w1.trans s6))) h6 (fun H2 r => ((its_x hok).take _).app (.cons (i := .int _) rfl .nil)) (by rw [List.length_append]; show _ + 1 ≤ 9; omega)
    | true =>
      obtain ⟨n, rfl⟩ : ∃ n, i = .int n := by
        cases i with
        | int n => exact ⟨n, rfl⟩
        | str z => cases hn
        | oth => cases hn
      cases (show v = _ from hI)
      refine iteF ⟨_, rfl, _, rfl, _, rfl, slA_use he4 fun a1 H5 s5 h5 => ?_⟩
      rw [cut_take (by omega)] at h5
      refine ⟨_, rfl, _, rfl, _, _, _, V.int n, rfl, rfl, SqT.of (s5 _ _ he4), atI_nat hv, _, rfl, _, _, rfl, rfl, (by show 1 ≤ sizeLine; decide), fun t1 ht1 => ?_⟩
      have w1 := sameAt (o := .tup [.int (n + z)]) (Same.refl H5) ht1
      have t3l : (x.vs.take k).length = k := by rw [List.length_take]; omega
      refine catA_use (w1 _ _ h5) upd_same (by rw [t3l]; show k + 1 ≤ 1000; omega) fun c H6 s6 h6 => ⟨_, rfl, _, rfl, _, _, rfl, rfl, _, rfl, ?_⟩
      have he6 := s6 _ _ (w1 _ _ (s5 _ _ he4))
      refine noPart (slA_use he6 fun a2 H7 s7 h7 => ?_)
      rw [show ((k : Int) + 1) = ((k + 1 : Nat) : Int) from rfl, cut_drop (by omega)] at h7
      have t2l : (x.vs.drop (k + 1)).length = x.vs.length - (k + 1) := List.length_drop
      refine catA_use (s7 _ _ h6) h7 (by rw [List.length_append, t2l, t3l]; show k + 1 + _ ≤ 1000; omega) fun c' H8 s8 h8 => ?_
      exact fin _ _ _ _ (PP.same (s5.trans (w1.trans (s6.trans (s7.trans s8))))) h8 (fun H2 r => (((its_x hok).take k).app (.cons (i := .int (n + z)) rfl .nil)).app ((its_x hok).drop (k + 1))) (by rw [List.length_append, List.length_append, t2l, t3l]; show k + 1 + _ ≤ 9; omega)
end
end Ash

set_option Elab.async false
set_option linter.all false
set_option maxRecDepth 100000
set_option maxHeartbeats 4000000
/-! sorted of triples of ints -/
namespace SrtT
open PySem PyProof.Rows Srt SrtO
abbrev T3 := Int × Int × Int
def lex3 (p q : T3) : Bool := if p.1 = q.1 then (if p.2.1 = q.2.1 then decide (p.2.2 < q.2.2) else decide (p.2.1 < q.2.1)) else decide (p.1 < q.1)
theorem lex3_iff {p q : T3} : lex3 p q = true ↔ p.1 < q.1 ∨ (p.1 = q.1 ∧ (p.2.1 < q.2.1 ∨ (p.2.1 = q.2.1 ∧ p.2.2 < q.2.2))) := by
  unfold lex3
  split
  · split <;> (rw [decide_eq_true_eq]; omega)
  · rw [decide_eq_true_eq]; omega
theorem lex3_no {p q : T3} : lex3 p q = false ↔ ¬ (p.1 < q.1 ∨ (p.1 = q.1 ∧ (p.2.1 < q.2.1 ∨ (p.2.1 = q.2.1 ∧ p.2.2 < q.2.2)))) := by
  rw [← lex3_iff]
  cases lex3 p q <;> simp
theorem swo3 {α : Type} (k : α → T3) : Swo fun v u => lex3 (k v) (k u) := by
  constructor
  · intro x y h
    rw [lex3_no]
    rw [lex3_iff] at h
    omega
  · intro x y z h1 h2
    rw [lex3_no] at h1 h2 ⊢
    omega
/-- v is a tuple of three ints in the heap -/
def Is3 (h : Heap) (v : Value) (p : T3) : Prop := ∃ a o t1 t2 t3 n, v = .ref a ∧ h.get? a = some o ∧ o.cls = .type "tuple" ∧ o.data = .seq #[.int p.1 t1, .int p.2.1 t2, .int p.2.2 t3] n
theorem Is3.stay {h h' : Heap} {v : Value} {p : T3} (i : Is3 h v p) (k : ∀ b o, h.get? b = some o → o.cls = .type "tuple" → h'.get? b = some o) : Is3 h' v p := by
  obtain ⟨a, o, t1, t2, t3, n, e1, e2, e3, e4⟩ := i
  exact ⟨a, o, t1, t2, t3, n, e1, k a o e2 e3, e3, e4⟩
section
variable {prog : Program} {w : World} {A : Around} {E : Value → Shared → Prop} {s : Shared}
theorem cmp3 {vs : List Value} {k : Value → T3} (hp : ∀ v ∈ vs, Is3 s.heap v (k v)) : SrtO.Cmp prog w A s (tuples' true) (fun p => p.1 ∈ vs) (lt2 fun v u => lex3 (k v) (k u)) := by
  intro p q mp mq
  have i1 := hp _ mp
  have i2 := hp _ mq
  show wpAny (model prog w) A (keyLt' (tuples' true) p.1 q.1) (fun r s' => s' = s ∧ r = lex3 (k p.1) (k q.1)) (fun _ _ => False) s
  generalize k p.1 = P at i1 ⊢
  generalize k q.1 = R at i2 ⊢
  obtain ⟨x, y, z⟩ := P
  obtain ⟨x', y', z'⟩ := R
  obtain ⟨a, o, t, u, v, n, e, ho, hc, hd⟩ := i1
  obtain ⟨a', o', t', u', v', n', e', ho', hc', hd'⟩ := i2
  rw [e, e']
  show wpAny _ _ _ (fun r s' => s' = s ∧ r = (if x = x' then (if y = y' then decide (z < z') else decide (y < y')) else decide (x < x'))) _ _
  refine PySem.W.kat_lt ho hd ho' hd' ?_
  show PySem.W.KatLex prog w A true (decide (3 < 3)) _ [(.int x t, .int x' t'), (.int y u, .int y' u'), (.int z v, .int z' v')] 0 s
  refine PySem.W.kat_cons (SeqAt.EqAt.int_int x t x' t' prog w _ _ (PySem.W.kat_go (fun c1 => ?_) fun c1 => ?_))
  · have ex : x = x' := by simpa using c1
    rw [if_pos ex]
    refine PySem.W.kat_yes (PySem.W.kat_cons (SeqAt.EqAt.int_int y u y' u' prog w _ _ (PySem.W.kat_go (fun c2 => ?_) fun c2 => ?_)))
    · have ey : y = y' := by simpa using c2
      rw [if_pos ey]
      refine PySem.W.kat_yes (PySem.W.kat_cons (SeqAt.EqAt.int_int z v z' v' prog w _ _ (PySem.W.kat_go (fun c3 => ?_) fun c3 => ?_)))
      · have ez : z = z' := by simpa using c3
        exact PySem.W.kat_yes (PySem.W.kat_nil ⟨rfl, by rw [ez]; exact (decide_eq_false (Int.lt_irrefl z')).symm⟩)
      · refine PySem.W.kat_no (PySem.W.kat_one _ _ (PyProof.Rows.lt_int ?_))
        exact (⟨rfl, rfl⟩ : s = s ∧ decide (z < z') = decide (z < z'))
    · have ey : ¬ y = y' := by simpa using c2
      rw [if_neg ey]
      refine PySem.W.kat_no (PySem.W.kat_one _ _ (PyProof.Rows.lt_int ?_))
      exact (⟨rfl, rfl⟩ : s = s ∧ decide (y < y') = decide (y < y'))
  · have ex : ¬ x = x' := by simpa using c1
    rw [if_neg ex]
    exact PySem.W.kat_no (oneLt_int ⟨rfl, rfl⟩)
theorem firsts3 {h : Heap} {k : Value → T3} : ∀ {vs : List Value}, (∀ v ∈ vs, Is3 h v (k v)) → ∃ fs : List Value, PySem.W.KatTups h vs fs ∧ fs.length = vs.length ∧ ∀ f ∈ fs, ∃ x t, f = Value.int x t
  | [], _ => ⟨[], PySem.W.KatTups.nil, rfl, fun f hf => nomatch hf⟩
  | v :: vs, hp => by
    obtain ⟨fs, g1, g2, g3⟩ := firsts3 (vs := vs) fun z hz => hp z (List.mem_cons_of_mem v hz)
    obtain ⟨a, o, t1, t2, t3, n, rfl, e2, e3, e4⟩ := hp v List.mem_cons_self
    refine ⟨.int (k (.ref a)).1 t1 :: fs, PySem.W.KatTups.cons e2 e3 e4 rfl g1, congrArg Nat.succ g2, fun f hf => ?_⟩
    rcases List.mem_cons.mp hf with rfl | hf
    · exact ⟨_, _, rfl⟩
    · exact g3 f hf
theorem sortable3 {a : Addr} {vs : List Value} {k : Value → T3} (h0 : 0 < vs.length) (hp : ∀ v ∈ vs, Is3 s.heap v (k v)) (ha : ∀ o, s.heap.get? a = some o → o.cls ≠ .type "tuple") : SortableO prog w A s a vs fun v u => lex3 (k v) (k u) := fun h' keep => by
  have st : ∀ v ∈ vs, Is3 h' v (k v) := fun v hv => (hp v hv).stay fun b o g c => keep b o (fun z => ha o (z ▸ g) c) g
  obtain ⟨fs, g1, g2, g3⟩ := firsts3 st
  refine ⟨tuples' true, fun Q E hq => PySem.W.kat_kind (T := .type "int") g1 (by omega) (fun f hf => ?_) (by rfl) ?_, cmp3 st⟩
  · obtain ⟨x, t, rfl⟩ := g3 f hf
    exact PySem.W.Looks.now
  · rw [show (Value.type "int" != Value.type "tuple") = true from by first | decide +kernel | rfl]
    exact hq
/-- sorted(l) of triples of ints -/
theorem sorted3 {l : Addr} {vs : List Value} {k : Value → T3} {Q : Value → Shared → Prop} (hl : s.heap.IsList l vs.toArray) (hz : vs.length ≤ sizeLine) (hp : ∀ v ∈ vs, Is3 s.heap v (k v))
    (h : ∀ (h' : Heap) (d : Addr) (out : List Value), Srtd (fun v u => lex3 (k v) (k u)) out → Stb (fun v u => lex3 (k v) (k u)) out vs → (∀ b o, s.heap.get? b = some o → h'.get? b = some o) → s.heap.objs.size ≤ d → (∃ n, h'.get? d = some (seqObj "list" out.toArray n)) → Q (.ref d) { s with heap := h' }) :
    wpAny (model prog w) A (call (.builtin "sorted") [.ref l]) Q E s := by
  refine sorted_ord (swo3 k) hl hz (fun h2 h₁ a ha kk => sortable3 (s := { s with heap := h₁ }) (by omega) (fun v hv => (hp v hv).stay fun b o g _ => (kk b o g).2) fun o g c => ?_) fun out hs hb => h _ _ out hs hb (fun b o g => sortedAll_old g) (Nat.le_succ _) (sortedAll_at s.heap vs out.toArray)
  have g' : some o = some (seqObj "list" vs.toArray 0) := g.symm.trans ha
  cases g'
  exact absurd (Value.type.inj c) (by decide)
end
end SrtT
namespace L2
open PySem PySem.Spec PyProof.Rows SrtT
/-- sorted(xs), xs a list of triples of ints (k says which): a new list, sorted -/
def rSorted3 (K : PySem.W.Frag) : List V → Hp → VK → Prop := fun vs H Q => ∃ (a : Addr) (xs : List V) (k : V → T3), vs = [V.ref a] ∧ SqL K H a xs ∧ (∀ x ∈ xs, ∃ t, x = V.ref t ∧ H t = some (.tup [.int (k x).1, .int (k x).2.1, .int (k x).2.2])) ∧
  ∀ ys p, SrtO.Srtd (fun x y => lex3 (k x) (k y)) ys → ys.Perm xs → H p = none → Q (.ref p) (upd H p (.lst ys))
theorem cr_sorted3 {X : Cx} : CallR X (.builtin "sorted") (rSorted3 X.K) := by
  intro pins s σ H vs us Q I r h
  obtain ⟨a, xs, k, rfl, hs, hx, q⟩ := h
  obtain ⟨its, rv, hl, hz⟩ := I.list hs
  rw [Vals.ref1 r]
  obtain ⟨e1, e2⟩ := refs_back rv fun x m => (hx x m).imp fun t ht => ht.1
  refine sorted3 (k := fun u => k (backV u)) hl.isList (by rw [← rv.length]; exact hz) (fun v hv => ?_) fun h' d out g1 g2 kp hd hn => ?_
  · obtain ⟨t, rfl⟩ := e2 v hv
    obtain ⟨t', e, ht⟩ := hx (.ref t) (by rw [e1]; exact List.mem_map.mpr ⟨_, hv, rfl⟩)
    cases e
    obtain ⟨_, its2, r2, o, ho, hc, n, hdt⟩ := I.hok _ _ ht
    cases r2 with
    | cons r2a r2 => cases r2 with
      | cons r2b r2 => cases r2 with
        | cons r2c r2 =>
          cases r2
          obtain ⟨ta, rfl⟩ := r2a
          obtain ⟨tb, rfl⟩ := r2b
          obtain ⟨tc, rfl⟩ := r2c
          exact ⟨t, o, ta, tb, tc, n, rfl, ho, hc, hdt⟩
  · obtain ⟨n, hn⟩ := hn
    have back : ∀ u ∈ out, ∃ a, u = Value.ref a := fun u hu => e2 u (g2.perm.mem_iff.mp hu)
    have pm : (out.map backV).Perm xs := by rw [e1]; exact g2.perm.map backV
    refine ⟨.ref d, upd H d (.lst (out.map backV)), I.laid (t' := s.toks) kp hd ⟨?_, out, n, vals_back back, hn⟩, rfl, q _ d (SrtO.srtd_map g1) pm (I.hok.fresh hd)⟩
    rw [pm.length_eq]
    exact hz
end L2

set_option Elab.async false
set_option linter.all false
set_option maxRecDepth 100000
set_option maxHeartbeats 4000000
namespace Ash
open PySem PySem.Spec PyProof.Rows L2 SrtT
open C8 (pss_cut)
/-! ### the rows that stand -/
/-- a row of this stream and key: its moment, id, amount -/
def pick (S : Kn) (z k : Str) (id : Int) : Option T3 := match S id with
  | some (.at_ z' k' m a) => if z' = z ∧ k' = k then some (m, id, a) else none
  | _ => none
theorem pick_id {S : Kn} {z k : Str} {id : Int} {t : T3} (h : pick S z k id = some t) : t.2.1 = id := by
  unfold pick at h
  split at h
  · split at h
    · cases h
      rfl
    · cases h
  · cases h
def tv (t : T3) : List V := [.int t.1, .int t.2.1, .int t.2.2]
/-- ys are tuples of the triples ts -/
def TrAt (H : Hp) (ys : List V) (ts : List T3) : Prop := ys.length = ts.length ∧ ∀ (i : Nat) v t, ys[i]? = some v → ts[i]? = some t → ∃ e, v = .ref e ∧ H e = some (.tup (tv t))
/-- the triples are those of the rows that stand, ascending -/
structure RowsOf (S : Kn) (z k : Str) (ts : List T3) : Prop where
  all : ∀ t, t ∈ ts ↔ pick S z k t.2.1 = some t
  asc : ts.Pairwise fun a b => lex3 a b = true
theorem TrAt.tk {H H' : Hp} {ys : List V} {ts : List T3} (h : TrAt H ys ts) (s : ∀ t xs, H t = some (.tup xs) → H' t = some (.tup xs)) : TrAt H' ys ts := ⟨h.1, fun i v t a b => by
  obtain ⟨e, h1, h2⟩ := h.2 i v t a b
  exact ⟨e, h1, s _ _ h2⟩⟩
theorem TrAt.snoc {H : Hp} {ys : List V} {ts : List T3} {e : Addr} {t : T3} (h : TrAt H ys ts) (he : H e = some (.tup (tv t))) : TrAt H (ys ++ [.ref e]) (ts ++ [t]) := by
  refine ⟨by rw [List.length_append, List.length_append, h.1]; rfl, fun i v u a b => ?_⟩
  by_cases hi : i < ys.length
  · rw [List.getElem?_append_left hi] at a
    rw [List.getElem?_append_left (by rw [← h.1]; exact hi)] at b
    exact h.2 i v u a b
  · have hi' : i = ys.length := by
      have := (List.getElem?_eq_some_iff.mp a).1
      rw [List.length_append] at this
      have : i < ys.length + 1 := this
      omega
    subst hi'
    rw [List.getElem?_append_right (Nat.le_refl _), Nat.sub_self] at a
    rw [h.1, List.getElem?_append_right (Nat.le_refl _), Nat.sub_self] at b
    cases a
    cases b
    exact ⟨e, rfl, he⟩
/-- the triple of a tuple -/
def triOf (H : Hp) : V → T3
  | .ref e => match H e with
    | some (.tup [.int a, .int b, .int c]) => (a, b, c)
    | _ => (0, 0, 0)
  | _ => (0, 0, 0)
theorem triOf_at {H : Hp} {e : Addr} {t : T3} (h : H e = some (.tup (tv t))) : triOf H (.ref e) = t := by
  show (match H e with
    | some (.tup [.int a, .int b, .int c]) => (a, b, c)
    | _ => (0, 0, 0)) = t
  rw [h]
  rfl
theorem TrAt.map {H : Hp} {ys : List V} {ts : List T3} (h : TrAt H ys ts) : ys.map (triOf H) = ts := by
  apply List.ext_getElem?
  intro i
  rw [List.getElem?_map]
  by_cases hi : i < ys.length
  · have hj : i < ts.length := by rw [← h.1]; exact hi
    obtain ⟨e, h1, h2⟩ := h.2 i _ _ (List.getElem?_eq_getElem hi) (List.getElem?_eq_getElem hj)
    rw [List.getElem?_eq_getElem hi, List.getElem?_eq_getElem hj, h1, Option.map_some, triOf_at h2]
  · rw [List.getElem?_eq_none (by omega), List.getElem?_eq_none (by rw [← h.1]; omega)]
    rfl
def selK (S : Kn) (z k : Str) (kv : Key × V) : Option T3 := match kv.1 with
  | .inl id => pick S z k id
  | .inr _ => none
theorem mem_of_valV {kvs : List (Key × V)} {key : Key} {v : V} (h : valV kvs key = some v) : ∃ kv ∈ kvs, kv.1 = key := by
  have q := valV_any key kvs
  rw [h] at q
  obtain ⟨kv, h1, h2⟩ := List.any_eq_true.mp q
  exact ⟨kv, h1, of_decide_eq_true h2⟩
theorem none_of {H H' : Hp} {q : Addr} (s : Same H H') (h : H' q = none) : H q = none := by
  cases e : H q with
  | none => rfl
  | some o => rw [s _ _ e] at h; cases h
/-- what is found, in the order of the ids that came -/
theorem sel_all {aT : Addr} {H : Hp} {kvs : List (Key × V)} {S : Kn} {z k : Str} {n : Nat} (hk : KLen kvs n) (hr : ∀ id, RowV aT H (valV kvs (Sum.inl id)) (S id)) : ∀ t, t ∈ kvs.filterMap (selK S z k) ↔ pick S z k t.2.1 = some t := by
  intro t
  rw [List.mem_filterMap]
  constructor
  · rintro ⟨kv, h1, h2⟩
    obtain ⟨id, e⟩ := hk.ik kv h1
    unfold selK at h2
    rw [e] at h2
    have := pick_id h2
    rw [this]
    exact h2
  · intro h
    have hS : S t.2.1 ≠ none := fun e => by
      unfold pick at h
      rw [e] at h
      cases h
    have q := hr t.2.1
    cases e : valV kvs (Sum.inl t.2.1 : Key) with
    | none =>
      rw [e] at q
      cases eS : S t.2.1 with
      | none => exact absurd eS hS
      | some r => rw [eS] at q; exact absurd q (fun z => z)
    | some v =>
      obtain ⟨kv, h1, h2⟩ := mem_of_valV e
      refine ⟨kv, h1, ?_⟩
      unfold selK
      rw [h2]
      exact h
theorem sel_nd {kvs : List (Key × V)} {S : Kn} {z k : Str} {n : Nat} (hk : KLen kvs n) : (kvs.filterMap (selK S z k)).Pairwise fun a b => a.2.1 ≠ b.2.1 := by
  rw [List.pairwise_filterMap]
  have nd := hk.nd
  rw [List.nodup_iff_pairwise_ne, List.pairwise_map] at nd
  refine nd.imp_of_mem fun {x y} hx hy hne a ha b hb e => ?_
  obtain ⟨i, ei⟩ := hk.ik x hx
  obtain ⟨j, ej⟩ := hk.ik y hy
  unfold selK at ha hb
  rw [ei] at ha
  rw [ej] at hb
  have h1 := pick_id (Option.mem_def.mp ha)
  have h2 := pick_id (Option.mem_def.mp hb)
  exact hne (by rw [ei, ej, ← h1, ← h2, e])
/-- sorted, they are the rows -/
theorem rows_of {S : Kn} {z k : Str} {ts us : List T3} (ha : ∀ t, t ∈ us ↔ pick S z k t.2.1 = some t) (hn : us.Pairwise fun a b => a.2.1 ≠ b.2.1) (hp : ts.Perm us) (hs : ts.Pairwise fun a b => lex3 b a = false) : RowsOf S z k ts := by
  refine ⟨fun t => (hp.mem_iff).trans (ha t), ?_⟩
  have hn' : ts.Pairwise fun a b => a.2.1 ≠ b.2.1 := (hp.pairwise_iff (fun {a b} h e => h e.symm)).mpr hn
  refine (hs.and hn').imp fun {a b} ⟨h1, h2⟩ => ?_
  rw [lex3_no] at h1
  rw [lex3_iff]
  omega
theorem valV_of : ∀ {kvs : List (Key × V)}, (kvs.map (·.1)).Nodup → ∀ kv ∈ kvs, valV kvs kv.1 = some kv.2
  | [], _, kv, h => nomatch h
  | p :: r, nd, kv, h => by
    rw [List.map_cons, List.nodup_cons] at nd
    rcases List.mem_cons.mp h with rfl | h
    · exact valV_pos rfl
    · rw [valV_neg (fun e => nd.1 (List.mem_map.mpr ⟨kv, h, e.symm⟩))]
      exact valV_of nd.2 kv h
theorem wk_knok {L : List (Str × Int)} : ∀ {xs : List Ent} {i : Nat} {S S1 : Kn} {l : Option Int}, wk L (xs.map some) i S l = (none, S1) → KnOk L S → (∀ x ∈ xs, x.ok) → KnOk L S1
  | [], i, S, S1, l, h, hk, _ => by
    have h : ((none : Option Nat), S) = (none, S1) := h
    cases h
    exact hk
  | x :: r, i, S, S1, l, h, hk, hx => by
    have h : wk L (some x :: r.map some) i S l = (none, S1) := h
    by_cases c : late? l x.arr = true
    · rw [wk_late c] at h
      cases h
    · have c0 : late? l x.arr = false := Bool.eq_false_iff.mpr c
      cases hb : behind L x (S x.id) with
      | none =>
        rw [wk_bad c0 hb] at h
        cases h
      | some y =>
        rw [wk_go c0 hb] at h
        refine wk_knok h (fun id s k m a e => ?_) fun z hz => hx z (List.mem_cons_of_mem _ hz)
        have e : (if id = x.id then some y else S id) = some (.at_ s k m a) := e
        by_cases ej : id = x.id
        · rw [if_pos ej] at e
          exact behind_ok (hx x List.mem_cons_self) (hk x.id) hb _ _ _ _ (Option.some.inj e)
        · rw [if_neg ej] at e
          exact hk id _ _ _ _ e
theorem th_ok {K : PySem.W.Frag} {H : Hp} {us : List V} {xs : List Ent} (l : us.length = xs.length) (h : ∀ (i : Nat) v x, us[i]? = some v → xs[i]? = some x → ThAt K H v (some x)) : ∀ x ∈ xs, x.ok := fun x hx => by
  obtain ⟨i, hi, e⟩ := List.getElem_of_mem hx
  obtain ⟨_, _, _, h3⟩ := h i us[i] x (List.getElem?_eq_getElem (by omega)) (by rw [List.getElem?_eq_getElem hi, e])
  exact h3
def spRows (K : PySem.W.Frag) (aT CJ CB : Addr) : Sp := fun vs H Q _ => ∃ (j b : Addr) (L : List (Str × Int)) (us : List V) (xs : List Ent) (z k : Str), vs = [.ref j, .str z, .str k] ∧ JAt K aT CJ CB H j b L us xs ∧ us.length ≤ 400 ∧ IsNm z ∧ (L.lookup z).isSome ∧ IsNm k ∧
  ∀ p ys ts H', Same H H' → H p = none → H' p = some (.lst ys) → TrAt H' ys ts → ys.length ≤ us.length → RowsOf (wk L (xs.map some) 0 (fun _ => none) none).2 z k ts → Q (.ref p) H'
section
variable {P : Program} {w : World} {K : PySem.W.Frag} {mg : Str → Option Value} {base : Heap}
abbrev s_Journal_rows : Stmt := inClass (topS 30) 9
theorem sc_Journal_rows : FnScope ["self", "stream", "key", "found", "number", "row"] ["self", "stream", "key"] (defScope s_Journal_rows) := ⟨rfl, rfl, rfl, by decide +kernel, rfl, by decide +kernel, by decide +kernel⟩
theorem ok_rows {f fh CJ CB a_TAKEN_BACK : Addr} {fd fdh : FuncData} (F : Fun K "rows" "Journal.rows" s_Journal_rows f fd) (B : Blt mg) (T : Cj P K mg CJ CB) (TB : Cb K mg CB) (Tt : Tb K mg a_TAKEN_BACK) (G : K2 P w K mg base) (M_has : Meth K CB "has" fh) (b_has : Binds K fdh ["self", "stream"] []) (F_has : FnOk P w K mg base CX0 2 fh fdh ["self", "stream"] (spHas CB)) : FnOk P w K mg base CX0 3 f fd ["self", "stream", "key"] (spRows K a_TAKEN_BACK CJ CB) := by
  have g_TAKEN_BACK := Tt.g
  refine F.ok sc_Journal_rows (fun vs H Q E h => ?_) (fun cdv A outer s H vs Q E hr h => ?_)
  · obtain ⟨j, b, L, us, xs, z, k, rfl, _⟩ := h
    rfl
  · obtain ⟨j, b, L, us, xs, z, k, rfl, hJ, h4, hz, hzL, hk, q⟩ := h
    refine ⟨_, (pss_cons (ps_if (pt_not (pt_val (pe_meth (pe_fld (pv 0) rfl) TB.cl M_has F_has (hr.mono (by decide)) b_has .nil pass0 (pa_cons (pv 1) pa_nil))))
      (pss_one ps_never)
      pss_nil)
    (pss_cons (ps_if (pt_not (pt_val (pe_cal G.is_name (hr.mono (by decide)) pass0 (pa_cons (pv 2) pa_nil))))
      (pss_one ps_never)
      pss_nil)
    (pss_cons (ps_set (i := 3) sc_Journal_rows.nd rfl (Or.inl rfl) (pe_lst pa_nil))
    (pss_cons (ps_lock (ps_for PassesOwn.never rfl (pi_items (pe_fld (pv 0) rfl)) (pg_tup (by rfl) (pgs_cons (pg_name (i := 4) sc_Journal_rows.nd rfl (Or.inl rfl)) (pgs_cons (pg_name (i := 5) sc_Journal_rows.nd rfl (Or.inl rfl)) pgs_nil)))
      (pss_one (ps_if (PW.pt (pw_and (pt_cmpR (op_neD hr.units) (pv 5) (pe_glob (v := .ref a_TAKEN_BACK) (by rfl) g_TAKEN_BACK rfl) (nomark _)) (pw_and (pt_cmpR op_eq (pe_ix ix_tup (pv 5) pe_int (fun _ _ => rfl)) (pv 1) (nomark _)) (pw_and1 (pt_cmpR op_eq (pe_ix ix_tup (pv 5) pe_int (fun _ _ => rfl)) (pv 2) (nomark _))))))
        (pss_one (ps_expr (pe_bm PySem.F.plainAttrs_list PySem.F.slot_list_append PySem.F.type_list_append mt_append (pv 3) (pa_cons (pe_tup (pa_cons (pe_ix ix_tup (pv 5) pe_int (fun _ _ => rfl)) (pa_cons (pv 4) (pa_cons (pe_ix ix_tup (pv 5) pe_int (fun _ _ => rfl)) pa_nil)))) pa_nil))))
        pss_nil))))
    (pss_one (ps_ret (pe_callB cr_sorted3 (by rfl) B.sorted (by decide +kernel) (pa_cons (pv 3) pa_nil)))))))), ?_⟩
    obtain ⟨dx, t, kd, h1, h2, h3, hl, h5, h6, kvs, n1, n2, n3⟩ := id hJ
    obtain ⟨bx, bd, L', b1, b2, b3⟩ := id h2
    have hxok := th_ok hl h5
    have hkn : KnOk L (wk L (xs.map some) 0 (fun _ => none) none).2 := wk_knok (S1 := (wk L (xs.map some) 0 (fun _ => none) none).2) (by rw [← h6]) (fun _ _ _ _ _ e => by cases e) hxok
    generalize (wk L (xs.map some) 0 (fun _ => none) none).2 = S at q n3 hkn
    refine ⟨_, rfl, j, CJ, dx, _, _, rfl, h1, T.cl, T.nB, jf_b _ _ _, b, bx, _, rfl, b1, rfl, _, rfl, b, L, z, rfl, h2, hz, fun H1 s1 => ⟨_, rfl, ?_⟩⟩
    rw [hzL]
    refine iteF ⟨_, rfl, _, rfl, .inl ⟨k, rfl, (by have := hk.2.1; rw [sizeLine_eq]; omega), fun H2 s2 => ⟨_, rfl, ?_⟩⟩⟩
    rw [(nmB_iff k).mpr hk]
    refine iteF ⟨(by show 0 ≤ sizeLine; decide), fun q0 hq0 => ?_⟩
    have s12 := s1.trans s2
    have hq0H : H q0 = none := by
      cases e : H q0 with
      | none => rfl
      | some o => rw [s12 _ _ e] at hq0; cases hq0
    have hkd2 : H2 kd = some (.dK kvs) := s12 _ _ n1
    have kq : kd ≠ q0 := ne_of_none hkd2 hq0
    have jk : j ≠ kd := ne_of h1 n1 (by intro z; cases z)
    have jq : j ≠ q0 := ne_of_none (s12 _ _ h1) hq0
    refine ⟨kd, .dK kvs, by rw [upd_ne kq]; exact hkd2, trivial, fun od => ?_⟩
    have sB : Same (upd H2 kd (.frz od (.dK kvs))) (upd (upd H2 q0 (.lst [])) kd (.frz od (.dK kvs))) := fun c o hc => by
      by_cases e : c = kd
      · subst e
        rw [upd_same] at hc ⊢
        exact hc
      · rw [upd_ne e] at hc ⊢
        rw [upd_ne (ne_of_none hc hq0)]
        exact hc
    have hB0 : (upd H2 kd (.frz od (.dK kvs))) q0 = none := by rw [upd_ne (Ne.symm kq)]; exact hq0
    have jB : (upd H2 kd (.frz od (.dK kvs))) j = some (.ins CJ dx (jf b t kd)) := by rw [upd_ne jk]; exact s12 _ _ h1
    have tB : ∀ t xs, H t = some (.tup xs) → (upd H2 kd (.frz od (.dK kvs))) t = some (.tup xs) := fun t xs e => by rw [upd_ne (ne_of e n1 (by intro z; cases z))]; exact s12 _ _ e
    refine ⟨_, rfl, j, CJ, dx, _, _, rfl, sB _ _ jB, T.cl, T.nK, jf_k _ _ _, kd, od, kvs, rfl, upd_same, for_it (walk_items (kvs := kvs)) (fun i σ H1 => ∃ (ys : List V), (∃ a b, σ = [some (.ref j), some (.str z), some (.str k), some (.ref q0), a, b]) ∧ H1 q0 = some (.lst ys) ∧ TrAt H1 ys ((kvs.take i).filterMap (selK S z k)) ∧ ys.length ≤ i ∧ Same (upd H2 kd (.frz od (.dK kvs))) H1) ?_ (fun i σ H1 _ ⟨_, hv⟩ => hv.2.2.2.2 _ _ upd_same) ?_ ?_⟩
    · exact ⟨[], ⟨_, _, rfl⟩, by rw [upd_ne (Ne.symm kq)]; exact upd_same, ⟨rfl, fun i v t a b => by simp at a⟩, Nat.le_refl _, sB⟩
    · rintro i v σ H3 H4 hi ⟨ys, ⟨a, b', rfl⟩, g1, g2, g3, s3⟩ ⟨Tt', x1, x2, rfl, hT, rfl, e1, e2⟩
      obtain ⟨kv, hkv⟩ : ∃ kv, kvs[i]? = some kv := ⟨_, List.getElem?_eq_getElem hi⟩
      have e1 : kvs[i]?.map (fun kv => kV kv.1) = some x1 := e1
      have e2 : kvs[i]?.map Prod.snd = some x2 := e2
      rw [hkv] at e1 e2
      cases e1
      cases e2
      have hm := List.mem_of_getElem? hkv
      obtain ⟨id, hid⟩ := n2.ik kv hm
      have hv := valV_of n2.nd kv hm
      rw [hid] at hv
      have rv := n3 id
      rw [hv] at rv
      have s4 : Same (upd H2 kd (.frz od (.dK kvs))) (upd H3 Tt' (.tup [kV kv.1, kv.2])) := s3.trans (sameAt (Same.refl _) hT)
      have g1' : (upd H3 Tt' (.tup [kV kv.1, kv.2])) q0 = some (.lst ys) := sameAt (Same.refl _) hT _ _ g1
      have g2' : TrAt (upd H3 Tt' (.tup [kV kv.1, kv.2])) ys ((kvs.take i).filterMap (selK S z k)) := g2.tk fun t xs e => sameAt (Same.refl _) hT _ _ e
      have hne : ∀ (o : Option T3), selK S z k kv = o → (kvs.take (i + 1)).filterMap (selK S z k) = (kvs.take i).filterMap (selK S z k) ++ o.toList := fun o ho => by
        rw [list_take hkv, List.filterMap_append]
        congr 1
        rw [List.filterMap_cons, ho]
        cases o <;> rfl
      have hsel : selK S z k kv = pick S z k id := by
        unfold selK
        rw [hid]
      have stay : selK S z k kv = none → TrAt (upd H3 Tt' (.tup [kV kv.1, kv.2])) ys ((kvs.take (i + 1)).filterMap (selK S z k)) := fun e => by
        rw [hne none e, Option.toList_none, List.append_nil]
        exact g2'
      refine ⟨Tt', _, rfl, SqT.of upd_same, rfl, _, _, rfl, _, _, rfl, rfl, ?_⟩
      cases eS : S id with
      | none => rw [eS] at rv; exact absurd rv (fun z => z)
      | some r =>
        rw [eS] at rv
        cases r with
        | tb =>
          have rv : kv.2 = .ref a_TAKEN_BACK := rv
          refine ⟨_, rfl, ?_⟩
          rw [rv]
          refine ⟨.tuple [], .tuple [], .tup (Tt.sq _) .nil, .tup (Tt.sq _) .nil, by decide +kernel, by decide +kernel, _, rfl, ?_⟩
          rw [show (!PyData.eqv (.tuple []) (.tuple [])) = false from by decide +kernel]
          rw [rv] at g1' s4 stay
          refine iteF ⟨ys, ⟨_, _, rfl⟩, g1', stay (by rw [hsel]; unfold pick; rw [eS]), by omega, s4⟩
        | at_ z' k' m am =>
          obtain ⟨tt, e5, htt⟩ := rv
          obtain ⟨hz', hk', _⟩ := hkn _ _ _ _ _ eS
          have ht3 := sameAt (Same.refl _) hT (o := .tup [kV kv.1, kv.2]) _ _ (s3 _ _ (tB _ _ htt))
          have hpk : pick S z k id = if z' = z ∧ k' = k then some (m, id, am) else none := by
            unfold pick
            rw [eS]
          refine ⟨_, rfl, ?_⟩
          rw [e5] at g1' s4 stay ht3 ⊢
          have shp : SeqAt.shaped (.tuple [.str z', .str k', .int m, .int am]) = true := shaped_flat (by simp [flatD, nm_ok hz', nm_ok hk'])
          refine ⟨.tuple [.str z', .str k', .int m, .int am], .tuple [], .tup (SqT.of ht3) (.cons (.str _) (.cons (.str _) (.cons (.int _) (.cons (.int _) .nil)))), .tup (Tt.sq _) .nil, shp, by decide +kernel, _, rfl, ?_⟩
          rw [show (!PyData.eqv (.tuple [.str z', .str k', .int m, .int am]) (.tuple [])) = true from by simp [PyData.eqv, PyData.eqvAll]]
          refine iteT ⟨_, rfl, _, _, _, _, rfl, rfl, SqT.of ht3, rfl, _, rfl, rfl, _, rfl, ?_⟩
          have no : ¬ (z' = z ∧ k' = k) → selK S z k kv = none := fun h => by rw [hsel, hpk, if_neg h]
          have nl := n2.len
          refine ite2 (fun c1 => ?_) (fun c1 => ?_)
          · have ez : z' = z := V.str.inj (of_decide_eq_true c1)
            refine ⟨_, rfl, _, _, _, _, rfl, rfl, SqT.of ht3, rfl, _, rfl, rfl, _, rfl, ?_⟩
            refine ite2 (fun c2 => ?_) (fun c2 => ?_)
            · have ek : k' = k := V.str.inj (of_decide_eq_true c2)
              refine ⟨_, rfl, .inl ⟨rfl, _, SqL.of g1'⟩, _, rfl, _, _, _, _, rfl, rfl, SqT.of ht3, rfl, _, rfl, _, rfl, _, _, _, _, rfl, rfl, SqT.of ht3, rfl, (by show 3 ≤ sizeLine; decide), fun e he => ?_⟩
              have s5 : Same (upd H3 Tt' (.tup [kV kv.1, .ref tt])) (upd (upd H3 Tt' (.tup [kV kv.1, .ref tt])) e (.tup [.int m, kV kv.1, .int am])) := sameAt (Same.refl _) he
              refine ⟨q0, ys, _, rfl, rfl, s5 _ _ g1', small1000 (by omega), ?_⟩
              have off : ∀ t xs, (upd (upd H3 Tt' (.tup [kV kv.1, .ref tt])) e (.tup [.int m, kV kv.1, .int am])) t = some (.tup xs) → (upd (upd (upd H3 Tt' (.tup [kV kv.1, .ref tt])) e (.tup [.int m, kV kv.1, .int am])) q0 (.lst (ys ++ [.ref e]))) t = some (.tup xs) := fun t xs h => by
                rw [upd_ne (ne_of h (s5 _ _ g1') (by intro z; cases z))]
                exact h
              refine ⟨ys ++ [.ref e], ⟨_, _, rfl⟩, upd_same, ?_, by rw [List.length_append]; show ys.length + 1 ≤ i + 1; omega, sameAt (s4.trans s5) hB0⟩
              rw [hne (some (m, id, am)) (by rw [hsel, hpk, if_pos ⟨ez, ek⟩])]
              refine (TrAt.snoc (t := (m, id, am)) ((g2'.tk ?_)) (?_ : (upd (upd H3 Tt' (.tup [kV kv.1, .ref tt])) e (.tup [.int m, kV kv.1, .int am])) e = _)).tk off
              · intro t xs h
                rw [e5] at h
                exact s5 _ _ h
              · rw [upd_same, hid]
                rfl
            · exact ⟨ys, ⟨_, _, rfl⟩, g1', stay (no fun h => c2 (decide_eq_true (by rw [h.2]))), by omega, s4⟩
          · exact ⟨ys, ⟨_, _, rfl⟩, g1', stay (no fun h => c1 (decide_eq_true (by rw [h.1]))), by omega, s4⟩
    · rintro σ H3 ⟨ys, ⟨a, b', rfl⟩, g1, g2, g3, s3⟩
      rw [List.take_length] at g2
      have hk3 := s3 _ _ (show (upd H2 kd (.frz od (.dK kvs))) kd = _ from upd_same)
      have un : ∀ t xs, H3 t = some (.tup xs) → (upd H3 kd (.dK kvs)) t = some (.tup xs) := fun t xs e => by rw [upd_ne (ne_of e hk3 (by intro z; cases z))]; exact e
      have g2u := g2.tk un
      have g1u : (upd H3 kd (.dK kvs)) q0 = some (.lst ys) := by rw [upd_ne (Ne.symm kq)]; exact g1
      have sF : Same H (upd H3 kd (.dK kvs)) := fun c o hc => by
        by_cases e : c = kd
        · subst e
          rw [upd_same, ← n1]
          exact hc
        · rw [upd_ne e]
          exact s3 _ _ (by rw [upd_ne e]; exact s12 _ _ hc)
      refine ⟨hk3, ?_⟩
      have gm := g2u.map
      refine ⟨_, rfl, q0, ys, triOf (upd H3 kd (.dK kvs)), rfl, SqL.of g1u, fun x hx => ?_, fun zs p hs hp hnew => ?_⟩
      · obtain ⟨i, hi, e⟩ := List.getElem_of_mem hx
        obtain ⟨e1, h1, h2⟩ := g2u.2 i _ _ (List.getElem?_eq_getElem hi) (List.getElem?_eq_getElem (by rw [← g2u.1]; exact hi))
        refine ⟨e1, by rw [← e, h1], ?_⟩
        rw [← e, h1, triOf_at h2]
        exact h2
      · have sp : Same (upd H3 kd (.dK kvs)) (upd (upd H3 kd (.dK kvs)) p (.lst zs)) := sameAt (Same.refl _) hnew
        refine q p zs (zs.map (triOf (upd H3 kd (.dK kvs)))) _ (sF.trans sp) (none_of sF hnew) upd_same ⟨by rw [List.length_map], fun i v t a b => ?_⟩ (by have := hp.length_eq; have := n2.len; omega) (rows_of (sel_all n2 n3) (sel_nd n2) (by rw [← gm]; exact hp.map _) (List.pairwise_map.mpr hs))
        rw [List.getElem?_map, a] at b
        cases b
        have hv := hp.mem_iff.mp (List.mem_of_getElem? a)
        obtain ⟨i', hi', e⟩ := List.getElem_of_mem hv
        obtain ⟨e1, h1, h2⟩ := g2u.2 i' _ _ (List.getElem?_eq_getElem hi') (List.getElem?_eq_getElem (by rw [← g2u.1]; exact hi'))
        rw [e] at h1
        subst h1
        exact ⟨e1, rfl, sp _ _ (by rw [triOf_at h2]; exact h2)⟩
end
end Ash

set_option Elab.async false
set_option linter.all false
set_option maxRecDepth 100000
set_option maxHeartbeats 4000000
namespace Ash
open PySem PySem.Spec PyProof.Rows L2 SrtT
/-! ### settled moments -/
theorem pick_iff {S : Kn} {z k : Str} {id : Int} {t : T3} : pick S z k id = some t ↔ S id = some (.at_ z k t.1 t.2.2) ∧ t.2.1 = id := by
  obtain ⟨m, i, a⟩ := t
  constructor
  · intro h
    have hi := pick_id h
    refine ⟨?_, hi⟩
    unfold pick at h
    split at h
    · rename_i z' k' m' a' e
      split at h
      · rename_i c
        cases h
        rw [e, c.1, c.2]
      · cases h
    · cases h
  · rintro ⟨h, e⟩
    have e : i = id := e
    have h : S id = some (.at_ z k m a) := h
    unfold pick
    rw [h, e]
    show (if z = z ∧ k = k then some (m, id, a) else none) = _
    rw [if_pos ⟨rfl, rfl⟩]
theorem lex3_trans {a b c : T3} (h : lex3 a b = true) (g : lex3 b c = true) : lex3 a c = true := by
  rw [lex3_iff] at h g ⊢
  omega
theorem lex3_irr {a : T3} : lex3 a a = false := by
  rw [lex3_no]
  omega
/-- ascending lists of the same triples are one -/
theorem asc_ext : ∀ {a b : List T3}, a.Pairwise (fun x y => lex3 x y = true) → b.Pairwise (fun x y => lex3 x y = true) → (∀ t, t ∈ a ↔ t ∈ b) → a = b
  | [], [], _, _, _ => rfl
  | [], y :: b, _, _, h => nomatch (h y).mpr List.mem_cons_self
  | x :: a, [], _, _, h => nomatch (h x).mp List.mem_cons_self
  | x :: a, y :: b, ha, hb, h => by
    rw [List.pairwise_cons] at ha hb
    have e : x = y := by
      rcases List.mem_cons.mp ((h x).mp List.mem_cons_self) with e | hx
      · exact e
      · rcases List.mem_cons.mp ((h y).mpr List.mem_cons_self) with e | hy
        · exact e.symm
        · have := lex3_trans (ha.1 y hy) (hb.1 x hx)
          rw [lex3_irr] at this
          cases this
    subst e
    congr 1
    refine asc_ext ha.2 hb.2 fun t => ⟨fun ht => ?_, fun ht => ?_⟩
    · rcases List.mem_cons.mp ((h t).mp (List.mem_cons_of_mem _ ht)) with e | hm
      · have := ha.1 t ht
        rw [e, lex3_irr] at this
        cases this
      · exact hm
    · rcases List.mem_cons.mp ((h t).mpr (List.mem_cons_of_mem _ ht)) with e | hm
      · have := hb.1 t ht
        rw [e, lex3_irr] at this
        cases this
      · exact hm
theorem RowsOf.uniq {S : Kn} {z k : Str} {a b : List T3} (ha : RowsOf S z k a) (hb : RowsOf S z k b) : a = b := asc_ext ha.asc hb.asc fun t => (ha.all t).trans (hb.all t).symm
theorem RowsOf.at {S : Kn} {z k : Str} {a : List T3} (h : RowsOf S z k a) {t : T3} : t ∈ a ↔ S t.2.1 = some (.at_ z k t.1 t.2.2) := by
  rw [h.all, pick_iff]
  exact ⟨fun q => q.1, fun q => ⟨q, rfl⟩⟩
/-- one id, one row -/
theorem RowsOf.ids {S : Kn} {z k : Str} {a : List T3} (h : RowsOf S z k a) : a.Pairwise fun x y => x.2.1 ≠ y.2.1 := by
  refine h.asc.imp_of_mem fun {x y} hx hy hxy e => ?_
  have h1 := h.at.mp hx
  have h2 := h.at.mp hy
  rw [e, h2] at h1
  have h3 := Option.some.inj h1
  injection h3 with _ _ e1 e2
  rw [lex3_iff] at hxy
  omega
theorem behind_late {L : List (Str × Int)} {x : Ent} {o : Option RowSt} {y : RowSt} {h : Int} (hb : behind L x o = some y) (hr : h < x.arr) {s k : Str} {m a l : Int} (hl : L.lookup s = some l) (hm : m + l ≤ h) : o ≠ some (.at_ s k m a) ∧ y ≠ .at_ s k m a := by
  cases x with
  | row id s' k' m' a' r =>
    have hr : h < r := hr
    cases o with
    | some o => cases hb
    | none =>
      refine ⟨(fun z => nomatch z), fun z => ?_⟩
      have hb : (L.lookup s').bind _ = _ := hb
      cases e : L.lookup s' with
      | none => rw [e] at hb; cases hb
      | some l' =>
        rw [e, Option.bind_some] at hb
        split at hb
        · rename_i c
          cases hb
          injection z with z1 z2 z3 z4
          subst z1
          rw [hl] at e
          cases e
          omega
        · cases hb
  | fix id m' a' r =>
    have hr : h < r := hr
    cases o with
    | none => cases hb
    | some o =>
      cases o with
      | tb => cases hb
      | at_ s0 k0 m0 a0 =>
        have hb : (L.lookup s0).bind _ = _ := hb
        cases e : L.lookup s0 with
        | none => rw [e] at hb; cases hb
        | some l' =>
          rw [e, Option.bind_some] at hb
          split at hb
          · rename_i c
            cases hb
            refine ⟨fun z => ?_, fun z => ?_⟩
            · have z := Option.some.inj z
              injection z with z1 z2 z3 z4
              subst z1
              rw [hl] at e
              cases e
              omega
            · injection z with z1 z2 z3 z4
              subst z1
              rw [hl] at e
              cases e
              omega
          · cases hb
  | gone id r =>
    have hr : h < r := hr
    cases o with
    | none => cases hb
    | some o =>
      cases o with
      | tb => cases hb
      | at_ s0 k0 m0 a0 =>
        have hb : (L.lookup s0).bind _ = _ := hb
        cases e : L.lookup s0 with
        | none => rw [e] at hb; cases hb
        | some l' =>
          rw [e, Option.bind_some] at hb
          split at hb
          · rename_i c
            cases hb
            refine ⟨fun z => ?_, (fun z => nomatch z)⟩
            have z := Option.some.inj z
            injection z with z1 z2 z3 z4
            subst z1
            rw [hl] at e
            cases e
            omega
          · cases hb
/-- rows at settled moments stand as before -/
theorem wk_settled {L : List (Str × Int)} {h : Int} : ∀ {ys : List Ent} {i : Nat} {S S2 : Kn} {l : Option Int}, wk L (ys.map some) i S l = (none, S2) → (∀ y ∈ ys, h < y.arr) →
    ∀ id s k m a l, L.lookup s = some l → m + l ≤ h → (S2 id = some (.at_ s k m a) ↔ S id = some (.at_ s k m a))
  | [], i, S, S2, l, hw, _, id, s, k, m, a, l', hl, hm => by
    have hw : ((none : Option Nat), S) = (none, S2) := hw
    cases hw
    exact Iff.rfl
  | x :: r, i, S, S2, l, hw, hr, id, s, k, m, a, l', hl, hm => by
    have hw : wk L (some x :: r.map some) i S l = (none, S2) := hw
    by_cases c : late? l x.arr = true
    · rw [wk_late c] at hw
      cases hw
    · have c0 : late? l x.arr = false := Bool.eq_false_iff.mpr c
      cases hb : behind L x (S x.id) with
      | none =>
        rw [wk_bad c0 hb] at hw
        cases hw
      | some y =>
        rw [wk_go c0 hb] at hw
        refine (wk_settled hw (fun z hz => hr z (List.mem_cons_of_mem _ hz)) id s k m a l' hl hm).trans ?_
        show (if id = x.id then some y else S id) = _ ↔ _
        by_cases ej : id = x.id
        · rw [if_pos ej, ej]
          obtain ⟨q1, q2⟩ := behind_late (k := k) (a := a) hb (hr x List.mem_cons_self) hl hm
          exact ⟨fun z => absurd (Option.some.inj z) q2, fun z => absurd z q1⟩
        · rw [if_neg ej]
theorem behind_mom {L : List (Str × Int)} {x : Ent} {o : Option RowSt} {s k : Str} {m a : Int} (hb : behind L x o = some (.at_ s k m a)) : m ≤ x.arr := by
  cases x with
  | row id s' k' m' a' r =>
    cases o with
    | some o => cases hb
    | none =>
      have hb : (L.lookup s').bind _ = _ := hb
      cases e : L.lookup s' with
      | none => rw [e] at hb; cases hb
      | some l' =>
        rw [e, Option.bind_some] at hb
        split at hb
        · rename_i c
          cases hb
          exact c.1
        · cases hb
  | fix id m' a' r =>
    cases o with
    | none => cases hb
    | some o =>
      cases o with
      | tb => cases hb
      | at_ s0 k0 m0 a0 =>
        have hb : (L.lookup s0).bind _ = _ := hb
        cases e : L.lookup s0 with
        | none => rw [e] at hb; cases hb
        | some l' =>
          rw [e, Option.bind_some] at hb
          split at hb
          · rename_i c
            cases hb
            exact c.2.1
          · cases hb
  | gone id r => cases behind_gone hb
theorem wk_mom {L : List (Str × Int)} {h : Int} : ∀ {ys : List Ent} {i : Nat} {S S2 : Kn} {l : Option Int}, wk L (ys.map some) i S l = (none, S2) → (∀ y ∈ ys, y.arr ≤ h) → (∀ id s k m a, S id = some (.at_ s k m a) → m ≤ h) → ∀ id s k m a, S2 id = some (.at_ s k m a) → m ≤ h
  | [], i, S, S2, l, hw, _, h0 => by
    have hw : ((none : Option Nat), S) = (none, S2) := hw
    cases hw
    exact h0
  | x :: r, i, S, S2, l, hw, hr, h0 => by
    have hw : wk L (some x :: r.map some) i S l = (none, S2) := hw
    by_cases c : late? l x.arr = true
    · rw [wk_late c] at hw
      cases hw
    · have c0 : late? l x.arr = false := Bool.eq_false_iff.mpr c
      cases hb : behind L x (S x.id) with
      | none =>
        rw [wk_bad c0 hb] at hw
        cases hw
      | some y =>
        rw [wk_go c0 hb] at hw
        refine wk_mom hw (fun z hz => hr z (List.mem_cons_of_mem _ hz)) fun id s k m a e => ?_
        have e : (if id = x.id then some y else S id) = some (.at_ s k m a) := e
        by_cases ej : id = x.id
        · rw [if_pos ej] at e
          cases e
          have := behind_mom hb
          have := hr x List.mem_cons_self
          omega
        · rw [if_neg ej] at e
          exact h0 _ _ _ _ _ e
/-- the last arrival is the greatest -/
theorem wk_last {L : List (Str × Int)} : ∀ {xs : List Ent} {i : Nat} {S : Kn} {l : Option Int} {t : Int}, (wk L (xs.map some) i S l).1 = none → lastA xs l = some t → ∀ x ∈ xs, x.arr ≤ t
  | [], _, _, _, _, _, _, x, hx => nomatch hx
  | y :: r, i, S, l, t, hw, hl, x, hx => by
    have hw : (wk L (some y :: r.map some) i S l).1 = none := hw
    have hl : lastA r (some y.arr) = some t := hl
    by_cases c : late? l y.arr = true
    · rw [wk_late c] at hw
      cases hw
    · have c0 : late? l y.arr = false := Bool.eq_false_iff.mpr c
      cases hb : behind L y (S y.id) with
      | none =>
        rw [wk_bad c0 hb] at hw
        cases hw
      | some z =>
        rw [wk_go c0 hb] at hw
        have ih := wk_last hw hl
        rcases List.mem_cons.mp hx with rfl | hx
        · cases r with
          | nil =>
            have hl : some x.arr = some t := hl
            cases hl
            exact Int.le_refl _
          | cons u r =>
            have h1 := ih u List.mem_cons_self
            have h2 := wk_ge hw u List.mem_cons_self
            omega
        · exact ih x hx
theorem lastA_some : ∀ {xs : List Ent} {l : Option Int}, xs ≠ [] → ∃ x, xs.getLast? = some x ∧ lastA xs l = some x.arr
  | [], _, h => absurd rfl h
  | [x], l, _ => ⟨x, rfl, rfl⟩
  | x :: y :: r, l, _ => by
    obtain ⟨u, h1, h2⟩ := lastA_some (xs := y :: r) (l := some x.arr) (fun z => nomatch z)
    exact ⟨u, by rw [List.getLast?_cons_cons]; exact h1, h2⟩
/-- the settled rows of two states -/
theorem rows_settled {S S2 : Kn} {z k : Str} {a b : List T3} {l h : Int} (ha : RowsOf S z k a) (hb : RowsOf S2 z k b) (hs : ∀ id m am, m + l ≤ h → (S2 id = some (.at_ z k m am) ↔ S id = some (.at_ z k m am))) :
    b.filter (fun t => decide (t.1 + l ≤ h)) = a.filter (fun t => decide (t.1 + l ≤ h)) := by
  refine asc_ext (hb.asc.filter _) (ha.asc.filter _) fun t => ?_
  rw [List.mem_filter, List.mem_filter, ha.at, hb.at]
  constructor
  · rintro ⟨h1, h2⟩
    exact ⟨(hs _ _ _ (of_decide_eq_true h2)).mp h1, h2⟩
  · rintro ⟨h1, h2⟩
    exact ⟨(hs _ _ _ (of_decide_eq_true h2)).mpr h1, h2⟩
/-- a row is gone -/
theorem rows_gone {S : Kn} {z k : Str} {a : List T3} {t : T3} (ha : RowsOf S z k a) (ht : t ∈ a) : RowsOf (setK S t.2.1 .tb) z k (a.filter fun u => decide (u ≠ t)) := by
  refine ⟨fun u => ?_, ha.asc.filter _⟩
  rw [List.mem_filter, pick_iff, ha.at]
  show _ ↔ (if u.2.1 = t.2.1 then some RowSt.tb else S u.2.1) = _ ∧ _
  have h1 := ha.at.mp ht
  by_cases e : u.2.1 = t.2.1
  · rw [if_pos e]
    refine ⟨fun ⟨q1, q2⟩ => absurd ?_ (of_decide_eq_true q2), fun q => nomatch q.1⟩
    rw [e, h1] at q1
    have q3 := Option.some.inj q1
    injection q3 with _ _ e1 e2
    exact Prod.ext e1.symm (Prod.ext e e2.symm)
  · rw [if_neg e]
    exact ⟨fun q => ⟨q.1, rfl⟩, fun q => ⟨q.1, decide_eq_true fun z => e (by rw [z])⟩⟩
/-- a row has another amount -/
theorem rows_fixed {S : Kn} {z k : Str} {a ts : List T3} {t : T3} {am : Int} (ha : RowsOf S z k a) (ht : t ∈ a) (hp : ts.Perm (a.filter (fun u => decide (u ≠ t)) ++ [(t.1, t.2.1, am)])) (hs : ts.Pairwise fun x y => lex3 y x = false) : RowsOf (setK S t.2.1 (.at_ z k t.1 am)) z k ts := by
  have hg := rows_gone ha ht
  have ho : ∀ u, u ∈ a.filter (fun u => decide (u ≠ t)) → u.2.1 ≠ t.2.1 := fun u hu e => by
    have q := hg.at.mp hu
    have q : (if u.2.1 = t.2.1 then some RowSt.tb else S u.2.1) = _ := q
    rw [if_pos e] at q
    cases q
  refine rows_of (us := a.filter (fun u => decide (u ≠ t)) ++ [(t.1, t.2.1, am)]) (fun u => ?_) ?_ hp hs
  · rw [List.mem_append, hg.at, List.mem_singleton, pick_iff]
    show (if u.2.1 = t.2.1 then some RowSt.tb else S u.2.1) = _ ∨ _ ↔ (if u.2.1 = t.2.1 then some (RowSt.at_ z k t.1 am) else S u.2.1) = _ ∧ _
    by_cases e : u.2.1 = t.2.1
    · rw [if_pos e, if_pos e]
      constructor
      · rintro (q | q)
        · cases q
        · rw [q]
          exact ⟨rfl, rfl⟩
      · rintro ⟨q, _⟩
        have q := Option.some.inj q
        injection q with _ _ e1 e2
        exact .inr (Prod.ext e1.symm (Prod.ext e e2.symm))
    · rw [if_neg e, if_neg e]
      exact ⟨fun q => ⟨q.elim id fun q => absurd (by rw [q]) e, rfl⟩, fun q => .inl q.1⟩
  · refine List.pairwise_append.mpr ⟨hg.ids, List.pairwise_singleton _ _, fun u hu v hv => ?_⟩
    rw [List.mem_singleton.mp hv]
    exact ho u hu
/-- a row more -/
theorem rows_joined {S : Kn} {z k : Str} {a ts : List T3} {t : T3} (ha : RowsOf S z k a) (hf : S t.2.1 = none) (hp : ts.Perm (a ++ [t])) (hs : ts.Pairwise fun x y => lex3 y x = false) : RowsOf (setK S t.2.1 (.at_ z k t.1 t.2.2)) z k ts := by
  have ho : ∀ u, u ∈ a → u.2.1 ≠ t.2.1 := fun u hu e => by
    have q := ha.at.mp hu
    rw [e, hf] at q
    cases q
  refine rows_of (us := a ++ [t]) (fun u => ?_) ?_ hp hs
  · rw [List.mem_append, ha.at, List.mem_singleton, pick_iff]
    show _ ↔ (if u.2.1 = t.2.1 then some (RowSt.at_ z k t.1 t.2.2) else S u.2.1) = _ ∧ _
    by_cases e : u.2.1 = t.2.1
    · rw [if_pos e, e, hf]
      constructor
      · rintro (q | q)
        · cases q
        · rw [q]
          exact ⟨rfl, rfl⟩
      · rintro ⟨q, _⟩
        have q := Option.some.inj q
        injection q with _ _ e1 e2
        exact .inr (Prod.ext e1.symm (Prod.ext e e2.symm))
    · rw [if_neg e]
      exact ⟨fun q => ⟨q.elim id fun q => absurd (by rw [q]) e, rfl⟩, fun q => .inl q.1⟩
  · refine List.pairwise_append.mpr ⟨ha.ids, List.pairwise_singleton _ _, fun u hu v hv => ?_⟩
    rw [List.mem_singleton.mp hv]
    exact ho u hu
/-! ### triples as data -/
def tdat (t : T3) : PyData := .tuple [.int t.1, .int t.2.1, .int t.2.2]
theorem t_dp {K : PySem.W.Frag} {H : Hp} {e : Addr} {t : T3} (h : H e = some (.tup (tv t))) : Dp K H (.ref e) (tdat t) := .tup (SqT.of h) (.cons (.int _) (.cons (.int _) (.cons (.int _) .nil)))
theorem t_shaped (t : T3) : SeqAt.shaped (tdat t) = true := shaped_flat (by simp [flatD])
theorem t_lay (t : T3) : (tdat t).canLay0 = true ∧ (tdat t).depth ≤ 2 := by
  obtain ⟨h1, h2⟩ := flat_lay (ds := [.int t.1, .int t.2.1, .int t.2.2]) (by simp [flatD])
  unfold tdat
  simp [PyData.canLay0, PyData.depth, h1]
  omega
theorem ts_lay : ∀ (ts : List T3), PyData.canLayAll0 (ts.map tdat) = true ∧ PyData.depthAll (ts.map tdat) ≤ 2
  | [] => by simp [PyData.canLayAll0, PyData.depthAll]
  | t :: ts => by
    obtain ⟨h1, h2⟩ := ts_lay ts
    obtain ⟨h3, h4⟩ := t_lay t
    rw [List.map_cons]
    simp only [PyData.canLayAll0, PyData.depthAll, h1, h3, Bool.and_self, true_and]
    exact Nat.max_le.mpr ⟨h4, h2⟩
theorem ts_shaped (ts : List T3) : SeqAt.shaped (.list (ts.map tdat)) = true := by
  obtain ⟨h1, h2⟩ := ts_lay ts
  unfold SeqAt.shaped
  simp [PyData.canLay0, PyData.depth, h1]
  omega
theorem t_eqv (t u : T3) : PyData.eqv (tdat t) (tdat u) = decide (t = u) := by
  obtain ⟨a, b, c⟩ := t
  obtain ⟨a', b', c'⟩ := u
  unfold tdat
  simp only [PyData.eqv, PyData.eqvAll, Prod.mk.injEq]
  by_cases e1 : a = a' <;> by_cases e2 : b = b' <;> by_cases e3 : c = c' <;> simp [e1, e2, e3]
theorem TrAt.dpA {K : PySem.W.Frag} {H : Hp} : ∀ {ys : List V} {ts : List T3}, TrAt H ys ts → DpAll K H ys (ts.map tdat)
  | [], [], _ => .nil
  | [], _ :: _, h => by have := h.1; simp at this
  | _ :: _, [], h => by have := h.1; simp at this
  | v :: ys, t :: ts, h => by
    obtain ⟨e, rfl, h2⟩ := h.2 0 v t rfl rfl
    exact .cons (t_dp h2) (TrAt.dpA ⟨by have := h.1; simpa using this, fun i v t a b => h.2 (i + 1) v t a b⟩)
theorem TrAt.dp {K : PySem.W.Frag} {H : Hp} {q : Addr} {ys : List V} {ts : List T3} (h : TrAt H ys ts) (hq : SqL K H q ys) : Dp K H (.ref q) (.list (ts.map tdat)) := .lst hq h.dpA
end Ash

set_option Elab.async false
set_option linter.all false
set_option maxRecDepth 100000
set_option maxHeartbeats 4000000
namespace Ash
open PySem PySem.Spec PyProof.Rows L2
open C8 (pss_cut)
open SrtT (T3 lex3)
theorem Ent.vs_inj : ∀ {x y : Ent}, x.vs = y.vs → x = y
  | .row .., .row .., h => by simp [Ent.vs] at h ⊢; exact h
  | .fix .., .fix .., h => by simp [Ent.vs] at h ⊢; exact h
  | .gone .., .gone .., h => by simp [Ent.vs] at h ⊢; exact h
  | .row .., .fix .., h => by simp [Ent.vs] at h
  | .row .., .gone .., h => by simp [Ent.vs] at h
  | .fix .., .row .., h => by simp [Ent.vs] at h
  | .fix .., .gone .., h => by simp [Ent.vs] at h
  | .gone .., .row .., h => by simp [Ent.vs] at h
  | .gone .., .fix .., h => by simp [Ent.vs] at h
/-- each thing is its entry -/
def ThEs (K : PySem.W.Frag) (H : Hp) (us : List V) (xs : List Ent) : Prop := us.length = xs.length ∧ ∀ (i : Nat) v x, us[i]? = some v → xs[i]? = some x → ThAt K H v (some x)
theorem ThEs.nil {K : PySem.W.Frag} {H : Hp} : ThEs K H [] [] := ⟨rfl, fun i v x h => by simp at h⟩
theorem ThEs.tail {K : PySem.W.Frag} {H : Hp} {u : V} {us : List V} {x : Ent} {xs : List Ent} (h : ThEs K H (u :: us) (x :: xs)) : ThAt K H u (some x) ∧ ThEs K H us xs :=
  ⟨h.2 0 u x rfl rfl, by have := h.1; simp only [List.length_cons] at this; omega, fun i v y a b => h.2 (i + 1) v y a b⟩
theorem ThEs.cons {K : PySem.W.Frag} {H : Hp} {u : V} {us : List V} {x : Ent} {xs : List Ent} (h : ThAt K H u (some x)) (t : ThEs K H us xs) : ThEs K H (u :: us) (x :: xs) :=
  ⟨by rw [List.length_cons, List.length_cons, t.1], fun i v y a b => by
    cases i with
    | zero => cases a; cases b; exact h
    | succ i => exact t.2 i v y a b⟩
theorem ThEs.app {K : PySem.W.Frag} {H : Hp} : ∀ {us vs : List V} {xs ys : List Ent}, ThEs K H us xs → ThEs K H vs ys → ThEs K H (us ++ vs) (xs ++ ys)
  | [], _, [], _, _, g => g
  | u :: us, _, x :: xs, _, h, g => by
    obtain ⟨a, b⟩ := h.tail
    exact ThEs.cons a (b.app g)
  | [], _, _ :: _, _, h, _ => by have := h.1; simp at this
  | _ :: _, _, [], _, h, _ => by have := h.1; simp at this
theorem ThEs.same {K : PySem.W.Frag} {H H' : Hp} {us : List V} {xs : List Ent} (h : ThEs K H us xs) (s : Same H H') : ThEs K H' us xs := ⟨h.1, fun i v x a b => (h.2 i v x a b).same s⟩
/-- the entry that a thing is -/
theorem th_one {K : PySem.W.Frag} {H : Hp} {v : V} {x y : Ent} (h : ThAt K H v (some x)) (g : ThAt K H v (some y)) : x = y := by
  obtain ⟨e, rfl, he, _⟩ := h
  obtain ⟨e', h2, ge, _⟩ := g
  cases h2
  have he : H e = some (.tup x.vs) := he
  have ge : H e = some (.tup y.vs) := ge
  rw [he] at ge
  injection ge with ge
  injection ge with ge
  exact Ent.vs_inj ge
abbrev Asc (l : List Ent) : Prop := l.Pairwise fun a b => a.arr ≤ b.arr
theorem wk_step {L : List (Str × Int)} {x : Ent} {r : List Ent} {i : Nat} {S S1 : Kn} {l : Option Int} (h : wk L ((x :: r).map some) i S l = (none, S1)) : late? l x.arr = false ∧ ∃ y, behind L x (S x.id) = some y ∧ wk L (r.map some) (i + 1) (fun j => if j = x.id then some y else S j) (some x.arr) = (none, S1) := by
  have h : wk L (some x :: r.map some) i S l = (none, S1) := h
  by_cases c : late? l x.arr = true
  · rw [wk_late c] at h
    cases h
  · have c0 : late? l x.arr = false := Bool.eq_false_iff.mpr c
    cases hb : behind L x (S x.id) with
    | none =>
      rw [wk_bad c0 hb] at h
      cases h
    | some y =>
      rw [wk_go c0 hb] at h
      exact ⟨c0, y, rfl, h⟩
/-- a good list's arrivals ascend -/
theorem wk_asc {L : List (Str × Int)} : ∀ {xs : List Ent} {i : Nat} {S : Kn} {l : Option Int}, (wk L (xs.map some) i S l).1 = none → Asc xs
  | [], _, _, _, _ => .nil
  | x :: r, i, S, l, h => by
    have h : (wk L (some x :: r.map some) i S l).1 = none := h
    by_cases c : late? l x.arr = true
    · rw [wk_late c] at h
      cases h
    · have c0 : late? l x.arr = false := Bool.eq_false_iff.mpr c
      cases hb : behind L x (S x.id) with
      | none =>
        rw [wk_bad c0 hb] at h
        cases h
      | some y =>
        rw [wk_go c0 hb] at h
        exact List.pairwise_cons.mpr ⟨fun z hz => wk_ge h z hz, wk_asc h⟩
theorem JAt.es {K : PySem.W.Frag} {aT CJ CB : Addr} {H : Hp} {j b : Addr} {L : List (Str × Int)} {us : List V} {xs : List Ent} (h : JAt K aT CJ CB H j b L us xs) : ThEs K H us xs ∧ Asc xs := by
  obtain ⟨dx, t, kd, h1, h2, h3, h4, h5, h6, h7⟩ := h
  exact ⟨⟨h4, h5⟩, wk_asc h6⟩
theorem list_take' {xs : List Ent} {i : Nat} {x : Ent} (h : xs[i]? = some x) : xs.take (i + 1) = xs.take i ++ [x] := by
  have := (List.getElem?_eq_some_iff.mp h)
  obtain ⟨l, e⟩ := this
  rw [List.take_succ, h]
  rfl
theorem ent_at1 (x : Ent) : atI x.vs 1 = some (.int x.id) := by cases x <;> rfl
end Ash

set_option Elab.async false
set_option linter.all false
set_option maxRecDepth 100000
set_option maxHeartbeats 400000
set_option pp.maxSteps 200
namespace Ash
open PySem PySem.Spec PyProof.Rows L2
open C8 (pss_cut)
/-- books that are one -/
def EqB (CB : Addr) : Addr → Addr → Hp → Prop := fun a b H => a = b ∧ ∃ L, BookAt CB H a L
/-! ### entries as data -/
def Ent.pd : Ent → PyData
  | .row id s k m a r => .tuple [.str "row", .int id, .str s, .str k, .int m, .int a, .int r]
  | .fix id m a r => .tuple [.str "fix", .int id, .int m, .int a, .int r]
  | .gone id r => .tuple [.str "gone", .int id, .int r]
theorem pd_dp {K : PySem.W.Frag} {H : Hp} {e : Addr} {x : Ent} (h : EntAt H e x) : Dp K H (.ref e) x.pd := by
  cases x with
  | row id s k m a r => exact .tup (SqT.of h) (.cons (.str _) (.cons (.int _) (.cons (.str _) (.cons (.str _) (.cons (.int _) (.cons (.int _) (.cons (.int _) .nil)))))))
  | fix id m a r => exact .tup (SqT.of h) (.cons (.str _) (.cons (.int _) (.cons (.int _) (.cons (.int _) (.cons (.int _) .nil)))))
  | gone id r => exact .tup (SqT.of h) (.cons (.str _) (.cons (.int _) (.cons (.int _) .nil)))
theorem pd_flat {x : Ent} (h : x.ok) : x.pd.canLay0 = true ∧ x.pd.depth ≤ 2 := by
  cases x with
  | row id s k m a r =>
    obtain ⟨hs, hk⟩ := h.2 _ _ _ _ _ _ rfl
    have e1 := nm_ok hs
    have e2 := nm_ok hk
    have e3 : PyData.strOk "row" = true := by decide +kernel
    simp [Ent.pd, PyData.canLay0, PyData.canLayAll0, PyData.depth, PyData.depthAll, e1, e2, e3]
  | fix id m a r =>
    have e3 : PyData.strOk "fix" = true := by decide +kernel
    simp [Ent.pd, PyData.canLay0, PyData.canLayAll0, PyData.depth, PyData.depthAll, e3]
  | gone id r =>
    have e3 : PyData.strOk "gone" = true := by decide +kernel
    simp [Ent.pd, PyData.canLay0, PyData.canLayAll0, PyData.depth, PyData.depthAll, e3]
theorem pds_flat : ∀ {xs : List Ent}, (∀ x ∈ xs, x.ok) → PyData.canLayAll0 (xs.map Ent.pd) = true ∧ PyData.depthAll (xs.map Ent.pd) ≤ 2
  | [], _ => by simp [PyData.canLayAll0, PyData.depthAll]
  | x :: xs, h => by
    obtain ⟨a1, a2⟩ := pd_flat (h x List.mem_cons_self)
    obtain ⟨b1, b2⟩ := pds_flat fun z hz => h z (List.mem_cons_of_mem _ hz)
    rw [List.map_cons]
    simp only [PyData.canLayAll0, PyData.depthAll, a1, b1, Bool.and_self, true_and]
    omega
theorem pds_l {xs : List Ent} (h : ∀ x ∈ xs, x.ok) : SeqAt.shaped (.list (xs.map Ent.pd)) = true := by
  obtain ⟨h1, h2⟩ := pds_flat h
  unfold SeqAt.shaped
  simp [PyData.canLay0, PyData.depth, h1]
  omega
theorem pds_t {xs : List Ent} (h : ∀ x ∈ xs, x.ok) : SeqAt.shaped (.tuple (xs.map Ent.pd)) = true := by
  obtain ⟨h1, h2⟩ := pds_flat h
  unfold SeqAt.shaped
  simp [PyData.canLay0, PyData.depth, h1]
  omega
theorem ThEs.dp {K : PySem.W.Frag} {H : Hp} : ∀ {us : List V} {xs : List Ent}, ThEs K H us xs → DpAll K H us (xs.map Ent.pd)
  | [], [], _ => .nil
  | u :: us, x :: xs, h => by
    obtain ⟨a, b⟩ := h.tail
    obtain ⟨e, rfl, he, _⟩ := a
    exact .cons (pd_dp he) (ThEs.dp b)
  | [], _ :: _, h => by have := h.1; simp at this
  | _ :: _, [], h => by have := h.1; simp at this
theorem ThEs.ok {K : PySem.W.Frag} {H : Hp} {us : List V} {xs : List Ent} (h : ThEs K H us xs) : ∀ x ∈ xs, x.ok := th_ok h.1 h.2
theorem ThEs.of {K : PySem.W.Frag} {H : Hp} {us : List V} {xs : List Ent} (h : Ents H us xs) : ThEs K H us xs := ⟨h.1, fun i v x a b => h.2 i v x a b⟩
theorem ThEs.to {K : PySem.W.Frag} {H : Hp} {us : List V} {xs : List Ent} (h : ThEs K H us xs) : Ents H us xs := ⟨h.1, fun i v x a b => h.2 i v x a b⟩
/-- journals of the same entries, in whatever objects -/
def EqJc (K : PySem.W.Frag) (aT CJ CB : Addr) : Addr → Addr → Hp → Prop := fun i j H => ∃ b L us us' xs, JAt K aT CJ CB H i b L us xs ∧ JAt K aT CJ CB H j b L us' xs
section
variable {P : Program} {w : World} {K : PySem.W.Frag} {mg : Str → Option Value} {base : Heap}
abbrev s_Book_eq : Stmt := inClass (topS 18) 1
theorem sc_Book_eq : FnScope ["self", "other"] ["self", "other"] (defScope s_Book_eq) := ⟨rfl, rfl, rfl, by decide +kernel, rfl, by decide +kernel, by decide +kernel⟩
theorem ok_book_eq {f CBook : Addr} {fd : FuncData} (F : Fun K "__eq__" "Book.__eq__" s_Book_eq f fd) (B : Blt mg) (T : Cb K mg CBook) (bk : ∀ H b dx fs, H b = some (.ins CBook dx fs) → TyX K H (.ref b) (.ref CBook)) : FnOk P w K mg base CX0 1 f fd ["self", "other"] (spEq (EqB CBook)) := by
  have c_Book := T.c
  refine F.ok sc_Book_eq (fun vs H Q E h => ?_) (fun cdv A outer s H vs Q E hr h => ?_)
  · obtain ⟨a, b, rfl, _⟩ := h
    rfl
  · obtain ⟨a, b, rfl, ⟨rfl, L, hB⟩, q⟩ := h
    have hu := hu_of hr
    have hu0 : (A.deeper (envOfC "Book.__eq__" (defScope s_Book_eq) s.heap.objs.size f cdv)).units < cLine := by omega
    refine ⟨_, (pss_one (ps_ret (pe_and (pe_callB call_isi (by rfl) B.isinstance (by decide +kernel) (pa_cons (pv 1) (pa_cons (pe_glob (v := .ref CBook) (by rfl) c_Book rfl) pa_nil))) (pe_one (pe_cmpR (op_eq_dictA hu0) (pe_fld (pv 0) rfl) (pe_fld (pv 1) rfl) (nomark _)))))), ?_⟩
    obtain ⟨dx, d, L', h1, h2, h3, nd⟩ := id hB
    have nk : ((LK L').map (·.1)).Nodup := by
      unfold LK
      rw [List.map_map]
      have e : (L'.map ((fun x => x.1) ∘ fun x => ((Sum.inr x.1 : Key), V.int x.2))) = (L'.map (·.1)).map (Sum.inr : Str → Key) := by rw [List.map_map]; rfl
      rw [e]
      exact List.Pairwise.map (Sum.inr : Str → Key) (fun a b h z => h (Sum.inr.inj z)) nd
    refine ⟨_, rfl, _, _, _, _, true, rfl, ClsV.own _, bk _ _ _ _ h1, (by show PySem.W.kitOne K _ _ = _; unfold PySem.W.kitOne; rw [if_pos (by simp)]), _, rfl, iteT ?_⟩
    refine ⟨_, rfl, a, CBook, dx, _, _, rfl, h1, T.cl, T.nL, rfl, _, rfl, a, CBook, dx, _, _, rfl, h1, T.cl, T.nL, rfl, d, d, _, _, rfl, rfl, h2, h2, rfl, fun p hp => ⟨valV_of nk p hp, ?_⟩, q H Ext.rfl'⟩
    obtain ⟨x, hx, rfl⟩ := List.mem_map.mp hp
    rfl
theorem ok_book_eqN {f CBook : Addr} {fd : FuncData} (F : Fun K "__eq__" "Book.__eq__" s_Book_eq f fd) (B : Blt mg) (T : Cb K mg CBook) (nk : PySem.W.kitOne K (.type "str") (.ref CBook) = some false) : FnOk P w K mg base CX0 2 f fd ["self", "other"] (spBookEqN CBook) := by
  have c_Book := T.c
  refine F.ok sc_Book_eq (fun vs H Q E h => ?_) (fun cdv A outer s H vs Q E hr h => ?_)
  · obtain ⟨a, z, L, rfl, _⟩ := h
    rfl
  · obtain ⟨a, z, L, rfl, hB, q⟩ := h
    have hu := hu_of hr
    have hu0 : (A.deeper (envOfC "Book.__eq__" (defScope s_Book_eq) s.heap.objs.size f cdv)).units < cLine := by omega
    refine ⟨_, (pss_one (ps_ret (pe_and (pe_callB call_isi (by rfl) B.isinstance (by decide +kernel) (pa_cons (pv 1) (pa_cons (pe_glob (v := .ref CBook) (by rfl) c_Book rfl) pa_nil))) (pe_one (pe_cmpR (op_eq_dictA hu0) (pe_fld (pv 0) rfl) (pe_fld (pv 1) rfl) (nomark _)))))), ?_⟩
    exact ⟨_, rfl, _, _, _, _, false, rfl, ClsV.own _, .base (.str z), nk, _, rfl, iteF q⟩
abbrev s_Journal_eq : Stmt := inClass (topS 30) 1
theorem sc_Journal_eq : FnScope ["self", "other"] ["self", "other"] (defScope s_Journal_eq) := ⟨rfl, rfl, rfl, by decide +kernel, rfl, by decide +kernel, by decide +kernel⟩
theorem ok_j_eqc {f fb CJournal CB aT : Addr} {fd fdb : FuncData} (F : Fun K "__eq__" "Journal.__eq__" s_Journal_eq f fd) (B : Blt mg) (T : Cj P K mg CJournal CB) (jk : ∀ H b dx fs, H b = some (.ins CJournal dx fs) → TyX K H (.ref b) (.ref CJournal))
    (hs : PySem.W.findIn K (.ref CB) "__eq__" = some (some (.ref fb))) (hf : PySem.W.isFn K (.ref fb) = true) (hb : Binds K fdb ["self", "other"] []) (Fb : FnOk P w K mg base CX0 1 fb fdb ["self", "other"] (spEq (EqB CB))) : FnOk P w K mg base CX0 3 f fd ["self", "other"] (spEq (EqJc K aT CJournal CB)) := by
  have c_Journal := T.c
  refine F.ok sc_Journal_eq (fun vs H Q E h => ?_) (fun cdv A outer s H vs Q E hr h => ?_)
  · obtain ⟨a, b, rfl, _⟩ := h
    rfl
  · obtain ⟨i, j, rfl, ⟨b, L, us, us', xs, hI, hJ⟩, q⟩ := h
    refine ⟨_, (pss_one (ps_ret (pe_and (pe_callB call_isi (by rfl) B.isinstance (by decide +kernel) (pa_cons (pv 1) (pa_cons (pe_glob (v := .ref CJournal) (by rfl) c_Journal rfl) pa_nil))) (pe_and (pe_cmpR (op_eqG (rcG_ins Fb hs hf hb pass0) (hr.mono (by decide))) (pe_fld (pv 0) rfl) (pe_fld (pv 1) rfl) (nomark _)) (pe_one (pe_cmpR (op_eqD hr.units) (pe_fld (pv 0) rfl) (pe_fld (pv 1) rfl) (nomark _))))))), ?_⟩
    obtain ⟨dx, t, kd, h1, h2, h3, hl, h5, h6, h7⟩ := id hI
    obtain ⟨dy, t', kd', g1, g2, g3, gl, g5, g6, g7⟩ := id hJ
    obtain ⟨bx, d, L', b1, b2, b3, nd⟩ := id h2
    have E1 := hI.es.1
    have E2 := hJ.es.1
    refine ⟨_, rfl, _, _, _, _, true, rfl, ClsV.own _, jk _ _ _ _ g1, (by show PySem.W.kitOne K _ _ = _; unfold PySem.W.kitOne; rw [if_pos (by simp)]), _, rfl, iteT ?_⟩
    refine ⟨_, rfl, i, CJournal, dx, _, _, rfl, h1, T.cl, T.nB, jf_b _ _ _, _, rfl, j, CJournal, dy, _, _, rfl, g1, T.cl, T.nB, jf_b _ _ _, ⟨b, b, _, _, _, _, rfl, rfl, b1, b1, rfl, L, h2⟩, fun H1 e1 => ⟨_, rfl, iteT ?_⟩⟩
    refine ⟨_, rfl, i, CJournal, dx, _, _, rfl, e1 _ _ h1, T.cl, T.nE, jf_e _ _ _, _, rfl, j, CJournal, dy, _, _, rfl, e1 _ _ g1, T.cl, T.nE, jf_e _ _ _, .tuple (xs.map Ent.pd), .tuple (xs.map Ent.pd), .tup (h3.ext e1) (E1.same e1).dp, .tup (g3.ext e1) (E2.same e1).dp, pds_t E1.ok, pds_t E1.ok, ?_⟩
    rw [SeqAt.eqv_refl _ (SeqAt.canLay_of_shaped (pds_t E1.ok))]
    exact q H1 e1
end
end Ash

set_option Elab.async false
set_option linter.all false
set_option maxRecDepth 100000
set_option maxHeartbeats 400000
set_option pp.maxSteps 300
namespace Ash
open PySem PySem.Spec PyProof.Rows L2
open C8 (pss_cut)
/-! ### rows of things with one thing spoilt -/
def AllT (K : PySem.W.Frag) (H : Hp) (us : List V) : Prop := ∀ v ∈ us, (∃ o, ThAt K H v o) ∧ SameV v v
section
variable {K : PySem.W.Frag} {H H' : Hp} {us vs : List V}
theorem AllT.same (h : AllT K H us) (s : Same H H') : AllT K H' us := fun v hv => ⟨(h v hv).1.imp fun _ t => t.same s, (h v hv).2⟩
theorem AllT.app (h : AllT K H us) (g : AllT K H vs) : AllT K H (us ++ vs) := fun v hv => (List.mem_append.mp hv).elim (h v) (g v)
theorem AllT.take (n : Nat) (h : AllT K H us) : AllT K H (us.take n) := fun v hv => h v (List.mem_of_mem_take hv)
theorem AllT.drop (n : Nat) (h : AllT K H us) : AllT K H (us.drop n) := fun v hv => h v (List.mem_of_mem_drop hv)
theorem AllT.one {v : V} {o : Option Ent} (h : ThAt K H v o) (e : SameV v v) : AllT K H [v] := fun u hu => by
  rw [List.mem_singleton.mp hu]
  exact ⟨⟨o, h⟩, e⟩
theorem AllT.set {v : V} {o : Option Ent} (n : Nat) (h : AllT K H us) (g : ThAt K H v o) (e : SameV v v) : AllT K H (us.set n v) := fun u hu => by
  rcases List.mem_or_eq_of_mem_set hu with hu | rfl
  · exact h u hu
  · exact ⟨⟨o, g⟩, e⟩
theorem AllT.things : ∀ {us : List V}, AllT K H us → ∃ ths, Things K H us ths
  | [], _ => ⟨[], rfl, fun i v o h => by simp at h⟩
  | x :: r, h => by
    obtain ⟨⟨o, ho⟩, _⟩ := h x List.mem_cons_self
    obtain ⟨ths, e, g⟩ := AllT.things (us := r) fun v hv => h v (List.mem_cons_of_mem _ hv)
    refine ⟨o :: ths, by rw [List.length_cons, List.length_cons, e], fun i v o' a b => ?_⟩
    cases i with
    | zero => cases a; cases b; exact ho
    | succ i => exact g i v o' a b
theorem Ents.all {xs : List Ent} (h : Ents H us xs) : AllT K H us := fun v hv => by
  obtain ⟨i, hi, rfl⟩ := List.mem_iff_getElem.mp hv
  have hx : i < xs.length := h.1 ▸ hi
  obtain ⟨e, h1, h2, h3⟩ := h.2 i _ xs[i] (List.getElem?_eq_getElem hi) (List.getElem?_eq_getElem hx)
  rw [h1]
  exact ⟨⟨some _, e, rfl, h2, h3⟩, .inr ⟨rfl, _, rfl⟩⟩
theorem ents_ne {xs : List Ent} {a p s : Addr} (h : Ents H us xs) (ha : H a = some (.lst us)) (hP : PoolAt H p s) : a ≠ p := by
  rintro rfl
  obtain ⟨ns, i, c, k, n, hp, _⟩ := hP
  rw [ha] at hp
  cases hp
  have hl : 1 < xs.length := by rw [← h.1]; show 1 < 5; decide
  obtain ⟨e, h1, _⟩ := h.2 1 (.int i) xs[1] rfl (List.getElem?_eq_getElem hl)
  cases h1
/-- the row is left alone -/
theorem off_th {l : Addr} {ys zs : List V} {v : V} {x : Ent} (h : ThAt K H v (some x)) (hl : H l = some (.lst ys)) : ThAt K (upd H l (.lst zs)) v (some x) := by
  obtain ⟨e, h1, h2, h3⟩ := h
  exact ⟨e, h1, by unfold EntAt; rw [upd_ne (ne_of h2 hl (by intro z; cases z))]; exact h2, h3⟩
end
def spSpoilt (K : PySem.W.Frag) : Sp := fun vs H Q _ => ∃ (p s dl a : Addr) (L : List (Str × Int)) (us : List V) (xs : List Ent), vs = [.ref p, .ref dl, .ref a] ∧ PoolAt H p s ∧ H dl = some (.dK (LK L)) ∧ Lates L ∧ H a = some (.lst us) ∧ Ents H us xs ∧ us.length ≤ 8 ∧
  ∀ r us' H', H' r = some (.lst us') → H r = none → us'.length ≤ 9 → AllT K H' us' → Pl H H' p s → Q (.ref r) H'
section
variable {P : Program} {w : World} {K : PySem.W.Frag} {mg : Str → Option Value} {base : Heap}
structure GSp (P : Program) (w : World) (K : PySem.W.Frag) (mg : Str → Option Value) (base : Heap) (CB : Addr) : Prop extends G2 P w K mg base where
  law_odd : Cal P w K mg base CX0 "_law_odd" 6 ["_law_pool_here"] (spOdd CB)
  law_turned : Cal P w K mg base CX0 "_law_turned" 7 ["_law_pool_here", "_law_lates_here", "_law_entry_here"] (spTurned K)
abbrev s_l_spoilt : Stmt := topS 48
theorem sc_l_spoilt : FnScope ["_law_pool_here", "_law_lates_here", "_law_entries_here", "_law_found", "_law_at", "_law_kind", "_law_other"] ["_law_pool_here", "_law_lates_here", "_law_entries_here"] (defScope s_l_spoilt) := ⟨rfl, rfl, rfl, by decide +kernel, rfl, by decide +kernel, by decide +kernel⟩
theorem ok_spoilt {f CB : Addr} {fd : FuncData} (F : Fun K "_law_spoilt" "_law_spoilt" s_l_spoilt f fd) (B : Blt mg) (BT : BkT K CB) (G : GSp P w K mg base CB) : FnOk P w K mg base CX0 8 f fd ["_law_pool_here", "_law_lates_here", "_law_entries_here"] (spSpoilt K) := by
  refine F.ok sc_l_spoilt (fun vs H Q E h => ?_) (fun cdv A outer s H vs Q E hr h => ?_)
  · obtain ⟨p, s, dl, a, L, us, xs, rfl, _⟩ := h
    rfl
  · obtain ⟨p, s0, dl, a, L, us, xs, rfl, hP, hdl, LL, ha, hE, n8, q⟩ := h
    have hu := hu_of hr
    refine ⟨_, (pss_cons (ps_set (i := 3) sc_l_spoilt.nd rfl (Or.inl rfl) (pe_callTy call_list_of (by rfl) B.list (by decide +kernel) (pa_cons (pv 2) pa_nil)))
    (pss_cons (ps_set (i := 4) sc_l_spoilt.nd rfl (Or.inl rfl) (pe_cal G.law_draw (hr.mono (by decide)) pass0 (pa_cons (pv 0) (pa_cons (pe_op op_add (pe_callB call_len_seq (by rfl) B.len (by decide +kernel) (pa_cons (pv 3) pa_nil)) pe_int) pa_nil))))
    (pss_cons (ps_set (i := 5) sc_l_spoilt.nd rfl (Or.inl rfl) (pe_cal G.law_draw (hr.mono (by decide)) pass0 (pa_cons (pv 0) (pa_cons pe_int pa_nil))))
    (pss_cons (ps_if (PW.pt (pw_or (pt_cmpR op_eq (pv 5) pe_int (nomark _)) (pw_or1 (pt_cmpR op_eq (pv 4) (pe_callB call_len_seq (by rfl) B.len (by decide +kernel) (pa_cons (pv 3) pa_nil)) (nomark _)))))
      (pss_one (ps_ret (pe_op op_cat (pe_op op_cat (pe_slice sl_list (pv 3) po_none (po_some (pv 4))) (pe_lst (pa_cons (pe_cal G.law_odd (hr.mono (by decide)) pass0 (pa_cons (pv 0) pa_nil)) pa_nil))) (pe_slice sl_list (pv 3) (po_some (pv 4)) po_none))))
      pss_nil)
    (pss_cons (ps_if (pt_cmpR op_eq (pv 5) pe_int (nomark _))
      (pss_one (ps_ret (pe_op op_cat (pe_slice sl_list (pv 3) po_none (po_some (pv 4))) (pe_slice sl_list (pv 3) (po_some (pe_op op_add (pv 4) pe_int)) po_none))))
      pss_nil)
    (pss_cons (ps_if (pt_cmpR op_eq (pv 5) pe_int (nomark _))
      (pss_one (ps_ret (pe_op op_cat (pe_op op_cat (pe_slice sl_list (pv 3) po_none (po_some (pv 4))) (pe_lst (pa_cons (pe_ix ix_list (pv 3) (pv 4) (fun _ _ => rfl)) pa_nil))) (pe_slice sl_list (pv 3) (po_some (pv 4)) po_none))))
      pss_nil)
    (pss_cons (ps_if (pt_cmpR op_eq (pv 5) pe_int (nomark _))
      (pss_cons (ps_set (i := 6) sc_l_spoilt.nd rfl (Or.inl rfl) (pe_cal G.law_draw (hr.mono (by decide)) pass0 (pa_cons (pv 0) (pa_cons (pe_callB call_len_seq (by rfl) B.len (by decide +kernel) (pa_cons (pv 3) pa_nil)) pa_nil))))
      (pss_cons (ps_asg (pe_ix ix_list (pv 2) (pv 6) (fun _ _ => rfl)) (pg_sub (pv 3) (pv 4) set_list))
      (pss_cons (ps_asg (pe_ix ix_list (pv 2) (pv 4) (fun _ _ => rfl)) (pg_sub (pv 3) (pv 6) set_list))
      (pss_one (ps_ret (pv 3))))))
      pss_nil)
    (pss_cons (ps_asg (pe_cal G.law_turned (hr.mono (by decide)) pass0 (pa_cons (pv 0) (pa_cons (pv 1) (pa_cons (pe_ix ix_list (pv 3) (pv 4) (fun _ _ => rfl)) pa_nil)))) (pg_sub (pv 3) (pv 4) set_list))
    (pss_one (ps_ret (pv 3))))))))))), ?_⟩
    have hap := ents_ne hE ha hP
    refine ⟨_, rfl, a, _, rfl, .inl (SqL.of ha), fun l hl => ?_⟩
    have hlp : l ≠ p := fun z => hP.ne.1 (z ▸ hl)
    have s1 := sameAt (o := .lst us) (Same.refl H) hl
    have P1 := (Pl.refl hP).same s1
    refine ⟨_, rfl, _, rfl, l, _, rfl, .inl (SqL.of upd_same), _, _, rfl, rfl, p, s0, _, rfl, P1.now, (by omega), Int.lt_of_le_of_lt (show (us.length : Int) + 1 ≤ 9 by omega) (by decide), fun at_ H2 a0 a1 P2 => ?_⟩
    obtain ⟨k, rfl⟩ : ∃ n : Nat, at_ = (n : Int) := ⟨at_.toNat, by omega⟩
    refine ⟨_, rfl, p, s0, 6, rfl, P2.now, (by decide), (by decide), fun kind H3 k0 k6 P3 => ?_⟩
    have PP := (P1.trans P2).trans P3
    have hl3 : H3 l = some (.lst us) := P3.keep (P2.keep upd_same hlp) hlp
    have ha3 : H3 a = some (.lst us) := PP.keep ha hap
    have hE3 := hE.tk (PP.tk hP)
    have hA3 : AllT K H3 us := hE3.all
    have hd3 := PP.dk hP hdl
    have tk : (us.take k).length ≤ k := by rw [List.length_take]; omega
    have tk2 : (us.take k).length ≤ us.length := by rw [List.length_take]; omega
    have dk : ∀ n, (us.drop n).length = us.length - n := fun n => List.length_drop
    have ct : k ≤ us.length → cutV us none (some (k : Int)) = us.take k := fun h => cut_take h
    have cd : ∀ n : Nat, n ≤ us.length → cutV us (some (n : Int)) none = us.drop n := fun n h => cut_drop h
    clear P1 P2 P3 s1
    refine ⟨_, rfl, rfl, _, rfl, ite2 (fun c0 => ?_) (fun c0 => ?_)⟩
    · skip
      refine ⟨_, rfl, _, rfl, _, rfl, l, _, rfl, SqL.of hl3, fun x1 hx1 => ?_⟩
      have w1 := sameAt (o := .lst (cutV us none (some (k : Int)))) (Same.refl H3) hx1
      have P4 := PP.same w1
      rw [ct (by omega)] at w1 P4 ⊢
      refine ⟨_, rfl, p, s0, rfl, P4.now, fun u o H5 ho P5 => ⟨(by show 1 ≤ sizeLine; decide), fun x2 hx2 => ?_⟩⟩
      have w2 := sameAt (o := .lst [u]) (Same.refl H5) hx2
      have x1p : x1 ≠ p := fun z => PP.now.ne.1 (z ▸ hx1)
      refine ⟨x1, x2, _, _, rfl, rfl, w2 _ _ (P5.keep upd_same x1p), upd_same, (by show _ + 1 ≤ sizeLine; exact Nat.le_of_lt (small1000 (by omega))), fun x3 hx3 => ?_⟩
      have w3 := sameAt (o := .lst (us.take k ++ [u])) (Same.refl _) hx3
      have hl6 := (w2.trans w3) _ _ (P5.keep (w1 _ _ hl3) hlp)
      refine ⟨_, rfl, _, rfl, _, rfl, l, _, rfl, SqL.of hl6, fun x4 hx4 => ?_⟩
      have w4 := sameAt (o := .lst (cutV us (some (k : Int)) none)) (Same.refl _) hx4
      rw [cd k (by omega)] at w4 ⊢
      have dk0 := dk k
      have tk3 : (us.take k).length = k := by rw [List.length_take]; omega
      refine ⟨x3, x4, _, _, rfl, rfl, w4 _ _ upd_same, upd_same, (by rw [List.length_append, dk0, tk3]; show k + 1 + _ ≤ sizeLine; exact Nat.le_of_lt (small1000 (by omega))), fun x5 hx5 => ?_⟩
      have w5 := sameAt (o := .lst ((us.take k ++ [u]) ++ us.drop k)) (Same.refl _) hx5
      have W := w2.trans (w3.trans (w4.trans w5))
      have P6 := (P4.trans P5).same W
      refine q x5 _ _ upd_same (((P4.trans P5).same (w2.trans (w3.trans w4))).free hx5) (by rw [List.length_append, List.length_append, dk0, tk3]; show k + 1 + _ ≤ 9; omega) ?_ P6
      have hA6 : AllT K _ us := (hE.tk (P6.tk hP)).all
      exact ((hA6.take k).app (.one ((ho.same W).thAt BT) ho.sv)).app (hA6.drop k)
    refine ⟨_, rfl, _, rfl, l, _, rfl, .inl (SqL.of hl3), rfl, _, rfl, ite2 (fun c1 => ?_) (fun c1 => ?_)⟩
    · skip
      refine ⟨_, rfl, _, rfl, _, rfl, l, _, rfl, SqL.of hl3, fun x1 hx1 => ?_⟩
      have w1 := sameAt (o := .lst (cutV us none (some (k : Int)))) (Same.refl H3) hx1
      have P4 := PP.same w1
      rw [ct (by omega)] at w1 P4 ⊢
      refine ⟨_, rfl, p, s0, rfl, P4.now, fun u o H5 ho P5 => ⟨(by show 1 ≤ sizeLine; decide), fun x2 hx2 => ?_⟩⟩
      have w2 := sameAt (o := .lst [u]) (Same.refl H5) hx2
      have x1p : x1 ≠ p := fun z => PP.now.ne.1 (z ▸ hx1)
      refine ⟨x1, x2, _, _, rfl, rfl, w2 _ _ (P5.keep upd_same x1p), upd_same, (by show _ + 1 ≤ sizeLine; exact Nat.le_of_lt (small1000 (by omega))), fun x3 hx3 => ?_⟩
      have w3 := sameAt (o := .lst (us.take k ++ [u])) (Same.refl _) hx3
      have hl6 := (w2.trans w3) _ _ (P5.keep (w1 _ _ hl3) hlp)
      refine ⟨_, rfl, _, rfl, _, rfl, l, _, rfl, SqL.of hl6, fun x4 hx4 => ?_⟩
      have w4 := sameAt (o := .lst (cutV us (some (k : Int)) none)) (Same.refl _) hx4
      rw [cd k (by omega)] at w4 ⊢
      have dk0 := dk k
      have tk3 : (us.take k).length = k := by rw [List.length_take]; omega
      refine ⟨x3, x4, _, _, rfl, rfl, w4 _ _ upd_same, upd_same, (by rw [List.length_append, dk0, tk3]; show k + 1 + _ ≤ sizeLine; exact Nat.le_of_lt (small1000 (by omega))), fun x5 hx5 => ?_⟩
      have w5 := sameAt (o := .lst ((us.take k ++ [u]) ++ us.drop k)) (Same.refl _) hx5
      have W := w2.trans (w3.trans (w4.trans w5))
      have P6 := (P4.trans P5).same W
      refine q x5 _ _ upd_same (((P4.trans P5).same (w2.trans (w3.trans w4))).free hx5) (by rw [List.length_append, List.length_append, dk0, tk3]; show k + 1 + _ ≤ 9; omega) ?_ P6
      have hA6 : AllT K _ us := (hE.tk (P6.tk hP)).all
      exact ((hA6.take k).app (.one ((ho.same W).thAt BT) ho.sv)).app (hA6.drop k)
    have hk : k < us.length := by
      have : ¬ (V.int (k : Int) = V.int (us.length : Int)) := fun z => c1 (decide_eq_true z)
      have : k ≠ us.length := fun z => this (by rw [z])
      omega
    refine ⟨_, rfl, rfl, _, rfl, ite2 (fun c2 => ?_) (fun c2 => ?_)⟩
    · refine ⟨_, rfl, _, rfl, _, rfl, l, _, rfl, SqL.of hl3, fun x1 hx1 => ?_⟩
      have w1 := sameAt (o := .lst (cutV us none (some (k : Int)))) (Same.refl H3) hx1
      rw [ct (by omega)] at w1 ⊢
      refine ⟨_, rfl, _, rfl, _, _, rfl, rfl, _, rfl, l, _, rfl, SqL.of (w1 _ _ hl3), fun x2 hx2 => ?_⟩
      have w2 := sameAt (o := .lst (cutV us (some ((k : Int) + 1)) none)) (Same.refl _) hx2
      rw [show ((k : Int) + 1) = ((k + 1 : Nat) : Int) from rfl, cd (k + 1) (by omega)] at w2 ⊢
      have dk0 := dk (k + 1)
      refine ⟨x1, x2, _, _, rfl, rfl, w2 _ _ upd_same, upd_same, (by rw [dk0]; exact Nat.le_of_lt (small1000 (by omega))), fun x3 hx3 => ?_⟩
      have w3 := sameAt (o := .lst (us.take k ++ us.drop (k + 1))) (Same.refl _) hx3
      have P6 := PP.same (w1.trans (w2.trans w3))
      have hA6 : AllT K _ us := (hE.tk (P6.tk hP)).all
      exact q x3 _ _ upd_same ((PP.same (w1.trans w2)).free hx3) (by rw [List.length_append, dk0]; omega) ((hA6.take k).app (hA6.drop (k + 1))) P6
    obtain ⟨v, hv⟩ : ∃ v, us[k]? = some v := ⟨_, List.getElem?_eq_getElem hk⟩
    obtain ⟨x, hx⟩ : ∃ x, xs[k]? = some x := ⟨_, List.getElem?_eq_getElem (hE.1 ▸ hk)⟩
    refine ⟨_, rfl, rfl, _, rfl, ite2 (fun c3 => ?_) (fun c3 => ?_)⟩
    · refine ⟨_, rfl, _, rfl, _, rfl, l, _, rfl, SqL.of hl3, fun x1 hx1 => ?_⟩
      have w1 := sameAt (o := .lst (cutV us none (some (k : Int)))) (Same.refl H3) hx1
      rw [ct (by omega)] at w1 ⊢
      refine ⟨_, rfl, _, rfl, _, _, _, v, rfl, rfl, SqL.of (w1 _ _ hl3), atI_nat hv, (by show 1 ≤ sizeLine; decide), fun x2 hx2 => ?_⟩
      have w2 := sameAt (o := .lst [v]) (Same.refl _) hx2
      refine ⟨x1, x2, _, _, rfl, rfl, w2 _ _ upd_same, upd_same, (by show _ + 1 ≤ sizeLine; exact Nat.le_of_lt (small1000 (by omega))), fun x3 hx3 => ?_⟩
      have w3 := sameAt (o := .lst (us.take k ++ [v])) (Same.refl _) hx3
      refine ⟨_, rfl, _, rfl, _, rfl, l, _, rfl, SqL.of ((w1.trans (w2.trans w3)) _ _ hl3), fun x4 hx4 => ?_⟩
      have w4 := sameAt (o := .lst (cutV us (some (k : Int)) none)) (Same.refl _) hx4
      rw [cd k (by omega)] at w4 ⊢
      have dk0 := dk k
      refine ⟨x3, x4, _, _, rfl, rfl, w4 _ _ upd_same, upd_same, (by rw [List.length_append, dk0]; show _ + 1 + _ ≤ sizeLine; exact Nat.le_of_lt (small1000 (by omega))), fun x5 hx5 => ?_⟩
      have w5 := sameAt (o := .lst ((us.take k ++ [v]) ++ us.drop k)) (Same.refl _) hx5
      have P6 := PP.same (w1.trans (w2.trans (w3.trans (w4.trans w5))))
      have hA6 : AllT K _ us := (hE.tk (P6.tk hP)).all
      refine q x5 _ _ upd_same ((PP.same (w1.trans (w2.trans (w3.trans w4)))).free hx5) (by rw [List.length_append, List.length_append, dk0]; show _ + 1 + _ ≤ 9; omega) (((hA6.take k).app ?_).app (hA6.drop k)) P6
      intro u hu
      rw [List.mem_singleton.mp hu]
      exact hA6 v (List.mem_of_getElem? hv)
    have hal : a ≠ l := fun z => by rw [← z, ha] at hl; cases hl
    have ixk : ∀ {ys : List V} {n : Nat}, n < ys.length → ixN ys.length (n : Int) = some n := fun h => by unfold ixN; rw [if_pos (by omega), if_pos (by omega), Int.toNat_natCast]
    refine ⟨_, rfl, rfl, _, rfl, ite2 (fun c4 => ?_) (fun c4 => ?_)⟩
    · refine ⟨_, rfl, _, rfl, l, _, rfl, .inl (SqL.of hl3), p, s0, _, rfl, PP.now, (by omega), Int.lt_of_le_of_lt (show (us.length : Int) ≤ 9 by omega) (by decide), fun oth H4 o0 o1 P4 => ?_⟩
      obtain ⟨m, rfl⟩ : ∃ n : Nat, oth = (n : Int) := ⟨oth.toNat, by omega⟩
      have hm : m < us.length := by omega
      obtain ⟨v2, hv2⟩ : ∃ v, us[m]? = some v := ⟨_, List.getElem?_eq_getElem hm⟩
      have hl4 := P4.keep hl3 hlp
      have ha4 := P4.keep ha3 hap
      have ha5 : (upd H4 l (.lst (us.set k v2))) a = some (.lst us) := by rw [upd_ne hal]; exact ha4
      refine ⟨_, rfl, _, rfl, _, _, _, v2, rfl, rfl, SqL.of ha4, atI_nat hv2, _, rfl, _, rfl, l, us, k, k, rfl, rfl, hl4, ixk hk, ?_⟩
      refine ⟨_, rfl, _, rfl, _, _, _, v, rfl, rfl, SqL.of ha5, atI_nat hv, _, rfl, _, rfl, l, us.set k v2, m, m, rfl, rfl, upd_same, ixk (by rw [List.length_set]; exact hm), _, rfl, ?_⟩
      have P6 := ((PP.trans P4).at hl (o := .lst (us.set k v2))).at hl (o := .lst ((us.set k v2).set m v))
      have hA6 : AllT K _ us := (hE.tk (P6.tk hP)).all
      obtain ⟨⟨o2, h2⟩, e2⟩ := hA6 v2 (List.mem_of_getElem? hv2)
      obtain ⟨⟨o1, h1⟩, e1⟩ := hA6 v (List.mem_of_getElem? hv)
      exact q l _ _ upd_same hl (by rw [List.length_set, List.length_set]; omega) ((hA6.set k h2 e2).set m h1 e1) P6
    · obtain ⟨e, rfl, he, hok⟩ := hE3.2 k v x hv hx
      refine ⟨_, rfl, _, rfl, _, rfl, _, rfl, _, _, _, V.ref e, rfl, rfl, SqL.of hl3, atI_nat hv, p, s0, dl, e, L, x, rfl, PP.now, hd3, LL, he, hok, fun u o H4 ho es P4 => ?_⟩
      have hl4 := P4.keep hl3 hlp
      refine ⟨_, rfl, _, rfl, l, us, k, k, rfl, rfl, hl4, ixk hk, _, rfl, ?_⟩
      have P6 := (PP.trans P4).at hl (o := .lst (us.set k u))
      have hA6 : AllT K _ us := (hE.tk (P6.tk hP)).all
      have rf : RefL (.lst us) := ⟨us, rfl, fun z => by rw [z] at hk; exact absurd hk (Nat.not_lt_zero _), fun w hw => by
        obtain ⟨i, hi, rfl⟩ := List.mem_iff_getElem.mp hw
        have hx : i < xs.length := hE.1 ▸ hi
        obtain ⟨e, h1, _⟩ := hE.2 i _ xs[i] (List.getElem?_eq_getElem hi) (List.getElem?_eq_getElem hx)
        exact ⟨e, h1⟩⟩
      exact q l _ _ upd_same hl (by rw [List.length_set]; omega) (hA6.set k (ho _ (rl_off hl4 rf)) es) P6
end
end Ash

set_option Elab.async false
set_option linter.all false
set_option maxRecDepth 100000
set_option maxHeartbeats 400000
set_option pp.maxSteps 100
namespace Ash
open PySem PySem.Spec PyProof.Rows L2
open C8 (pss_cut)
open SrtT
/-! ### a journal that is full -/
def rws (z : Str) (a : Int) : Nat → List Ent
  | 0 => []
  | k + 1 => .row a z "a" a 0 a :: rws z (a + 1) k
theorem rws_len (z : Str) : ∀ (n : Nat) (a : Int), (rws z a n).length = n
  | 0, _ => rfl
  | n + 1, a => by
    show (rws z (a + 1) n).length + 1 = n + 1
    rw [rws_len z n]
theorem rws_at (z : Str) : ∀ (n k : Nat) (a : Int), k < n → (rws z a n)[k]? = some (.row (a + k) z "a" (a + k) 0 (a + k))
  | 0, _, _, h => absurd h (by omega)
  | n + 1, 0, a, _ => by
    show some (Ent.row a z "a" a 0 a) = _
    simp
  | n + 1, k + 1, a, h => by
    show (rws z (a + 1) n)[k]? = _
    rw [rws_at z n k _ (by omega)]
    have e1 : a + 1 + (k : Int) = a + ((k + 1 : Nat) : Int) := by omega
    rw [e1]
/-- what is known behind them -/
def kws (z : Str) (a : Int) (n : Nat) (S : Kn) : Kn := fun id => if a ≤ id ∧ id < a + n then some (.at_ z "a" id 0) else S id
theorem late_of' {a b : Int} (h : a ≤ b) : late? (some a) b = false := decide_eq_false (by omega)
theorem rws_wk {L : List (Str × Int)} {z : Str} {t : Int} (hz : L.lookup z = some t) (ht : 0 ≤ t) : ∀ (n : Nat) (a : Int) (i : Nat) (S : Kn) (l : Option Int), (∀ id, a ≤ id → S id = none) → late? l a = false →
    wk L ((rws z a n).map some) i S l = (none, kws z a n S)
  | 0, a, i, S, l, hS, _ => by
    show (none, S) = _
    congr 1
    funext id
    show S id = (if _ then _ else _)
    rw [if_neg (by omega)]
  | n + 1, a, i, S, l, hS, hl => by
    have hb : behind L (.row a z "a" a 0 a) (S a) = some (.at_ z "a" a 0) := by
      rw [hS a (Int.le_refl _)]
      show (L.lookup z).bind _ = _
      rw [hz]
      show (if a ≤ a ∧ a ≤ a + t then _ else _) = _
      rw [if_pos ⟨Int.le_refl _, by omega⟩]
    show wk L (some (Ent.row a z "a" a 0 a) :: (rws z (a + 1) n).map some) i S l = _
    rw [wk_go hl hb]
    show wk L ((rws z (a + 1) n).map some) (i + 1) (fun j => if j = a then some (.at_ z "a" a 0) else S j) (some a) = _
    rw [rws_wk hz ht n (a + 1) (i + 1) (fun j => if j = a then some (.at_ z "a" a 0) else S j) (some a) (fun id h => by
      show (if id = a then _ else _) = _
      rw [if_neg (by omega)]
      exact hS id (by omega)) (late_of' (by omega))]
    congr 1
    funext id
    show (if _ then _ else (if _ then _ else _)) = (if _ then _ else _)
    by_cases e : id = a
    · subst e
      rw [if_neg (by omega), if_pos rfl, if_pos (by omega)]
    · rw [if_neg e]
      by_cases c : a + 1 ≤ id ∧ id < a + 1 + n
      · rw [if_pos c, if_pos (by omega)]
      · rw [if_neg c, if_neg (by omega)]
/-- the rows of a full journal -/
def t4 : Nat → Int → List T3
  | 0, _ => []
  | n + 1, a => (a, a, 0) :: t4 n (a + 1)
theorem t4_len : ∀ (n : Nat) (a : Int), (t4 n a).length = n
  | 0, _ => rfl
  | n + 1, a => by
    show (t4 n (a + 1)).length + 1 = n + 1
    rw [t4_len n]
theorem t4_at : ∀ (n k : Nat) (a : Int), k < n → (t4 n a)[k]? = some (a + k, a + k, 0)
  | 0, _, _, h => absurd h (by omega)
  | n + 1, 0, a, _ => by
    show some ((a, a, 0) : T3) = _
    simp
  | n + 1, k + 1, a, h => by
    show (t4 n (a + 1))[k]? = _
    rw [t4_at n k _ (by omega)]
    have e1 : a + 1 + (k : Int) = a + ((k + 1 : Nat) : Int) := by omega
    rw [e1]
theorem t4_mem : ∀ {n : Nat} {a : Int} {t : T3}, t ∈ t4 n a ↔ ∃ k : Int, a ≤ k ∧ k < a + n ∧ t = (k, k, 0)
  | 0, a, t => ⟨fun h => (by cases h), fun ⟨k, h1, h2, _⟩ => (by omega)⟩
  | n + 1, a, t => by
    show t ∈ (a, a, 0) :: t4 n (a + 1) ↔ _
    rw [List.mem_cons, t4_mem]
    constructor
    · rintro (rfl | ⟨k, h1, h2, rfl⟩)
      · exact ⟨a, Int.le_refl _, by omega, rfl⟩
      · exact ⟨k, by omega, by omega, rfl⟩
    · rintro ⟨k, h1, h2, rfl⟩
      by_cases e : k = a
      · exact .inl (by rw [e])
      · exact .inr ⟨k, by omega, by omega, rfl⟩
theorem t4_asc : ∀ (n : Nat) (a : Int), (t4 n a).Pairwise fun x y => lex3 x y = true
  | 0, _ => .nil
  | n + 1, a => by
    refine .cons (fun t ht => ?_) (t4_asc n (a + 1))
    obtain ⟨k, h1, _, rfl⟩ := t4_mem.mp ht
    exact lex3_iff.mpr (.inl (show a < k by omega))
theorem nm_a : IsNm "a" := ⟨by decide +kernel, by decide +kernel, by decide +kernel⟩
theorem rows4 (z : Str) : RowsOf (kws z 0 400 (fun _ => none)) z "a" (t4 400 0) := by
  refine ⟨fun t => ?_, t4_asc _ _⟩
  rw [t4_mem]
  have pk : ∀ id, pick (kws z 0 400 (fun _ => none)) z "a" id = if 0 ≤ id ∧ id < 0 + ((400 : Nat) : Int) then some (id, id, 0) else none := fun id => by
    unfold pick kws
    by_cases c : 0 ≤ id ∧ id < 0 + ((400 : Nat) : Int)
    · rw [if_pos c, if_pos c]
      show (if z = z ∧ ("a" : Str) = "a" then _ else _) = _
      rw [if_pos ⟨rfl, rfl⟩]
    · rw [if_neg c, if_neg c]
  rw [pk]
  constructor
  · rintro ⟨k, h1, h2, rfl⟩
    rw [if_pos ⟨h1, h2⟩]
  · intro h
    split at h
    · rename_i c
      refine ⟨t.2.1, c.1, c.2, (Option.some.inj h).symm⟩
    · cases h
theorem rws_arr (z : Str) {n : Nat} {x : Ent} {a : Int} (h : x ∈ rws z a n) : ∃ k : Int, a ≤ k ∧ k < a + n ∧ x = .row k z "a" k 0 k := by
  obtain ⟨i, hi, rfl⟩ := List.mem_iff_getElem.mp h
  rw [rws_len] at hi
  have := rws_at z n i a hi
  rw [List.getElem?_eq_getElem (by rw [rws_len]; exact hi)] at this
  exact ⟨a + i, by omega, by omega, Option.some.inj this⟩
theorem rws_add (z : Str) : ∀ (n m : Nat) (a : Int), rws z a (n + m) = rws z a n ++ rws z (a + n) m
  | 0, m, a => by
    rw [Nat.zero_add]
    show _ = rws z (a + ((0 : Nat) : Int)) m
    rw [show a + ((0 : Nat) : Int) = a by omega]
  | n + 1, m, a => by
    rw [show n + 1 + m = (n + m) + 1 by omega]
    show Ent.row a z "a" a 0 a :: rws z (a + 1) (n + m) = Ent.row a z "a" a 0 a :: (rws z (a + 1) n ++ rws z (a + ((n + 1 : Nat) : Int)) m)
    rw [rws_add z n m, show a + 1 + (n : Int) = a + ((n + 1 : Nat) : Int) by omega]
theorem heard4 {z : Str} {k : Nat} (h : (rws z 0 400).filter (fun x => decide (x.arr ≤ 249)) = (rws z 0 400).take k) : ((rws z 0 400).take k).length = 250 := by
  have e : (rws z 0 400).filter (fun x => decide (x.arr ≤ 249)) = rws z 0 250 := by
    have := rws_add z 250 150 0
    rw [show (250 + 150 : Nat) = 400 from rfl] at this
    rw [this, List.filter_append]
    have e1 : (rws z 0 250).filter (fun x => decide (x.arr ≤ 249)) = rws z 0 250 := List.filter_eq_self.mpr fun x hx => by
      obtain ⟨k, h1, h2, rfl⟩ := rws_arr z hx
      exact decide_eq_true (show k ≤ 249 by omega)
    have e2 : (rws z (0 + (250 : Nat)) 150).filter (fun x => decide (x.arr ≤ 249)) = [] := List.filter_eq_nil_iff.mpr fun x hx => by
      obtain ⟨k, h1, h2, rfl⟩ := rws_arr z hx
      have h1 : 250 ≤ k := by omega
      exact fun c => absurd (show k ≤ 249 from of_decide_eq_true c) (by omega)
    rw [e1, e2, List.append_nil]
  rw [← h, e, rws_len]
def spFull (K : PySem.W.Frag) (aT CJ CB : Addr) : Sp := fun vs H Q _ => ∃ (j m b : Addr) (L : List (Str × Int)) (us : List V) (z : Str) (t : Int), vs = [.ref j, .ref m] ∧ JAt K aT CJ CB H j b L us (rws z 0 400) ∧ EntAt H m (.row 400 z "a" 400 0 400) ∧ IsNm z ∧ L.lookup z = some t ∧ 0 ≤ t ∧ ∀ H', Same H H' → Q (.bl true) H'
section
variable {P : Program} {w : World} {K : PySem.W.Frag} {mg : Str → Option Value} {base : Heap}
structure GFu (P : Program) (w : World) (K : PySem.W.Frag) (mg : Str → Option Value) (base : Heap) (aT CJ CB CE CM : Addr) : Prop where
  Journal : Mak P w K mg base (L2.CX P w) "Journal" CJ 7 ["self", "book", "entries"] (spJInit K aT CJ CB CE)
  then_ : Met P w K mg base (L2N.CX P w) CJ "then" 9 ["self", "entry"] (spThenN K aT CJ CB CE)
  heard : Met P w K mg base (L2.CX P w) CJ "heard" 9 ["self", "h"] (spHeard K aT CJ CB CM)
  rows : Met P w K mg base CX0 CJ "rows" 3 ["self", "stream", "key"] (spRows K aT CJ CB)
abbrev s_l_full : Stmt := topS 50
theorem sc_l_full : FnScope ["_law_journal", "_law_more", "_law_told", "_law_entry_here", "e", "_law_k"] ["_law_journal", "_law_more"] (defScope s_l_full) := ⟨rfl, rfl, rfl, by decide +kernel, rfl, by decide +kernel, by decide +kernel⟩
theorem ok_full {f fl fq CJ CB CE CM fE aT : Addr} {fd fdl fdq : FuncData} (F : Fun K "_law_full" "_law_full" s_l_full f fd) (B : Blt mg) (T : Cj P K mg CJ CB) (TE : PySem.BadX.Txt P K mg "at" "at" CE fE) (c_BadEntry : mg "BadEntry" = some (.ref CE))
    (Fl : FnOk P w K mg base CX0 1 fl fdl ["self"] (spJLen K aT CJ CB)) (hl1 : PySem.W.findIn K (.ref CJ) "__len__" = some (some (.ref fl))) (hl2 : PySem.W.isFn K (.ref fl) = true) (hl3 : Binds K fdl ["self"] [])
    (Fq : FnOk P w K mg base CX0 3 fq fdq ["self", "other"] (spEq (EqJc K aT CJ CB))) (hq1 : PySem.W.findIn K (.ref CJ) "__eq__" = some (some (.ref fq))) (hq2 : PySem.W.isFn K (.ref fq) = true) (hq3 : Binds K fdq ["self", "other"] [])
    (G : GFu P w K mg base aT CJ CB CE CM) : FnOk P w K mg base CX0 11 f fd ["_law_journal", "_law_more"] (spFull K aT CJ CB) := by
  refine F.ok sc_l_full (fun vs H Q E h => ?_) (fun cdv A outer s H vs Q E hr h => ?_)
  · obtain ⟨j, m, b, L, us, z, t, rfl, _⟩ := h
    rfl
  · obtain ⟨j, m, b, L, us, z, t, rfl, hJ, hm, hz, hL, ht, q⟩ := h
    have hu := hu_of hr
    refine ⟨_, (pss_cons (ps_set (i := 2) sc_l_full.nd rfl (Or.inl rfl) pe_bl)
    (pss_cons (ps_for PassesOwn.never rfl (pi_list (pe_lst (pa_cons (pv 1) (pa_cons (pe_tup (pa_cons pe_str (pa_cons pe_int (pa_cons pe_int pa_nil)))) pa_nil)))) (pg_name (i := 3) sc_l_full.nd rfl (Or.inl rfl))
      (pss_cons (ps_try_as (i := 4) (tb := fun W => _) (ts := fun a cls d => _) (Wout := fun _ _ _ _ => False) rfl rfl sc_l_full.nd rfl rfl ⟨rfl, by decide, .inl c_BadEntry⟩ takes0 (fun W pn xe tk _ =>
        (pss_one (ps_expr (pe_metS T.cl (metN G.then_) (hr.mono (by decide)) (fun σ => passAt tk σ) (pv 0) (pa_cons (pv 3) pa_nil)))))
        (fun a oe cls d pn hz hf => (pss_one (ps_set (i := 2) sc_l_full.nd rfl (Or.inl rfl) (pe_cmpR op_eq (pe_byB TE hz hf (pv 4)) pe_int (nomark _))))))
      (pss_cons (ps_if (pt_not (pt_val (pv 2)))
        (pss_one (ps_ret pe_bl))
        pss_nil)
      (pss_one (ps_set (i := 2) sc_l_full.nd rfl (Or.inl rfl) pe_bl)))))
    (pss_cons (ps_if (PW.pt (pw_or (pt_cmpR (op_neD hr.units) (pe_met T.cl G.rows (hr.mono (by decide)) pass0 (pv 0) (pa_cons (pe_ix ix_tup (pv 1) pe_int (fun _ _ => rfl)) (pa_cons pe_str pa_nil))) (pe_lc (own := [("_law_k", 5)]) (g := gName 5) (tt := tYes) (by rfl) sc_l_full.nd (pi_range1 (by rfl) B.range (pa_cons pe_int pa_nil)) (blkOk_by (own := [("_law_k", 5)]) (N := ["_law_journal", "_law_more", "_law_told", "_law_entry_here", "e", "_law_k"]) (sc := defScope s_l_full) (by decide +kernel)) (fun _ _ _ _ _ => (pg_name (i := 5) sc_l_full.nd rfl (Or.inl rfl))) (fun _ _ _ _ _ => pts_nil) (fun _ _ _ _ _ => (pe_tup (pa_cons (pv 5) (pa_cons (pv 5) (pa_cons pe_int pa_nil)))))) (nomark _)) (pw_or1 (pt_cmpR op_ne (pe_callB (call_lenI Fl hl1 hl2 hl3 pass0 (hr.mono (by decide))) (by rfl) B.len (by decide +kernel) (pa_cons (pe_met T.cl G.heard (hr.mono (by decide)) (passE takes0) (pv 0) (pa_cons pe_int pa_nil)) pa_nil)) pe_int (nomark _)))))
      (pss_one (ps_ret pe_bl))
      pss_nil)
    (pss_one (ps_ret (pe_and (pe_cmpR op_eq (pe_callB (call_lenI Fl hl1 hl2 hl3 pass0 (hr.mono (by decide))) (by rfl) B.len (by decide +kernel) (pa_cons (pv 0) pa_nil)) pe_int (nomark _)) (pe_one (pe_cmpR (op_eqG (rcG_ins Fq hq1 hq2 hq3 pass0) (hr.mono (by decide))) (pe_met T.cl (metN G.then_) (hr.mono (by decide)) (passE takes0) (pe_mak G.Journal (hr.mono (by decide)) (passE takes0) (pa_cons (pe_fld (pv 0) rfl) (pa_cons (pe_slice sl_tupU (pe_fld (pv 0) rfl) po_none (po_some pe_int)) pa_nil))) (pa_cons (pe_ix ix_tup (pe_fld (pv 0) rfl) pe_int (fun _ _ => rfl)) pa_nil)) (pv 0) (nomark _))))))))), ?_⟩
    obtain ⟨dx, tE, kd, j1, hB, j3, jl, jT, jw, jk⟩ := id hJ
    have ul : us.length = 400 := by rw [jl, rws_len]
    have no : ∀ {α : Prop}, (true = false) → α := fun z => Bool.noConfusion z
    refine ⟨_, rfl, (by show 3 ≤ sizeLine; decide), fun t1 ht1 => ⟨(by show 2 ≤ sizeLine; decide), fun l hl => ⟨l, rfl, ⟨_, SqL.of upd_same⟩, ?_⟩⟩⟩
    have w1 := sameAt (o := .tup [.str "gone", .int 399, .int 399]) (Same.refl H) ht1
    have w2 := sameAt (o := .lst [.ref m, .ref t1]) (Same.refl _) hl
    refine for_list (K := K) (a := l) (xs := [.ref m, .ref t1]) (fun i σ H1 => ∃ x y, σ = [some (.ref j), some (.ref m), some (.bl false), x, y, none] ∧ H1 l = some (.lst [.ref m, .ref t1]) ∧ Same H H1 ∧ EntAt H1 t1 (.gone 399 399)) ⟨_, _, rfl, upd_same, w1.trans w2, w2 _ _ upd_same⟩ (fun i σ H1 _ hv => by obtain ⟨_, _, _, h, _⟩ := hv; exact SqL.of h) ?_ ?_
    · rintro i v σ H1 hi ⟨x, y, rfl, l1, s1, g1⟩
      obtain ⟨o, ho⟩ : ∃ o, ThAt K H1 v (some o) := by
        match i, hi with
        | 0, hi => cases hi; exact ⟨_, m, rfl, s1 _ _ hm, (by show (0 : Int) ≤ 400; decide), fun _ _ _ _ _ _ e => by cases e; exact ⟨hz, nm_a⟩⟩
        | 1, hi => cases hi; exact ⟨_, t1, rfl, g1, by decide, fun _ _ _ _ _ _ e => by cases e⟩
        | i + 2, hi => simp at hi
      refine ⟨_, rfl, j, dx, _, rfl, s1 _ _ j1, jf_no _ _ _ (by decide +kernel) (by decide +kernel) (by decide +kernel), _, rfl, j, b, L, us, _, v, some o, rfl, hJ.same s1, ho, Nat.le_of_eq ul, fun _ _ _ _ _ _ _ h4 => absurd h4 (by omega), fun _ _ _ _ _ _ h4 => absurd h4 (by omega), fun _ d H2 s2 hx => ⟨true, TE.te, fun _ a ha => ?_, no⟩⟩
      refine ⟨_, rfl, rfl, rfl, d, _, rfl, hx, rfl, _, rfl, _, rfl, iteF ⟨_, _, rfl, s2 _ _ l1, s1.trans s2, s2 _ _ g1⟩⟩
    rintro σ H1 ⟨x, y, rfl, l1, s1, g1⟩
    have hJ1 := hJ.same s1
    have jn : ∀ {c e g : Addr} {m : Str}, ¬ m = "_known" → ¬ m = "entries" → ¬ m = "book" → (jf c e g).lookup m = none := fun h1 h2 h3 => jf_no _ _ _ h1 h2 h3
    have wk4 := rws_wk hL ht 400 0 0 (fun _ => none) none (fun _ _ => rfl) rfl
    refine ⟨_, rfl, j, dx, _, rfl, s1 _ _ j1, jf_no _ _ _ (by decide +kernel) (by decide +kernel) (by decide +kernel), _, rfl, _, _, _, .str z, rfl, rfl, SqT.of (s1 _ _ hm), rfl, j, b, L, us, _, z, "a", rfl, hJ1, Nat.le_of_eq ul, hz, by rw [hL]; rfl, nm_a, fun p ys ts H2 s2 hp hpl htr _ hro => ?_⟩
    rw [wk4] at hro
    have ets : ts = t4 400 0 := RowsOf.uniq hro (rows4 z)
    subst ets
    refine ⟨_, rfl, (by decide), (by decide), fun a1 ha1 => lc_range (n := (400 : Int).toNat) (fun i H3 => ∃ vs, H3 a1 = some (.lst vs) ∧ TrAt H3 vs ((t4 400 0).take i) ∧ Same H2 H3) ⟨[], upd_same, ⟨rfl, fun i v x a b => by simp at a⟩, sameAt (Same.refl _) ha1⟩ ?_ ?_⟩
    · rintro i H3 hi ⟨vs, g2, gT, s3⟩
      have hi : i < 400 := hi
      have hx := t4_at 400 i 0 hi
      have ll : vs.length = i := by rw [gT.1, List.length_take, t4_len]; omega
      refine ⟨rfl, _, rfl, _, rfl, (by show 3 ≤ sizeLine; decide), fun e he => ?_⟩
      have se : Same H3 (upd H3 e (.tup [.int (0 + i), .int (0 + i), .int 0])) := sameAt (Same.refl _) he
      have off : TK (upd H3 e (.tup [.int (0 + i), .int (0 + i), .int 0])) (upd (upd H3 e (.tup [.int (0 + i), .int (0 + i), .int 0])) a1 (.lst (vs ++ [.ref e]))) := tk_off (se _ _ g2) (fun xs z => by cases z)
      refine ⟨vs, se _ _ g2, small1000 (by omega), vs ++ [.ref e], upd_same, ?_, sameAt (s3.trans se) ha1⟩
      rw [take_succ hx]
      exact (gT.tk fun t xs h => off _ _ (se _ _ h)).snoc (off _ _ upd_same)
    rintro H3 ⟨vs, g2, gT, s3⟩
    rw [show (t4 400 0).take (400 : Int).toNat = t4 400 0 from List.take_of_length_le (by rw [t4_len]; decide)] at gT
    refine ⟨_, _, TrAt.dp (htr.tk fun t xs h => s3 _ _ h) (SqL.of (s3 _ _ hpl)), gT.dp (SqL.of g2), ts_shaped _, ts_shaped _, ?_⟩
    rw [SeqAt.eqv_refl _ (SeqAt.canLay_of_shaped (ts_shaped _))]
    have s13 := (s1.trans s2).trans s3
    have hJ3 := hJ.same s13
    have n62 : ∀ {n : Nat}, n ≤ 400 → n < 2 ^ 62 := fun h => Nat.lt_of_le_of_lt h (by decide)
    refine ⟨_, rfl, iteF ⟨_, rfl, j, dx, _, rfl, s13 _ _ j1, jf_no _ _ _ (by decide +kernel) (by decide +kernel) (by decide +kernel), j, b, L, us, _, .int 249, rfl, hJ3, Nat.le_of_eq ul, .inl ⟨249, rfl, fun k j' H4 hk s4 hJ4 => ?_⟩⟩⟩
    have kl : (us.take k).length = 250 := by rw [hJ4.es.1.1]; exact heard4 hk
    obtain ⟨dx', t', kd', g1, _⟩ := id hJ4
    refine ⟨j', dx', _, rfl, g1, j', b, L, _, _, rfl, hJ4, _, rfl, n62 (by rw [kl]; decide), ?_⟩
    rw [kl]
    refine ⟨rfl, _, rfl, iteF ?_⟩
    have s14 := s13.trans s4
    have hJ5 := hJ.same s14
    refine ⟨_, rfl, j, dx, _, rfl, s14 _ _ j1, j, b, L, us, _, rfl, hJ5, _, rfl, n62 (Nat.le_of_eq ul), ?_⟩
    rw [ul]
    refine ⟨rfl, _, rfl, iteT ?_⟩
    have le9 : (us.take 399).length = 399 := by rw [List.length_take]; omega
    have x9 : (rws z 0 400).take 399 = rws z 0 399 := by
      have := rws_add z 399 1 0
      rw [show (399 + 1 : Nat) = 400 from rfl] at this
      rw [this, List.take_left' (rws_len z 399 0)]
    refine ⟨_, rfl, j, CJ, dx, _, _, rfl, s14 _ _ j1, T.cl, T.nB, jf_b _ _ _, _, rfl, j, CJ, dx, _, _, rfl, s14 _ _ j1, T.cl, T.nE, jf_e _ _ _, noPart ⟨_, rfl, tE, us, rfl, seqS j3 s14, fun u H5 s5 hu5 => ?_⟩⟩
    rw [show cutV us none (some 399) = us.take 399 from cut_take (k := 399) (by omega)] at hu5
    intro x dx5 nx ndx nex
    have s15 := s14.trans s5
    have sX : Same H5 (upd (upd H5 dx5 (.own x)) x (.ins CJ dx5 [])) := (sameAt (Same.refl _) ndx).trans (sameAt (Same.refl _) (by rw [upd_ne (Ne.symm nex)]; exact nx))
    have w39 := rws_wk hL ht 399 0 0 (fun _ => none) none (fun _ _ => rfl) rfl
    refine ⟨x, dx5, b, u, L, us.take 399, (rws z 0 399).map some, rfl, upd_same, hB.same (s15.trans sX), .inr (seqS hu5 sX), by rw [le9]; decide, by rw [le9, List.length_map, rws_len], fun i v o hi ho => ?_, fun H6 ys hys _ hJ6 _ kk => ⟨rfl, ?_⟩, fun i d H6 hw6 _ _ => ?_⟩
    · rw [← x9, List.map_take, List.getElem?_take] at ho
      rw [List.getElem?_take] at hi
      split at hi
      · rename_i c
        rw [if_pos c, List.getElem?_map] at ho
        cases ex : (rws z 0 400)[i]? with
        | none => rw [ex] at ho; cases ho
        | some y =>
          rw [ex] at ho
          cases ho
          exact (jT i v y hi ex).same (s15.trans sX)
      · cases hi
    · have ey : ys = rws z 0 399 := (List.map_inj_right (fun a b h => Option.some.inj h)).mp hys.symm
      subst ey
      have s56 : Same H5 H6 := mk_same nx ndx kk
      have s16 := s15.trans s56
      obtain ⟨dx6, t6, kd6, k1, _⟩ := id hJ6
      obtain ⟨v9, hv9⟩ : ∃ v, us[399]? = some v := ⟨_, List.getElem?_eq_getElem (by omega)⟩
      have hT9 := jT 399 v9 _ hv9 (rws_at z 400 399 0 (by decide))
      have e40 : rws z 0 399 ++ [Ent.row (0 + ((399 : Nat) : Int)) z "a" (0 + ((399 : Nat) : Int)) 0 (0 + ((399 : Nat) : Int))] = rws z 0 400 := by
        have := rws_add z 399 1 0
        rw [show (399 + 1 : Nat) = 400 from rfl] at this
        rw [this]
        rfl
      refine ⟨x, dx6, _, rfl, k1, jf_no _ _ _ (by decide +kernel) (by decide +kernel) (by decide +kernel), _, rfl, j, CJ, dx, _, _, rfl, s16 _ _ j1, T.cl, T.nE, jf_e _ _ _, _, _, _, v9, rfl, rfl, seqS j3 s16, atI_nat hv9, x, b, L, _, _, v9, some _, rfl, hJ6, hT9.same s16, by rw [le9]; decide, fun j' H7 y ey _ s7 hJ7 _ _ _ => ?_, fun i d H7 hw7 _ _ _ => ?_, fun h4 => ?_⟩
      · cases ey
        rw [e40] at hJ7
        have s17 := s16.trans s7
        obtain ⟨dx7, t7, kd7, m1, _⟩ := id hJ7
        refine ⟨_, rfl, ⟨j', j, dx7, dx, _, _, rfl, rfl, m1, s17 _ _ j1, b, L, _, us, _, hJ7, hJ.same s17⟩, fun H8 e8 => ?_⟩
        exact q H8 (s17.trans e8)
      · have : (rws z 0 399).map some ++ [some (Ent.row (0 + ((399 : Nat) : Int)) z "a" (0 + ((399 : Nat) : Int)) 0 (0 + ((399 : Nat) : Int)))] = (rws z 0 400).map some := by rw [← e40, List.map_append]; rfl
        rw [this, wk4] at hw7
        cases hw7
      · rw [le9] at h4
        exact absurd h4 (by decide)
    · rw [w39] at hw6
      cases hw6
end
end Ash

set_option Elab.async false
set_option linter.all false
set_option maxRecDepth 100000
set_option maxHeartbeats 400000
set_option pp.maxSteps 100
namespace Ash
open PySem PySem.Spec PyProof.Rows L2
open C8 (pss_cut)
/-! ### the law -/
/-- no plain value is a book -/
structure NoB (K : PySem.W.Frag) (CB : Addr) : Prop where
  non : PySem.W.kitOne K (.type "NoneType") (.ref CB) = some false
  bl : PySem.W.kitOne K (.type "bool") (.ref CB) = some false
  int : PySem.W.kitOne K (.type "int") (.ref CB) = some false
  str : PySem.W.kitOne K (.type "str") (.ref CB) = some false
  tup : PySem.W.kitOne K (.type "tuple") (.ref CB) = some false
  lst : PySem.W.kitOne K (.type "list") (.ref CB) = some false
  dict : PySem.W.kitOne K (.type "dict") (.ref CB) = some false
theorem things_of {K : PySem.W.Frag} {H : Hp} {us : List V} {xs : List Ent} (h : Ents H us xs) : Things K H us (xs.map some) := by
  refine ⟨by rw [h.1, List.length_map], fun i v o a b => ?_⟩
  rw [List.getElem?_map] at b
  cases ex : xs[i]? with
  | none => rw [ex] at b; cases b
  | some y =>
    rw [ex] at b
    cases b
    exact h.2 i v y a ex
theorem same_tup {K : PySem.W.Frag} {H : Hp} {t u : Addr} {xs : List V} (h : H t = some (.tup xs)) (g : H u = some (.tup xs)) (e : ∀ v ∈ xs, SameV v v) : SeqS K H (.ref t) (.ref u) :=
  ⟨t, u, xs, xs, rfl, rfl, SqT.of h, SqT.of g, rfl, fun i x y a b => by rw [a] at b; cases b; exact e x (List.mem_of_getElem? a)⟩
theorem sv_str {z : Str} : SameV (.str z) (.str z) := .inl ⟨rfl, rfl, decide_eq_true rfl⟩
theorem sv_int {n : Int} : SameV (.int n) (.int n) := .inl ⟨rfl, rfl, decide_eq_true rfl⟩
theorem sv_ref {a : Addr} : SameV (.ref a) (.ref a) := .inr ⟨rfl, a, rfl⟩
theorem sv_true : SameV (.bl true) (.bl true) := .inl ⟨rfl, rfl, rfl⟩
theorem sv2 {x y : V} (h : SameV x x) (g : SameV y y) : ∀ v ∈ [x, y], SameV v v := fun v hv => by
  simp only [List.mem_cons, List.not_mem_nil, or_false] at hv
  rcases hv with rfl | rfl
  · exact h
  · exact g
theorem sv3 {x y z : V} (h : SameV x x) (g : SameV y y) (k : SameV z z) : ∀ v ∈ [x, y, z], SameV v v := fun v hv => by
  simp only [List.mem_cons, List.not_mem_nil, or_false] at hv
  rcases hv with rfl | rfl | rfl
  · exact h
  · exact g
  · exact k
/-- what is due of a row of things -/
def dueV (n : Nat) : Option Nat → List V
  | none => [.str "made", .int n]
  | some i => [.str "entry", .int (i : Int), .bl true]
theorem due_sv {n : Nat} {o : Option Nat} : ∀ v ∈ dueV n o, SameV v v := by
  cases o with
  | none => exact sv2 sv_str sv_int
  | some i => exact sv3 sv_str sv_int sv_true
def spDue (K : PySem.W.Frag) (CB : Addr) : Sp := fun vs H Q _ => ∃ (bv ev : V), vs = [bv, ev] ∧
  ((∃ b a L us ths, bv = .ref b ∧ ev = .ref a ∧ BookAt CB H b L ∧ (H a = some (.lst us) ∨ SqT K H a us) ∧ us.length ≤ 400 ∧ Things K H us ths ∧ ∀ t H', Same H H' → H' t = some (.tup (dueV us.length (firstB L ths))) → Q (.ref t) H') ∨
   (NotBk K CB H bv ∧ ∀ t H', Same H H' → H' t = some (.tup [.str "book", bv]) → Q (.ref t) H') ∨
   (∃ b L, bv = .ref b ∧ BookAt CB H b L ∧ (NotRw K H ev ∨ ∃ a us, ev = .ref a ∧ (H a = some (.lst us) ∨ SqT K H a us) ∧ 400 < us.length ∧ us.length ≤ 1000) ∧ ∀ t H', Same H H' → H' t = some (.tup [.str "entry", .int (-1), .bl true]) → Q (.ref t) H'))
theorem due_made {K : PySem.W.Frag} {CB : Addr} {vs : List V} {H : Hp} {Q : VK} {E : XK} (h : spDue K CB vs H Q E) : spMade K CB vs H Q E := by
  obtain ⟨bv, ev, e, h | h | h⟩ := h
  · obtain ⟨b, a, L, us, ths, e1, e2, hB, hS, l, hT, q⟩ := h
    exact ⟨bv, ev, e, .inl ⟨b, a, L, us, ths, e1, e2, hB, hS, l, hT, fun e t H' s h => q t H' s (by rw [e]; exact h), fun i e t H' s h => q t H' s (by rw [e]; exact h)⟩⟩
  · exact ⟨bv, ev, e, .inr (.inl h)⟩
  · exact ⟨bv, ev, e, .inr (.inr h)⟩
theorem fn_due {P : Program} {w : World} {K : PySem.W.Frag} {mg : Str → Option Value} {base : Heap} {CX : CXT} {k : Nat} {f CB : Addr} {fd : FuncData} {ps : List Str} (F : FnOk P w K mg base CX k f fd ps (spMade K CB)) : FnOk P w K mg base CX k f fd ps (spDue K CB) :=
  ⟨fun vs H Q E h => F.len vs H Q E (due_made h), fun A outer s H args us vs Q E hr he hb hv hs => F.run A outer s H args us vs Q E hr he hb hv (due_made hs)⟩
theorem first_none {L : List (Str × Int)} {xs : List Ent} (h : (wk L (xs.map some) 0 (fun _ => none) none).1 = none) : firstB L (xs.map some) = none := h
theorem od_cls {K : PySem.W.Frag} {CB : Addr} {H : Hp} {v : V} {o : Od} (T : BkT K CB) (NB : NoB K CB) (h : OdAt CB H v o) : ∃ t, TyX K H v t ∧ PySem.W.kitOne K t (.ref CB) = some o.isBk := by
  cases o with
  | non => cases (show v = _ from h); exact ⟨_, .base .non, NB.non⟩
  | bl b => cases (show v = _ from h); exact ⟨_, .base (.bl b), NB.bl⟩
  | int n => cases (show v = _ from h); exact ⟨_, .base (.int n), NB.int⟩
  | str z => obtain ⟨rfl, _⟩ := h; exact ⟨_, .base (.str z), NB.str⟩
  | t0 => obtain ⟨a, rfl, h⟩ := h; exact ⟨_, .base (.tup h), NB.tup⟩
  | l0 => obtain ⟨a, rfl, h⟩ := h; exact ⟨_, .base (.lst h), NB.lst⟩
  | d0 => obtain ⟨a, rfl, h⟩ := h; exact ⟨_, .base (.dK h), NB.dict⟩
  | t1 => obtain ⟨a, rfl, h⟩ := h; exact ⟨_, .base (.tup h), NB.tup⟩
  | deep => obtain ⟨a, w, rfl, h, t⟩ := h; exact ⟨_, .base (.tup h), NB.tup⟩
  | l1 => obtain ⟨a, rfl, h⟩ := h; exact ⟨_, .base (.lst h), NB.lst⟩
  | bk =>
    obtain ⟨b, L, rfl, h⟩ := h
    exact ⟨_, T.at h, by show PySem.W.kitOne K _ _ = some true; unfold PySem.W.kitOne; rw [if_pos (by simp)]⟩
theorem odd_dp {K : PySem.W.Frag} {H : Hp} {t : Addr} (h : H t = some (.tup [.str "entry", .int (-1), .bl true])) : Dp K H (.ref t) (.tuple [.str "entry", .int (-1), .bool true]) := .tup (SqT.of h) (.cons (.str _) (.cons (.int _) (.cons (.bl _) .nil)))
theorem odd_sh : SeqAt.shaped (.tuple [.str "entry", .int (-1), .bool true]) = true := by decide +kernel
def spLaw (K : PySem.W.Frag) : Sp := fun vs H Q _ => ∃ (a : Addr) (ns : List Int), vs = [.ref a] ∧ SqL K H a (ns.map V.int) ∧ ns.length ≤ 63 ∧ ∀ H', Q (.bl true) H'
section
variable {P : Program} {w : World} {K : PySem.W.Frag} {mg : Str → Option Value} {base : Heap}
structure GLw (P : Program) (w : World) (K : PySem.W.Frag) (mg : Str → Option Value) (base : Heap) (aT CJ CB CE aE : Addr) : Prop extends G3 P w K mg base where
  law_pool : Cal P w K mg base CX0 "_law_pool" 1 ["_law_script"] (spPool K)
  law_entries : Cal P w K mg base CX0 "_law_entries" 4 ["_law_pool_here", "_law_lates_here", "_law_keys", "_law_states", "_law_number", "_law_arrival", "_law_many"] spEntries
  law_made : Cal P w K mg base CX0 "_law_made" 9 ["_law_book", "_law_entries_here"] (spDue K CB)
  law_spoilt : Cal P w K mg base CX0 "_law_spoilt" 8 ["_law_pool_here", "_law_lates_here", "_law_entries_here"] (spSpoilt K)
  law_first_bad : Cal P w K mg base CX0 "_law_first_bad" 5 ["_law_lates_here", "_law_entries_here"] (spBad K)
  law_odd : Cal P w K mg base CX0 "_law_odd" 6 ["_law_pool_here"] (spOdd CB)
  law_full : Cal P w K mg base CX0 "_law_full" 11 ["_law_journal", "_law_more"] (spFull K aT CJ CB)
  Book : Mak P w K mg base CX0 "Book" CB 4 ["self", "lates"] (spBookInit CB)
  Journal : Mak P w K mg base (L2.CX P w) "Journal" CJ 7 ["self", "book", "entries"] (spJInit K aT CJ CB CE)
  JournalD : MakD P w K mg base (L2.CX P w) "Journal" CJ 7 ["self", "book", "entries"] (.ref aE) (spJInit K aT CJ CB CE)
abbrev s_law : Stmt := topS 51
theorem sc_law : FnScope ["_law_script", "_law_pool_here", "_law_lates_here", "_law_book", "_law_keys", "_law_entries_here", "_law_k", "_law_spoilt_here", "_law_handed", "_law_at", "_law_due", "_law_thing", "_law_stream", "_law_many", "_law_more"] ["_law_script"] (defScope s_law) := ⟨rfl, rfl, rfl, by decide +kernel, rfl, by decide +kernel, by decide +kernel⟩
theorem ok_law {f CJ CB CE aT aE : Addr} {fd : FuncData} (F : Fun K "law" "law" s_law f fd) (B : Blt mg) (T : Cj P K mg CJ CB) (TB : Cb K mg CB) (BT : BkT K CB) (NB : NoB K CB) (G : GLw P w K mg base aT CJ CB CE aE) (sqE : ∀ H, SqT K H aE []) : FnOk P w K mg base CX0 13 f fd ["_law_script"] (spLaw K) := by
  have c_CB := TB.c
  have c_Book := TB.c
  refine F.ok sc_law (fun vs H Q E h => ?_) (fun cdv A outer s H vs Q E hr h => ?_)
  · obtain ⟨a, ns, rfl, _⟩ := h
    rfl
  · obtain ⟨a, ns, rfl, hS, _, q⟩ := h
    have hu := hu_of hr
    have hu0 : (A.deeper (envOfC "law" (defScope s_law) s.heap.objs.size f cdv)).units < cLine := by omega
    refine ⟨_, (pss_cons (ps_set (i := 1) sc_law.nd rfl (Or.inl rfl) (pe_cal G.law_pool (hr.mono (by decide)) pass0 (pa_cons (pv 0) pa_nil)))
    (pss_cons (ps_set (i := 2) sc_law.nd rfl (Or.inl rfl) (pe_cal G.law_lates (hr.mono (by decide)) pass0 (pa_cons (pv 1) pa_nil)))
    (pss_cons (ps_set (i := 3) sc_law.nd rfl (Or.inl rfl) (pe_mak G.Book (hr.mono (by decide)) pass0 (pa_cons (pv 2) pa_nil)))
    (pss_cons (ps_set (i := 4) sc_law.nd rfl (Or.inl rfl) (pe_cal G.law_names (hr.mono (by decide)) pass0 (pa_cons (pv 1) (pa_cons (pe_op op_add pe_int (pe_cal G.law_draw (hr.mono (by decide)) pass0 (pa_cons (pv 1) (pa_cons pe_int pa_nil)))) pa_nil))))
    (pss_cons (ps_set (i := 5) sc_law.nd rfl (Or.inl rfl) (pe_cal G.law_entries (hr.mono (by decide)) pass0 (pa_cons (pv 1) (pa_cons (pv 2) (pa_cons (pv 4) (pa_cons pe_dnewK (pa_cons (pe_cal G.law_draw (hr.mono (by decide)) pass0 (pa_cons (pv 1) (pa_cons (pe_op op_pow pe_int pe_int) pa_nil))) (pa_cons (pe_cal G.law_begin (hr.mono (by decide)) pass0 (pa_cons (pv 1) pa_nil)) (pa_cons (pe_cal G.law_draw (hr.mono (by decide)) pass0 (pa_cons (pv 1) (pa_cons pe_int pa_nil))) pa_nil)))))))))
    (pss_cons (ps_if (PW.pt (pw_or (pt_cmpR (op_neS hu0) (pe_cal G.law_made (hr.mono (by decide)) pass0 (pa_cons (pv 3) (pa_cons (pv 5) pa_nil))) (pe_tup (pa_cons pe_str (pa_cons (pe_callB call_len_seq (by rfl) B.len (by decide +kernel) (pa_cons (pv 5) pa_nil)) pa_nil))) (nomark _)) (pw_or1 (pt_cmpR (op_neS hu0) (pe_cal G.law_made (hr.mono (by decide)) pass0 (pa_cons (pv 3) (pa_cons (pe_callTy call_tuple_of (by rfl) B.tuple (by decide +kernel) (pa_cons (pv 5) pa_nil)) pa_nil))) (pe_tup (pa_cons pe_str (pa_cons (pe_callB call_len_seq (by rfl) B.len (by decide +kernel) (pa_cons (pv 5) pa_nil)) pa_nil))) (nomark _)))))
      (pss_one (ps_ret pe_bl))
      pss_nil)
    (pss_cons (ps_if (pt_cmpR (op_neS hu0) (pe_fld (pe_makD G.JournalD (hr.mono (by decide)) (passE takes0) (pa_cons (pv 3) pa_nil)) rfl) (pe_tup pa_nil) (nomark _))
      (pss_one (ps_ret pe_bl))
      pss_nil)
    (pss_cons (ps_for PassesOwn.never rfl (pi_range1 (by rfl) B.range (pa_cons pe_int pa_nil)) (pg_name (i := 6) sc_law.nd rfl (Or.inl rfl))
      (pss_cons (ps_set (i := 7) sc_law.nd rfl (Or.inl rfl) (pe_cal G.law_spoilt (hr.mono (by decide)) pass0 (pa_cons (pv 1) (pa_cons (pv 2) (pa_cons (pv 5) pa_nil)))))
      (pss_cons (ps_set (i := 8) sc_law.nd rfl (Or.inl rfl) (pe_callTy call_list_of (by rfl) B.list (by decide +kernel) (pa_cons (pv 7) pa_nil)))
      (pss_cons (ps_set (i := 9) sc_law.nd rfl (Or.inl rfl) (pe_cal G.law_first_bad (hr.mono (by decide)) pass0 (pa_cons (pv 2) (pa_cons (pv 7) pa_nil))))
      (pss_cons (ps_set (i := 10) sc_law.nd rfl (Or.inl rfl) (pe_tup (pa_cons pe_str (pa_cons (pe_callB call_len_seq (by rfl) B.len (by decide +kernel) (pa_cons (pv 7) pa_nil)) pa_nil))))
      (pss_cut (ps_if (pt_cmpR op_notN (pv 9) pe_non (nomark _))
        (pss_one (ps_set (i := 10) sc_law.nd rfl (Or.inl rfl) (pe_tup (pa_cons pe_str (pa_cons (pv 9) (pa_cons pe_bl pa_nil))))))
        pss_nil)
      (pss_one (ps_if (PW.pt (pw_or (pt_cmpR (op_neS hu0) (pe_cal G.law_made (hr.mono (by decide)) pass0 (pa_cons (pv 3) (pa_cons (pv 8) pa_nil))) (pv 10) (nomark _)) (pw_or1 (pt_cmpR (op_neLS hu0) (pv 8) (pv 7) (nomark _)))))
        (pss_one (ps_ret pe_bl))
        pss_nil))))))))
    (pss_cons (ps_set (i := 11) sc_law.nd rfl (Or.inl rfl) (pe_cal G.law_odd (hr.mono (by decide)) pass0 (pa_cons (pv 1) pa_nil)))
    (pss_cut (ps_if (PW.pt (pw_and (pt_not (pt_val (pe_callB call_isi (by rfl) B.isinstance (by decide +kernel) (pa_cons (pv 11) (pa_cons (pe_glob (v := .ref CB) (by rfl) c_Book rfl) pa_nil))))) (pw_and1 (pt_cmpR (op_neS hu0) (pe_cal G.law_made (hr.mono (by decide)) pass0 (pa_cons (pv 11) (pa_cons (pe_op op_cat (pv 5) (pe_lst (pa_cons pe_non pa_nil))) pa_nil))) (pe_tup (pa_cons pe_str (pa_cons (pv 11) pa_nil))) (nomark _)))))
      (pss_one (ps_ret pe_bl))
      pss_nil)
    (pss_cons (ps_if (pt_cmpR (op_neS hu0) (pe_cal G.law_made (hr.mono (by decide)) pass0 (pa_cons (pv 2) (pa_cons pe_non pa_nil))) (pe_tup (pa_cons pe_str (pa_cons (pv 2) pa_nil))) (nomark _))
      (pss_one (ps_ret pe_bl))
      pss_nil)
    (pss_cons (ps_set (i := 11) sc_law.nd rfl (Or.inl rfl) (pe_ix ix_list (pe_lst (pa_cons pe_non (pa_cons pe_bl (pa_cons pe_int (pa_cons pe_str (pa_cons pe_dnewK (pa_cons (pv 3) (pa_cons (pe_op op_pow pe_int pe_int) (pa_cons (pe_disp (pps_cons pe_str pe_int pps_nil) (by rfl) (by rfl) (fun z => by cases z) (by decide)) pa_nil))))))))) (pe_cal G.law_draw (hr.mono (by decide)) pass0 (pa_cons (pv 1) (pa_cons pe_int pa_nil))) (fun _ _ => rfl)))
    (pss_cons (ps_if (pt_cmpR (op_neS hu0) (pe_cal G.law_made (hr.mono (by decide)) pass0 (pa_cons (pv 3) (pa_cons (pv 11) pa_nil))) (pe_tup (pa_cons pe_str (pa_cons (pe_un un_neg pe_int) (pa_cons pe_bl pa_nil)))) (nomark _))
      (pss_one (ps_ret pe_bl))
      pss_nil)
    (pss_cons (ps_if (pt_cmpR op_gt (pe_cal G.law_draw (hr.mono (by decide)) pass0 (pa_cons (pv 1) (pa_cons pe_int pa_nil))) pe_int (nomark _))
      (pss_one (ps_ret pe_bl))
      pss_nil)
    (pss_cons (ps_set (i := 12) sc_law.nd rfl (Or.inr rfl) (pe_ix ix_list (pe_callTy (call_listD (by rfl)) (by rfl) B.list (by decide +kernel) (pa_cons (pv 2) pa_nil)) pe_int (fun _ _ => rfl)))
    (pss_cons (ps_setLc (i := 13) (own := [("_law_k", 6)]) (g := gName 6) (tt := tYes) (by rfl) sc_law.nd rfl rfl (sw_true rfl rfl rfl (by decide +kernel)) (pi_range1 (by rfl) B.range (pa_cons pe_int pa_nil)) (blkOk_by (own := [("_law_k", 6)]) (N := ["_law_script", "_law_pool_here", "_law_lates_here", "_law_book", "_law_keys", "_law_entries_here", "_law_k", "_law_spoilt_here", "_law_handed", "_law_at", "_law_due", "_law_thing", "_law_stream", "_law_many", "_law_more"]) (sc := defScope s_law) (by decide +kernel)) (fun _ _ _ _ _ => (pg_name (i := 6) sc_law.nd rfl (Or.inl rfl))) (fun _ _ _ _ _ => pts_nil) (fun _ _ _ _ _ => (pe_tup (pa_cons pe_str (pa_cons (pv 6) (pa_cons (pv 12) (pa_cons pe_str (pa_cons (pv 6) (pa_cons pe_int (pa_cons (pv 6) pa_nil))))))))))
    (pss_cons (ps_if (pt_cmpR (op_neS hu0) (pe_cal G.law_made (hr.mono (by decide)) pass0 (pa_cons (pv 3) (pa_cons (pv 13) pa_nil))) (pe_tup (pa_cons pe_str (pa_cons pe_int pa_nil))) (nomark _))
      (pss_one (ps_ret pe_bl))
      pss_nil)
    (pss_cons (ps_set (i := 14) sc_law.nd rfl (Or.inl rfl) (pe_tup (pa_cons pe_str (pa_cons pe_int (pa_cons (pv 12) (pa_cons pe_str (pa_cons pe_int (pa_cons pe_int (pa_cons pe_int pa_nil)))))))))
    (pss_cons (ps_if (PW.pt (pw_or (pt_cmpR (op_neS hu0) (pe_cal G.law_made (hr.mono (by decide)) pass0 (pa_cons (pv 3) (pa_cons (pe_op op_cat (pv 13) (pe_lst (pa_cons pe_non pa_nil))) pa_nil))) (pe_tup (pa_cons pe_str (pa_cons (pe_un un_neg pe_int) (pa_cons pe_bl pa_nil)))) (nomark _)) (pw_or1 (pt_not (pt_val (pe_cal G.law_full (hr.mono (by decide)) pass0 (pa_cons (pe_mak G.Journal (hr.mono (by decide)) (passE takes0) (pa_cons (pv 3) (pa_cons (pv 13) pa_nil))) (pa_cons (pv 14) pa_nil))))))))
      (pss_one (ps_ret pe_bl))
      pss_nil)
    (pss_one (ps_ret (pe_cmpR (op_eqD hr.units) (pe_cal G.law_made (hr.mono (by decide)) pass0 (pa_cons (pv 3) (pa_cons (pe_op op_catA (pe_callTy call_tuple_of (by rfl) B.tuple (by decide +kernel) (pa_cons (pv 13) pa_nil)) (pe_tup (pa_cons (pv 14) pa_nil))) pa_nil))) (pe_tup (pa_cons pe_str (pa_cons (pe_un un_neg pe_int) (pa_cons pe_bl pa_nil)))) (nomark _))))))))))))))))))))))), ?_⟩
    have two : (2 : Nat) ≤ sizeLine := by decide
    have three : (3 : Nat) ≤ sizeLine := by decide
    refine ⟨_, rfl, a, ns, rfl, hS, fun p s0 H1 hp hP1 s1 => ?_⟩
    refine ⟨_, rfl, p, s0, rfl, hP1, fun dl L H2 hdl0 hdl LL P2 => ?_⟩
    refine ⟨_, rfl, fun b dxb nb ndb neb => ⟨b, dxb, dl, L, rfl, upd_same, (mk_same nb ndb (fun c o h n => h)) _ _ hdl, LL, fun H3 hB kB => ⟨rfl, ?_⟩⟩⟩
    have s23 : Same H2 H3 := mk_same nb ndb kB
    have hdl3 := s23 _ _ hdl
    have P3 : PoolAt H3 p s0 := P2.now.same s23
    refine ⟨_, rfl, _, rfl, p, s0, 2, rfl, P3, (by decide), (by decide), fun d H4 d0 d1 P4 => ⟨_, _, rfl, rfl, p, s0, _, rfl, P4.now, (by omega), (by omega), fun dk ks H5 hdk0 hdk hkl knd knm P5 => ?_⟩⟩
    have P35 : Pl H3 H5 p s0 := P4.trans P5
    have hdl5 := P35.dk P3 hdl3
    have hB5 := hB.pl P3 P35
    have dkp : dk ≠ p := fun z => P4.now.ne.1 (z ▸ hdk0)
    refine ⟨_, rfl, _, rfl, _, rfl, fun ds hds => ⟨_, rfl, _, _, rfl, rfl, ⟨by decide, by decide⟩, p, s0, _, rfl, ((Pl.refl P5.now).new hds).now, (by decide), (by decide), fun num H6 n0 n1 P6 => ⟨_, rfl, p, s0, rfl, P6.now, fun beg H7 P7 => ⟨_, rfl, p, s0, 9, rfl, P7.now, (by decide), (by decide), fun many H8 m0 m1 P8 => ?_⟩⟩⟩⟩
    have P58 : Pl H5 H8 p s0 := (((Pl.refl P5.now).new hds).trans P6).trans (P7.trans P8)
    have hds8 : H8 ds = some (.dK []) := (P6.trans (P7.trans P8)).dk ((Pl.refl P5.now).new hds).now upd_same
    have st : ∀ n, StAt H8 ds (fun _ => none) n := fun n => ⟨[], hds8, Nat.zero_le _, (fun _ h => nomatch h), fun id => True.intro⟩
    have hdl8 := P58.dk P5.now hdl5
    have hdk8 := P58.keep hdk dkp
    refine ⟨p, s0, dl, dk, ds, L, ks, fun _ => none, 0, num, beg, many, rfl, ⟨P58.now, hdl8, LL, hdk8, by omega, by omega, knm, st _, (fun _ _ _ _ _ e => by cases e), fun id h => absurd rfl h⟩, st _, by omega, by omega, by omega, by omega, (fun id h => absurd rfl h), (fun z => by rw [z, hdl5] at hds; cases hds), fun q1 us xs S1 H9 hq10 hq1 hE hlen hwk _ _ _ _ PD => ?_⟩
    have P59 : Pl H5 H9 p s0 := ⟨PD.now, P5.now.ne.1, P5.now.ne.2, fun c o hc n => PD.but c o (P58.keep hc n) n (fun z => by rw [z, hds] at hc; cases hc)⟩
    have hdl9 := P59.dk P5.now hdl5
    have hB9 := hB5.pl P5.now P59
    have hw9 : (wk L (xs.map some) 0 (fun _ => none) none).1 = none := by rw [hwk none (fun _ z => nomatch z) 0]
    have q1p : q1 ≠ p := fun z => P58.now.ne.1 (z ▸ hq10)
    have PQ9 := P59.now
    have ul : us.length ≤ 8 := by rw [hE.1]; omega
    refine ⟨_, rfl, _, rfl, _, _, rfl, .inl ⟨b, q1, L, us, xs.map some, rfl, rfl, hB9, .inl hq1, by omega, things_of hE, fun t H10 s10 ht => ?_⟩⟩
    rw [first_none hw9] at ht
    refine ⟨_, rfl, q1, us, rfl, .inl (SqL.of (s10 _ _ hq1)), two, fun t2 ht2 => ⟨same_tup ((sameAt (Same.refl _) ht2) _ _ ht) upd_same (sv2 sv_str sv_int), ?_⟩⟩
    have s11 := s10.trans (sameAt (o := .tup [.str "made", .int us.length]) (Same.refl _) ht2)
    generalize upd H10 t2 (.tup [.str "made", .int us.length]) = H11 at s11 ⊢
    refine ⟨_, rfl, iteF ⟨_, rfl, _, rfl, q1, us, rfl, .inl ⟨SqL.of (s11 _ _ hq1), fun l hl => ?_⟩⟩⟩
    have s12 := s11.trans (sameAt (o := .tup us) (Same.refl _) hl)
    refine ⟨_, _, rfl, .inl ⟨b, l, L, us, xs.map some, rfl, rfl, hB9.same s12, .inr (SqT.of upd_same), by omega, things_of (hE.tk (tk_same s12)), fun t' H13 s13 ht' => ?_⟩⟩
    rw [first_none hw9] at ht'
    refine ⟨_, rfl, q1, us, rfl, .inl (SqL.of ((s12.trans s13) _ _ hq1)), two, fun t2' ht2' => ⟨same_tup ((sameAt (Same.refl _) ht2') _ _ ht') upd_same (sv2 sv_str sv_int), _, rfl, iteF ?_⟩⟩
    have s14 := (s12.trans s13).trans (sameAt (o := .tup [.str "made", .int us.length]) (Same.refl _) ht2')
    generalize upd H13 t2' (.tup [.str "made", .int us.length]) = H14 at s14 ⊢
    have P14 := (Pl.refl PQ9).same s14
    have hB14 := hB9.same s14
    refine ⟨_, rfl, fun j dxj nj ndj nej => ⟨j, dxj, b, aE, L, [], [], rfl, upd_same, hB14.same (mk_same nj ndj (fun c o h n => h)), .inr (sqE _), (by show 0 ≤ 400; decide), rfl, (fun i v o h => by simp at h), fun HJ xs' hxs hw hJ _ kJ => ⟨rfl, ?_⟩, fun i d H' hw => nomatch hw⟩⟩
    obtain ⟨dx, t4, kd, g1, g2, g3, _⟩ := id hJ
    have sJ : Same H14 HJ := mk_same nj ndj kJ
    refine ⟨j, CJ, dx, _, _, rfl, g1, T.cl, T.nE, jf_e _ _ _, (by show 0 ≤ sizeLine; decide), fun t5 ht5 => ⟨⟨t4, t5, [], [], rfl, rfl, seqS g3 (sameAt (Same.refl _) ht5), SqT.of upd_same, rfl, fun i u v a b => by simp at a⟩, _, rfl, iteF ?_⟩⟩
    have P15 := P14.same (sJ.trans (sameAt (o := .tup []) (Same.refl _) ht5))
    generalize upd HJ t5 (.tup []) = H15 at P15 ⊢
    refine ⟨_, rfl, (by decide), (by decide), for_range (n := 6) (fun i σ H' => ∃ x6 x7 x8 x9 x10, σ = [some (.ref a), some (.ref p), some (.ref dl), some (.ref b), some (.ref dk), some (.ref q1), x6, x7, x8, x9, x10, none, none, none, none] ∧ Pl H9 H' p s0) ?_ ?_ ?_⟩
    · exact ⟨_, _, _, _, _, rfl, P15⟩
    · rintro i σ HA hi ⟨x6, x7, x8, x9, x10, rfl, PA⟩
      refine ⟨_, rfl, _, rfl, _, rfl, p, s0, dl, q1, L, us, xs, rfl, PA.now, PA.dk PQ9 hdl9, LL, PA.keep hq1 q1p, hE.tk (PA.tk PQ9), ul, fun r us' HB hr' hr0 l9 hA PB => ?_⟩
      have PAB := PA.trans PB
      refine ⟨_, rfl, r, us', rfl, .inl (SqL.of hr'), fun h2 hh2 => ?_⟩
      have sC := sameAt (o := .lst us') (Same.refl HB) hh2
      obtain ⟨ths, hT⟩ := (hA.same sC).things
      have PC := PAB.same sC
      refine ⟨_, rfl, _, rfl, dl, r, L, us', ths, rfl, PC.dk PQ9 hdl9, sC _ _ hr', by omega, hT, fun HD sD => ?_⟩
      have sCD := sC.trans sD
      refine ⟨_, rfl, r, us', rfl, .inl (SqL.of (sCD _ _ hr')), two, fun du hdu => ?_⟩
      have sE := sameAt (o := .tup [.str "made", .int us'.length]) (Same.refl HD) hdu
      have sBE := sCD.trans sE
      have hh2E := (sD.trans sE) _ _ (upd_same (a := h2))
      have hTE : Things K (upd HD du (.tup [.str "made", .int us'.length])) us' ths := ⟨hT.1, fun i v o a b => (hT.2 i v o a b).same (sD.trans sE)⟩
      have duE : upd HD du (.tup [.str "made", .int us'.length]) du = some (.tup [.str "made", .int us'.length]) := upd_same
      generalize upd HD du (.tup [.str "made", .int us'.length]) = HE at sBE hh2E hTE duE ⊢
      refine ⟨fun σ H' => ∃ y6 du', σ = [some (.ref a), some (.ref p), some (.ref dl), some (.ref b), some (.ref dk), some (.ref q1), y6, some (.ref r), some (.ref h2), some (atV (firstB L ths)), some (.ref du'), none, none, none, none] ∧ H' du' = some (.tup (dueV us'.length (firstB L ths))) ∧ Same HE H', ?_, ?_⟩
      · cases hf : firstB L ths with
        | none => exact ⟨_, rfl, rfl, _, rfl, iteF ⟨_, du, rfl, duE, Same.refl _⟩⟩
        | some k => exact ⟨_, rfl, rfl, _, rfl, iteT ⟨_, rfl, three, fun t2 ht2 => ⟨_, t2, rfl, upd_same, sameAt (Same.refl _) ht2⟩⟩⟩
      · rintro σ HF ⟨y6, du', rfl, hduF, sF⟩
        have sBF := sBE.trans sF
        have PF := PAB.same sBF
        refine ⟨_, rfl, _, rfl, _, _, rfl, .inl ⟨b, h2, L, us', ths, rfl, rfl, hB9.pl PQ9 PF, .inl (sF _ _ hh2E), by omega, ⟨hTE.1, fun i v o a b => (hTE.2 i v o a b).same sF⟩, fun t HG sG ht => ⟨_, rfl, same_tup ht (sG _ _ hduF) due_sv, _, rfl, iteF ⟨_, rfl, _, rfl, ⟨h2, r, us', us', rfl, rfl, SqL.of ((sF.trans sG) _ _ hh2E), SqL.of ((sBF.trans sG) _ _ hr'), rfl, fun i u v a b => by rw [a] at b; cases b; exact (hA u (List.mem_of_getElem? a)).2⟩, _, rfl, iteF ?_⟩⟩⟩⟩
        exact ⟨_, _, _, _, _, rfl, PF.same sG⟩
    rintro σ HA ⟨x6, x7, x8, x9, x10, rfl, PA⟩
    refine ⟨_, rfl, p, s0, rfl, PA.now, fun v o HB ho PB => ?_⟩
    have PAB := PA.trans PB
    have hqB := PAB.keep hq1 q1p
    refine ⟨fun σ H' => ∃ y6 y7 y8 y9 y10 y11, σ = [some (.ref a), some (.ref p), some (.ref dl), some (.ref b), some (.ref dk), some (.ref q1), y6, y7, y8, y9, y10, y11, none, none, none] ∧ Pl H9 H' p s0, ?_, ?_⟩
    · obtain ⟨t, ty, kt⟩ := od_cls BT NB ho
      refine ⟨_, rfl, _, _, _, _, o.isBk, rfl, ClsV.own _, ty, kt, _, rfl, ?_⟩
      cases hk : o.isBk with
      | true => exact iteF ⟨_, _, _, _, _, _, rfl, PAB⟩
      | false =>
        refine iteT ⟨_, rfl, _, rfl, (by show 1 ≤ sizeLine; decide), fun l1 hl1 => ?_⟩
        have w1 := sameAt (o := .lst [.non]) (Same.refl HB) hl1
        refine ⟨q1, l1, us, [.non], rfl, rfl, w1 _ _ hqB, upd_same, (by show us.length + 1 ≤ sizeLine; exact Nat.le_of_lt (small1000 (by omega))), fun l2 hl2 => ?_⟩
        have w2 := sameAt (o := .lst (us ++ [.non])) (Same.refl _) hl2
        rw [hk] at kt
        refine ⟨_, _, rfl, .inr (.inl ⟨⟨t, tyS ty (w1.trans w2), kt⟩, fun t3 HC sC ht => ⟨_, rfl, two, fun t4 ht4 => ⟨same_tup ((sameAt (Same.refl _) ht4) _ _ ht) upd_same (sv2 sv_str ho.sv), _, rfl, iteF ?_⟩⟩⟩)⟩
        exact ⟨_, _, _, _, _, _, rfl, PAB.same ((w1.trans w2).trans (sC.trans (sameAt (Same.refl _) ht4)))⟩
    rintro σ HC ⟨y6, y7, y8, y9, y10, y11, rfl, PC⟩
    have hdlC := PC.dk PQ9 hdl9
    refine ⟨_, rfl, _, _, rfl, .inr (.inl ⟨⟨_, .base (.dK hdlC), NB.dict⟩, fun t3 HD sD ht => ⟨_, rfl, two, fun t4 ht4 => ⟨same_tup ((sameAt (Same.refl _) ht4) _ _ ht) upd_same (sv2 sv_str sv_ref), _, rfl, iteF ?_⟩⟩⟩)⟩
    have PD := PC.same (sD.trans (sameAt (o := .tup [.str "book", .ref dl]) (Same.refl _) ht4))
    generalize upd HD t4 (.tup [.str "book", .ref dl]) = HE at PD ⊢
    refine fun d1 hd1 => ⟨_, rfl, _, _, rfl, rfl, ⟨by decide, by decide⟩, fun d2 hd2 => ⟨upd_same, [(.inr "row", .int 0)], rfl, (by decide), (by show 8 ≤ sizeLine; decide), fun l1 hl1 => ?_⟩⟩
    have w1 := sameAt (o := .dK []) (Same.refl HE) hd1
    have w2 := sameAt (o := .dK (mergeK [] [(.inr "row", .int 0)])) (sameAt (o := .dK []) (Same.refl _) hd2) hd2
    have w3 := sameAt (o := .lst [.non, .bl true, .int 0, .str "row", .ref d1, .ref b, .int (10 ^ 30), .ref d2]) (Same.refl _) hl1
    have PL := PD.same (w1.trans (w2.trans w3))
    have hlp : l1 ≠ p := fun z => (PD.same (w1.trans w2)).now.ne.1 (z ▸ hl1)
    have e1 := (w2.trans w3) _ _ (upd_same (a := d1))
    have e2 := w3 _ _ (upd_same (a := d2))
    refine ⟨_, rfl, p, s0, 8, rfl, PL.now, (by decide), (by decide), fun g HF g0 g1 PF => ?_⟩
    obtain ⟨jj, rfl⟩ : ∃ j : Nat, g = (j : Int) := ⟨g.toNat, by omega⟩
    have PLF := PL.trans PF
    have hBF := hB9.pl PQ9 PLF
    have it : ∃ u, ([.non, .bl true, .int 0, .str "row", .ref d1, .ref b, .int (10 ^ 30), .ref d2] : List V)[jj]? = some u ∧ NotRw K HF u := by
      rcases jj with _ | _ | _ | _ | _ | _ | _ | _ | jj
      · exact ⟨_, rfl, _, .base .non, kit_ty (by decide +kernel), kit_ty (by decide +kernel)⟩
      · exact ⟨_, rfl, _, .base (.bl _), kit_ty (by decide +kernel), kit_ty (by decide +kernel)⟩
      · exact ⟨_, rfl, _, .base (.int _), kit_ty (by decide +kernel), kit_ty (by decide +kernel)⟩
      · exact ⟨_, rfl, _, .base (.str _), kit_ty (by decide +kernel), kit_ty (by decide +kernel)⟩
      · exact ⟨_, rfl, _, .base (.dK (PF.dk PL.now e1)), kit_ty (by decide +kernel), kit_ty (by decide +kernel)⟩
      · exact ⟨_, rfl, _, BT.at hBF, BT.list, BT.tuple⟩
      · exact ⟨_, rfl, _, .base (.int _), kit_ty (by decide +kernel), kit_ty (by decide +kernel)⟩
      · exact ⟨_, rfl, _, .base (.dK (PF.dk PL.now e2)), kit_ty (by decide +kernel), kit_ty (by decide +kernel)⟩
      · omega
    obtain ⟨u, hu8, hnr⟩ := it
    refine ⟨_, _, _, u, rfl, rfl, SqL.of (PF.keep upd_same hlp), atI_nat hu8, ?_⟩
    refine ⟨_, rfl, _, rfl, _, _, rfl, .inr (.inr ⟨b, L, rfl, hBF, .inl hnr, fun t3 HG sG ht => ⟨_, rfl, three, fun t4 ht4 => ⟨same_tup ((sameAt (Same.refl _) ht4) _ _ ht) upd_same (sv3 sv_str sv_int sv_true), _, rfl, iteF ?_⟩⟩⟩)⟩
    have PG := PLF.same (sG.trans (sameAt (o := .tup [.str "entry", .int (-1), .bl true]) (Same.refl _) ht4))
    generalize upd HG t4 (.tup [.str "entry", .int (-1), .bl true]) = HG' at PG ⊢
    refine ⟨_, rfl, p, s0, 16, rfl, PG.now, (by decide), (by decide), fun g HI _ _ PI => ⟨_, _, rfl, rfl, _, rfl, ite2 (fun _ => q _) (fun _ => ?_)⟩⟩
    have P9 := PG.trans PI
    clear hu8 hnr PI PG PLF PF PL w1 w2 w3 e1 e2 PD
    have hBI := hB9.pl PQ9 P9
    have hdI := P9.dk PQ9 hdl9
    obtain ⟨z, t0, rest, rfl⟩ : ∃ z t0 rest, L = (z, t0) :: rest := by
      cases L with
      | nil => exact absurd LL.some_ (by decide)
      | cons x r => exact ⟨x.1, x.2, r, rfl⟩
    have hz : IsNm z := LL.nm (z, t0) List.mem_cons_self
    have ht0 : 0 ≤ t0 := LL.lo (z, t0) List.mem_cons_self
    have hL : ((z, t0) :: rest).lookup z = some t0 := by rw [List.lookup_cons, beq_self_eq_true]
    refine ⟨_, rfl, dl, _, rfl, .of hdI, fun l2 hl2 => ⟨_, _, _, .str z, rfl, rfl, SqL.of upd_same, atI_nat (j := 0) rfl, ?_⟩⟩
    have wl := sameAt (o := .lst ((LK ((z, t0) :: rest)).map fun kv => kV kv.1)) (Same.refl HI) hl2
    generalize upd HI l2 (.lst ((LK ((z, t0) :: rest)).map fun kv => kV kv.1)) = HJ at wl ⊢
    have hBJ := hBI.same wl
    have rok : ∀ {n : Int}, 0 ≤ n → (Ent.row n z "a" n 0 n).ok := fun h => ⟨h, fun _ _ _ _ _ _ e => by cases e; exact ⟨hz, nm_a⟩⟩
    refine ⟨_, rfl, (by decide), (by decide), fun a1 ha1 => lc_range (n := (400 : Int).toNat) (fun i H3 => ∃ vs, H3 a1 = some (.lst vs) ∧ Ents H3 vs ((rws z 0 400).take i) ∧ Same HJ H3) ⟨[], upd_same, ⟨rfl, fun i v x a b => by simp at a⟩, sameAt (Same.refl _) ha1⟩ ?_ ?_⟩
    · rintro i H3 hi ⟨vs, g2, gE, s3⟩
      have hi : i < 400 := hi
      have hx := rws_at z 400 i 0 hi
      have ll : vs.length = i := by rw [gE.1, List.length_take, rws_len]; omega
      refine ⟨rfl, _, rfl, _, rfl, _, rfl, _, rfl, (by show 7 ≤ sizeLine; decide), fun e he => ?_⟩
      have se : Same H3 (upd H3 e (.tup [.str "row", .int (0 + i), .str z, .str "a", .int (0 + i), .int 0, .int (0 + i)])) := sameAt (Same.refl _) he
      have off : TK (upd H3 e (.tup [.str "row", .int (0 + i), .str z, .str "a", .int (0 + i), .int 0, .int (0 + i)])) (upd (upd H3 e (.tup [.str "row", .int (0 + i), .str z, .str "a", .int (0 + i), .int 0, .int (0 + i)])) a1 (.lst (vs ++ [.ref e]))) := tk_off (se _ _ g2) (fun xs z => by cases z)
      refine ⟨vs, se _ _ g2, small1000 (by omega), vs ++ [.ref e], upd_same, ?_, sameAt (s3.trans se) ha1⟩
      rw [take_succ hx]
      exact (gE.tk ((tk_same se).trans off)).snoc (off _ _ upd_same) (rok (by omega))
    rintro H3 ⟨vs, g2, gE, s3⟩
    rw [show (rws z 0 400).take (400 : Int).toNat = rws z 0 400 from List.take_of_length_le (by rw [rws_len]; decide)] at gE
    have vl : vs.length = 400 := by rw [gE.1, rws_len]
    have hB3 := hBJ.same s3
    have wk4 := rws_wk hL ht0 400 0 0 (fun _ => none) none (fun _ _ => rfl) rfl
    have wn : (wk ((z, t0) :: rest) ((rws z 0 400).map some) 0 (fun _ => none) none).1 = none := by rw [wk4]
    refine ⟨_, rfl, _, rfl, _, _, rfl, .inl ⟨b, a1, _, vs, (rws z 0 400).map some, rfl, rfl, hB3, .inl g2, Nat.le_of_eq vl, things_of gE, fun t H4 s4 ht => ?_⟩⟩
    rw [first_none wn, vl] at ht
    refine ⟨two, fun t5 ht5 => ⟨same_tup ((sameAt (Same.refl _) ht5) _ _ ht) upd_same (sv2 sv_str sv_int), _, rfl, iteF ?_⟩⟩
    have s5 := s4.trans (sameAt (o := .tup [.str "made", .int 400]) (Same.refl _) ht5)
    generalize upd H4 t5 (.tup [.str "made", .int 400]) = H5' at s5 ⊢
    refine ⟨_, rfl, (by show 7 ≤ sizeLine; decide), fun m hm => ?_⟩
    have wm := sameAt (o := .tup [.str "row", .int 400, .str z, .str "a", .int 400, .int 0, .int 400]) (Same.refl H5') hm
    have hmE : EntAt (upd H5' m (.tup [.str "row", .int 400, .str z, .str "a", .int 400, .int 0, .int 400])) m (.row 400 z "a" 400 0 400) := upd_same
    have s6 := s5.trans wm
    generalize upd H5' m (.tup [.str "row", .int 400, .str z, .str "a", .int 400, .int 0, .int 400]) = H6' at s6 hmE ⊢
    refine ⟨_, rfl, _, rfl, (by show 1 ≤ sizeLine; decide), fun l3 hl3 => ?_⟩
    have w7 := sameAt (o := .lst [.non]) (Same.refl H6') hl3
    refine ⟨a1, l3, vs, [.non], rfl, rfl, (s6.trans w7) _ _ g2, upd_same, (by show vs.length + 1 ≤ sizeLine; exact Nat.le_of_lt (small1000 (by omega))), fun l4 hl4 => ?_⟩
    have w8 := sameAt (o := .lst (vs ++ [.non])) (Same.refl _) hl4
    have s8 := s6.trans (w7.trans w8)
    refine ⟨_, _, rfl, .inr (.inr ⟨b, _, rfl, hB3.same s8, .inr ⟨l4, vs ++ [.non], rfl, .inl upd_same, (by rw [List.length_append]; show 400 < vs.length + 1; omega), (by rw [List.length_append]; show vs.length + 1 ≤ 1000; omega)⟩, fun t9 H9' s9 ht => ⟨_, rfl, three, fun t4 ht4 => ⟨same_tup ((sameAt (Same.refl _) ht4) _ _ ht) upd_same (sv3 sv_str sv_int sv_true), _, rfl, iteF ?_⟩⟩⟩)⟩
    have s10 := (s8.trans s9).trans (sameAt (o := .tup [.str "entry", .int (-1), .bl true]) (Same.refl _) ht4)
    have hm10 : EntAt (upd H9' t4 (.tup [.str "entry", .int (-1), .bl true])) m (.row 400 z "a" 400 0 400) := ((w7.trans w8).trans (s9.trans (sameAt (Same.refl _) ht4))) _ _ hmE
    generalize upd H9' t4 (.tup [.str "entry", .int (-1), .bl true]) = HX at s10 hm10 ⊢
    refine ⟨_, rfl, _, rfl, fun jx dxj nj ndj nej => ?_⟩
    have sX : Same HX (upd (upd HX dxj (.own jx)) jx (.ins CJ dxj [])) := (sameAt (Same.refl _) ndj).trans (sameAt (Same.refl _) (by rw [upd_ne (Ne.symm nej)]; exact nj))
    have gX := gE.tk (tk_same (s10.trans sX))
    refine ⟨jx, dxj, b, a1, _, vs, (rws z 0 400).map some, rfl, upd_same, hB3.same (s10.trans sX), .inl (sX _ _ (s10 _ _ g2)), Nat.le_of_eq vl, (things_of (K := K) gX).1, (things_of gX).2, fun H11 ys hys _ hJ _ kk => ⟨rfl, ?_⟩, fun i d H11 hw11 _ _ => by rw [wn] at hw11; cases hw11⟩
    have ey : ys = rws z 0 400 := (List.map_inj_right (fun a b h => Option.some.inj h)).mp hys.symm
    subst ey
    have s11 : Same HX H11 := mk_same nj ndj kk
    refine ⟨_, rfl, jx, m, b, _, vs, z, t0, rfl, hJ, s11 _ _ hm10, hz, hL, ht0, fun H12 s12 => ⟨_, rfl, iteF ?_⟩⟩
    have s13 := s10.trans (s11.trans s12)
    refine ⟨_, rfl, _, rfl, a1, vs, rfl, .inl ⟨SqL.of (s13 _ _ g2), fun l5 hl5 => ⟨_, rfl, (by show 1 ≤ sizeLine; decide), fun l6 hl6 => ?_⟩⟩⟩
    have w5 := sameAt (o := .tup vs) (Same.refl H12) hl5
    have w6 := sameAt (o := .tup [.ref m]) (Same.refl _) hl6
    refine catA_use (w6 _ _ upd_same) upd_same (by rw [vl]; show 400 + 1 ≤ 1000; decide) fun c H13 s14 hc => ?_
    refine ⟨_, _, rfl, .inr (.inr ⟨b, _, rfl, hB3.same (s13.trans (w5.trans (w6.trans s14))), .inr ⟨c, vs ++ [.ref m], rfl, .inr (SqT.of hc), (by rw [List.length_append]; show 400 < vs.length + 1; omega), (by rw [List.length_append]; show vs.length + 1 ≤ 1000; omega)⟩, fun t9 H15 s15 ht => ⟨_, rfl, three, fun t4 ht4 => ⟨_, _, odd_dp ((sameAt (Same.refl _) ht4) _ _ ht), odd_dp upd_same, odd_sh, odd_sh, ?_⟩⟩⟩)⟩
    rw [SeqAt.eqv_refl _ (SeqAt.canLay_of_shaped odd_sh)]
    exact q _
end
end Ash

set_option Elab.async false
set_option linter.all false
set_option maxRecDepth 100000
set_option maxHeartbeats 4000000
namespace Ash
open PySem PySem.Spec PyProof.Rows L2
/-! ### what the top has written -/
/-- a def of the top -/
structure D1 (K : PySem.W.Frag) (mg : Str → Option Value) (x : Str) (st : Stmt) : Prop where
  ex : ∃ (f : Addr) (fd : FuncData), mg x = some (.ref f) ∧ Fun K x x st f fd
/-- a method -/
structure DM (K : PySem.W.Frag) (C : Addr) (m qual : Str) (st : Stmt) : Prop where
  ex : ∃ (f : Addr) (fd : FuncData), Meth K C m f ∧ Fun K m qual st f fd
/-- a method at a known place -/
structure DQ (K : PySem.W.Frag) (C f : Addr) (m qual : Str) (st : Stmt) : Prop where
  ex : ∃ fd : FuncData, Meth K C m f ∧ Fun K m qual st f fd
/-- an __init__ with one default -/
structure DD (K : PySem.W.Frag) (C a : Addr) (qual : Str) (st : Stmt) : Prop where
  ex : ∃ (f : Addr) (fd : FuncData), Mk K C f ∧ FunD K "__init__" qual (defArgs st) (defBody st) (defScope st) [.ref a] [] f fd
section
variable {K : PySem.W.Frag} {h : Heap} {mg : Str → Option Value} {x qual : Str} {st : Stmt} {f C : Addr} {oc kV dc pm cdv ct : Value} {od an : Option Addr} {sl : Array (Option Value)}
theorem d1 (X : K.In h) (G : h.Ns mainGlobals mg) (a : PySem.W.nsIn K mainGlobals x = some (some (.ref f))) (l : K.lookup f = some ⟨oc, od, .func (PySem.W.fnOf x x (defArgs st) (defBody st) (defScope st) .none kV dc pm an cdv ct), sl⟩) (c : PySem.W.codeIn K cdv x = true) (k : PySem.W.keepIn K (.ref f) = true) : D1 K mg x st :=
  ⟨f, _, PySem.W.mg_of X G a, fun_mk l c k⟩
theorem dm (a : PySem.W.findIn K (.ref C) x = some (some (.ref f))) (i : PySem.W.isFn K (.ref f) = true) (l : K.lookup f = some ⟨oc, od, .func (PySem.W.fnOf x qual (defArgs st) (defBody st) (defScope st) .none kV dc pm an cdv ct), sl⟩) (c : PySem.W.codeIn K cdv qual = true) (k : PySem.W.keepIn K (.ref f) = true) : DM K C x qual st :=
  ⟨f, _, ⟨a, i, k⟩, fun_mk l c k⟩
theorem dq (a : PySem.W.findIn K (.ref C) x = some (some (.ref f))) (i : PySem.W.isFn K (.ref f) = true) (l : K.lookup f = some ⟨oc, od, .func (PySem.W.fnOf x qual (defArgs st) (defBody st) (defScope st) .none kV dc pm an cdv ct), sl⟩) (c : PySem.W.codeIn K cdv qual = true) (k : PySem.W.keepIn K (.ref f) = true) : DQ K C f x qual st :=
  ⟨_, ⟨a, i, k⟩, fun_mk l c k⟩
theorem dd {a T : Addr} {oT : Value} {dT : Option Addr} {slT : Array (Option Value)} {n : Nat} (m1 : PySem.W.makesIn K C = true) (m2 : PySem.W.findIn K (.ref C) "__init__" = some (some (.ref f))) (m3 : PySem.W.isFn K (.ref f) = true) (m4 : PySem.W.keepIn K (.ref C) = true)
    (l : K.lookup f = some ⟨oc, od, .func (PySem.W.fnOf "__init__" qual (defArgs st) (defBody st) (defScope st) (.ref T) kV dc pm an cdv ct), sl⟩) (lT : K.lookup T = some ⟨oT, dT, .seq #[.ref a] n, slT⟩) (c : PySem.W.codeIn K cdv qual = true) (k : PySem.W.keepIn K (.ref f) = true) : DD K C a qual st :=
  ⟨f, _, ⟨m1, m2, m3, m4⟩, ⟨⟨oc, od, .ref T, kV, dc, pm, an, cdv, ct, sl, rfl, l, c, .inr ⟨by simp, T, _, [.ref a], n, rfl, lT, rfl, .cons rfl .nil⟩, .inl rfl⟩, k⟩⟩
theorem sq_of {a : Addr} {d : Option Addr} {n : Nat} (l : K.lookup a = some ⟨.type "tuple", d, .seq #[] n, sl⟩) (H : Hp) : SqT K H a [] := .inr ⟨_, #[], n, l, rfl, rfl, Nat.zero_le _, .nil⟩
theorem tt_mk {a : Addr} {d : Option Addr} {n : Nat} (l : K.lookup a = some ⟨.type "tuple", d, .seq #[] n, sl⟩) : ∃ (o : Obj) (n : Nat), K.lookup a = some o ∧ o.cls = .type "tuple" ∧ o.data = .seq #[] n := ⟨_, n, l, rfl, rfl⟩
end
section
variable {P : Program} {w : World} {K : PySem.W.Frag} {mg : Str → Option Value} {base : Heap} {CX : CXT} {x : Str} {st : Stmt} {ps : List Str} {k : Nat} {sp : Sp}
theorem cal_of (D : D1 K mg x st) (hb : ∀ (kV doc pm : Value) (an : Option Addr) (cdv ct : Value) (us : List Value), us.length = ps.length → bindArgs (PySem.W.fnOf x x (defArgs st) (defBody st) (defScope st) .none kV doc pm an cdv ct) ⟨us, []⟩ = pure (ps.zip us))
    (ok : ∀ f fd, Fun K x x st f fd → FnOk P w K mg base CX k f fd ps sp) : Cal P w K mg base CX x k ps sp := by
  obtain ⟨f, fd, hm, F⟩ := D.ex
  exact ⟨f, fd, hm, F.kp, F.binds hb, ok f fd F⟩
end
/-- a class is what its instances are -/
structure BkI (K : PySem.W.Frag) (CB : Addr) : Prop where
  ha : PySem.W.findIn K (.ref CB) "__class__" = some (some (.builtin "object.__class__"))
  hn : PySem.W.specialIn K (.builtin "object.__class__") "__get__" = some (some (.builtin "getset_descriptor.__get__"))
  ht : PySem.W.takesIn K (.builtin "object.__class__") = some true
  hm : PySem.W.mroIn K CB (.type "object") = some true
theorem ne_mk {K : PySem.W.Frag} {C f N : Addr} {nm q : Str} {bs : List Value} {hd ab : Bool} {sn : List Str} {sub : List Value} {col : Option Bool} {dd : Option Addr} {k0 k1 k2 k3 k5 : Option Value} {nid : String} {fo : Obj} (h1 : K.lookup C = some (excClassObj nm q C N bs [.type "object"] hd sn sub ab col dd k0 k1 k2 k3 k5 nid)) {oN : Value} {dN : Option Addr} {es : Array DictEntry} {nn : Nat} {slN : Array (Option Value)} (h2 : K.lookup N = some ⟨oN, dN, .dict es nn, slN⟩) (h7 : (es.toList.all fun e => match e.key with | .str _ _ => true | _ => false) = true) (h3 : PySem.W.nsIn K N "__eq__" = some (some (.ref f))) (h4 : PySem.W.nsIn K N "__ne__" = some none) (h5 : K.lookup f = some fo) (h6 : fo.cls = .type "function") : NeC K C f :=
  ⟨⟨nm, q, N, bs, hd, sn, sub, ab, col, dd, k0, k1, k2, k3, k5, nid, fo, h1, by unfold PySem.W.nsOkIn; rw [h2]; exact (Array.all_toList ..).symm.trans h7, h3, h4, h5, h6⟩⟩
theorem kit_ref {K : PySem.W.Frag} {C : Addr} {T : String} {b : Bool} (hm : PySem.W.kitMeta T = true) (h : PySem.W.subIn K (.ref C) (.type T) = some b) : PySem.W.kitOne K (.ref C) (.type T) = some b := by
  have e : (Value.ref C == Value.type T) = false := rfl
  unfold PySem.W.kitOne PySem.W.kitCls
  rw [e, if_neg Bool.false_ne_true]
  show (if PySem.W.kitMeta T = true then _ else _) = _
  rw [if_pos hm]
  exact h
theorem exm_me {K : PySem.W.Frag} {C : Addr} (h1 : PySem.W.subIn K (.ref C) (.type "BaseException") = some true) (h2 : PySem.W.isClsIn K C = true) (h3 : PySem.W.typeIn K (.ref C) = some (.type "type")) (h4 : PySem.W.subIn K (.ref C) (.ref C) = some true) : PySem.W.exmOne K (.ref C) (.ref C) = some true := by
  have h2' : (PySem.W.clsIn K C).isSome = true := h2
  simp [PySem.W.exmOne, PySem.W.kitCls, h1, h2', h3, h4]
theorem exm_no {K : PySem.W.Frag} {C D : Addr} (h1 : PySem.W.subIn K (.ref D) (.type "BaseException") = some true) (h2 : PySem.W.isClsIn K D = true) (h3 : PySem.W.typeIn K (.ref D) = some (.type "type")) (h4 : PySem.W.subIn K (.ref C) (.ref D) = some false) : PySem.W.exmOne K (.ref C) (.ref D) = some false := by
  have h2' : (PySem.W.clsIn K D).isSome = true := h2
  simp [PySem.W.exmOne, PySem.W.kitCls, h1, h2', h3, h4]
open PySem.W PySem.Calls PySem.HandSPX in
/-- the facts of an own error's class -/
theorem txt_mk {P : Program} {K : PySem.W.Frag} {h : Heap} {mg : Str → Option Value} {par fl : Str} {C fI N cda cc : Addr} {nm q qual tx file : Str} {bs bm sub : List Value} {sn : List Str} {ab : Bool} {col : Option Bool} {dd : Option Addr} {m0 m1 m2 m3 m5 : Option Value}
    {oc doc pm ct ccl cl : Value} {od an cdd cld : Option Addr} {osl ccs csl : Array (Option Value)} {vs : Array Value} {pa : Arguments} {p0 p1 p2 p3 p4 p5 p6 p7 p8 p9 : Pos} {j : Nat} {a0 : Arg} {tf : Nat} (X : K.In h) (G : h.Ns mainGlobals mg)
    (cls : K.lookup C = some (excClassObj nm q C N bs bm true sn sub ab col dd m0 m1 m2 m3 m5 "ValueError.__new__")) (ref : PySem.HandSPX.refsVE bm = true)
    (sa : PySem.W.findIn K (.ref C) "__setattr__" = some (some (.builtin "object.__setattr__"))) (ga : PySem.W.findIn K (.ref C) "__getattribute__" = some (some (.builtin "BaseException.__getattribute__"))) (gg : PySem.W.findIn K (.ref C) "__getattr__" = some none) (noN : PySem.W.findIn K (.ref C) fl = some none)
    (iC : PySem.W.findIn K (.ref C) "__init__" = some (some (.ref fI))) (tC : PySem.W.typeIn K (.ref fI) = some (.type "function")) (kC : PySem.W.keepIn K (.ref C) = true) (exC : PySem.W.subIn K (.ref C) (.type "BaseException") = some true) (veC : PySem.W.subIn K (.ref C) (.type "ValueError") = some true)
    (slf : PySem.W.mroIn K C (.ref C) = some true) (tyC : PySem.W.typeIn K (.ref C) = some (.type "type")) (hdC : PySem.W.hasDictIn K C = true) (isC : PySem.W.isClsIn K C = true) (sC : PySem.W.subIn K (.ref C) (.ref C) = some true)
    (along : PySem.W.ks_superIn K C C "__init__" = some (some (.builtin "ValueError.__init__"))) (opq : PySem.W.nsIn K cStatics "thirdparty.any" = some none) (sup : PySem.W.nsIn K mainGlobals "super" = some none) (top : (P.main.scope.names.lookup ("super" : Str)).isSome = false)
    (lf : K.lookup fI = some ⟨oc, od, .func (PySem.W.ksFn "__init__" qual pa (PySem.BadX.shape tx par fl p0 p1 p2 p3 p4 p5 p6 p7 p8 p9 j) (PySem.BadX.sco par) .none .none doc pm an (.ref cda) ct cc), osl⟩) (cd : PySem.W.codeIn K (.ref cda) qual = true) (ha0 : (pa.posonlyargs ++ pa.args).head? = some a0) (ha1 : a0.arg = "self")
    (bd : ∀ (s : Shared) (u v : Value), BindsTo s (PySem.W.ksFn "__init__" qual pa (PySem.BadX.shape tx par fl p0 p1 p2 p3 p4 p5 p6 p7 p8 p9 j) (PySem.BadX.sco par) .none .none doc pm an (.ref cda) ct cc) ⟨[u, v], []⟩ [("self", u), (par, v)])
    (lc : K.lookup cda = some ⟨ccl, cdd, .fields vs, ccs⟩) (hvs : vs[2]? = some (.str file tf)) (hfile : ((P.main.file : Str) == file) = true) (hpe : (p2.endLine == p4.line) = true) (lcc : K.lookup cc = some ⟨cl, cld, .cell (some (.ref C)), csl⟩) : PySem.BadX.Txt P K mg par fl C fI :=
  { cls := ⟨nm, q, N, bs, bm, sn, sub, ab, col, dd, m0, m1, m2, m3, m5, cls, ref⟩, sa := sa, ga := ga, gg := gg, noN := noN, iC := iC, tC := tC, kC := kC, exC := exC, veC := veC, slf := slf, tyC := tyC, hdC := hdC, te := exm_me exC isC tyC sC, along := along, opq := opq, sup := PySem.W.mg_none_of X G sup, top := top,
    fn := ⟨oc, od, qual, tx, doc, pm, an, cda, cc, ct, osl, pa, p0, p1, p2, p3, p4, p5, p6, p7, p8, p9, j, a0, lf, cd, ha0, ha1, bd, ⟨ccl, cdd, vs, ccs, file, tf, lc, hvs, hfile⟩, hpe, ⟨cl, cld, csl, lcc⟩⟩ }
theorem ex_int {K : PySem.W.Frag} {h : Heap} {mg : Str → Option Value} {x : Str} {n : Int} {t : Tok} (X : K.In h) (G : h.Ns mainGlobals mg) (a : PySem.W.nsIn K mainGlobals x = some (some (.int n t))) : ∃ t, mg x = some (.int n t) := ⟨_, PySem.W.mg_of X G a⟩
theorem ex_str {K : PySem.W.Frag} {h : Heap} {mg : Str → Option Value} {x z : Str} {t : Tok} (X : K.In h) (G : h.Ns mainGlobals mg) (a : PySem.W.nsIn K mainGlobals x = some (some (.str z t))) : ∃ t, mg x = some (.str z t) := ⟨_, PySem.W.mg_of X G a⟩
end Ash

set_option Elab.async false
set_option linter.all false
set_option maxRecDepth 100000
set_option maxHeartbeats 400000
namespace Ash
open PySem PySem.Spec PyProof.Rows L2
theorem kit_yes {K : PySem.W.Frag} {a b : Addr} (h2 : PySem.W.isClsIn K b = true) (h3 : PySem.W.typeIn K (.ref b) = some (.type "type")) (h4 : PySem.W.subIn K (.ref a) (.ref b) = some true) : PySem.W.kitOne K (.ref a) (.ref b) = some true := by
  have h2' : (PySem.W.clsIn K b).isSome = true := h2
  unfold PySem.W.kitOne
  split
  · rfl
  · simp [PySem.W.kitCls, h2', h3, h4]
theorem kit_noT {K : PySem.W.Frag} {T : String} {b : Addr} (h2 : PySem.W.isClsIn K b = true) (h3 : PySem.W.typeIn K (.ref b) = some (.type "type")) (h4 : PySem.W.subIn K (.type T) (.ref b) = some false) : PySem.W.kitOne K (.type T) (.ref b) = some false := by
  have h2' : (PySem.W.clsIn K b).isSome = true := h2
  simp [PySem.W.kitOne, PySem.W.kitCls, h2', h3, h4]
theorem kit_noR {K : PySem.W.Frag} {a b : Addr} (h1 : PySem.W.subIn K (.ref a) (.ref a) = some true) (h2 : PySem.W.isClsIn K b = true) (h3 : PySem.W.typeIn K (.ref b) = some (.type "type")) (h4 : PySem.W.subIn K (.ref a) (.ref b) = some false) : PySem.W.kitOne K (.ref a) (.ref b) = some false := by
  have n : a ≠ b := fun e => by rw [← e, h1] at h4; cases h4
  have h2' : (PySem.W.clsIn K b).isSome = true := h2
  simp [PySem.W.kitOne, PySem.W.kitCls, n, h2', h3, h4]
theorem nf_mk {K : PySem.W.Frag} {T : String} {b : Addr} (h : PySem.W.subIn K (.type T) (.ref b) = some false) : PySem.W.notFirst K b (.type T) = true := by
  unfold PySem.W.notFirst
  simp [h]
theorem nef_mk {K : PySem.W.Frag} {C f : Addr} (h1 : PySem.W.findIn K (.ref C) "__ne__" = some (some (.builtin "object.__ne__"))) (h2 : PySem.W.findIn K (.ref C) "__eq__" = some (some (.ref f))) (h3 : PySem.W.isFn K (.ref f) = true) (h4 : PySem.W.subIn K (.ref C) (.type "object") = some true) : NeF K (fun D => D = C) f := ⟨fun _ e => by rw [e]; exact h1, fun _ e => by rw [e]; exact h2, h3, fun _ e => by rw [e]; exact h4⟩
theorem fn_false {P : Program} {w : World} {K : PySem.W.Frag} {mg : Str → Option Value} {base : Heap} {CX : CXT} {k : Nat} {f : Addr} {fd : FuncData} {ps : List Str} : FnOk P w K mg base CX k f fd ps (fun _ _ _ _ => False) :=
  ⟨fun _ _ _ _ h => h.elim, fun _ _ _ _ _ _ _ _ _ _ _ _ _ hs => hs.elim⟩
end Ash

set_option Elab.async false
set_option linter.all false
set_option maxRecDepth 100000
set_option maxHeartbeats 4000000
namespace Ash
open PySem PySem.Spec PyProof.Rows L2
section
variable {P : Program} {w : World} {K : PySem.W.Frag} {mg : Str → Option Value} {base : Heap}
theorem all_ok {CB CJ CE CM CBB CH fE fM fBB aT aE fBeq fJeq : Addr}
    (B : Blt mg)
    (Cs : Cst mg)
    (TB : Cb K mg CB)
    (T : Cj P K mg CJ CB)
    (Tt : Tb K mg aT)
    (cE : mg "BadEntry" = some (.ref CE))
    (TE : PySem.BadX.Txt P K mg "at" "at" CE fE)
    (bi : BkI K CB)
    (ji : BkI K CJ)
    (mkB : PySem.W.makesIn K CB = true)
    (kB : PySem.W.keepIn K (.ref CB) = true)
    (nV : mg "ValueError" = none)
    (cM : mg "BadMoment" = some (.ref CM))
    (TM : PySem.BadX.Txt P K mg "value" "value" CM fM)
    (cBB : mg "BadBook" = some (.ref CBB))
    (TBB : PySem.BadX.Txt P K mg "value" "value" CBB fBB)
    (cH : mg "HallError" = some (.ref CH))
    (XE : ExcC K CE)
    (hcE : PySem.W.isClsIn K CE = true)
    (kE : PySem.W.kitOne K (.ref CE) (.ref CH) = some true)
    (kV : PySem.W.kitOne K (.ref CE) (.type "ValueError") = some true)
    (kM : PySem.W.kitOne K (.ref CE) (.ref CM) = some false)
    (nBE : PySem.W.exmOne K (.ref CBB) (.ref CE) = some false)
    (bkC : BkC K CB)
    (nfs : PySem.W.notFirst K CB (.type "str") = true)
    (kr0 : PySem.W.kitOne K (.ref CB) (.type "int") = some false)
    (kr1 : PySem.W.kitOne K (.ref CB) (.type "bool") = some false)
    (kr2 : PySem.W.kitOne K (.ref CB) (.type "str") = some false)
    (kr3 : PySem.W.kitOne K (.ref CB) (.type "tuple") = some false)
    (kr4 : PySem.W.kitOne K (.ref CB) (.type "list") = some false)
    (kt0 : PySem.W.kitOne K (.type "NoneType") (.ref CB) = some false)
    (kt1 : PySem.W.kitOne K (.type "bool") (.ref CB) = some false)
    (kt2 : PySem.W.kitOne K (.type "int") (.ref CB) = some false)
    (kt3 : PySem.W.kitOne K (.type "str") (.ref CB) = some false)
    (kt4 : PySem.W.kitOne K (.type "tuple") (.ref CB) = some false)
    (kt5 : PySem.W.kitOne K (.type "list") (.ref CB) = some false)
    (kt6 : PySem.W.kitOne K (.type "dict") (.ref CB) = some false)
    (bne1 : PySem.W.findIn K (.ref CB) "__ne__" = some (some (.builtin "object.__ne__")))
    (bob : PySem.W.subIn K (.ref CB) (.type "object") = some true)
    (d_is_integer : D1 K mg "is_integer" s_is_integer)
    (d_is_natural : D1 K mg "is_natural" s_is_natural)
    (d_is_name : D1 K mg "is_name" s_is_name)
    (d_are_integers : D1 K mg "are_integers" s_are_integers)
    (d_is_late : D1 K mg "is_late" s_is_late)
    (d_is_lates : D1 K mg "is_lates" s_is_lates)
    (d_is_entry : D1 K mg "is_entry" s_is_entry)
    (d_arrival_of : D1 K mg "arrival_of" s_arrival_of)
    (d_placed : D1 K mg "placed" s_placed)
    (d_row_behind : D1 K mg "row_behind" s_row_behind)
    (d_walked : D1 K mg "walked" s_walked)
    (d_is_row : D1 K mg "is_row" s_is_row)
    (d__law_pool : D1 K mg "_law_pool" s_l_pool)
    (d__law_draw : D1 K mg "_law_draw" s_l_draw)
    (d__law_names : D1 K mg "_law_names" s_l_names)
    (d__law_lates : D1 K mg "_law_lates" s_l_lates)
    (d__law_amount : D1 K mg "_law_amount" s_l_amount)
    (d__law_begin : D1 K mg "_law_begin" s_l_begin)
    (d__law_entry : D1 K mg "_law_entry" s_l_entry)
    (d__law_put : D1 K mg "_law_put" s_l_put)
    (d__law_entries : D1 K mg "_law_entries" s_l_entries)
    (d__law_is_int : D1 K mg "_law_is_int" s_l_is_int)
    (d__law_is_name : D1 K mg "_law_is_name" s_l_is_name)
    (d__law_is_kind : D1 K mg "_law_is_kind" s_l_is_kind)
    (d__law_is_good : D1 K mg "_law_is_good" s_l_is_good)
    (d__law_first_bad : D1 K mg "_law_first_bad" s_l_first_bad)
    (d__law_odd : D1 K mg "_law_odd" s_l_odd)
    (d__law_turned : D1 K mg "_law_turned" s_l_turned)
    (d__law_spoilt : D1 K mg "_law_spoilt" s_l_spoilt)
    (d__law_made : D1 K mg "_law_made" s_l_made)
    (d__law_full : D1 K mg "_law_full" s_l_full)
    (m_Init : DM K CB "__init__" "Book.__init__" s_Book_init)
    (m_Has : DM K CB "has" "Book.has" s_Book_has)
    (m_Late : DM K CB "late" "Book.late" s_Book_late)
    (m_J : DD K CJ aE "Journal.__init__" s_Journal_init)
    (m_Then : DM K CJ "then" "Journal.then" s_Journal_then)
    (m_Heard : DM K CJ "heard" "Journal.heard" s_Journal_heard)
    (m_Rows : DM K CJ "rows" "Journal.rows" s_Journal_rows)
    (m_Len : DM K CJ "__len__" "Journal.__len__" s_Journal_len)
    (m_Beq : DQ K CB fBeq "__eq__" "Book.__eq__" s_Book_eq)
    (m_Jeq : DQ K CJ fJeq "__eq__" "Journal.__eq__" s_Journal_eq)
    (sqE : ∀ H, SqT K H aE [])
    {f : Addr} {fd : FuncData} (F_law : Fun K "law" "law" s_law f fd) : FnOk P w K mg base CX0 13 f fd ["_law_script"] (spLaw K) := by
  have bk : ∀ H b dx fs, H b = some (.ins CB dx fs) → TyX K H (.ref b) (.ref CB) := fun H b dx fs h => .base (.ins h TB.cl bi.ha bi.hn bi.ht bi.hm)
  have jk : ∀ H b dx fs, H b = some (.ins CJ dx fs) → TyX K H (.ref b) (.ref CJ) := fun H b dx fs h => .base (.ins h T.cl ji.ha ji.hn ji.ht ji.hm)
  have BT : BkT K CB := ⟨bkC, bk, kr0, kr1, kr2, kr3, kr4⟩
  have NB : NoB K CB := ⟨kt0, kt1, kt2, kt3, kt4, kt5, kt6⟩
  have c_is_integer := cal_of (P := P) (w := w) (base := base) (ps := ["thing"]) d_is_integer (fun _ _ _ _ _ _ us hl => match us, hl with | [_], _ => rfl) fun f fd F => ok_is_integer F B
  have k1 : K1 P w K mg base := ⟨c_is_integer⟩
  have c_is_natural := cal_of (P := P) (w := w) (base := base) (ps := ["thing"]) d_is_natural (fun _ _ _ _ _ _ us hl => match us, hl with | [_], _ => rfl) fun f fd F => ok_is_natural F B k1
  have c_is_name := cal_of (P := P) (w := w) (base := base) (ps := ["thing"]) d_is_name (fun _ _ _ _ _ _ us hl => match us, hl with | [_], _ => rfl) fun f fd F => ok_is_name F B Cs
  have k2 : K2 P w K mg base := ⟨k1, c_is_natural, c_is_name⟩
  have c_are_integers := cal_of (P := P) (w := w) (base := base) (ps := ["things"]) d_are_integers (fun _ _ _ _ _ _ us hl => match us, hl with | [_], _ => rfl) fun f fd F => ok_are_integers F B k2
  have c_is_late := cal_of (P := P) (w := w) (base := base) (ps := ["thing"]) d_is_late (fun _ _ _ _ _ _ us hl => match us, hl with | [_], _ => rfl) fun f fd F => ok_is_late F B Cs k2
  have k3 : K3 P w K mg base := ⟨k2, c_are_integers, c_is_late⟩
  have c_is_lates := cal_of (P := P) (w := w) (base := base) (ps := ["thing"]) d_is_lates (fun _ _ _ _ _ _ us hl => match us, hl with | [_], _ => rfl) fun f fd F => ok_is_lates F B Cs k3
  have k4 : K4 P w K mg base := ⟨k3, c_is_lates⟩
  have c_isintA := cal_of (P := P) (w := w) (base := base) (ps := ["thing"]) d_is_integer (fun _ _ _ _ _ _ us hl => match us, hl with | [_], _ => rfl) fun f fd F => ok_isint F B
  have gi : GI P w K mg base := ⟨c_isintA⟩
  have c_isnatA := cal_of (P := P) (w := w) (base := base) (ps := ["thing"]) d_is_natural (fun _ _ _ _ _ _ us hl => match us, hl with | [_], _ => rfl) fun f fd F => ok_isnat F B gi
  have c_isnmA := cal_of (P := P) (w := w) (base := base) (ps := ["thing"]) d_is_name (fun _ _ _ _ _ _ us hl => match us, hl with | [_], _ => rfl) fun f fd F => ok_isname F B Cs.k_LETTERS Cs.k_LONGEST_NAME
  have c_areA := cal_of (P := P) (w := w) (base := base) (ps := ["things"]) d_are_integers (fun _ _ _ _ _ _ us hl => match us, hl with | [_], _ => rfl) fun f fd F => ok_areA F B gi
  have ge : GE P w K mg base := ⟨c_isnatA, c_isnmA, c_areA⟩
  obtain ⟨fInit, fdInit, mInit, FInit⟩ := m_Init.ex
  have bInit : Binds K fdInit ["self", "lates"] [] := FInit.binds (ps := ["self", "lates"]) fun _ _ _ _ _ _ us hl => match us, hl with | [_, _], _ => rfl
  have oInit := ok_book_init (P := P) (w := w) (base := base) FInit B TB k4
  obtain ⟨fHas, fdHas, mHas, FHas⟩ := m_Has.ex
  have bHas : Binds K fdHas ["self", "stream"] [] := FHas.binds (ps := ["self", "stream"]) fun _ _ _ _ _ _ us hl => match us, hl with | [_, _], _ => rfl
  have oHas := ok_book_has (P := P) (w := w) (base := base) FHas B TB k4
  obtain ⟨fLate, fdLate, mLate, FLate⟩ := m_Late.ex
  have bLate : Binds K fdLate ["self", "stream"] [] := FLate.binds (ps := ["self", "stream"]) fun _ _ _ _ _ _ us hl => match us, hl with | [_, _], _ => rfl
  have oLate := ok_book_late (P := P) (w := w) (base := base) FLate B TB mHas bHas oHas
  obtain ⟨fdBeq, mBeq, FBeq⟩ := m_Beq.ex
  have bBeq : Binds K fdBeq ["self", "other"] [] := FBeq.binds (ps := ["self", "other"]) fun _ _ _ _ _ _ us hl => match us, hl with | [_, _], _ => rfl
  have oBeq := ok_book_eq (P := P) (w := w) (base := base) FBeq B TB bk
  have oBeqN := ok_book_eqN (P := P) (w := w) (base := base) FBeq B TB kt3
  have ZB : NeF K (fun C => C = CB) fBeq := nef_mk bne1 mBeq.at_ mBeq.fn bob
  have c_is_entry := cal_of (P := P) (w := w) (base := base) (ps := ["thing"]) d_is_entry (fun _ _ _ _ _ _ us hl => match us, hl with | [_], _ => rfl) fun f fd F => ok_isentry F B BT.me nfs ZB bBeq oBeqN ge
  have c_arrival_of := cal_of (P := P) (w := w) (base := base) (ps := ["entry"]) d_arrival_of (fun _ _ _ _ _ _ us hl => match us, hl with | [_], _ => rfl) fun f fd F => ok_arrival_of F B
  have c_placed := cal_of (P := P) (w := w) (base := base) (ps := ["book", "row", "arrival"]) d_placed (fun _ _ _ _ _ _ us hl => match us, hl with | [_, _, _], _ => rfl) fun f fd F => ok_placed F B TB mLate bLate oLate
  have k5 : K5 P w K mg base CB := ⟨k4, c_is_entry, c_arrival_of, c_placed⟩
  have c_row_behind := cal_of (P := P) (w := w) (base := base) (ps := ["book", "entry", "old"]) d_row_behind (fun _ _ _ _ _ _ us hl => match us, hl with | [_, _, _], _ => rfl) fun f fd F => ok_row_behind F B TB Tt k5 mHas bHas oHas mLate bLate oLate
  have k6 : K6 P w K mg base CB aT := ⟨k5, c_row_behind⟩
  have c_walked := cal_of (P := P) (w := w) (base := base) (ps := ["book", "things"]) d_walked (fun _ _ _ _ _ _ us hl => match us, hl with | [_, _], _ => rfl) fun f fd F => ok_walked F B k6
  have c_is_row := cal_of (P := P) (w := w) (base := base) (ps := ["thing"]) d_is_row (fun _ _ _ _ _ _ us hl => match us, hl with | [_], _ => rfl) fun f fd F => ok_is_row F B
  have k7 : K7 P w K mg base CB aT := ⟨k6, c_walked, c_is_row⟩
  have c_isrow2 := cal_of (P := P) (w := w) (base := base) (ps := ["thing"]) d_is_row (fun _ _ _ _ _ _ us hl => match us, hl with | [_], _ => rfl) fun f fd F => fnOr (ok_is_row F B) (ok_is_rowN F B)
  have c_walk0 := cal_of (P := P) (w := w) (base := base) (ps := ["book", "things"]) d_walked (fun _ _ _ _ _ _ us hl => match us, hl with | [_, _], _ => rfl) fun f fd F => (fn_false (P := P) (w := w) (k := 6) (CX := CX0))
  have gr : GR P w K mg base := ⟨c_isrow2, c_walk0⟩
  obtain ⟨fJ, fdJ, mJ, FJ⟩ := m_J.ex
  have oJ := ok_j_init (P := P) (w := w) (base := base) FJ B Cs T TB TE cE bk k7
  have oJN := ok_j_initN (P := P) (w := w) (base := base) FJ B Cs T TB TE cE bk k7
  have oJR := ok_j_ref (P := P) (w := w) (base := base) FJ B Cs T TB TE TBB cE cBB bk gr
  obtain ⟨ds3, v3, bJ3⟩ := FJ.binds1 (ps := ["self", "book", "entries"]) 3 1 (by simp) rfl fun T kV doc pm an cdv ct us its h1 h2 => match us, its, h1, h2 with | [_, _, _], [_], _, _ => ⟨_, rfl, rfl⟩
  cases v3
  have k8 : K8 P w K mg base CB aT CJ CE := ⟨k7, ⟨fJ, fdJ, mJ, T.c, bJ3, oJ⟩⟩
  have k8n : K8N P w K mg base CB aT CJ CE := ⟨k7, ⟨fJ, fdJ, mJ, T.c, bJ3, oJN⟩⟩
  obtain ⟨ds2, v2, bJ2⟩ := FJ.binds1 (ps := ["self", "book", "entries"]) 2 0 (by simp) rfl fun T kV doc pm an cdv ct us its h1 h2 => match us, its, h1, h2 with | [_, _], [_], _, _ => ⟨_, rfl, rfl⟩
  have jd : MakD P w K mg base (L2.CX P w) "Journal" CJ 7 ["self", "book", "entries"] (.ref aE) (spJInit K aT CJ CB CE) := by
    cases v2 with
    | cons r v2 =>
      cases v2
      exact ⟨fJ, fdJ, _, mJ, T.c, bJ2, r, oJ⟩
  obtain ⟨fHeard, fdHeard, mHeard, FHeard⟩ := m_Heard.ex
  have bHeard : Binds K fdHeard ["self", "h"] [] := FHeard.binds (ps := ["self", "h"]) fun _ _ _ _ _ _ us hl => match us, hl with | [_, _], _ => rfl
  have oHeard := ok_heard (P := P) (w := w) (base := base) FHeard B T TM cM k8
  obtain ⟨fThen, fdThen, mThen, FThen⟩ := m_Then.ex
  have bThen : Binds K fdThen ["self", "entry"] [] := FThen.binds (ps := ["self", "entry"]) fun _ _ _ _ _ _ us hl => match us, hl with | [_, _], _ => rfl
  have oThen := ok_thenN (P := P) (w := w) (base := base) FThen B Cs T TE cE k8n
  obtain ⟨fRows, fdRows, mRows, FRows⟩ := m_Rows.ex
  have bRows : Binds K fdRows ["self", "stream", "key"] [] := FRows.binds (ps := ["self", "stream", "key"]) fun _ _ _ _ _ _ us hl => match us, hl with | [_, _, _], _ => rfl
  have oRows := ok_rows (P := P) (w := w) (base := base) FRows B T TB Tt k2 mHas bHas oHas
  obtain ⟨fLen, fdLen, mLen, FLen⟩ := m_Len.ex
  have bLen : Binds K fdLen ["self"] [] := FLen.binds (ps := ["self"]) fun _ _ _ _ _ _ us hl => match us, hl with | [_], _ => rfl
  have oLen := ok_jlen (P := P) (w := w) (base := base) (aT := aT) FLen B T
  obtain ⟨fdJeq, mJeq, FJeq⟩ := m_Jeq.ex
  have bJeq : Binds K fdJeq ["self", "other"] [] := FJeq.binds (ps := ["self", "other"]) fun _ _ _ _ _ _ us hl => match us, hl with | [_, _], _ => rfl
  have oJeq := ok_j_eqc (P := P) (w := w) (base := base) (aT := aT) FJeq B T jk mBeq.at_ mBeq.fn bBeq oBeq
  have c__law_pool := cal_of (P := P) (w := w) (base := base) (ps := ["_law_script"]) d__law_pool (fun _ _ _ _ _ _ us hl => match us, hl with | [_], _ => rfl) fun f fd F => ok_pool F B
  have c__law_draw := cal_of (P := P) (w := w) (base := base) (ps := ["_law_pool_here", "_law_many"]) d__law_draw (fun _ _ _ _ _ _ us hl => match us, hl with | [_, _], _ => rfl) fun f fd F => ok_draw F B
  have g1 : G1 P w K mg base := ⟨c__law_draw⟩
  have c__law_names := cal_of (P := P) (w := w) (base := base) (ps := ["_law_pool_here", "_law_many"]) d__law_names (fun _ _ _ _ _ _ us hl => match us, hl with | [_, _], _ => rfl) fun f fd F => ok_names F B g1
  have g2 : G2 P w K mg base := ⟨g1, c__law_names⟩
  have c__law_lates := cal_of (P := P) (w := w) (base := base) (ps := ["_law_pool_here"]) d__law_lates (fun _ _ _ _ _ _ us hl => match us, hl with | [_], _ => rfl) fun f fd F => ok_lates F B g2
  have c__law_amount := cal_of (P := P) (w := w) (base := base) (ps := ["_law_pool_here"]) d__law_amount (fun _ _ _ _ _ _ us hl => match us, hl with | [_], _ => rfl) fun f fd F => ok_amount F B g2
  have c__law_begin := cal_of (P := P) (w := w) (base := base) (ps := ["_law_pool_here"]) d__law_begin (fun _ _ _ _ _ _ us hl => match us, hl with | [_], _ => rfl) fun f fd F => ok_begin F B g2
  have g3 : G3 P w K mg base := ⟨g2, c__law_lates, c__law_amount, c__law_begin⟩
  have c__law_entry := cal_of (P := P) (w := w) (base := base) (ps := ["_law_pool_here", "_law_lates_here", "_law_keys", "_law_states", "_law_number", "_law_arrival"]) d__law_entry (fun _ _ _ _ _ _ us hl => match us, hl with | [_, _, _, _, _, _], _ => rfl) fun f fd F => ok_entry F B g3
  have c__law_put := cal_of (P := P) (w := w) (base := base) (ps := ["_law_states", "_law_entry_here"]) d__law_put (fun _ _ _ _ _ _ us hl => match us, hl with | [_, _], _ => rfl) fun f fd F => ok_put F B
  have g4 : G4 P w K mg base := ⟨g3, c__law_entry, c__law_put⟩
  have c__law_entries := cal_of (P := P) (w := w) (base := base) (ps := ["_law_pool_here", "_law_lates_here", "_law_keys", "_law_states", "_law_number", "_law_arrival", "_law_many"]) d__law_entries (fun _ _ _ _ _ _ us hl => match us, hl with | [_, _, _, _, _, _, _], _ => rfl) fun f fd F => ok_entries F B g4
  have c__law_is_int := cal_of (P := P) (w := w) (base := base) (ps := ["_law_value"]) d__law_is_int (fun _ _ _ _ _ _ us hl => match us, hl with | [_], _ => rfl) fun f fd F => ok_lisint F B
  have c__law_is_name := cal_of (P := P) (w := w) (base := base) (ps := ["_law_value"]) d__law_is_name (fun _ _ _ _ _ _ us hl => match us, hl with | [_], _ => rfl) fun f fd F => ok_lisname F B
  have gk : GK P w K mg base := ⟨c__law_is_int, c__law_is_name⟩
  have c__law_is_kind := cal_of (P := P) (w := w) (base := base) (ps := ["_law_lates_here", "_law_entry_here"]) d__law_is_kind (fun _ _ _ _ _ _ us hl => match us, hl with | [_, _], _ => rfl) fun f fd F => ok_kind F B BT.me nfs ZB bBeq oBeqN gk
  have gg : GG1 P w K mg base := ⟨c__law_is_kind⟩
  have c__law_is_good := cal_of (P := P) (w := w) (base := base) (ps := ["_law_lates_here", "_law_states", "_law_last", "_law_entry_here"]) d__law_is_good (fun _ _ _ _ _ _ us hl => match us, hl with | [_, _, _, _], _ => rfl) fun f fd F => ok_good F B gg
  have gb : GB1 P w K mg base := ⟨c__law_put, c__law_is_good⟩
  have c__law_first_bad := cal_of (P := P) (w := w) (base := base) (ps := ["_law_lates_here", "_law_entries_here"]) d__law_first_bad (fun _ _ _ _ _ _ us hl => match us, hl with | [_, _], _ => rfl) fun f fd F => ok_bad F B gb
  have go : GO P w K mg base CB := ⟨g2, ⟨fInit, fdInit, ⟨mkB, mInit.at_, mInit.fn, kB⟩, TB.c, bInit, oInit⟩⟩
  have c__law_odd := cal_of (P := P) (w := w) (base := base) (ps := ["_law_pool_here"]) d__law_odd (fun _ _ _ _ _ _ us hl => match us, hl with | [_], _ => rfl) fun f fd F => ok_odd F B go
  have gt : GTu P w K mg base CB := ⟨g2, c__law_odd, c__law_is_int⟩
  have c__law_turned := cal_of (P := P) (w := w) (base := base) (ps := ["_law_pool_here", "_law_lates_here", "_law_entry_here"]) d__law_turned (fun _ _ _ _ _ _ us hl => match us, hl with | [_, _, _], _ => rfl) fun f fd F => ok_turned F B BT gt
  have gs : GSp P w K mg base CB := ⟨g2, c__law_odd, c__law_turned⟩
  have c__law_spoilt := cal_of (P := P) (w := w) (base := base) (ps := ["_law_pool_here", "_law_lates_here", "_law_entries_here"]) d__law_spoilt (fun _ _ _ _ _ _ us hl => match us, hl with | [_, _, _], _ => rfl) fun f fd F => ok_spoilt F B BT gs
  have gm : GM P w K mg base aT CJ CB CE CBB := ⟨⟨fJ, fdJ, mJ, T.c, bJ3, fnOr oJ oJR⟩⟩
  have c__law_made := cal_of (P := P) (w := w) (base := base) (ps := ["_law_book", "_law_entries_here"]) d__law_made (fun _ _ _ _ _ _ us hl => match us, hl with | [_, _], _ => rfl) fun f fd F => fn_due (ok_made F B TE TBB cE cBB cH cM XE hcE kE kV kM nBE oLen mLen.at_ mLen.fn bLen nV gm)
  have gf : GFu P w K mg base aT CJ CB CE CM := ⟨⟨fJ, fdJ, mJ, T.c, bJ3, oJ⟩, ⟨fThen, fdThen, mThen, bThen, oThen⟩, ⟨fHeard, fdHeard, mHeard, bHeard, oHeard⟩, ⟨fRows, fdRows, mRows, bRows, oRows⟩⟩
  have c__law_full := cal_of (P := P) (w := w) (base := base) (ps := ["_law_journal", "_law_more"]) d__law_full (fun _ _ _ _ _ _ us hl => match us, hl with | [_, _], _ => rfl) fun f fd F => ok_full F B T TE cE oLen mLen.at_ mLen.fn bLen oJeq mJeq.at_ mJeq.fn bJeq gf
  have gl : GLw P w K mg base aT CJ CB CE aE := { toG3 := g3, law_pool := c__law_pool, law_entries := c__law_entries, law_made := c__law_made, law_spoilt := c__law_spoilt, law_first_bad := c__law_first_bad, law_odd := c__law_odd, law_full := c__law_full, Book := ⟨fInit, fdInit, ⟨mkB, mInit.at_, mInit.fn, kB⟩, TB.c, bInit, oInit⟩, Journal := ⟨fJ, fdJ, mJ, T.c, bJ3, oJ⟩, JournalD := jd }
  exact ok_law F_law B T TB BT NB gl sqE
end
theorem all_mk {P : Program} {w : World} {K : PySem.W.Frag} {h : Heap} {mg : Str → Option Value} {fa CB CJ CE CM CBB CH fE fM fBB aT aE fBeq fJeq f4 : Addr} {oc4 kV4 dc4 pm4 cd4 ct4 : Value} {od4 an4 : Option Addr} {sl4 : Array (Option Value)} (X : K.In h) (G : h.Ns mainGlobals mg) (hfa : mg "law" = some (.ref fa))
    (a4 : PySem.W.nsIn K mainGlobals "law" = some (some (.ref f4))) (l4 : K.lookup f4 = some ⟨oc4, od4, .func (PySem.W.fnOf "law" "law" (defArgs s_law) (defBody s_law) (defScope s_law) .none kV4 dc4 pm4 an4 cd4 ct4), sl4⟩) (c4 : PySem.W.codeIn K cd4 "law" = true) (k4 : PySem.W.keepIn K (.ref f4) = true)
    (B : Blt mg)
    (Cs : Cst mg)
    (TB : Cb K mg CB)
    (T : Cj P K mg CJ CB)
    (Tt : Tb K mg aT)
    (cE : mg "BadEntry" = some (.ref CE))
    (TE : PySem.BadX.Txt P K mg "at" "at" CE fE)
    (bi : BkI K CB)
    (ji : BkI K CJ)
    (mkB : PySem.W.makesIn K CB = true)
    (kB : PySem.W.keepIn K (.ref CB) = true)
    (nV : mg "ValueError" = none)
    (cM : mg "BadMoment" = some (.ref CM))
    (TM : PySem.BadX.Txt P K mg "value" "value" CM fM)
    (cBB : mg "BadBook" = some (.ref CBB))
    (TBB : PySem.BadX.Txt P K mg "value" "value" CBB fBB)
    (cH : mg "HallError" = some (.ref CH))
    (XE : ExcC K CE)
    (hcE : PySem.W.isClsIn K CE = true)
    (kE : PySem.W.kitOne K (.ref CE) (.ref CH) = some true)
    (kV : PySem.W.kitOne K (.ref CE) (.type "ValueError") = some true)
    (kM : PySem.W.kitOne K (.ref CE) (.ref CM) = some false)
    (nBE : PySem.W.exmOne K (.ref CBB) (.ref CE) = some false)
    (bkC : BkC K CB)
    (nfs : PySem.W.notFirst K CB (.type "str") = true)
    (kr0 : PySem.W.kitOne K (.ref CB) (.type "int") = some false)
    (kr1 : PySem.W.kitOne K (.ref CB) (.type "bool") = some false)
    (kr2 : PySem.W.kitOne K (.ref CB) (.type "str") = some false)
    (kr3 : PySem.W.kitOne K (.ref CB) (.type "tuple") = some false)
    (kr4 : PySem.W.kitOne K (.ref CB) (.type "list") = some false)
    (kt0 : PySem.W.kitOne K (.type "NoneType") (.ref CB) = some false)
    (kt1 : PySem.W.kitOne K (.type "bool") (.ref CB) = some false)
    (kt2 : PySem.W.kitOne K (.type "int") (.ref CB) = some false)
    (kt3 : PySem.W.kitOne K (.type "str") (.ref CB) = some false)
    (kt4 : PySem.W.kitOne K (.type "tuple") (.ref CB) = some false)
    (kt5 : PySem.W.kitOne K (.type "list") (.ref CB) = some false)
    (kt6 : PySem.W.kitOne K (.type "dict") (.ref CB) = some false)
    (bne1 : PySem.W.findIn K (.ref CB) "__ne__" = some (some (.builtin "object.__ne__")))
    (bob : PySem.W.subIn K (.ref CB) (.type "object") = some true)
    (d_is_integer : D1 K mg "is_integer" s_is_integer)
    (d_is_natural : D1 K mg "is_natural" s_is_natural)
    (d_is_name : D1 K mg "is_name" s_is_name)
    (d_are_integers : D1 K mg "are_integers" s_are_integers)
    (d_is_late : D1 K mg "is_late" s_is_late)
    (d_is_lates : D1 K mg "is_lates" s_is_lates)
    (d_is_entry : D1 K mg "is_entry" s_is_entry)
    (d_arrival_of : D1 K mg "arrival_of" s_arrival_of)
    (d_placed : D1 K mg "placed" s_placed)
    (d_row_behind : D1 K mg "row_behind" s_row_behind)
    (d_walked : D1 K mg "walked" s_walked)
    (d_is_row : D1 K mg "is_row" s_is_row)
    (d__law_pool : D1 K mg "_law_pool" s_l_pool)
    (d__law_draw : D1 K mg "_law_draw" s_l_draw)
    (d__law_names : D1 K mg "_law_names" s_l_names)
    (d__law_lates : D1 K mg "_law_lates" s_l_lates)
    (d__law_amount : D1 K mg "_law_amount" s_l_amount)
    (d__law_begin : D1 K mg "_law_begin" s_l_begin)
    (d__law_entry : D1 K mg "_law_entry" s_l_entry)
    (d__law_put : D1 K mg "_law_put" s_l_put)
    (d__law_entries : D1 K mg "_law_entries" s_l_entries)
    (d__law_is_int : D1 K mg "_law_is_int" s_l_is_int)
    (d__law_is_name : D1 K mg "_law_is_name" s_l_is_name)
    (d__law_is_kind : D1 K mg "_law_is_kind" s_l_is_kind)
    (d__law_is_good : D1 K mg "_law_is_good" s_l_is_good)
    (d__law_first_bad : D1 K mg "_law_first_bad" s_l_first_bad)
    (d__law_odd : D1 K mg "_law_odd" s_l_odd)
    (d__law_turned : D1 K mg "_law_turned" s_l_turned)
    (d__law_spoilt : D1 K mg "_law_spoilt" s_l_spoilt)
    (d__law_made : D1 K mg "_law_made" s_l_made)
    (d__law_full : D1 K mg "_law_full" s_l_full)
    (m_Init : DM K CB "__init__" "Book.__init__" s_Book_init)
    (m_Has : DM K CB "has" "Book.has" s_Book_has)
    (m_Late : DM K CB "late" "Book.late" s_Book_late)
    (m_J : DD K CJ aE "Journal.__init__" s_Journal_init)
    (m_Then : DM K CJ "then" "Journal.then" s_Journal_then)
    (m_Heard : DM K CJ "heard" "Journal.heard" s_Journal_heard)
    (m_Rows : DM K CJ "rows" "Journal.rows" s_Journal_rows)
    (m_Len : DM K CJ "__len__" "Journal.__len__" s_Journal_len)
    (m_Beq : DQ K CB fBeq "__eq__" "Book.__eq__" s_Book_eq)
    (m_Jeq : DQ K CJ fJeq "__eq__" "Journal.__eq__" s_Journal_eq)
    (sqE : ∀ H, SqT K H aE [])
    : ∃ fd : FuncData, (∀ (s : Shared) (v : Value), BindsTo s fd ⟨[v], []⟩ [("_law_script", v)]) ∧ ∀ base : Heap, K.In base → base.Ns mainGlobals mg → FnOk P w K mg base CX0 13 fa fd ["_law_script"] (spLaw K) := by
  have e := hfa.symm.trans (PySem.W.mg_of X G a4)
  cases e
  exact ⟨PySem.W.fnOf "law" "law" (defArgs s_law) (defBody s_law) (defScope s_law) .none kV4 dc4 pm4 an4 cd4 ct4, fun s v => .of_eq rfl, fun base _ _ => all_ok B Cs TB T Tt cE TE bi ji mkB kB nV cM TM cBB TBB cH XE hcE kE kV kM nBE bkC nfs kr0 kr1 kr2 kr3 kr4 kt0 kt1 kt2 kt3 kt4 kt5 kt6 bne1 bob d_is_integer d_is_natural d_is_name d_are_integers d_is_late d_is_lates d_is_entry d_arrival_of d_placed d_row_behind d_walked d_is_row d__law_pool d__law_draw d__law_names d__law_lates d__law_amount d__law_begin d__law_entry d__law_put d__law_entries d__law_is_int d__law_is_name d__law_is_kind d__law_is_good d__law_first_bad d__law_odd d__law_turned d__law_spoilt d__law_made d__law_full m_Init m_Has m_Late m_J m_Then m_Heard m_Rows m_Len m_Beq m_Jeq sqE (fun_mk l4 c4 k4)⟩
theorem walk {l : PySem.W.OpenLaw} {q : Program} {loose : List Str} {XP : (Str → Option Value) → Heap → Prop} {YP : World → Heap → Prop} {d : DefRec} {K : Params → PySem.W.Frag} (hn : l.most = some 63) (hdf : d.params.defaults = [])
    (hY : ∀ (w : World) (h : Heap), YP w h → (K w.params).In h)
    (F : ∀ (w : World) (mg : Str → Option Value) (fa : Addr) (h : Heap), (K w.params).In h → h.Ns mainGlobals mg → mg d.name = some (.ref fa) →
      ∃ fd : FuncData, (∀ (s : Shared) (u : Value), BindsTo s fd ⟨[u], []⟩ [("_law_script", u)]) ∧ ∀ base : Heap, (K w.params).In base → base.Ns mainGlobals mg → FnOk l.prog w (K w.params) mg base CX0 13 fa fd ["_law_script"] (spLaw (K w.params))) :
    PySem.W.WalkO q loose XP YP l.row.toRowW d [] (fun f vs => PySem.call f vs) :=
  L2.walk_of (n := 63) (k := 13) (x := "_law_script") (CX := fun _ => CX0) (sp := fun w => spLaw (K w.params)) hn (by decide) hdf ⟨rfl, by decide, by decide⟩ hY F (fun _ _ a ns hl _ hS => ⟨a, ns, rfl, hS, hl, fun _ => rfl⟩) fun _ _ _ _ _ z => z
end Ash

set_option Elab.async false
open PySem PySem.W PyProof.Rows
/-! names that are taken: the head makes no twins of these parts of the heap -/
theorem PySem.W.Fast.tw8328920887487516261 : True := trivial
theorem PySem.W.Fast.tw9266193591532426072 : True := trivial
theorem PySem.W.Fast.tw4212270916349976066 : True := trivial
theorem PySem.W.Fast.tw4621081582021081358 : True := trivial
theorem PySem.W.Fast.tw640297953549953339 : True := trivial
theorem PySem.W.Fast.tw3765965609133785335 : True := trivial
theorem PySem.W.Fast.tw9633621969815233210 : True := trivial
theorem PySem.W.Fast.tw14939332028380041255 : True := trivial
theorem PySem.W.Fast.tw5896014783662813619 : True := trivial
theorem PySem.W.Fast.tw8485625800956795422 : True := trivial
theorem PySem.W.Fast.tw10998693190415055754 : True := trivial
theorem PySem.W.Fast.tw13877938484038723463 : True := trivial
theorem PySem.W.Fast.tw1533616976575341955 : True := trivial
theorem PySem.W.Fast.tw13552681555884612182 : True := trivial
theorem PySem.W.Fast.tw11535563273969795533 : True := trivial
theorem PySem.W.Fast.tw14622698501911860207 : True := trivial
theorem PySem.W.Fast.tw6951655272434199114 : True := trivial
theorem PySem.W.Fast.tw17288861955494762236 : True := trivial
theorem PySem.W.Fast.tw10781975386452129218 : True := trivial
theorem PySem.W.Fast.tw14546848612034216863 : True := trivial
theorem PySem.W.Fast.tw11135966474472801471 : True := trivial
theorem PySem.W.Fast.tw2633961395084577953 : True := trivial
theorem PySem.W.Fast.tw8113162869185143720 : True := trivial
theorem PySem.W.Fast.tw12940190199094658625 : True := trivial
theorem PySem.W.Fast.tw3145160576274729166 : True := trivial
theorem PySem.W.Fast.tw14286920456624939828 : True := trivial
theorem PySem.W.Fast.tw17593065125824479212 : True := trivial
theorem PySem.W.Fast.tw12435926332780931010 : True := trivial
theorem PySem.W.Fast.tw16539099883643160126 : True := trivial
theorem PySem.W.Fast.tw8003400411683992628 : True := trivial
theorem PySem.W.Fast.tw2838953772884125522 : True := trivial
theorem PySem.W.Fast.tw2204937593241388939 : True := trivial
theorem PySem.W.Fast.tw17759923411089821315 : True := trivial
theorem PySem.W.Fast.tw15362515949712428188 : True := trivial
theorem PySem.W.Fast.tw9373382707928138476 : True := trivial
theorem PySem.W.Fast.tw8224192845098969405 : True := trivial
theorem PySem.W.Fast.tw10347364140818884538 : True := trivial
theorem PySem.W.Fast.tw11678317444554122589 : True := trivial
theorem PySem.W.Fast.tw4298142319768050498 : True := trivial
theorem PySem.W.Fast.tw9484279888011465542 : True := trivial
theorem PySem.W.Fast.tw1933631627372325983 : True := trivial
theorem PySem.W.Fast.tw13470891614092529688 : True := trivial
theorem PySem.W.Fast.tw948057195868750727 : True := trivial
theorem PySem.W.Fast.tw7662696468109136524 : True := trivial
theorem PySem.W.Fast.tw2884036418701989130 : True := trivial
theorem PySem.W.Fast.tw15060286756644838351 : True := trivial
theorem PySem.W.Fast.tw16019930377421612702 : True := trivial
theorem PySem.W.Fast.tw14636866956744908835 : True := trivial
theorem PySem.W.Fast.tw15494913868345975471 : True := trivial
theorem PySem.W.Fast.tw9470689511972933863 : True := trivial
theorem PySem.W.Fast.tw12952402064871804201 : True := trivial
theorem PySem.W.Fast.tw2346039349567394676 : True := trivial
theorem PySem.W.Fast.tw4849625224649648371 : True := trivial
theorem PySem.W.Fast.tw1889025337253929014 : True := trivial
theorem PySem.W.Fast.tw16960785431149446699 : True := trivial
theorem PySem.W.Fast.tw17448090108392277633 : True := trivial
theorem PySem.W.Fast.tw18368547282540424922 : True := trivial
theorem PySem.W.Fast.tw17016593119872449319 : True := trivial
theorem PySem.W.Fast.tw8237105471577869085 : True := trivial
theorem PySem.W.Fast.tw2466759008865753972 : True := trivial
theorem PySem.W.Fast.tw3525667568041824625 : True := trivial
theorem PySem.W.Fast.tw4498862551488339254 : True := trivial
theorem PySem.W.Fast.tw9463015955466868248 : True := trivial
theorem PySem.W.Fast.tw11405480570233165365 : True := trivial
theorem PySem.W.Fast.tw3305023643146009924 : True := trivial
theorem PySem.W.Fast.tw9954635283027453805 : True := trivial
theorem PySem.W.Fast.tw6579864732765598437 : True := trivial
theorem PySem.W.Fast.tw9040417326624121167 : True := trivial
theorem PySem.W.Fast.tw16154317083886495047 : True := trivial
theorem PySem.W.Fast.tw10251894794741449467 : True := trivial
theorem PySem.W.Fast.tw7669221443970172698 : True := trivial
theorem PySem.W.Fast.tw8775181024491777628 : True := trivial
theorem PySem.W.Fast.tw13543300054570468204 : True := trivial
theorem PySem.W.Fast.tw9639871183900571874 : True := trivial
theorem PySem.W.Fast.tw2316580164506535019 : True := trivial
theorem PySem.W.Fast.tw3501806716770501447 : True := trivial
theorem PySem.W.Fast.tw7881090041545105265 : True := trivial
theorem PySem.W.Fast.tw15130587472189751730 : True := trivial
theorem PySem.W.Fast.tw14246805582647205143 : True := trivial
theorem PySem.W.Fast.tw16112471611081404742 : True := trivial
theorem PySem.W.Fast.tw4317677875206103429 : True := trivial
theorem PySem.W.Fast.tw9722940121176223544 : True := trivial
theorem PySem.W.Fast.tw10233982789864534893 : True := trivial
theorem PySem.W.Fast.tw218641324691890758 : True := trivial
theorem PySem.W.Fast.tw8388634692717909514 : True := trivial
theorem PySem.W.Fast.tw10355493037100068000 : True := trivial
theorem PySem.W.Fast.tw16229603388017587500 : True := trivial
theorem PySem.W.Fast.tw10230058149733684326 : True := trivial
theorem PySem.W.Fast.tw11948119988890137699 : True := trivial
theorem PySem.W.Fast.tw15410611605638308328 : True := trivial
theorem PySem.W.Fast.tw2515253845887332166 : True := trivial
theorem PySem.W.Fast.tw14124925867590932411 : True := trivial
theorem PySem.W.Fast.tw6330530294983129677 : True := trivial
theorem PySem.W.Fast.tw16097624633594805635 : True := trivial
theorem PySem.W.Fast.tw3898767886642621299 : True := trivial
theorem PySem.W.Fast.tw4787905797546590647 : True := trivial
theorem PySem.W.Fast.tw3248527518254990894 : True := trivial
theorem PySem.W.Fast.tw18250744690078840234 : True := trivial
theorem PySem.W.Fast.tw1879339518096279078 : True := trivial
theorem PySem.W.Fast.tw11101020296611255602 : True := trivial
theorem PySem.W.Fast.tw6105762659624633543 : True := trivial
theorem PySem.W.Fast.tw23401076586958871 : True := trivial
theorem PySem.W.Fast.tw8185933150260790352 : True := trivial
theorem PySem.W.Fast.tw11836800650627803538 : True := trivial
theorem PySem.W.Fast.tw7872142538498744382 : True := trivial
theorem PySem.W.Fast.tw9498191949639118571 : True := trivial
theorem PySem.W.Fast.tw3122021706603063180 : True := trivial
theorem PySem.W.Fast.tw12005686932733944294 : True := trivial
theorem PySem.W.Fast.tw8200721793758967564 : True := trivial
theorem PySem.W.Fast.tw17535352613693785259 : True := trivial
theorem PySem.W.Fast.tw11255472065256376468 : True := trivial
theorem PySem.W.Fast.tw685729306043884280 : True := trivial
theorem PySem.W.Fast.tw14806892627678930486 : True := trivial
theorem PySem.W.Fast.tw11755724227417702422 : True := trivial
theorem PySem.W.Fast.tw6515907481969898435 : True := trivial
theorem PySem.W.Fast.tw12266472220908535466 : True := trivial
theorem PySem.W.Fast.tw16262998313719588125 : True := trivial
theorem PySem.W.Fast.tw14273432380302521599 : True := trivial
theorem PySem.W.Fast.tw14986099205244274667 : True := trivial
theorem PySem.W.Fast.tw9487143489445601726 : True := trivial
theorem PySem.W.Fast.tw381837444688497751 : True := trivial
theorem PySem.W.Fast.tw8668168840849307454 : True := trivial
theorem PySem.W.Fast.tw16831255165134631796 : True := trivial
theorem PySem.W.Fast.tw15496427149491591323 : True := trivial
theorem PySem.W.Fast.tw501874431378840647 : True := trivial
theorem PySem.W.Fast.tw11286310291585291159 : True := trivial
theorem PySem.W.Fast.tw5163800015618306138 : True := trivial
theorem PySem.W.Fast.tw6519397476661161946 : True := trivial
theorem PySem.W.Fast.tw18097087766161749997 : True := trivial
theorem PySem.W.Fast.tw5572108660962530669 : True := trivial
theorem PySem.W.Fast.tw18109891133025899128 : True := trivial
theorem PySem.W.Fast.tw414030020164543003 : True := trivial
theorem PySem.W.Fast.tw736052056478674450 : True := trivial
theorem PySem.W.Fast.tw13716072651597967821 : True := trivial
theorem PySem.W.Fast.tw9740349954562581673 : True := trivial
theorem PySem.W.Fast.tw15418545890484039489 : True := trivial
theorem PySem.W.Fast.tw17206403628936489452 : True := trivial
theorem PySem.W.Fast.tw11794289853117019990 : True := trivial
theorem PySem.W.Fast.tw6649904234401606590 : True := trivial
theorem PySem.W.Fast.tw16850777167776041860 : True := trivial
theorem PySem.W.Fast.tw6805861023916035190 : True := trivial
theorem PySem.W.Fast.tw5112410194485125503 : True := trivial
theorem PySem.W.Fast.tw9996544990832943732 : True := trivial
theorem PySem.W.Fast.tw6538346857362281773 : True := trivial
theorem PySem.W.Fast.tw16040021734492947404 : True := trivial
theorem PySem.W.Fast.tw8559281994301762318 : True := trivial
theorem PySem.W.Fast.tw10175032914159044854 : True := trivial
theorem PySem.W.Fast.tw11180594605055370810 : True := trivial
theorem PySem.W.Fast.tw5872105619288457474 : True := trivial
theorem PySem.W.Fast.tw9781296009399090032 : True := trivial
theorem PySem.W.Fast.tw9981577221987426512 : True := trivial
theorem PySem.W.Fast.tw8828282319816304439 : True := trivial
theorem PySem.W.Fast.tw14359583690740885043 : True := trivial
theorem PySem.W.Fast.tw14040696207962973958 : True := trivial
theorem PySem.W.Fast.tw17401003181717182418 : True := trivial
theorem PySem.W.Fast.tw13341882257792778153 : True := trivial
theorem PySem.W.Fast.tw7358968972749115171 : True := trivial
theorem PySem.W.Fast.tw637495750172293540 : True := trivial
theorem PySem.W.Fast.tw2515282541500222411 : True := trivial
theorem PySem.W.Fast.tw15409343999808023274 : True := trivial
theorem PySem.W.Fast.tw888060383556994429 : True := trivial
theorem PySem.W.Fast.tw16327569779066639669 : True := trivial
theorem PySem.W.Fast.tw18386832409122536805 : True := trivial
theorem PySem.W.Fast.tw16015992091045097771 : True := trivial
theorem PySem.W.Fast.tw2550422716500737417 : True := trivial
theorem PySem.W.Fast.tw4307189144067505190 : True := trivial
theorem PySem.W.Fast.tw11318614040763514149 : True := trivial
theorem PySem.W.Fast.tw14298857476245960697 : True := trivial
theorem PySem.W.Fast.tw16353363699275029313 : True := trivial
theorem PySem.W.Fast.tw16307998623305496059 : True := trivial
theorem PySem.W.Fast.tw15974926439086468172 : True := trivial
theorem PySem.W.Fast.tw6635059979874889355 : True := trivial
theorem PySem.W.Fast.tw16645279584207357964 : True := trivial
theorem PySem.W.Fast.tw17971932493124988488 : True := trivial
theorem PySem.W.Fast.tw8736183936150852414 : True := trivial
theorem PySem.W.Fast.tw10923810587583861676 : True := trivial
theorem PySem.W.Fast.tw812451934359197311 : True := trivial
theorem PySem.W.Fast.tw12524864180624568891 : True := trivial
theorem PySem.W.Fast.tw5217720036888493375 : True := trivial
theorem PySem.W.Fast.tw16473882730684015605 : True := trivial
theorem PySem.W.Fast.tw13171812557701519765 : True := trivial
theorem PySem.W.Fast.tw16102044878984603802 : True := trivial
theorem PySem.W.Fast.tw16242070759400211817 : True := trivial
theorem PySem.W.Fast.tw16484791148966448638 : True := trivial
theorem PySem.W.Fast.tw7811625821253971476 : True := trivial
theorem PySem.W.Fast.tw2849340842593035913 : True := trivial
theorem PySem.W.Fast.tw11033302494977140892 : True := trivial
theorem PySem.W.Fast.tw9419255555501357170 : True := trivial
theorem PySem.W.Fast.tw10737671008091084350 : True := trivial
theorem PySem.W.Fast.tw17610285947930033956 : True := trivial
theorem PySem.W.Fast.tw11716097419611266409 : True := trivial
theorem PySem.W.Fast.tw3196417406359759365 : True := trivial
theorem PySem.W.Fast.tw4372083098568528741 : True := trivial
theorem PySem.W.Fast.tw17775601743632884884 : True := trivial
theorem PySem.W.Fast.tw7631613654865481259 : True := trivial
theorem PySem.W.Fast.tw8563710425633240119 : True := trivial
theorem PySem.W.Fast.tw16702867659042743189 : True := trivial
theorem PySem.W.Fast.tw2775016615102850245 : True := trivial
theorem PySem.W.Fast.tw4541985591648998563 : True := trivial
theorem PySem.W.Fast.tw18425105997158211897 : True := trivial
theorem PySem.W.Fast.tw16390719978604411447 : True := trivial
theorem PySem.W.Fast.tw18332743199431052874 : True := trivial
theorem PySem.W.Fast.tw3661729499463021238 : True := trivial
theorem PySem.W.Fast.tw10093614866168675524 : True := trivial
theorem PySem.W.Fast.tw5600499582912185192 : True := trivial
theorem PySem.W.Fast.tw8786241511825576528 : True := trivial
theorem PySem.W.Fast.tw12205092925074062526 : True := trivial
theorem PySem.W.Fast.tw15934819431726370808 : True := trivial
theorem PySem.W.Fast.tw11199353559994107822 : True := trivial
theorem PySem.W.Fast.tw17342471569289838319 : True := trivial
theorem PySem.W.Fast.tw9349105976235341538 : True := trivial
theorem PySem.W.Fast.tw6224284501324537098 : True := trivial
theorem PySem.W.Fast.tw18096789286826948855 : True := trivial
theorem PySem.W.Fast.tw5516449725074137683 : True := trivial
theorem PySem.W.Fast.tw11028041489955090372 : True := trivial
theorem PySem.W.Fast.tw1074280280908171605 : True := trivial
theorem PySem.W.Fast.tw11926767023108370097 : True := trivial
theorem PySem.W.Fast.tw5755955616048460201 : True := trivial
theorem PySem.W.Fast.tw16966575250480438549 : True := trivial
theorem PySem.W.Fast.tw10231185696378054908 : True := trivial
theorem PySem.W.Fast.tw6889264531834754409 : True := trivial
theorem PySem.W.Fast.tw11805083198560345103 : True := trivial
theorem PySem.W.Fast.tw1597828231783985579 : True := trivial
theorem PySem.W.Fast.tw5884908627597451280 : True := trivial
theorem PySem.W.Fast.tw2873048752157604058 : True := trivial
theorem PySem.W.Fast.tw18268880711770836197 : True := trivial
theorem PySem.W.Fast.tw3535707581567318001 : True := trivial
theorem PySem.W.Fast.tw3439529710457986918 : True := trivial
theorem PySem.W.Fast.tw8605853993796959055 : True := trivial
theorem PySem.W.Fast.tw11360806927422837608 : True := trivial
theorem PySem.W.Fast.tw14460072080356695354 : True := trivial
theorem PySem.W.Fast.tw17824726110301577072 : True := trivial
theorem PySem.W.Fast.tw8744789744117308208 : True := trivial
theorem PySem.W.Fast.tw3846109053536295991 : True := trivial
theorem PySem.W.Fast.tw5555319373661008446 : True := trivial
theorem PySem.W.Fast.tw9573161695579609535 : True := trivial
theorem PySem.W.Fast.tw7882427512538212893 : True := trivial
theorem PySem.W.Fast.tw16884580303891989477 : True := trivial
theorem PySem.W.Fast.tw14155697365274479370 : True := trivial
theorem PySem.W.Fast.tw2048708522758351081 : True := trivial
theorem PySem.W.Fast.tw17129358401238019666 : True := trivial
theorem PySem.W.Fast.tw12445800955447070255 : True := trivial
theorem PySem.W.Fast.tw3207502848573396671 : True := trivial
theorem PySem.W.Fast.tw5432656672146581175 : True := trivial
theorem PySem.W.Fast.tw14521480359707998499 : True := trivial
theorem PySem.W.Fast.tw11771659226404189537 : True := trivial
theorem PySem.W.Fast.tw10431103476146339189 : True := trivial
theorem PySem.W.Fast.tw17111052231107677113 : True := trivial
theorem PySem.W.Fast.tw12134755226427498078 : True := trivial
theorem PySem.W.Fast.tw14645887322986482288 : True := trivial
theorem PySem.W.Fast.tw12198685635861955958 : True := trivial
theorem PySem.W.Fast.tw5707786048827395712 : True := trivial
theorem PySem.W.Fast.tw371110449233200806 : True := trivial
theorem PySem.W.Fast.tw16309428507462031884 : True := trivial
theorem PySem.W.Fast.tw3993110680963995603 : True := trivial
theorem PySem.W.Fast.tw4233980458317359183 : True := trivial
theorem PySem.W.Fast.tw11746392923828421823 : True := trivial
theorem PySem.W.Fast.tw5125683122954030440 : True := trivial
theorem PySem.W.Fast.tw17442124042121169578 : True := trivial
theorem PySem.W.Fast.tw5717385892978286582 : True := trivial
theorem PySem.W.Fast.tw1747507739429084806 : True := trivial
theorem PySem.W.Fast.tw13530914096272308075 : True := trivial
theorem PySem.W.Fast.tw9228204881955726583 : True := trivial
theorem PySem.W.Fast.tw1581731578072333429 : True := trivial
theorem PySem.W.Fast.tw14934673036685072147 : True := trivial
theorem PySem.W.Fast.tw12215002889325475682 : True := trivial
theorem PySem.W.Fast.tw15340201860177160927 : True := trivial
theorem PySem.W.Fast.tw3691564271003586981 : True := trivial
theorem PySem.W.Fast.tw2862447691134010021 : True := trivial
theorem PySem.W.Fast.tw10557805994640980351 : True := trivial
theorem PySem.W.Fast.tw1497251279736927378 : True := trivial
theorem PySem.W.Fast.tw787132585412666802 : True := trivial
theorem PySem.W.Fast.tw14275731745636599770 : True := trivial
theorem PySem.W.Fast.tw10006523499072367442 : True := trivial
theorem PySem.W.Fast.tw13077265897048663590 : True := trivial
theorem PySem.W.Fast.tw4099172432897949351 : True := trivial
theorem PySem.W.Fast.tw16596109705960628512 : True := trivial
theorem PySem.W.Fast.tw14330430355512619420 : True := trivial
theorem PySem.W.Fast.tw1908094234492107792 : True := trivial
theorem PySem.W.Fast.tw9122636309038401226 : True := trivial
theorem PySem.W.Fast.tw12962530321254767685 : True := trivial
theorem PySem.W.Fast.tw6668444251174871323 : True := trivial
theorem PySem.W.Fast.tw7718282822050865531 : True := trivial
theorem PySem.W.Fast.tw8870422666944676567 : True := trivial
theorem PySem.W.Fast.tw5930132188778536958 : True := trivial
theorem PySem.W.Fast.tw16006899310396250917 : True := trivial
theorem PySem.W.Fast.tw4242001369319156670 : True := trivial
theorem PySem.W.Fast.tw4872679786056692492 : True := trivial
theorem PySem.W.Fast.tw5559955691046268967 : True := trivial
theorem PySem.W.Fast.tw7897898703928065106 : True := trivial
theorem PySem.W.Fast.tw6307427338164729820 : True := trivial
theorem PySem.W.Fast.tw459562382899851787 : True := trivial
theorem PySem.W.Fast.tw15617050301685994809 : True := trivial
theorem PySem.W.Fast.tw8279175344072530159 : True := trivial
theorem PySem.W.Fast.tw12313206841788769738 : True := trivial
theorem PySem.W.Fast.tw1377714238516769596 : True := trivial
theorem PySem.W.Fast.tw5230624085807342757 : True := trivial
theorem PySem.W.Fast.tw14906251268473666414 : True := trivial
theorem PySem.W.Fast.tw4305586005751904162 : True := trivial
theorem PySem.W.Fast.tw4294391445800095971 : True := trivial
theorem PySem.W.Fast.tw17960663006250981855 : True := trivial
theorem PySem.W.Fast.tw7397057850144400548 : True := trivial
theorem PySem.W.Fast.tw10532618771649477061 : True := trivial
theorem PySem.W.Fast.tw16345671294592734632 : True := trivial
theorem PySem.W.Fast.tw676796347584693939 : True := trivial
theorem PySem.W.Fast.tw11295278586072483153 : True := trivial
theorem PySem.W.Fast.tw9283664239414478130 : True := trivial
theorem PySem.W.Fast.tw7756521830763612033 : True := trivial
theorem PySem.W.Fast.tw14611747422603812391 : True := trivial
theorem PySem.W.Fast.tw11550559348780449229 : True := trivial
theorem PySem.W.Fast.tw3424168131099411146 : True := trivial
theorem PySem.W.Fast.tw8651870363070418653 : True := trivial
theorem PySem.W.Fast.tw14712511146701394988 : True := trivial
theorem PySem.W.Fast.tw8148122796711031436 : True := trivial
theorem PySem.W.Fast.tw6995735332299981241 : True := trivial
theorem PySem.W.Fast.tw17105222343374600869 : True := trivial
theorem PySem.W.Fast.tw2128902621406757626 : True := trivial
theorem PySem.W.Fast.tw14887770036001160389 : True := trivial
theorem PySem.W.Fast.tw8362905641029336206 : True := trivial
theorem PySem.W.Fast.tw18229050508081437868 : True := trivial
theorem PySem.W.Fast.tw10850016160910220540 : True := trivial
theorem PySem.W.Fast.tw1119507008340599938 : True := trivial
theorem PySem.W.Fast.tw11041403296747040833 : True := trivial
theorem PySem.W.Fast.tw14927378475663141480 : True := trivial
theorem PySem.W.Fast.tw3500926197568568947 : True := trivial
theorem PySem.W.Fast.tw14651743018612070454 : True := trivial
theorem PySem.W.Fast.tw14065987938744080980 : True := trivial
theorem PySem.W.Fast.tw10683907300652952353 : True := trivial
theorem PySem.W.Fast.tw12777809004922014255 : True := trivial
theorem PySem.W.Fast.tw2945362544868556420 : True := trivial
theorem PySem.W.Fast.tw14036165611175426338 : True := trivial
theorem PySem.W.Fast.tw11914969173747093736 : True := trivial
theorem PySem.W.Fast.tw2401561654967511605 : True := trivial
theorem PySem.W.Fast.tw5851770311264482144 : True := trivial
theorem PySem.W.Fast.tw17366047190456341144 : True := trivial
theorem PySem.W.Fast.tw3633043437321835168 : True := trivial
theorem PySem.W.Fast.tw12885665449852570813 : True := trivial
theorem PySem.W.Fast.tw7041075750838492784 : True := trivial
theorem PySem.W.Fast.tw10253986216014083060 : True := trivial
theorem PySem.W.Fast.tw1276765762745738602 : True := trivial
theorem PySem.W.Fast.tw15284550565013181673 : True := trivial
theorem PySem.W.Fast.tw16633536037751974388 : True := trivial
theorem PySem.W.Fast.tw10611874235585028442 : True := trivial
theorem PySem.W.Fast.tw16997826457593166911 : True := trivial
theorem PySem.W.Fast.tw12917820924974228395 : True := trivial
theorem PySem.W.Fast.tw5411442564545479726 : True := trivial
theorem PySem.W.Fast.tw9572491137560081975 : True := trivial
theorem PySem.W.Fast.tw16860121849763041293 : True := trivial
theorem PySem.W.Fast.tw16418721564591434497 : True := trivial
theorem PySem.W.Fast.tw6894353890227983588 : True := trivial
theorem PySem.W.Fast.tw9185133323139495436 : True := trivial
theorem PySem.W.Fast.tw3197452118024773576 : True := trivial
theorem PySem.W.Fast.tw14349243468947113096 : True := trivial
theorem PySem.W.Fast.tw15170320793929183068 : True := trivial
theorem PySem.W.Fast.tw17529491307462449702 : True := trivial
theorem PySem.W.Fast.tw3873383966899574738 : True := trivial
theorem PySem.W.Fast.tw15982107622968330638 : True := trivial
theorem PySem.W.Fast.tw9562843786077940123 : True := trivial
theorem PySem.W.Fast.tw2585558396283022432 : True := trivial
theorem PySem.W.Fast.tw17239713650498647144 : True := trivial
theorem PySem.W.Fast.tw13573860099123853650 : True := trivial
theorem PySem.W.Fast.tw12608185441762441102 : True := trivial
theorem PySem.W.Fast.tw15677311948804177943 : True := trivial
theorem PySem.W.Fast.tw9760505967299187699 : True := trivial
theorem PySem.W.Fast.tw15511530090160038711 : True := trivial
theorem PySem.W.Fast.tw7138546334991169231 : True := trivial
theorem PySem.W.Fast.tw2564475010775668779 : True := trivial
theorem PySem.W.Fast.tw3554775708759693531 : True := trivial
theorem PySem.W.Fast.tw553495576834145956 : True := trivial
theorem PySem.W.Fast.tw206962806988481589 : True := trivial
theorem PySem.W.Fast.tw16684985715517003650 : True := trivial
theorem PySem.W.Fast.tw6237523752015338931 : True := trivial
theorem PySem.W.Fast.tw685500610728605259 : True := trivial
theorem PySem.W.Fast.tw14975976176764578985 : True := trivial
theorem PySem.W.Fast.tw10014900814117125653 : True := trivial
theorem PySem.W.Fast.tw9231233653090906070 : True := trivial
theorem PySem.W.Fast.tw10160479595684513880 : True := trivial
theorem PySem.W.Fast.tw6228599829694869321 : True := trivial
theorem PySem.W.Fast.tw14562414847996496357 : True := trivial
theorem PySem.W.Fast.tw16256198944098961660 : True := trivial
theorem PySem.W.Fast.tw2405765565672396417 : True := trivial
theorem PySem.W.Fast.tw16472795998278894011 : True := trivial
theorem PySem.W.Fast.tw6347873561622879273 : True := trivial
theorem PySem.W.Fast.tw1188071076342803623 : True := trivial
theorem PySem.W.Fast.tw1407501795732987804 : True := trivial
theorem PySem.W.Fast.tw16681892528761800452 : True := trivial
theorem PySem.W.Fast.tw13559305539766021287 : True := trivial
theorem PySem.W.Fast.tw4834824570903045504 : True := trivial
theorem PySem.W.Fast.tw2070240265577316917 : True := trivial
theorem PySem.W.Fast.tw8017684565348681992 : True := trivial
theorem PySem.W.Fast.tw18346427157013010227 : True := trivial
theorem PySem.W.Fast.tw10274437837875640014 : True := trivial
theorem PySem.W.Fast.tw4656575260968244466 : True := trivial
theorem PySem.W.Fast.tw2596014801362602801 : True := trivial
theorem PySem.W.Fast.tw13392757855530733119 : True := trivial
theorem PySem.W.Fast.tw5660714746110617526 : True := trivial
theorem PySem.W.Fast.tw12092614129437758478 : True := trivial
theorem PySem.W.Fast.tw17787123576849598486 : True := trivial
theorem PySem.W.Fast.tw18318568574654866979 : True := trivial
theorem PySem.W.Fast.tw10433424947525745128 : True := trivial
theorem PySem.W.Fast.tw13815559956904173799 : True := trivial
theorem PySem.W.Fast.tw3194769527955231362 : True := trivial
theorem PySem.W.Fast.tw8057096830911511931 : True := trivial
theorem PySem.W.Fast.tw15364375916810006243 : True := trivial
theorem PySem.W.Fast.tw784831568004716975 : True := trivial
theorem PySem.W.Fast.tw1713702269564479662 : True := trivial
theorem PySem.W.Fast.tw15370932109719635415 : True := trivial
theorem PySem.W.Fast.tw838579608700257128 : True := trivial
theorem PySem.W.Fast.tw14123813750285201843 : True := trivial
theorem PySem.W.Fast.tw18196299157126356999 : True := trivial
theorem PySem.W.Fast.tw7769757369164062751 : True := trivial
theorem PySem.W.Fast.tw9156344542715733760 : True := trivial
theorem PySem.W.Fast.tw13005149713590128606 : True := trivial
theorem PySem.W.Fast.tw6366929822179347819 : True := trivial
theorem PySem.W.Fast.tw17333186472385063596 : True := trivial
theorem PySem.W.Fast.tw16199816826377403376 : True := trivial
theorem PySem.W.Fast.tw15017904914107190980 : True := trivial
theorem PySem.W.Fast.tw541039741227821212 : True := trivial
theorem PySem.W.Fast.tw13692344858894124517 : True := trivial
theorem PySem.W.Fast.tw4968065630184403762 : True := trivial
theorem PySem.W.Fast.tw12367804948819078619 : True := trivial
theorem PySem.W.Fast.tw9917348523154663730 : True := trivial
theorem PySem.W.Fast.tw11162682952026286621 : True := trivial
theorem PySem.W.Fast.tw1280224384912993913 : True := trivial
theorem PySem.W.Fast.tw8659179094848691986 : True := trivial
theorem PySem.W.Fast.tw1777568219837773857 : True := trivial
theorem PySem.W.Fast.tw549856326930607974 : True := trivial
theorem PySem.W.Fast.tw15312533271399051676 : True := trivial
theorem PySem.W.Fast.tw1793650197515145389 : True := trivial
theorem PySem.W.Fast.tw5357399792806490457 : True := trivial
theorem PySem.W.Fast.tw12562397847142316100 : True := trivial
theorem PySem.W.Fast.tw1540227368027207455 : True := trivial
theorem PySem.W.Fast.tw16736690333046053249 : True := trivial
theorem PySem.W.Fast.tw5843768635609287469 : True := trivial
theorem PySem.W.Fast.tw8063221291062744303 : True := trivial
theorem PySem.W.Fast.tw18429123693871576110 : True := trivial
theorem PySem.W.Fast.tw17175470916676809747 : True := trivial
theorem PySem.W.Fast.tw3477682818063472679 : True := trivial
theorem PySem.W.Fast.tw224334516286706950 : True := trivial
theorem PySem.W.Fast.tw15197672291526799530 : True := trivial
theorem PySem.W.Fast.tw18352978304125522871 : True := trivial
theorem PySem.W.Fast.tw12141338525192628950 : True := trivial
theorem PySem.W.Fast.tw5986229446964745029 : True := trivial
theorem PySem.W.Fast.tw3937598149425027362 : True := trivial
theorem PySem.W.Fast.tw11126383183886178146 : True := trivial
theorem PySem.W.Fast.tw1300838550818500137 : True := trivial
theorem PySem.W.Fast.tw736649295879000799 : True := trivial
theorem PySem.W.Fast.tw6727404316080490486 : True := trivial
theorem PySem.W.Fast.tw13423573767801661632 : True := trivial
theorem PySem.W.Fast.tw16466297389039062296 : True := trivial
theorem PySem.W.Fast.tw1783299413260888755 : True := trivial
theorem PySem.W.Fast.tw12739296657338574270 : True := trivial
theorem PySem.W.Fast.tw11203987183842333837 : True := trivial
theorem PySem.W.Fast.tw9897552891575609411 : True := trivial
theorem PySem.W.Fast.tw3452967469193471169 : True := trivial
theorem PySem.W.Fast.tw10103854473447740332 : True := trivial
theorem PySem.W.Fast.tw5379223379939334646 : True := trivial
theorem PySem.W.Fast.tw7168955972243402011 : True := trivial
theorem PySem.W.Fast.tw2165872179356676514 : True := trivial
theorem PySem.W.Fast.tw675704332646892091 : True := trivial
theorem PySem.W.Fast.tw7204635632787947424 : True := trivial
theorem PySem.W.Fast.tw13332984118383465809 : True := trivial
theorem PySem.W.Fast.tw6999958704463737596 : True := trivial
theorem PySem.W.Fast.tw14968392305911214877 : True := trivial
theorem PySem.W.Fast.tw1923658077917462106 : True := trivial
theorem PySem.W.Fast.tw2621911488753046976 : True := trivial
theorem PySem.W.Fast.tw8501799339295560750 : True := trivial
theorem PySem.W.Fast.tw5088341838019589387 : True := trivial
theorem PySem.W.Fast.tw12362573950284164075 : True := trivial
theorem PySem.W.Fast.tw14216596964574579083 : True := trivial
theorem PySem.W.Fast.tw4698490850997305053 : True := trivial
theorem PySem.W.Fast.tw2999072963142300839 : True := trivial
theorem PySem.W.Fast.tw100931511037801096 : True := trivial
theorem PySem.W.Fast.tw7295008745296396422 : True := trivial
theorem PySem.W.Fast.tw66544848726035728 : True := trivial
theorem PySem.W.Fast.tw16895507176715695986 : True := trivial
theorem PySem.W.Fast.tw7986128756876471620 : True := trivial
theorem PySem.W.Fast.tw14542243416496478251 : True := trivial
theorem PySem.W.Fast.tw2944765575510637414 : True := trivial
theorem PySem.W.Fast.tw13034123190763096648 : True := trivial
theorem PySem.W.Fast.tw10285785294101962118 : True := trivial
theorem PySem.W.Fast.tw2043985961493988943 : True := trivial
theorem PySem.W.Fast.tw916117755967320787 : True := trivial
theorem PySem.W.Fast.tw13236571515727383634 : True := trivial
theorem PySem.W.Fast.tw420088675558329783 : True := trivial
theorem PySem.W.Fast.tw10351441427202686660 : True := trivial
theorem PySem.W.Fast.tw16467344397417798005 : True := trivial
theorem PySem.W.Fast.tw441258468052509311 : True := trivial
theorem PySem.W.Fast.tw7614015472302947425 : True := trivial
theorem PySem.W.Fast.tw9669680722511433680 : True := trivial
theorem PySem.W.Fast.tw4744627180941939345 : True := trivial
theorem PySem.W.Fast.tw9533105333725118604 : True := trivial
theorem PySem.W.Fast.tw1899404546266767591 : True := trivial
theorem PySem.W.Fast.tw17291723791621258413 : True := trivial
theorem PySem.W.Fast.tw2298001336979565539 : True := trivial
theorem PySem.W.Fast.tw12331455270405551236 : True := trivial
theorem PySem.W.Fast.tw1378434418513871928 : True := trivial
theorem PySem.W.Fast.tw6838626009977746034 : True := trivial
theorem PySem.W.Fast.tw13023422708871951491 : True := trivial
theorem PySem.W.Fast.tw7014811318864580742 : True := trivial
theorem PySem.W.Fast.tw5430893758445515430 : True := trivial
theorem PySem.W.Fast.tw4046558250237852221 : True := trivial
theorem PySem.W.Fast.tw16722753474261243612 : True := trivial
theorem PySem.W.Fast.tw13998416861771478686 : True := trivial
theorem PySem.W.Fast.tw12282649882714730231 : True := trivial
theorem PySem.W.Fast.tw4577587482574811668 : True := trivial
theorem PySem.W.Fast.tw2491791728428144217 : True := trivial
theorem PySem.W.Fast.tw13180159636506446497 : True := trivial
theorem PySem.W.Fast.tw5419804133208923761 : True := trivial
theorem PySem.W.Fast.tw13102668926786585400 : True := trivial
theorem PySem.W.Fast.tw14014219732648587564 : True := trivial
theorem PySem.W.Fast.tw5505376668624842918 : True := trivial
theorem PySem.W.Fast.tw12079782131473105410 : True := trivial
theorem PySem.W.Fast.tw8430123411493941333 : True := trivial
theorem PySem.W.Fast.tw13534395554447203001 : True := trivial
theorem PySem.W.Fast.tw12202144557687008281 : True := trivial
theorem PySem.W.Fast.tw11665391143249040360 : True := trivial
theorem PySem.W.Fast.tw5347406203163942793 : True := trivial
theorem PySem.W.Fast.tw4814118623485903497 : True := trivial
theorem PySem.W.Fast.tw6451765943270394829 : True := trivial
theorem PySem.W.Fast.tw13730880852073493951 : True := trivial
theorem PySem.W.Fast.tw13805038975669274789 : True := trivial
theorem PySem.W.Fast.tw14600528983364662713 : True := trivial
theorem PySem.W.Fast.tw8059961689264489488 : True := trivial
theorem PySem.W.Fast.tw10179073857981995265 : True := trivial
theorem PySem.W.Fast.tw14411165679574535173 : True := trivial
theorem PySem.W.Fast.tw2812374421860300488 : True := trivial
theorem PySem.W.Fast.tw12344611669110061115 : True := trivial
theorem PySem.W.Fast.tw9239416183356826127 : True := trivial
theorem PySem.W.Fast.tw2230562848242988609 : True := trivial
theorem PySem.W.Fast.tw2495797216600274172 : True := trivial
theorem PySem.W.Fast.tw9103659561624811054 : True := trivial
theorem PySem.W.Fast.tw10529436683806489122 : True := trivial
theorem PySem.W.Fast.tw7018864581768934064 : True := trivial
theorem PySem.W.Fast.tw17440217569289092845 : True := trivial
theorem PySem.W.Fast.tw17290685831222963237 : True := trivial
theorem PySem.W.Fast.tw3068341476874397401 : True := trivial
theorem PySem.W.Fast.tw16768746158204954271 : True := trivial
theorem PySem.W.Fast.tw15237816235162411675 : True := trivial
theorem PySem.W.Fast.tw11574974882093038444 : True := trivial
theorem PySem.W.Fast.tw18149872093530941036 : True := trivial
theorem PySem.W.Fast.tw14511669658643921064 : True := trivial
theorem PySem.W.Fast.tw3841735711417205653 : True := trivial
theorem PySem.W.Fast.tw7528629596034192040 : True := trivial
theorem PySem.W.Fast.tw6566232041527891796 : True := trivial
theorem PySem.W.Fast.tw1680712353902043570 : True := trivial
theorem PySem.W.Fast.tw12787013387285696844 : True := trivial
theorem PySem.W.Fast.tw3310886915147768147 : True := trivial
theorem PySem.W.Fast.tw14661528993987286325 : True := trivial
theorem PySem.W.Fast.tw130374282316610287 : True := trivial
theorem PySem.W.Fast.tw12075215962911725213 : True := trivial
theorem PySem.W.Fast.tw11950573889808853013 : True := trivial
theorem PySem.W.Fast.tw7376952253470088575 : True := trivial
theorem PySem.W.Fast.tw14888092691540352345 : True := trivial
theorem PySem.W.Fast.tw5908448447313055387 : True := trivial
theorem PySem.W.Fast.tw5931370990278619650 : True := trivial
theorem PySem.W.Fast.tw6653786192113228770 : True := trivial
theorem PySem.W.Fast.tw16744234685606372288 : True := trivial
theorem PySem.W.Fast.tw6279518715914026708 : True := trivial
theorem PySem.W.Fast.tw1904862296763079297 : True := trivial
theorem PySem.W.Fast.tw8464786205423289368 : True := trivial
theorem PySem.W.Fast.tw12021407835407362239 : True := trivial
theorem PySem.W.Fast.tw456854824195794514 : True := trivial
theorem PySem.W.Fast.tw7095620539351374149 : True := trivial
theorem PySem.W.Fast.tw17342246457670124722 : True := trivial
theorem PySem.W.Fast.tw3242116340641040100 : True := trivial
theorem PySem.W.Fast.tw11197488545190862675 : True := trivial
theorem PySem.W.Fast.tw4621402973274485493 : True := trivial
theorem PySem.W.Fast.tw12804877371017794941 : True := trivial
theorem PySem.W.Fast.tw12125435542452844014 : True := trivial
theorem PySem.W.Fast.tw8323931152643649577 : True := trivial
theorem PySem.W.Fast.tw9355186811994713698 : True := trivial
theorem PySem.W.Fast.tw13728041939779923360 : True := trivial
theorem PySem.W.Fast.tw9227807658202419712 : True := trivial
theorem PySem.W.Fast.tw13598739388324630147 : True := trivial
theorem PySem.W.Fast.tw1254138038328640994 : True := trivial
theorem PySem.W.Fast.tw1148437379679496064 : True := trivial
theorem PySem.W.Fast.tw3732834749927892232 : True := trivial
theorem PySem.W.Fast.tw15679427577452040589 : True := trivial
theorem PySem.W.Fast.tw11607055822404606781 : True := trivial
theorem PySem.W.Fast.tw3649587878134466416 : True := trivial
theorem PySem.W.Fast.tw9143696927430709628 : True := trivial
theorem PySem.W.Fast.tw9449301422417788254 : True := trivial
theorem PySem.W.Fast.tw4603925736103595068 : True := trivial
theorem PySem.W.Fast.tw13427074127410885864 : True := trivial
theorem PySem.W.Fast.tw2752263147716286873 : True := trivial
theorem PySem.W.Fast.tw754437037195251841 : True := trivial
theorem PySem.W.Fast.tw8158475649945433155 : True := trivial
theorem PySem.W.Fast.tw6525143335938113141 : True := trivial
theorem PySem.W.Fast.tw11269768129579393422 : True := trivial
theorem PySem.W.Fast.tw9232351927587021170 : True := trivial
theorem PySem.W.Fast.tw5562254639006731574 : True := trivial
theorem PySem.W.Fast.tw7135391538768629226 : True := trivial
theorem PySem.W.Fast.tw2772303457027484795 : True := trivial
theorem PySem.W.Fast.tw12977695742494825421 : True := trivial
theorem PySem.W.Fast.tw1589777347890877668 : True := trivial
theorem PySem.W.Fast.tw17098318845978470995 : True := trivial
theorem PySem.W.Fast.tw16033292329105879238 : True := trivial
theorem PySem.W.Fast.tw2591920900281899168 : True := trivial
theorem PySem.W.Fast.tw13586425625782314579 : True := trivial
theorem PySem.W.Fast.tw8595308976621199327 : True := trivial
theorem PySem.W.Fast.tw16810884718044062540 : True := trivial
theorem PySem.W.Fast.tw5236871553417973102 : True := trivial
theorem PySem.W.Fast.tw4958958729617798475 : True := trivial
theorem PySem.W.Fast.tw1750480666487619388 : True := trivial
theorem PySem.W.Fast.tw12650491089715908022 : True := trivial
theorem PySem.W.Fast.tw3156644264791183071 : True := trivial
theorem PySem.W.Fast.tw5436360468417695960 : True := trivial
theorem PySem.W.Fast.tw14276616885736848906 : True := trivial
theorem PySem.W.Fast.tw18236837920208073865 : True := trivial
theorem PySem.W.Fast.tw16702699976591575151 : True := trivial
theorem PySem.W.Fast.tw13094580034571283701 : True := trivial
theorem PySem.W.Fast.tw1200833194787306705 : True := trivial
theorem PySem.W.Fast.tw15664894602749893483 : True := trivial
theorem PySem.W.Fast.tw14856219431780090138 : True := trivial
theorem PySem.W.Fast.tw15352235878051836576 : True := trivial
theorem PySem.W.Fast.tw7025251469611459962 : True := trivial
theorem PySem.W.Fast.tw9877951246462618270 : True := trivial
theorem PySem.W.Fast.tw2588039245936994088 : True := trivial
theorem PySem.W.Fast.tw15745985055945529273 : True := trivial
theorem PySem.W.Fast.tw17881694358112900768 : True := trivial
theorem PySem.W.Fast.tw4381046841927585888 : True := trivial
theorem PySem.W.Fast.tw1718816014621430584 : True := trivial
theorem PySem.W.Fast.tw13663303823815339017 : True := trivial
theorem PySem.W.Fast.tw4518869357359134557 : True := trivial
theorem PySem.W.Fast.tw6289604019248882132 : True := trivial
theorem PySem.W.Fast.tw4380819793018838663 : True := trivial
theorem PySem.W.Fast.tw3440117111316342074 : True := trivial
theorem PySem.W.Fast.tw1533958418370105661 : True := trivial
theorem PySem.W.Fast.tw14760738547105850742 : True := trivial
theorem PySem.W.Fast.tw4380480638884780379 : True := trivial
theorem PySem.W.Fast.tw2885451679841064314 : True := trivial
theorem PySem.W.Fast.tw16919580368635962609 : True := trivial
theorem PySem.W.Fast.tw348092606212206686 : True := trivial
theorem PySem.W.Fast.tw2377228545180610849 : True := trivial
theorem PySem.W.Fast.tw2079759384588943507 : True := trivial
theorem PySem.W.Fast.tw1021079970261133687 : True := trivial
theorem PySem.W.Fast.tw17311889017822621088 : True := trivial
theorem PySem.W.Fast.tw4266488395063540767 : True := trivial
theorem PySem.W.Fast.tw6816182703247490161 : True := trivial
theorem PySem.W.Fast.tw5445208840292749646 : True := trivial
theorem PySem.W.Fast.tw10463531094929163061 : True := trivial
theorem PySem.W.Fast.tw9315119485978710325 : True := trivial
theorem PySem.W.Fast.tw17315990977861170981 : True := trivial
theorem PySem.W.Fast.tw6542335310089223804 : True := trivial
theorem PySem.W.Fast.tw10779834011699554316 : True := trivial
theorem PySem.W.Fast.tw430721815627514788 : True := trivial
theorem PySem.W.Fast.tw6637575381434386740 : True := trivial
theorem PySem.W.Fast.tw6252045800648678868 : True := trivial
theorem PySem.W.Fast.tw11365378142535144568 : True := trivial
theorem PySem.W.Fast.tw11867608142842965004 : True := trivial
theorem PySem.W.Fast.tw6799052689854327933 : True := trivial
theorem PySem.W.Fast.tw10489341753316401049 : True := trivial
theorem PySem.W.Fast.tw18311279169252918770 : True := trivial
theorem PySem.W.Fast.tw13892956145933716355 : True := trivial
theorem PySem.W.Fast.tw4503755415635062291 : True := trivial
theorem PySem.W.Fast.tw7049886747124305350 : True := trivial
theorem PySem.W.Fast.tw899189185308452181 : True := trivial
theorem PySem.W.Fast.tw3380985529988775324 : True := trivial
theorem PySem.W.Fast.tw16933334210504907254 : True := trivial
theorem PySem.W.Fast.tw14945031989614071777 : True := trivial
theorem PySem.W.Fast.tw6369566417110967550 : True := trivial
theorem PySem.W.Fast.tw9916517601756975327 : True := trivial
theorem PySem.W.Fast.tw10148025740188602884 : True := trivial
theorem PySem.W.Fast.tw5926690298789323606 : True := trivial
theorem PySem.W.Fast.tw8814281758438046715 : True := trivial
theorem PySem.W.Fast.tw17425406678832132315 : True := trivial
theorem PySem.W.Fast.tw13401602791914081694 : True := trivial
theorem PySem.W.Fast.tw9869029887836092717 : True := trivial
theorem PySem.W.Fast.tw9718306430147770852 : True := trivial
theorem PySem.W.Fast.tw3462217138980579582 : True := trivial
theorem PySem.W.Fast.tw3948469284470496993 : True := trivial
theorem PySem.W.Fast.tw6597878021329682762 : True := trivial
theorem PySem.W.Fast.tw8179210613295527181 : True := trivial
theorem PySem.W.Fast.tw2039217847058278344 : True := trivial
theorem PySem.W.Fast.tw3552398656581607348 : True := trivial
theorem PySem.W.Fast.tw1774053595621573311 : True := trivial
theorem PySem.W.Fast.tw9904267544119499541 : True := trivial
theorem PySem.W.Fast.tw11962856564018279615 : True := trivial
theorem PySem.W.Fast.tw7558283426655611537 : True := trivial
theorem PySem.W.Fast.tw3484094640002364731 : True := trivial
theorem PySem.W.Fast.tw14815036873958092729 : True := trivial
theorem PySem.W.Fast.tw15575890099116927078 : True := trivial
theorem PySem.W.Fast.tw2001119405968723107 : True := trivial
theorem PySem.W.Fast.tw11032175676171313121 : True := trivial
theorem PySem.W.Fast.tw13418111615197007740 : True := trivial
theorem PySem.W.Fast.tw5306267170877566577 : True := trivial
theorem PySem.W.Fast.tw2548369532810731470 : True := trivial
theorem PySem.W.Fast.tw2334479444429384919 : True := trivial
theorem PySem.W.Fast.tw15641365215431948589 : True := trivial
theorem PySem.W.Fast.tw14776210172468310062 : True := trivial
theorem PySem.W.Fast.tw7791884312680500325 : True := trivial
theorem PySem.W.Fast.tw16378227937714301373 : True := trivial
theorem PySem.W.Fast.tw13306227661114949792 : True := trivial
theorem PySem.W.Fast.tw3995130759183232733 : True := trivial
theorem PySem.W.Fast.tw755868532033655824 : True := trivial
theorem PySem.W.Fast.tw461431209754699834 : True := trivial
theorem PySem.W.Fast.tw7972167935963434812 : True := trivial
theorem PySem.W.Fast.tw18144832079096312289 : True := trivial
theorem PySem.W.Fast.tw1160794364948735417 : True := trivial
theorem PySem.W.Fast.tw3587865511779063143 : True := trivial
theorem PySem.W.Fast.tw8586707957592160286 : True := trivial
theorem PySem.W.Fast.tw8738387992409378632 : True := trivial
theorem PySem.W.Fast.tw11083379755125510111 : True := trivial
theorem PySem.W.Fast.tw11782213833488006044 : True := trivial
theorem PySem.W.Fast.tw18068241301209500249 : True := trivial
theorem PySem.W.Fast.tw15098790829817427247 : True := trivial
theorem PySem.W.Fast.tw12325721079159222497 : True := trivial
theorem PySem.W.Fast.tw5728329761056966208 : True := trivial
theorem PySem.W.Fast.tw4212388137979833352 : True := trivial
theorem PySem.W.Fast.tw13638365407386960387 : True := trivial
theorem PySem.W.Fast.tw1614018569775321167 : True := trivial
theorem PySem.W.Fast.tw17979708656857124709 : True := trivial
theorem PySem.W.Fast.tw18341850767685557842 : True := trivial
theorem PySem.W.Fast.tw15265704537264339411 : True := trivial
theorem PySem.W.Fast.tw10515801408934091485 : True := trivial
theorem PySem.W.Fast.tw3116522250234104864 : True := trivial
theorem PySem.W.Fast.tw12778566900899238067 : True := trivial
theorem PySem.W.Fast.tw613581676144023359 : True := trivial
theorem PySem.W.Fast.tw17531618308055766691 : True := trivial
theorem PySem.W.Fast.tw4635466478623631916 : True := trivial
theorem PySem.W.Fast.tw17718257150302985427 : True := trivial
theorem PySem.W.Fast.tw17319399650166072825 : True := trivial
theorem PySem.W.Fast.tw592251316243097218 : True := trivial
theorem PySem.W.Fast.tw8749439805195132409 : True := trivial
theorem PySem.W.Fast.tw16910414735178088530 : True := trivial
theorem PySem.W.Fast.tw13588201279208415073 : True := trivial
theorem PySem.W.Fast.tw5466714134745773630 : True := trivial
theorem PySem.W.Fast.tw14319569942401276834 : True := trivial
theorem PySem.W.Fast.tw2421278075252873809 : True := trivial
theorem PySem.W.Fast.tw7840092735273506825 : True := trivial
theorem PySem.W.Fast.tw14116069429903171452 : True := trivial
theorem PySem.W.Fast.tw14710363797276393610 : True := trivial
theorem PySem.W.Fast.tw3875781737145655538 : True := trivial
theorem PySem.W.Fast.tw13418819641816178040 : True := trivial
theorem PySem.W.Fast.tw18412793191644452130 : True := trivial
theorem PySem.W.Fast.tw930513587290634098 : True := trivial
theorem PySem.W.Fast.tw4053832712770696014 : True := trivial
theorem PySem.W.Fast.tw9587170412183736050 : True := trivial
theorem PySem.W.Fast.tw459510954686286110 : True := trivial
theorem PySem.W.Fast.tw3057058630383853232 : True := trivial
theorem PySem.W.Fast.tw9120232567791854700 : True := trivial
theorem PySem.W.Fast.tw7062493773623403273 : True := trivial
theorem PySem.W.Fast.tw772321479037737920 : True := trivial
theorem PySem.W.Fast.tw15958669396806687315 : True := trivial
theorem PySem.W.Fast.tw1459807690636818119 : True := trivial
theorem PySem.W.Fast.tw1804170239278928 : True := trivial
theorem PySem.W.Fast.tw7797894737472548804 : True := trivial
theorem PySem.W.Fast.tw3094642557561076739 : True := trivial
theorem PySem.W.Fast.tw16655439807635629316 : True := trivial
theorem PySem.W.Fast.tw3872786819463754712 : True := trivial
theorem PySem.W.Fast.tw14121814454007724909 : True := trivial
theorem PySem.W.Fast.tw737313102828871032 : True := trivial
theorem PySem.W.Fast.tw18181547330478563970 : True := trivial
theorem PySem.W.Fast.tw8641130169185635137 : True := trivial
theorem PySem.W.Fast.tw2648975949513924086 : True := trivial
theorem PySem.W.Fast.tw9516585154169554488 : True := trivial
theorem PySem.W.Fast.tw18366316247416051414 : True := trivial
theorem PySem.W.Fast.tw884971027255781855 : True := trivial
theorem PySem.W.Fast.tw5286924190939471744 : True := trivial
theorem PySem.W.Fast.tw664465379031705868 : True := trivial
theorem PySem.W.Fast.tw15130449442944022712 : True := trivial
theorem PySem.W.Fast.tw5257751583476860678 : True := trivial
theorem PySem.W.Fast.tw8216810292410530604 : True := trivial
theorem PySem.W.Fast.tw14763316386172252006 : True := trivial
theorem PySem.W.Fast.tw2076121380205032435 : True := trivial
theorem PySem.W.Fast.tw17892460670598610954 : True := trivial
theorem PySem.W.Fast.tw14791291265443081649 : True := trivial
theorem PySem.W.Fast.tw15257662479211851013 : True := trivial
theorem PySem.W.Fast.tw4807362549490575892 : True := trivial
theorem PySem.W.Fast.tw6135547294924559314 : True := trivial
theorem PySem.W.Fast.tw11219111666362214559 : True := trivial
theorem PySem.W.Fast.tw8920664140467650416 : True := trivial
theorem PySem.W.Fast.tw18279223871384668010 : True := trivial
theorem PySem.W.Fast.tw7450443155924142419 : True := trivial
theorem PySem.W.Fast.tw10268264916038475867 : True := trivial
theorem PySem.W.Fast.tw5501613754457415834 : True := trivial
theorem PySem.W.Fast.tw11132528027366840860 : True := trivial
theorem PySem.W.Fast.tw4703931340951311732 : True := trivial
theorem PySem.W.Fast.tw14262858122572128790 : True := trivial
theorem PySem.W.Fast.tw11676203608182040832 : True := trivial
theorem PySem.W.Fast.tw11866704648265865741 : True := trivial
theorem PySem.W.Fast.tw4402765686818431841 : True := trivial
theorem PySem.W.Fast.tw10906583604470927475 : True := trivial
theorem PySem.W.Fast.tw13879967611265620805 : True := trivial
theorem PySem.W.Fast.tw13578403013264277571 : True := trivial
theorem PySem.W.Fast.tw5237999461906374808 : True := trivial
theorem PySem.W.Fast.tw10439972720490829569 : True := trivial
theorem PySem.W.Fast.tw17770495370235910497 : True := trivial
theorem PySem.W.Fast.tw8712840070046604980 : True := trivial
theorem PySem.W.Fast.tw14180592037055991284 : True := trivial
theorem PySem.W.Fast.tw8077888557584843117 : True := trivial
theorem PySem.W.Fast.tw15888884241414907044 : True := trivial
theorem PySem.W.Fast.tw5243508665449213997 : True := trivial
theorem PySem.W.Fast.tw14204818135897233835 : True := trivial
theorem PySem.W.Fast.tw6358742702023626195 : True := trivial
theorem PySem.W.Fast.tw8287905853074899053 : True := trivial
theorem PySem.W.Fast.tw1642703098520592074 : True := trivial
theorem PySem.W.Fast.tw15863783371931230888 : True := trivial
theorem PySem.W.Fast.tw2612084553656534289 : True := trivial
theorem PySem.W.Fast.tw10396212472333657148 : True := trivial
theorem PySem.W.Fast.tw13318359380510739329 : True := trivial
theorem PySem.W.Fast.tw913062230244524437 : True := trivial
theorem PySem.W.Fast.tw10077066954062376128 : True := trivial
theorem PySem.W.Fast.tw5516219442996512868 : True := trivial
theorem PySem.W.Fast.tw18324016644839071667 : True := trivial
theorem PySem.W.Fast.tw8535519523137136923 : True := trivial
theorem PySem.W.Fast.tw5078099342728901026 : True := trivial
theorem PySem.W.Fast.tw9538951882707906045 : True := trivial
theorem PySem.W.Fast.tw1258527788088873236 : True := trivial
theorem PySem.W.Fast.tw10302730922578531978 : True := trivial
theorem PySem.W.Fast.tw12869590067608561455 : True := trivial
theorem PySem.W.Fast.tw353011168162028370 : True := trivial
theorem PySem.W.Fast.tw9033087428090046174 : True := trivial
theorem PySem.W.Fast.tw15908458025956005216 : True := trivial
theorem PySem.W.Fast.tw6726344930493913885 : True := trivial
theorem PySem.W.Fast.tw4793859530599009364 : True := trivial
theorem PySem.W.Fast.tw2248976448661758738 : True := trivial
theorem PySem.W.Fast.tw4756461649824921349 : True := trivial
theorem PySem.W.Fast.tw3147427122715230194 : True := trivial
theorem PySem.W.Fast.tw4452402566871040294 : True := trivial
theorem PySem.W.Fast.tw13210481058947151197 : True := trivial
theorem PySem.W.Fast.tw18216368433934395489 : True := trivial
theorem PySem.W.Fast.tw11207227724687185357 : True := trivial
theorem PySem.W.Fast.tw17414637188910817058 : True := trivial
theorem PySem.W.Fast.tw8929215711571278898 : True := trivial
theorem PySem.W.Fast.tw6365148471654658313 : True := trivial
theorem PySem.W.Fast.tw14209504594312139804 : True := trivial
theorem PySem.W.Fast.tw12941969247573748017 : True := trivial
theorem PySem.W.Fast.tw3184878776147989921 : True := trivial
theorem PySem.W.Fast.tw3017277578075654211 : True := trivial
theorem PySem.W.Fast.tw14021278714631104243 : True := trivial
theorem PySem.W.Fast.tw16777249027097323856 : True := trivial
theorem PySem.W.Fast.tw6332711929772989188 : True := trivial
theorem PySem.W.Fast.tw5647232182816297097 : True := trivial
theorem PySem.W.Fast.tw9393146882916498867 : True := trivial
theorem PySem.W.Fast.tw10557789729944139418 : True := trivial
theorem PySem.W.Fast.tw10371658577659694469 : True := trivial
theorem PySem.W.Fast.tw8349557319087355533 : True := trivial
theorem PySem.W.Fast.tw14947225781656938451 : True := trivial
theorem PySem.W.Fast.tw9870261586220711826 : True := trivial
theorem PySem.W.Fast.tw471250488521215653 : True := trivial
theorem PySem.W.Fast.tw18301905940756608588 : True := trivial
theorem PySem.W.Fast.tw2908193527794733454 : True := trivial
theorem PySem.W.Fast.tw10141734164022153964 : True := trivial
theorem PySem.W.Fast.tw5864705390667430978 : True := trivial
theorem PySem.W.Fast.tw8017919486146322239 : True := trivial
theorem PySem.W.Fast.tw16181983643629361591 : True := trivial
theorem PySem.W.Fast.tw2767652665634669737 : True := trivial
theorem PySem.W.Fast.tw7442072561297996837 : True := trivial
theorem PySem.W.Fast.tw1899605677458048967 : True := trivial
theorem PySem.W.Fast.tw1252661689237368665 : True := trivial
theorem PySem.W.Fast.tw9778375808646209146 : True := trivial
theorem PySem.W.Fast.tw5551841240435115100 : True := trivial
theorem PySem.W.Fast.tw5519698807177350831 : True := trivial
theorem PySem.W.Fast.tw6059039558341394053 : True := trivial
theorem PySem.W.Fast.tw1659265377873622389 : True := trivial
theorem PySem.W.Fast.tw12115033254319587400 : True := trivial
theorem PySem.W.Fast.tw7897924481158927313 : True := trivial
theorem PySem.W.Fast.tw8021518152518445191 : True := trivial
theorem PySem.W.Fast.tw4069819855077884506 : True := trivial
theorem PySem.W.Fast.tw5529845666630999039 : True := trivial
theorem PySem.W.Fast.tw8634612527653084060 : True := trivial
theorem PySem.W.Fast.tw5056254150869790377 : True := trivial
theorem PySem.W.Fast.tw6339290934332954474 : True := trivial
theorem PySem.W.Fast.tw11289525249567309755 : True := trivial
theorem PySem.W.Fast.tw11746394656427042202 : True := trivial
theorem PySem.W.Fast.tw15809011139857005982 : True := trivial
theorem PySem.W.Fast.tw3247604419889681711 : True := trivial
theorem PySem.W.Fast.tw207389897933041639 : True := trivial
theorem PySem.W.Fast.tw14384307582847316912 : True := trivial
theorem PySem.W.Fast.tw875557756940128984 : True := trivial
theorem PySem.W.Fast.tw13934843677114784261 : True := trivial
theorem PySem.W.Fast.tw17040387962834816055 : True := trivial
theorem PySem.W.Fast.tw3180903653969065222 : True := trivial
theorem PySem.W.Fast.tw177978238680563025 : True := trivial
theorem PySem.W.Fast.tw10279132396729520717 : True := trivial
theorem PySem.W.Fast.tw15439670104626659076 : True := trivial
theorem PySem.W.Fast.tw12191801069448406521 : True := trivial
theorem PySem.W.Fast.tw13364927372516217362 : True := trivial
theorem PySem.W.Fast.tw5782789748584201388 : True := trivial
theorem PySem.W.Fast.tw5685172511783178723 : True := trivial
theorem PySem.W.Fast.tw14271538901620376243 : True := trivial
theorem PySem.W.Fast.tw11670024693392091289 : True := trivial
theorem PySem.W.Fast.tw3073962113050897710 : True := trivial
theorem PySem.W.Fast.tw5712488730357392809 : True := trivial
theorem PySem.W.Fast.tw17666817720155557291 : True := trivial
theorem PySem.W.Fast.tw2949551422945241280 : True := trivial
theorem PySem.W.Fast.tw13948602009336332269 : True := trivial
theorem PySem.W.Fast.tw7967832665194307977 : True := trivial
theorem PySem.W.Fast.tw4505364188512019400 : True := trivial
theorem PySem.W.Fast.tw18079824013277915756 : True := trivial
theorem PySem.W.Fast.tw1701102854130948242 : True := trivial
theorem PySem.W.Fast.tw6735997286031547664 : True := trivial
theorem PySem.W.Fast.tw6216505953229464404 : True := trivial
theorem PySem.W.Fast.tw15067166513179795426 : True := trivial
theorem PySem.W.Fast.tw16249106581407347175 : True := trivial
theorem PySem.W.Fast.tw1196369370090112986 : True := trivial
theorem PySem.W.Fast.tw182770221227485028 : True := trivial
theorem PySem.W.Fast.tw7644403299369332770 : True := trivial
theorem PySem.W.Fast.tw14761672297592395460 : True := trivial
theorem PySem.W.Fast.tw17060911891937048866 : True := trivial
theorem PySem.W.Fast.tw13034956665312864723 : True := trivial
theorem PySem.W.Fast.tw13305177039248265945 : True := trivial
theorem PySem.W.Fast.tw3709025877128101003 : True := trivial
theorem PySem.W.Fast.tw12049308985345016786 : True := trivial
theorem PySem.W.Fast.tw17463564724999051758 : True := trivial
theorem PySem.W.Fast.tw12680313263813600935 : True := trivial
theorem PySem.W.Fast.tw897293366432333641 : True := trivial
theorem PySem.W.Fast.tw6916573907590700991 : True := trivial
theorem PySem.W.Fast.tw14174976155712369761 : True := trivial
theorem PySem.W.Fast.tw16428723454890333208 : True := trivial
theorem PySem.W.Fast.tw7427294257652098568 : True := trivial
theorem PySem.W.Fast.tw4753814140066238602 : True := trivial
theorem PySem.W.Fast.tw13865380438791284329 : True := trivial
theorem PySem.W.Fast.tw2101710977399355856 : True := trivial
theorem PySem.W.Fast.tw12606220398250265538 : True := trivial
theorem PySem.W.Fast.tw4708850618212070899 : True := trivial
theorem PySem.W.Fast.tw13717904482725372470 : True := trivial
theorem PySem.W.Fast.tw6134525147739112963 : True := trivial
theorem PySem.W.Fast.tw17998310265767653331 : True := trivial
theorem PySem.W.Fast.tw15125382035672820866 : True := trivial
theorem PySem.W.Fast.tw7712815813426068764 : True := trivial
theorem PySem.W.Fast.tw4196914826816690142 : True := trivial
theorem PySem.W.Fast.tw6057165268002941883 : True := trivial
theorem PySem.W.Fast.tw13607215876869381024 : True := trivial
theorem PySem.W.Fast.tw21260440882910256 : True := trivial
theorem PySem.W.Fast.tw339501195265685587 : True := trivial
theorem PySem.W.Fast.tw17147748556873991910 : True := trivial
theorem PySem.W.Fast.tw14005123032004010076 : True := trivial
theorem PySem.W.Fast.tw17841920945523397971 : True := trivial
theorem PySem.W.Fast.tw3060737855928518098 : True := trivial
theorem PySem.W.Fast.tw7965754991065880450 : True := trivial
theorem PySem.W.Fast.tw8393158414953099577 : True := trivial
theorem PySem.W.Fast.tw2812302488198230045 : True := trivial
theorem PySem.W.Fast.tw12286928006458214887 : True := trivial
theorem PySem.W.Fast.tw1111923845944416397 : True := trivial
theorem PySem.W.Fast.tw5809511497679648597 : True := trivial
theorem PySem.W.Fast.tw3668220938830086794 : True := trivial
theorem PySem.W.Fast.tw6314086948169310285 : True := trivial
theorem PySem.W.Fast.tw2605053035153850112 : True := trivial
theorem PySem.W.Fast.tw17882027064284066600 : True := trivial
theorem PySem.W.Fast.tw3840569562920769203 : True := trivial
theorem PySem.W.Fast.tw9555124141410611269 : True := trivial
theorem PySem.W.Fast.tw3840881891568935851 : True := trivial
theorem PySem.W.Fast.tw17365053067618336503 : True := trivial
theorem PySem.W.Fast.tw12783048050309772759 : True := trivial
theorem PySem.W.Fast.tw18197168034336481029 : True := trivial
theorem PySem.W.Fast.tw11895718996889979613 : True := trivial
theorem PySem.W.Fast.tw16408016232481646594 : True := trivial
theorem PySem.W.Fast.tw10087805859203739372 : True := trivial
theorem PySem.W.Fast.tw17886065785861605118 : True := trivial
theorem PySem.W.Fast.tw1957713001569750462 : True := trivial
theorem PySem.W.Fast.tw7040027983537594158 : True := trivial
theorem PySem.W.Fast.tw2384981094863875040 : True := trivial
theorem PySem.W.Fast.tw15491232762075309215 : True := trivial
theorem PySem.W.Fast.tw8074599425408468910 : True := trivial
theorem PySem.W.Fast.tw3421658385678451458 : True := trivial
theorem PySem.W.Fast.tw3026760187591021527 : True := trivial
theorem PySem.W.Fast.tw8290512380986820363 : True := trivial
theorem PySem.W.Fast.tw7427427019357341066 : True := trivial
theorem PySem.W.Fast.tw15769795403818675978 : True := trivial
theorem PySem.W.Fast.tw4485137175805570360 : True := trivial
theorem PySem.W.Fast.tw4009269328287587818 : True := trivial
theorem PySem.W.Fast.tw4660666479284261083 : True := trivial
theorem PySem.W.Fast.tw8188119328097206614 : True := trivial
theorem PySem.W.Fast.tw2547660992901895141 : True := trivial
theorem PySem.W.Fast.tw5088180392201617772 : True := trivial
theorem PySem.W.Fast.tw4534915868095226046 : True := trivial
theorem PySem.W.Fast.tw4112546937295823322 : True := trivial
theorem PySem.W.Fast.tw15524980059007542966 : True := trivial
theorem PySem.W.Fast.tw13859072823615446472 : True := trivial
theorem PySem.W.Fast.tw5047996248803601317 : True := trivial
theorem PySem.W.Fast.tw9642889148230041503 : True := trivial
theorem PySem.W.Fast.tw9958699164923748715 : True := trivial
theorem PySem.W.Fast.tw9179618339806718537 : True := trivial
theorem PySem.W.Fast.tw18096689450111992473 : True := trivial
theorem PySem.W.Fast.tw11732751785531768320 : True := trivial
theorem PySem.W.Fast.tw3154555809499506458 : True := trivial
theorem PySem.W.Fast.tw7908574427021999922 : True := trivial
theorem PySem.W.Fast.tw941071620391748242 : True := trivial
theorem PySem.W.Fast.tw5301146519426383916 : True := trivial
theorem PySem.W.Fast.tw2260678601705393446 : True := trivial
theorem PySem.W.Fast.tw3802478873517149136 : True := trivial
theorem PySem.W.Fast.tw11854010889444070891 : True := trivial
theorem PySem.W.Fast.tw14156529142575596465 : True := trivial
theorem PySem.W.Fast.tw3422096648739427837 : True := trivial
theorem PySem.W.Fast.tw14477023088794749880 : True := trivial
theorem PySem.W.Fast.tw9426438373345184951 : True := trivial
theorem PySem.W.Fast.tw7485622884828457786 : True := trivial
theorem PySem.W.Fast.tw7596063263749693646 : True := trivial
theorem PySem.W.Fast.tw13728649345446758340 : True := trivial
theorem PySem.W.Fast.tw1743771179456624340 : True := trivial
theorem PySem.W.Fast.tw3765904339048307903 : True := trivial
theorem PySem.W.Fast.tw11727048450355736484 : True := trivial
theorem PySem.W.Fast.tw10685640283229565480 : True := trivial
theorem PySem.W.Fast.tw1603692783862306769 : True := trivial
theorem PySem.W.Fast.tw2729792185384834754 : True := trivial
theorem PySem.W.Fast.tw5675939858936259376 : True := trivial
theorem PySem.W.Fast.tw6327879219393101898 : True := trivial
theorem PySem.W.Fast.tw665521302211966729 : True := trivial
theorem PySem.W.Fast.tw4580856477849728628 : True := trivial
theorem PySem.W.Fast.tw612439879764120640 : True := trivial
theorem PySem.W.Fast.tw18205720578475207068 : True := trivial
theorem PySem.W.Fast.tw11481571715190268441 : True := trivial
theorem PySem.W.Fast.tw15995931958048275135 : True := trivial
theorem PySem.W.Fast.tw2503705451023428120 : True := trivial
theorem PySem.W.Fast.tw15010169047606790157 : True := trivial
theorem PySem.W.Fast.tw13567824281741208241 : True := trivial
theorem PySem.W.Fast.tw8930425048557398354 : True := trivial
theorem PySem.W.Fast.tw14765129506160168495 : True := trivial
theorem PySem.W.Fast.tw1136463227288590487 : True := trivial
theorem PySem.W.Fast.tw14088215564710273372 : True := trivial
theorem PySem.W.Fast.tw17557961288478035705 : True := trivial
theorem PySem.W.Fast.tw7748574167802242430 : True := trivial
theorem PySem.W.Fast.tw11907551963679964551 : True := trivial
theorem PySem.W.Fast.tw7118615685490202127 : True := trivial
theorem PySem.W.Fast.tw16995656104888916030 : True := trivial
theorem PySem.W.Fast.tw17310638313456827701 : True := trivial
theorem PySem.W.Fast.tw12423494331473245031 : True := trivial
theorem PySem.W.Fast.tw3280962371623584163 : True := trivial
theorem PySem.W.Fast.tw3347773847031389973 : True := trivial
theorem PySem.W.Fast.tw17220694800219374749 : True := trivial
theorem PySem.W.Fast.tw7761287211524997378 : True := trivial
theorem PySem.W.Fast.tw3707437937743486458 : True := trivial
theorem PySem.W.Fast.tw15658112187891075457 : True := trivial
theorem PySem.W.Fast.tw11145259508025232641 : True := trivial
theorem PySem.W.Fast.tw10664722022141405415 : True := trivial
theorem PySem.W.Fast.tw10308129933779829702 : True := trivial
theorem PySem.W.Fast.tw6194033169301161296 : True := trivial
theorem PySem.W.Fast.tw9921233099657370451 : True := trivial
theorem PySem.W.Fast.tw11980945007563991399 : True := trivial
theorem PySem.W.Fast.tw8885585994481466917 : True := trivial
theorem PySem.W.Fast.tw16143510245739329426 : True := trivial
theorem PySem.W.Fast.tw15274625336066964157 : True := trivial
theorem PySem.W.Fast.tw17719609202983708946 : True := trivial
theorem PySem.W.Fast.tw15461441710516791252 : True := trivial
theorem PySem.W.Fast.tw13625642792648094968 : True := trivial
theorem PySem.W.Fast.tw6593163623213212538 : True := trivial
theorem PySem.W.Fast.tw13010471007739922676 : True := trivial
theorem PySem.W.Fast.tw9344279487945353940 : True := trivial
theorem PySem.W.Fast.tw11712944995259734847 : True := trivial
theorem PySem.W.Fast.tw16234295464126101206 : True := trivial
theorem PySem.W.Fast.tw10781962249421290402 : True := trivial
theorem PySem.W.Fast.tw16378854521181624033 : True := trivial
theorem PySem.W.Fast.tw12741769962202547972 : True := trivial
theorem PySem.W.Fast.tw17696968523964606512 : True := trivial
theorem PySem.W.Fast.tw17837897819425321466 : True := trivial
theorem PySem.W.Fast.tw5337289681497580641 : True := trivial
theorem PySem.W.Fast.tw6530664468823770321 : True := trivial
theorem PySem.W.Fast.tw13623558443772342586 : True := trivial
theorem PySem.W.Fast.tw712842632728479526 : True := trivial
theorem PySem.W.Fast.tw15278409643181821052 : True := trivial
theorem PySem.W.Fast.tw9192733160382083685 : True := trivial
theorem PySem.W.Fast.tw10516791644166257819 : True := trivial
theorem PySem.W.Fast.tw6919381016415252825 : True := trivial
theorem PySem.W.Fast.tw6264946757014528520 : True := trivial
theorem PySem.W.Fast.tw6496622974674913287 : True := trivial
theorem PySem.W.Fast.tw360757634633302833 : True := trivial
theorem PySem.W.Fast.tw8746347999645636249 : True := trivial
theorem PySem.W.Fast.tw9930775438397953155 : True := trivial
theorem PySem.W.Fast.tw10568816622980595980 : True := trivial
theorem PySem.W.Fast.tw14157798506086687697 : True := trivial
theorem PySem.W.Fast.tw4232068549727560649 : True := trivial
theorem PySem.W.Fast.tw9527029832155359686 : True := trivial
theorem PySem.W.Fast.tw5615871328891570939 : True := trivial
theorem PySem.W.Fast.tw4337248683519221426 : True := trivial
theorem PySem.W.Fast.tw8908730801726566063 : True := trivial
theorem PySem.W.Fast.tw6368345699522020931 : True := trivial
theorem PySem.W.Fast.tw8175341620051557389 : True := trivial
theorem PySem.W.Fast.tw3673019815029378888 : True := trivial
theorem PySem.W.Fast.tw17292126523141861842 : True := trivial
theorem PySem.W.Fast.tw3255354087761129461 : True := trivial
theorem PySem.W.Fast.tw6638689923437810949 : True := trivial
theorem PySem.W.Fast.tw10819562891468956275 : True := trivial
theorem PySem.W.Fast.tw6594264106066933560 : True := trivial
theorem PySem.W.Fast.tw6508290657589584361 : True := trivial
theorem PySem.W.Fast.tw220585474778388984 : True := trivial
theorem PySem.W.Fast.tw15070921729256724230 : True := trivial
theorem PySem.W.Fast.tw16269417895904364767 : True := trivial
theorem PySem.W.Fast.tw14824918472375792058 : True := trivial
theorem PySem.W.Fast.tw6477088810042000782 : True := trivial
theorem PySem.W.Fast.tw16563983800147473662 : True := trivial
theorem PySem.W.Fast.tw17958810700318731471 : True := trivial
theorem PySem.W.Fast.tw6273459384294588537 : True := trivial
theorem PySem.W.Fast.tw13201821022980131799 : True := trivial
theorem PySem.W.Fast.tw10843675667531303565 : True := trivial
theorem PySem.W.Fast.tw4098182397723396491 : True := trivial
theorem PySem.W.Fast.tw7597770100530906301 : True := trivial
theorem PySem.W.Fast.tw17920232125758242378 : True := trivial
theorem PySem.W.Fast.tw10133403194663099098 : True := trivial
theorem PySem.W.Fast.tw18301367139787214111 : True := trivial
theorem PySem.W.Fast.tw6617057390327945542 : True := trivial
theorem PySem.W.Fast.tw2623694511979080785 : True := trivial
theorem PySem.W.Fast.tw5473238179465571258 : True := trivial
theorem PySem.W.Fast.tw11674431037759951640 : True := trivial
theorem PySem.W.Fast.tw2088381920542924753 : True := trivial
theorem PySem.W.Fast.tw5058542881069884563 : True := trivial
theorem PySem.W.Fast.tw10253726179779571157 : True := trivial
theorem PySem.W.Fast.tw8084150889957027446 : True := trivial
theorem PySem.W.Fast.tw6823741679316917516 : True := trivial
theorem PySem.W.Fast.tw9720566102070661091 : True := trivial
theorem PySem.W.Fast.tw16095511816926714241 : True := trivial
theorem PySem.W.Fast.tw1317071620025715528 : True := trivial
theorem PySem.W.Fast.tw1616507981442003744 : True := trivial
theorem PySem.W.Fast.tw9754529922253197755 : True := trivial
theorem PySem.W.Fast.tw3073613030758890020 : True := trivial
theorem PySem.W.Fast.tw7006821448491290155 : True := trivial
theorem PySem.W.Fast.tw10871237968566078242 : True := trivial
theorem PySem.W.Fast.tw13850110656587180800 : True := trivial
theorem PySem.W.Fast.tw12778900997019345133 : True := trivial
theorem PySem.W.Fast.tw7995641132142969981 : True := trivial
theorem PySem.W.Fast.tw9971036831568086575 : True := trivial
theorem PySem.W.Fast.tw12236392962146906690 : True := trivial
theorem PySem.W.Fast.tw9735031130523586278 : True := trivial
theorem PySem.W.Fast.tw9001925636404307166 : True := trivial
theorem PySem.W.Fast.tw3113461252870464386 : True := trivial
theorem PySem.W.Fast.tw3408840331830413550 : True := trivial
theorem PySem.W.Fast.tw7387629760696337882 : True := trivial
theorem PySem.W.Fast.tw8426537059259868251 : True := trivial
theorem PySem.W.Fast.tw9533211659196287630 : True := trivial
theorem PySem.W.Fast.tw8583777868083140776 : True := trivial
theorem PySem.W.Fast.tw1418250609415963114 : True := trivial
theorem PySem.W.Fast.tw2427260798293502042 : True := trivial
theorem PySem.W.Fast.tw12003016669110084546 : True := trivial
theorem PySem.W.Fast.tw12904870662511979492 : True := trivial
theorem PySem.W.Fast.tw13830570236831701333 : True := trivial
theorem PySem.W.Fast.tw9542478418345837305 : True := trivial
theorem PySem.W.Fast.tw3750423166046854303 : True := trivial
theorem PySem.W.Fast.tw1162365942308628979 : True := trivial
theorem PySem.W.Fast.tw8771579267373871202 : True := trivial
theorem PySem.W.Fast.tw12694929609281272065 : True := trivial
theorem PySem.W.Fast.tw13272114218936541567 : True := trivial
theorem PySem.W.Fast.tw14105133359362043852 : True := trivial
theorem PySem.W.Fast.tw16595128245643616772 : True := trivial
theorem PySem.W.Fast.tw2323821432732135714 : True := trivial
theorem PySem.W.Fast.tw16719887918624192173 : True := trivial
theorem PySem.W.Fast.tw9179650085175094754 : True := trivial
theorem PySem.W.Fast.tw343334941785195630 : True := trivial
theorem PySem.W.Fast.tw11493656837694615175 : True := trivial
theorem PySem.W.Fast.tw1975495907065852695 : True := trivial
theorem PySem.W.Fast.tw909438464902758074 : True := trivial
theorem PySem.W.Fast.tw9660523638294316055 : True := trivial
theorem PySem.W.Fast.tw16703859045935179497 : True := trivial
theorem PySem.W.Fast.tw3241101162340918042 : True := trivial
theorem PySem.W.Fast.tw2203477143662493263 : True := trivial
theorem PySem.W.Fast.tw18047305155590307469 : True := trivial
theorem PySem.W.Fast.tw13424052993966884899 : True := trivial
theorem PySem.W.Fast.tw4370661124689755416 : True := trivial
theorem PySem.W.Fast.tw16577652112639036070 : True := trivial
theorem PySem.W.Fast.tw11287657821381259167 : True := trivial
theorem PySem.W.Fast.tw267949518176323127 : True := trivial
theorem PySem.W.Fast.tw5830700579817732374 : True := trivial
theorem PySem.W.Fast.tw1448855022830554259 : True := trivial
theorem PySem.W.Fast.tw14713777164732316518 : True := trivial
theorem PySem.W.Fast.tw11394290233447420227 : True := trivial
theorem PySem.W.Fast.tw1466295511740869521 : True := trivial
theorem PySem.W.Fast.tw12359131330563507184 : True := trivial
theorem PySem.W.Fast.tw10693448133397951023 : True := trivial
theorem PySem.W.Fast.tw16823638923572103751 : True := trivial
theorem PySem.W.Fast.tw9000052722115137130 : True := trivial
theorem PySem.W.Fast.tw3944408623782533399 : True := trivial
theorem PySem.W.Fast.tw7251828324536115146 : True := trivial
theorem PySem.W.Fast.tw11983394327164397126 : True := trivial
theorem PySem.W.Fast.tw5281034778592564437 : True := trivial
theorem PySem.W.Fast.tw8283240889688880669 : True := trivial
theorem PySem.W.Fast.tw14612417631132002702 : True := trivial
theorem PySem.W.Fast.tw2419537864271581632 : True := trivial
theorem PySem.W.Fast.tw11738654625689752872 : True := trivial
theorem PySem.W.Fast.tw5900352694686527606 : True := trivial
theorem PySem.W.Fast.tw17126826332154846309 : True := trivial
theorem PySem.W.Fast.tw14306318374476430237 : True := trivial
theorem PySem.W.Fast.tw12506698422516648759 : True := trivial
theorem PySem.W.Fast.tw15680228717140146134 : True := trivial
theorem PySem.W.Fast.tw8264448737507845508 : True := trivial
theorem PySem.W.Fast.tw8991036514566730104 : True := trivial
theorem PySem.W.Fast.tw3636237465143359687 : True := trivial
theorem PySem.W.Fast.tw1889054769659266739 : True := trivial
theorem PySem.W.Fast.tw1155284914771203281 : True := trivial
theorem PySem.W.Fast.tw17192620656435337156 : True := trivial
theorem PySem.W.Fast.tw13125856657693861111 : True := trivial
theorem PySem.W.Fast.tw15730478115063685986 : True := trivial
theorem PySem.W.Fast.tw2062387690588164938 : True := trivial
theorem PySem.W.Fast.tw14039040909072911929 : True := trivial
theorem PySem.W.Fast.tw7884912996567333961 : True := trivial
theorem PySem.W.Fast.tw17509190544765307711 : True := trivial
theorem PySem.W.Fast.tw12812626283297284914 : True := trivial
theorem PySem.W.Fast.tw3827550747111198998 : True := trivial
theorem PySem.W.Fast.tw11661103514387885213 : True := trivial
theorem PySem.W.Fast.tw6923810642462751655 : True := trivial
theorem PySem.W.Fast.tw10919180781816176317 : True := trivial
theorem PySem.W.Fast.tw3504872359122324005 : True := trivial
theorem PySem.W.Fast.tw10489896019878849834 : True := trivial
theorem PySem.W.Fast.tw1465001847736782909 : True := trivial
theorem PySem.W.Fast.tw2694625983340325543 : True := trivial
theorem PySem.W.Fast.tw10003564753137283025 : True := trivial
theorem PySem.W.Fast.tw840038447801182691 : True := trivial
theorem PySem.W.Fast.tw5457086476559133338 : True := trivial
theorem PySem.W.Fast.tw15453467058044584634 : True := trivial
theorem PySem.W.Fast.tw17228097928391626617 : True := trivial
theorem PySem.W.Fast.tw13599065594011075198 : True := trivial
theorem PySem.W.Fast.tw1697153157388883899 : True := trivial
theorem PySem.W.Fast.tw9296913944435512656 : True := trivial
theorem PySem.W.Fast.tw7599607594480313548 : True := trivial
theorem PySem.W.Fast.tw16410537448598306714 : True := trivial
theorem PySem.W.Fast.tw2807281475036543152 : True := trivial
theorem PySem.W.Fast.tw14073567329024584284 : True := trivial
theorem PySem.W.Fast.tw3554731032399981665 : True := trivial
theorem PySem.W.Fast.tw15701912900772207834 : True := trivial
theorem PySem.W.Fast.tw6459562767623238849 : True := trivial
theorem PySem.W.Fast.tw8808122102330495824 : True := trivial
theorem PySem.W.Fast.tw2502207628321583112 : True := trivial
theorem PySem.W.Fast.tw11552976165342956491 : True := trivial
theorem PySem.W.Fast.tw16455670243100840031 : True := trivial
theorem PySem.W.Fast.tw2935467380388623062 : True := trivial
theorem PySem.W.Fast.tw13676260439049321365 : True := trivial
theorem PySem.W.Fast.tw7203904201610987842 : True := trivial
theorem PySem.W.Fast.tw1850392160798113994 : True := trivial
theorem PySem.W.Fast.tw8082548372004335199 : True := trivial
theorem PySem.W.Fast.tw17946131120589720229 : True := trivial
theorem PySem.W.Fast.tw9650893055217589738 : True := trivial
theorem PySem.W.Fast.tw13009075287728950046 : True := trivial
theorem PySem.W.Fast.tw14444785229686650787 : True := trivial
theorem PySem.W.Fast.tw8944289542272015610 : True := trivial
theorem PySem.W.Fast.tw2616562062060608011 : True := trivial
theorem PySem.W.Fast.tw18298608539105969631 : True := trivial
theorem PySem.W.Fast.tw941372033045911352 : True := trivial
theorem PySem.W.Fast.tw6734358120319014803 : True := trivial
theorem PySem.W.Fast.tw7635682455247136787 : True := trivial
theorem PySem.W.Fast.tw48367995290452889 : True := trivial
theorem PySem.W.Fast.tw9927693246206361956 : True := trivial
theorem PySem.W.Fast.tw8648534761963514675 : True := trivial
theorem PySem.W.Fast.tw14604462440350344168 : True := trivial
theorem PySem.W.Fast.tw4598746398306019008 : True := trivial
theorem PySem.W.Fast.tw3019337644929075498 : True := trivial
theorem PySem.W.Fast.tw11725101585046926086 : True := trivial
theorem PySem.W.Fast.tw15334532471243936281 : True := trivial
theorem PySem.W.Fast.tw17200544717508680728 : True := trivial
theorem PySem.W.Fast.tw1997301889414924863 : True := trivial
theorem PySem.W.Fast.tw889887452327656092 : True := trivial
theorem PySem.W.Fast.tw10289102430315592997 : True := trivial
theorem PySem.W.Fast.tw7688033420928719767 : True := trivial
theorem PySem.W.Fast.tw9724801378863017547 : True := trivial
theorem PySem.W.Fast.tw15128111790827853002 : True := trivial
theorem PySem.W.Fast.tw124791537753756406 : True := trivial
theorem PySem.W.Fast.tw13767724162079006509 : True := trivial
theorem PySem.W.Fast.tw5691778530798599649 : True := trivial
theorem PySem.W.Fast.tw17030851263247712414 : True := trivial
theorem PySem.W.Fast.tw12027209234118577043 : True := trivial
theorem PySem.W.Fast.tw371256690824909344 : True := trivial
theorem PySem.W.Fast.tw620184841755350397 : True := trivial
theorem PySem.W.Fast.tw15015806249808876747 : True := trivial
theorem PySem.W.Fast.tw9572825140894362045 : True := trivial
theorem PySem.W.Fast.tw3676638786661397722 : True := trivial
theorem PySem.W.Fast.tw17829586221835130654 : True := trivial
theorem PySem.W.Fast.tw3112542474969549539 : True := trivial
theorem PySem.W.Fast.tw8144375657832169757 : True := trivial
theorem PySem.W.Fast.tw11748544898235194930 : True := trivial
theorem PySem.W.Fast.tw6287379056078414939 : True := trivial
theorem PySem.W.Fast.tw15043751721269840616 : True := trivial
theorem PySem.W.Fast.tw3869788841804515750 : True := trivial
theorem PySem.W.Fast.tw1685552797306796861 : True := trivial
theorem PySem.W.Fast.tw621930805516775970 : True := trivial
theorem PySem.W.Fast.tw7602951082231628755 : True := trivial
theorem PySem.W.Fast.tw6300053749400076467 : True := trivial
theorem PySem.W.Fast.tw17289667352330116918 : True := trivial
theorem PySem.W.Fast.tw10352499503759396683 : True := trivial
theorem PySem.W.Fast.tw15864464681617743538 : True := trivial
theorem PySem.W.Fast.tw4654787087282641270 : True := trivial
theorem PySem.W.Fast.tw3104312877204246171 : True := trivial
theorem PySem.W.Fast.tw4342751842545720642 : True := trivial
theorem PySem.W.Fast.tw15789027676677347225 : True := trivial
theorem PySem.W.Fast.tw17712015111702005219 : True := trivial
theorem PySem.W.Fast.tw1802197098004160335 : True := trivial
theorem PySem.W.Fast.tw14757358681052642784 : True := trivial
theorem PySem.W.Fast.tw7606339884962033836 : True := trivial
theorem PySem.W.Fast.tw6211961940606957472 : True := trivial
theorem PySem.W.Fast.tw16114018145113239005 : True := trivial
theorem PySem.W.Fast.tw15657281654776456216 : True := trivial
theorem PySem.W.Fast.tw16205659550081814505 : True := trivial
theorem PySem.W.Fast.tw6768840104054362238 : True := trivial
theorem PySem.W.Fast.tw7433845999566744467 : True := trivial
theorem PySem.W.Fast.tw9992811214814778650 : True := trivial
theorem PySem.W.Fast.tw17087811923919077327 : True := trivial
theorem PySem.W.Fast.tw16369973186610012294 : True := trivial
theorem PySem.W.Fast.tw9628186000403927591 : True := trivial
theorem PySem.W.Fast.tw5603432722476342992 : True := trivial
theorem PySem.W.Fast.tw1886320221391682961 : True := trivial
theorem PySem.W.Fast.tw3363247908238345989 : True := trivial
theorem PySem.W.Fast.tw12934221574032375789 : True := trivial
theorem PySem.W.Fast.tw11182604667432090942 : True := trivial
theorem PySem.W.Fast.tw2155026054978728018 : True := trivial
theorem PySem.W.Fast.tw4452320981304843985 : True := trivial
theorem PySem.W.Fast.tw2748510370762873078 : True := trivial
theorem PySem.W.Fast.tw428216870811624096 : True := trivial
theorem PySem.W.Fast.tw17451231157590851328 : True := trivial
theorem PySem.W.Fast.tw16667655297774292508 : True := trivial
theorem PySem.W.Fast.tw17171971280022955428 : True := trivial
theorem PySem.W.Fast.tw7566458716412142485 : True := trivial
theorem PySem.W.Fast.tw4381736757786655996 : True := trivial
theorem PySem.W.Fast.tw14011970939196007948 : True := trivial
theorem PySem.W.Fast.tw1343698682406116684 : True := trivial
theorem PySem.W.Fast.tw6892462057328864252 : True := trivial
theorem PySem.W.Fast.tw2177248361220899465 : True := trivial
theorem PySem.W.Fast.tw17939028294150654089 : True := trivial
theorem PySem.W.Fast.tw7821900428219725605 : True := trivial
theorem PySem.W.Fast.tw7494680506418108217 : True := trivial
theorem PySem.W.Fast.tw13889410512331550542 : True := trivial
theorem PySem.W.Fast.tw848198940722154835 : True := trivial
theorem PySem.W.Fast.tw10138251661512299158 : True := trivial
theorem PySem.W.Fast.tw7915660869878542101 : True := trivial
theorem PySem.W.Fast.tw5131568618481987151 : True := trivial
theorem PySem.W.Fast.tw11349465054919612160 : True := trivial
theorem PySem.W.Fast.tw13415161123310680426 : True := trivial
theorem PySem.W.Fast.tw4886005081352277351 : True := trivial
theorem PySem.W.Fast.tw14280075148471397602 : True := trivial
theorem PySem.W.Fast.tw1772393069456265815 : True := trivial
theorem PySem.W.Fast.tw17411509111627730387 : True := trivial
theorem PySem.W.Fast.tw15782837673523228328 : True := trivial
theorem PySem.W.Fast.tw15046224373436586777 : True := trivial
theorem PySem.W.Fast.tw11226180711150189575 : True := trivial
theorem PySem.W.Fast.tw13670474946131136472 : True := trivial
theorem PySem.W.Fast.tw17817552474245956416 : True := trivial
theorem PySem.W.Fast.tw16867786161539308993 : True := trivial
theorem PySem.W.Fast.tw5242362407739299825 : True := trivial
theorem PySem.W.Fast.tw16571286016605426312 : True := trivial
theorem PySem.W.Fast.tw1893474003135383198 : True := trivial
theorem PySem.W.Fast.tw17241919221952952116 : True := trivial
theorem PySem.W.Fast.tw9226609403207108838 : True := trivial
theorem PySem.W.Fast.tw15804631147531455192 : True := trivial
theorem PySem.W.Fast.tw18253837761254272027 : True := trivial
theorem PySem.W.Fast.tw4761773842589943699 : True := trivial
theorem PySem.W.Fast.tw5113765591236571736 : True := trivial
theorem PySem.W.Fast.tw16555509066385500549 : True := trivial
theorem PySem.W.Fast.tw14821393902243862314 : True := trivial
theorem PySem.W.Fast.tw14984035172796193356 : True := trivial
theorem PySem.W.Fast.tw205028152129253388 : True := trivial
theorem PySem.W.Fast.tw9115627191182297332 : True := trivial
theorem PySem.W.Fast.tw3734388327674274458 : True := trivial
theorem PySem.W.Fast.tw6931097833089768702 : True := trivial
theorem PySem.W.Fast.tw419751119154283877 : True := trivial
theorem PySem.W.Fast.tw1301598374759699130 : True := trivial
theorem PySem.W.Fast.tw13584394279523943423 : True := trivial
theorem PySem.W.Fast.tw8574967008467174905 : True := trivial
theorem PySem.W.Fast.tw10598085075452208028 : True := trivial
theorem PySem.W.Fast.tw8774256235425627477 : True := trivial
theorem PySem.W.Fast.tw921297221701002579 : True := trivial
theorem PySem.W.Fast.tw9992079016521691413 : True := trivial
theorem PySem.W.Fast.tw7802613672437434050 : True := trivial
theorem PySem.W.Fast.tw16623363707470618070 : True := trivial
theorem PySem.W.Fast.tw6389783132169120483 : True := trivial
theorem PySem.W.Fast.tw7305400554537808260 : True := trivial
theorem PySem.W.Fast.tw8281043186556641790 : True := trivial
theorem PySem.W.Fast.tw12719906307959778460 : True := trivial
theorem PySem.W.Fast.tw5762508337742115839 : True := trivial
theorem PySem.W.Fast.tw1867655501523014405 : True := trivial
theorem PySem.W.Fast.tw17358611209000939120 : True := trivial
theorem PySem.W.Fast.tw12629563131315668312 : True := trivial
theorem PySem.W.Fast.tw15592267957757827330 : True := trivial
theorem PySem.W.Fast.tw7785512522388427524 : True := trivial
theorem PySem.W.Fast.tw2621588435261246803 : True := trivial
theorem PySem.W.Fast.tw10647908401743556929 : True := trivial
theorem PySem.W.Fast.tw2375632696954367008 : True := trivial
theorem PySem.W.Fast.tw3871713918484288311 : True := trivial
theorem PySem.W.Fast.tw13201481012429402942 : True := trivial
theorem PySem.W.Fast.tw113339338398227135 : True := trivial
theorem PySem.W.Fast.tw7757087358438943593 : True := trivial
theorem PySem.W.Fast.tw3647539971716275345 : True := trivial
theorem PySem.W.Fast.tw7586166462123061854 : True := trivial
theorem PySem.W.Fast.tw12232240928726457348 : True := trivial
theorem PySem.W.Fast.tw15169866792525468807 : True := trivial
theorem PySem.W.Fast.tw7211968721544817692 : True := trivial
theorem PySem.W.Fast.tw8461466012866123875 : True := trivial
theorem PySem.W.Fast.tw15940060078140351128 : True := trivial
theorem PySem.W.Fast.tw17917653260612705507 : True := trivial
theorem PySem.W.Fast.tw8700507875349994570 : True := trivial
theorem PySem.W.Fast.tw5804177530567456524 : True := trivial
theorem PySem.W.Fast.tw3730956901517275058 : True := trivial
theorem PySem.W.Fast.tw2378179369882568058 : True := trivial
theorem PySem.W.Fast.tw211846603454140649 : True := trivial
theorem PySem.W.Fast.tw6562921453248863943 : True := trivial
theorem PySem.W.Fast.tw15845842968672878336 : True := trivial
theorem PySem.W.Fast.tw8649789110225877176 : True := trivial
theorem PySem.W.Fast.tw14195830079133677069 : True := trivial
theorem PySem.W.Fast.tw16637520730204244778 : True := trivial
theorem PySem.W.Fast.tw5422393312400567635 : True := trivial
theorem PySem.W.Fast.tw1510669963149665334 : True := trivial
theorem PySem.W.Fast.tw794991101570150768 : True := trivial
theorem PySem.W.Fast.tw3720929601311524417 : True := trivial
theorem PySem.W.Fast.tw6288206276750472675 : True := trivial
theorem PySem.W.Fast.tw7514375351741432064 : True := trivial
theorem PySem.W.Fast.tw12332056264128674419 : True := trivial
theorem PySem.W.Fast.tw14761251676963402784 : True := trivial
theorem PySem.W.Fast.tw4823116194529963967 : True := trivial
theorem PySem.W.Fast.tw4950126175928797391 : True := trivial
theorem PySem.W.Fast.tw3139884047238914485 : True := trivial
theorem PySem.W.Fast.tw13887244352868740834 : True := trivial
theorem PySem.W.Fast.tw16807141007301844297 : True := trivial
theorem PySem.W.Fast.tw5817441102151888008 : True := trivial
theorem PySem.W.Fast.tw16570666247858034138 : True := trivial
theorem PySem.W.Fast.tw1850836360217232499 : True := trivial
theorem PySem.W.Fast.tw6286809350075611549 : True := trivial
theorem PySem.W.Fast.tw15527492542998808668 : True := trivial
theorem PySem.W.Fast.tw6408172588206422697 : True := trivial
theorem PySem.W.Fast.tw9241142533575076713 : True := trivial
theorem PySem.W.Fast.tw10175413078436542117 : True := trivial
theorem PySem.W.Fast.tw16545321145711260299 : True := trivial
theorem PySem.W.Fast.tw13445038701293805710 : True := trivial
theorem PySem.W.Fast.tw1301559283053425657 : True := trivial
theorem PySem.W.Fast.tw5448372022244982298 : True := trivial
theorem PySem.W.Fast.tw12690809588934100238 : True := trivial
theorem PySem.W.Fast.tw8660346164124622728 : True := trivial
theorem PySem.W.Fast.tw11542278391198161657 : True := trivial
theorem PySem.W.Fast.tw2070908655358552878 : True := trivial
theorem PySem.W.Fast.tw15870703095222539353 : True := trivial
theorem PySem.W.Fast.tw6656837634372392506 : True := trivial
theorem PySem.W.Fast.tw16784051202671569654 : True := trivial
theorem PySem.W.Fast.tw6585404918374031481 : True := trivial
theorem PySem.W.Fast.tw1342927527977764662 : True := trivial
theorem PySem.W.Fast.tw3076054616854422550 : True := trivial
theorem PySem.W.Fast.tw14409417130774502099 : True := trivial
theorem PySem.W.Fast.tw9847177454048268367 : True := trivial
theorem PySem.W.Fast.tw15073998390450389315 : True := trivial
theorem PySem.W.Fast.tw11652262394092696121 : True := trivial
theorem PySem.W.Fast.tw4749535729069652753 : True := trivial
theorem PySem.W.Fast.tw12256514079843256578 : True := trivial
theorem PySem.W.Fast.tw6772353584693130519 : True := trivial
theorem PySem.W.Fast.tw18123251732497223159 : True := trivial
theorem PySem.W.Fast.tw11590265270405560105 : True := trivial
theorem PySem.W.Fast.tw17558306000561262375 : True := trivial
theorem PySem.W.Fast.tw6653196597908115420 : True := trivial
theorem PySem.W.Fast.tw2752902182297181907 : True := trivial
theorem PySem.W.Fast.tw14649178428312851702 : True := trivial
theorem PySem.W.Fast.tw4617530494188333044 : True := trivial
theorem PySem.W.Fast.tw4371444631399359003 : True := trivial
theorem PySem.W.Fast.tw450101496708529444 : True := trivial
theorem PySem.W.Fast.tw3134683897805023794 : True := trivial
theorem PySem.W.Fast.tw5039993438168884656 : True := trivial
theorem PySem.W.Fast.tw6367310857817281147 : True := trivial
theorem PySem.W.Fast.tw2384840885862052541 : True := trivial
theorem PySem.W.Fast.tw5764524083602240135 : True := trivial
theorem PySem.W.Fast.tw5014611529723738901 : True := trivial
theorem PySem.W.Fast.tw12881694850836449931 : True := trivial
theorem PySem.W.Fast.tw16686473939140105885 : True := trivial
theorem PySem.W.Fast.tw13448555025667978192 : True := trivial
theorem PySem.W.Fast.tw16959270759227705794 : True := trivial
theorem PySem.W.Fast.tw13648583432001318372 : True := trivial
theorem PySem.W.Fast.tw4470668507158012138 : True := trivial
theorem PySem.W.Fast.tw9798123706217677419 : True := trivial
theorem PySem.W.Fast.tw12071869778856745902 : True := trivial
theorem PySem.W.Fast.tw17319584927625805468 : True := trivial
theorem PySem.W.Fast.tw2553992612043794213 : True := trivial
theorem PySem.W.Fast.tw8218662650469633604 : True := trivial
theorem PySem.W.Fast.tw17587928401850762283 : True := trivial
theorem PySem.W.Fast.tw15017256941147581855 : True := trivial
theorem PySem.W.Fast.tw5251937525511573235 : True := trivial
theorem PySem.W.Fast.tw1134086800879870280 : True := trivial
theorem PySem.W.Fast.tw10007444922548234049 : True := trivial
theorem PySem.W.Fast.tw16288804933890254941 : True := trivial
theorem PySem.W.Fast.tw17207409583725844254 : True := trivial
theorem PySem.W.Fast.tw6014198272342642393 : True := trivial
theorem PySem.W.Fast.tw9794143449215743568 : True := trivial
theorem PySem.W.Fast.tw13314122514772857791 : True := trivial
theorem PySem.W.Fast.tw253038511870557164 : True := trivial
theorem PySem.W.Fast.tw9632813115879442594 : True := trivial
theorem PySem.W.Fast.tw415402155996166607 : True := trivial
theorem PySem.W.Fast.tw585625353852287104 : True := trivial
theorem PySem.W.Fast.tw14456469947232557691 : True := trivial
theorem PySem.W.Fast.tw15072541632159542131 : True := trivial
theorem PySem.W.Fast.tw3636299335942803935 : True := trivial
theorem PySem.W.Fast.tw9894993373641586513 : True := trivial
theorem PySem.W.Fast.tw9722960978547258562 : True := trivial
theorem PySem.W.Fast.tw10228376619949782808 : True := trivial
theorem PySem.W.Fast.tw14282997242899787934 : True := trivial
theorem PySem.W.Fast.tw1716276021081069867 : True := trivial
theorem PySem.W.Fast.tw1676347294639282102 : True := trivial
theorem PySem.W.Fast.tw9637358175804220570 : True := trivial
theorem PySem.W.Fast.tw8327281946888076662 : True := trivial
theorem PySem.W.Fast.tw5934178281358916956 : True := trivial
theorem PySem.W.Fast.tw2137178703074947358 : True := trivial
theorem PySem.W.Fast.tw72099077459543094 : True := trivial
theorem PySem.W.Fast.tw17541753912664844434 : True := trivial
theorem PySem.W.Fast.tw3303359662427090062 : True := trivial
theorem PySem.W.Fast.tw9964863192283937812 : True := trivial
theorem PySem.W.Fast.tw2070778894362102648 : True := trivial
theorem PySem.W.Fast.tw14645057613683863980 : True := trivial
theorem PySem.W.Fast.tw9599348226163407991 : True := trivial
theorem PySem.W.Fast.tw17679972875678493586 : True := trivial
theorem PySem.W.Fast.tw17707820879059474136 : True := trivial
theorem PySem.W.Fast.tw8795371282839453193 : True := trivial
theorem PySem.W.Fast.tw14995917580338652253 : True := trivial
theorem PySem.W.Fast.tw14380955261690567378 : True := trivial
theorem PySem.W.Fast.tw16606883022783132057 : True := trivial
theorem PySem.W.Fast.tw18323207290513788929 : True := trivial
theorem PySem.W.Fast.tw14883925494681796908 : True := trivial
theorem PySem.W.Fast.tw11081224105542555262 : True := trivial
theorem PySem.W.Fast.tw3410541476785385975 : True := trivial
theorem PySem.W.Fast.tw2428882065773446094 : True := trivial
theorem PySem.W.Fast.tw2094961847266301328 : True := trivial
theorem PySem.W.Fast.tw9563727550987111794 : True := trivial
theorem PySem.W.Fast.tw8960611266145729499 : True := trivial
theorem PySem.W.Fast.tw14495501693654707174 : True := trivial
theorem PySem.W.Fast.tw7150179535806987197 : True := trivial
theorem PySem.W.Fast.tw16054138100810686750 : True := trivial
theorem PySem.W.Fast.tw17893875981575386217 : True := trivial
theorem PySem.W.Fast.tw7956553212228514335 : True := trivial
theorem PySem.W.Fast.tw15791028807930807410 : True := trivial
theorem PySem.W.Fast.tw6358914094004053428 : True := trivial
theorem PySem.W.Fast.tw3452839008405120777 : True := trivial
theorem PySem.W.Fast.tw17219839558835918217 : True := trivial
theorem PySem.W.Fast.tw14360180234903652469 : True := trivial
theorem PySem.W.Fast.tw18221343859276716741 : True := trivial
theorem PySem.W.Fast.tw14030931969499198384 : True := trivial
theorem PySem.W.Fast.tw15173215126041145478 : True := trivial
theorem PySem.W.Fast.tw13993788501455527550 : True := trivial
theorem PySem.W.Fast.tw379933201965361219 : True := trivial
theorem PySem.W.Fast.tw16106589383699928146 : True := trivial
theorem PySem.W.Fast.tw5464351725672024912 : True := trivial
theorem PySem.W.Fast.tw3437515810321579966 : True := trivial
theorem PySem.W.Fast.tw12836897010686581616 : True := trivial
theorem PySem.W.Fast.tw16169798034510554832 : True := trivial
theorem PySem.W.Fast.tw11935362781056142283 : True := trivial
theorem PySem.W.Fast.tw14274804875301493071 : True := trivial
theorem PySem.W.Fast.tw7814437614831324876 : True := trivial
theorem PySem.W.Fast.tw13351866526703688218 : True := trivial
theorem PySem.W.Fast.tw14254421477152820974 : True := trivial
theorem PySem.W.Fast.tw4943978191247687182 : True := trivial
theorem PySem.W.Fast.tw2864285855125238602 : True := trivial
theorem PySem.W.Fast.tw6500501060644494176 : True := trivial
theorem PySem.W.Fast.tw1265564745057702608 : True := trivial
theorem PySem.W.Fast.tw11200375835109337080 : True := trivial
theorem PySem.W.Fast.tw13562796685969887347 : True := trivial
theorem PySem.W.Fast.tw9069709257153420407 : True := trivial
theorem PySem.W.Fast.tw7813658893135540048 : True := trivial
theorem PySem.W.Fast.tw16133306374087793594 : True := trivial
theorem PySem.W.Fast.tw10617800058377783865 : True := trivial
theorem PySem.W.Fast.tw2796309873299474807 : True := trivial
theorem PySem.W.Fast.tw327748253062080038 : True := trivial
theorem PySem.W.Fast.tw15080672548425486602 : True := trivial
theorem PySem.W.Fast.tw12736327281900405822 : True := trivial
theorem PySem.W.Fast.tw17502439538252005106 : True := trivial
theorem PySem.W.Fast.tw721796844638531065 : True := trivial
theorem PySem.W.Fast.tw17455518297203779914 : True := trivial
theorem PySem.W.Fast.tw5620554428807246347 : True := trivial
theorem PySem.W.Fast.tw36727506808919255 : True := trivial
theorem PySem.W.Fast.tw3450129147261775677 : True := trivial
theorem PySem.W.Fast.tw15172374653816652851 : True := trivial
theorem PySem.W.Fast.tw14074843881464442294 : True := trivial
theorem PySem.W.Fast.tw8784039917173817685 : True := trivial
theorem PySem.W.Fast.tw6006169062307348560 : True := trivial
theorem PySem.W.Fast.tw926618424571801914 : True := trivial
theorem PySem.W.Fast.tw17225472656775877727 : True := trivial
theorem PySem.W.Fast.tw16800827840400080533 : True := trivial
theorem PySem.W.Fast.tw8385552871630003332 : True := trivial
theorem PySem.W.Fast.tw2272845754636823307 : True := trivial
theorem PySem.W.Fast.tw5334022113776741371 : True := trivial
theorem PySem.W.Fast.tw39229255611227605 : True := trivial
theorem PySem.W.Fast.tw296661996330302726 : True := trivial
theorem PySem.W.Fast.tw17171873960838708410 : True := trivial
theorem PySem.W.Fast.tw9484590354185858604 : True := trivial
theorem PySem.W.Fast.tw4354637246416030779 : True := trivial
theorem PySem.W.Fast.tw5845544405108889812 : True := trivial
theorem PySem.W.Fast.tw5458859641726833517 : True := trivial
theorem PySem.W.Fast.tw12342994388630648144 : True := trivial
theorem PySem.W.Fast.tw4874088565931259362 : True := trivial
theorem PySem.W.Fast.tw18362263487300097378 : True := trivial
theorem PySem.W.Fast.tw2864379273697616308 : True := trivial
theorem PySem.W.Fast.tw10981654984346695102 : True := trivial
theorem PySem.W.Fast.tw10348480786227175398 : True := trivial
theorem PySem.W.Fast.tw4998867261704130412 : True := trivial
theorem PySem.W.Fast.tw1864277509784719551 : True := trivial
theorem PySem.W.Fast.tw13894405629912237084 : True := trivial
theorem PySem.W.Fast.tw9019347568075749805 : True := trivial
theorem PySem.W.Fast.tw13569493536055899958 : True := trivial
theorem PySem.W.Fast.tw17228872154851084377 : True := trivial
theorem PySem.W.Fast.tw9322268976304724474 : True := trivial
theorem PySem.W.Fast.tw369935172031680759 : True := trivial
theorem PySem.W.Fast.tw2317693845912994659 : True := trivial
theorem PySem.W.Fast.tw13098405974769983652 : True := trivial
theorem PySem.W.Fast.tw6767804462417175369 : True := trivial
theorem PySem.W.Fast.tw9489614063166514350 : True := trivial
theorem PySem.W.Fast.tw318497013052377175 : True := trivial
theorem PySem.W.Fast.tw15910543821764391032 : True := trivial
theorem PySem.W.Fast.tw8755159539890925852 : True := trivial
theorem PySem.W.Fast.tw11501033840905672957 : True := trivial
theorem PySem.W.Fast.tw13718546983840659587 : True := trivial
theorem PySem.W.Fast.tw4267446844382486311 : True := trivial
theorem PySem.W.Fast.tw762655365355869740 : True := trivial
theorem PySem.W.Fast.tw11589177437299385866 : True := trivial
theorem PySem.W.Fast.tw8505717635034778879 : True := trivial
theorem PySem.W.Fast.tw17798257411743845205 : True := trivial
theorem PySem.W.Fast.tw5296207750942002233 : True := trivial
theorem PySem.W.Fast.tw1713628834775498279 : True := trivial
theorem PySem.W.Fast.tw14234441197613940647 : True := trivial
theorem PySem.W.Fast.tw16446573298794522448 : True := trivial
theorem PySem.W.Fast.tw16927435386459487594 : True := trivial
theorem PySem.W.Fast.tw3947775008326342917 : True := trivial
theorem PySem.W.Fast.tw7517054821519183815 : True := trivial
theorem PySem.W.Fast.tw10618995849027927627 : True := trivial
theorem PySem.W.Fast.tw17024521655881801819 : True := trivial
theorem PySem.W.Fast.tw5990712901538194688 : True := trivial
theorem PySem.W.Fast.tw2929673089509491611 : True := trivial
theorem PySem.W.Fast.tw16616945109706918230 : True := trivial
theorem PySem.W.Fast.tw7090697518042362399 : True := trivial
theorem PySem.W.Fast.tw8436381513130215491 : True := trivial
theorem PySem.W.Fast.tw17571532876483663743 : True := trivial
theorem PySem.W.Fast.tw10937004902904777943 : True := trivial
theorem PySem.W.Fast.tw4146118765105768005 : True := trivial
theorem PySem.W.Fast.tw9996513996525580331 : True := trivial
theorem PySem.W.Fast.tw1954274139374215575 : True := trivial
theorem PySem.W.Fast.tw2221315295559605789 : True := trivial
theorem PySem.W.Fast.tw15414414504825277793 : True := trivial
theorem PySem.W.Fast.tw13241185937081510325 : True := trivial
theorem PySem.W.Fast.tw5660281345319788620 : True := trivial
theorem PySem.W.Fast.tw1789972445381745898 : True := trivial
theorem PySem.W.Fast.tw1431157300198138171 : True := trivial
theorem PySem.W.Fast.tw8792017458497772481 : True := trivial
theorem PySem.W.Fast.tw8540501363112755125 : True := trivial
theorem PySem.W.Fast.tw11924732811314628448 : True := trivial
theorem PySem.W.Fast.tw16085722740875166908 : True := trivial
theorem PySem.W.Fast.tw9718877714143084252 : True := trivial
theorem PySem.W.Fast.tw9037269089624385907 : True := trivial
theorem PySem.W.Fast.tw7381113016670135747 : True := trivial
theorem PySem.W.Fast.tw10323001473271492693 : True := trivial
theorem PySem.W.Fast.tw9148909143392143776 : True := trivial
theorem PySem.W.Fast.tw4766190315046206954 : True := trivial
theorem PySem.W.Fast.tw780781845720898377 : True := trivial
theorem PySem.W.Fast.tw12057420649133339371 : True := trivial
theorem PySem.W.Fast.tw12724359249322086164 : True := trivial
theorem PySem.W.Fast.tw2833268170097995519 : True := trivial
theorem PySem.W.Fast.tw2458467999626960333 : True := trivial
theorem PySem.W.Fast.tw5275386888345524970 : True := trivial
theorem PySem.W.Fast.tw8107429958834446328 : True := trivial
theorem PySem.W.Fast.tw16584568355674966352 : True := trivial
theorem PySem.W.Fast.tw2451889102430468293 : True := trivial
theorem PySem.W.Fast.tw7215068177758157732 : True := trivial
theorem PySem.W.Fast.tw1664735007518288258 : True := trivial
theorem PySem.W.Fast.tw1113310380476979605 : True := trivial
theorem PySem.W.Fast.tw16050621591706758209 : True := trivial
theorem PySem.W.Fast.tw11022327670473602072 : True := trivial
theorem PySem.W.Fast.tw15647362760411026814 : True := trivial
theorem PySem.W.Fast.tw954023997251768911 : True := trivial
theorem PySem.W.Fast.tw2535679000392265546 : True := trivial
theorem PySem.W.Fast.tw9796155241954635643 : True := trivial
theorem PySem.W.Fast.tw12446742878523707995 : True := trivial
theorem PySem.W.Fast.tw8019514654595764825 : True := trivial
theorem PySem.W.Fast.tw18150318916214264310 : True := trivial
theorem PySem.W.Fast.tw1472922897302594587 : True := trivial
theorem PySem.W.Fast.tw15185055970546929426 : True := trivial
theorem PySem.W.Fast.tw293332267849051828 : True := trivial
theorem PySem.W.Fast.tw9201243312943730800 : True := trivial
theorem PySem.W.Fast.tw46496215833862692 : True := trivial
theorem PySem.W.Fast.tw7831742150285258537 : True := trivial
theorem PySem.W.Fast.tw15904504781145148554 : True := trivial
theorem PySem.W.Fast.tw9562753650248960163 : True := trivial
theorem PySem.W.Fast.tw682896341104017113 : True := trivial
theorem PySem.W.Fast.tw4666885112157213382 : True := trivial
theorem PySem.W.Fast.tw13816229036689670989 : True := trivial
theorem PySem.W.Fast.tw13118455668916579481 : True := trivial
theorem PySem.W.Fast.tw18097959292104587832 : True := trivial
theorem PySem.W.Fast.tw14042547880170425474 : True := trivial
theorem PySem.W.Fast.tw5234199875088921269 : True := trivial
theorem PySem.W.Fast.tw7188027133547217342 : True := trivial
theorem PySem.W.Fast.tw13655611153441758733 : True := trivial
theorem PySem.W.Fast.tw11328331573257007703 : True := trivial
theorem PySem.W.Fast.tw2218093414870402488 : True := trivial
theorem PySem.W.Fast.tw6863009423304107192 : True := trivial
theorem PySem.W.Fast.tw4363735586758834597 : True := trivial
theorem PySem.W.Fast.tw10218520518737456052 : True := trivial
theorem PySem.W.Fast.tw16787575050810397787 : True := trivial
theorem PySem.W.Fast.tw12586090445955306778 : True := trivial
theorem PySem.W.Fast.tw11532676173083344811 : True := trivial
theorem PySem.W.Fast.tw6663540104808045489 : True := trivial
theorem PySem.W.Fast.tw3515822494745390700 : True := trivial
theorem PySem.W.Fast.tw13703560283455112930 : True := trivial
theorem PySem.W.Fast.tw15599114636020976832 : True := trivial
theorem PySem.W.Fast.tw14130301760941091108 : True := trivial
theorem PySem.W.Fast.tw4223480285806709647 : True := trivial
theorem PySem.W.Fast.tw14776870115892553639 : True := trivial
theorem PySem.W.Fast.tw10106375764935840908 : True := trivial
theorem PySem.W.Fast.tw6992624428839049914 : True := trivial
theorem PySem.W.Fast.tw8678347955048813617 : True := trivial
theorem PySem.W.Fast.tw15186949046251129765 : True := trivial
theorem PySem.W.Fast.tw1457646278288051556 : True := trivial
theorem PySem.W.Fast.tw3589049125906412482 : True := trivial
theorem PySem.W.Fast.tw699300884876914894 : True := trivial
theorem PySem.W.Fast.tw10012120094599144961 : True := trivial
theorem PySem.W.Fast.tw2091846705064278850 : True := trivial
theorem PySem.W.Fast.tw11822281907762752239 : True := trivial
theorem PySem.W.Fast.tw6104793039713697405 : True := trivial
theorem PySem.W.Fast.tw5152699145294665356 : True := trivial
theorem PySem.W.Fast.tw8043192469712333921 : True := trivial
theorem PySem.W.Fast.tw14570065709150243344 : True := trivial
theorem PySem.W.Fast.tw10835505191453490439 : True := trivial
theorem PySem.W.Fast.tw14159808272382163250 : True := trivial
theorem PySem.W.Fast.tw10081361788899364482 : True := trivial
theorem PySem.W.Fast.tw1844714082580017515 : True := trivial
theorem PySem.W.Fast.tw975190106394948395 : True := trivial
theorem PySem.W.Fast.tw14563454352283870407 : True := trivial
theorem PySem.W.Fast.tw16744531299865642955 : True := trivial
theorem PySem.W.Fast.tw14617837990954431977 : True := trivial
theorem PySem.W.Fast.tw14126548842750431177 : True := trivial
theorem PySem.W.Fast.tw1505519649013014954 : True := trivial
theorem PySem.W.Fast.tw13815694792224438156 : True := trivial
theorem PySem.W.Fast.tw11763402562139600331 : True := trivial
theorem PySem.W.Fast.tw1587757362638799507 : True := trivial
theorem PySem.W.Fast.tw12757690629601573747 : True := trivial
theorem PySem.W.Fast.tw6402716219270864823 : True := trivial
theorem PySem.W.Fast.tw16732439535037942875 : True := trivial
theorem PySem.W.Fast.tw6584799548078714420 : True := trivial
theorem PySem.W.Fast.tw6462890436996671740 : True := trivial
theorem PySem.W.Fast.tw7635056407466468506 : True := trivial
theorem PySem.W.Fast.tw4035224804561875999 : True := trivial
theorem PySem.W.Fast.tw12179987612683299462 : True := trivial
theorem PySem.W.Fast.tw3165800445671749294 : True := trivial
theorem PySem.W.Fast.tw4217864389852849933 : True := trivial
theorem PySem.W.Fast.tw5455284403427657048 : True := trivial
theorem PySem.W.Fast.tw15500776882352526845 : True := trivial
theorem PySem.W.Fast.tw8670746173416031762 : True := trivial
theorem PySem.W.Fast.tw7439214270073785212 : True := trivial
theorem PySem.W.Fast.tw10365405414412945865 : True := trivial
theorem PySem.W.Fast.tw16154142460620494384 : True := trivial
theorem PySem.W.Fast.tw14536134818219002751 : True := trivial
theorem PySem.W.Fast.tw3836010287954236712 : True := trivial
theorem PySem.W.Fast.tw5187042400764672332 : True := trivial
theorem PySem.W.Fast.tw5845165556813819485 : True := trivial
theorem PySem.W.Fast.tw10472837149438479986 : True := trivial
theorem PySem.W.Fast.tw10709383018931169085 : True := trivial
theorem PySem.W.Fast.tw16162454397548213624 : True := trivial
theorem PySem.W.Fast.tw13065531891776764617 : True := trivial
theorem PySem.W.Fast.tw14629208137533582627 : True := trivial
theorem PySem.W.Fast.tw1646799060472372201 : True := trivial
theorem PySem.W.Fast.tw17887404868271271070 : True := trivial
theorem PySem.W.Fast.tw9356757800017360522 : True := trivial
theorem PySem.W.Fast.tw12417756687168545006 : True := trivial
theorem PySem.W.Fast.tw11249639079555730525 : True := trivial
theorem PySem.W.Fast.tw410875416750469054 : True := trivial
theorem PySem.W.Fast.tw11527590842657512577 : True := trivial
theorem PySem.W.Fast.tw4449420985602618869 : True := trivial
theorem PySem.W.Fast.tw2118184943983290634 : True := trivial
theorem PySem.W.Fast.tw7356036191597550869 : True := trivial
theorem PySem.W.Fast.tw16416693245994509251 : True := trivial
theorem PySem.W.Fast.tw11290061783833214601 : True := trivial
theorem PySem.W.Fast.tw6962406641905461480 : True := trivial
theorem PySem.W.Fast.tw9774897192275457884 : True := trivial
theorem PySem.W.Fast.tw18286503973903780587 : True := trivial
theorem PySem.W.Fast.tw13334309117482479724 : True := trivial
theorem PySem.W.Fast.tw17738920550164956426 : True := trivial
theorem PySem.W.Fast.tw8534755160274916844 : True := trivial
theorem PySem.W.Fast.tw9660638011834533300 : True := trivial
theorem PySem.W.Fast.tw9929362547278919589 : True := trivial
theorem PySem.W.Fast.tw12522003126824630826 : True := trivial
theorem PySem.W.Fast.tw2581479792727883270 : True := trivial
theorem PySem.W.Fast.tw16140909581972873577 : True := trivial
theorem PySem.W.Fast.tw5263933537502667882 : True := trivial
theorem PySem.W.Fast.tw6895184336806688327 : True := trivial
theorem PySem.W.Fast.tw10365396034733058416 : True := trivial
theorem PySem.W.Fast.tw11244799343698076868 : True := trivial
theorem PySem.W.Fast.tw4176454886072077233 : True := trivial
theorem PySem.W.Fast.tw5421006200360547750 : True := trivial
theorem PySem.W.Fast.tw13884566834081718729 : True := trivial
theorem PySem.W.Fast.tw10756930541278780579 : True := trivial
theorem PySem.W.Fast.tw1920700787833576547 : True := trivial
theorem PySem.W.Fast.tw958783117391872176 : True := trivial
theorem PySem.W.Fast.tw9967247994736856609 : True := trivial
theorem PySem.W.Fast.tw9275878714444562181 : True := trivial
theorem PySem.W.Fast.tw10943027619423141047 : True := trivial
theorem PySem.W.Fast.tw6159121886362778224 : True := trivial
theorem PySem.W.Fast.tw1444964315515022305 : True := trivial
theorem PySem.W.Fast.tw6477448448400457294 : True := trivial
theorem PySem.W.Fast.tw14489300996598882182 : True := trivial
theorem PySem.W.Fast.tw2267889225005395552 : True := trivial
theorem PySem.W.Fast.tw13044547272069370919 : True := trivial
theorem PySem.W.Fast.tw4674135729364563678 : True := trivial
theorem PySem.W.Fast.tw16208247194841295640 : True := trivial
theorem PySem.W.Fast.tw17164591485873986491 : True := trivial
theorem PySem.W.Fast.tw10582557241950799658 : True := trivial
theorem PySem.W.Fast.tw1361992368338220177 : True := trivial
theorem PySem.W.Fast.tw17026205175107298640 : True := trivial
theorem PySem.W.Fast.tw8253653979109908516 : True := trivial
theorem PySem.W.Fast.tw7362478689974565167 : True := trivial
theorem PySem.W.Fast.tw5505400560908950121 : True := trivial
theorem PySem.W.Fast.tw1125524677955840828 : True := trivial
theorem PySem.W.Fast.tw10376590590335414968 : True := trivial
theorem PySem.W.Fast.tw6704562119770950153 : True := trivial
theorem PySem.W.Fast.tw14769694069044564596 : True := trivial
theorem PySem.W.Fast.tw1716738943543490998 : True := trivial
theorem PySem.W.Fast.tw16226923228885914700 : True := trivial
theorem PySem.W.Fast.tw17018927802433048509 : True := trivial
theorem PySem.W.Fast.tw11422663959626165565 : True := trivial
theorem PySem.W.Fast.tw15778764788531789077 : True := trivial
theorem PySem.W.Fast.tw1557230878962713801 : True := trivial
theorem PySem.W.Fast.tw15664913542353722508 : True := trivial
theorem PySem.W.Fast.tw15177548646863439793 : True := trivial
theorem PySem.W.Fast.tw2217024473519186580 : True := trivial
theorem PySem.W.Fast.tw18217234873465949 : True := trivial
theorem PySem.W.Fast.tw3558141729512989301 : True := trivial
theorem PySem.W.Fast.tw18077060395035330861 : True := trivial
theorem PySem.W.Fast.tw1834354099777201008 : True := trivial
theorem PySem.W.Fast.tw17712119002726478845 : True := trivial
theorem PySem.W.Fast.tw4466462670622882835 : True := trivial
theorem PySem.W.Fast.tw5793835342487081649 : True := trivial
theorem PySem.W.Fast.tw7697134149573374288 : True := trivial
theorem PySem.W.Fast.tw13759167104313215053 : True := trivial
theorem PySem.W.Fast.tw15978100433625099337 : True := trivial
theorem PySem.W.Fast.tw12067992411837153773 : True := trivial
theorem PySem.W.Fast.tw6366949421245663215 : True := trivial
theorem PySem.W.Fast.tw13624996518838009820 : True := trivial
theorem PySem.W.Fast.tw15590927402164034565 : True := trivial
theorem PySem.W.Fast.tw10838212303732663143 : True := trivial
theorem PySem.W.Fast.tw286540551386833717 : True := trivial
theorem PySem.W.Fast.tw6347741167521921283 : True := trivial
theorem PySem.W.Fast.tw6187603074582512283 : True := trivial
theorem PySem.W.Fast.tw8516421350223854002 : True := trivial
theorem PySem.W.Fast.tw10143891765094550255 : True := trivial
theorem PySem.W.Fast.tw6175335051547218704 : True := trivial
theorem PySem.W.Fast.tw4276818369528742337 : True := trivial
theorem PySem.W.Fast.tw10718647754423861123 : True := trivial
theorem PySem.W.Fast.tw4217185847722229296 : True := trivial
theorem PySem.W.Fast.tw16564213486299451269 : True := trivial
theorem PySem.W.Fast.tw9924785347430687282 : True := trivial
theorem PySem.W.Fast.tw7100781173773883319 : True := trivial
theorem PySem.W.Fast.tw18412920833827517436 : True := trivial
theorem PySem.W.Fast.tw11676775531342249726 : True := trivial
theorem PySem.W.Fast.tw5776268861863193383 : True := trivial
theorem PySem.W.Fast.tw10051656094788992938 : True := trivial
theorem PySem.W.Fast.tw4585515391933015687 : True := trivial
theorem PySem.W.Fast.tw10256113649995514193 : True := trivial
theorem PySem.W.Fast.tw8852042654426702074 : True := trivial
theorem PySem.W.Fast.tw9942248671334222240 : True := trivial
theorem PySem.W.Fast.tw3178988316499701785 : True := trivial
theorem PySem.W.Fast.tw1258079901299136868 : True := trivial
theorem PySem.W.Fast.tw8252286601316770056 : True := trivial
theorem PySem.W.Fast.tw13673396129047686660 : True := trivial
theorem PySem.W.Fast.tw17872498456111668945 : True := trivial
theorem PySem.W.Fast.tw17867495665460004537 : True := trivial
theorem PySem.W.Fast.tw7527961955157487786 : True := trivial
theorem PySem.W.Fast.tw8624841931758095253 : True := trivial
theorem PySem.W.Fast.tw7802538617164924551 : True := trivial
theorem PySem.W.Fast.tw16923218781496818021 : True := trivial
theorem PySem.W.Fast.tw6437275774641815598 : True := trivial
theorem PySem.W.Fast.tw7900367129509371089 : True := trivial
theorem PySem.W.Fast.tw12853926374382005370 : True := trivial
theorem PySem.W.Fast.tw1498452176723384090 : True := trivial
theorem PySem.W.Fast.tw1900015909580270615 : True := trivial
theorem PySem.W.Fast.tw12092537116773076169 : True := trivial
theorem PySem.W.Fast.tw11562036228570215224 : True := trivial
theorem PySem.W.Fast.tw10706722999252575894 : True := trivial
theorem PySem.W.Fast.tw11647421707343219189 : True := trivial
theorem PySem.W.Fast.tw545636838216438371 : True := trivial
theorem PySem.W.Fast.tw4122647159452286403 : True := trivial
theorem PySem.W.Fast.tw14424539789274233760 : True := trivial
theorem PySem.W.Fast.tw7742753582031429183 : True := trivial
theorem PySem.W.Fast.tw14428002879320450363 : True := trivial
theorem PySem.W.Fast.tw7677701888922265116 : True := trivial
theorem PySem.W.Fast.tw16211297896412156775 : True := trivial
theorem PySem.W.Fast.tw8685651500424179840 : True := trivial
theorem PySem.W.Fast.tw3429871186198742808 : True := trivial
theorem PySem.W.Fast.tw11346105675023805373 : True := trivial
theorem PySem.W.Fast.tw7191195982662910925 : True := trivial
theorem PySem.W.Fast.tw16882874834574042174 : True := trivial
theorem PySem.W.Fast.tw12042743043688824988 : True := trivial
theorem PySem.W.Fast.tw15107245165040752116 : True := trivial
theorem PySem.W.Fast.tw2301417392984937201 : True := trivial
theorem PySem.W.Fast.tw6487449544454652500 : True := trivial
theorem PySem.W.Fast.tw8986696856821260 : True := trivial
theorem PySem.W.Fast.tw9257723168048757614 : True := trivial
theorem PySem.W.Fast.tw324557529508171978 : True := trivial
theorem PySem.W.Fast.tw17886467805740725615 : True := trivial
theorem PySem.W.Fast.tw12459718503819428571 : True := trivial
theorem PySem.W.Fast.tw8213147311905227156 : True := trivial
theorem PySem.W.Fast.tw5807137469473336758 : True := trivial
theorem PySem.W.Fast.tw15375697912389116015 : True := trivial
theorem PySem.W.Fast.tw16705976772519570896 : True := trivial
theorem PySem.W.Fast.tw616140339409552338 : True := trivial
theorem PySem.W.Fast.tw4988858287984543308 : True := trivial
theorem PySem.W.Fast.tw17675697589590113406 : True := trivial
theorem PySem.W.Fast.tw10215708239851619395 : True := trivial
theorem PySem.W.Fast.tw9249915001639187812 : True := trivial
theorem PySem.W.Fast.tw12076808648253477135 : True := trivial
theorem PySem.W.Fast.tw144186833693650407 : True := trivial
theorem PySem.W.Fast.tw3683159106580760286 : True := trivial
theorem PySem.W.Fast.tw12605727773644112680 : True := trivial
theorem PySem.W.Fast.tw12964540122634650320 : True := trivial
theorem PySem.W.Fast.tw7910971878079217462 : True := trivial
theorem PySem.W.Fast.tw1097966562442958770 : True := trivial
theorem PySem.W.Fast.tw13096281302819129541 : True := trivial
theorem PySem.W.Fast.tw17099903082001865067 : True := trivial
theorem PySem.W.Fast.tw12237717220742744473 : True := trivial
theorem PySem.W.Fast.tw16682787855196805227 : True := trivial
theorem PySem.W.Fast.tw16847598228304454422 : True := trivial
theorem PySem.W.Fast.tw433055849946684410 : True := trivial
theorem PySem.W.Fast.tw17110366814015143179 : True := trivial
theorem PySem.W.Fast.tw15423193159838095502 : True := trivial
theorem PySem.W.Fast.tw11577463239548325295 : True := trivial
theorem PySem.W.Fast.tw7577125769759210757 : True := trivial
theorem PySem.W.Fast.tw4200121945861341095 : True := trivial
theorem PySem.W.Fast.tw7948656018067897277 : True := trivial
theorem PySem.W.Fast.tw3911685137708027524 : True := trivial
theorem PySem.W.Fast.tw17450093127798867024 : True := trivial
theorem PySem.W.Fast.tw14871144206311512107 : True := trivial
theorem PySem.W.Fast.tw793005846348042152 : True := trivial
theorem PySem.W.Fast.tw3452132667967980572 : True := trivial
theorem PySem.W.Fast.tw13962254942925974215 : True := trivial
theorem PySem.W.Fast.tw9459505149842602834 : True := trivial
theorem PySem.W.Fast.tw5222030229079806794 : True := trivial
theorem PySem.W.Fast.tw5073174814697527046 : True := trivial
theorem PySem.W.Fast.tw13911414874153065098 : True := trivial
theorem PySem.W.Fast.tw160445630828402846 : True := trivial
theorem PySem.W.Fast.tw5016542360076964319 : True := trivial
theorem PySem.W.Fast.tw100143533986509759 : True := trivial
theorem PySem.W.Fast.tw15396270997057384277 : True := trivial
theorem PySem.W.Fast.tw14842148039849554561 : True := trivial
theorem PySem.W.Fast.tw4601225428899359994 : True := trivial
theorem PySem.W.Fast.tw14682995085029556287 : True := trivial
theorem PySem.W.Fast.tw17282409177762387308 : True := trivial
theorem PySem.W.Fast.tw17819172308173977851 : True := trivial
theorem PySem.W.Fast.tw7298926419673614480 : True := trivial
theorem PySem.W.Fast.tw10094552270190904077 : True := trivial
theorem PySem.W.Fast.tw16913952388589489889 : True := trivial
theorem PySem.W.Fast.tw471771605743037107 : True := trivial
theorem PySem.W.Fast.tw13400109509693522337 : True := trivial
theorem PySem.W.Fast.tw16900737577644068946 : True := trivial
theorem PySem.W.Fast.tw14170899902407245446 : True := trivial
theorem PySem.W.Fast.tw7626806203995878686 : True := trivial
theorem PySem.W.Fast.tw215031582929749170 : True := trivial
theorem PySem.W.Fast.tw8606523353854434593 : True := trivial
theorem PySem.W.Fast.tw17496090922298395648 : True := trivial
theorem PySem.W.Fast.tw10700142907312147352 : True := trivial
theorem PySem.W.Fast.tw94144561642692965 : True := trivial
theorem PySem.W.Fast.tw15217215882677059699 : True := trivial
theorem PySem.W.Fast.tw2978515229558563488 : True := trivial
theorem PySem.W.Fast.tw18110556640017926840 : True := trivial
theorem PySem.W.Fast.tw15821588179277494131 : True := trivial
theorem PySem.W.Fast.tw504542938310394563 : True := trivial
theorem PySem.W.Fast.tw9236778529310558797 : True := trivial
theorem PySem.W.Fast.tw5188352042573761725 : True := trivial
theorem PySem.W.Fast.tw13793706407976696599 : True := trivial
theorem PySem.W.Fast.tw15094541724728367925 : True := trivial
theorem PySem.W.Fast.tw15839659810863187924 : True := trivial
theorem PySem.W.Fast.tw3552201554943016982 : True := trivial
theorem PySem.W.Fast.tw2150691607517156695 : True := trivial
theorem PySem.W.Fast.tw680148163267716397 : True := trivial
theorem PySem.W.Fast.tw17293276812068637638 : True := trivial
theorem PySem.W.Fast.tw14027584058860068446 : True := trivial
theorem PySem.W.Fast.tw9678569747709325377 : True := trivial
theorem PySem.W.Fast.tw5825274494983339461 : True := trivial
theorem PySem.W.Fast.tw13396520230940792780 : True := trivial
theorem PySem.W.Fast.tw17729208094573977928 : True := trivial
theorem PySem.W.Fast.tw16041867706235179354 : True := trivial
theorem PySem.W.Fast.tw14708172113849876093 : True := trivial
theorem PySem.W.Fast.tw11142099940472966418 : True := trivial
theorem PySem.W.Fast.tw16589503332231439012 : True := trivial
theorem PySem.W.Fast.tw15608210684764805369 : True := trivial
theorem PySem.W.Fast.tw4356526724589358453 : True := trivial
theorem PySem.W.Fast.tw7793016353681385514 : True := trivial
theorem PySem.W.Fast.tw9949130731245339639 : True := trivial
theorem PySem.W.Fast.tw908133436392180653 : True := trivial
theorem PySem.W.Fast.tw8359695426667958288 : True := trivial
theorem PySem.W.Fast.tw8809897233760375954 : True := trivial
theorem PySem.W.Fast.tw6362338040555787375 : True := trivial
theorem PySem.W.Fast.tw14936410472927058975 : True := trivial
theorem PySem.W.Fast.tw8310065617864872883 : True := trivial
theorem PySem.W.Fast.tw133799712118812271 : True := trivial
theorem PySem.W.Fast.tw12612532510291888981 : True := trivial
theorem PySem.W.Fast.tw3709831518821560110 : True := trivial
theorem PySem.W.Fast.tw17609544265137067837 : True := trivial
theorem PySem.W.Fast.tw12899466381307631277 : True := trivial
theorem PySem.W.Fast.tw10824034655968196654 : True := trivial
theorem PySem.W.Fast.tw1147994583726539519 : True := trivial
theorem PySem.W.Fast.tw17248238341312000481 : True := trivial
theorem PySem.W.Fast.tw4799313698419367631 : True := trivial
theorem PySem.W.Fast.tw7102890597714149870 : True := trivial
theorem PySem.W.Fast.tw5960350179661666004 : True := trivial
theorem PySem.W.Fast.tw11481865548122969092 : True := trivial
theorem PySem.W.Fast.tw1901140747936449609 : True := trivial
theorem PySem.W.Fast.tw532765321753172833 : True := trivial
theorem PySem.W.Fast.tw773544750057707240 : True := trivial
theorem PySem.W.Fast.tw239688298217868106 : True := trivial
theorem PySem.W.Fast.tw3101710139897040106 : True := trivial
theorem PySem.W.Fast.tw18040533438522736868 : True := trivial
theorem PySem.W.Fast.tw9143433039711322358 : True := trivial
theorem PySem.W.Fast.tw12667591401211419700 : True := trivial
theorem PySem.W.Fast.tw5188925136194757864 : True := trivial
theorem PySem.W.Fast.tw7679699615850674730 : True := trivial
theorem PySem.W.Fast.tw6157533551453580514 : True := trivial
theorem PySem.W.Fast.tw4887689925020464892 : True := trivial
theorem PySem.W.Fast.tw17645481888789006649 : True := trivial
theorem PySem.W.Fast.tw16022156862079552361 : True := trivial
theorem PySem.W.Fast.tw18081068017746325404 : True := trivial
theorem PySem.W.Fast.tw3133349281109177510 : True := trivial
theorem PySem.W.Fast.tw6422822454078629739 : True := trivial
theorem PySem.W.Fast.tw5198852669548455617 : True := trivial
theorem PySem.W.Fast.tw6262251668018875477 : True := trivial
theorem PySem.W.Fast.tw14458735072663980076 : True := trivial
theorem PySem.W.Fast.tw11949221604983018617 : True := trivial
theorem PySem.W.Fast.tw1791274019220109054 : True := trivial
theorem PySem.W.Fast.tw15476837820312321891 : True := trivial
theorem PySem.W.Fast.tw17214526356970422091 : True := trivial
theorem PySem.W.Fast.tw3154591066453864416 : True := trivial
theorem PySem.W.Fast.tw13157446609788972526 : True := trivial
theorem PySem.W.Fast.tw16711137016449558840 : True := trivial
theorem PySem.W.Fast.tw566483637067516073 : True := trivial
theorem PySem.W.Fast.tw2950841785503960375 : True := trivial
theorem PySem.W.Fast.tw10791374775810574996 : True := trivial
theorem PySem.W.Fast.tw1996011619118835379 : True := trivial
theorem PySem.W.Fast.tw8831571494120732570 : True := trivial
theorem PySem.W.Fast.tw13699433206525536618 : True := trivial
theorem PySem.W.Fast.tw17710465918812482320 : True := trivial
theorem PySem.W.Fast.tw10703231310157347527 : True := trivial
theorem PySem.W.Fast.tw15728929179461426649 : True := trivial
theorem PySem.W.Fast.tw18288993138513271853 : True := trivial
theorem PySem.W.Fast.tw13510047441411954610 : True := trivial
theorem PySem.W.Fast.tw9137785907211854172 : True := trivial
theorem PySem.W.Fast.tw8272849470104779161 : True := trivial
theorem PySem.W.Fast.tw7625798629591199754 : True := trivial
theorem PySem.W.Fast.tw10340287442319560784 : True := trivial
theorem PySem.W.Fast.tw17907578854555843805 : True := trivial
theorem PySem.W.Fast.tw18060170167495757263 : True := trivial
theorem PySem.W.Fast.tw17532305058933393191 : True := trivial
theorem PySem.W.Fast.tw3539717511897086774 : True := trivial
theorem PySem.W.Fast.tw11058949296518707770 : True := trivial
theorem PySem.W.Fast.tw6111578770432419481 : True := trivial
theorem PySem.W.Fast.tw6589430944397542844 : True := trivial
theorem PySem.W.Fast.tw17514919961859725493 : True := trivial
theorem PySem.W.Fast.tw5397008587455483095 : True := trivial
theorem PySem.W.Fast.tw12259955872843381081 : True := trivial
theorem PySem.W.Fast.tw11743542897580049775 : True := trivial
theorem PySem.W.Fast.tw13897488252143043042 : True := trivial
theorem PySem.W.Fast.tw7076933185863343032 : True := trivial
theorem PySem.W.Fast.tw8805630753859143115 : True := trivial
theorem PySem.W.Fast.tw13858886167237578959 : True := trivial
theorem PySem.W.Fast.tw13250158039124443010 : True := trivial
theorem PySem.W.Fast.tw403201975827077279 : True := trivial
theorem PySem.W.Fast.tw14250465832927013519 : True := trivial
theorem PySem.W.Fast.tw600203466289876004 : True := trivial
theorem PySem.W.Fast.tw6979243321448165504 : True := trivial
theorem PySem.W.Fast.tw1995518817927442903 : True := trivial
theorem PySem.W.Fast.tw6826058264537896989 : True := trivial
theorem PySem.W.Fast.tw11418669943690583916 : True := trivial
theorem PySem.W.Fast.tw12343886026508053397 : True := trivial
theorem PySem.W.Fast.tw2565409617620393605 : True := trivial
theorem PySem.W.Fast.tw2254297644352005669 : True := trivial
theorem PySem.W.Fast.tw5083782294175608560 : True := trivial
theorem PySem.W.Fast.tw2786120731367085547 : True := trivial
theorem PySem.W.Fast.tw4910121792115656564 : True := trivial
theorem PySem.W.Fast.tw1907024349594923836 : True := trivial
theorem PySem.W.Fast.tw4202853625816304240 : True := trivial
theorem PySem.W.Fast.tw4427361671609354209 : True := trivial
theorem PySem.W.Fast.tw14443075357918866143 : True := trivial
theorem PySem.W.Fast.tw10499395356576710281 : True := trivial
theorem PySem.W.Fast.tw4497876161111296579 : True := trivial
theorem PySem.W.Fast.tw5623905253750485829 : True := trivial
theorem PySem.W.Fast.tw13170451876052693358 : True := trivial
theorem PySem.W.Fast.tw5114325524953360818 : True := trivial
theorem PySem.W.Fast.tw8843383346993655662 : True := trivial
theorem PySem.W.Fast.tw14789476725686246461 : True := trivial
theorem PySem.W.Fast.tw10290415292705802331 : True := trivial
theorem PySem.W.Fast.tw17633632656792412343 : True := trivial
theorem PySem.W.Fast.tw5147328435546299342 : True := trivial
theorem PySem.W.Fast.tw2512283689512299397 : True := trivial
theorem PySem.W.Fast.tw10413920005850462947 : True := trivial
theorem PySem.W.Fast.tw9564430814341780177 : True := trivial
theorem PySem.W.Fast.tw5670868837249897906 : True := trivial
theorem PySem.W.Fast.tw1811750243200496142 : True := trivial
theorem PySem.W.Fast.tw1736239295407475144 : True := trivial
theorem PySem.W.Fast.tw18311677749316010916 : True := trivial
theorem PySem.W.Fast.tw9786803962966213133 : True := trivial
theorem PySem.W.Fast.tw2664961568982553886 : True := trivial
theorem PySem.W.Fast.tw8368464197195370379 : True := trivial
theorem PySem.W.Fast.tw18042753963249034966 : True := trivial
theorem PySem.W.Fast.tw5769997215447780451 : True := trivial
theorem PySem.W.Fast.tw1280273627747162562 : True := trivial
theorem PySem.W.Fast.tw868304796964546771 : True := trivial
theorem PySem.W.Fast.tw9703751376860768054 : True := trivial
theorem PySem.W.Fast.tw134274152140236506 : True := trivial
theorem PySem.W.Fast.tw13780925991913842028 : True := trivial
theorem PySem.W.Fast.tw13176956654489715667 : True := trivial
theorem PySem.W.Fast.tw7564633893592677501 : True := trivial
theorem PySem.W.Fast.tw11148590151983264059 : True := trivial
theorem PySem.W.Fast.tw4326394668985718871 : True := trivial
theorem PySem.W.Fast.tw9071240063028016236 : True := trivial
theorem PySem.W.Fast.tw16325647409474722560 : True := trivial
theorem PySem.W.Fast.tw10631512329657676171 : True := trivial
theorem PySem.W.Fast.tw14541365080595545506 : True := trivial
theorem PySem.W.Fast.tw3389106394892653709 : True := trivial
theorem PySem.W.Fast.tw5863625724299955138 : True := trivial
theorem PySem.W.Fast.tw1323223149062702432 : True := trivial
theorem PySem.W.Fast.tw6808074109108826231 : True := trivial
theorem PySem.W.Fast.tw6106522849583220789 : True := trivial
theorem PySem.W.Fast.tw12816716521591360655 : True := trivial
theorem PySem.W.Fast.tw15818649010603893976 : True := trivial
theorem PySem.W.Fast.tw14572251019122627959 : True := trivial
theorem PySem.W.Fast.tw8529690840790324195 : True := trivial
theorem PySem.W.Fast.tw1764817494006813047 : True := trivial
theorem PySem.W.Fast.tw13055947012205273342 : True := trivial
theorem PySem.W.Fast.tw14988276483385568964 : True := trivial
theorem PySem.W.Fast.tw4320334421539951655 : True := trivial
theorem PySem.W.Fast.tw16622524353285491835 : True := trivial
theorem PySem.W.Fast.tw3022781281456309590 : True := trivial
theorem PySem.W.Fast.tw9652918163025790627 : True := trivial
theorem PySem.W.Fast.tw15468417889501791621 : True := trivial
theorem PySem.W.Fast.tw14521931460800570579 : True := trivial
theorem PySem.W.Fast.tw9408322143779100338 : True := trivial
theorem PySem.W.Fast.tw6015673488540087566 : True := trivial
theorem PySem.W.Fast.tw17697056120895137653 : True := trivial
theorem PySem.W.Fast.tw16611125594819641518 : True := trivial
theorem PySem.W.Fast.tw16212636504337497524 : True := trivial
theorem PySem.W.Fast.tw16999140882491108648 : True := trivial
theorem PySem.W.Fast.tw11455279828241126106 : True := trivial
theorem PySem.W.Fast.tw15042782960819727411 : True := trivial
theorem PySem.W.Fast.tw5279063197196622521 : True := trivial
theorem PySem.W.Fast.tw495966159063510384 : True := trivial
theorem PySem.W.Fast.tw1701397968330092582 : True := trivial
theorem PySem.W.Fast.tw969227500264717003 : True := trivial
theorem PySem.W.Fast.tw5752745363154644810 : True := trivial
theorem PySem.W.Fast.tw15055911232332736520 : True := trivial
theorem PySem.W.Fast.tw8717848921572878363 : True := trivial
theorem PySem.W.Fast.tw414070423677843139 : True := trivial
theorem PySem.W.Fast.tw13330658979030147409 : True := trivial
theorem PySem.W.Fast.tw2932531586595476501 : True := trivial
theorem PySem.W.Fast.tw10071628349100252818 : True := trivial
theorem PySem.W.Fast.tw1159589330920050197 : True := trivial
theorem PySem.W.Fast.tw2378984105155176051 : True := trivial
theorem PySem.W.Fast.tw8803845978559432393 : True := trivial
theorem PySem.W.Fast.tw4726762133219523180 : True := trivial
theorem PySem.W.Fast.tw11052125129316569379 : True := trivial
theorem PySem.W.Fast.tw15623576114597267190 : True := trivial
theorem PySem.W.Fast.tw15849970899984191973 : True := trivial
theorem PySem.W.Fast.tw13585334052573161499 : True := trivial
theorem PySem.W.Fast.tw13643935617028903468 : True := trivial
theorem PySem.W.Fast.tw7084465808657082167 : True := trivial
theorem PySem.W.Fast.tw17180670774714597683 : True := trivial
theorem PySem.W.Fast.tw18012851209033755628 : True := trivial
theorem PySem.W.Fast.tw17683758688867411834 : True := trivial
theorem PySem.W.Fast.tw4505720136474146311 : True := trivial
theorem PySem.W.Fast.tw9481046591638576974 : True := trivial
theorem PySem.W.Fast.tw518220466168860097 : True := trivial
theorem PySem.W.Fast.tw16055505770966022267 : True := trivial
theorem PySem.W.Fast.tw5292108791521999270 : True := trivial
theorem PySem.W.Fast.tw2532358276811639548 : True := trivial
theorem PySem.W.Fast.tw15265893451088263430 : True := trivial
theorem PySem.W.Fast.tw11709408599237043960 : True := trivial
theorem PySem.W.Fast.tw9069535152682221914 : True := trivial
theorem PySem.W.Fast.tw5794871239443100689 : True := trivial
theorem PySem.W.Fast.tw10637666790626629196 : True := trivial
theorem PySem.W.Fast.tw6678608569573968257 : True := trivial
theorem PySem.W.Fast.tw6262501820600798348 : True := trivial
theorem PySem.W.Fast.tw10420197905504795953 : True := trivial
theorem PySem.W.Fast.tw6164490431239501211 : True := trivial
theorem PySem.W.Fast.tw2760077194533408141 : True := trivial
theorem PySem.W.Fast.tw3657650935858737162 : True := trivial
theorem PySem.W.Fast.tw14563364234713077963 : True := trivial
theorem PySem.W.Fast.tw5911780589466829810 : True := trivial
theorem PySem.W.Fast.tw7740063714824153867 : True := trivial
theorem PySem.W.Fast.tw18159890674913185869 : True := trivial
theorem PySem.W.Fast.tw2236780621648073192 : True := trivial
theorem PySem.W.Fast.tw17140291684534932683 : True := trivial
theorem PySem.W.Fast.tw17292920657061199502 : True := trivial
theorem PySem.W.Fast.tw11643639234084093029 : True := trivial
theorem PySem.W.Fast.tw9293071219592351026 : True := trivial
theorem PySem.W.Fast.tw8471464404536490050 : True := trivial
theorem PySem.W.Fast.tw981230584299619681 : True := trivial
theorem PySem.W.Fast.tw11864592898648728789 : True := trivial
theorem PySem.W.Fast.tw13733274043676691471 : True := trivial
theorem PySem.W.Fast.tw4241359560333042416 : True := trivial
theorem PySem.W.Fast.tw6364578579957691586 : True := trivial
theorem PySem.W.Fast.tw7323840558501927326 : True := trivial
theorem PySem.W.Fast.tw4053892351988887294 : True := trivial
theorem PySem.W.Fast.tw14040856247430331604 : True := trivial
theorem PySem.W.Fast.tw16905812312247221566 : True := trivial
theorem PySem.W.Fast.tw4645576141737397782 : True := trivial
theorem PySem.W.Fast.tw11203155185265197745 : True := trivial
theorem PySem.W.Fast.tw15084541096102375178 : True := trivial
theorem PySem.W.Fast.tw11317109342628744065 : True := trivial
theorem PySem.W.Fast.tw9224207939112524809 : True := trivial
theorem PySem.W.Fast.tw3263625743254922608 : True := trivial
theorem PySem.W.Fast.tw8530283214655707465 : True := trivial
theorem PySem.W.Fast.tw15180754163081843364 : True := trivial
theorem PySem.W.Fast.tw18421544226466067594 : True := trivial
theorem PySem.W.Fast.tw10256499279482566633 : True := trivial
theorem PySem.W.Fast.tw7109360704539486525 : True := trivial
theorem PySem.W.Fast.tw13283336716675682480 : True := trivial
theorem PySem.W.Fast.tw17833548388123614245 : True := trivial
theorem PySem.W.Fast.tw3118927070763215081 : True := trivial
theorem PySem.W.Fast.tw14495744910990814362 : True := trivial
theorem PySem.W.Fast.tw13008826409676698389 : True := trivial
theorem PySem.W.Fast.tw5568982604651192496 : True := trivial
theorem PySem.W.Fast.tw11036411666157195007 : True := trivial
theorem PySem.W.Fast.tw5712961450624687378 : True := trivial
theorem PySem.W.Fast.tw17424924544581349267 : True := trivial
theorem PySem.W.Fast.tw13836532200899810298 : True := trivial
theorem PySem.W.Fast.tw18384130713097064745 : True := trivial
theorem PySem.W.Fast.tw747452208032584387 : True := trivial
theorem PySem.W.Fast.tw8836842311165227369 : True := trivial
theorem PySem.W.Fast.tw17601960137372466891 : True := trivial
theorem PySem.W.Fast.tw301910075239595219 : True := trivial
theorem PySem.W.Fast.tw10871587183100122738 : True := trivial
theorem PySem.W.Fast.tw14582672841199740647 : True := trivial
theorem PySem.W.Fast.tw13285343326699805788 : True := trivial
theorem PySem.W.Fast.tw7907400031072637195 : True := trivial
theorem PySem.W.Fast.tw17008586733098401151 : True := trivial
theorem PySem.W.Fast.tw17391725618907315551 : True := trivial
theorem PySem.W.Fast.tw5343983557421223148 : True := trivial
theorem PySem.W.Fast.tw10508010729943950359 : True := trivial
theorem PySem.W.Fast.tw3958728813514508806 : True := trivial
theorem PySem.W.Fast.tw14899082775189142517 : True := trivial
theorem PySem.W.Fast.tw17989374426437451385 : True := trivial
theorem PySem.W.Fast.tw15330821507355096314 : True := trivial
theorem PySem.W.Fast.tw17999065385661204658 : True := trivial
theorem PySem.W.Fast.tw582187740171324312 : True := trivial
theorem PySem.W.Fast.tw2534679948403365601 : True := trivial
theorem PySem.W.Fast.tw12923648811699350170 : True := trivial
theorem PySem.W.Fast.tw13206755356600448679 : True := trivial
theorem PySem.W.Fast.tw7756581956312949163 : True := trivial
theorem PySem.W.Fast.tw11130388514556332919 : True := trivial
theorem PySem.W.Fast.tw12219857210695414216 : True := trivial
theorem PySem.W.Fast.tw2230570407665760553 : True := trivial
theorem PySem.W.Fast.tw7002729306991546644 : True := trivial
theorem PySem.W.Fast.tw14266010812376577689 : True := trivial
theorem PySem.W.Fast.tw8199666254374038272 : True := trivial
theorem PySem.W.Fast.tw3948286232102763549 : True := trivial
theorem PySem.W.Fast.tw18333770718934367795 : True := trivial
theorem PySem.W.Fast.tw6387960650577427090 : True := trivial
theorem PySem.W.Fast.tw6786870861363117413 : True := trivial
theorem PySem.W.Fast.tw5798997107270352560 : True := trivial
theorem PySem.W.Fast.tw9822829692589058844 : True := trivial
theorem PySem.W.Fast.tw2063123928725857642 : True := trivial
theorem PySem.W.Fast.tw4869258275627306819 : True := trivial
theorem PySem.W.Fast.tw10899594939029828055 : True := trivial
theorem PySem.W.Fast.tw7427546901823974451 : True := trivial
theorem PySem.W.Fast.tw5176575199963718930 : True := trivial
theorem PySem.W.Fast.tw3509666438227060553 : True := trivial
theorem PySem.W.Fast.tw780924575178772821 : True := trivial
theorem PySem.W.Fast.tw14417356149476142392 : True := trivial
theorem PySem.W.Fast.tw607469274469222830 : True := trivial
theorem PySem.W.Fast.tw942271850916860412 : True := trivial
theorem PySem.W.Fast.tw16169831264339293060 : True := trivial
theorem PySem.W.Fast.tw2092255492252915283 : True := trivial
theorem PySem.W.Fast.tw11934407605375311598 : True := trivial
theorem PySem.W.Fast.tw14731784668873009152 : True := trivial
theorem PySem.W.Fast.tw12294630415047076769 : True := trivial
theorem PySem.W.Fast.tw12849269239123634042 : True := trivial
theorem PySem.W.Fast.tw7635682867649467767 : True := trivial
theorem PySem.W.Fast.tw5719114122649318275 : True := trivial
theorem PySem.W.Fast.tw16873869640818161376 : True := trivial
theorem PySem.W.Fast.tw5265960178882999894 : True := trivial
theorem PySem.W.Fast.tw7878838890690600081 : True := trivial
theorem PySem.W.Fast.tw6960494711701405523 : True := trivial
theorem PySem.W.Fast.tw9716873922042151443 : True := trivial
theorem PySem.W.Fast.tw2016331661691343844 : True := trivial
theorem PySem.W.Fast.tw17619799889074244068 : True := trivial
theorem PySem.W.Fast.tw3481257687514607473 : True := trivial
theorem PySem.W.Fast.tw1123140544817685214 : True := trivial
theorem PySem.W.Fast.tw2014575860062224462 : True := trivial
theorem PySem.W.Fast.tw14573135494231848778 : True := trivial
theorem PySem.W.Fast.tw17105933907414684500 : True := trivial
theorem PySem.W.Fast.tw2694928167106752257 : True := trivial
theorem PySem.W.Fast.tw9669757199383007486 : True := trivial
theorem PySem.W.Fast.tw542121982018304425 : True := trivial
theorem PySem.W.Fast.tw16296459690239949900 : True := trivial
theorem PySem.W.Fast.tw13112607483187753708 : True := trivial
theorem PySem.W.Fast.tw6621301029336175305 : True := trivial
theorem PySem.W.Fast.tw3113644311752542942 : True := trivial
theorem PySem.W.Fast.tw5648066968412590184 : True := trivial
theorem PySem.W.Fast.tw15997507856503016265 : True := trivial
theorem PySem.W.Fast.tw9695278559128472283 : True := trivial
theorem PySem.W.Fast.tw6636438083800864888 : True := trivial
theorem PySem.W.Fast.tw7227303528489748364 : True := trivial
theorem PySem.W.Fast.tw15715382808607693429 : True := trivial
theorem PySem.W.Fast.tw9035318086239326696 : True := trivial
theorem PySem.W.Fast.tw3847907892429621051 : True := trivial
theorem PySem.W.Fast.tw9135445266840825987 : True := trivial
theorem PySem.W.Fast.tw1256758318955130641 : True := trivial
theorem PySem.W.Fast.tw7527766821392975056 : True := trivial
theorem PySem.W.Fast.tw10043901759950187918 : True := trivial
theorem PySem.W.Fast.tw8212411906430612030 : True := trivial
theorem PySem.W.Fast.tw7848404483050019736 : True := trivial
theorem PySem.W.Fast.tw18394473937461724205 : True := trivial
theorem PySem.W.Fast.tw13468760469570786017 : True := trivial
theorem PySem.W.Fast.tw8425707038134413546 : True := trivial
theorem PySem.W.Fast.tw16096633865547104713 : True := trivial
theorem PySem.W.Fast.tw11987563047681583067 : True := trivial
theorem PySem.W.Fast.tw5174969871691329248 : True := trivial
theorem PySem.W.Fast.tw2468079156479156193 : True := trivial
theorem PySem.W.Fast.tw16941348857680123740 : True := trivial
theorem PySem.W.Fast.tw11239508275886432046 : True := trivial
theorem PySem.W.Fast.tw16114297878087855437 : True := trivial
theorem PySem.W.Fast.tw10330444304597556767 : True := trivial
theorem PySem.W.Fast.tw1927971503159177285 : True := trivial
theorem PySem.W.Fast.tw3130885525367052208 : True := trivial
theorem PySem.W.Fast.tw6557329609772753792 : True := trivial
theorem PySem.W.Fast.tw6218577976994078505 : True := trivial
theorem PySem.W.Fast.tw10582400466437385204 : True := trivial
theorem PySem.W.Fast.tw7569827188174371216 : True := trivial
theorem PySem.W.Fast.tw6008163198631426829 : True := trivial
theorem PySem.W.Fast.tw1281776509523394976 : True := trivial
theorem PySem.W.Fast.tw4785394809525585215 : True := trivial
theorem PySem.W.Fast.tw5046889995737097800 : True := trivial
theorem PySem.W.Fast.tw10280514114018020288 : True := trivial
theorem PySem.W.Fast.tw4191032238429346798 : True := trivial
theorem PySem.W.Fast.tw17626826212752364667 : True := trivial
theorem PySem.W.Fast.tw6002740337318317999 : True := trivial
theorem PySem.W.Fast.tw14507523732579479850 : True := trivial
theorem PySem.W.Fast.tw16005528764915936789 : True := trivial
theorem PySem.W.Fast.tw12110033143636052702 : True := trivial
theorem PySem.W.Fast.tw8388314440845401803 : True := trivial
theorem PySem.W.Fast.tw8276923550133937228 : True := trivial
theorem PySem.W.Fast.tw9460956911085056633 : True := trivial
theorem PySem.W.Fast.tw3869017231539580333 : True := trivial
theorem PySem.W.Fast.tw7559600141084363829 : True := trivial
theorem PySem.W.Fast.tw6074464397261174885 : True := trivial
theorem PySem.W.Fast.tw8357907750516104964 : True := trivial
theorem PySem.W.Fast.tw6742289650243440810 : True := trivial
theorem PySem.W.Fast.tw3332809787961440441 : True := trivial
theorem PySem.W.Fast.tw13083755890155745879 : True := trivial
theorem PySem.W.Fast.tw13565202968246711748 : True := trivial
theorem PySem.W.Fast.tw15244481509387901555 : True := trivial
theorem PySem.W.Fast.tw17625440060159103489 : True := trivial
theorem PySem.W.Fast.tw4894776485262766705 : True := trivial
theorem PySem.W.Fast.tw14357491586721656945 : True := trivial
theorem PySem.W.Fast.tw10388465949061162343 : True := trivial
theorem PySem.W.Fast.tw8615171263910928538 : True := trivial
theorem PySem.W.Fast.tw12808250470731183104 : True := trivial
theorem PySem.W.Fast.tw18063753881885767154 : True := trivial
theorem PySem.W.Fast.tw10792207210951900386 : True := trivial
theorem PySem.W.Fast.tw2496685372993494408 : True := trivial
theorem PySem.W.Fast.tw7655165812395921789 : True := trivial
theorem PySem.W.Fast.tw3904396497784149848 : True := trivial
theorem PySem.W.Fast.tw4624707969896305583 : True := trivial
theorem PySem.W.Fast.tw11151517260966824698 : True := trivial
theorem PySem.W.Fast.tw8812589907697651901 : True := trivial
theorem PySem.W.Fast.tw4395389230333694570 : True := trivial
theorem PySem.W.Fast.tw7396920403953848355 : True := trivial
theorem PySem.W.Fast.tw6624132859583184513 : True := trivial
theorem PySem.W.Fast.tw8520659988314549612 : True := trivial
theorem PySem.W.Fast.tw6807338452087168383 : True := trivial
theorem PySem.W.Fast.tw7597932934344785021 : True := trivial
theorem PySem.W.Fast.tw8633737753932109097 : True := trivial
theorem PySem.W.Fast.tw17300126117948580728 : True := trivial
theorem PySem.W.Fast.tw17264775594032505421 : True := trivial
theorem PySem.W.Fast.tw7371224556030479040 : True := trivial
theorem PySem.W.Fast.tw18151858293717337055 : True := trivial
theorem PySem.W.Fast.tw3343920830488919352 : True := trivial
theorem PySem.W.Fast.tw2249713938252125207 : True := trivial
theorem PySem.W.Fast.tw2084302342488241734 : True := trivial
theorem PySem.W.Fast.tw641515726839978451 : True := trivial
theorem PySem.W.Fast.tw9146679348078210762 : True := trivial
theorem PySem.W.Fast.tw10104102335142359249 : True := trivial
theorem PySem.W.Fast.tw2997784903896487809 : True := trivial
theorem PySem.W.Fast.tw3794914796923874614 : True := trivial
theorem PySem.W.Fast.tw12853992665758916559 : True := trivial
theorem PySem.W.Fast.tw11579883723685668869 : True := trivial
theorem PySem.W.Fast.tw9571221221432777364 : True := trivial
theorem PySem.W.Fast.tw16192959683382962369 : True := trivial
theorem PySem.W.Fast.tw14147693043476134146 : True := trivial
theorem PySem.W.Fast.tw6084148256692674076 : True := trivial
theorem PySem.W.Fast.tw9945053387966653694 : True := trivial
theorem PySem.W.Fast.tw14790866519286668698 : True := trivial
theorem PySem.W.Fast.tw5896613014468467952 : True := trivial
theorem PySem.W.Fast.tw3625494793281785037 : True := trivial
theorem PySem.W.Fast.tw7149068215173711701 : True := trivial
theorem PySem.W.Fast.tw9843028537739215262 : True := trivial
theorem PySem.W.Fast.tw14100903824828736381 : True := trivial
theorem PySem.W.Fast.tw7082420856860347415 : True := trivial
theorem PySem.W.Fast.tw9692867594726493506 : True := trivial
theorem PySem.W.Fast.tw8322675702566614727 : True := trivial
theorem PySem.W.Fast.tw14948659689625653186 : True := trivial
theorem PySem.W.Fast.tw12348663916240477008 : True := trivial
theorem PySem.W.Fast.tw12765258783085553422 : True := trivial
theorem PySem.W.Fast.tw1802956905095379772 : True := trivial
theorem PySem.W.Fast.tw7152717322874461947 : True := trivial
theorem PySem.W.Fast.tw9413816680001050370 : True := trivial
theorem PySem.W.Fast.tw12266845939244562847 : True := trivial
theorem PySem.W.Fast.tw18381996912325333547 : True := trivial
theorem PySem.W.Fast.tw1510272710101271031 : True := trivial
theorem PySem.W.Fast.tw16753163088395162686 : True := trivial
theorem PySem.W.Fast.tw15868160376042605249 : True := trivial
theorem PySem.W.Fast.tw611120954202937512 : True := trivial
theorem PySem.W.Fast.tw8440778567630133302 : True := trivial
theorem PySem.W.Fast.tw12300498814175005167 : True := trivial
theorem PySem.W.Fast.tw10858590766765043475 : True := trivial
theorem PySem.W.Fast.tw11850216024488162659 : True := trivial
theorem PySem.W.Fast.tw12977262261350665478 : True := trivial
theorem PySem.W.Fast.tw6305362132754435460 : True := trivial
theorem PySem.W.Fast.tw3879128640929572478 : True := trivial
theorem PySem.W.Fast.tw2690370690551114381 : True := trivial
theorem PySem.W.Fast.tw10328710561164445240 : True := trivial
theorem PySem.W.Fast.tw3352783885062852413 : True := trivial
theorem PySem.W.Fast.tw8074098417555950572 : True := trivial
theorem PySem.W.Fast.tw7743432483274367865 : True := trivial
theorem PySem.W.Fast.tw8465397529148548988 : True := trivial
theorem PySem.W.Fast.tw2212681975759902457 : True := trivial
theorem PySem.W.Fast.tw2244892779938950357 : True := trivial
theorem PySem.W.Fast.tw14531655852703539320 : True := trivial
theorem PySem.W.Fast.tw4839921287342622718 : True := trivial
theorem PySem.W.Fast.tw9347969390442465361 : True := trivial
theorem PySem.W.Fast.tw6678062797971537639 : True := trivial
theorem PySem.W.Fast.tw10477663196629129598 : True := trivial
theorem PySem.W.Fast.tw8750296298108918552 : True := trivial
theorem PySem.W.Fast.tw7775795827673528529 : True := trivial
theorem PySem.W.Fast.tw18181381912287758914 : True := trivial
theorem PySem.W.Fast.tw1937532823068466203 : True := trivial
theorem PySem.W.Fast.tw1073888056184120391 : True := trivial
theorem PySem.W.Fast.tw6990724864181404755 : True := trivial
theorem PySem.W.Fast.tw8157511742171250193 : True := trivial
theorem PySem.W.Fast.tw9688949420813263685 : True := trivial
theorem PySem.W.Fast.tw17448126246293705458 : True := trivial
theorem PySem.W.Fast.tw9526153018008967764 : True := trivial
theorem PySem.W.Fast.tw12106221179746488228 : True := trivial
theorem PySem.W.Fast.tw12686046095811635321 : True := trivial
theorem PySem.W.Fast.tw16857555924163695948 : True := trivial
theorem PySem.W.Fast.tw13835155176886473111 : True := trivial
theorem PySem.W.Fast.tw3578125103445736749 : True := trivial
theorem PySem.W.Fast.tw11864349032895298467 : True := trivial
theorem PySem.W.Fast.tw12856427809661013924 : True := trivial
theorem PySem.W.Fast.tw14808848062989543215 : True := trivial
theorem PySem.W.Fast.tw13366027381666998181 : True := trivial
theorem PySem.W.Fast.tw15141569905211917395 : True := trivial
theorem PySem.W.Fast.tw6251358564344028758 : True := trivial
theorem PySem.W.Fast.tw14186333355879785937 : True := trivial
theorem PySem.W.Fast.tw2654738104518175181 : True := trivial
theorem PySem.W.Fast.tw16500057881905374102 : True := trivial
theorem PySem.W.Fast.tw14707934108716929708 : True := trivial
theorem PySem.W.Fast.tw5249181254594572400 : True := trivial
theorem PySem.W.Fast.tw12908899766566502764 : True := trivial
theorem PySem.W.Fast.tw14086383194893438706 : True := trivial
theorem PySem.W.Fast.tw11209009270021928793 : True := trivial
theorem PySem.W.Fast.tw917677481514533775 : True := trivial
theorem PySem.W.Fast.tw17053598681435657890 : True := trivial
theorem PySem.W.Fast.tw4777995954492430778 : True := trivial
theorem PySem.W.Fast.tw3850396153196235989 : True := trivial
theorem PySem.W.Fast.tw2145178559297443620 : True := trivial
theorem PySem.W.Fast.tw8173789028666646567 : True := trivial
theorem PySem.W.Fast.tw7733680383698292521 : True := trivial
theorem PySem.W.Fast.tw7511068797884666933 : True := trivial
theorem PySem.W.Fast.tw8297832696122260321 : True := trivial
theorem PySem.W.Fast.tw14694145996943297787 : True := trivial
theorem PySem.W.Fast.tw1817900736453925653 : True := trivial
theorem PySem.W.Fast.tw4838584064371546628 : True := trivial
theorem PySem.W.Fast.tw3880379993772957862 : True := trivial
theorem PySem.W.Fast.tw1333230438498672974 : True := trivial
theorem PySem.W.Fast.tw10144564937783185170 : True := trivial
theorem PySem.W.Fast.tw15733771845674658630 : True := trivial
theorem PySem.W.Fast.tw15247033837246797272 : True := trivial
theorem PySem.W.Fast.tw2121589634162914713 : True := trivial
theorem PySem.W.Fast.tw7189748155379037772 : True := trivial
theorem PySem.W.Fast.tw13525118739106438513 : True := trivial
theorem PySem.W.Fast.tw13889915523071891795 : True := trivial
theorem PySem.W.Fast.tw851940746187166695 : True := trivial
theorem PySem.W.Fast.tw1496612067534660865 : True := trivial
theorem PySem.W.Fast.tw15033643881775434238 : True := trivial
theorem PySem.W.Fast.tw12344728364426513382 : True := trivial
theorem PySem.W.Fast.tw3874865963574117243 : True := trivial
theorem PySem.W.Fast.tw11981723905569911061 : True := trivial
theorem PySem.W.Fast.tw15304239988455995376 : True := trivial
theorem PySem.W.Fast.tw3415445854187516219 : True := trivial
theorem PySem.W.Fast.tw5572580467249036760 : True := trivial
theorem PySem.W.Fast.tw2415622127684298290 : True := trivial
theorem PySem.W.Fast.tw13563435826241733666 : True := trivial
theorem PySem.W.Fast.tw7344071206766327161 : True := trivial
theorem PySem.W.Fast.tw5634856297329105835 : True := trivial
theorem PySem.W.Fast.tw1565515309969568707 : True := trivial
theorem PySem.W.Fast.tw4047463821220819829 : True := trivial
theorem PySem.W.Fast.tw11698709962598259012 : True := trivial
theorem PySem.W.Fast.tw905755972600202258 : True := trivial
theorem PySem.W.Fast.tw578157717417254381 : True := trivial
theorem PySem.W.Fast.tw14820989630804127578 : True := trivial
theorem PySem.W.Fast.tw3566917951395593151 : True := trivial
theorem PySem.W.Fast.tw15381602290824376636 : True := trivial
theorem PySem.W.Fast.tw16898001589971856748 : True := trivial
theorem PySem.W.Fast.tw6922045368432227902 : True := trivial
theorem PySem.W.Fast.tw3935215240985402380 : True := trivial
theorem PySem.W.Fast.tw4935179846558803906 : True := trivial
theorem PySem.W.Fast.tw3324625833792413111 : True := trivial
theorem PySem.W.Fast.tw12590236535502217985 : True := trivial
theorem PySem.W.Fast.tw13701681689913034565 : True := trivial
theorem PySem.W.Fast.tw11782103054668507497 : True := trivial
theorem PySem.W.Fast.tw17683755173607905001 : True := trivial
theorem PySem.W.Fast.tw2485537878539022215 : True := trivial
theorem PySem.W.Fast.tw15763514729756785374 : True := trivial
theorem PySem.W.Fast.tw5816886253584077015 : True := trivial
theorem PySem.W.Fast.tw11233944053749284997 : True := trivial
theorem PySem.W.Fast.tw7927985857891961271 : True := trivial
theorem PySem.W.Fast.tw13344304178178966121 : True := trivial
theorem PySem.W.Fast.tw15229752063723345414 : True := trivial
theorem PySem.W.Fast.tw16400730989987915119 : True := trivial
theorem PySem.W.Fast.tw16109087504606014598 : True := trivial
theorem PySem.W.Fast.tw6803558311711009768 : True := trivial
theorem PySem.W.Fast.tw4845094544523235504 : True := trivial
theorem PySem.W.Fast.tw16527829386498897187 : True := trivial
theorem PySem.W.Fast.tw7195617438731639509 : True := trivial
theorem PySem.W.Fast.tw13164420489540455460 : True := trivial
theorem PySem.W.Fast.tw8321929894139141385 : True := trivial
theorem PySem.W.Fast.tw13020871633062061831 : True := trivial
theorem PySem.W.Fast.tw18182921031776571028 : True := trivial
theorem PySem.W.Fast.tw4630131286600876647 : True := trivial
theorem PySem.W.Fast.tw11614881613859782066 : True := trivial
theorem PySem.W.Fast.tw9527197061670803756 : True := trivial
theorem PySem.W.Fast.tw6681511414142963980 : True := trivial
theorem PySem.W.Fast.tw1966463483865293194 : True := trivial
theorem PySem.W.Fast.tw16708030394752210689 : True := trivial
theorem PySem.W.Fast.tw12337885236376327539 : True := trivial
theorem PySem.W.Fast.tw4821507621012153699 : True := trivial
theorem PySem.W.Fast.tw7764902473278247866 : True := trivial
theorem PySem.W.Fast.tw5457701146279590222 : True := trivial
theorem PySem.W.Fast.tw4711732529465298325 : True := trivial
theorem PySem.W.Fast.tw1125309360364448596 : True := trivial
theorem PySem.W.Fast.tw17878782962627235247 : True := trivial
theorem PySem.W.Fast.tw15089294765471247842 : True := trivial
theorem PySem.W.Fast.tw344469610634755216 : True := trivial
theorem PySem.W.Fast.tw7951914709107692210 : True := trivial
theorem PySem.W.Fast.tw14950569038835025202 : True := trivial
theorem PySem.W.Fast.tw5698177135003532984 : True := trivial
theorem PySem.W.Fast.tw15192098625875402547 : True := trivial
theorem PySem.W.Fast.tw2207720387953398653 : True := trivial
theorem PySem.W.Fast.tw6348483646838588521 : True := trivial
theorem PySem.W.Fast.tw1233694585292924541 : True := trivial
theorem PySem.W.Fast.tw62140651150250255 : True := trivial
theorem PySem.W.Fast.tw2143273318811759738 : True := trivial
theorem PySem.W.Fast.tw1727134038615648669 : True := trivial
theorem PySem.W.Fast.tw11964276752011873197 : True := trivial
theorem PySem.W.Fast.tw5317437550625525083 : True := trivial
theorem PySem.W.Fast.tw3473394594162803491 : True := trivial
theorem PySem.W.Fast.tw4586720833686672501 : True := trivial
theorem PySem.W.Fast.tw17601509787340821726 : True := trivial
theorem PySem.W.Fast.tw5443517751514049088 : True := trivial
theorem PySem.W.Fast.tw13744495172184927079 : True := trivial
theorem PySem.W.Fast.tw8991439929013392033 : True := trivial
theorem PySem.W.Fast.tw6371861783529284895 : True := trivial
theorem PySem.W.Fast.tw1719176344938168910 : True := trivial
theorem PySem.W.Fast.tw13417786981873339405 : True := trivial
theorem PySem.W.Fast.tw14920100237634958473 : True := trivial
theorem PySem.W.Fast.tw11395754502657657314 : True := trivial
theorem PySem.W.Fast.tw15737352922770159230 : True := trivial
theorem PySem.W.Fast.tw13239774944469652125 : True := trivial
theorem PySem.W.Fast.tw2969387289905118357 : True := trivial
theorem PySem.W.Fast.tw5369736312172741436 : True := trivial
theorem PySem.W.Fast.tw10125853625207088183 : True := trivial
theorem PySem.W.Fast.tw7871898534460643358 : True := trivial
theorem PySem.W.Fast.tw15509450894534547761 : True := trivial
theorem PySem.W.Fast.tw443009153033096847 : True := trivial
theorem PySem.W.Fast.tw2995424521194565382 : True := trivial
theorem PySem.W.Fast.tw17217833100313102823 : True := trivial
theorem PySem.W.Fast.tw2527975465828051720 : True := trivial
theorem PySem.W.Fast.tw5004024928051546321 : True := trivial
theorem PySem.W.Fast.tw17812580374727505754 : True := trivial
theorem PySem.W.Fast.tw18162397491653258692 : True := trivial
theorem PySem.W.Fast.tw1046876139103018431 : True := trivial
theorem PySem.W.Fast.tw3182911022663326322 : True := trivial
theorem PySem.W.Fast.tw448633032511493342 : True := trivial
theorem PySem.W.Fast.tw9921535740622609167 : True := trivial
theorem PySem.W.Fast.tw10927779939072497292 : True := trivial
theorem PySem.W.Fast.tw18310310818602494910 : True := trivial
theorem PySem.W.Fast.tw8324185871769242879 : True := trivial
theorem PySem.W.Fast.tw13890476828069522806 : True := trivial
theorem PySem.W.Fast.tw16705432432878233822 : True := trivial
theorem PySem.W.Fast.tw746040234495871981 : True := trivial
theorem PySem.W.Fast.tw3630491152729186603 : True := trivial
theorem PySem.W.Fast.tw2753764092058465037 : True := trivial
theorem PySem.W.Fast.tw4100256699343265930 : True := trivial
theorem PySem.W.Fast.tw2903485576344243428 : True := trivial
theorem PySem.W.Fast.tw10376595492010947020 : True := trivial
theorem PySem.W.Fast.tw13072418805432512735 : True := trivial
theorem PySem.W.Fast.tw13349653229949411176 : True := trivial
theorem PySem.W.Fast.tw11353470208309132917 : True := trivial
theorem PySem.W.Fast.tw1898794428383747137 : True := trivial
theorem PySem.W.Fast.tw9174964736967149263 : True := trivial
theorem PySem.W.Fast.tw5484265878621550896 : True := trivial
theorem PySem.W.Fast.tw7944427061564949645 : True := trivial
theorem PySem.W.Fast.tw5640593944975622245 : True := trivial
theorem PySem.W.Fast.tw3691554820670152533 : True := trivial
theorem PySem.W.Fast.tw123462867413110630 : True := trivial
theorem PySem.W.Fast.tw9946844335084092688 : True := trivial
theorem PySem.W.Fast.tw11992538385697277693 : True := trivial
theorem PySem.W.Fast.tw9795452525610093199 : True := trivial
theorem PySem.W.Fast.tw15718278799214224369 : True := trivial
theorem PySem.W.Fast.tw12037958654705239219 : True := trivial
theorem PySem.W.Fast.tw722118605440709241 : True := trivial
theorem PySem.W.Fast.tw6841687635982837410 : True := trivial
theorem PySem.W.Fast.tw2807727147473616909 : True := trivial
theorem PySem.W.Fast.tw12900132099788080660 : True := trivial
theorem PySem.W.Fast.tw427038106621804364 : True := trivial
theorem PySem.W.Fast.tw16414208768165262527 : True := trivial
theorem PySem.W.Fast.tw17141885197058603142 : True := trivial
theorem PySem.W.Fast.tw1522094668435183633 : True := trivial
theorem PySem.W.Fast.tw10932894596100133690 : True := trivial
theorem PySem.W.Fast.tw14356458334341373607 : True := trivial
theorem PySem.W.Fast.tw15538631169029003981 : True := trivial
theorem PySem.W.Fast.tw12042436810448565323 : True := trivial
theorem PySem.W.Fast.tw4403998420895045502 : True := trivial
theorem PySem.W.Fast.tw15379567381708764933 : True := trivial
theorem PySem.W.Fast.tw10263085246789548475 : True := trivial
theorem PySem.W.Fast.tw15855453554456395933 : True := trivial
theorem PySem.W.Fast.tw28366326010861087 : True := trivial
theorem PySem.W.Fast.tw6679772430651499441 : True := trivial
theorem PySem.W.Fast.tw947360660481523534 : True := trivial
theorem PySem.W.Fast.tw6575942099922520684 : True := trivial
theorem PySem.W.Fast.tw15180003568723427562 : True := trivial
theorem PySem.W.Fast.tw15227081955826966989 : True := trivial
theorem PySem.W.Fast.tw15010109527564439755 : True := trivial
theorem PySem.W.Fast.tw236075244547563573 : True := trivial
theorem PySem.W.Fast.tw218674947084251098 : True := trivial
theorem PySem.W.Fast.tw12195734534152871738 : True := trivial
theorem PySem.W.Fast.tw8183560743342557235 : True := trivial
theorem PySem.W.Fast.tw10361518802711864135 : True := trivial
theorem PySem.W.Fast.tw16664257787127275753 : True := trivial
theorem PySem.W.Fast.tw1846236462182804966 : True := trivial
theorem PySem.W.Fast.tw10291920867715168564 : True := trivial
theorem PySem.W.Fast.tw5290924893855081750 : True := trivial
theorem PySem.W.Fast.tw8437723748156927604 : True := trivial
theorem PySem.W.Fast.tw13404297496790055798 : True := trivial
theorem PySem.W.Fast.tw14216590898760989746 : True := trivial
theorem PySem.W.Fast.tw12615444083074131089 : True := trivial
theorem PySem.W.Fast.tw9343089124224906078 : True := trivial
theorem PySem.W.Fast.tw1906460672644297609 : True := trivial
theorem PySem.W.Fast.tw10134647209000641143 : True := trivial
theorem PySem.W.Fast.tw14933324633823716243 : True := trivial
theorem PySem.W.Fast.tw5804582524331763680 : True := trivial
theorem PySem.W.Fast.tw12567516726502142906 : True := trivial
theorem PySem.W.Fast.tw10457614481621687471 : True := trivial
theorem PySem.W.Fast.tw2906291558555324461 : True := trivial
theorem PySem.W.Fast.tw1464567104469100842 : True := trivial
theorem PySem.W.Fast.tw12816479830609109953 : True := trivial
theorem PySem.W.Fast.tw6911339375613728288 : True := trivial
theorem PySem.W.Fast.tw12558397950653521753 : True := trivial
theorem PySem.W.Fast.tw14859965427028532469 : True := trivial
theorem PySem.W.Fast.tw2843094365322938501 : True := trivial
theorem PySem.W.Fast.tw6090933064260663183 : True := trivial
theorem PySem.W.Fast.tw15187988174391685989 : True := trivial
theorem PySem.W.Fast.tw3941327256873587365 : True := trivial
theorem PySem.W.Fast.tw6875527128430182035 : True := trivial
theorem PySem.W.Fast.tw6170987884879784100 : True := trivial
theorem PySem.W.Fast.tw4256894921194132329 : True := trivial
theorem PySem.W.Fast.tw8877885455710523294 : True := trivial
theorem PySem.W.Fast.tw8763548075206779946 : True := trivial
theorem PySem.W.Fast.tw10851472789079401110 : True := trivial
theorem PySem.W.Fast.tw8620177365762068613 : True := trivial
theorem PySem.W.Fast.tw7092816847267009767 : True := trivial
theorem PySem.W.Fast.tw3844976588446161323 : True := trivial
theorem PySem.W.Fast.tw1878361080417780988 : True := trivial
theorem PySem.W.Fast.tw14310491295472164141 : True := trivial
theorem PySem.W.Fast.tw6093814398065609176 : True := trivial
theorem PySem.W.Fast.tw328077726246819891 : True := trivial
theorem PySem.W.Fast.tw5735478971031419037 : True := trivial
theorem PySem.W.Fast.tw14264200332724751876 : True := trivial
theorem PySem.W.Fast.tw7970752317930478056 : True := trivial
theorem PySem.W.Fast.tw2402319529255801378 : True := trivial
theorem PySem.W.Fast.tw17978609487675981896 : True := trivial
theorem PySem.W.Fast.tw14715660622675442221 : True := trivial
theorem PySem.W.Fast.tw9400426869615439071 : True := trivial
theorem PySem.W.Fast.tw8004160769383125240 : True := trivial
theorem PySem.W.Fast.tw330008753477343 : True := trivial
theorem PySem.W.Fast.tw16863315323562522293 : True := trivial
theorem PySem.W.Fast.tw6178835254059824045 : True := trivial
theorem PySem.W.Fast.tw6811908286732447595 : True := trivial
theorem PySem.W.Fast.tw4661554953950270993 : True := trivial
theorem PySem.W.Fast.tw11956839305449755203 : True := trivial
theorem PySem.W.Fast.tw12507038081124312906 : True := trivial
theorem PySem.W.Fast.tw13467815490020957173 : True := trivial
theorem PySem.W.Fast.tw4274706557567784907 : True := trivial
theorem PySem.W.Fast.tw197442964735124272 : True := trivial
theorem PySem.W.Fast.tw5030158558637682459 : True := trivial
theorem PySem.W.Fast.tw14411329016785678308 : True := trivial
theorem PySem.W.Fast.tw5936314849708736822 : True := trivial
theorem PySem.W.Fast.tw1613349415929401132 : True := trivial
theorem PySem.W.Fast.tw14865097465996323523 : True := trivial
theorem PySem.W.Fast.tw2326233513172416195 : True := trivial
theorem PySem.W.Fast.tw10232193324907268803 : True := trivial
theorem PySem.W.Fast.tw2147684996020936831 : True := trivial
theorem PySem.W.Fast.tw10929068514537814118 : True := trivial
theorem PySem.W.Fast.tw6346052880123760057 : True := trivial
theorem PySem.W.Fast.tw15777018274806027665 : True := trivial
theorem PySem.W.Fast.tw7113047911400720848 : True := trivial
theorem PySem.W.Fast.tw15094595904070444704 : True := trivial
theorem PySem.W.Fast.tw3115212388890408785 : True := trivial
theorem PySem.W.Fast.tw12101521811328847500 : True := trivial
theorem PySem.W.Fast.tw6944717273725031915 : True := trivial
theorem PySem.W.Fast.tw7809509062821180817 : True := trivial
theorem PySem.W.Fast.tw6888177336298497422 : True := trivial
theorem PySem.W.Fast.tw11870259133908381613 : True := trivial
theorem PySem.W.Fast.tw8754808290547880298 : True := trivial
theorem PySem.W.Fast.tw12742342355448445620 : True := trivial
theorem PySem.W.Fast.tw9035236121943298615 : True := trivial
theorem PySem.W.Fast.tw14362684719049416917 : True := trivial
theorem PySem.W.Fast.tw17258080386666061956 : True := trivial
theorem PySem.W.Fast.tw6568659355696266813 : True := trivial
theorem PySem.W.Fast.tw1668130525103792527 : True := trivial
theorem PySem.W.Fast.tw9324727364992730870 : True := trivial
theorem PySem.W.Fast.tw7388623682040698843 : True := trivial
theorem PySem.W.Fast.tw9840777099413218608 : True := trivial
theorem PySem.W.Fast.tw17105170348830920865 : True := trivial
theorem PySem.W.Fast.tw17466585483613938868 : True := trivial
theorem PySem.W.Fast.tw1000713201329121673 : True := trivial
theorem PySem.W.Fast.tw233626711518335827 : True := trivial
theorem PySem.W.Fast.tw16848133759978388219 : True := trivial
theorem PySem.W.Fast.tw3365065696814033823 : True := trivial
theorem PySem.W.Fast.tw16134373140411511352 : True := trivial
theorem PySem.W.Fast.tw12865787937011956820 : True := trivial
theorem PySem.W.Fast.tw7096058173200409250 : True := trivial
theorem PySem.W.Fast.tw15985644029780085501 : True := trivial
theorem PySem.W.Fast.tw8814292018351361129 : True := trivial
theorem PySem.W.Fast.tw12072056644832903791 : True := trivial
theorem PySem.W.Fast.tw6188445493740186396 : True := trivial
theorem PySem.W.Fast.tw12968781873306185284 : True := trivial
theorem PySem.W.Fast.tw4751076226974174391 : True := trivial
theorem PySem.W.Fast.tw2975044658783775312 : True := trivial
theorem PySem.W.Fast.tw1792667527237438699 : True := trivial
theorem PySem.W.Fast.tw8249096686413669531 : True := trivial
theorem PySem.W.Fast.tw4883748638695356292 : True := trivial
theorem PySem.W.Fast.tw16674095063664836528 : True := trivial
theorem PySem.W.Fast.tw13502917943356529764 : True := trivial
theorem PySem.W.Fast.tw10352722273072281377 : True := trivial
theorem PySem.W.Fast.tw2132120942565845354 : True := trivial
theorem PySem.W.Fast.tw1020329414937375863 : True := trivial
theorem PySem.W.Fast.tw17151115768969044005 : True := trivial
theorem PySem.W.Fast.tw9991543857511504692 : True := trivial
theorem PySem.W.Fast.tw9815928756153778345 : True := trivial
theorem PySem.W.Fast.tw1264904068241289873 : True := trivial
theorem PySem.W.Fast.tw18157335696836769164 : True := trivial
theorem PySem.W.Fast.tw1210521082559946127 : True := trivial
theorem PySem.W.Fast.tw14592622128142421507 : True := trivial
theorem PySem.W.Fast.tw8621566610160414388 : True := trivial
theorem PySem.W.Fast.tw911153448606080507 : True := trivial
theorem PySem.W.Fast.tw6067569887137668041 : True := trivial
theorem PySem.W.Fast.tw750074670981346399 : True := trivial
theorem PySem.W.Fast.tw7638785011343284836 : True := trivial
theorem PySem.W.Fast.tw1624632381701560034 : True := trivial
theorem PySem.W.Fast.tw11528207996642995709 : True := trivial
theorem PySem.W.Fast.tw7985946550029504948 : True := trivial
theorem PySem.W.Fast.tw16324569698596043451 : True := trivial
theorem PySem.W.Fast.tw13128403403765007911 : True := trivial
theorem PySem.W.Fast.tw15792955370468422689 : True := trivial
theorem PySem.W.Fast.tw17893715351467808148 : True := trivial
theorem PySem.W.Fast.tw17284045252431211486 : True := trivial
theorem PySem.W.Fast.tw8863853237242097029 : True := trivial
theorem PySem.W.Fast.tw8485161570662316686 : True := trivial
theorem PySem.W.Fast.tw7360146838777750645 : True := trivial
theorem PySem.W.Fast.tw14881209080779890742 : True := trivial
theorem PySem.W.Fast.tw9058036044724354861 : True := trivial
theorem PySem.W.Fast.tw11126834403705341632 : True := trivial
theorem PySem.W.Fast.tw12618142409908705243 : True := trivial
theorem PySem.W.Fast.tw17642118540425824817 : True := trivial
theorem PySem.W.Fast.tw17066224389115589800 : True := trivial
theorem PySem.W.Fast.tw17085066369394377887 : True := trivial
theorem PySem.W.Fast.tw13689032119387123977 : True := trivial
theorem PySem.W.Fast.tw15109968143829125534 : True := trivial
theorem PySem.W.Fast.tw18180003432818086099 : True := trivial
theorem PySem.W.Fast.tw5434469175157170665 : True := trivial
theorem PySem.W.Fast.tw5862923826114679073 : True := trivial
theorem PySem.W.Fast.tw18242469935674183588 : True := trivial
theorem PySem.W.Fast.tw2101334685803552001 : True := trivial
theorem PySem.W.Fast.tw7583848358886034178 : True := trivial
theorem PySem.W.Fast.tw6391297392184528662 : True := trivial
theorem PySem.W.Fast.tw11820882359767053555 : True := trivial
theorem PySem.W.Fast.tw4203102409216920425 : True := trivial
theorem PySem.W.Fast.tw4507942040075166148 : True := trivial
theorem PySem.W.Fast.tw18211924733724869694 : True := trivial
theorem PySem.W.Fast.tw16904687221200652202 : True := trivial
theorem PySem.W.Fast.tw14789387755107935708 : True := trivial
theorem PySem.W.Fast.tw17391683739174639884 : True := trivial
theorem PySem.W.Fast.tw18060287607600619080 : True := trivial
theorem PySem.W.Fast.tw1061548765926636915 : True := trivial
theorem PySem.W.Fast.tw14476334479587913821 : True := trivial
theorem PySem.W.Fast.tw5054757497279029021 : True := trivial
theorem PySem.W.Fast.tw15981910742586585868 : True := trivial
theorem PySem.W.Fast.tw487352984048351674 : True := trivial
theorem PySem.W.Fast.tw15637554078974142701 : True := trivial
theorem PySem.W.Fast.tw5770374168004800859 : True := trivial
theorem PySem.W.Fast.tw1867609571242109971 : True := trivial
theorem PySem.W.Fast.tw9653869994517841814 : True := trivial
theorem PySem.W.Fast.tw14597518201788114760 : True := trivial
theorem PySem.W.Fast.tw11769032907099127564 : True := trivial
theorem PySem.W.Fast.tw400035855733181331 : True := trivial
theorem PySem.W.Fast.tw9466296736529377642 : True := trivial
theorem PySem.W.Fast.tw2667481515160096288 : True := trivial
theorem PySem.W.Fast.tw16788701084662208677 : True := trivial
theorem PySem.W.Fast.tw13576838264422758168 : True := trivial
theorem PySem.W.Fast.tw4772264686460258453 : True := trivial
theorem PySem.W.Fast.tw3935782542761950625 : True := trivial
theorem PySem.W.Fast.tw6582269236179695817 : True := trivial
theorem PySem.W.Fast.tw10940335885864354082 : True := trivial
theorem PySem.W.Fast.tw17125152260207639026 : True := trivial
theorem PySem.W.Fast.tw16284598797404479886 : True := trivial
theorem PySem.W.Fast.tw6859015908243323316 : True := trivial
theorem PySem.W.Fast.tw5025509720819670937 : True := trivial
theorem PySem.W.Fast.tw2800796842641267087 : True := trivial
theorem PySem.W.Fast.tw17679719127186184799 : True := trivial
theorem PySem.W.Fast.tw4365560471509148432 : True := trivial
theorem PySem.W.Fast.tw2786004379190424573 : True := trivial
theorem PySem.W.Fast.tw1073914505436821939 : True := trivial
theorem PySem.W.Fast.tw11874099361687063287 : True := trivial
theorem PySem.W.Fast.tw12972581551289771793 : True := trivial
theorem PySem.W.Fast.tw10621748923940031826 : True := trivial
theorem PySem.W.Fast.tw13172191507602220012 : True := trivial
theorem PySem.W.Fast.tw11201466772612374125 : True := trivial
theorem PySem.W.Fast.tw12782065475677389170 : True := trivial
theorem PySem.W.Fast.tw15405796411540153387 : True := trivial
theorem PySem.W.Fast.tw15890279760157427375 : True := trivial
theorem PySem.W.Fast.tw13387128829822238974 : True := trivial
theorem PySem.W.Fast.tw17826622744781843340 : True := trivial
theorem PySem.W.Fast.tw16956464624753072697 : True := trivial
theorem PySem.W.Fast.tw11628045518850864538 : True := trivial
theorem PySem.W.Fast.tw11422461071812926852 : True := trivial
theorem PySem.W.Fast.tw1488971403045462191 : True := trivial
theorem PySem.W.Fast.tw1025703112418063995 : True := trivial
theorem PySem.W.Fast.tw4610191390154367860 : True := trivial
theorem PySem.W.Fast.tw11414356762610696667 : True := trivial
theorem PySem.W.Fast.tw11724136793660281503 : True := trivial
theorem PySem.W.Fast.tw3097257007635061015 : True := trivial
theorem PySem.W.Fast.tw2896817936663317454 : True := trivial
theorem PySem.W.Fast.tw11577392673147178176 : True := trivial
theorem PySem.W.Fast.tw14325721537315488125 : True := trivial
theorem PySem.W.Fast.tw8530073618466543115 : True := trivial
theorem PySem.W.Fast.tw15195746561520377045 : True := trivial
theorem PySem.W.Fast.tw16253143195681861211 : True := trivial
theorem PySem.W.Fast.tw4932510271678518794 : True := trivial
theorem PySem.W.Fast.tw13495614035150543173 : True := trivial
theorem PySem.W.Fast.tw16902243135369044296 : True := trivial
theorem PySem.W.Fast.tw6576146983435196336 : True := trivial
theorem PySem.W.Fast.tw1140856619257416770 : True := trivial
theorem PySem.W.Fast.tw16715773326122767550 : True := trivial
theorem PySem.W.Fast.tw17416403515740133385 : True := trivial
theorem PySem.W.Fast.tw6610343042757900660 : True := trivial
theorem PySem.W.Fast.tw9715824280990603787 : True := trivial
theorem PySem.W.Fast.tw11074007785062459619 : True := trivial
theorem PySem.W.Fast.tw11799884197556831088 : True := trivial
theorem PySem.W.Fast.tw13973512334005000550 : True := trivial
theorem PySem.W.Fast.tw1230423462430239006 : True := trivial
theorem PySem.W.Fast.tw10157184990214942170 : True := trivial
theorem PySem.W.Fast.tw11457139810291276719 : True := trivial
theorem PySem.W.Fast.tw15792472319102293731 : True := trivial
theorem PySem.W.Fast.tw13916579734731295095 : True := trivial
theorem PySem.W.Fast.tw1917404594413843164 : True := trivial
theorem PySem.W.Fast.tw10153537413129528562 : True := trivial
theorem PySem.W.Fast.tw9946461620034055116 : True := trivial
theorem PySem.W.Fast.tw3148946135889041616 : True := trivial
theorem PySem.W.Fast.tw9872581598871829030 : True := trivial
theorem PySem.W.Fast.tw12034751782473388198 : True := trivial
theorem PySem.W.Fast.tw6644882887009720701 : True := trivial
theorem PySem.W.Fast.tw4188660351289593804 : True := trivial
theorem PySem.W.Fast.tw4032423476991022972 : True := trivial
theorem PySem.W.Fast.tw8658219959825208137 : True := trivial
theorem PySem.W.Fast.tw11777080267910041326 : True := trivial
theorem PySem.W.Fast.tw10770564176379051054 : True := trivial
theorem PySem.W.Fast.tw7856737670011045686 : True := trivial
theorem PySem.W.Fast.tw6165640748994023825 : True := trivial
theorem PySem.W.Fast.tw7325889112836756730 : True := trivial
theorem PySem.W.Fast.tw9195532583873547731 : True := trivial
theorem PySem.W.Fast.tw17812417161862241227 : True := trivial
theorem PySem.W.Fast.tw2665323621147032496 : True := trivial
theorem PySem.W.Fast.tw16581296810494200161 : True := trivial
theorem PySem.W.Fast.tw16497159566951434075 : True := trivial
theorem PySem.W.Fast.tw8853108314375287901 : True := trivial
theorem PySem.W.Fast.tw349479733795124024 : True := trivial
theorem PySem.W.Fast.tw15934164418256394857 : True := trivial
theorem PySem.W.Fast.tw10238241327583019496 : True := trivial
theorem PySem.W.Fast.tw12706457193085518990 : True := trivial
theorem PySem.W.Fast.tw7113174086460810009 : True := trivial
theorem PySem.W.Fast.tw1746337518750110971 : True := trivial
theorem PySem.W.Fast.tw3562990521402534163 : True := trivial
theorem PySem.W.Fast.tw1818893226614478345 : True := trivial
theorem PySem.W.Fast.tw14598254695164488165 : True := trivial
theorem PySem.W.Fast.tw3808499238228815406 : True := trivial
theorem PySem.W.Fast.tw11541397801257931129 : True := trivial
theorem PySem.W.Fast.tw18160214464782247988 : True := trivial
theorem PySem.W.Fast.tw7440601789487524755 : True := trivial
theorem PySem.W.Fast.tw13152147364092669004 : True := trivial
theorem PySem.W.Fast.tw12362787759150614133 : True := trivial
theorem PySem.W.Fast.tw1630398747794823120 : True := trivial
theorem PySem.W.Fast.tw15919348879488568530 : True := trivial
theorem PySem.W.Fast.tw18092846187244456556 : True := trivial
theorem PySem.W.Fast.tw16603990097818426499 : True := trivial
theorem PySem.W.Fast.tw17006256242215822718 : True := trivial
theorem PySem.W.Fast.tw8882303337769035518 : True := trivial
theorem PySem.W.Fast.tw1258265357402828568 : True := trivial
theorem PySem.W.Fast.tw8126549230006947597 : True := trivial
theorem PySem.W.Fast.tw3519625790526380070 : True := trivial
theorem PySem.W.Fast.tw12165440017449734891 : True := trivial
theorem PySem.W.Fast.tw6858062254600840480 : True := trivial
theorem PySem.W.Fast.tw11093670680750465846 : True := trivial
theorem PySem.W.Fast.tw14358493900261173893 : True := trivial
theorem PySem.W.Fast.tw5494714817341177710 : True := trivial
theorem PySem.W.Fast.tw15188451925418306121 : True := trivial
theorem PySem.W.Fast.tw15501476654584229284 : True := trivial
theorem PySem.W.Fast.tw9502935198991556177 : True := trivial
theorem PySem.W.Fast.tw1792183100371276063 : True := trivial
theorem PySem.W.Fast.tw256267640851257493 : True := trivial
theorem PySem.W.Fast.tw10068205335957482423 : True := trivial
theorem PySem.W.Fast.tw11255012633309568116 : True := trivial
theorem PySem.W.Fast.tw14516871006471353086 : True := trivial
theorem PySem.W.Fast.tw12142972030000829133 : True := trivial
theorem PySem.W.Fast.tw8751711219429416890 : True := trivial
theorem PySem.W.Fast.tw12812012040993230617 : True := trivial
theorem PySem.W.Fast.tw2616453251785638137 : True := trivial
theorem PySem.W.Fast.tw1011120326091366529 : True := trivial
theorem PySem.W.Fast.tw9186403133036640602 : True := trivial
theorem PySem.W.Fast.tw9464142081331772051 : True := trivial
theorem PySem.W.Fast.tw16653372449642174587 : True := trivial
theorem PySem.W.Fast.tw10919973825171819927 : True := trivial
theorem PySem.W.Fast.tw10303223239090145164 : True := trivial
theorem PySem.W.Fast.tw12912450814625434999 : True := trivial
theorem PySem.W.Fast.tw2131137295707084358 : True := trivial
theorem PySem.W.Fast.tw9003319435153032293 : True := trivial
theorem PySem.W.Fast.tw12389999594508093347 : True := trivial
theorem PySem.W.Fast.tw17730292640022581924 : True := trivial
theorem PySem.W.Fast.tw652303663241573442 : True := trivial
theorem PySem.W.Fast.tw15666598870883529980 : True := trivial
theorem PySem.W.Fast.tw7490139830377534139 : True := trivial
theorem PySem.W.Fast.tw3183930600471032262 : True := trivial
theorem PySem.W.Fast.tw4273200490949889568 : True := trivial
theorem PySem.W.Fast.tw5962449923994523199 : True := trivial
theorem PySem.W.Fast.tw13717218647608763989 : True := trivial
theorem PySem.W.Fast.tw10298039356305073521 : True := trivial
theorem PySem.W.Fast.tw6030382641569439316 : True := trivial
theorem PySem.W.Fast.tw13795704235392593541 : True := trivial
theorem PySem.W.Fast.tw6511611305674159213 : True := trivial
theorem PySem.W.Fast.tw14395361062579933427 : True := trivial
theorem PySem.W.Fast.tw8828118175798728402 : True := trivial
theorem PySem.W.Fast.tw15817020848481081609 : True := trivial
theorem PySem.W.Fast.tw402623401001485457 : True := trivial
theorem PySem.W.Fast.tw3363991084917926316 : True := trivial
theorem PySem.W.Fast.tw10924191206482527658 : True := trivial
theorem PySem.W.Fast.tw9541265961282345259 : True := trivial
theorem PySem.W.Fast.tw8755260644598428604 : True := trivial
theorem PySem.W.Fast.tw404702883636980319 : True := trivial
theorem PySem.W.Fast.tw5935705170996835292 : True := trivial
theorem PySem.W.Fast.tw3023275992163330112 : True := trivial
theorem PySem.W.Fast.tw2382783144953662720 : True := trivial
theorem PySem.W.Fast.tw14517684323389502832 : True := trivial
theorem PySem.W.Fast.tw12506018195887455632 : True := trivial
theorem PySem.W.Fast.tw2658110299739136825 : True := trivial
theorem PySem.W.Fast.tw2325968022031816523 : True := trivial
theorem PySem.W.Fast.tw8506932391788339501 : True := trivial
theorem PySem.W.Fast.tw12750344127225002878 : True := trivial
theorem PySem.W.Fast.tw9220639979615260872 : True := trivial
theorem PySem.W.Fast.tw3612749448654468768 : True := trivial
theorem PySem.W.Fast.tw15790654859471216011 : True := trivial
theorem PySem.W.Fast.tw2874660810458032734 : True := trivial
theorem PySem.W.Fast.tw4461758942375858925 : True := trivial
theorem PySem.W.Fast.tw5271686864314630584 : True := trivial
theorem PySem.W.Fast.tw14011690894296544828 : True := trivial
theorem PySem.W.Fast.tw11041101348687848273 : True := trivial
theorem PySem.W.Fast.tw291319590625614174 : True := trivial
theorem PySem.W.Fast.tw8926293502131468423 : True := trivial
theorem PySem.W.Fast.tw6535551119981967730 : True := trivial
theorem PySem.W.Fast.tw16465647830918923580 : True := trivial
theorem PySem.W.Fast.tw5248504769017384321 : True := trivial
theorem PySem.W.Fast.tw10787038737588173779 : True := trivial
theorem PySem.W.Fast.tw15069825683773527775 : True := trivial
theorem PySem.W.Fast.tw7720970655118564545 : True := trivial
theorem PySem.W.Fast.tw2609060833771338955 : True := trivial
theorem PySem.W.Fast.tw1713549589621021849 : True := trivial
theorem PySem.W.Fast.tw10786900089449533095 : True := trivial
theorem PySem.W.Fast.tw6944395727958450234 : True := trivial
theorem PySem.W.Fast.tw1265404690724376085 : True := trivial
theorem PySem.W.Fast.tw18238637335436512784 : True := trivial
theorem PySem.W.Fast.tw14099889724005626819 : True := trivial
theorem PySem.W.Fast.tw15446103346422175600 : True := trivial
theorem PySem.W.Fast.tw9359933434617512753 : True := trivial
theorem PySem.W.Fast.tw2896408462216920348 : True := trivial
theorem PySem.W.Fast.tw18319721607866869680 : True := trivial
theorem PySem.W.Fast.tw18069860385446928581 : True := trivial
theorem PySem.W.Fast.tw17937128963997438205 : True := trivial
theorem PySem.W.Fast.tw2414161294716138060 : True := trivial
theorem PySem.W.Fast.tw10812483652241711050 : True := trivial
theorem PySem.W.Fast.tw15765316375359037049 : True := trivial
theorem PySem.W.Fast.tw8781950116441325 : True := trivial
theorem PySem.W.Fast.tw10391473019589850808 : True := trivial
theorem PySem.W.Fast.tw294174941554715839 : True := trivial
theorem PySem.W.Fast.tw6201033965424641336 : True := trivial
theorem PySem.W.Fast.tw15004600003526578810 : True := trivial
theorem PySem.W.Fast.tw13492950186476728103 : True := trivial
theorem PySem.W.Fast.tw4439924667283483361 : True := trivial
theorem PySem.W.Fast.tw7246713523494333016 : True := trivial
theorem PySem.W.Fast.tw7116725093341956908 : True := trivial
theorem PySem.W.Fast.tw11155938190188833267 : True := trivial
theorem PySem.W.Fast.tw18261182291691275419 : True := trivial
theorem PySem.W.Fast.tw6432201472551448928 : True := trivial
theorem PySem.W.Fast.tw12753139550658359021 : True := trivial
theorem PySem.W.Fast.tw14771424967779664768 : True := trivial
theorem PySem.W.Fast.tw1556785060202003850 : True := trivial
theorem PySem.W.Fast.tw714161790730127700 : True := trivial
theorem PySem.W.Fast.tw6780462588406074383 : True := trivial
theorem PySem.W.Fast.tw857772195823085723 : True := trivial
theorem PySem.W.Fast.tw3015808660633830921 : True := trivial
theorem PySem.W.Fast.tw4008235878883285848 : True := trivial
theorem PySem.W.Fast.tw16493661263250344447 : True := trivial
theorem PySem.W.Fast.tw3514853748094839331 : True := trivial
theorem PySem.W.Fast.tw966305798185788420 : True := trivial
theorem PySem.W.Fast.tw17483679309811450689 : True := trivial
theorem PySem.W.Fast.tw1560458923210971361 : True := trivial
theorem PySem.W.Fast.tw14919302446588401373 : True := trivial
theorem PySem.W.Fast.tw1887839853896514675 : True := trivial
theorem PySem.W.Fast.tw6415193046555704471 : True := trivial
theorem PySem.W.Fast.tw7162046176888024316 : True := trivial
theorem PySem.W.Fast.tw18369193621093414596 : True := trivial
theorem PySem.W.Fast.tw3226152835451186845 : True := trivial
theorem PySem.W.Fast.tw16284063405163101815 : True := trivial
theorem PySem.W.Fast.tw16340284061509708520 : True := trivial
theorem PySem.W.Fast.tw4040233373714158633 : True := trivial
theorem PySem.W.Fast.tw13764721584499001079 : True := trivial
theorem PySem.W.Fast.tw4622112728691122115 : True := trivial
theorem PySem.W.Fast.tw11303710226951090532 : True := trivial
theorem PySem.W.Fast.tw8708857071173682820 : True := trivial
theorem PySem.W.Fast.tw16784995631776618765 : True := trivial
theorem PySem.W.Fast.tw6841014213250686882 : True := trivial
theorem PySem.W.Fast.tw6805829890349555923 : True := trivial
theorem PySem.W.Fast.tw12529560832775204526 : True := trivial
theorem PySem.W.Fast.tw2618336076796464083 : True := trivial
theorem PySem.W.Fast.tw16247554786789426006 : True := trivial
theorem PySem.W.Fast.tw175421537534689124 : True := trivial
theorem PySem.W.Fast.tw8600514899378043711 : True := trivial
theorem PySem.W.Fast.tw10675133612553352636 : True := trivial
theorem PySem.W.Fast.tw13164429474685136591 : True := trivial
theorem PySem.W.Fast.tw4654414018421815285 : True := trivial
theorem PySem.W.Fast.tw17778303326510131292 : True := trivial
theorem PySem.W.Fast.tw18321170004315599682 : True := trivial
theorem PySem.W.Fast.tw7683971371308644159 : True := trivial
theorem PySem.W.Fast.tw4811588691852256751 : True := trivial
theorem PySem.W.Fast.tw5366069576981476342 : True := trivial
theorem PySem.W.Fast.tw340103486685441029 : True := trivial
theorem PySem.W.Fast.tw12371614426774050045 : True := trivial
theorem PySem.W.Fast.tw7769154626364800775 : True := trivial
theorem PySem.W.Fast.tw7073743432175178134 : True := trivial
theorem PySem.W.Fast.tw14869931084726421044 : True := trivial
theorem PySem.W.Fast.tw9926450132241480883 : True := trivial
theorem PySem.W.Fast.tw9385820740491454293 : True := trivial
theorem PySem.W.Fast.tw10002682972880669120 : True := trivial
theorem PySem.W.Fast.tw12323352863155999295 : True := trivial
theorem PySem.W.Fast.tw16357257128989310950 : True := trivial
theorem PySem.W.Fast.tw12518984100568792161 : True := trivial
theorem PySem.W.Fast.tw14654073970394671042 : True := trivial
theorem PySem.W.Fast.tw3851564815478946940 : True := trivial
theorem PySem.W.Fast.tw14274868358145554569 : True := trivial
theorem PySem.W.Fast.tw9698510584286189109 : True := trivial
theorem PySem.W.Fast.tw17568225276416999345 : True := trivial
theorem PySem.W.Fast.tw4479227221352806278 : True := trivial
theorem PySem.W.Fast.tw8560614588680291371 : True := trivial
theorem PySem.W.Fast.tw14713615311766203739 : True := trivial
theorem PySem.W.Fast.tw3493425148000144206 : True := trivial
theorem PySem.W.Fast.tw6692302708741211916 : True := trivial
theorem PySem.W.Fast.tw6089696472312722709 : True := trivial
theorem PySem.W.Fast.tw4328627384613323865 : True := trivial
theorem PySem.W.Fast.tw8514756751858034710 : True := trivial
theorem PySem.W.Fast.tw18195765985625429892 : True := trivial
theorem PySem.W.Fast.tw8534754176289614316 : True := trivial
theorem PySem.W.Fast.tw7250617183072923691 : True := trivial
theorem PySem.W.Fast.tw13550137355143127007 : True := trivial
theorem PySem.W.Fast.tw1713367451622738111 : True := trivial
theorem PySem.W.Fast.tw8113643357215727808 : True := trivial
theorem PySem.W.Fast.tw12331373176357798673 : True := trivial
theorem PySem.W.Fast.tw14776894928069810002 : True := trivial
theorem PySem.W.Fast.tw16467157201554436137 : True := trivial
theorem PySem.W.Fast.tw6173021548684511930 : True := trivial
theorem PySem.W.Fast.tw15012149910565306117 : True := trivial
theorem PySem.W.Fast.tw4830302584676410529 : True := trivial
theorem PySem.W.Fast.tw12733981213011038513 : True := trivial
theorem PySem.W.Fast.tw9834283503639679849 : True := trivial
theorem PySem.W.Fast.tw15991992951790049173 : True := trivial
theorem PySem.W.Fast.tw8168412767991318340 : True := trivial
theorem PySem.W.Fast.tw4208757034725840633 : True := trivial
theorem PySem.W.Fast.tw7910818978431097150 : True := trivial
theorem PySem.W.Fast.tw9337523627561404988 : True := trivial
theorem PySem.W.Fast.tw102690418631086711 : True := trivial
theorem PySem.W.Fast.tw734082392841891404 : True := trivial
theorem PySem.W.Fast.tw11981799795454725659 : True := trivial
theorem PySem.W.Fast.tw14826604628246286855 : True := trivial
theorem PySem.W.Fast.tw8116172794483526385 : True := trivial
theorem PySem.W.Fast.tw7295757689796387652 : True := trivial
theorem PySem.W.Fast.tw11109929062036265756 : True := trivial
theorem PySem.W.Fast.tw12268224589935085997 : True := trivial
theorem PySem.W.Fast.tw2685360676064006326 : True := trivial
theorem PySem.W.Fast.tw11062434917394178955 : True := trivial
theorem PySem.W.Fast.tw11782336268746122191 : True := trivial
theorem PySem.W.Fast.tw3422579393077831037 : True := trivial
theorem PySem.W.Fast.tw10869850757968730315 : True := trivial
theorem PySem.W.Fast.tw6094962619893136659 : True := trivial
theorem PySem.W.Fast.tw104659862905463447 : True := trivial
theorem PySem.W.Fast.tw16976961529781279799 : True := trivial
theorem PySem.W.Fast.tw789694626938639931 : True := trivial
theorem PySem.W.Fast.tw9468509920810972606 : True := trivial
theorem PySem.W.Fast.tw16793672435633693126 : True := trivial
theorem PySem.W.Fast.tw7544657965359103281 : True := trivial
theorem PySem.W.Fast.tw8688917886774624930 : True := trivial
theorem PySem.W.Fast.tw7429334048702333034 : True := trivial
theorem PySem.W.Fast.tw1631776761963334169 : True := trivial
theorem PySem.W.Fast.tw11304987816679920600 : True := trivial
theorem PySem.W.Fast.tw4290097086673346912 : True := trivial
theorem PySem.W.Fast.tw8299775651680601965 : True := trivial
theorem PySem.W.Fast.tw13259279519410145322 : True := trivial
theorem PySem.W.Fast.tw14870512965800021629 : True := trivial
theorem PySem.W.Fast.tw11664569686686321671 : True := trivial
theorem PySem.W.Fast.tw7567800484566975860 : True := trivial
theorem PySem.W.Fast.tw17165976743870179023 : True := trivial
theorem PySem.W.Fast.tw800978699112959559 : True := trivial
theorem PySem.W.Fast.tw10223680714323968962 : True := trivial
theorem PySem.W.Fast.tw17194889960598218813 : True := trivial
theorem PySem.W.Fast.tw7513733249376971220 : True := trivial
theorem PySem.W.Fast.tw2599301229469119914 : True := trivial
theorem PySem.W.Fast.tw16202138081972656545 : True := trivial
theorem PySem.W.Fast.tw17178063718490429346 : True := trivial
theorem PySem.W.Fast.tw14411083703853603540 : True := trivial
theorem PySem.W.Fast.tw16200382372333830656 : True := trivial
theorem PySem.W.Fast.tw3845753865804457000 : True := trivial
theorem PySem.W.Fast.tw1774593681327082828 : True := trivial
theorem PySem.W.Fast.tw16053615401502522207 : True := trivial
theorem PySem.W.Fast.tw12303882544931853625 : True := trivial
theorem PySem.W.Fast.tw4341682902232739614 : True := trivial
theorem PySem.W.Fast.tw9236460904306809174 : True := trivial
theorem PySem.W.Fast.tw14118828726277687604 : True := trivial
theorem PySem.W.Fast.tw5228657204709839388 : True := trivial
theorem PySem.W.Fast.tw16196114845280859914 : True := trivial
theorem PySem.W.Fast.tw4147228764004631843 : True := trivial
theorem PySem.W.Fast.tw15292949561272436809 : True := trivial
theorem PySem.W.Fast.tw8642162306750218691 : True := trivial
theorem PySem.W.Fast.tw5810749949051395865 : True := trivial
theorem PySem.W.Fast.tw15160536612799554094 : True := trivial
theorem PySem.W.Fast.tw1437818976284295539 : True := trivial
theorem PySem.W.Fast.tw16075099714159592547 : True := trivial
theorem PySem.W.Fast.tw7258011256416195562 : True := trivial
theorem PySem.W.Fast.tw16252466541205193185 : True := trivial
theorem PySem.W.Fast.tw14009146025918275605 : True := trivial
theorem PySem.W.Fast.tw11010885656979659808 : True := trivial
theorem PySem.W.Fast.tw6014745775495073610 : True := trivial
theorem PySem.W.Fast.tw9231174512330271893 : True := trivial
theorem PySem.W.Fast.tw8535061988640401987 : True := trivial
theorem PySem.W.Fast.tw8144501138535092198 : True := trivial
theorem PySem.W.Fast.tw13971306120554027029 : True := trivial
theorem PySem.W.Fast.tw3329804230628877236 : True := trivial
theorem PySem.W.Fast.tw14577251032427308521 : True := trivial
theorem PySem.W.Fast.tw4498171666787733144 : True := trivial
theorem PySem.W.Fast.tw17373904670261335320 : True := trivial
theorem PySem.W.Fast.tw4841413906644511514 : True := trivial
theorem PySem.W.Fast.tw424931026838652793 : True := trivial
theorem PySem.W.Fast.tw5307359086017625717 : True := trivial
theorem PySem.W.Fast.tw15265546523314923543 : True := trivial
theorem PySem.W.Fast.tw17490028751814351396 : True := trivial
theorem PySem.W.Fast.tw11454374248926372195 : True := trivial
theorem PySem.W.Fast.tw8465400455035554384 : True := trivial
theorem PySem.W.Fast.tw10529603096687038182 : True := trivial
theorem PySem.W.Fast.tw7779960314750843742 : True := trivial
theorem PySem.W.Fast.tw17673540220542722614 : True := trivial
theorem PySem.W.Fast.tw8602028739973459428 : True := trivial
theorem PySem.W.Fast.tw16737537837302210199 : True := trivial
theorem PySem.W.Fast.tw17267482863894874248 : True := trivial
theorem PySem.W.Fast.tw5324642109713061182 : True := trivial
theorem PySem.W.Fast.tw15873762258776957733 : True := trivial
theorem PySem.W.Fast.tw6754368233997157819 : True := trivial
theorem PySem.W.Fast.tw2304849319822617422 : True := trivial
theorem PySem.W.Fast.tw12109738928399673461 : True := trivial
theorem PySem.W.Fast.tw9128253415562857155 : True := trivial
theorem PySem.W.Fast.tw5502759304021068242 : True := trivial
theorem PySem.W.Fast.tw4915831818114338909 : True := trivial
theorem PySem.W.Fast.tw6111042208049604566 : True := trivial
theorem PySem.W.Fast.tw899424021861277399 : True := trivial
theorem PySem.W.Fast.tw637576955589762558 : True := trivial
theorem PySem.W.Fast.tw8619078123385568245 : True := trivial
theorem PySem.W.Fast.tw4263804073688042050 : True := trivial
theorem PySem.W.Fast.tw10939547044999900696 : True := trivial
theorem PySem.W.Fast.tw12689119191732378618 : True := trivial
theorem PySem.W.Fast.tw13952196434104470127 : True := trivial
theorem PySem.W.Fast.tw15013884291575599277 : True := trivial
theorem PySem.W.Fast.tw9575401643030200465 : True := trivial
theorem PySem.W.Fast.tw10845114484060978926 : True := trivial
theorem PySem.W.Fast.tw11216608176092817316 : True := trivial
theorem PySem.W.Fast.tw1019356672091889036 : True := trivial
theorem PySem.W.Fast.tw7427667983002096682 : True := trivial
theorem PySem.W.Fast.tw16773190485904889723 : True := trivial
theorem PySem.W.Fast.tw14183856140396278000 : True := trivial
theorem PySem.W.Fast.tw14734730879514300563 : True := trivial
theorem PySem.W.Fast.tw6361332572336583352 : True := trivial
theorem PySem.W.Fast.tw4465260905528548017 : True := trivial
theorem PySem.W.Fast.tw16120102082728797149 : True := trivial
theorem PySem.W.Fast.tw4631086655736733427 : True := trivial
theorem PySem.W.Fast.tw1950253225971200146 : True := trivial
theorem PySem.W.Fast.tw12930580054248199558 : True := trivial
theorem PySem.W.Fast.tw17267691420813707681 : True := trivial
theorem PySem.W.Fast.tw6927573294129969131 : True := trivial
theorem PySem.W.Fast.tw16009591513130804066 : True := trivial
theorem PySem.W.Fast.tw344704917763128138 : True := trivial
theorem PySem.W.Fast.tw12712994402629446698 : True := trivial
theorem PySem.W.Fast.tw1191215988563529340 : True := trivial
theorem PySem.W.Fast.tw4611442136186176490 : True := trivial
theorem PySem.W.Fast.tw2351069098617601745 : True := trivial
theorem PySem.W.Fast.tw4178461152827242485 : True := trivial
theorem PySem.W.Fast.tw10621295016153172199 : True := trivial
theorem PySem.W.Fast.tw1755577199175360177 : True := trivial
theorem PySem.W.Fast.tw12196650557828382828 : True := trivial
theorem PySem.W.Fast.tw14481010456838477847 : True := trivial
theorem PySem.W.Fast.tw3644178426503648475 : True := trivial
theorem PySem.W.Fast.tw16341206873704558829 : True := trivial
theorem PySem.W.Fast.tw1550372842171625996 : True := trivial
theorem PySem.W.Fast.tw11041858684324238213 : True := trivial
theorem PySem.W.Fast.tw10238501057708287528 : True := trivial
theorem PySem.W.Fast.tw12128597292421230088 : True := trivial
theorem PySem.W.Fast.tw12316802481110362547 : True := trivial
theorem PySem.W.Fast.tw985465068037126104 : True := trivial
theorem PySem.W.Fast.tw14445210410599264348 : True := trivial
theorem PySem.W.Fast.tw17091769635173448842 : True := trivial
theorem PySem.W.Fast.tw6886066348807371066 : True := trivial
theorem PySem.W.Fast.tw13521792170212881658 : True := trivial
theorem PySem.W.Fast.tw1330468156112498620 : True := trivial
theorem PySem.W.Fast.tw10819884756690614274 : True := trivial
theorem PySem.W.Fast.tw16926019392519567088 : True := trivial
theorem PySem.W.Fast.tw14622942620475635041 : True := trivial
theorem PySem.W.Fast.tw6786256052996193567 : True := trivial
theorem PySem.W.Fast.tw7400353864981258342 : True := trivial
theorem PySem.W.Fast.tw1308480007962764077 : True := trivial
theorem PySem.W.Fast.tw15691642008556319888 : True := trivial
theorem PySem.W.Fast.tw10898094777462229089 : True := trivial
theorem PySem.W.Fast.tw11496881715919601889 : True := trivial
theorem PySem.W.Fast.tw10465664741441253029 : True := trivial
theorem PySem.W.Fast.tw15203303000141205048 : True := trivial
theorem PySem.W.Fast.tw5337974886415393727 : True := trivial
theorem PySem.W.Fast.tw2152823740715884385 : True := trivial
theorem PySem.W.Fast.tw6524846590036453703 : True := trivial
theorem PySem.W.Fast.tw16233860034743238025 : True := trivial
theorem PySem.W.Fast.tw9921625726876760345 : True := trivial
theorem PySem.W.Fast.tw132299332907609117 : True := trivial
theorem PySem.W.Fast.tw14398476750709348033 : True := trivial
theorem PySem.W.Fast.tw1493672014568042274 : True := trivial
theorem PySem.W.Fast.tw5431070965811642103 : True := trivial
theorem PySem.W.Fast.tw5213876241660780437 : True := trivial
theorem PySem.W.Fast.tw4010881331864752819 : True := trivial
theorem PySem.W.Fast.tw17902165427871520462 : True := trivial
theorem PySem.W.Fast.tw15220629332895605495 : True := trivial
theorem PySem.W.Fast.tw4270830532072216128 : True := trivial
theorem PySem.W.Fast.tw7847254521879362300 : True := trivial
theorem PySem.W.Fast.tw16524691560497669479 : True := trivial
theorem PySem.W.Fast.tw6400286023856533287 : True := trivial
theorem PySem.W.Fast.tw8298672693153412178 : True := trivial
theorem PySem.W.Fast.tw9215138492109138109 : True := trivial
theorem PySem.W.Fast.tw17942310352497789794 : True := trivial
theorem PySem.W.Fast.tw11648696416713527905 : True := trivial
theorem PySem.W.Fast.tw8327978627725293589 : True := trivial
theorem PySem.W.Fast.tw4353524159687891745 : True := trivial
theorem PySem.W.Fast.tw2957722436151674390 : True := trivial
theorem PySem.W.Fast.tw16492915735861377603 : True := trivial
theorem PySem.W.Fast.tw532212393885435876 : True := trivial
theorem PySem.W.Fast.tw15186541290890413637 : True := trivial
theorem PySem.W.Fast.tw15855670425564069334 : True := trivial
theorem PySem.W.Fast.tw13734583608973947551 : True := trivial
theorem PySem.W.Fast.tw6005863803275104653 : True := trivial
theorem PySem.W.Fast.tw6158684809845040307 : True := trivial
theorem PySem.W.Fast.tw8066270544771246496 : True := trivial
theorem PySem.W.Fast.tw13760724068583519883 : True := trivial
theorem PySem.W.Fast.tw8540999577683821548 : True := trivial
theorem PySem.W.Fast.tw10547566231230745583 : True := trivial
theorem PySem.W.Fast.tw1439832006148003259 : True := trivial
theorem PySem.W.Fast.tw5878966740384438570 : True := trivial
theorem PySem.W.Fast.tw3672000952617488574 : True := trivial
theorem PySem.W.Fast.tw4262450043835893096 : True := trivial
theorem PySem.W.Fast.tw6502001988300859547 : True := trivial
theorem PySem.W.Fast.tw17570109719940548251 : True := trivial
theorem PySem.W.Fast.tw17625798063833399242 : True := trivial
theorem PySem.W.Fast.tw6485472309549805330 : True := trivial
theorem PySem.W.Fast.tw2959382016445277459 : True := trivial
theorem PySem.W.Fast.tw11933060040552582942 : True := trivial
theorem PySem.W.Fast.tw15753018222213541342 : True := trivial
theorem PySem.W.Fast.tw16244399426091074385 : True := trivial
theorem PySem.W.Fast.tw16130034763002227509 : True := trivial
theorem PySem.W.Fast.tw1814992159090335576 : True := trivial
theorem PySem.W.Fast.tw10066598299405043609 : True := trivial
theorem PySem.W.Fast.tw9494359838366109761 : True := trivial
theorem PySem.W.Fast.tw9175330797389780268 : True := trivial
theorem PySem.W.Fast.tw17837480152965748917 : True := trivial
theorem PySem.W.Fast.tw1648087793883069804 : True := trivial
theorem PySem.W.Fast.tw4727923582472567532 : True := trivial
theorem PySem.W.Fast.tw4755828922564048717 : True := trivial
theorem PySem.W.Fast.tw16816785950059170018 : True := trivial
theorem PySem.W.Fast.tw11027595234387790667 : True := trivial
theorem PySem.W.Fast.tw2900179532564327766 : True := trivial
theorem PySem.W.Fast.tw15742215584169991916 : True := trivial
theorem PySem.W.Fast.tw13340164448238004387 : True := trivial
theorem PySem.W.Fast.tw17151905596174545317 : True := trivial
theorem PySem.W.Fast.tw477095900615719001 : True := trivial
theorem PySem.W.Fast.tw4150029841738096147 : True := trivial
theorem PySem.W.Fast.tw7443824363782473084 : True := trivial
theorem PySem.W.Fast.tw8115984859069248672 : True := trivial
theorem PySem.W.Fast.tw5792076966509687292 : True := trivial
theorem PySem.W.Fast.tw1946679475926818541 : True := trivial
theorem PySem.W.Fast.tw11208041172306401018 : True := trivial
theorem PySem.W.Fast.tw2877000283976449581 : True := trivial
theorem PySem.W.Fast.tw6837531823616859526 : True := trivial
theorem PySem.W.Fast.tw12663423361997578735 : True := trivial
theorem PySem.W.Fast.tw1772733356366858106 : True := trivial
theorem PySem.W.Fast.tw12411957290669904912 : True := trivial
theorem PySem.W.Fast.tw4575820419924511960 : True := trivial
theorem PySem.W.Fast.tw11635442747562139532 : True := trivial
theorem PySem.W.Fast.tw14849531460353184701 : True := trivial
theorem PySem.W.Fast.tw14344300999430838158 : True := trivial
theorem PySem.W.Fast.tw8512077355065146044 : True := trivial
theorem PySem.W.Fast.tw13491109777868306128 : True := trivial
theorem PySem.W.Fast.tw8583720492765233365 : True := trivial
theorem PySem.W.Fast.tw17438896994620945709 : True := trivial
theorem PySem.W.Fast.tw15532413693374767411 : True := trivial
theorem PySem.W.Fast.tw9235533667447244371 : True := trivial
theorem PySem.W.Fast.tw3939854015594181101 : True := trivial
theorem PySem.W.Fast.tw2938907415537118294 : True := trivial
theorem PySem.W.Fast.tw474225313597164480 : True := trivial
theorem PySem.W.Fast.tw5311727534094960880 : True := trivial
theorem PySem.W.Fast.tw13860903542229749439 : True := trivial
theorem PySem.W.Fast.tw13077118488659473384 : True := trivial
theorem PySem.W.Fast.tw16260244683274636442 : True := trivial
theorem PySem.W.Fast.tw15992318156362139943 : True := trivial
theorem PySem.W.Fast.tw16804654471375684295 : True := trivial
theorem PySem.W.Fast.tw556855281052709068 : True := trivial
theorem PySem.W.Fast.tw13039619351333174210 : True := trivial
theorem PySem.W.Fast.tw14406708644716946428 : True := trivial
theorem PySem.W.Fast.tw2996161002056617752 : True := trivial
theorem PySem.W.Fast.tw9264194835991794170 : True := trivial
theorem PySem.W.Fast.tw17186561823606782001 : True := trivial
theorem PySem.W.Fast.tw1417751302124954121 : True := trivial
theorem PySem.W.Fast.tw13498927516213286105 : True := trivial
theorem PySem.W.Fast.tw6016982807198561824 : True := trivial
theorem PySem.W.Fast.tw3649132813598306221 : True := trivial
theorem PySem.W.Fast.tw9494605165972349113 : True := trivial
theorem PySem.W.Fast.tw3158695392019089680 : True := trivial
theorem PySem.W.Fast.tw17952127397930896385 : True := trivial
theorem PySem.W.Fast.tw18162613808275686450 : True := trivial
theorem PySem.W.Fast.tw14011279638991508391 : True := trivial
theorem PySem.W.Fast.tw9220862128283391482 : True := trivial
theorem PySem.W.Fast.tw14477076034254687451 : True := trivial
theorem PySem.W.Fast.tw14167384425461787650 : True := trivial
theorem PySem.W.Fast.tw2258568246121330876 : True := trivial
theorem PySem.W.Fast.tw12970035431591013957 : True := trivial
theorem PySem.W.Fast.tw4777288584333092720 : True := trivial
theorem PySem.W.Fast.tw9618532178649550562 : True := trivial
theorem PySem.W.Fast.tw8066826154865874793 : True := trivial
theorem PySem.W.Fast.tw1653230588643853936 : True := trivial
theorem PySem.W.Fast.tw17042153227298568175 : True := trivial
theorem PySem.W.Fast.tw3807285972791444675 : True := trivial
theorem PySem.W.Fast.tw8017301434294927321 : True := trivial
theorem PySem.W.Fast.tw13355888830248025096 : True := trivial
theorem PySem.W.Fast.tw513040907545395747 : True := trivial
theorem PySem.W.Fast.tw9163496770244607074 : True := trivial
theorem PySem.W.Fast.tw17744476031349289520 : True := trivial
theorem PySem.W.Fast.tw16457622235598215723 : True := trivial
theorem PySem.W.Fast.tw2375151540768707397 : True := trivial
theorem PySem.W.Fast.tw11642451047209292436 : True := trivial
theorem PySem.W.Fast.tw1748707023210218471 : True := trivial
theorem PySem.W.Fast.tw11621427665359581642 : True := trivial
theorem PySem.W.Fast.tw1991693867991049651 : True := trivial
theorem PySem.W.Fast.tw13722422997435752262 : True := trivial
theorem PySem.W.Fast.tw5146027053230972418 : True := trivial
theorem PySem.W.Fast.tw9721550627675789636 : True := trivial
theorem PySem.W.Fast.tw8866627900306127353 : True := trivial
theorem PySem.W.Fast.tw5461238549920396629 : True := trivial
theorem PySem.W.Fast.tw18200623796949950123 : True := trivial
theorem PySem.W.Fast.tw9516251912016632465 : True := trivial
theorem PySem.W.Fast.tw184787572475103739 : True := trivial
theorem PySem.W.Fast.tw7977232793168468574 : True := trivial
theorem PySem.W.Fast.tw15054437984680950016 : True := trivial
theorem PySem.W.Fast.tw10952135825587885194 : True := trivial
theorem PySem.W.Fast.tw11846975929804559774 : True := trivial
theorem PySem.W.Fast.tw5648644689681232563 : True := trivial
theorem PySem.W.Fast.tw13282118014425488184 : True := trivial
theorem PySem.W.Fast.tw8377764354450961257 : True := trivial
theorem PySem.W.Fast.tw2929609145520969472 : True := trivial
theorem PySem.W.Fast.tw8606334370394816613 : True := trivial
theorem PySem.W.Fast.tw16440686873988474974 : True := trivial
theorem PySem.W.Fast.tw6136613513267233426 : True := trivial
theorem PySem.W.Fast.tw11562670307880410974 : True := trivial
theorem PySem.W.Fast.tw9206330663147061306 : True := trivial
theorem PySem.W.Fast.tw10832021787770581395 : True := trivial
theorem PySem.W.Fast.tw4245320585312961947 : True := trivial
theorem PySem.W.Fast.tw4011618321249682476 : True := trivial
theorem PySem.W.Fast.tw13958667091424926098 : True := trivial
theorem PySem.W.Fast.tw16901726501148261426 : True := trivial
theorem PySem.W.Fast.tw13199420322794478060 : True := trivial
theorem PySem.W.Fast.tw13239032598747405012 : True := trivial
theorem PySem.W.Fast.tw12622908328727241887 : True := trivial
theorem PySem.W.Fast.tw17472357031304459403 : True := trivial
theorem PySem.W.Fast.tw3902823417710165944 : True := trivial
theorem PySem.W.Fast.tw5709429690743649012 : True := trivial
theorem PySem.W.Fast.tw11073498101337040667 : True := trivial
theorem PySem.W.Fast.tw5407010925997760183 : True := trivial
theorem PySem.W.Fast.tw3561865155132289342 : True := trivial
theorem PySem.W.Fast.tw18331183848723419251 : True := trivial
theorem PySem.W.Fast.tw18147588983851188183 : True := trivial
theorem PySem.W.Fast.tw3992546729799363726 : True := trivial
theorem PySem.W.Fast.tw5173564854501114739 : True := trivial
theorem PySem.W.Fast.tw7161973469999754041 : True := trivial
theorem PySem.W.Fast.tw1993999517550233266 : True := trivial
theorem PySem.W.Fast.tw9647665081499814172 : True := trivial
theorem PySem.W.Fast.tw10338413011100784061 : True := trivial
theorem PySem.W.Fast.tw3513452182523144365 : True := trivial
theorem PySem.W.Fast.tw5060174264288031678 : True := trivial
theorem PySem.W.Fast.tw14938937857356005848 : True := trivial
theorem PySem.W.Fast.tw7704211283041419858 : True := trivial
theorem PySem.W.Fast.tw17516874989021516692 : True := trivial
theorem PySem.W.Fast.tw12200938106284142264 : True := trivial
theorem PySem.W.Fast.tw11303804602881127637 : True := trivial
theorem PySem.W.Fast.tw15027057729894839510 : True := trivial
theorem PySem.W.Fast.tw6417803238626667166 : True := trivial
theorem PySem.W.Fast.tw1278507205492213009 : True := trivial
theorem PySem.W.Fast.tw13786001682604254515 : True := trivial
theorem PySem.W.Fast.tw3496914367084846856 : True := trivial
theorem PySem.W.Fast.tw2486620330094863517 : True := trivial
theorem PySem.W.Fast.tw15307082611997257067 : True := trivial
theorem PySem.W.Fast.tw1739816148868807384 : True := trivial
theorem PySem.W.Fast.tw13559105901481607813 : True := trivial
theorem PySem.W.Fast.tw3286435579584230716 : True := trivial
theorem PySem.W.Fast.tw14645109041622967223 : True := trivial
theorem PySem.W.Fast.tw11579221697192550237 : True := trivial
theorem PySem.W.Fast.tw2598390240201202588 : True := trivial
theorem PySem.W.Fast.tw7845800219545441161 : True := trivial
theorem PySem.W.Fast.tw12003642417582660937 : True := trivial
theorem PySem.W.Fast.tw15013109267956965110 : True := trivial
theorem PySem.W.Fast.tw9911680980785709072 : True := trivial
theorem PySem.W.Fast.tw207639982113537848 : True := trivial
theorem PySem.W.Fast.tw14557032427897196171 : True := trivial
theorem PySem.W.Fast.tw137256098224183894 : True := trivial
theorem PySem.W.Fast.tw360189730453416687 : True := trivial
theorem PySem.W.Fast.tw16871854158418539881 : True := trivial
theorem PySem.W.Fast.tw13060628653534461746 : True := trivial
theorem PySem.W.Fast.tw16379647133759209046 : True := trivial
theorem PySem.W.Fast.tw8178342180386225581 : True := trivial
theorem PySem.W.Fast.tw15665851967860370237 : True := trivial
theorem PySem.W.Fast.tw587596919166994806 : True := trivial
theorem PySem.W.Fast.tw16093657480186189943 : True := trivial
theorem PySem.W.Fast.tw3577863733715358388 : True := trivial
theorem PySem.W.Fast.tw15396758883261373862 : True := trivial
theorem PySem.W.Fast.tw10269614106383150617 : True := trivial
theorem PySem.W.Fast.tw9813199046585407734 : True := trivial
theorem PySem.W.Fast.tw9164364341798018557 : True := trivial
theorem PySem.W.Fast.tw3320153147097446488 : True := trivial
theorem PySem.W.Fast.tw7371175159106040012 : True := trivial
theorem PySem.W.Fast.tw10832348130371061388 : True := trivial
theorem PySem.W.Fast.tw2186947582812957956 : True := trivial
theorem PySem.W.Fast.tw5064455343618600759 : True := trivial
theorem PySem.W.Fast.tw3052516930593566314 : True := trivial
theorem PySem.W.Fast.tw17720007768022077094 : True := trivial
theorem PySem.W.Fast.tw553597665938409464 : True := trivial
theorem PySem.W.Fast.tw11236967467549812260 : True := trivial
theorem PySem.W.Fast.tw4054903651620171173 : True := trivial
theorem PySem.W.Fast.tw13429350364305506901 : True := trivial
theorem PySem.W.Fast.tw16856248641398969683 : True := trivial
theorem PySem.W.Fast.tw4023775978232746760 : True := trivial
theorem PySem.W.Fast.tw247386831619576244 : True := trivial
theorem PySem.W.Fast.tw14063631421113299895 : True := trivial
theorem PySem.W.Fast.tw6851053241981277169 : True := trivial
theorem PySem.W.Fast.tw17605968994559194690 : True := trivial
theorem PySem.W.Fast.tw15223214216483487011 : True := trivial
theorem PySem.W.Fast.tw12194579175534813407 : True := trivial
theorem PySem.W.Fast.tw16749785378154742090 : True := trivial
theorem PySem.W.Fast.tw9131464958757053315 : True := trivial
theorem PySem.W.Fast.tw6036108395413305419 : True := trivial
theorem PySem.W.Fast.tw7314591111959811949 : True := trivial
theorem PySem.W.Fast.tw12060106922265362920 : True := trivial
theorem PySem.W.Fast.tw2951986364389616138 : True := trivial
theorem PySem.W.Fast.tw9177079964425292712 : True := trivial
theorem PySem.W.Fast.tw7308332234745940868 : True := trivial
theorem PySem.W.Fast.tw17509338893006140099 : True := trivial
theorem PySem.W.Fast.tw931491594422240119 : True := trivial
theorem PySem.W.Fast.tw5733984702519595541 : True := trivial
theorem PySem.W.Fast.tw10631422660086368899 : True := trivial
theorem PySem.W.Fast.tw3880494509908952899 : True := trivial
theorem PySem.W.Fast.tw16785215858051921942 : True := trivial
theorem PySem.W.Fast.tw538004026306503056 : True := trivial
theorem PySem.W.Fast.tw13025263286139306312 : True := trivial
theorem PySem.W.Fast.tw6773422146988724551 : True := trivial
theorem PySem.W.Fast.tw15554011947762476779 : True := trivial
theorem PySem.W.Fast.tw17076674964135795075 : True := trivial
theorem PySem.W.Fast.tw12843768663501433106 : True := trivial
theorem PySem.W.Fast.tw5562897571183468394 : True := trivial
theorem PySem.W.Fast.tw14327810887384947574 : True := trivial
theorem PySem.W.Fast.tw2404490836571811118 : True := trivial
theorem PySem.W.Fast.tw11822727214212368385 : True := trivial
theorem PySem.W.Fast.tw13900368494379487151 : True := trivial
theorem PySem.W.Fast.tw12948921232205741879 : True := trivial
theorem PySem.W.Fast.tw14396942285791922370 : True := trivial
theorem PySem.W.Fast.tw8576444467243447233 : True := trivial
theorem PySem.W.Fast.tw11280872917101931090 : True := trivial
theorem PySem.W.Fast.tw1159306592309877105 : True := trivial
theorem PySem.W.Fast.tw2252924449192597976 : True := trivial
theorem PySem.W.Fast.tw15742866271020927294 : True := trivial
theorem PySem.W.Fast.tw13327373898854223594 : True := trivial
theorem PySem.W.Fast.tw4862715881260298601 : True := trivial
theorem PySem.W.Fast.tw10108873007098566103 : True := trivial
theorem PySem.W.Fast.tw13468996678543964869 : True := trivial
theorem PySem.W.Fast.tw2872326145902584654 : True := trivial
theorem PySem.W.Fast.tw6848673327731060303 : True := trivial
theorem PySem.W.Fast.tw17514875355084320754 : True := trivial
theorem PySem.W.Fast.tw8002540600627693275 : True := trivial
theorem PySem.W.Fast.tw5147908978898901468 : True := trivial
theorem PySem.W.Fast.tw12563920032380638592 : True := trivial
theorem PySem.W.Fast.tw14828389150551549465 : True := trivial
theorem PySem.W.Fast.tw12514639187373389919 : True := trivial
theorem PySem.W.Fast.tw10810277269236739229 : True := trivial
theorem PySem.W.Fast.tw4058608493616791654 : True := trivial
theorem PySem.W.Fast.tw13598058883780677755 : True := trivial
theorem PySem.W.Fast.tw9780224060184455134 : True := trivial
theorem PySem.W.Fast.tw2859777448878055894 : True := trivial
theorem PySem.W.Fast.tw11410842642750135240 : True := trivial
theorem PySem.W.Fast.tw1074559477933830545 : True := trivial
theorem PySem.W.Fast.tw4902400710480640153 : True := trivial
theorem PySem.W.Fast.tw18264291740559220707 : True := trivial
theorem PySem.W.Fast.tw7670278193983567944 : True := trivial
theorem PySem.W.Fast.tw8416881360725444295 : True := trivial
theorem PySem.W.Fast.tw17990150983638729026 : True := trivial
theorem PySem.W.Fast.tw2047264206964583191 : True := trivial
theorem PySem.W.Fast.tw516138723754149841 : True := trivial
theorem PySem.W.Fast.tw18403874788868658054 : True := trivial
theorem PySem.W.Fast.tw9223469445716892647 : True := trivial
theorem PySem.W.Fast.tw17454307589828676474 : True := trivial
theorem PySem.W.Fast.tw17035991378103262073 : True := trivial
theorem PySem.W.Fast.tw14187734063038084448 : True := trivial
theorem PySem.W.Fast.tw9220339036625921394 : True := trivial
theorem PySem.W.Fast.tw17335589800285888516 : True := trivial
theorem PySem.W.Fast.tw2878289744546145283 : True := trivial
theorem PySem.W.Fast.tw8604900482883683661 : True := trivial
theorem PySem.W.Fast.tw8518673524604532594 : True := trivial
theorem PySem.W.Fast.tw9603421069227103117 : True := trivial
theorem PySem.W.Fast.tw6047853648532488671 : True := trivial
theorem PySem.W.Fast.tw12517710986038266166 : True := trivial
theorem PySem.W.Fast.tw16734864426819829255 : True := trivial
theorem PySem.W.Fast.tw7213156308760161925 : True := trivial
theorem PySem.W.Fast.tw14835137493157520707 : True := trivial
theorem PySem.W.Fast.tw4371175843804509131 : True := trivial
theorem PySem.W.Fast.tw10647974200435323075 : True := trivial
theorem PySem.W.Fast.tw925823800962454157 : True := trivial
theorem PySem.W.Fast.tw16802751081267433347 : True := trivial
theorem PySem.W.Fast.tw6124256148479980255 : True := trivial
theorem PySem.W.Fast.tw11551985241956874978 : True := trivial
theorem PySem.W.Fast.tw14729460319647489339 : True := trivial
theorem PySem.W.Fast.tw9560444068123961949 : True := trivial
theorem PySem.W.Fast.tw434142407216144090 : True := trivial
theorem PySem.W.Fast.tw15115648047286634473 : True := trivial
theorem PySem.W.Fast.tw13215133226059813892 : True := trivial
theorem PySem.W.Fast.tw17371146398046569403 : True := trivial
theorem PySem.W.Fast.tw8339365716299970784 : True := trivial
theorem PySem.W.Fast.tw10982414112734376449 : True := trivial
theorem PySem.W.Fast.tw450524318391593966 : True := trivial
theorem PySem.W.Fast.tw16608526438923044463 : True := trivial
theorem PySem.W.Fast.tw6373574669493098650 : True := trivial
theorem PySem.W.Fast.tw18153437790905147327 : True := trivial
theorem PySem.W.Fast.tw17989791667093624327 : True := trivial
theorem PySem.W.Fast.tw8852916079265610715 : True := trivial
theorem PySem.W.Fast.tw4146414800526625939 : True := trivial
theorem PySem.W.Fast.tw16073029119676518138 : True := trivial
theorem PySem.W.Fast.tw13583914527114382237 : True := trivial
theorem PySem.W.Fast.tw8406236292645868118 : True := trivial
theorem PySem.W.Fast.tw1491034809852332076 : True := trivial
theorem PySem.W.Fast.tw18271056474130420739 : True := trivial
theorem PySem.W.Fast.tw8918293426184650348 : True := trivial
theorem PySem.W.Fast.tw1185899924941012035 : True := trivial
theorem PySem.W.Fast.tw13692946750991236804 : True := trivial
theorem PySem.W.Fast.tw16453492909678058296 : True := trivial
theorem PySem.W.Fast.tw833516341482540763 : True := trivial
theorem PySem.W.Fast.tw10208748323410667328 : True := trivial
theorem PySem.W.Fast.tw660191169002460510 : True := trivial
theorem PySem.W.Fast.tw141784220942325638 : True := trivial
theorem PySem.W.Fast.tw14480232118398106256 : True := trivial
theorem PySem.W.Fast.tw7819000703680610658 : True := trivial
theorem PySem.W.Fast.tw9561438630813535278 : True := trivial
theorem PySem.W.Fast.tw18054715396795624519 : True := trivial
theorem PySem.W.Fast.tw12049777059699605010 : True := trivial
theorem PySem.W.Fast.tw17864904883967318924 : True := trivial
theorem PySem.W.Fast.tw9352622086442081715 : True := trivial
theorem PySem.W.Fast.tw9142491086346468478 : True := trivial
theorem PySem.W.Fast.tw14306410446921343467 : True := trivial
theorem PySem.W.Fast.tw8410007524698704106 : True := trivial
theorem PySem.W.Fast.tw1408723433574619089 : True := trivial
theorem PySem.W.Fast.tw16837819270888039485 : True := trivial
theorem PySem.W.Fast.tw7613254134739793876 : True := trivial
theorem PySem.W.Fast.tw6120932372634655610 : True := trivial
theorem PySem.W.Fast.tw7063308548284698720 : True := trivial
theorem PySem.W.Fast.tw14836512263545596241 : True := trivial
theorem PySem.W.Fast.tw17103203455639632854 : True := trivial
theorem PySem.W.Fast.tw2575136284351137411 : True := trivial
theorem PySem.W.Fast.tw9592812323586354662 : True := trivial
theorem PySem.W.Fast.tw9912983920583007713 : True := trivial
theorem PySem.W.Fast.tw1300393084079509671 : True := trivial
theorem PySem.W.Fast.tw15081237893187841514 : True := trivial
theorem PySem.W.Fast.tw6761688447004839539 : True := trivial
theorem PySem.W.Fast.tw4245098730879883794 : True := trivial
theorem PySem.W.Fast.tw6367721966639351907 : True := trivial
theorem PySem.W.Fast.tw14392969104174152917 : True := trivial
theorem PySem.W.Fast.tw5590509803267228642 : True := trivial
theorem PySem.W.Fast.tw11849812018324032151 : True := trivial
theorem PySem.W.Fast.tw14748065050378235605 : True := trivial
theorem PySem.W.Fast.tw6381722450491013358 : True := trivial
theorem PySem.W.Fast.tw10136105305222453075 : True := trivial
theorem PySem.W.Fast.tw4209267142838005099 : True := trivial
theorem PySem.W.Fast.tw8924286495890589160 : True := trivial
theorem PySem.W.Fast.tw884854863850399601 : True := trivial
theorem PySem.W.Fast.tw11885202992554510792 : True := trivial
theorem PySem.W.Fast.tw17680073360607810470 : True := trivial
theorem PySem.W.Fast.tw2533479941869436884 : True := trivial
theorem PySem.W.Fast.tw6404568215026631674 : True := trivial
theorem PySem.W.Fast.tw13044403474054782979 : True := trivial
theorem PySem.W.Fast.tw4217909951223735592 : True := trivial
theorem PySem.W.Fast.tw7255056480523360371 : True := trivial
theorem PySem.W.Fast.tw2409777111420416980 : True := trivial
theorem PySem.W.Fast.tw12503696937827586493 : True := trivial
theorem PySem.W.Fast.tw10132428912967642916 : True := trivial
theorem PySem.W.Fast.tw4710847831087271931 : True := trivial
theorem PySem.W.Fast.tw17330771563530352550 : True := trivial
theorem PySem.W.Fast.tw17130845635180599513 : True := trivial
theorem PySem.W.Fast.tw5389036056887744986 : True := trivial
theorem PySem.W.Fast.tw16962703348250208492 : True := trivial
theorem PySem.W.Fast.tw15796485489909290448 : True := trivial
theorem PySem.W.Fast.tw1777370388229014238 : True := trivial
theorem PySem.W.Fast.tw14248677673402002148 : True := trivial
theorem PySem.W.Fast.tw10974081090027260131 : True := trivial
theorem PySem.W.Fast.tw2751213897375948351 : True := trivial
theorem PySem.W.Fast.tw2984561435387990028 : True := trivial
theorem PySem.W.Fast.tw17767771834981217410 : True := trivial
theorem PySem.W.Fast.tw3703485746154308502 : True := trivial
theorem PySem.W.Fast.tw17298784509533147474 : True := trivial
theorem PySem.W.Fast.tw4956610479700762562 : True := trivial
theorem PySem.W.Fast.tw7633574182362306571 : True := trivial
theorem PySem.W.Fast.tw932899217371657637 : True := trivial
theorem PySem.W.Fast.tw9070546143656543672 : True := trivial
theorem PySem.W.Fast.tw8056834717563455977 : True := trivial
theorem PySem.W.Fast.tw13165848061637697249 : True := trivial
theorem PySem.W.Fast.tw14374881423430971002 : True := trivial
theorem PySem.W.Fast.tw12101968409437243433 : True := trivial
theorem PySem.W.Fast.tw3636449362719745264 : True := trivial
theorem PySem.W.Fast.tw12058198158178309226 : True := trivial
theorem PySem.W.Fast.tw3833755746321272634 : True := trivial
theorem PySem.W.Fast.tw13404919142681842568 : True := trivial
theorem PySem.W.Fast.tw9001095381832094025 : True := trivial
theorem PySem.W.Fast.tw3021214349775897799 : True := trivial
theorem PySem.W.Fast.tw9316275416297069587 : True := trivial
theorem PySem.W.Fast.tw6593679313359228419 : True := trivial
theorem PySem.W.Fast.tw8866122505995693984 : True := trivial
theorem PySem.W.Fast.tw15625790855442539098 : True := trivial
theorem PySem.W.Fast.tw11832830021194127667 : True := trivial
theorem PySem.W.Fast.tw9627412999871838552 : True := trivial
theorem PySem.W.Fast.tw12632689692826135430 : True := trivial
theorem PySem.W.Fast.tw15071830629500011502 : True := trivial
theorem PySem.W.Fast.tw18259601573588246796 : True := trivial
theorem PySem.W.Fast.tw9045790532821454762 : True := trivial
theorem PySem.W.Fast.tw4811951552751423431 : True := trivial
theorem PySem.W.Fast.tw13182342731319810534 : True := trivial
theorem PySem.W.Fast.tw1062948562819820513 : True := trivial
theorem PySem.W.Fast.tw5057175316410764526 : True := trivial
theorem PySem.W.Fast.tw15419300320705520496 : True := trivial
theorem PySem.W.Fast.tw6808526196609362437 : True := trivial
theorem PySem.W.Fast.tw11851622477350325133 : True := trivial
theorem PySem.W.Fast.tw6541761573445846995 : True := trivial
theorem PySem.W.Fast.tw1528044685835060220 : True := trivial
theorem PySem.W.Fast.tw2348566762773134738 : True := trivial
theorem PySem.W.Fast.tw12091520945764795618 : True := trivial
theorem PySem.W.Fast.tw1534671372999242191 : True := trivial
theorem PySem.W.Fast.tw10469095624259924775 : True := trivial
theorem PySem.W.Fast.tw7929188785487415437 : True := trivial
theorem PySem.W.Fast.tw7702279796614374734 : True := trivial
theorem PySem.W.Fast.tw14394642499024504996 : True := trivial
theorem PySem.W.Fast.tw11684554926701250384 : True := trivial
theorem PySem.W.Fast.tw5662853515809733009 : True := trivial
theorem PySem.W.Fast.tw7713377523025730495 : True := trivial
theorem PySem.W.Fast.tw10528011270497672861 : True := trivial
theorem PySem.W.Fast.tw12786706413287714006 : True := trivial
theorem PySem.W.Fast.tw1966666048633678075 : True := trivial
theorem PySem.W.Fast.tw16658543030717528823 : True := trivial
theorem PySem.W.Fast.tw4748462292379800451 : True := trivial
theorem PySem.W.Fast.tw15146691003174356917 : True := trivial
theorem PySem.W.Fast.tw14077129107359949981 : True := trivial
theorem PySem.W.Fast.tw11846882078186360979 : True := trivial
theorem PySem.W.Fast.tw2633033830175953051 : True := trivial
theorem PySem.W.Fast.tw6510383713318618588 : True := trivial
theorem PySem.W.Fast.tw11367439778076815267 : True := trivial
theorem PySem.W.Fast.tw3459187927052616925 : True := trivial
theorem PySem.W.Fast.tw4307593790114606956 : True := trivial
theorem PySem.W.Fast.tw4365653429419521380 : True := trivial
theorem PySem.W.Fast.tw13704059124563403489 : True := trivial
theorem PySem.W.Fast.tw765953094400759291 : True := trivial
theorem PySem.W.Fast.tw15078595652227623189 : True := trivial
theorem PySem.W.Fast.tw16975631464044249314 : True := trivial
theorem PySem.W.Fast.tw9691321132772872468 : True := trivial
theorem PySem.W.Fast.tw14848319313255488454 : True := trivial
theorem PySem.W.Fast.tw11238885397841493369 : True := trivial
theorem PySem.W.Fast.tw1520222929369089418 : True := trivial
theorem PySem.W.Fast.tw870976543750622452 : True := trivial
theorem PySem.W.Fast.tw11058276441903833909 : True := trivial
theorem PySem.W.Fast.tw40963491489986955 : True := trivial
theorem PySem.W.Fast.tw1988351705351860629 : True := trivial
theorem PySem.W.Fast.tw2806815611206864530 : True := trivial
theorem PySem.W.Fast.tw6835532977051142418 : True := trivial
theorem PySem.W.Fast.tw16053185142851058970 : True := trivial
theorem PySem.W.Fast.tw3039420601364217124 : True := trivial
theorem PySem.W.Fast.tw8263811747513045206 : True := trivial
theorem PySem.W.Fast.tw13934024113596463207 : True := trivial
theorem PySem.W.Fast.tw2890893877939089241 : True := trivial
theorem PySem.W.Fast.tw12492693498323777628 : True := trivial
theorem PySem.W.Fast.tw15882951873676169220 : True := trivial
theorem PySem.W.Fast.tw14820773499224878898 : True := trivial
theorem PySem.W.Fast.tw6918161956490384278 : True := trivial
theorem PySem.W.Fast.tw2890697784719930062 : True := trivial
theorem PySem.W.Fast.tw8374028910708332877 : True := trivial
theorem PySem.W.Fast.tw5656735472420135721 : True := trivial
theorem PySem.W.Fast.tw16954718496862555622 : True := trivial
theorem PySem.W.Fast.tw7860957644643404633 : True := trivial
theorem PySem.W.Fast.tw17552040984357834203 : True := trivial
theorem PySem.W.Fast.tw16973248044522733598 : True := trivial
theorem PySem.W.Fast.tw15502209575529684950 : True := trivial
theorem PySem.W.Fast.tw14888806001604683562 : True := trivial
theorem PySem.W.Fast.tw2329120982680801748 : True := trivial
theorem PySem.W.Fast.tw9612418515797530286 : True := trivial
theorem PySem.W.Fast.tw11584574632920806223 : True := trivial
theorem PySem.W.Fast.tw12937645981617473413 : True := trivial
theorem PySem.W.Fast.tw828678614963308735 : True := trivial
theorem PySem.W.Fast.tw7510084970592057568 : True := trivial
theorem PySem.W.Fast.tw2586291164066709935 : True := trivial
theorem PySem.W.Fast.tw885401490515426640 : True := trivial
theorem PySem.W.Fast.tw16267786406432183153 : True := trivial
theorem PySem.W.Fast.tw17243572952861048321 : True := trivial
theorem PySem.W.Fast.tw12494111318580302438 : True := trivial
theorem PySem.W.Fast.tw5682700182814539073 : True := trivial
theorem PySem.W.Fast.tw12686890083617975099 : True := trivial
theorem PySem.W.Fast.tw18025185071961520511 : True := trivial
theorem PySem.W.Fast.tw13549608631727524235 : True := trivial
theorem PySem.W.Fast.tw5847747415182847974 : True := trivial
theorem PySem.W.Fast.tw16087915018878847989 : True := trivial
theorem PySem.W.Fast.tw16710020872922290527 : True := trivial
theorem PySem.W.Fast.tw13207990886576979659 : True := trivial
theorem PySem.W.Fast.tw7158904149672314688 : True := trivial
theorem PySem.W.Fast.tw5047505874761745955 : True := trivial
theorem PySem.W.Fast.tw14299137942391373414 : True := trivial
theorem PySem.W.Fast.tw2680303812690029058 : True := trivial
theorem PySem.W.Fast.tw2491965789866967596 : True := trivial
theorem PySem.W.Fast.tw8613811562939554170 : True := trivial
theorem PySem.W.Fast.tw14297365813520308567 : True := trivial
theorem PySem.W.Fast.tw11838568855123030282 : True := trivial
theorem PySem.W.Fast.tw5008788451157218880 : True := trivial
theorem PySem.W.Fast.tw7044366796143059549 : True := trivial
theorem PySem.W.Fast.tw10779259855422176643 : True := trivial
theorem PySem.W.Fast.tw2708786543739681335 : True := trivial
theorem PySem.W.Fast.tw14768394791907260850 : True := trivial
theorem PySem.W.Fast.tw14612410825181568581 : True := trivial
theorem PySem.W.Fast.tw7521120396215260236 : True := trivial
theorem PySem.W.Fast.tw8495280179627871482 : True := trivial
theorem PySem.W.Fast.tw1723845989109914659 : True := trivial
theorem PySem.W.Fast.tw10759820256390438427 : True := trivial
theorem PySem.W.Fast.tw3052570276174771469 : True := trivial
theorem PySem.W.Fast.tw3140882257833513466 : True := trivial
theorem PySem.W.Fast.tw2316265338918550432 : True := trivial
theorem PySem.W.Fast.tw7643231288987416628 : True := trivial
theorem PySem.W.Fast.tw14982049602335621003 : True := trivial
theorem PySem.W.Fast.tw5031652673242219559 : True := trivial
theorem PySem.W.Fast.tw2829209810025166865 : True := trivial
theorem PySem.W.Fast.tw3482713416877907871 : True := trivial
theorem PySem.W.Fast.tw1893806923299294630 : True := trivial
theorem PySem.W.Fast.tw9828220943573148599 : True := trivial
theorem PySem.W.Fast.tw11158855082138192297 : True := trivial
theorem PySem.W.Fast.tw10648246547775354397 : True := trivial
theorem PySem.W.Fast.tw5767195224438089157 : True := trivial
theorem PySem.W.Fast.tw13498838466682300569 : True := trivial
theorem PySem.W.Fast.tw8113642768239253732 : True := trivial
theorem PySem.W.Fast.tw11375008530672638577 : True := trivial
theorem PySem.W.Fast.tw11097736712774456536 : True := trivial
theorem PySem.W.Fast.tw9115947681757963992 : True := trivial
theorem PySem.W.Fast.tw12818223028953998211 : True := trivial
theorem PySem.W.Fast.tw17435239053225951050 : True := trivial
theorem PySem.W.Fast.tw6853044154734914917 : True := trivial
theorem PySem.W.Fast.tw10174278942780945029 : True := trivial
theorem PySem.W.Fast.tw2178462496245497163 : True := trivial
theorem PySem.W.Fast.tw3568445445876858438 : True := trivial
theorem PySem.W.Fast.tw17815750423762257075 : True := trivial
theorem PySem.W.Fast.tw4838332998172287925 : True := trivial
theorem PySem.W.Fast.tw14188908190652437503 : True := trivial
theorem PySem.W.Fast.tw14145448622452463967 : True := trivial
theorem PySem.W.Fast.tw2522693715533742416 : True := trivial
theorem PySem.W.Fast.tw16134031275687788036 : True := trivial
theorem PySem.W.Fast.tw2912387068810629844 : True := trivial
theorem PySem.W.Fast.tw11131356018281557512 : True := trivial
theorem PySem.W.Fast.tw3178553269315459463 : True := trivial
theorem PySem.W.Fast.tw2894778918960544882 : True := trivial
theorem PySem.W.Fast.tw3218594496976108752 : True := trivial
theorem PySem.W.Fast.tw9943390389012819975 : True := trivial
theorem PySem.W.Fast.tw3226782706854949360 : True := trivial
theorem PySem.W.Fast.tw18221207100888098942 : True := trivial
theorem PySem.W.Fast.tw11711005399223408368 : True := trivial
theorem PySem.W.Fast.tw249888038480163608 : True := trivial
theorem PySem.W.Fast.tw17745182689116609185 : True := trivial
theorem PySem.W.Fast.tw11259463216929872604 : True := trivial
theorem PySem.W.Fast.tw3087014160204470535 : True := trivial
theorem PySem.W.Fast.tw11517754441739610148 : True := trivial
theorem PySem.W.Fast.tw7700985833239506057 : True := trivial
theorem PySem.W.Fast.tw9327293880114211981 : True := trivial
theorem PySem.W.Fast.tw14332969416743785182 : True := trivial
theorem PySem.W.Fast.tw17481349862150185571 : True := trivial
theorem PySem.W.Fast.tw7769889032813528808 : True := trivial
theorem PySem.W.Fast.tw14998295582255675973 : True := trivial
theorem PySem.W.Fast.tw15495523820612053085 : True := trivial
theorem PySem.W.Fast.tw11741456673167811411 : True := trivial
theorem PySem.W.Fast.tw14967072779225687527 : True := trivial
theorem PySem.W.Fast.tw13667701786992449660 : True := trivial
theorem PySem.W.Fast.tw13368139115378867661 : True := trivial
theorem PySem.W.Fast.tw11440338612052926518 : True := trivial
theorem PySem.W.Fast.tw5920162999657039064 : True := trivial
theorem PySem.W.Fast.tw1177959497300785364 : True := trivial
theorem PySem.W.Fast.tw577830766936441801 : True := trivial
theorem PySem.W.Fast.tw13490291089621008816 : True := trivial
theorem PySem.W.Fast.tw17995261388960155918 : True := trivial
theorem PySem.W.Fast.tw4030001387080989606 : True := trivial
theorem PySem.W.Fast.tw5098053793030828016 : True := trivial
theorem PySem.W.Fast.tw12859067008557103130 : True := trivial
theorem PySem.W.Fast.tw7078262836468715816 : True := trivial
theorem PySem.W.Fast.tw2033110689975396421 : True := trivial
theorem PySem.W.Fast.tw7654177674470174406 : True := trivial
theorem PySem.W.Fast.tw3768266314140866291 : True := trivial
theorem PySem.W.Fast.tw2224924025773103208 : True := trivial
theorem PySem.W.Fast.tw4467943735858949730 : True := trivial
theorem PySem.W.Fast.tw11536477934465228582 : True := trivial
theorem PySem.W.Fast.tw11372747029891259758 : True := trivial
theorem PySem.W.Fast.tw17812179850741109199 : True := trivial
theorem PySem.W.Fast.tw13501631011840092386 : True := trivial
theorem PySem.W.Fast.tw10553809330176494135 : True := trivial
theorem PySem.W.Fast.tw9000269293148095979 : True := trivial
theorem PySem.W.Fast.tw12075649150870888703 : True := trivial
theorem PySem.W.Fast.tw12441475817772859910 : True := trivial
theorem PySem.W.Fast.tw13050421074854984026 : True := trivial
theorem PySem.W.Fast.tw13081451559543994172 : True := trivial
theorem PySem.W.Fast.tw11443624544158708866 : True := trivial
theorem PySem.W.Fast.tw11837245439041263881 : True := trivial
theorem PySem.W.Fast.tw16280162274409348424 : True := trivial
theorem PySem.W.Fast.tw9206514231563861320 : True := trivial
theorem PySem.W.Fast.tw17866041661795110975 : True := trivial
theorem PySem.W.Fast.tw13462041153248465149 : True := trivial
theorem PySem.W.Fast.tw11499870670923571825 : True := trivial
theorem PySem.W.Fast.tw11735643677213178917 : True := trivial
theorem PySem.W.Fast.tw12997155709641104109 : True := trivial
theorem PySem.W.Fast.tw2400176693681776201 : True := trivial
theorem PySem.W.Fast.tw16475132554836218379 : True := trivial
theorem PySem.W.Fast.tw7298681046060094018 : True := trivial
theorem PySem.W.Fast.tw17910303696300635355 : True := trivial
theorem PySem.W.Fast.tw12061651969309575975 : True := trivial
theorem PySem.W.Fast.tw9535934819711629784 : True := trivial
theorem PySem.W.Fast.tw16902794220132768407 : True := trivial
theorem PySem.W.Fast.tw3577262606101032675 : True := trivial
theorem PySem.W.Fast.tw681864094051280501 : True := trivial
theorem PySem.W.Fast.tw10816306302328382196 : True := trivial
theorem PySem.W.Fast.tw6274955003772090412 : True := trivial
theorem PySem.W.Fast.tw13651223363004269710 : True := trivial
theorem PySem.W.Fast.tw3137749350446448160 : True := trivial
theorem PySem.W.Fast.tw15547608571729555872 : True := trivial
theorem PySem.W.Fast.tw1062923771307076364 : True := trivial
theorem PySem.W.Fast.tw9052326413039868737 : True := trivial
theorem PySem.W.Fast.tw15017050637083247423 : True := trivial
theorem PySem.W.Fast.tw7927470780166813076 : True := trivial
theorem PySem.W.Fast.tw17642365897616149429 : True := trivial
theorem PySem.W.Fast.tw1838300646950819484 : True := trivial
theorem PySem.W.Fast.tw4081144810906928195 : True := trivial
theorem PySem.W.Fast.tw6642520845770415674 : True := trivial
theorem PySem.W.Fast.tw13245705356962057179 : True := trivial
theorem PySem.W.Fast.tw11878140147766725872 : True := trivial
theorem PySem.W.Fast.tw10618070499546409427 : True := trivial
theorem PySem.W.Fast.tw17094881512855938397 : True := trivial
theorem PySem.W.Fast.tw8181067172181484274 : True := trivial
theorem PySem.W.Fast.tw18037087727707973010 : True := trivial
theorem PySem.W.Fast.tw18368215352518756314 : True := trivial
theorem PySem.W.Fast.tw10842414894811953124 : True := trivial
theorem PySem.W.Fast.tw3489053331218706656 : True := trivial
theorem PySem.W.Fast.tw12924023827898497021 : True := trivial
theorem PySem.W.Fast.tw11985724650715104605 : True := trivial
theorem PySem.W.Fast.tw7188606903877241173 : True := trivial
theorem PySem.W.Fast.tw5197425510620354826 : True := trivial
theorem PySem.W.Fast.tw4875752274924434658 : True := trivial
theorem PySem.W.Fast.tw13044595296883572572 : True := trivial
theorem PySem.W.Fast.tw7723041133812551011 : True := trivial
theorem PySem.W.Fast.tw2763687289555858637 : True := trivial
theorem PySem.W.Fast.tw4847745290904421798 : True := trivial
theorem PySem.W.Fast.tw13569236186371779190 : True := trivial
theorem PySem.W.Fast.tw17349057518436263281 : True := trivial
theorem PySem.W.Fast.tw11633396756371367385 : True := trivial
theorem PySem.W.Fast.tw14046175196771834893 : True := trivial
theorem PySem.W.Fast.tw15827287822283667125 : True := trivial
theorem PySem.W.Fast.tw14136304582409618141 : True := trivial
theorem PySem.W.Fast.tw5828750314086040552 : True := trivial
theorem PySem.W.Fast.tw2605066576678267742 : True := trivial
theorem PySem.W.Fast.tw4767490611147709074 : True := trivial
theorem PySem.W.Fast.tw9747744160079968588 : True := trivial
theorem PySem.W.Fast.tw8343227694581075429 : True := trivial
theorem PySem.W.Fast.tw7571838514138805183 : True := trivial
theorem PySem.W.Fast.tw3053855603416475500 : True := trivial
theorem PySem.W.Fast.tw11718678207973817380 : True := trivial
theorem PySem.W.Fast.tw11785027331736530869 : True := trivial
theorem PySem.W.Fast.tw579731684374901265 : True := trivial
theorem PySem.W.Fast.tw5830709769767300188 : True := trivial
theorem PySem.W.Fast.tw9065523286620954904 : True := trivial
theorem PySem.W.Fast.tw7844559605318549548 : True := trivial
theorem PySem.W.Fast.tw9111480056043903263 : True := trivial
theorem PySem.W.Fast.tw6452988539070542131 : True := trivial
theorem PySem.W.Fast.tw16418571915832121200 : True := trivial
theorem PySem.W.Fast.tw13393000087531565538 : True := trivial
theorem PySem.W.Fast.tw15389748218024487077 : True := trivial
theorem PySem.W.Fast.tw12195365568858530868 : True := trivial
theorem PySem.W.Fast.tw5160684765338066622 : True := trivial
theorem PySem.W.Fast.tw4625152234935889760 : True := trivial
theorem PySem.W.Fast.tw4177499004848310418 : True := trivial
theorem PySem.W.Fast.tw16981717112594000266 : True := trivial
theorem PySem.W.Fast.tw17965546303515325578 : True := trivial
theorem PySem.W.Fast.tw5383605883099824639 : True := trivial
theorem PySem.W.Fast.tw811458679348170020 : True := trivial
theorem PySem.W.Fast.tw2241246132601713948 : True := trivial
set_option maxRecDepth 100000 in
set_option maxHeartbeats 0 in
theorem PySem.Challenge.cw_asofhall_k01_journals_refused_holds : PySem.Challenge.rw_asofhall_k01_journals_refused.Holds := by
  w_on; o_law; k_head; (case hw => w_witness2)
  k_fill
  refine Ash.walk (l := PySem.Challenge.rw_asofhall_k01_journals_refused) rfl rfl (fun w h Y => PySem.W.kIn_of Y) ?F
  case F =>
    intro w mg fa h KX G hmg
    refine' Ash.all_mk KX G hmg ?law0 ?law1 ?law2 ?law3
      { len := (PySem.W.mg_none_of KX G ?h_B_len), int := (PySem.W.mg_none_of KX G ?h_B_int), bool := (PySem.W.mg_none_of KX G ?h_B_bool), str := (PySem.W.mg_none_of KX G ?h_B_str), list := (PySem.W.mg_none_of KX G ?h_B_list), tuple := (PySem.W.mg_none_of KX G ?h_B_tuple), dict := (PySem.W.mg_none_of KX G ?h_B_dict), isinstance := (PySem.W.mg_none_of KX G ?h_B_isinstance), all := (PySem.W.mg_none_of KX G ?h_B_all), range := (PySem.W.mg_none_of KX G ?h_B_range), enumerate := (PySem.W.mg_none_of KX G ?h_B_enumerate), sorted := (PySem.W.mg_none_of KX G ?h_B_sorted), min := (PySem.W.mg_none_of KX G ?h_B_min), max := (PySem.W.mg_none_of KX G ?h_B_max), set := (PySem.W.mg_none_of KX G ?h_B_set) }
      ⟨(Ash.ex_str KX G ?h_Cs_0), (Ash.ex_int KX G ?h_Cs_1), (Ash.ex_int KX G ?h_Cs_2), (Ash.ex_int KX G ?h_Cs_3), (Ash.ex_int KX G ?h_Cs_4)⟩
      ⟨⟨?h_TB_0_0, ?h_TB_0_1, ?h_TB_0_2, ?h_TB_0_3⟩, ?h_TB_1, (PySem.W.mg_of KX G ?h_TB_2)⟩
      ⟨⟨?h_T_0_0, ?h_T_0_1, ?h_T_0_2, ?h_T_0_3⟩, ?h_T_1, ?h_T_2, ?h_T_3, (PySem.W.mg_of KX G ?h_T_4)⟩
      ⟨(PySem.W.mg_of KX G ?h_Tt_0), (Ash.tt_mk ?h_Tt_1_0)⟩
      (PySem.W.mg_of KX G ?h_cE)
      (Ash.txt_mk KX G ?h_TE_0 ?h_TE_1 ?h_TE_2 ?h_TE_3 ?h_TE_4 ?h_TE_5 ?h_TE_6 ?h_TE_7 ?h_TE_8 ?h_TE_9 ?h_TE_10 ?h_TE_11 ?h_TE_12 ?h_TE_13 ?h_TE_14 ?h_TE_15 ?h_TE_16 ?h_TE_17 ?h_TE_18 ?h_TE_19 ?h_TE_20 ?h_TE_21 ?h_TE_22 ?h_TE_23 ?h_TE_24 ?h_TE_25 ?h_TE_26 ?h_TE_27 ?h_TE_28 ?h_TE_29)
      ⟨?h_bi_0, ?h_bi_1, ?h_bi_2, ?h_bi_3⟩
      ⟨?h_ji_0, ?h_ji_1, ?h_ji_2, ?h_ji_3⟩
      ?h_mkB
      ?h_kB
      (PySem.W.mg_none_of KX G ?h_nV)
      (PySem.W.mg_of KX G ?h_cM)
      (Ash.txt_mk KX G ?h_TM_0 ?h_TM_1 ?h_TM_2 ?h_TM_3 ?h_TM_4 ?h_TM_5 ?h_TM_6 ?h_TM_7 ?h_TM_8 ?h_TM_9 ?h_TM_10 ?h_TM_11 ?h_TM_12 ?h_TM_13 ?h_TM_14 ?h_TM_15 ?h_TM_16 ?h_TM_17 ?h_TM_18 ?h_TM_19 ?h_TM_20 ?h_TM_21 ?h_TM_22 ?h_TM_23 ?h_TM_24 ?h_TM_25 ?h_TM_26 ?h_TM_27 ?h_TM_28 ?h_TM_29)
      (PySem.W.mg_of KX G ?h_cBB)
      (Ash.txt_mk KX G ?h_TBB_0 ?h_TBB_1 ?h_TBB_2 ?h_TBB_3 ?h_TBB_4 ?h_TBB_5 ?h_TBB_6 ?h_TBB_7 ?h_TBB_8 ?h_TBB_9 ?h_TBB_10 ?h_TBB_11 ?h_TBB_12 ?h_TBB_13 ?h_TBB_14 ?h_TBB_15 ?h_TBB_16 ?h_TBB_17 ?h_TBB_18 ?h_TBB_19 ?h_TBB_20 ?h_TBB_21 ?h_TBB_22 ?h_TBB_23 ?h_TBB_24 ?h_TBB_25 ?h_TBB_26 ?h_TBB_27 ?h_TBB_28 ?h_TBB_29)
      (PySem.W.mg_of KX G ?h_cH)
      ⟨?h_XE_0, ?h_XE_1, ?h_XE_2, ?h_XE_3, ?h_XE_4, ?h_XE_5, ?h_XE_6, ?h_XE_7⟩
      ?h_hcE
      (Ash.kit_yes ?h_kE_0 ?h_kE_1 ?h_kE_2)
      (Ash.kit_ref ?h_kV_0 ?h_kV_1)
      (Ash.kit_noR ?h_kM_0 ?h_kM_1 ?h_kM_2 ?h_kM_3)
      (Ash.exm_no ?h_nBE_0 ?h_nBE_1 ?h_nBE_2 ?h_nBE_3)
      ?h_bkC
      (Ash.nf_mk ?h_nfs_0)
      (Ash.kit_ref ?h_kr0_0 ?h_kr0_1)
      (Ash.kit_ref ?h_kr1_0 ?h_kr1_1)
      (Ash.kit_ref ?h_kr2_0 ?h_kr2_1)
      (Ash.kit_ref ?h_kr3_0 ?h_kr3_1)
      (Ash.kit_ref ?h_kr4_0 ?h_kr4_1)
      (Ash.kit_noT ?h_kt0_0 ?h_kt0_1 ?h_kt0_2)
      (Ash.kit_noT ?h_kt1_0 ?h_kt1_1 ?h_kt1_2)
      (Ash.kit_noT ?h_kt2_0 ?h_kt2_1 ?h_kt2_2)
      (Ash.kit_noT ?h_kt3_0 ?h_kt3_1 ?h_kt3_2)
      (Ash.kit_noT ?h_kt4_0 ?h_kt4_1 ?h_kt4_2)
      (Ash.kit_noT ?h_kt5_0 ?h_kt5_1 ?h_kt5_2)
      (Ash.kit_noT ?h_kt6_0 ?h_kt6_1 ?h_kt6_2)
      ?h_bne1
      ?h_bob
      (Ash.d1 KX G ?h_d_is_integer_0 ?h_d_is_integer_1 ?h_d_is_integer_2 ?h_d_is_integer_3)
      (Ash.d1 KX G ?h_d_is_natural_0 ?h_d_is_natural_1 ?h_d_is_natural_2 ?h_d_is_natural_3)
      (Ash.d1 KX G ?h_d_is_name_0 ?h_d_is_name_1 ?h_d_is_name_2 ?h_d_is_name_3)
      (Ash.d1 KX G ?h_d_are_integers_0 ?h_d_are_integers_1 ?h_d_are_integers_2 ?h_d_are_integers_3)
      (Ash.d1 KX G ?h_d_is_late_0 ?h_d_is_late_1 ?h_d_is_late_2 ?h_d_is_late_3)
      (Ash.d1 KX G ?h_d_is_lates_0 ?h_d_is_lates_1 ?h_d_is_lates_2 ?h_d_is_lates_3)
      (Ash.d1 KX G ?h_d_is_entry_0 ?h_d_is_entry_1 ?h_d_is_entry_2 ?h_d_is_entry_3)
      (Ash.d1 KX G ?h_d_arrival_of_0 ?h_d_arrival_of_1 ?h_d_arrival_of_2 ?h_d_arrival_of_3)
      (Ash.d1 KX G ?h_d_placed_0 ?h_d_placed_1 ?h_d_placed_2 ?h_d_placed_3)
      (Ash.d1 KX G ?h_d_row_behind_0 ?h_d_row_behind_1 ?h_d_row_behind_2 ?h_d_row_behind_3)
      (Ash.d1 KX G ?h_d_walked_0 ?h_d_walked_1 ?h_d_walked_2 ?h_d_walked_3)
      (Ash.d1 KX G ?h_d_is_row_0 ?h_d_is_row_1 ?h_d_is_row_2 ?h_d_is_row_3)
      (Ash.d1 KX G ?h_d__law_pool_0 ?h_d__law_pool_1 ?h_d__law_pool_2 ?h_d__law_pool_3)
      (Ash.d1 KX G ?h_d__law_draw_0 ?h_d__law_draw_1 ?h_d__law_draw_2 ?h_d__law_draw_3)
      (Ash.d1 KX G ?h_d__law_names_0 ?h_d__law_names_1 ?h_d__law_names_2 ?h_d__law_names_3)
      (Ash.d1 KX G ?h_d__law_lates_0 ?h_d__law_lates_1 ?h_d__law_lates_2 ?h_d__law_lates_3)
      (Ash.d1 KX G ?h_d__law_amount_0 ?h_d__law_amount_1 ?h_d__law_amount_2 ?h_d__law_amount_3)
      (Ash.d1 KX G ?h_d__law_begin_0 ?h_d__law_begin_1 ?h_d__law_begin_2 ?h_d__law_begin_3)
      (Ash.d1 KX G ?h_d__law_entry_0 ?h_d__law_entry_1 ?h_d__law_entry_2 ?h_d__law_entry_3)
      (Ash.d1 KX G ?h_d__law_put_0 ?h_d__law_put_1 ?h_d__law_put_2 ?h_d__law_put_3)
      (Ash.d1 KX G ?h_d__law_entries_0 ?h_d__law_entries_1 ?h_d__law_entries_2 ?h_d__law_entries_3)
      (Ash.d1 KX G ?h_d__law_is_int_0 ?h_d__law_is_int_1 ?h_d__law_is_int_2 ?h_d__law_is_int_3)
      (Ash.d1 KX G ?h_d__law_is_name_0 ?h_d__law_is_name_1 ?h_d__law_is_name_2 ?h_d__law_is_name_3)
      (Ash.d1 KX G ?h_d__law_is_kind_0 ?h_d__law_is_kind_1 ?h_d__law_is_kind_2 ?h_d__law_is_kind_3)
      (Ash.d1 KX G ?h_d__law_is_good_0 ?h_d__law_is_good_1 ?h_d__law_is_good_2 ?h_d__law_is_good_3)
      (Ash.d1 KX G ?h_d__law_first_bad_0 ?h_d__law_first_bad_1 ?h_d__law_first_bad_2 ?h_d__law_first_bad_3)
      (Ash.d1 KX G ?h_d__law_odd_0 ?h_d__law_odd_1 ?h_d__law_odd_2 ?h_d__law_odd_3)
      (Ash.d1 KX G ?h_d__law_turned_0 ?h_d__law_turned_1 ?h_d__law_turned_2 ?h_d__law_turned_3)
      (Ash.d1 KX G ?h_d__law_spoilt_0 ?h_d__law_spoilt_1 ?h_d__law_spoilt_2 ?h_d__law_spoilt_3)
      (Ash.d1 KX G ?h_d__law_made_0 ?h_d__law_made_1 ?h_d__law_made_2 ?h_d__law_made_3)
      (Ash.d1 KX G ?h_d__law_full_0 ?h_d__law_full_1 ?h_d__law_full_2 ?h_d__law_full_3)
      (Ash.dm ?h_m_Init_0 ?h_m_Init_1 ?h_m_Init_2 ?h_m_Init_3 ?h_m_Init_4)
      (Ash.dm ?h_m_Has_0 ?h_m_Has_1 ?h_m_Has_2 ?h_m_Has_3 ?h_m_Has_4)
      (Ash.dm ?h_m_Late_0 ?h_m_Late_1 ?h_m_Late_2 ?h_m_Late_3 ?h_m_Late_4)
      (Ash.dd ?h_m_J_0 ?h_m_J_1 ?h_m_J_2 ?h_m_J_3 ?h_m_J_4 ?h_m_J_5 ?h_m_J_6 ?h_m_J_7)
      (Ash.dm ?h_m_Then_0 ?h_m_Then_1 ?h_m_Then_2 ?h_m_Then_3 ?h_m_Then_4)
      (Ash.dm ?h_m_Heard_0 ?h_m_Heard_1 ?h_m_Heard_2 ?h_m_Heard_3 ?h_m_Heard_4)
      (Ash.dm ?h_m_Rows_0 ?h_m_Rows_1 ?h_m_Rows_2 ?h_m_Rows_3 ?h_m_Rows_4)
      (Ash.dm ?h_m_Len_0 ?h_m_Len_1 ?h_m_Len_2 ?h_m_Len_3 ?h_m_Len_4)
      (Ash.dq ?h_m_Beq_0 ?h_m_Beq_1 ?h_m_Beq_2 ?h_m_Beq_3 ?h_m_Beq_4)
      (Ash.dq ?h_m_Jeq_0 ?h_m_Jeq_1 ?h_m_Jeq_2 ?h_m_Jeq_3 ?h_m_Jeq_4)
      (Ash.sq_of ?h_sqE_0)
    (case h_Cs_0 => k_is)
    (case h_Cs_1 => k_is)
    (case h_Cs_2 => k_is)
    (case h_Cs_3 => k_is)
    (case h_Cs_4 => k_is)
    (case h_TB_2 => k_is)
    (case h_T_4 => k_is)
    (case h_Tt_0 => k_is)
    (case h_cE => k_is)
    (case h_cM => k_is)
    (case h_cBB => k_is)
    (case h_cH => k_is)
    (case law0 => k_is)
    (case law1 => k_is)
    (case law2 => k_is)
    (case law3 => k_is)
    (case h_B_len => k_is)
    (case h_B_int => k_is)
    (case h_B_bool => k_is)
    (case h_B_str => k_is)
    (case h_B_list => k_is)
    (case h_B_tuple => k_is)
    (case h_B_dict => k_is)
    (case h_B_isinstance => k_is)
    (case h_B_all => k_is)
    (case h_B_range => k_is)
    (case h_B_enumerate => k_is)
    (case h_B_sorted => k_is)
    (case h_B_min => k_is)
    (case h_B_max => k_is)
    (case h_B_set => k_is)
    (case h_TB_0_0 => k_is)
    (case h_TB_0_1 => k_is)
    (case h_TB_0_2 => k_is)
    (case h_TB_0_3 => k_is)
    (case h_TB_1 => delta L2.NoAttr; k_is)
    (case h_T_0_0 => k_is)
    (case h_T_0_1 => k_is)
    (case h_T_0_2 => k_is)
    (case h_T_0_3 => k_is)
    (case h_T_1 => delta L2.NoAttr; k_is)
    (case h_T_2 => delta L2.NoAttr; k_is)
    (case h_T_3 => delta L2.NoAttr; k_is)
    (case h_Tt_1_0 => k_is)
    (case h_TE_0 => k_is)
    (case h_TE_2 => k_is)
    (case h_TE_3 => k_is)
    (case h_TE_4 => k_is)
    (case h_TE_5 => k_is)
    (case h_TE_6 => k_is)
    (case h_TE_7 => k_is)
    (case h_TE_8 => k_is)
    (case h_TE_9 => k_is)
    (case h_TE_10 => k_is)
    (case h_TE_11 => k_is)
    (case h_TE_12 => k_is)
    (case h_TE_13 => k_is)
    (case h_TE_14 => k_is)
    (case h_TE_15 => k_is)
    (case h_TE_17 => k_is)
    (case h_TE_18 => k_is)
    (case h_TE_20 => k_is)
    (case h_TE_21 => k_is)
    (case h_TE_25 => k_is)
    (case h_TE_29 => k_is)
    (case h_bi_0 => k_is)
    (case h_bi_1 => k_is)
    (case h_bi_2 => k_is)
    (case h_bi_3 => k_is)
    (case h_ji_0 => k_is)
    (case h_ji_1 => k_is)
    (case h_ji_2 => k_is)
    (case h_ji_3 => k_is)
    (case h_mkB => k_is)
    (case h_kB => k_is)
    (case h_nV => k_is)
    (case h_TM_0 => k_is)
    (case h_TM_2 => k_is)
    (case h_TM_3 => k_is)
    (case h_TM_4 => k_is)
    (case h_TM_5 => k_is)
    (case h_TM_6 => k_is)
    (case h_TM_7 => k_is)
    (case h_TM_8 => k_is)
    (case h_TM_9 => k_is)
    (case h_TM_10 => k_is)
    (case h_TM_11 => k_is)
    (case h_TM_12 => k_is)
    (case h_TM_13 => k_is)
    (case h_TM_14 => k_is)
    (case h_TM_15 => k_is)
    (case h_TM_17 => k_is)
    (case h_TM_18 => k_is)
    (case h_TM_20 => k_is)
    (case h_TM_21 => k_is)
    (case h_TM_25 => k_is)
    (case h_TM_29 => k_is)
    (case h_TBB_0 => k_is)
    (case h_TBB_2 => k_is)
    (case h_TBB_3 => k_is)
    (case h_TBB_4 => k_is)
    (case h_TBB_5 => k_is)
    (case h_TBB_6 => k_is)
    (case h_TBB_7 => k_is)
    (case h_TBB_8 => k_is)
    (case h_TBB_9 => k_is)
    (case h_TBB_10 => k_is)
    (case h_TBB_11 => k_is)
    (case h_TBB_12 => k_is)
    (case h_TBB_13 => k_is)
    (case h_TBB_14 => k_is)
    (case h_TBB_15 => k_is)
    (case h_TBB_17 => k_is)
    (case h_TBB_18 => k_is)
    (case h_TBB_20 => k_is)
    (case h_TBB_21 => k_is)
    (case h_TBB_25 => k_is)
    (case h_TBB_29 => k_is)
    (case h_XE_0 => k_is)
    (case h_XE_1 => k_is)
    (case h_XE_2 => k_is)
    (case h_XE_3 => k_is)
    (case h_XE_4 => k_is)
    (case h_XE_5 => k_is)
    (case h_XE_6 => k_is)
    (case h_XE_7 => k_is)
    (case h_hcE => k_is)
    (case h_kE_0 => k_is)
    (case h_kE_1 => k_is)
    (case h_kE_2 => k_is)
    (case h_kV_1 => k_is)
    (case h_kM_0 => k_is)
    (case h_kM_1 => k_is)
    (case h_kM_2 => k_is)
    (case h_kM_3 => k_is)
    (case h_nBE_0 => k_is)
    (case h_nBE_1 => k_is)
    (case h_nBE_2 => k_is)
    (case h_nBE_3 => k_is)
    (case h_nfs_0 => k_is)
    (case h_kr0_1 => k_is)
    (case h_kr1_1 => k_is)
    (case h_kr2_1 => k_is)
    (case h_kr3_1 => k_is)
    (case h_kr4_1 => k_is)
    (case h_kt0_0 => k_is)
    (case h_kt0_1 => k_is)
    (case h_kt0_2 => k_is)
    (case h_kt1_0 => k_is)
    (case h_kt1_1 => k_is)
    (case h_kt1_2 => k_is)
    (case h_kt2_0 => k_is)
    (case h_kt2_1 => k_is)
    (case h_kt2_2 => k_is)
    (case h_kt3_0 => k_is)
    (case h_kt3_1 => k_is)
    (case h_kt3_2 => k_is)
    (case h_kt4_0 => k_is)
    (case h_kt4_1 => k_is)
    (case h_kt4_2 => k_is)
    (case h_kt5_0 => k_is)
    (case h_kt5_1 => k_is)
    (case h_kt5_2 => k_is)
    (case h_kt6_0 => k_is)
    (case h_kt6_1 => k_is)
    (case h_kt6_2 => k_is)
    (case h_bne1 => k_is)
    (case h_bob => k_is)
    (case h_d_is_integer_0 => k_is)
    (case h_d_is_integer_1 => k_is)
    (case h_d_is_integer_2 => k_is)
    (case h_d_is_integer_3 => k_is)
    (case h_d_is_natural_0 => k_is)
    (case h_d_is_natural_1 => k_is)
    (case h_d_is_natural_2 => k_is)
    (case h_d_is_natural_3 => k_is)
    (case h_d_is_name_0 => k_is)
    (case h_d_is_name_1 => k_is)
    (case h_d_is_name_2 => k_is)
    (case h_d_is_name_3 => k_is)
    (case h_d_are_integers_0 => k_is)
    (case h_d_are_integers_1 => k_is)
    (case h_d_are_integers_2 => k_is)
    (case h_d_are_integers_3 => k_is)
    (case h_d_is_late_0 => k_is)
    (case h_d_is_late_1 => k_is)
    (case h_d_is_late_2 => k_is)
    (case h_d_is_late_3 => k_is)
    (case h_d_is_lates_0 => k_is)
    (case h_d_is_lates_1 => k_is)
    (case h_d_is_lates_2 => k_is)
    (case h_d_is_lates_3 => k_is)
    (case h_d_is_entry_0 => k_is)
    (case h_d_is_entry_1 => k_is)
    (case h_d_is_entry_2 => k_is)
    (case h_d_is_entry_3 => k_is)
    (case h_d_arrival_of_0 => k_is)
    (case h_d_arrival_of_1 => k_is)
    (case h_d_arrival_of_2 => k_is)
    (case h_d_arrival_of_3 => k_is)
    (case h_d_placed_0 => k_is)
    (case h_d_placed_1 => k_is)
    (case h_d_placed_2 => k_is)
    (case h_d_placed_3 => k_is)
    (case h_d_row_behind_0 => k_is)
    (case h_d_row_behind_1 => k_is)
    (case h_d_row_behind_2 => k_is)
    (case h_d_row_behind_3 => k_is)
    (case h_d_walked_0 => k_is)
    (case h_d_walked_1 => k_is)
    (case h_d_walked_2 => k_is)
    (case h_d_walked_3 => k_is)
    (case h_d_is_row_0 => k_is)
    (case h_d_is_row_1 => k_is)
    (case h_d_is_row_2 => k_is)
    (case h_d_is_row_3 => k_is)
    (case h_d__law_pool_0 => k_is)
    (case h_d__law_pool_1 => k_is)
    (case h_d__law_pool_2 => k_is)
    (case h_d__law_pool_3 => k_is)
    (case h_d__law_draw_0 => k_is)
    (case h_d__law_draw_1 => k_is)
    (case h_d__law_draw_2 => k_is)
    (case h_d__law_draw_3 => k_is)
    (case h_d__law_names_0 => k_is)
    (case h_d__law_names_1 => k_is)
    (case h_d__law_names_2 => k_is)
    (case h_d__law_names_3 => k_is)
    (case h_d__law_lates_0 => k_is)
    (case h_d__law_lates_1 => k_is)
    (case h_d__law_lates_2 => k_is)
    (case h_d__law_lates_3 => k_is)
    (case h_d__law_amount_0 => k_is)
    (case h_d__law_amount_1 => k_is)
    (case h_d__law_amount_2 => k_is)
    (case h_d__law_amount_3 => k_is)
    (case h_d__law_begin_0 => k_is)
    (case h_d__law_begin_1 => k_is)
    (case h_d__law_begin_2 => k_is)
    (case h_d__law_begin_3 => k_is)
    (case h_d__law_entry_0 => k_is)
    (case h_d__law_entry_1 => k_is)
    (case h_d__law_entry_2 => k_is)
    (case h_d__law_entry_3 => k_is)
    (case h_d__law_put_0 => k_is)
    (case h_d__law_put_1 => k_is)
    (case h_d__law_put_2 => k_is)
    (case h_d__law_put_3 => k_is)
    (case h_d__law_entries_0 => k_is)
    (case h_d__law_entries_1 => k_is)
    (case h_d__law_entries_2 => k_is)
    (case h_d__law_entries_3 => k_is)
    (case h_d__law_is_int_0 => k_is)
    (case h_d__law_is_int_1 => k_is)
    (case h_d__law_is_int_2 => k_is)
    (case h_d__law_is_int_3 => k_is)
    (case h_d__law_is_name_0 => k_is)
    (case h_d__law_is_name_1 => k_is)
    (case h_d__law_is_name_2 => k_is)
    (case h_d__law_is_name_3 => k_is)
    (case h_d__law_is_kind_0 => k_is)
    (case h_d__law_is_kind_1 => k_is)
    (case h_d__law_is_kind_2 => k_is)
    (case h_d__law_is_kind_3 => k_is)
    (case h_d__law_is_good_0 => k_is)
    (case h_d__law_is_good_1 => k_is)
    (case h_d__law_is_good_2 => k_is)
    (case h_d__law_is_good_3 => k_is)
    (case h_d__law_first_bad_0 => k_is)
    (case h_d__law_first_bad_1 => k_is)
    (case h_d__law_first_bad_2 => k_is)
    (case h_d__law_first_bad_3 => k_is)
    (case h_d__law_odd_0 => k_is)
    (case h_d__law_odd_1 => k_is)
    (case h_d__law_odd_2 => k_is)
    (case h_d__law_odd_3 => k_is)
    (case h_d__law_turned_0 => k_is)
    (case h_d__law_turned_1 => k_is)
    (case h_d__law_turned_2 => k_is)
    (case h_d__law_turned_3 => k_is)
    (case h_d__law_spoilt_0 => k_is)
    (case h_d__law_spoilt_1 => k_is)
    (case h_d__law_spoilt_2 => k_is)
    (case h_d__law_spoilt_3 => k_is)
    (case h_d__law_made_0 => k_is)
    (case h_d__law_made_1 => k_is)
    (case h_d__law_made_2 => k_is)
    (case h_d__law_made_3 => k_is)
    (case h_d__law_full_0 => k_is)
    (case h_d__law_full_1 => k_is)
    (case h_d__law_full_2 => k_is)
    (case h_d__law_full_3 => k_is)
    (case h_m_Init_0 => k_is)
    (case h_m_Init_1 => k_is)
    (case h_m_Init_2 => k_is)
    (case h_m_Init_3 => k_is)
    (case h_m_Init_4 => k_is)
    (case h_m_Has_0 => k_is)
    (case h_m_Has_1 => k_is)
    (case h_m_Has_2 => k_is)
    (case h_m_Has_3 => k_is)
    (case h_m_Has_4 => k_is)
    (case h_m_Late_0 => k_is)
    (case h_m_Late_1 => k_is)
    (case h_m_Late_2 => k_is)
    (case h_m_Late_3 => k_is)
    (case h_m_Late_4 => k_is)
    (case h_m_J_0 => k_is)
    (case h_m_J_1 => k_is)
    (case h_m_J_2 => k_is)
    (case h_m_J_3 => k_is)
    (case h_m_J_4 => k_is)
    (case h_m_J_5 => k_is)
    (case h_m_J_6 => k_is)
    (case h_m_J_7 => k_is)
    (case h_m_Then_0 => k_is)
    (case h_m_Then_1 => k_is)
    (case h_m_Then_2 => k_is)
    (case h_m_Then_3 => k_is)
    (case h_m_Then_4 => k_is)
    (case h_m_Heard_0 => k_is)
    (case h_m_Heard_1 => k_is)
    (case h_m_Heard_2 => k_is)
    (case h_m_Heard_3 => k_is)
    (case h_m_Heard_4 => k_is)
    (case h_m_Rows_0 => k_is)
    (case h_m_Rows_1 => k_is)
    (case h_m_Rows_2 => k_is)
    (case h_m_Rows_3 => k_is)
    (case h_m_Rows_4 => k_is)
    (case h_m_Len_0 => k_is)
    (case h_m_Len_1 => k_is)
    (case h_m_Len_2 => k_is)
    (case h_m_Len_3 => k_is)
    (case h_m_Len_4 => k_is)
    (case h_m_Beq_0 => k_is)
    (case h_m_Beq_1 => k_is)
    (case h_m_Beq_2 => k_is)
    (case h_m_Beq_3 => k_is)
    (case h_m_Beq_4 => k_is)
    (case h_m_Jeq_0 => k_is)
    (case h_m_Jeq_1 => k_is)
    (case h_m_Jeq_2 => k_is)
    (case h_m_Jeq_3 => k_is)
    (case h_m_Jeq_4 => k_is)
    (case h_sqE_0 => k_is)
    (case h_TE_1 => decide +kernel)
    (case h_TE_16 => ks_is)
    (case h_TE_19 => decide +kernel)
    (case h_TE_22 => exact rfl)
    (case h_TE_23 => exact rfl)
    (case h_TE_24 => exact fun s u v => .of_eq rfl)
    (case h_TE_26 => exact rfl)
    (case h_TE_27 => decide +kernel)
    (case h_TE_28 => decide +kernel)
    (case h_TM_1 => decide +kernel)
    (case h_TM_16 => ks_is)
    (case h_TM_19 => decide +kernel)
    (case h_TM_22 => exact rfl)
    (case h_TM_23 => exact rfl)
    (case h_TM_24 => exact fun s u v => .of_eq rfl)
    (case h_TM_26 => exact rfl)
    (case h_TM_27 => decide +kernel)
    (case h_TM_28 => decide +kernel)
    (case h_TBB_1 => decide +kernel)
    (case h_TBB_16 => ks_is)
    (case h_TBB_19 => decide +kernel)
    (case h_TBB_22 => exact rfl)
    (case h_TBB_23 => exact rfl)
    (case h_TBB_24 => exact fun s u v => .of_eq rfl)
    (case h_TBB_26 => exact rfl)
    (case h_TBB_27 => decide +kernel)
    (case h_TBB_28 => decide +kernel)
    (case h_kV_0 => decide +kernel)
    (case h_bkC => delta Ash.BkC; k_is)
    (case h_kr0_0 => decide +kernel)
    (case h_kr1_0 => decide +kernel)
    (case h_kr2_0 => decide +kernel)
    (case h_kr3_0 => decide +kernel)
    (case h_kr4_0 => decide +kernel)

