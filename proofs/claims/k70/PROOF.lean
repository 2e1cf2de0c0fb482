import PyProof.Rows.All
import Wide.All
import OpenK.AllK
import Wide.FinOn
import PyProof.EqAt
import PyProof.EqKinds
import PyProof.TupleCall
import KE.KExcSuper
import HandS.ForMost
import HandS.ForExc
import HandS.ExcInit
import HandS.IsInst
import HandS.Wide
import HandS.Star
import HandS.CallSlots
import HandS.DictComp
import HandS.OwnEq
import HandS.Codes
import HandS.Defaults
import HandS.Walk
import PySem.Challenge.RW_asofhall_k70_drafts_closed
import HandS.More
import KE.GoesMore
import HandS.ExcCtx
import HandS.HotCalls
import HandS.SuiteRaise
import HandS.RaiseFrom
import PyProof.NeKinds
import HandS.Zip
import HandS.Deep
import PyProof.InstNe
import OpenK.KOwn
import OpenK.KOps
import HandS.Sort
import PyProof.DelItemList
import HandS.Flow
import HandS.Small
import HandS.ExcOwn
import HandS.TupAny
import HandS.Exc
import HandS.TryMany
set_option Elab.async false
set_option linter.all false
set_option maxRecDepth 100000
set_option maxHeartbeats 4000000
namespace PySem
namespace BadX
open PySem.W PySem.Calls PyProof.Rows PySem.HandSPX
/-- super().__init__(text); self.fl = par -/
def shape (tx par fl : Str) (p0 p1 p2 p3 p4 p5 p6 p7 p8 p9 : Pos) (j : Nat) : List Stmt :=
  [.Expr (.Call (.Attribute (.Call (.Name "super" p0) [] [] p1) "__init__" p2) [.Constant (.str tx) j p3] [] p4) p5,
   .Assign [.Attribute (.Name "self" p6) fl p7] (.Name par p8) p9]
def sco (par : Str) : Scope := { kind := .function, names := [(PySem.Str.ofString "self", .local), (par, .local), (PySem.Str.ofString "__class__", .free), (PySem.Str.ofString "super", .globalImplicit)], isGenerator := false, isCoroutine := false, more := [] }
/-- what the written part says of an own error's class at C, its __init__ at fI, whose one field is fl -/
structure Txt (P : Program) (K : Frag) (mg : Str → Option Value) (par fl : Str) (C fI : Addr) : Prop where
  cls : ∃ nm q N bs bm sn sub ab col dd k0 k1 k2 k3 k5, K.lookup C = some (excClassObj nm q C N bs bm true sn sub ab col dd k0 k1 k2 k3 k5 "ValueError.__new__") ∧ refsVE bm = true
  sa : findIn K (.ref C) "__setattr__" = some (some (.builtin "object.__setattr__"))
  ga : findIn K (.ref C) "__getattribute__" = some (some (.builtin "BaseException.__getattribute__"))
  gg : findIn K (.ref C) "__getattr__" = some none
  noN : findIn K (.ref C) fl = some none
  iC : findIn K (.ref C) "__init__" = some (some (.ref fI))
  tC : typeIn K (.ref fI) = some (.type "function")
  kC : keepIn K (.ref C) = true
  exC : subIn K (.ref C) (.type "BaseException") = some true
  veC : subIn K (.ref C) (.type "ValueError") = some true
  slf : mroIn K C (.ref C) = some true
  tyC : typeIn K (.ref C) = some (.type "type")
  hdC : hasDictIn K C = true
  te : exmOne K (.ref C) (.ref C) = some true
  along : ks_superIn K C C "__init__" = some (some (.builtin "ValueError.__init__"))
  opq : nsIn K cStatics "thirdparty.any" = some none
  sup : mg "super" = none
  top : (P.main.scope.names.lookup ("super" : Str)).isSome = false
  fn : ∃ (oc : Value) (od : Option Addr) (qual tx : Str) (doc pm : Value) (an : Option Addr) (cda cc : Addr) (ct : Value) (osl : Array (Option Value)) (pa : Arguments) (p0 p1 p2 p3 p4 p5 p6 p7 p8 p9 : Pos) (j : Nat) (a0 : Arg),
    K.lookup fI = some ⟨oc, od, .func (ksFn "__init__" qual pa (shape tx par fl p0 p1 p2 p3 p4 p5 p6 p7 p8 p9 j) (sco par) .none .none doc pm an (.ref cda) ct cc), osl⟩ ∧ codeIn K (.ref cda) qual = true ∧
    (pa.posonlyargs ++ pa.args).head? = some a0 ∧ a0.arg = "self" ∧
    (∀ (s : Shared) (u v : Value), BindsTo s (ksFn "__init__" qual pa (shape tx par fl p0 p1 p2 p3 p4 p5 p6 p7 p8 p9 j) (sco par) .none .none doc pm an (.ref cda) ct cc) ⟨[u, v], []⟩ [("self", u), (par, v)]) ∧
    (∃ ccl cdd vs ccs file tf, K.lookup cda = some ⟨ccl, cdd, .fields vs, ccs⟩ ∧ vs[2]? = some (.str file tf) ∧ ((P.main.file : Str) == file) = true) ∧
    (p2.endLine == p4.line) = true ∧
    (∃ cl cld csl, K.lookup cc = some ⟨cl, cld, .cell (some (.ref C)), csl⟩)
/-- what __init__ leaves of a fresh exception at x -/
structure Left (fl : Str) (h h' : Heap) (x C dx t1 : Addr) (v : Value) : Prop where
  keep : ∀ b o, b ≠ x → h.get? b = some o → h'.get? b = some o
  obj : h'.get? x = some { cls := .ref C, dict := some dx, data := .fields #[.ref t1, .none, .none, .none, .bool false, .none] }
  dbig : h.objs.size ≤ dx
  dne : dx ≠ x
  ns : h'.Ns1 dx (fun y => if y = fl then some v else none)
section
variable {prog : Program} {w : World} {A : Around} {E : Value → Shared → Prop} {R : Result → Shared → Prop} {s : Shared} {K : Frag} {mg mb : Str → Option Value} {C fI : Addr} {par fl : Str}
/-- the wrapper of ValueError.__init__, bound to x, called -/
theorem call_bound {h : Heap} {g : Array GenState} {d : Drawn} {t : Nat} {os : OsState} {u x t0 : Addr} {rest : List Value} {Q : Value → Shared → Prop} {nm q : Str} {N : Addr} {bs bm : List Value} {sn : List Str} {sub : List Value} {ab : Bool} {col : Option Bool} {dd : Option Addr} {k0 k1 k2 k3 k5 : Option Value}
    (hC : h.get? C = some (excClassObj nm q C N bs bm true sn sub ab col dd k0 k1 k2 k3 k5 "ValueError.__new__")) (hx : h.get? x = some (excO C t0)) (hu : h.get? u = some (kxs_mw "ValueError.__init__" x)) (hr : rest.length ≤ sizeLine)
    (hq : ∀ h', (∀ b o, b ≠ x → h.get? b = some o → h'.get? b = some o) → h'.get? x = some (excO C h.objs.size) → Q .none ⟨h', g, d, t, os⟩) :
    wpAny (model prog w) A (call (.ref u) rest) Q E ⟨h, g, d, t, os⟩ := by
  have FB := F.excBase_ValueError
  refine wpAny_call (codeAny_of_tree ?_)
  show wpAny _ A.in1 (callAny (.ref u) ⟨rest, []⟩) _ _ _
  simp only [callAny]
  refine wpAny_bind (wpAny_load hu ?_)
  have c1 : (Value.type "method-wrapper" == Value.type "method" || Value.type "method-wrapper" == Value.type "builtin_function_or_method" || Value.type "method-wrapper" == Value.type "method-wrapper") = true := by decide
  simp only [kxs_mw, c1, if_true]
  refine KFB.if_so (by decide) (wpAny_bind (check_bound_init FB.toExcCallFacts hC hx rfl (wpAny_bind (wpAny_pure (wpAny_pure ⟨plainId_quiet FB.init.plain _, codeAny_builtin FB.initEntry ?_⟩)))))
  exact exc_init_tree (cls := .ref C) (t0 := t0) (dv := none) (c2 := .none) (c3 := .none) (b4 := .bool false) hx hr fun h' k e' _ => hq h' k e'
theorem init_ok {x t0 : Addr} {v : Value} (T : Txt prog K mg par fl C fI) (X : K.In s.heap) (G : s.heap.Ns mainGlobals mg) (B : s.heap.Ns builtinsNs mb) (hb : mb "super" = some (.type "super")) (hlim : s.heap.NoLimit)
    (hx : s.heap.get? x = some (excO C t0)) (hnx : K.lookup x = none) (hroom : A.depth < recursionLimit) (hp1 : (par == ("__debug__" : Str)) = false) (hp2 : ¬ par = "self")
    (hloc : (sco par).names.lookup par = some .local) (hks : (sco par).names.lookup ("super" : Str) = some .globalImplicit) (hkc : (sco par).names.lookup ("__class__" : Str) = some .free)
    (hq : ∀ h' tk t1 dx, Left fl s.heap h' x C dx t1 v → R (.ok (.ret .none)) { s with heap := h', toks := tk }) :
    codeAny (model prog w) A (.call (.ref fI) ⟨[.ref x, v], []⟩) R s := by
  obtain ⟨oc, od, qual, tx, doc, pm, an, cda, cc, ct, osl, pa, p0, p1, p2, p3, p4, p5, p6, p7, p8, p9, j, a0, ho, hcd, ha0, ha1, hbd, ⟨ccl, cdd, vs, ccs, file, tf, hcode, hvs, hfile⟩, hpe, ⟨cl, cld, csl, hcell⟩⟩ := T.fn
  obtain ⟨nm, q, N, bs, bm, sn, sub, ab, col, dd, k0, k1, k2, k3, k5, hC, hbm⟩ := T.cls
  have hcl : clsIn K C = some { name := nm, bases := bs, mro := .ref C :: bm, ns := N, qualname := q, hasDict := true, slotNames := sn, subclasses := sub, abstract := ab, collection := col, hasDel := false } := by unfold clsIn; rw [hC] <;> rfl
  refine ks_codeAny_call_defAt (binds := [("self", .ref x), (par, v)]) hroom (X _ _ ho) rfl hlim (codeRec_of X hcd) rfl (hbd s (.ref x) v) ?_ ?_ (fun h₁ hns hk₁ => ?_)
  · intro y hy
    have : y ∈ [(PySem.Str.ofString "self", NameKind.local), (par, .local), (PySem.Str.ofString "__class__", .free), (PySem.Str.ofString "super", .globalImplicit)] := hy
    simp only [List.mem_cons, List.not_mem_nil, or_false] at this
    rcases this with rfl | rfl | rfl | rfl <;> (intro z; cases z)
  · intro y hy
    simp only [List.mem_cons, List.not_mem_nil, or_false] at hy
    rcases hy with rfl | rfl
    · exact (by rfl : (sco par).names.lookup ("self" : Str) = some .local)
    · exact hloc
  have hself : ([(("self" : Str), Value.ref x), (par, v)] : List (Str × Value)).reverse.lookup ("self" : Str) = some (Value.ref x) := by
    show List.lookup ("self" : Str) [(par, v), (("self" : Str), Value.ref x)] = _
    have e1 : (("self" : Str) == par) = false := by simpa using fun z => hp2 z.symm
    simp [List.lookup, e1]
  have hpar : ([(("self" : Str), Value.ref x), (par, v)] : List (Str × Value)).reverse.lookup par = some v := by
    show List.lookup par [(par, v), (("self" : Str), Value.ref x)] = _
    simp [List.lookup]
  have X₁ : K.In h₁ := X.keeps hk₁
  have hx₁ := hk₁ _ _ hx
  refine ks_wpAt_execs_cons (ks_wpAt_Expr_any (ks_wpAt_MethodCall (pl := ?pl) ?_ ?he))
  case he =>
    rw [arm_eval_Call]
    unfold methodCall methodCallPos
    rw [hpe]
    with_unfolding_all rfl
  refine ks_wpAt_super_base (hks := hks) (hkc := hkc) (by decide +kernel) rfl (X₁ _ _ ho) rfl ha0 rfl (X₁ _ _ hcode) rfl hvs hfile T.top ?_
  refine ks_loadName_global rfl hks (loadGlobal_builtin (G.keeps hk₁) T.sup (B.keeps hk₁) hb ⟨rfl, ?_⟩)
  refine wpAny_loadName_free rfl hkc rfl ⟨_, X₁ _ _ hcell, rfl⟩ ?_
  rw [ha1]
  refine wpAny_loadName_local rfl rfl hns hself ?_
  refine ks_wpAny_isType_cls (X₁ _ _ hC) rfl ⟨rfl, ?_⟩
  refine ks_wpAny_call_super (X₁ _ _ hC) rfl hx₁ rfl (fun c e => by cases e) (looks_mroIn X₁ T.slf) (fun h₂ e₂ k₂ => ?_)
  have X₂ : K.In h₂ := X₁.keeps k₂
  have hx₂ := k₂ _ _ hx₁
  have I₂ : InstAt h₂ x (excO C t0) C none := ⟨hx₂, rfl, rfl, trivial⟩
  have hal := T.along
  unfold ks_superIn at hal
  rw [hcl] at hal
  refine kxs_getMethod kxs_ValueError e₂ (looks_opaque X₂ T.opq) (l₀ := .ref C :: bm) ?_ rfl X₂ hal (I₂.type.andThen (looks_subIn X₂ T.veC)) (ks_ne X₂ I₂ hcl) (by decide +kernel) ?_
  · exact fun A Q E s k q => wpAny_bind ((looks_clsIn X₂ hcl) A _ E s k (wpAny_pure q))
  have hu : (h₂.push (kxs_mw "ValueError.__init__" x)).get? h₂.objs.size = some (kxs_mw "ValueError.__init__" x) := Heap.get?_push_at rfl rfl
  have k₃ : ∀ b o, h₂.get? b = some o → (h₂.push (kxs_mw "ValueError.__init__" x)).get? b = some o := fun b o e => Heap.get?_push_of_some _ e
  let H₃ := h₂.push (kxs_mw "ValueError.__init__" x)
  refine kxs_callWith1 (i := "ValueError.__init__") (x := x) (u := h₂.objs.size) (h₀ := Att.noObjs H₃) (L := h₂.objs.size + 7) (news := [(h₂.objs.size, kxs_mw "ValueError.__init__" x)]) (fun q hq => ?_) (List.Mem.head _) ?_
  · rcases List.mem_cons.mp hq with rfl | hq
    · exact ⟨hu, by show h₂.objs.size ≠ h₂.objs.size + 7; omega, Att.noObjs_get _ _⟩
    · cases hq
  refine wpAny_items_cons (Constant_str ?_)
  refine wpAny_items_nil ⟨hu, ?_⟩
  have X₃ : K.In (h₂.push (kxs_mw "ValueError.__init__" x)) := X₂.keeps k₃
  refine call_bound (X₃ _ _ hC) (k₃ _ _ hx₂) hu (by rw [sizeLine_eq]; exact (by decide : 1 ≤ 16777216)) fun h₄ k₄ e₄ => ?_
  -- self.fl = par
  have k14 : ∀ b o, b ≠ x → h₁.get? b = some o → h₄.get? b = some o := fun b o hb e => k₄ b o hb (k₃ b o (k₂ b o e))
  have xL : s.heap.objs.size ≠ x := Nat.ne_of_gt (Heap.lt_size hx)
  obtain ⟨oL, es, ep, hL, hr⟩ := hns
  have hns₄ : h₄.Ns s.heap.objs.size (fun y => ([(("self" : Str), Value.ref x), (par, v)] : List (Str × Value)).reverse.lookup y) := ⟨oL, es, ep, k14 _ _ xL hL, hr⟩
  have X₄ : K.In h₄ := fun a o e => k₄ a o (fun z => by rw [z, hnx] at e; cases e) (X₃ a o e)
  refine wpAt_of_wpAny (wpAny_execs_cons (plainObj_wpAny_Assign_Attribute ?_))
  refine wpAny_Name (wpAny_loadName_local rfl hloc hns₄ hpar ?_) hp1
  refine wpAny_Name (wpAny_loadName_local rfl rfl hns₄ hself ?_) (by decide)
  refine set_plain X₄ (ox := excO C h₂.objs.size.succ) (od := none) ⟨?_, rfl, rfl, trivial⟩ T.sa ?_
  · show h₄.get? x = some (excO C h₂.objs.size.succ)
    rw [e₄, Heap.size_push]
  have e₄' : h₄.get? x = some (excO C h₂.objs.size.succ) := by
    rw [e₄, Heap.size_push]
  refine exc_osa X₄ e₄' hcl (show refsVE (.ref C :: bm) = true from hbm) rfl T.noN (fun h₅ tk₅ dx k₅ dn dne hx₅ hn₅ => ?_)
  have z1 : s.heap.objs.size < h₄.objs.size := Heap.lt_size (k14 _ _ xL hL)
  refine wpAny_execs_nil (hq h₅ tk₅ _ dx ⟨fun b o hb e => k₅ b o hb (k14 b o hb (hk₁ b o e)), hx₅, Nat.le_of_lt (Nat.lt_of_lt_of_le z1 dn), dne, hn₅⟩)
theorem one_le (v : Value) : [v].length ≤ sizeLine := by
  rw [sizeLine_eq]
  exact (by decide : 1 ≤ 16777216)
/-- a made error -/
structure Made (fl : Str) (h h' : Heap) (e C d : Addr) (v : Value) : Prop where
  keep : ∀ b o, h.get? b = some o → h'.get? b = some o
  new : h.objs.size ≤ e
  obj : ∃ oe vs, h'.get? e = some oe ∧ oe.cls = .ref C ∧ oe.dict = some d ∧ oe.data = .fields vs ∧ vs[1]? = some .none ∧ vs[2]? = some .none ∧ 4 < vs.size
  dbig : h.objs.size ≤ d
  dne : d ≠ e
  ns : h'.Ns1 d (fun y => if y = fl then some v else none)
/-- the names of such an __init__ -/
structure Par (par : Str) : Prop where
  p1 : (par == ("__debug__" : Str)) = false
  p2 : ¬ par = "self"
  p3 : (sco par).names.lookup par = some .local
  p4 : (sco par).names.lookup ("super" : Str) = some .globalImplicit
  p5 : (sco par).names.lookup ("__class__" : Str) = some .free
theorem made_ok {v : Value} (T : Txt prog K mg par fl C fI) (p : Par par) (X : K.In s.heap) (G : s.heap.Ns mainGlobals mg) (B : s.heap.Ns builtinsNs mb) (hb : mb "super" = some (.type "super")) (hlim : s.heap.NoLimit) (hroom : A.depth + 1 < recursionLimit)
    (hq : ∀ h' tk e d, Made fl s.heap h' e C d v → R (.ok (.ret (.ref e))) { s with heap := h', toks := tk }) :
    codeAny (model prog w) A (.call (.ref C) ⟨[v], []⟩) R s := by
  obtain ⟨nm, q, N, bs, bm, sn, sub, ab, col, dd, k0, k1, k2, k3, k5, hC, hbm⟩ := T.cls
  obtain ⟨hp, g, dr, tk, os⟩ := s
  let hp2 := (hp.push (kdv_tup [v])).push (excO C hp.objs.size)
  have k : ∀ b o, hp.get? b = some o → hp2.get? b = some o := fun b o e => Heap.get?_push_of_some _ (Heap.get?_push_of_some _ e)
  have hget : hp2.get? (hp.objs.size + 1) = some (excO C hp.objs.size) := by
    show ((hp.push (kdv_tup [v])).push (excO C hp.objs.size)).get? (hp.objs.size + 1) = _
    heap_get
  have hsz : hp2.objs.size = hp.objs.size + 2 := by
    show ((hp.push (kdv_tup [v])).push (excO C hp.objs.size)).objs.size = _
    rw [Heap.size_push, Heap.size_push]
  have hnx : K.lookup (hp.objs.size + 1) = none := by
    cases e : K.lookup (hp.objs.size + 1) with
    | none => rfl
    | some o => exact absurd (Nat.lt_of_succ_lt (Heap.lt_size (show hp.get? _ = some o from X _ _ e))) (Nat.lt_irrefl _)
  refine call_own F.excBase_ValueError (fun Y => refsVE_contains Y bm hbm) (X _ _ hC) (looks_findIn X T.iC) (fun self => bind_fn X self T.tC) (one_le v) ?_
  refine init_ok (s := ⟨hp2, g, dr, tk, os⟩) T (X.keeps k) (G.keeps k) (B.keeps k) hb (hlim.keeps k) hget hnx (show A.depth + 1 < recursionLimit from hroom) p.p1 p.p2 p.p3 p.p4 p.p5 fun h' tk' t1 dx ⟨k', hx, dn, dne, hns⟩ => ?_
  have old : ∀ b o, hp.get? b = some o → h'.get? b = some o := fun b o e => k' b o (Nat.ne_of_lt (Nat.lt_succ_of_lt (Heap.lt_size e))) (k b o e)
  have dn' : hp2.objs.size ≤ dx := dn
  rw [hsz] at dn'
  exact ⟨rfl, hq h' tk' (hp.objs.size + 1) dx ⟨old, Nat.le_succ _, ⟨_, _, hx, rfl, rfl, rfl, rfl, rfl, (show 4 < 6 by decide)⟩, (by show hp.objs.size ≤ dx; omega), dne, hns⟩⟩
end
end BadX
end PySem
namespace L2
open PySem PySem.Spec PyProof.Rows
theorem relO_one {v : V} {v' : Value} (r : RelV v v') (fl f : Str) : RelO (List.lookup f [(fl, v)]) (if f = fl then some v' else none) := by
  by_cases hw : f = fl
  · subst hw
    rw [if_pos rfl]
    have q : List.lookup f [(f, v)] = some v := by simp [List.lookup]
    rw [q]
    exact r
  · rw [if_neg hw]
    have qw : (f == fl) = false := by simpa using hw
    have q2 : List.lookup f [(fl, v)] = none := by simp [List.lookup, qw]
    rw [q2]
    trivial
section
variable {X : Cx} {C fI : Addr}
/-- Cls(e), an own error with the one field fl -/
def tMkB (fl : Str) (C : Addr) (ta : TA) : St → Hp → XK → Prop := fun σ H Q => ta σ H fun vs H1 => ∃ v, vs = [v] ∧ ∀ d, H1 d = none → Q (.ref C) (some d) (upd H1 d (.xd [(fl, v)]))
theorem pmk_bad {x par fl : Str} {a : Expr} {ta : TA} {p pos : Pos} {k : Nat} (T : PySem.BadX.Txt X.prog X.K X.mg par fl C fI) (pr : PySem.BadX.Par par) (hm : X.mg x = some (.ref C)) (hr : Room k X.A) (ha : PA X [a] ta) (hg : Gl X x)
    (hdb : (x == ("__debug__" : Str)) = false := by decide)
    (he : starEach (a :: []) X.env = (false, eval a X.env) :: starEach [] X.env := by rfl) (hpl : (backTo pos (starEach [] X.env)).any (·.1) = false := by rfl) :
    PMk X (.Call (.Name x p) [a] [] pos) (tMkB fl C ta) := by
  intro pins s σ H Q I h
  refine wpAny_Call_Name_kw (ld_glob I hg hm ?_ hdb)
  refine PySem.W.callWith_K (h₀ := X.base) I.ok.mod.kin T.kC (thn (ha.run pos pins s σ H _ I h) fun us s1 hh => ?_) he hpl
  obtain ⟨vs, H1, I1, r1, v, ev, q1⟩ := hh
  subst ev
  refine ⟨I1.kIn, ?_⟩
  cases r1 with
  | cons rv rn =>
    rename_i v' us'
    cases rn
    show wpAny _ _ (call (.ref C) [v']) _ _ _
    have hlim := I1.nolimit
    obtain ⟨mb, hb1, hb2⟩ := I1.mod.blt
    have Gn : s1.heap.Ns mainGlobals X.mg := I1.mod.glob.keeps I1.bk
    have Bn : s1.heap.Ns builtinsNs mb := hb1.keeps I1.bk
    have hbs : mb "super" = some (.type "super") := (hb2 _ (by decide +kernel)).trans (by first | boot_by_name | rfl | kernel_rfl)
    obtain ⟨hp, g, dr, tk, os⟩ := s1
    refine wpAny_call (PySem.BadX.made_ok T pr I1.kIn Gn Bn hbs hlim (by have := hr.dp; omega) fun h' tk' e d M => ?_)
    show MkP X pins σ Q (.ref e) ⟨h', g, dr, tk', os⟩
    obtain ⟨oe, fv, hoe, hc, hd, hdat, h1, _⟩ := M.obj
    have hns := M.ns
    obtain ⟨G', g1, g2⟩ := restrict h' fun b => decide (b ≠ e)
    have gk : ∀ b, b ≠ e → G'.get? b = h'.get? b := fun b hb => g1 b (decide_eq_true hb)
    have ge : G'.get? e = none := g2 e (by simp)
    have old : ∀ b o, hp.get? b = some o → G'.get? b = some o := fun b o q => (gk b (Nat.ne_of_lt (Nat.lt_of_lt_of_le (Heap.lt_size q) M.new))).trans (M.keep b o q)
    have ob : ObjOk X.prog X.w (upd H1 d (.xd [(fl, v)])) G' d (.xd [(fl, v)]) :=
      ⟨_, hns.at (fun o q => (gk d M.dne).trans q), fun f => relO_one rv fl f⟩
    have J : Inv X pins σ (upd H1 d (.xd [(fl, v)])) ⟨G', g, dr, tk', os⟩ := I1.laid (t' := tk') old M.dbig ob
    refine ⟨e, oe, fv, ⟨G', g, dr, tk', os⟩, _, .ref C, some d, rfl, J, fun b o q => ?_, ge, hoe, ⟨hc, hd⟩, hdat, h1, ?_, rfl, I1.bare, raises_own T.exC T.tyC, q1 d (I1.hok.fresh M.dbig)⟩
    · by_cases hb : b = e
      · have q' : G'.get? b = some o := q
        rw [hb, ge] at q'; cases q'
      · exact (gk b hb).symm.trans q
    · rw [upd_ne (Ne.symm M.dne)]
      exact I1.hok.fresh M.new
/-- raise Cls(e) -/
def tRaiseB (fl : Str) (C : Addr) (W : WX) (ta : TA) : TS := fun _ σ H => tMkB fl C ta σ H fun cls d H' => W cls d σ H'
theorem ps_raiseB {x par fl : Str} {a : Expr} {ta : TA} {W : WX} {p pos pos2 : Pos} {k : Nat} (hc : X.calm = true) (T : PySem.BadX.Txt X.prog X.K X.mg par fl C fI) (pr : PySem.BadX.Par par) (hm : X.mg x = some (.ref C)) (hr : Room k X.A) (tk : Takes X W) (ha : PA X [a] ta) (hg : Gl X x)
    (hdb : (x == ("__debug__" : Str)) = false := by decide)
    (he : starEach (a :: []) X.env = (false, eval a X.env) :: starEach [] X.env := by rfl) (hpl : (backTo pos (starEach [] X.env)).any (·.1) = false := by rfl) :
    PS X (.Raise (some (.Call (.Name x p) [a] [] pos)) none pos2) (tRaiseB fl C W ta) := ps_raise hc tk (pmk_bad T pr hm hr ha hg hdb he hpl)
end
end L2

set_option Elab.async false
set_option linter.all false
set_option maxRecDepth 100000
set_option maxHeartbeats 4000000
namespace Ash
open PySem PySem.Spec PyProof.Rows L2
abbrev topS (i : Nat) : Stmt := PySem.Challenge.pw_asofhall_k70_drafts_closed.main.body.getD i (.Pass ⟨0, 0, 0, 0⟩)
/-- a def of the top by its name, with its promise -/
structure Cal (P : Program) (w : World) (K : PySem.W.Frag) (mg : Str → Option Value) (base : Heap) (CX : CXT) (x : Str) (k : Nat) (ps : List Str) (sp : Sp) : Prop where
  ex : ∃ f fd, mg x = some (.ref f) ∧ PySem.W.keepIn K (.ref f) = true ∧ Binds K fd ps [] ∧ FnOk P w K mg base CX k f fd ps sp
section
variable {X : Cx} {CX : CXT} {k j : Nat} {ps : List Str} {sp : Sp} {E : XK} {x : Str} {p pos : Pos} {e : Expr} {es : List Expr} {t : TA}
theorem pe_cal (G : Cal X.prog X.w X.K X.mg X.base CX x k ps sp) (hr : Room k X.A) (hx : Passes CX X E) (ha : PA X (e :: es) t) (hg : Gl X x := by rfl)
    (hdb : (x == ("__debug__" : Str)) = false := by decide) (he : starEach (e :: es) X.env = (false, eval e X.env) :: starEach es X.env := by rfl) (hpl : (backTo pos (starEach es X.env)).any (·.1) = false := by rfl) :
    PE X (.Call (.Name x p) (e :: es) [] pos) (tCall sp [] E t) := by
  obtain ⟨f, fd, hm, hk, hb, F⟩ := G.ex
  exact pe_call F hr hg hm hk hb .nil hx ha hdb he hpl
theorem pe_calS {E : L2.St → XK} (G : Cal X.prog X.w X.K X.mg X.base CX x k ps sp) (hr : Room k X.A) (hx : ∀ σ, PassesAt CX X σ (E σ)) (ha : PA X (e :: es) t) (hg : Gl X x := by rfl)
    (hdb : (x == ("__debug__" : Str)) = false := by decide) (he : starEach (e :: es) X.env = (false, eval e X.env) :: starEach es X.env := by rfl) (hpl : (backTo pos (starEach es X.env)).any (·.1) = false := by rfl) :
    PE X (.Call (.Name x p) (e :: es) [] pos) (tCallSD sp [] E t) := by
  obtain ⟨f, fd, hm, hk, hb, F⟩ := G.ex
  exact pe_callSD F hr hg hm hk hb .nil hx ha hdb he hpl
/-- a class by its name, with its __init__'s promise -/
structure Mak (P : Program) (w : World) (K : PySem.W.Frag) (mg : Str → Option Value) (base : Heap) (CX : CXT) (x : Str) (C : Addr) (k : Nat) (ps : List Str) (sp : Sp) : Prop where
  ex : ∃ f fd, Mk K C f ∧ mg x = some (.ref C) ∧ Binds K fd ps [] ∧ FnOk P w K mg base CX k f fd ps sp
theorem pe_mak {C : Addr} (G : Mak X.prog X.w X.K X.mg X.base CX x C k ps sp) (hr : Room (k + 1) X.A) (hx : Passes CX X E) (ha : PA X (e :: es) t) (hg : Gl X x := by rfl)
    (hdb : (x == ("__debug__" : Str)) = false := by decide) (he : starEach (e :: es) X.env = (false, eval e X.env) :: starEach es X.env := by rfl) (hpl : (backTo pos (starEach es X.env)).any (·.1) = false := by rfl) :
    PE X (.Call (.Name x p) (e :: es) [] pos) (tMake C sp [] E t) := by
  obtain ⟨f, fd, M, hm, hb, F⟩ := G.ex
  exact pe_make M F hr hg hm hb .nil hx ha hdb he hpl
/-- int(n) of an int -/
theorem call_intI : CallR X (.type "int") (fun xs H Q => ∃ i, xs = [.int i] ∧ Q (.int i) H) := by
  intro pins s σ H xs us Q I r h
  exact call_int1 pins s σ H xs us Q I r (.inl h)
end
/-- what is wanted of an exception at any slots of the def -/
def WEl (X : Cx) (W : WX) : XK := fun cls d H => ∀ σ : L2.St, σ.length = X.N.length → W cls d σ H
theorem passW {X : Cx} {W : WX} (tk : Takes X W) : Passes (L2.CX X.prog X.w) X (WEl X W) := fun _ σ _ _ e s' I c => tk e s' (XE.of_call I (fun cls d H' h => h σ I.len) c)
theorem passE {X : Cx} {E : XK} (tk : Takes X (fun cls d _ H => E cls d H)) : Passes (L2.CX X.prog X.w) X E := passes_call tk fun _ _ _ _ h => h
/-- a method of a class, with its promise -/
structure Met (P : Program) (w : World) (K : PySem.W.Frag) (mg : Str → Option Value) (base : Heap) (CX : CXT) (C : Addr) (m : Str) (k : Nat) (ps : List Str) (sp : Sp) : Prop where
  ex : ∃ f fd, Meth K C m f ∧ Binds K fd ps [] ∧ FnOk P w K mg base CX k f fd ps sp
/-- a dict comprehension over a walk: as lc_it -/
theorem dc_it {J : It} {n : Nat} {W0 : Hp → Prop} {Y : Nat → Hp → V → Hp → Prop} (wk : Walk J n W0 Y) {g : TG} {tt : TT} {tk tv : TE} {vs : List Nat} {σ : L2.St} {H1 : Hp} {D : Addr} {Qd : Hp → Prop} (Pv : Nat → Hp → Prop) (h0 : Pv 0 (upd H1 D (.dK []))) (hG : ∀ i H, i ≤ n → Pv i H → W0 H)
    (hs : ∀ i x H H', i < n → Pv i H → Y i H x H' → g x (wipe σ vs) H' fun σ2 H2 => wipe σ2 vs = wipe σ vs ∧ tt σ2 H2 fun b H3 =>
      if b = true then tk σ2 H3 fun y H4 => tv σ2 H4 fun z H5 => ∃ kvs k, y = kV k ∧ H5 D = some (.dK kvs) ∧ kvs.length < sizeLine ∧ Pv (i + 1) (upd H5 D (.dK (putK kvs k z))) else Pv (i + 1) H3) (hd : ∀ H, Pv n H → Qd H) :
    ∃ W : Nat → Nat → Hp → Prop, (∃ m, W 0 m (upd H1 D (.dK []))) ∧ ∀ i m H, W i m H →
      (J.stop i H ∧ Qd H) ∨ (J.go i H ∧ ∃ Nx : Hp → Prop, (∀ H', Nx H' → ∃ m', m' < m ∧ W (i + 1) m' H') ∧ ∀ x H', J.yld i H x H' → g x (wipe σ vs) H' fun σ2 H2 => wipe σ2 vs = wipe σ vs ∧ tt σ2 H2 fun b H3 =>
        if b = true then tk σ2 H3 fun y H4 => tv σ2 H4 fun z H5 => ∃ kvs k, y = kV k ∧ H5 D = some (.dK kvs) ∧ kvs.length < sizeLine ∧ Nx (upd H5 D (.dK (putK kvs k z))) else Nx H3) := by
  refine ⟨fun i m H => (m + i = n) ∧ Pv i H, ⟨n, rfl, h0⟩, ?_⟩
  rintro i m H ⟨hm, pv⟩
  by_cases c : i < n
  · refine .inr ⟨wk.goes i H c (hG i H (by omega) pv), Pv (i + 1), fun H' pv' => ⟨m - 1, by omega, by omega, pv'⟩, fun x H' y => ?_⟩
    exact hs i x H H' c pv (wk.yields i H x H' c (hG i H (by omega) pv) y)
  · have : i = n := by omega
    subst this
    exact .inl ⟨wk.stops H (hG _ H (Nat.le_refl _) pv), hd H pv⟩
/-- the built-in names that the top leaves alone -/
structure Blt (mg : Str → Option Value) : Prop where
  len : mg "len" = none
  int : mg "int" = none
  bool : mg "bool" = none
  str : mg "str" = none
  list : mg "list" = none
  tuple : mg "tuple" = none
  dict : mg "dict" = none
  isinstance : mg "isinstance" = none
  all : mg "all" = none
  range : mg "range" = none
  enumerate : mg "enumerate" = none
  sorted : mg "sorted" = none
  min : mg "min" = none
  max : mg "max" = none
  set : mg "set" = none
/-- data without depth -/
def flatD : PyData → Bool
  | .none => true
  | .bool _ => true
  | .int _ => true
  | .str x => PyData.strOk x
  | _ => false
theorem flat_lay : ∀ {ds : List PyData}, ds.all flatD = true → PyData.canLayAll0 ds = true ∧ PyData.depthAll ds ≤ 1
  | [], _ => by simp [PyData.canLayAll0, PyData.depthAll]
  | d :: ds, h => by
    rw [List.all_cons, Bool.and_eq_true] at h
    obtain ⟨h1, h2⟩ := flat_lay h.2
    cases d with
    | none => simp [PyData.canLayAll0, PyData.depthAll, PyData.canLay0, PyData.depth, h1, h2]
    | bool b => simp [PyData.canLayAll0, PyData.depthAll, PyData.canLay0, PyData.depth, h1, h2]
    | int b => simp [PyData.canLayAll0, PyData.depthAll, PyData.canLay0, PyData.depth, h1, h2]
    | str b =>
      have hb : PyData.strOk b = true := h.1
      simp [PyData.canLayAll0, PyData.depthAll, PyData.canLay0, PyData.depth, h1, h2, hb]
    | _ => exact absurd h.1 (by simp [flatD])
theorem shaped_flat {ds : List PyData} (h : ds.all flatD = true) : SeqAt.shaped (.tuple ds) = true := by
  obtain ⟨h1, h2⟩ := flat_lay h
  unfold SeqAt.shaped
  simp [PyData.canLay0, PyData.depth, h1]
  omega
/-- all but p stands -/
def But (p : Addr) (H H' : Hp) : Prop := ∀ b o, H b = some o → b ≠ p → H' b = some o
theorem But.refl (p : Addr) (H : Hp) : But p H H := fun _ _ h _ => h
theorem But.trans {p : Addr} {H H1 H2 : Hp} (a : But p H H1) (b : But p H1 H2) : But p H H2 := fun c o h n => b c o (a c o h n) n
theorem But.upd {p : Addr} {H H' : Hp} {o : HO} (a : But p H H') : But p H (L2.upd H' p o) := fun c u h n => by rw [upd_ne n]; exact a c u h n
theorem But.new {p q : Addr} {H H' : Hp} {o : HO} (a : But p H H') (h : H' q = none) (hp : H q = none ∨ q ≠ p := by first | exact .inl ‹_› | exact .inr ‹_›) : But p H (L2.upd H' q o) := fun c u hc n => by
  rw [upd_ne]
  · exact a c u hc n
  · intro z
    subst z
    rw [a c u hc n] at h
    cases h
theorem But.at {p q : Addr} {H H' : Hp} {o : HO} (a : But p H H') (h : H q = none) : But p H (L2.upd H' q o) := fun c u hc n => by
  rw [upd_ne (ne_of_none hc h)]
  exact a c u hc n
theorem sameAt {q : Addr} {H H' : Hp} {o : HO} (a : Same H H') (h : H q = none) : Same H (L2.upd H' q o) := fun c u hc => by
  rw [upd_ne (ne_of_none hc h)]
  exact a c u hc
theorem But.same {p : Addr} {H H' : Hp} (a : Same H H') : But p H H' := fun c o h _ => a c o h
theorem Same.new {q : Addr} {H H' : Hp} {o : HO} (a : Same H H') (h : H' q = none) : Same H (upd H' q o) := fun c u hc => by
  rw [upd_ne (ne_of_none (a c u hc) h)]
  exact a c u hc
theorem But.seq {K : PySem.W.Frag} {p a : Addr} {H H' : Hp} {xs : List V} (e : But p H H') (hn : ∀ o, H p = some o → ∀ ys, o ≠ .lst ys → True) (h : H a = some (.lst xs)) (n : a ≠ p) : SqL K H' a xs := .of (e _ _ h n)
end Ash

set_option Elab.async false
set_option linter.all false
set_option maxRecDepth 100000
set_option maxHeartbeats 4000000
namespace Ash
open PySem PySem.Spec PyProof.Rows L2
open C8 (pss_cut)
/-- the pool of drawn numbers at p, the script's copy at s -/
def PoolAt (H : Hp) (p s : Addr) : Prop := ∃ (ns : List Int) (i c k n : Int), H p = some (.lst [.ref s, .int i, .int c, .int k, .int n]) ∧ H s = some (.lst (ns.map V.int)) ∧ 0 ≤ i ∧ s ≠ p
theorem PoolAt.same {H H' : Hp} {p s : Addr} (h : PoolAt H p s) (e : Same H H') : PoolAt H' p s := by
  obtain ⟨ns, i, c, k, n, h1, h2, h3, h4⟩ := h
  exact ⟨ns, i, c, k, n, e _ _ h1, e _ _ h2, h3, h4⟩
theorem PoolAt.off {H : Hp} {p s q : Addr} {o : HO} (h : PoolAt H p s) (hp : q ≠ p) (hs : q ≠ s) : PoolAt (L2.upd H q o) p s := by
  obtain ⟨ns, i, c, k, n, h1, h2, h3, h4⟩ := h
  exact ⟨ns, i, c, k, n, by rw [upd_ne hp.symm]; exact h1, by rw [upd_ne hs.symm]; exact h2, h3, h4⟩
/-- from H0 to H nothing that was tracked has changed but the pool -/
structure Pl (H0 H : Hp) (p s : Addr) : Prop where
  now : PoolAt H p s
  op : H0 p ≠ none
  os : H0 s ≠ none
  but : But p H0 H
section
variable {H0 H H1 : Hp} {p s q : Addr} {o : HO}
theorem PoolAt.ne (h : PoolAt H p s) : H p ≠ none ∧ H s ≠ none := by
  obtain ⟨ns, i, c, k, n, h1, h2, h3, h4⟩ := h
  rw [h1, h2]
  exact ⟨Option.some_ne_none _, Option.some_ne_none _⟩
theorem Pl.refl (h : PoolAt H p s) : Pl H H p s := ⟨h, h.ne.1, h.ne.2, But.refl p H⟩
theorem Pl.at (h : Pl H0 H p s) (hq : H0 q = none) : Pl H0 (L2.upd H q o) p s :=
  ⟨h.now.off (fun z => h.op (z ▸ hq)) (fun z => h.os (z ▸ hq)), h.op, h.os, h.but.at hq⟩
theorem Pl.keep (h : Pl H0 H p s) {b : Addr} {u : HO} (e : H0 b = some u) (n : b ≠ p) : H b = some u := h.but b u e n
theorem Pl.free (h : Pl H0 H p s) (hq : H q = none) : H0 q = none := by
  cases e : H0 q with
  | none => rfl
  | some u =>
    by_cases hp : q = p
    · exact absurd (hp ▸ hq) h.now.ne.1
    · rw [h.but q u e hp] at hq
      cases hq
theorem Pl.trans (a : Pl H0 H p s) (b : Pl H H1 p s) : Pl H0 H1 p s := ⟨b.now, a.op, a.os, a.but.trans b.but⟩
/-- a new thing -/
theorem Pl.new (h : Pl H0 H p s) (hq : H q = none) : Pl H0 (L2.upd H q o) p s := h.at (h.free hq)
theorem Pl.same (h : Pl H0 H p s) (e : Same H H1) : Pl H0 H1 p s := ⟨h.now.same e, h.op, h.os, fun b u hb n => e b u (h.but b u hb n)⟩
end
def spPool (K : PySem.W.Frag) : Sp := fun vs H Q _ => ∃ (a : Addr) (ns : List Int), vs = [.ref a] ∧ SqL K H a (ns.map V.int) ∧ ∀ p s H', H p = none → PoolAt H' p s → Same H H' → Q (.ref p) H'
def spDraw : Sp := fun vs H Q _ => ∃ (p s : Addr) (many : Int), vs = [.ref p, .int many] ∧ PoolAt H p s ∧ 0 < many ∧ many < 2 ^ 200 ∧ ∀ (d : Int) H', 0 ≤ d → d < many → Pl H H' p s → Q (.int d) H'
section
variable {P : Program} {w : World} {K : PySem.W.Frag} {mg : Str → Option Value} {base : Heap}
abbrev s_l_pool : Stmt := topS 41
theorem sc_l_pool : FnScope ["_law_script"] ["_law_script"] (defScope s_l_pool) := ⟨rfl, rfl, rfl, by decide +kernel, rfl, by decide +kernel, by decide +kernel⟩
theorem ok_pool {f : Addr} {fd : FuncData} (F : Fun K "_law_pool" "_law_pool" s_l_pool f fd) (B : Blt mg) : FnOk P w K mg base CX0 1 f fd ["_law_script"] (spPool K) := by
  refine F.ok sc_l_pool (fun vs H Q E h => ?_) (fun cdv A outer s H vs Q E hr h => ?_)
  · obtain ⟨a, ns, rfl, _⟩ := h
    rfl
  · obtain ⟨a, ns, rfl, hS, k⟩ := h
    refine ⟨_, (pss_one (ps_ret (pe_lst (pa_cons (pe_callTy call_list_of (by rfl) B.list (by decide +kernel) (pa_cons (pv 0) pa_nil)) (pa_cons pe_int (pa_cons pe_int (pa_cons pe_int (pa_cons pe_int pa_nil)))))))), ?_⟩
    refine ⟨_, rfl, _, _, rfl, .inl hS, fun l hl => ⟨(by show 5 ≤ sizeLine; decide), fun p hp => ?_⟩⟩
    have hpl : l ≠ p := fun z => by rw [z, upd_same] at hp; cases hp
    have hp0 : H p = none := by rw [upd_ne (Ne.symm hpl)] at hp; exact hp
    refine k p l _ hp0 ⟨ns, _, _, _, _, upd_same, (by rw [upd_ne hpl, upd_same]), (by decide), hpl⟩ ?_
    exact Same.new (Same.new (Same.refl H) hl) hp
abbrev s_l_draw : Stmt := topS 42
theorem sc_l_draw : FnScope ["_law_pool_here", "_law_many", "_law_cell", "_law_digit", "_law_number"] ["_law_pool_here", "_law_many"] (defScope s_l_draw) := ⟨rfl, rfl, rfl, by decide +kernel, rfl, by decide +kernel, by decide +kernel⟩
theorem ok_draw {f : Addr} {fd : FuncData} (F : Fun K "_law_draw" "_law_draw" s_l_draw f fd) (B : Blt mg) : FnOk P w K mg base CX0 1 f fd ["_law_pool_here", "_law_many"] spDraw := by
  refine F.ok sc_l_draw (fun vs H Q E h => ?_) (fun cdv A outer s H vs Q E hr h => ?_)
  · obtain ⟨p, _, many, rfl, _⟩ := h
    rfl
  · obtain ⟨p, s, many, rfl, hPP, hm, hm2, kk⟩ := h
    obtain ⟨ns, i, c, k, n, hp, hs, hi, hsp⟩ := id hPP
    refine ⟨_, (pss_cons (ps_asg (pe_op op_add (pe_ix ix_list (pv 0) pe_int (fun _ _ => rfl)) pe_int) (pg_sub (pv 0) pe_int set_list))
    (pss_cut (ps_if (PW.pt (pw_and (pt_cmpR op_eq (pe_ix ix_list (pv 0) pe_int (fun _ _ => rfl)) pe_int (nomark _)) (pw_and1 (pt_cmpR op_lt (pe_ix ix_list (pv 0) pe_int (fun _ _ => rfl)) (pe_callB call_len_seq (by rfl) B.len (by decide +kernel) (pa_cons (pe_ix ix_list (pv 0) pe_int (fun _ _ => rfl)) pa_nil)) (nomark _)))))
      (pss_cons (ps_set (i := 2) sc_l_draw.nd rfl (Or.inl rfl) (pe_callTy call_intI (by rfl) B.int (by decide +kernel) (pa_cons (pe_ix ix_list (pe_ix ix_list (pv 0) pe_int (fun _ _ => rfl)) (pe_ix ix_list (pv 0) pe_int (fun _ _ => rfl)) (fun _ _ => rfl)) pa_nil)))
      (pss_cons (ps_asg (pe_op op_add (pe_ix ix_list (pv 0) pe_int (fun _ _ => rfl)) pe_int) (pg_sub (pv 0) pe_int set_list))
      (pss_one (ps_if (pt_cmpR op_ge (pv 2) (pe_op op_pow pe_int pe_int) (nomark _))
        (pss_one (ps_asg (pv 2) (pg_sub (pv 0) pe_int set_list)))
        (pss_one (ps_asg (pe_op op_mod (pe_callTy call_intI (by rfl) B.int (by decide +kernel) (pa_cons (pe_op op_add (pe_op op_add (pe_op op_mul (pe_ix ix_list (pv 0) pe_int (fun _ _ => rfl)) pe_int) (pe_op op_mul (pv 2) pe_int)) pe_int) pa_nil)) pe_int) (pg_sub (pv 0) pe_int set_list)))))))
      pss_nil)
    (pss_cons (ps_if (pt_cmpR op_gt (pe_ix ix_list (pv 0) pe_int (fun _ _ => rfl)) pe_int (nomark _))
      (pss_cons (ps_set (i := 3) sc_l_draw.nd rfl (Or.inl rfl) (pe_op op_mod (pe_callTy call_intI (by rfl) B.int (by decide +kernel) (pa_cons (pe_ix ix_list (pv 0) pe_int (fun _ _ => rfl)) pa_nil)) (pv 1)))
      (pss_cons (ps_asg (pe_op op_fdivW (pe_callTy call_intI (by rfl) B.int (by decide +kernel) (pa_cons (pe_ix ix_list (pv 0) pe_int (fun _ _ => rfl)) pa_nil)) (pv 1)) (pg_sub (pv 0) pe_int set_list))
      (pss_one (ps_ret (pv 3)))))
      pss_nil)
    (pss_cons (ps_set (i := 4) sc_l_draw.nd rfl (Or.inl rfl) (pe_op op_mod (pe_callTy call_intI (by rfl) B.int (by decide +kernel) (pa_cons (pe_op op_add (pe_op op_add (pe_ix ix_list (pv 0) pe_int (fun _ _ => rfl)) (pe_op op_mul (pe_ix ix_list (pv 0) pe_int (fun _ _ => rfl)) pe_int)) pe_int) pa_nil)) pe_int))
    (pss_cons (ps_set (i := 4) sc_l_draw.nd rfl (Or.inl rfl) (pe_op op_mod (pe_callTy call_intI (by rfl) B.int (by decide +kernel) (pa_cons (pe_op op_mul (pv 4) (pe_op op_add (pe_op op_fdiv (pv 4) pe_int) pe_int)) pa_nil)) pe_int))
    (pss_cons (ps_set (i := 4) sc_l_draw.nd rfl (Or.inl rfl) (pe_op op_mod (pe_callTy call_intI (by rfl) B.int (by decide +kernel) (pa_cons (pe_op op_mul (pv 4) (pe_op op_add (pe_op op_fdiv (pv 4) pe_int) pe_int)) pa_nil)) pe_int))
    (pss_cons (ps_asg (pv 4) (pg_sub (pv 0) pe_int set_list))
    (pss_one (ps_ret (pe_op op_mod (pe_callTy call_intI (by rfl) B.int (by decide +kernel) (pa_cons (pe_op op_fdiv (pv 4) pe_int) pa_nil)) (pv 1))))))))))), ?_⟩
    -- pool[3] = pool[3] + 1
    refine ⟨_, rfl, _, _, _, _, rfl, rfl, SqL.of hp, rfl, _, _, rfl, rfl, _, rfl, _, _, _, _, rfl, rfl, hp, rfl, ?_⟩
    -- the first if
    refine ⟨fun σ H1 => (∃ cell, σ = [some (.ref p), some (.int many), cell, none, none]) ∧ ∃ (i c k n : Int), H1 p = some (.lst [.ref s, .int i, .int c, .int k, .int n]) ∧ H1 s = some (.lst (ns.map V.int)) ∧ 0 ≤ i ∧ But p H H1, ?_, ?_⟩
    · generalize eH : upd H p (.lst _) = H1
      have hp1 : H1 p = some (.lst [.ref s, .int i, .int c, .int (k + 1), .int n]) := by rw [← eH]; exact upd_same
      have hs1 : H1 s = some (.lst (ns.map V.int)) := by rw [← eH, upd_ne hsp]; exact hs
      have hb1 : But p H H1 := by rw [← eH]; exact (But.refl p H).upd
      clear eH
      refine ⟨_, rfl, _, _, _, _, rfl, rfl, SqL.of hp1, rfl, rfl, _, rfl, ?_⟩
      refine ite2 (fun c2 => ?_) (fun c2 => ?_)
      · refine ⟨_, rfl, _, _, _, _, rfl, rfl, SqL.of hp1, rfl, _, rfl, _, _, _, _, rfl, rfl, SqL.of hp1, rfl, _, _, rfl, .inl (SqL.of hs1), _, _, rfl, rfl, _, rfl, ?_⟩
        refine ite2 (fun c3 => ?_) (fun c3 => ?_)
        · have c3' : i < (ns.map V.int).length := of_decide_eq_true c3
          obtain ⟨j, rfl⟩ : ∃ j : Nat, i = (j : Int) := ⟨i.toNat, by omega⟩
          have hj : j < ns.length := by rw [List.length_map] at c3'; omega
          -- cell = int(pool[0][pool[1]])
          refine ⟨_, rfl, _, _, _, _, rfl, rfl, SqL.of hp1, rfl, _, rfl, _, _, _, _, rfl, rfl, SqL.of hp1, rfl, _, _, _, V.int ns[j], rfl, rfl, SqL.of hs1, atI_nat (by rw [List.getElem?_map, List.getElem?_eq_getElem hj]; rfl), _, rfl, ?_⟩
          refine ⟨_, rfl, _, _, _, _, rfl, rfl, SqL.of hp1, rfl, _, _, rfl, rfl, _, rfl, _, _, _, _, rfl, rfl, hp1, rfl, ?_⟩
          refine ⟨_, rfl, _, _, rfl, rfl, ⟨by decide, by decide, by decide⟩, _, _, rfl, rfl, _, rfl, ?_⟩
          refine ite2 (fun c4 => ?_) (fun c4 => ?_)
          · refine ⟨_, rfl, _, rfl, _, _, _, _, rfl, rfl, upd_same, rfl, ⟨_, rfl⟩, _, _, _, _, upd_same, (by rw [upd_ne hsp, upd_ne hsp]; exact hs1), (by omega), hb1.upd.upd⟩
          · refine ⟨_, rfl, _, _, _, _, rfl, rfl, SqL.of upd_same, rfl, _, _, rfl, rfl, .inr ⟨by decide, by decide⟩, _, rfl, _, _, rfl, rfl, .inr ⟨by decide, by decide⟩, _, _, rfl, rfl, _, _, rfl, rfl, _, rfl, _, _, rfl, rfl, (by show (0 : Int) < 2147483647; decide), _, rfl, _, _, _, _, rfl, rfl, upd_same, rfl, ⟨_, rfl⟩, _, _, _, _, upd_same, (by rw [upd_ne hsp, upd_ne hsp]; exact hs1), (by omega), hb1.upd.upd⟩
        · exact ⟨⟨_, rfl⟩, _, _, _, _, hp1, hs1, hi, hb1⟩
      · exact ⟨⟨_, rfl⟩, _, _, _, _, hp1, hs1, hi, hb1⟩
    · rintro σ' H1 ⟨⟨cell, rfl⟩, i, c, k, n, hp1, hs1, hi, hb1⟩
      refine ⟨_, rfl, _, _, _, _, rfl, rfl, SqL.of hp1, rfl, _, _, rfl, rfl, _, rfl, ?_⟩
      refine ite2 (fun c2 => ?_) (fun c2 => ?_)
      · refine ⟨_, rfl, _, _, _, _, rfl, rfl, SqL.of hp1, rfl, _, rfl, _, rfl, _, _, rfl, rfl, hm, _, rfl, _, _, _, _, rfl, rfl, SqL.of hp1, rfl, _, rfl, _, rfl, _, _, rfl, rfl, wide_div (b := 200) hm (by omega) (by decide) (by decide), _, rfl, _, _, _, _, rfl, rfl, hp1, rfl, _, rfl, ?_⟩
        refine kk _ _ (Int.emod_nonneg _ (by omega)) (Int.emod_lt_of_pos _ hm) ⟨⟨ns, _, _, _, _, upd_same, (by rw [upd_ne hsp]; exact hs1), hi, hsp⟩, hPP.ne.1, hPP.ne.2, hb1.upd⟩
      · refine ⟨_, rfl, _, _, _, _, rfl, rfl, SqL.of hp1, rfl, _, rfl, _, _, _, _, rfl, rfl, SqL.of hp1, rfl, _, _, rfl, rfl, .inr ⟨by decide, by decide⟩, _, _, rfl, rfl, _, _, rfl, rfl, _, rfl, _, _, rfl, rfl, (by show (0 : Int) < 2147483647; decide), ?_⟩
        generalize ea : (n + k * 104729 + 1) % 2147483647 = a
        have a0 : 0 ≤ a := by rw [← ea]; exact Int.emod_nonneg _ (by decide)
        have a1 : a < 2147483647 := by rw [← ea]; exact Int.emod_lt_of_pos _ (by decide)
        refine ⟨_, rfl, _, rfl, _, _, rfl, rfl, ⟨by decide, by decide⟩, _, _, rfl, rfl, _, _, rfl, rfl, .inl ⟨by omega, by omega⟩, _, rfl, _, _, rfl, rfl, (by show (0 : Int) < 2147483647; decide), ?_⟩
        generalize eb : a * (a / 1009 + 69621) % 2147483647 = b
        have b0 : 0 ≤ b := by rw [← eb]; exact Int.emod_nonneg _ (by decide)
        have b1 : b < 2147483647 := by rw [← eb]; exact Int.emod_lt_of_pos _ (by decide)
        refine ⟨_, rfl, _, rfl, _, _, rfl, rfl, ⟨by decide, by decide⟩, _, _, rfl, rfl, _, _, rfl, rfl, .inl ⟨by omega, by omega⟩, _, rfl, _, _, rfl, rfl, (by show (0 : Int) < 2147483399; decide), ?_⟩
        refine ⟨_, rfl, _, rfl, _, _, _, _, rfl, rfl, hp1, rfl, _, rfl, _, _, rfl, rfl, ⟨by decide, by decide⟩, _, rfl, _, rfl, _, _, rfl, rfl, hm, ?_⟩
        refine kk _ _ (Int.emod_nonneg _ (by omega)) (Int.emod_lt_of_pos _ hm) ⟨⟨ns, _, _, _, _, upd_same, (by rw [upd_ne hsp]; exact hs1), hi, hsp⟩, hPP.ne.1, hPP.ne.2, hb1.upd⟩
end
end Ash

set_option Elab.async false
set_option linter.all false
set_option maxRecDepth 100000
set_option maxHeartbeats 4000000
namespace Ash
open PySem PySem.Spec PyProof.Rows L2
open C8 (pss_cut)
/-! ### names -/
def LET : List Nat := [97, 98, 99, 100, 101, 102, 103, 104, 105, 106, 107, 108, 109, 110, 111, 112, 113, 114, 115, 116, 117, 118, 119, 120, 121, 122]
abbrev abc : Str := "abcdefghijklmnopqrstuvwxyz"
theorem abc_let : abc.cps.toList = LET := by decide +kernel
theorem abc_size : abc.cps.size = 26 := by decide +kernel
/-- a name: 1 to 8 letters -/
def IsNm (z : Str) : Prop := 1 ≤ z.length ∧ z.length ≤ 8 ∧ ∀ c ∈ z.cps.toList, c ∈ LET
theorem let_small : ∀ c ∈ LET, c < 0x110000 := by decide
theorem nm_ok {z : Str} (h : IsNm z) : PyData.strOk z = true := by
  unfold PyData.strOk
  rw [← Array.all_toList, List.all_eq_true]
  exact fun c hc => decide_eq_true (let_small c (h.2.2 c hc))
theorem append_length (a b : Str) : (a ++ b).length = a.length + b.length := by
  show (a.cps ++ b.cps).size = a.cps.size + b.cps.size
  rw [Array.size_append]
theorem append_list (a b : Str) : (a ++ b).cps.toList = a.cps.toList ++ b.cps.toList := by
  show (a.cps ++ b.cps).toList = _
  rw [Array.toList_append]
theorem one_nm {c : Nat} (h : c ∈ LET) : IsNm ⟨#[c]⟩ := ⟨Nat.le_refl 1, (by show 1 ≤ 8; decide), fun d hd => by
  have e : d = c := by simpa using hd
  rw [e]
  exact h⟩
theorem inV_str {z : Str} : ∀ {l : List Str}, inV (.str z) (l.map V.str) = decide (z ∈ l)
  | [] => by simp [inV]
  | a :: l => by
    have ih := inV_str (z := z) (l := l)
    unfold inV at ih ⊢
    rw [List.map_cons, List.any_cons, ih]
    show ((a == z) || decide (z ∈ l)) = decide (z ∈ a :: l)
    by_cases h : a = z
    · subst h
      simp
    · have h' : ¬ z = a := fun q => h q.symm
      by_cases h2 : z ∈ l <;> simp [h, h', h2]
theorem flat_strs (l : List Str) : (l.map V.str).all flatV = true := by
  induction l with
  | nil => rfl
  | cons a l ih =>
    rw [List.map_cons, List.all_cons, ih]
    rfl
theorem sub_len {α : Type} [DecidableEq α] : ∀ {l m : List α}, l.Nodup → (∀ x ∈ l, x ∈ m) → l.length ≤ m.length
  | [], m, _, _ => Nat.zero_le _
  | a :: l, m, hn, h => by
    obtain ⟨h1, h2⟩ := List.nodup_cons.mp hn
    have ha : a ∈ m := h a List.mem_cons_self
    have ih := sub_len (l := l) (m := m.erase a) h2 fun x hx => (List.mem_erase_of_ne (fun z => h1 (by rw [← z]; exact hx))).mpr (h x (List.mem_cons_of_mem _ hx))
    rw [List.length_erase_of_mem ha] at ih
    have : 0 < m.length := List.length_pos_of_mem ha
    rw [List.length_cons]
    omega
theorem atI_natC {α : Type} {xs : List α} {j : Nat} (h : j < xs.length) : atI xs (j : Int) = some xs[j] := by
  unfold atI ixN
  rw [if_pos (by omega), if_pos (by omega), Option.bind_some, Int.toNat_natCast]
  exact List.getElem?_eq_getElem h
theorem let_strs : (LET.map fun c => (⟨#[c]⟩ : Str)).Nodup := by decide +kernel
theorem not_all {l : List Str} (hl : l.length ≤ 25) (h : ∀ c ∈ LET, (⟨#[c]⟩ : Str) ∈ l) : False := by
  have := sub_len let_strs (m := l) fun x hx => by
    obtain ⟨c, hc, rfl⟩ := List.mem_map.mp hx
    exact h c hc
  have e : (LET.map fun c => (⟨#[c]⟩ : Str)).length = 26 := by decide +kernel
  omega
def spNames : Sp := fun vs H Q _ => ∃ (p s : Addr) (many : Int), vs = [.ref p, .int many] ∧ PoolAt H p s ∧ 0 ≤ many ∧ many ≤ 25 ∧
  ∀ (q : Addr) (l : List Str) H', H q = none → H' q = some (.lst (l.map V.str)) → l.length = many.toNat → l.Nodup → (∀ z ∈ l, IsNm z) → Pl H H' p s → Q (.ref q) H'
section
variable {P : Program} {w : World} {K : PySem.W.Frag} {mg : Str → Option Value} {base : Heap}
abbrev CDraw (P : Program) (w : World) (K : PySem.W.Frag) (mg : Str → Option Value) (base : Heap) : Prop := Cal P w K mg base CX0 "_law_draw" 1 ["_law_pool_here", "_law_many"] spDraw
structure G1 (P : Program) (w : World) (K : PySem.W.Frag) (mg : Str → Option Value) (base : Heap) : Prop where
  law_draw : CDraw P w K mg base
abbrev s_l_names : Stmt := topS 43
theorem sc_l_names : FnScope ["_law_pool_here", "_law_many", "_law_letters", "_law_names_here", "_law_k", "_law_length", "_law_name", "_law_at", "_law_letter"] ["_law_pool_here", "_law_many"] (defScope s_l_names) := ⟨rfl, rfl, rfl, by decide +kernel, rfl, by decide +kernel, by decide +kernel⟩
theorem ok_names {f : Addr} {fd : FuncData} (F : Fun K "_law_names" "_law_names" s_l_names f fd) (B : Blt mg) (G : G1 P w K mg base) : FnOk P w K mg base CX0 2 f fd ["_law_pool_here", "_law_many"] spNames := by
  refine F.ok sc_l_names (fun vs H Q E h => ?_) (fun cdv A outer s H vs Q E hr h => ?_)
  · obtain ⟨p, _, many, rfl, _⟩ := h
    rfl
  · obtain ⟨p, s0, many, rfl, hP, hm, hm2, kk⟩ := h
    refine ⟨_, (pss_cons (ps_set (i := 2) sc_l_names.nd rfl (Or.inl rfl) pe_str)
    (pss_cons (ps_set (i := 3) sc_l_names.nd rfl (Or.inl rfl) (pe_lst pa_nil))
    (pss_cons (ps_for PassesOwn.never rfl (pi_range1 (by rfl) B.range (pa_cons (pv 1) pa_nil)) (pg_name (i := 4) sc_l_names.nd rfl (Or.inl rfl))
      (pss_cons (ps_set (i := 5) sc_l_names.nd rfl (Or.inl rfl) pe_int)
      (pss_cut (ps_if (pt_cmpR op_eq (pe_cal G.law_draw (hr.mono (by decide)) pass0 (pa_cons (pv 0) (pa_cons pe_int pa_nil))) pe_int (nomark _))
        (pss_one (ps_set (i := 5) sc_l_names.nd rfl (Or.inl rfl) (pe_op op_add pe_int (pe_cal G.law_draw (hr.mono (by decide)) pass0 (pa_cons (pv 0) (pa_cons pe_int pa_nil))))))
        pss_nil)
      (pss_cons (ps_set (i := 6) sc_l_names.nd rfl (Or.inl rfl) pe_str)
      (pss_cut (ps_for PassesOwn.never rfl (pi_range1 (by rfl) B.range (pa_cons (pv 5) pa_nil)) (pg_name (i := 7) sc_l_names.nd rfl (Or.inl rfl))
        (pss_one (ps_set (i := 6) sc_l_names.nd rfl (Or.inl rfl) (pe_op op_add_str (pv 6) (pe_ix ix_str (pv 2) (pe_cal G.law_draw (hr.mono (by decide)) pass0 (pa_cons (pv 0) (pa_cons pe_int pa_nil))) (fun _ _ => rfl))))))
      (pss_cut (ps_for PassesOwn.never rfl (pi_str (pv 2)) (pg_name (i := 8) sc_l_names.nd rfl (Or.inl rfl))
        (pss_one (ps_if (PW.pt (pw_and (pt_cmpR op_in_seq (pv 6) (pv 3) rfl) (pw_and1 (pt_cmpR op_notIn_seq (pv 8) (pv 3) rfl))))
          (pss_one (ps_set (i := 6) sc_l_names.nd rfl (Or.inl rfl) (pv 8)))
          pss_nil)))
      (pss_one (ps_expr (pe_bm PySem.F.plainAttrs_list PySem.F.slot_list_append PySem.F.type_list_append mt_append (pv 3) (pa_cons (pv 6) pa_nil))))))))))
    (pss_one (ps_ret (pv 3)))))), ?_⟩
    refine ⟨(by show 0 ≤ sizeLine; decide), fun q hq => ?_⟩
    have hr1 : Room 1 _ := hr.mono (by decide)
    refine ⟨_, rfl, _, rfl, (by omega), (by omega), for_range (n := many.toNat) (fun i σ H1 => (∃ a b c d e, σ = [some (.ref p), some (.int many), some (.str abc), some (.ref q), a, b, c, d, e]) ∧ ∃ l : List Str, H1 q = some (.lst (l.map V.str)) ∧ l.length = i ∧ l.Nodup ∧ (∀ z ∈ l, IsNm z) ∧ Pl H H1 p s0) ?_ ?_ ?_⟩
    · exact ⟨⟨_, _, _, _, _, rfl⟩, [], upd_same, rfl, List.nodup_nil, (fun z hz => nomatch hz), (Pl.refl hP).at hq⟩
    · rintro i σ H1 hi ⟨⟨a, b, c, d, e, rfl⟩, l, hl, hlen, hnd, hnm, PL⟩
      have hqp : q ≠ p := fun z => hP.ne.1 (z ▸ hq)
      -- length
      refine ⟨fun σ H2 => (∃ k len c d e, σ = [some (.ref p), some (.int many), some (.str abc), some (.ref q), k, some (.int len), c, d, e] ∧ 1 ≤ len ∧ len ≤ 8) ∧ Pl H1 H2 p s0, ?_, ?_⟩
      · refine ⟨_, rfl, p, s0, 3, rfl, PL.now, (by decide), (by decide), fun x H2 h0 h3 P2 => ⟨rfl, _, rfl, ?_⟩⟩
        refine ite2 (fun c2 => ?_) (fun c2 => ?_)
        · refine ⟨_, rfl, p, s0, 8, rfl, P2.now, (by decide), (by decide), fun y H3 y0 y8 P3 => ?_⟩
          exact ⟨_, _, rfl, rfl, ⟨_, _, _, _, _, rfl, by omega, by omega⟩, P2.trans P3⟩
        · exact ⟨⟨_, _, _, _, _, rfl, by omega, by omega⟩, P2⟩
      rintro σ H2 ⟨⟨k, len, c, d, e, rfl, hlo, hhi⟩, P2⟩
      -- name
      refine ⟨fun σ H3 => (∃ k len nm d e, σ = [some (.ref p), some (.int many), some (.str abc), some (.ref q), k, len, some (.str nm), d, e] ∧ IsNm nm) ∧ Pl H1 H3 p s0, ?_, ?_⟩
      · refine ⟨_, rfl, _, rfl, (by omega), (by omega), for_range (n := len.toNat) (fun j σ H3 => (∃ d nm, σ = [some (.ref p), some (.int many), some (.str abc), some (.ref q), k, some (.int len), some (.str nm), d, e] ∧ nm.length = j ∧ ∀ c ∈ nm.cps.toList, c ∈ LET) ∧ Pl H1 H3 p s0) ?_ ?_ ?_⟩
        · exact ⟨⟨_, _, rfl, rfl, fun c hc => by cases hc⟩, P2⟩
        · rintro j σ H3 hj ⟨⟨d, nm, rfl, hnl, hnc⟩, P3⟩
          refine ⟨_, rfl, _, rfl, _, rfl, p, s0, 26, rfl, P3.now, (by decide), (by decide), fun x H4 x0 x26 P4 => ?_⟩
          obtain ⟨g, rfl⟩ : ∃ g : Nat, x = (g : Int) := ⟨x.toNat, by omega⟩
          have hg : g < LET.length := by show g < 26; omega
          refine ⟨_, _, LET[g], rfl, rfl, (by show abc.cps.size ≤ sizeLine; rw [abc_size]; decide), (by rw [abc_let]; exact atI_natC hg), _, _, rfl, rfl, ?_, ?_⟩
          · show nm.length + 1 ≤ sizeLine
            rw [sizeLine_eq]
            omega
          · refine ⟨⟨_, _, rfl, ?_, ?_⟩, P3.trans P4⟩
            · rw [append_length, hnl]
              rfl
            · intro c hc
              rw [append_list] at hc
              rcases List.mem_append.mp hc with hc | hc
              · exact hnc c hc
              · have e : c = LET[g] := by simpa using hc
                rw [e]
                exact List.getElem_mem hg
        · rintro σ H3 ⟨⟨d, nm, rfl, hnl, hnc⟩, P3⟩
          exact ⟨⟨_, _, _, _, _, rfl, by omega, by omega, hnc⟩, P3⟩
      rintro σ H3 ⟨⟨k, len, nm, d, e, rfl, hN⟩, P3⟩
      -- another name
      have hq3 : H3 q = some (.lst (l.map V.str)) := P3.keep hl hqp
      refine ⟨fun σ H4 => (∃ k len nm d e, σ = [some (.ref p), some (.int many), some (.str abc), some (.ref q), k, len, some (.str nm), d, e] ∧ IsNm nm ∧ nm ∉ l) ∧ H4 = H3, ?_, ?_⟩
      · refine ⟨_, rfl, _, rfl, for_it (walk_str (z := abc)) (fun j σ H4 => (∃ nm e, σ = [some (.ref p), some (.int many), some (.str abc), some (.ref q), k, len, some (.str nm), d, e] ∧ IsNm nm ∧ (nm ∈ l → ∀ (i : Nat) (x : Nat), i < j → LET[i]? = some x → (⟨#[x]⟩ : Str) ∈ l)) ∧ H4 = H3) ?_ (fun _ _ _ _ _ => trivial) ?_ ?_⟩
        · exact ⟨⟨_, _, rfl, hN, fun _ i x hi => by omega⟩, rfl⟩
        · rintro j x σ H4 H5 hj ⟨⟨nm, e, rfl, hN, hall⟩, rfl⟩ ⟨rfl, c, hc, rfl⟩
          have hc' : LET[j]? = some c := by
            rw [← abc_let, Array.getElem?_toList]
            exact hc
          have hcm : c ∈ LET := List.mem_of_getElem? hc'
          refine ⟨_, rfl, _, rfl, _, _, rfl, .inl (SqL.of hq3), rfl, flat_strs l, _, rfl, ?_⟩
          rw [if_neg (by decide), inV_str]
          refine ite2 (fun c2 => ?_) (fun c2 => ?_)
          · have c2 : nm ∈ l := of_decide_eq_true c2
            refine ⟨_, rfl, _, rfl, _, _, rfl, .inl (SqL.of hq3), rfl, flat_strs l, _, rfl, ?_⟩
            rw [if_pos rfl, inV_str]
            refine ite2 (fun c3 => ?_) (fun c3 => ?_)
            · have c3 : ¬ (⟨#[c]⟩ : Str) ∈ l := by simpa using c3
              exact ⟨_, rfl, ⟨_, _, rfl, one_nm hcm, fun z => absurd z c3⟩, rfl⟩
            · have c3 : (⟨#[c]⟩ : Str) ∈ l := by simpa using c3
              refine ⟨⟨_, _, rfl, hN, fun _ i x hi hx => ?_⟩, rfl⟩
              by_cases hij : i < j
              · exact hall c2 i x hij hx
              · have : i = j := by omega
                subst this
                rw [hc'] at hx
                cases hx
                exact c3
          · have c2 : ¬ nm ∈ l := by simpa using c2
            exact ⟨⟨_, _, rfl, hN, fun z => absurd z c2⟩, rfl⟩
        · rintro σ H4 ⟨⟨nm, e, rfl, hN, hall⟩, rfl⟩
          refine ⟨⟨_, _, _, _, _, rfl, hN, fun z => ?_⟩, rfl⟩
          refine not_all (l := l) (by omega) fun c hc => ?_
          obtain ⟨i, hi, e2⟩ := List.getElem_of_mem hc
          exact hall z i c (by rw [abc_size]; exact hi) (by rw [List.getElem?_eq_getElem hi, e2])
      rintro σ H4 ⟨⟨k, len, nm, d, e, rfl, hN, hnl⟩, rfl⟩
      refine ⟨_, rfl, .inl ⟨rfl, _, SqL.of hq3⟩, _, rfl, q, _, _, rfl, rfl, hq3, (by rw [List.length_map]; exact small1000 (by omega)), ?_⟩
      refine ⟨⟨_, _, _, _, _, rfl⟩, l ++ [nm], ?_, ?_, nd_snoc hnd hnl, ?_, (PL.trans P3).at hq⟩
      · rw [upd_same, List.map_append]
        rfl
      · rw [List.length_append, hlen]
        rfl
      · intro z hz
        rcases List.mem_append.mp hz with hz | hz
        · exact hnm z hz
        · rw [List.mem_singleton.mp hz]
          exact hN
    · rintro σ H1 ⟨⟨a, b, c, d, e, rfl⟩, l, hl, hlen, hnd, hnm, PL⟩
      exact ⟨_, rfl, kk q l H1 hq hl hlen hnd hnm PL⟩
end
end Ash

set_option Elab.async false
set_option linter.all false
set_option maxRecDepth 100000
set_option maxHeartbeats 4000000
namespace Ash
open PySem PySem.Spec PyProof.Rows L2
open C8 (pss_cut)
/-- a book's lates as a dict's pairs -/
def LK (L : List (Str × Int)) : List (Key × V) := L.map fun x => (Sum.inr x.1, V.int x.2)
structure Lates (L : List (Str × Int)) : Prop where
  some_ : 1 ≤ L.length
  few : L.length ≤ 8
  nd : (L.map (·.1)).Nodup
  nm : ∀ x ∈ L, IsNm x.1
  lo : ∀ x ∈ L, 0 ≤ x.2
  hi : ∀ x ∈ L, x.2 ≤ 1000000
theorem LK_len (L : List (Str × Int)) : (LK L).length = L.length := List.length_map _
theorem LK_val : ∀ (L : List (Str × Int)) (z : Str), valV (LK L) (Sum.inr z : Key) = (L.lookup z).map V.int
  | [], z => rfl
  | a :: L, z => by
    have ih := LK_val L z
    by_cases h : a.1 = z
    · have h' : (z == a.1) = true := by simpa using h.symm
      show valV ((Sum.inr a.1, V.int a.2) :: LK L) (Sum.inr z : Key) = _
      rw [valV_pos (by rw [h])]
      obtain ⟨a1, a2⟩ := a
      simp only [List.lookup, h', Option.map_some]
    · have h' : (z == a.1) = false := by simpa using fun q => h q.symm
      show valV ((Sum.inr a.1, V.int a.2) :: LK L) (Sum.inr z : Key) = _
      rw [valV_neg (fun q => h (Sum.inr.inj q)), ih]
      obtain ⟨a1, a2⟩ := a
      simp only [List.lookup, h']
theorem lookup_none : ∀ {L : List (Str × Int)} {z : Str}, z ∉ L.map (·.1) → L.lookup z = none
  | [], _, _ => rfl
  | (a1, a2) :: L, z, h => by
    have h1 : ¬ z = a1 := fun q => h (by rw [q]; exact List.mem_cons_self)
    have h' : (z == a1) = false := by simpa using h1
    simp only [List.lookup, h']
    exact lookup_none fun q => h (List.mem_cons_of_mem _ q)
def spLates : Sp := fun vs H Q _ => ∃ (p s : Addr), vs = [.ref p] ∧ PoolAt H p s ∧
  ∀ (d : Addr) (L : List (Str × Int)) H', H d = none → H' d = some (.dK (LK L)) → Lates L → Pl H H' p s → Q (.ref d) H'
section
variable {P : Program} {w : World} {K : PySem.W.Frag} {mg : Str → Option Value} {base : Heap}
structure G2 (P : Program) (w : World) (K : PySem.W.Frag) (mg : Str → Option Value) (base : Heap) : Prop extends G1 P w K mg base where
  law_names : Cal P w K mg base CX0 "_law_names" 2 ["_law_pool_here", "_law_many"] spNames
abbrev s_l_lates : Stmt := topS 44
theorem sc_l_lates : FnScope ["_law_pool_here", "_law_many", "_law_lates_here", "_law_name", "_law_kind"] ["_law_pool_here"] (defScope s_l_lates) := ⟨rfl, rfl, rfl, by decide +kernel, rfl, by decide +kernel, by decide +kernel⟩
theorem ok_lates {f : Addr} {fd : FuncData} (F : Fun K "_law_lates" "_law_lates" s_l_lates f fd) (B : Blt mg) (G : G2 P w K mg base) : FnOk P w K mg base CX0 3 f fd ["_law_pool_here"] spLates := by
  refine F.ok sc_l_lates (fun vs H Q E h => ?_) (fun cdv A outer s H vs Q E hr h => ?_)
  · obtain ⟨p, _, rfl, _⟩ := h
    rfl
  · obtain ⟨p, s0, rfl, hP, kk⟩ := h
    have hu := hu_of hr
    refine ⟨_, (pss_cons (ps_set (i := 1) sc_l_lates.nd rfl (Or.inl rfl) (pe_op op_add pe_int (pe_cal G.law_draw (hr.mono (by decide)) pass0 (pa_cons (pv 0) (pa_cons pe_int pa_nil)))))
    (pss_cut (ps_if (pt_cmpR op_eq (pe_cal G.law_draw (hr.mono (by decide)) pass0 (pa_cons (pv 0) (pa_cons pe_int pa_nil))) pe_int (nomark _))
      (pss_one (ps_set (i := 1) sc_l_lates.nd rfl (Or.inl rfl) (pe_op op_add pe_int (pe_cal G.law_draw (hr.mono (by decide)) pass0 (pa_cons (pv 0) (pa_cons pe_int pa_nil))))))
      pss_nil)
    (pss_cons (ps_set (i := 2) sc_l_lates.nd rfl (Or.inl rfl) pe_dnewK)
    (pss_cons (ps_for PassesOwn.never rfl (pi_list (pe_cal G.law_names (hr.mono (by decide)) pass0 (pa_cons (pv 0) (pa_cons (pv 1) pa_nil)))) (pg_name (i := 3) sc_l_lates.nd rfl (Or.inl rfl))
      (pss_cons (ps_set (i := 4) sc_l_lates.nd rfl (Or.inl rfl) (pe_cal G.law_draw (hr.mono (by decide)) pass0 (pa_cons (pv 0) (pa_cons pe_int pa_nil))))
      (pss_one (ps_dput hu (pv 2) (pv 3) (pe_ix ix_list (pe_lst (pa_cons pe_int (pa_cons (pe_cal G.law_draw (hr.mono (by decide)) pass0 (pa_cons (pv 0) (pa_cons pe_int pa_nil))) (pa_cons (pe_cal G.law_draw (hr.mono (by decide)) pass0 (pa_cons (pv 0) (pa_cons pe_int pa_nil))) (pa_cons (pe_cal G.law_draw (hr.mono (by decide)) pass0 (pa_cons (pv 0) (pa_cons (pe_op op_add (pe_op op_pow pe_int pe_int) pe_int) pa_nil))) pa_nil))))) (pv 4) (fun _ _ => rfl)) rfl))))
    (pss_one (ps_ret (pv 2))))))), ?_⟩
    -- many
    refine ⟨_, rfl, p, s0, 3, rfl, hP, (by decide), (by decide), fun x H1 x0 x3 P1 => ⟨_, _, rfl, rfl, ?_⟩⟩
    refine ⟨fun σ H2 => (∃ many b c d, σ = [some (.ref p), some (.int many), b, c, d] ∧ 1 ≤ many ∧ many ≤ 8) ∧ Pl H H2 p s0, ?_, ?_⟩
    · refine ⟨_, rfl, p, s0, 12, rfl, P1.now, (by decide), (by decide), fun y H2 y0 y3 P2 => ⟨rfl, _, rfl, ?_⟩⟩
      refine ite2 (fun c2 => ?_) (fun c2 => ?_)
      · exact ⟨_, rfl, p, s0, 8, rfl, P2.now, (by decide), (by decide), fun z H3 z0 z3 P3 => ⟨_, _, rfl, rfl, ⟨_, _, _, _, rfl, by omega, by omega⟩, (P1.trans P2).trans P3⟩⟩
      · exact ⟨⟨_, _, _, _, rfl, by omega, by omega⟩, P1.trans P2⟩
    rintro σ H2 ⟨⟨many, b, c, e, rfl, m1, m8⟩, P2⟩
    intro d hd
    have hd0 := P2.free hd
    have P3 : Pl H (upd H2 d (.dK [])) p s0 := P2.at hd0
    refine ⟨_, rfl, _, rfl, p, s0, many, rfl, P3.now, (by omega), (by omega), fun q l H4 hq hl hlen hnd hnm P4 => ?_⟩
    have hdp : d ≠ p := fun z => by rw [z] at hd; exact P2.now.ne.1 hd
    have hd4 : H4 d = some (.dK []) := P4.keep upd_same hdp
    have hdq : q ≠ d := fun z => by rw [z, upd_same] at hq; cases hq
    have hqp : q ≠ p := fun z => by rw [z] at hq; exact P3.now.ne.1 hq
    have hq0 : H q = none := P3.free hq
    refine ⟨q, rfl, ⟨_, SqL.of hl⟩, for_list (K := K) (a := q) (xs := l.map V.str) (fun i σ H5 => (∃ a b, σ = [some (.ref p), some (.int many), some (.ref d), a, b]) ∧ H5 q = some (.lst (l.map V.str)) ∧ (∃ L : List (Str × Int), H5 d = some (.dK (LK L)) ∧ L.map (·.1) = l.take i ∧ ∀ x ∈ L, 0 ≤ x.2 ∧ x.2 ≤ 1000000) ∧ Pl H H5 p s0) ?_ (fun i σ H5 _ hv => SqL.of hv.2.1) ?_ ?_⟩
    · exact ⟨⟨_, _, rfl⟩, hl, ⟨[], hd4, rfl, fun x hx => nomatch hx⟩, P3.trans P4⟩
    · rintro i y σ H5 hi ⟨⟨a, b, rfl⟩, hq5, ⟨L, hd5, hL, hLb⟩, P5⟩
      obtain ⟨nm, hn, rfl⟩ : ∃ nm, l[i]? = some nm ∧ y = V.str nm := by
        rw [List.getElem?_map] at hi
        cases e : l[i]? with
        | none => rw [e] at hi; cases hi
        | some z => rw [e] at hi; exact ⟨z, rfl, (Option.some.inj hi).symm⟩
      have hil : i < l.length := (List.getElem?_eq_some_iff.mp hn).1
      have hnL : nm ∉ L.map (·.1) := by
        rw [hL]
        intro hm
        obtain ⟨j, hj, e⟩ := List.getElem_of_mem hm
        rw [List.length_take] at hj
        rw [List.getElem_take] at e
        have := nd_ix hnd (List.getElem?_eq_some_iff.mpr ⟨by omega, e⟩) hn
        omega
      have hLl : L.length = i := by
        have := congrArg List.length hL
        rw [List.length_map, List.length_take] at this
        omega
      refine ⟨_, rfl, p, s0, 4, rfl, P5.now, (by decide), (by decide), fun kind H6 k0 k4 P6 => ?_⟩
      refine ⟨_, rfl, p, s0, 4, rfl, P6.now, (by decide), (by decide), fun v1 H7 a0 a1 P7 => ?_⟩
      refine ⟨_, rfl, p, s0, 8, rfl, P7.now, (by decide), (by decide), fun v2 H8 b0 b1 P8 => ?_⟩
      refine ⟨_, rfl, _, _, rfl, rfl, ⟨by decide, by decide, by decide⟩, _, _, rfl, rfl, p, s0, _, rfl, P8.now, (by decide), (by decide), fun v3 H9 c0 c1 P9 => ⟨(by show 4 ≤ sizeLine; decide), fun u hu9 => ?_⟩⟩
      have c1 : v3 < 1000001 := c1
      have P59 : Pl H5 H9 p s0 := ((P6.trans P7).trans P8).trans P9
      have hdu : d ≠ u := fun z => by rw [← z, P59.keep hd5 hdp] at hu9; cases hu9
      have hqu : q ≠ u := fun z => by rw [← z, P59.keep hq5 hqp] at hu9; cases hu9
      obtain ⟨v, hv, vge, vle⟩ : ∃ v : Int, atI ([V.int 0, V.int v1, V.int v2, V.int v3]) kind = some (V.int v) ∧ 0 ≤ v ∧ v ≤ 1000000 := by
        have : kind = 0 ∨ kind = 1 ∨ kind = 2 ∨ kind = 3 := by omega
        rcases this with rfl | rfl | rfl | rfl
        · exact ⟨0, rfl, by omega, by omega⟩
        · exact ⟨v1, rfl, by omega, by omega⟩
        · exact ⟨v2, rfl, by omega, by omega⟩
        · exact ⟨v3, rfl, by omega, by omega⟩
      have hdX : (upd H9 u (.lst [V.int 0, V.int v1, V.int v2, V.int v3])) d = some (.dK (LK L)) := by rw [upd_ne hdu]; exact P59.keep hd5 hdp
      refine ⟨_, rfl, _, _, _, _, rfl, rfl, SqL.of upd_same, hv, _, rfl, _, rfl, d, _, rfl, DPut.k (k := Sum.inr nm) hdX (by rw [LK_len]; exact small1000 (by omega)), ?_⟩
      have hput : putK (LK L) (Sum.inr nm : Key) (V.int v) = LK (L ++ [(nm, v)]) := by
        rw [putK_new _ (by rw [LK_val, lookup_none hnL]; rfl)]
        unfold LK
        rw [List.map_append]
        rfl
      rw [hput]
      refine ⟨⟨_, _, rfl⟩, ?_, ⟨L ++ [(nm, v)], upd_same, ?_, ?_⟩, ?_⟩
      · rw [upd_ne hdq, upd_ne hqu]
        exact P59.keep hq5 hqp
      · rw [List.map_append, hL, List.take_add_one, hn]
        rfl
      · intro x hx
        rcases List.mem_append.mp hx with hx | hx
        · exact hLb x hx
        · rw [List.mem_singleton.mp hx]
          exact ⟨vge, vle⟩
      · exact (((P5.trans P59).new hu9).at hd0)
    · rintro σ H5 ⟨⟨a, b, rfl⟩, hq5, ⟨L, hd5, hL, hLb⟩, P5⟩
      rw [List.length_map, List.take_length] at hL
      have hLl : L.length = l.length := by rw [← hL, List.length_map]
      refine ⟨_, rfl, kk d L H5 hd0 hd5 ⟨by omega, by omega, by rw [hL]; exact hnd, fun x hx => hnm _ (by rw [← hL]; exact List.mem_map_of_mem hx), fun x hx => (hLb x hx).1, fun x hx => (hLb x hx).2⟩ P5⟩
end
end Ash

set_option Elab.async false
set_option linter.all false
set_option maxRecDepth 100000
set_option maxHeartbeats 4000000
namespace Ash
open PySem PySem.Spec PyProof.Rows L2
open C8 (pss_cut)
/-! ### kinds of values -/
def NotInt (K : PySem.W.Frag) (H : Hp) (v : V) : Prop := ∃ t bi bb, TyX K H v t ∧ PySem.W.kitOne K t (.type "int") = some bi ∧ PySem.W.kitOne K t (.type "bool") = some bb ∧ (bi && !bb) = false
def NotStr (K : PySem.W.Frag) (H : Hp) (v : V) : Prop := ∃ t, TyX K H v t ∧ PySem.W.kitOne K t (.type "str") = some false
def NotTup (K : PySem.W.Frag) (H : Hp) (v : V) : Prop := ∃ t, TyX K H v t ∧ PySem.W.kitOne K t (.type "tuple") = some false
def spIsInt (K : PySem.W.Frag) : Sp := fun vs H Q _ => ∃ v, vs = [v] ∧ ((∃ n, v = .int n ∧ Q (.bl true) H) ∨ (NotInt K H v ∧ Q (.bl false) H))
def spIsNat (K : PySem.W.Frag) : Sp := fun vs H Q _ => ∃ v, vs = [v] ∧ ((∃ n, v = .int n ∧ Q (.bl (decide (0 ≤ n))) H) ∨ (NotInt K H v ∧ Q (.bl false) H))
/-- the test of names -/
def nmB (z : Str) : Bool := decide (1 ≤ z.length ∧ z.length ≤ 8) && z.cps.toList.all fun c => decide (c ∈ LET)
theorem nmB_iff (z : Str) : nmB z = true ↔ IsNm z := by
  unfold nmB IsNm
  simp only [Bool.and_eq_true, decide_eq_true_eq, List.all_eq_true]
  exact ⟨fun ⟨⟨a, b⟩, c⟩ => ⟨a, b, c⟩, fun ⟨a, b, c⟩ => ⟨⟨a, b⟩, c⟩⟩
def spIsName (K : PySem.W.Frag) : Sp := fun vs H Q _ => ∃ v, vs = [v] ∧ ((∃ z, v = .str z ∧ z.length ≤ sizeLine ∧ ∀ H', Same H H' → Q (.bl (nmB z)) H') ∨ (NotStr K H v ∧ Q (.bl false) H))
def spAreInts (K : PySem.W.Frag) : Sp := fun vs H Q _ => ∃ (a : Addr) (ns : List Int), vs = [.ref a] ∧ SqT K H a (ns.map V.int) ∧ ns.length ≤ 100 ∧ ∀ H', Same H H' → Q (.bl true) H'
def spIsLate (K : PySem.W.Frag) : Sp := fun vs H Q _ => ∃ n : Int, vs = [.int n] ∧ Q (.bl (decide (0 ≤ n ∧ n ≤ 1000000))) H
def spIsLates (K : PySem.W.Frag) : Sp := fun vs H Q _ => ∃ (d : Addr) (L : List (Str × Int)), vs = [.ref d] ∧ H d = some (.dK (LK L)) ∧ Lates L ∧ ∀ H', Same H H' → Q (.bl true) H'
theorem list_take {α : Type} {l : List α} {i : Nat} {x : α} (h : l[i]? = some x) : l.take (i + 1) = l.take i ++ [x] := by
  rw [List.take_add_one, h]
  rfl
theorem list_lit (l : List Nat) : ∀ i x, l[i]? = some x → l.take (i + 1) = l.take i ++ [x] := fun i x h => by
  rw [List.take_add_one, h]
  rfl
structure Cst (mg : Str → Option Value) : Prop where
  k_LETTERS : ∃ t, mg "LETTERS" = some (.str abc t)
  k_LONGEST_NAME : ∃ t, mg "LONGEST_NAME" = some (.int 8 t)
  k_MOST_STREAMS : ∃ t, mg "MOST_STREAMS" = some (.int 8 t)
  k_MOST_LATE : ∃ t, mg "MOST_LATE" = some (.int 1000000 t)
  k_MOST_ENTRIES : ∃ t, mg "MOST_ENTRIES" = some (.int 400 t)
section
variable {P : Program} {w : World} {K : PySem.W.Frag} {mg : Str → Option Value} {base : Heap}
structure K1 (P : Program) (w : World) (K : PySem.W.Frag) (mg : Str → Option Value) (base : Heap) : Prop where
  is_integer : Cal P w K mg base CX0 "is_integer" 1 ["thing"] (spIsInt K)
abbrev s_is_integer : Stmt := topS 15
theorem sc_is_integer : FnScope ["thing"] ["thing"] (defScope s_is_integer) := ⟨rfl, rfl, rfl, by decide +kernel, rfl, by decide +kernel, by decide +kernel⟩
theorem ok_is_integer {f : Addr} {fd : FuncData} (F : Fun K "is_integer" "is_integer" s_is_integer f fd) (B : Blt mg) : FnOk P w K mg base CX0 1 f fd ["thing"] (spIsInt K) := by
  refine F.ok sc_is_integer (fun vs H Q E h => ?_) (fun cdv A outer s H vs Q E hr h => ?_)
  · obtain ⟨v, rfl, _⟩ := h
    rfl
  · obtain ⟨v, rfl, hv⟩ := h
    refine ⟨_, (pss_one (ps_ret (pe_and (pe_callB call_isi (by rfl) B.isinstance (by decide +kernel) (pa_cons (pv 0) (pa_cons (pe_bltn (v := .ty "int") (by rfl) B.int (by decide +kernel) rfl) pa_nil))) (pe_one (pe_not (pe_callB call_isi (by rfl) B.isinstance (by decide +kernel) (pa_cons (pv 0) (pa_cons (pe_bltn (v := .ty "bool") (by rfl) B.bool (by decide +kernel) rfl) pa_nil)))))))), ?_⟩
    rcases hv with ⟨n, rfl, q⟩ | ⟨⟨t, bi, bb, ty, e1, e2, e3⟩, q⟩
    · refine ⟨_, rfl, _, _, _, _, true, rfl, ClsV.ty _, .base (.int n), kit_ty (by decide +kernel), _, rfl, iteT ?_⟩
      refine ⟨_, rfl, _, _, _, _, false, rfl, ClsV.ty _, .base (.int n), kit_ty (by decide +kernel), _, rfl, q⟩
    · refine ⟨_, rfl, _, _, _, _, bi, rfl, ClsV.ty _, ty, e1, _, rfl, ?_⟩
      cases bi with
      | false => exact iteF q
      | true =>
        refine iteT ⟨_, rfl, _, _, _, _, bb, rfl, ClsV.ty _, ty, e2, _, rfl, ?_⟩
        have e3 : (!bb) = false := e3
        rw [e3]
        exact q
abbrev s_is_natural : Stmt := topS 16
theorem sc_is_natural : FnScope ["thing"] ["thing"] (defScope s_is_natural) := ⟨rfl, rfl, rfl, by decide +kernel, rfl, by decide +kernel, by decide +kernel⟩
theorem ok_is_natural {f : Addr} {fd : FuncData} (F : Fun K "is_natural" "is_natural" s_is_natural f fd) (B : Blt mg) (G : K1 P w K mg base) : FnOk P w K mg base CX0 2 f fd ["thing"] (spIsNat K) := by
  refine F.ok sc_is_natural (fun vs H Q E h => ?_) (fun cdv A outer s H vs Q E hr h => ?_)
  · obtain ⟨v, rfl, _⟩ := h
    rfl
  · obtain ⟨v, rfl, hv⟩ := h
    refine ⟨_, (pss_one (ps_ret (pe_and (pe_cal G.is_integer (hr.mono (by decide)) pass0 (pa_cons (pv 0) pa_nil)) (pe_one (pe_cmpR op_ge (pv 0) pe_int (nomark _)))))), ?_⟩
    rcases hv with ⟨n, rfl, q⟩ | ⟨ni, q⟩
    · exact ⟨_, rfl, _, rfl, .inl ⟨n, rfl, _, rfl, iteT ⟨_, rfl, _, _, rfl, rfl, q⟩⟩⟩
    · exact ⟨_, rfl, _, rfl, .inr ⟨ni, _, rfl, iteF q⟩⟩
abbrev s_is_name : Stmt := topS 17
theorem sc_is_name : FnScope ["thing", "letter"] ["thing"] (defScope s_is_name) := ⟨rfl, rfl, rfl, by decide +kernel, rfl, by decide +kernel, by decide +kernel⟩
theorem ok_is_name {f : Addr} {fd : FuncData} (F : Fun K "is_name" "is_name" s_is_name f fd) (B : Blt mg) (Cs : Cst mg) : FnOk P w K mg base CX0 1 f fd ["thing"] (spIsName K) := by
  obtain ⟨t1, g_LETTERS⟩ := Cs.k_LETTERS
  obtain ⟨t2, g_LONGEST_NAME⟩ := Cs.k_LONGEST_NAME
  refine F.ok sc_is_name (fun vs H Q E h => ?_) (fun cdv A outer s H vs Q E hr h => ?_)
  · obtain ⟨v, rfl, _⟩ := h
    rfl
  · obtain ⟨v, rfl, hv⟩ := h
    refine ⟨_, (pss_cons (ps_if (PW.pt (pw_or (pt_not (pt_val (pe_callB call_isi (by rfl) B.isinstance (by decide +kernel) (pa_cons (pv 0) (pa_cons (pe_bltn (v := .ty "str") (by rfl) B.str (by decide +kernel) rfl) pa_nil))))) (pw_or1 (pt_not (pt_chain op_le op_le pe_int (pe_callB call_len_str (by rfl) B.len (by decide +kernel) (pa_cons (pv 0) pa_nil)) (pe_glob (v := .int 8) (by rfl) g_LONGEST_NAME ⟨_, rfl⟩))))))
      (pss_one (ps_ret pe_bl))
      pss_nil)
    (pss_one (ps_ret (pe_callB (cr_all rfl) (by rfl) B.all (by decide +kernel) (pa_cons (pe_lc (own := [("letter", 1)]) (g := gName 1) (tt := tYes) (by rfl) sc_is_name.nd (pi_str (pv 0)) (blkOk_by (own := [("letter", 1)]) (N := ["thing", "letter"]) (sc := defScope s_is_name) (by decide +kernel)) (fun _ _ _ _ _ => (pg_name (i := 1) sc_is_name.nd rfl (Or.inl rfl))) (fun _ _ _ _ _ => pts_nil) (fun _ _ _ _ _ => (pe_cmpR op_in_sign (pv 1) (pe_glob (v := .str "abcdefghijklmnopqrstuvwxyz") (by rfl) g_LETTERS ⟨_, rfl⟩) rfl))) pa_nil))))), ?_⟩
    rcases hv with ⟨z, rfl, hz, q⟩ | ⟨⟨t, ty, e1⟩, q⟩
    · refine ⟨_, rfl, _, _, _, _, true, rfl, ClsV.ty _, .base (.str z), kit_ty (by decide +kernel), _, rfl, iteF ?_⟩
      refine ⟨_, rfl, _, rfl, hz, _, _, rfl, rfl, _, rfl, ?_⟩
      refine ite2 (fun c1 => ?_) (fun c1 => ?_)
      · have c1 : (1 : Int) ≤ z.length := of_decide_eq_true c1
        refine ⟨_, _, rfl, rfl, _, rfl, ?_⟩
        by_cases c8 : (z.length : Int) ≤ 8
        · refine iteNS c8 ?_
          refine ⟨_, rfl, z, rfl, fun D hD => lc_it (walk_str (z := z)) (fun i H1 => H1 D = some (.lst (((z.cps.toList.take i).map fun c => decide (c ∈ LET)).map V.bl)) ∧ Same H H1) ⟨upd_same, sameAt (Same.refl H) hD⟩ (fun _ _ _ _ => trivial) ?_ ?_⟩
          · rintro i x H1 H2 hi ⟨hD1, hs⟩ ⟨rfl, c, hc, rfl⟩
            have hc' : z.cps.toList[i]? = some c := by rw [Array.getElem?_toList]; exact hc
            have hlen : (z.cps.toList.take i).length ≤ 8 := by
              have : i < z.length := hi
              rw [List.length_take]
              omega
            refine ⟨rfl, _, rfl, c, abc, rfl, rfl, _, hD1, (by rw [List.length_map, List.length_map]; exact small1000 (by omega)), ?_, sameAt hs hD⟩
            rw [upd_same, list_lit _ _ _ hc', abc_let, List.map_append, List.map_append]
            rfl
          · rintro H1 ⟨hD1, hs⟩
            have e : z.cps.toList.take z.cps.size = z.cps.toList := by rw [← Array.length_toList, List.take_length]
            rw [e] at hD1
            refine ⟨D, _, rfl, SqL.of hD1, ?_⟩
            have e2 : ((z.cps.toList.map fun c => decide (c ∈ LET)).all id) = nmB z := by
              unfold nmB
              rw [decide_eq_true (show 1 ≤ z.length ∧ z.length ≤ 8 by omega), Bool.true_and, List.all_map]
              rfl
            rw [e2]
            exact q _ hs
        · rw [decide_eq_false c8]
          refine iteT ?_
          have e2 : nmB z = false := by
            unfold nmB
            rw [decide_eq_false (show ¬ (1 ≤ z.length ∧ z.length ≤ 8) by omega), Bool.false_and]
          have := q H (Same.refl H)
          rw [e2] at this
          exact this
      · have c1 : ¬ (1 : Int) ≤ z.length := by simpa using c1
        refine ⟨_, rfl, iteT ?_⟩
        have e2 : nmB z = false := by
          unfold nmB
          rw [decide_eq_false (show ¬ (1 ≤ z.length ∧ z.length ≤ 8) by omega), Bool.false_and]
        have := q H (Same.refl H)
        rw [e2] at this
        exact this
    · refine ⟨_, rfl, _, _, _, _, false, rfl, ClsV.ty _, ty, e1, _, rfl, iteT q⟩
structure K2 (P : Program) (w : World) (K : PySem.W.Frag) (mg : Str → Option Value) (base : Heap) : Prop extends K1 P w K mg base where
  is_natural : Cal P w K mg base CX0 "is_natural" 2 ["thing"] (spIsNat K)
  is_name : Cal P w K mg base CX0 "is_name" 1 ["thing"] (spIsName K)
abbrev s_are_integers : Stmt := topS 19
theorem sc_are_integers : FnScope ["things", "thing"] ["things"] (defScope s_are_integers) := ⟨rfl, rfl, rfl, by decide +kernel, rfl, by decide +kernel, by decide +kernel⟩
theorem ok_are_integers {f : Addr} {fd : FuncData} (F : Fun K "are_integers" "are_integers" s_are_integers f fd) (B : Blt mg) (G : K2 P w K mg base) : FnOk P w K mg base CX0 2 f fd ["things"] (spAreInts K) := by
  refine F.ok sc_are_integers (fun vs H Q E h => ?_) (fun cdv A outer s H vs Q E hr h => ?_)
  · obtain ⟨a, ns, rfl, _⟩ := h
    rfl
  · obtain ⟨a, ns, rfl, hS, hn, q⟩ := h
    refine ⟨_, (pss_one (ps_ret (pe_callB (cr_all rfl) (by rfl) B.all (by decide +kernel) (pa_cons (pe_lc (own := [("thing", 1)]) (g := gName 1) (tt := tYes) (by rfl) sc_are_integers.nd (pi_tup (pv 0)) (blkOk_by (own := [("thing", 1)]) (N := ["things", "thing"]) (sc := defScope s_are_integers) (by decide +kernel)) (fun _ _ _ _ _ => (pg_name (i := 1) sc_are_integers.nd rfl (Or.inl rfl))) (fun _ _ _ _ _ => pts_nil) (fun _ _ _ _ _ => (pe_cal G.is_integer (hr.mono (by decide)) pass0 (pa_cons (pv 1) pa_nil)))) pa_nil)))), ?_⟩
    refine ⟨_, rfl, a, rfl, ⟨_, hS⟩, fun D hD => lc_it (walk_tup (xs := ns.map V.int)) (fun i H1 => H1 D = some (.lst ((List.replicate i true).map V.bl)) ∧ Same H H1) ⟨upd_same, sameAt (Same.refl H) hD⟩ (fun i H1 _ hv => ?_) ?_ ?_⟩
    · rcases hS with (h | ⟨o, h⟩) | h
      · exact .inl (.inl (hv.2 _ _ h))
      · exact .inl (.inr ⟨o, hv.2 _ _ h⟩)
      · exact .inr h
    · rintro i x H1 H2 hi ⟨hD1, hs⟩ ⟨rfl, hx⟩
      obtain ⟨z, rfl⟩ : ∃ z, x = V.int z := by
        rw [List.getElem?_map] at hx
        cases e : ns[i]? with
        | none => rw [e] at hx; cases hx
        | some z => rw [e] at hx; exact ⟨z, (Option.some.inj hx).symm⟩
      rw [List.length_map] at hi
      refine ⟨rfl, _, rfl, _, rfl, .inl ⟨z, rfl, _, hD1, (by rw [List.length_map, List.length_replicate]; exact small1000 (by omega)), ?_, sameAt hs hD⟩⟩
      rw [upd_same, List.replicate_succ', List.map_append]
      rfl
    · rintro H1 ⟨hD1, hs⟩
      refine ⟨D, _, rfl, SqL.of hD1, ?_⟩
      rw [List.length_map] at hD1 ⊢
      have e2 : ((List.replicate ns.length true).all id) = true := by simp
      rw [e2]
      exact q _ hs
abbrev s_is_late : Stmt := topS 25
theorem sc_is_late : FnScope ["thing"] ["thing"] (defScope s_is_late) := ⟨rfl, rfl, rfl, by decide +kernel, rfl, by decide +kernel, by decide +kernel⟩
theorem ok_is_late {f : Addr} {fd : FuncData} (F : Fun K "is_late" "is_late" s_is_late f fd) (B : Blt mg) (Cs : Cst mg) (G : K2 P w K mg base) : FnOk P w K mg base CX0 2 f fd ["thing"] (spIsLate K) := by
  obtain ⟨t1, g_MOST_LATE⟩ := Cs.k_MOST_LATE
  refine F.ok sc_is_late (fun vs H Q E h => ?_) (fun cdv A outer s H vs Q E hr h => ?_)
  · obtain ⟨n, rfl, _⟩ := h
    rfl
  · obtain ⟨n, rfl, q⟩ := h
    refine ⟨_, (pss_one (ps_ret (pe_and (pe_cal G.is_integer (hr.mono (by decide)) pass0 (pa_cons (pv 0) pa_nil)) (pe_one (pe_chain op_le op_le pe_int (pv 0) (pe_glob (v := .int 1000000) (by rfl) g_MOST_LATE ⟨_, rfl⟩)))))), ?_⟩
    refine ⟨_, rfl, _, rfl, .inl ⟨n, rfl, _, rfl, iteT ⟨_, rfl, _, _, rfl, rfl, _, rfl, ?_⟩⟩⟩
    refine ite2 (fun c1 => ?_) (fun c1 => ?_)
    · have c1 : 0 ≤ n := of_decide_eq_true c1
      refine ⟨_, _, rfl, rfl, ?_⟩
      have e : decide (0 ≤ n ∧ n ≤ 1000000) = decide (n ≤ 1000000) := by simp [c1]
      rw [e] at q
      exact q
    · have c1 : ¬ 0 ≤ n := by simpa using c1
      have e : decide (0 ≤ n ∧ n ≤ 1000000) = false := by simp [c1]
      rw [e] at q
      exact q
structure K3 (P : Program) (w : World) (K : PySem.W.Frag) (mg : Str → Option Value) (base : Heap) : Prop extends K2 P w K mg base where
  are_integers : Cal P w K mg base CX0 "are_integers" 2 ["things"] (spAreInts K)
  is_late : Cal P w K mg base CX0 "is_late" 2 ["thing"] (spIsLate K)
abbrev s_is_lates : Stmt := topS 24
theorem sc_is_lates : FnScope ["thing", "stream", "late"] ["thing"] (defScope s_is_lates) := ⟨rfl, rfl, rfl, by decide +kernel, rfl, by decide +kernel, by decide +kernel⟩
theorem ok_is_lates {f : Addr} {fd : FuncData} (F : Fun K "is_lates" "is_lates" s_is_lates f fd) (B : Blt mg) (Cs : Cst mg) (G : K3 P w K mg base) : FnOk P w K mg base CX0 3 f fd ["thing"] (spIsLates K) := by
  obtain ⟨t1, g_MOST_STREAMS⟩ := Cs.k_MOST_STREAMS
  refine F.ok sc_is_lates (fun vs H Q E h => ?_) (fun cdv A outer s H vs Q E hr h => ?_)
  · obtain ⟨d, L, rfl, _⟩ := h
    rfl
  · obtain ⟨d, L, rfl, hd, LL, q⟩ := h
    refine ⟨_, (pss_cons (ps_if (PW.pt (pw_or (pt_not (pt_val (pe_callB call_isi (by rfl) B.isinstance (by decide +kernel) (pa_cons (pv 0) (pa_cons (pe_bltn (v := .ty "dict") (by rfl) B.dict (by decide +kernel) rfl) pa_nil))))) (pw_or1 (pt_not (pt_chain op_le op_le pe_int (pe_callB call_lenD (by rfl) B.len (by decide +kernel) (pa_cons (pv 0) pa_nil)) (pe_glob (v := .int 8) (by rfl) g_MOST_STREAMS ⟨_, rfl⟩))))))
      (pss_one (ps_ret pe_bl))
      pss_nil)
    (pss_one (ps_ret (pe_callB (cr_all rfl) (by rfl) B.all (by decide +kernel) (pa_cons (pe_lock (pe_lc (own := [("stream", 1), ("late", 2)]) (g := gTup K 2 (gCons (gName 1) (gCons (gName 2) gNil))) (tt := tYes) (by rfl) sc_is_lates.nd (pi_items (pv 0)) (blkOk_by (own := [("stream", 1), ("late", 2)]) (N := ["thing", "stream", "late"]) (sc := defScope s_is_lates) (by decide +kernel)) (fun _ _ _ _ _ => (pg_tup (by rfl) (pgs_cons (pg_name (i := 1) sc_is_lates.nd rfl (Or.inl rfl)) (pgs_cons (pg_name (i := 2) sc_is_lates.nd rfl (Or.inl rfl)) pgs_nil)))) (fun _ _ _ _ _ => pts_nil) (fun _ _ _ _ _ => (pe_and (pe_cal G.is_name (hr.mono (by decide)) pass0 (pa_cons (pv 1) pa_nil)) (pe_one (pe_cal G.is_late (hr.mono (by decide)) pass0 (pa_cons (pv 2) pa_nil))))))) pa_nil))))), ?_⟩
    refine ⟨_, rfl, _, _, _, _, true, rfl, ClsV.ty _, .base (.dK hd), kit_ty (by decide +kernel), _, rfl, iteF ?_⟩
    refine ⟨_, rfl, d, _, rfl, hd, _, _, rfl, rfl, _, rfl, ?_⟩
    rw [LK_len]
    have l1 := LL.some_
    have l2 := LL.few
    rw [decide_eq_true (show (1 : Int) ≤ (L.length : Int) by omega)]
    refine iteT ⟨_, _, rfl, rfl, _, rfl, iteNS (by omega) ?_⟩
    refine ⟨d, _, hd, trivial, fun od => ?_⟩
    have hDd : ∀ {D : Addr}, (upd H d (.frz od (.dK (LK L)))) D = none → D ≠ d := fun h z => by rw [z, upd_same] at h; cases h
    refine ⟨_, rfl, d, od, _, rfl, upd_same, fun D hD => lc_it (walk_items (kvs := LK L)) (fun i H1 => H1 D = some (.lst ((List.replicate i true).map V.bl)) ∧ Same (upd H d (.frz od (.dK (LK L)))) H1) ⟨upd_same, sameAt (Same.refl _) hD⟩ (fun i H1 _ hv => hv.2 _ _ upd_same) ?_ ?_⟩
    · rintro i x H1 H2 hi ⟨hD1, hs⟩ ⟨T, x1, x2, rfl, hT, rfl, h1, h2⟩
      rw [LK_len] at hi
      have hx : (LK L)[i]? = some (Sum.inr L[i].1, V.int L[i].2) := by
        unfold LK
        rw [List.getElem?_map, List.getElem?_eq_getElem hi]
        rfl
      simp only [hx, Option.map_some] at h1 h2
      cases h1
      cases h2
      have hm : L[i] ∈ L := List.getElem_mem hi
      have hDT : D ≠ T := fun z => by rw [← z, hD1] at hT; cases hT
      have nmz : nmB L[i].1 = true := (nmB_iff _).mpr (LL.nm _ hm)
      have lz : decide (0 ≤ L[i].2 ∧ L[i].2 ≤ 1000000) = true := decide_eq_true ⟨LL.lo _ hm, LL.hi _ hm⟩
      refine ⟨T, _, rfl, SqT.of upd_same, rfl, _, _, rfl, _, _, rfl, rfl, rfl, ?_⟩
      refine ⟨_, rfl, _, rfl, .inl ⟨L[i].1, rfl, (by have := (LL.nm _ hm).2.1; rw [sizeLine_eq]; omega), fun H3 s3 => ⟨_, rfl, ?_⟩⟩⟩
      rw [nmz]
      refine iteT ⟨_, rfl, L[i].2, rfl, ?_⟩
      rw [lz]
      refine ⟨_, s3 _ _ (by rw [upd_ne hDT]; exact hD1), (by rw [List.length_map, List.length_replicate]; exact small1000 (by omega)), ?_, fun b o hb => ?_⟩
      · rw [upd_same, List.replicate_succ', List.map_append]
        rfl
      · rw [upd_ne (ne_of_none hb hD)]
        refine s3 _ _ ?_
        rw [upd_ne (ne_of_none (hs _ _ hb) hT)]
        exact hs _ _ hb
    · rintro H1 ⟨hD1, hs⟩
      refine ⟨hs _ _ upd_same, D, _, rfl, SqL.of (by rw [upd_ne (hDd hD)]; exact hD1), ?_⟩
      have e2 : ((List.replicate (LK L).length true).all id) = true := by simp
      rw [e2]
      refine q _ fun b o hb => ?_
      by_cases e : b = d
      · rw [e, hd] at hb
        cases hb
        rw [e, upd_same]
      · rw [upd_ne e]
        exact hs _ _ (by rw [upd_ne e]; exact hb)
end
end Ash

set_option Elab.async false
set_option linter.all false
set_option maxRecDepth 100000
set_option maxHeartbeats 4000000
namespace Ash
open PySem PySem.Spec PyProof.Rows L2
open C8 (pss_cut)
/-! ### books -/
def BookAt (CB : Addr) (H : Hp) (b : Addr) (L : List (Str × Int)) : Prop := ∃ dx d L', H b = some (.ins CB dx [("_lates", .ref d)]) ∧ H d = some (.dK (LK L')) ∧ (∀ z, L'.lookup z = L.lookup z) ∧ (L'.map (·.1)).Nodup
theorem BookAt.same {CB : Addr} {H H' : Hp} {b : Addr} {L : List (Str × Int)} (h : BookAt CB H b L) (s : Same H H') : BookAt CB H' b L := by
  obtain ⟨dx, d, L', h1, h2, h3⟩ := h
  exact ⟨dx, d, L', s _ _ h1, s _ _ h2, h3⟩
theorem BookAt.pl {CB : Addr} {H H' : Hp} {b p s : Addr} {L : List (Str × Int)} (h : BookAt CB H b L) (P0 : PoolAt H p s) (P : Pl H H' p s) : BookAt CB H' b L := by
  obtain ⟨dx, d, L', h1, h2, h3⟩ := h
  obtain ⟨ns, i, c, k, n, hp, _⟩ := P0
  exact ⟨dx, d, L', P.keep h1 (ne_of h1 hp (by intro z; cases z)), P.keep h2 (ne_of h2 hp (by intro z; cases z)), h3⟩
theorem lookup_perm {L : List (Str × Int)} (hn : (L.map (·.1)).Nodup) {ys : List Str} (hp : ys.Perm (L.map (·.1))) (f : Str → Int) (hf : ∀ x ∈ L, f x.1 = x.2) (z : Str) : (ys.map fun y => (y, f y)).lookup z = L.lookup z := by
  by_cases hz : z ∈ L.map (·.1)
  · have hy : z ∈ ys := hp.mem_iff.mpr hz
    have a1 : ∀ (l : List Str), z ∈ l → (l.map fun y => (y, f y)).lookup z = some (f z) := fun l => by
      induction l with
      | nil => intro h; cases h
      | cons a l ih =>
        intro h
        by_cases e : z = a
        · subst e
          simp [List.lookup]
        · have h' : (z == a) = false := by simpa using e
          show List.lookup z ((a, f a) :: l.map fun y => (y, f y)) = _
          simp only [List.lookup, h']
          exact ih ((List.mem_cons.mp h).resolve_left e)
    have a2 : ∀ (l : List (Str × Int)), (∀ x ∈ l, f x.1 = x.2) → z ∈ l.map (·.1) → l.lookup z = some (f z) := fun l => by
      induction l with
      | nil => intro _ h; cases h
      | cons a l ih =>
        intro hf h
        obtain ⟨a1, a2⟩ := a
        by_cases e : z = a1
        · subst e
          have := hf _ List.mem_cons_self
          simp only [List.lookup, beq_self_eq_true]
          exact congrArg some this.symm
        · have h' : (z == a1) = false := by simpa using e
          simp only [List.lookup, h']
          exact ih (fun x hx => hf x (List.mem_cons_of_mem _ hx)) ((List.mem_cons.mp h).resolve_left e)
    rw [a1 ys hy, a2 L hf hz]
  · rw [lookup_none hz, lookup_none (L := ys.map fun y => (y, f y))]
    rw [List.map_map]
    show z ∉ ys.map fun y => y
    rw [List.map_id']
    exact fun h => hz (hp.mem_iff.mp h)
theorem lookup_mem : ∀ {L : List (Str × Int)} {x : Str × Int}, (L.map (·.1)).Nodup → x ∈ L → L.lookup x.1 = some x.2
  | [], x, _, h => nomatch h
  | (a1, a2) :: L, x, hn, h => by
    obtain ⟨h1, h2⟩ := List.nodup_cons.mp (show (a1 :: L.map (·.1)).Nodup from hn)
    rcases List.mem_cons.mp h with rfl | h
    · simp [List.lookup]
    · have e : ¬ x.1 = a1 := fun z => h1 (by rw [← z]; exact List.mem_map_of_mem h)
      have h' : (x.1 == a1) = false := by simpa using e
      simp only [List.lookup, h']
      exact lookup_mem h2 h
def spBookInit (CB : Addr) : Sp := fun vs H Q _ => ∃ (b dx d : Addr) (L : List (Str × Int)), vs = [.ref b, .ref d] ∧ H b = some (.ins CB dx []) ∧ H d = some (.dK (LK L)) ∧ Lates L ∧
  ∀ H', BookAt CB H' b L → (∀ c o, H c = some o → c ≠ b → H' c = some o) → Q .non H'
/-- has(stream) of a text -/
def spHas (CB : Addr) : Sp := fun vs H Q _ => ∃ (b : Addr) (L : List (Str × Int)) (z : Str), vs = [.ref b, .str z] ∧ BookAt CB H b L ∧ IsNm z ∧ ∀ H', Same H H' → Q (.bl (L.lookup z).isSome) H'
def spLate (CB : Addr) : Sp := fun vs H Q _ => ∃ (b : Addr) (L : List (Str × Int)) (z : Str) (n : Int), vs = [.ref b, .str z] ∧ BookAt CB H b L ∧ IsNm z ∧ L.lookup z = some n ∧ ∀ H', Same H H' → Q (.int n) H'
structure Cb (K : PySem.W.Frag) (mg : Str → Option Value) (CB : Addr) : Prop where
  cl : Cls K CB
  nL : NoAttr K CB "_lates"
  c : mg "Book" = some (.ref CB)
section
variable {P : Program} {w : World} {K : PySem.W.Frag} {mg : Str → Option Value} {base : Heap}
structure K4 (P : Program) (w : World) (K : PySem.W.Frag) (mg : Str → Option Value) (base : Heap) : Prop extends K3 P w K mg base where
  is_lates : Cal P w K mg base CX0 "is_lates" 3 ["thing"] (spIsLates K)
abbrev s_Book_init : Stmt := inClass (topS 23) 0
theorem sc_Book_init : FnScope ["self", "lates", "stream"] ["self", "lates"] (defScope s_Book_init) := ⟨rfl, rfl, rfl, by decide +kernel, rfl, by decide +kernel, by decide +kernel⟩
theorem ok_book_init {f CB : Addr} {fd : FuncData} (F : Fun K "__init__" "Book.__init__" s_Book_init f fd) (B : Blt mg) (T : Cb K mg CB) (G : K4 P w K mg base) : FnOk P w K mg base CX0 4 f fd ["self", "lates"] (spBookInit CB) := by
  refine F.ok sc_Book_init (fun vs H Q E h => ?_) (fun cdv A outer s H vs Q E hr h => ?_)
  · obtain ⟨b, dx, d, L, rfl, _⟩ := h
    rfl
  · obtain ⟨b, dx, d, L, rfl, hb, hd, LL, q⟩ := h
    have hu := hu_of hr
    refine ⟨_, (pss_cons (ps_if (pt_not (pt_val (pe_cal G.is_lates (hr.mono (by decide)) pass0 (pa_cons (pv 1) pa_nil))))
      (pss_one ps_never)
      pss_nil)
    (pss_one (ps_fld (pv 0) (pe_dc (own := [("stream", 2)]) (g := gName 2) (tt := tYes) (by rfl) sc_Book_init.nd (pi_list (pe_callB cr_sortedS (by rfl) B.sorted (by decide +kernel) (pa_cons (pe_callTy (call_listD (by rfl)) (by rfl) B.list (by decide +kernel) (pa_cons (pv 1) pa_nil)) pa_nil))) (blkOk_by (own := [("stream", 2)]) (N := ["self", "lates", "stream"]) (sc := defScope s_Book_init) (by decide +kernel)) (fun _ _ _ _ _ => (pg_name (i := 2) sc_Book_init.nd rfl (Or.inl rfl))) (fun _ _ _ _ _ => pts_nil) (fun _ _ _ _ _ => (pv 2)) (fun _ _ _ _ _ => (pe_dget hu (pv 1) (pv 2) (fun _ _ => rfl)))) rfl))), ?_⟩
    refine ⟨_, rfl, d, L, rfl, hd, LL, fun H1 s1 => ⟨_, rfl, iteF ?_⟩⟩
    refine ⟨_, rfl, d, _, rfl, .of (s1 _ _ hd), fun l hl => ?_⟩
    have e1 : (LK L).map (fun kv => kV kv.1) = (L.map (·.1)).map V.str := by
      unfold LK
      rw [List.map_map, List.map_map]
      rfl
    rw [e1]
    have l8 := LL.few
    refine ⟨l, _, rfl, SqL.of upd_same, (by rw [List.length_map]; omega), fun ys q1 hperm hsort hq1 => ?_⟩
    have hln : l ≠ q1 := fun z => by rw [← z, upd_same] at hq1; cases hq1
    have s2 : Same H (upd (upd H1 l (.lst ((L.map (·.1)).map V.str))) q1 (.lst (ys.map V.str))) := (s1.trans (sameAt (Same.refl H1) hl)).trans (sameAt (Same.refl _) hq1)
    have hlenY : ys.length ≤ 8 := by rw [hperm.length_eq, List.length_map]; exact l8
    have fOf : ∀ z, z ∈ L.map (·.1) → L.lookup z = some ((L.lookup z).getD 0) := fun z hz => by
      obtain ⟨x, hx, rfl⟩ := List.mem_map.mp hz
      rw [lookup_mem LL.nd hx]
      rfl
    refine ⟨q1, rfl, ⟨_, SqL.of upd_same⟩, fun D hD => dc_it (walk_list (xs := ys.map V.str)) (fun i H3 => H3 D = some (.dK (LK ((ys.take i).map fun y => (y, (L.lookup y).getD 0)))) ∧ Same (upd (upd H1 l (.lst ((L.map (·.1)).map V.str))) q1 (.lst (ys.map V.str))) H3) ⟨upd_same, sameAt (Same.refl _) hD⟩ (fun i H3 _ hv => SqL.of (hv.2 _ _ upd_same)) ?_ ?_⟩
    · rintro i x H3 H4 hi ⟨hD3, s3⟩ ⟨rfl, hx⟩
      obtain ⟨z, hz, rfl⟩ : ∃ z, ys[i]? = some z ∧ x = V.str z := by
        rw [List.getElem?_map] at hx
        cases e : ys[i]? with
        | none => rw [e] at hx; cases hx
        | some z => rw [e] at hx; exact ⟨z, rfl, (Option.some.inj hx).symm⟩
      have hzL : z ∈ L.map (·.1) := hperm.mem_iff.mp (List.mem_of_getElem? hz)
      have hd3 : H4 d = some (.dK (LK L)) := s3 _ _ (s2 _ _ hd)
      have hyn : ys.Nodup := hperm.symm.nodup LL.nd
      rw [List.length_map] at hi
      have hg := DGet.k (k := Sum.inr z) hd3
      rw [LK_val, fOf z hzL, Option.map_some] at hg
      refine ⟨rfl, _, rfl, _, rfl, _, rfl, d, _, rfl, hg, _, Sum.inr z, rfl, hD3, (by rw [LK_len, List.length_map, List.length_take]; exact small1000 (by omega)), ?_, sameAt s3 hD⟩
      rw [upd_same, putK_new]
      · rw [list_take hz, List.map_append]
        unfold LK
        rw [List.map_append]
        rfl
      · rw [LK_val, lookup_none]
        · rfl
        · rw [List.map_map]
          show z ∉ (ys.take i).map fun y => y
          rw [List.map_id']
          intro hm
          obtain ⟨j, hj, e⟩ := List.getElem_of_mem hm
          rw [List.length_take] at hj
          rw [List.getElem_take] at e
          have := nd_ix hyn (List.getElem?_eq_some_iff.mpr ⟨by omega, e⟩) hz
          omega
    · rintro H3 ⟨hD3, s3⟩
      rw [List.length_map, List.take_length] at hD3
      have hb3 : H3 b = some (.ins CB dx []) := s3 _ _ (s2 _ _ hb)
      have hbD : D ≠ b := fun z => by rw [z] at hD; exact absurd (s2 _ _ hb) (by rw [hD]; simp)
      refine ⟨_, rfl, b, CB, dx, [], rfl, hb3, T.cl, T.nL, (by show 0 < 1000; decide), ?_⟩
      refine q _ ⟨dx, D, _, upd_same, (by rw [upd_ne hbD]; exact hD3), fun z => ?_, ?_⟩ fun c o hc hn => ?_
      · exact lookup_perm LL.nd hperm _ (fun x hx => by rw [lookup_mem LL.nd hx]; rfl) z
      · rw [List.map_map]
        show (ys.map fun y => y).Nodup
        rw [List.map_id']
        exact hperm.symm.nodup LL.nd
      · rw [upd_ne hn]
        exact s3 _ _ (s2 _ _ hc)
abbrev s_Book_has : Stmt := inClass (topS 23) 3
theorem sc_Book_has : FnScope ["self", "stream"] ["self", "stream"] (defScope s_Book_has) := ⟨rfl, rfl, rfl, by decide +kernel, rfl, by decide +kernel, by decide +kernel⟩
theorem ok_book_has {f CB : Addr} {fd : FuncData} (F : Fun K "has" "Book.has" s_Book_has f fd) (B : Blt mg) (T : Cb K mg CB) (G : K4 P w K mg base) : FnOk P w K mg base CX0 2 f fd ["self", "stream"] (spHas CB) := by
  refine F.ok sc_Book_has (fun vs H Q E h => ?_) (fun cdv A outer s H vs Q E hr h => ?_)
  · obtain ⟨b, L, z, rfl, _⟩ := h
    rfl
  · obtain ⟨b, L, z, rfl, hB, hz, q⟩ := h
    have hu := hu_of hr
    refine ⟨_, (pss_one (ps_ret (pe_and (pe_cal G.is_name (hr.mono (by decide)) pass0 (pa_cons (pv 1) pa_nil)) (pe_one (pe_cmp (pc_din hu (pv 1) (pe_fld (pv 0) rfl)) rfl))))), ?_⟩
    refine ⟨_, rfl, _, rfl, .inl ⟨z, rfl, (by have := hz.2.1; rw [sizeLine_eq]; omega), fun H1 s1 => ⟨_, rfl, ?_⟩⟩⟩
    rw [(nmB_iff z).mpr hz]
    obtain ⟨dx, d, L', h1, h2, h3, _⟩ := hB.same s1
    refine iteT ⟨_, rfl, _, rfl, b, CB, dx, _, _, rfl, h1, T.cl, T.nL, rfl, d, _, rfl, DGet.k (k := Sum.inr z) h2, ?_⟩
    have e : (valV (LK L') (Sum.inr z : Key)).isSome = (L.lookup z).isSome := by rw [LK_val, Option.isSome_map, h3]
    rw [e]
    exact q H1 s1
abbrev s_Book_late : Stmt := inClass (topS 23) 4
theorem sc_Book_late : FnScope ["self", "stream"] ["self", "stream"] (defScope s_Book_late) := ⟨rfl, rfl, rfl, by decide +kernel, rfl, by decide +kernel, by decide +kernel⟩
theorem ok_book_late {f fh CB : Addr} {fd fdh : FuncData} (F : Fun K "late" "Book.late" s_Book_late f fd) (B : Blt mg) (T : Cb K mg CB) (M_has : Meth K CB "has" fh) (b_has : Binds K fdh ["self", "stream"] []) (F_has : FnOk P w K mg base CX0 2 fh fdh ["self", "stream"] (spHas CB)) : FnOk P w K mg base CX0 3 f fd ["self", "stream"] (spLate CB) := by
  refine F.ok sc_Book_late (fun vs H Q E h => ?_) (fun cdv A outer s H vs Q E hr h => ?_)
  · obtain ⟨b, L, z, n, rfl, _⟩ := h
    rfl
  · obtain ⟨b, L, z, n, rfl, hB, hz, hn, q⟩ := h
    have hu := hu_of hr
    refine ⟨_, (pss_cons (ps_if (pt_not (pt_val (pe_meth (pv 0) T.cl M_has F_has (hr.mono (by decide)) b_has .nil pass0 (pa_cons (pv 1) pa_nil))))
      (pss_one ps_never)
      pss_nil)
    (pss_one (ps_ret (pe_dget hu (pe_fld (pv 0) rfl) (pv 1) (fun _ _ => rfl))))), ?_⟩
    obtain ⟨dx, d, L', h1, h2, h3, _⟩ := id hB
    refine ⟨_, rfl, b, dx, _, rfl, h1, rfl, _, rfl, b, L, z, rfl, hB, hz, fun H1 s1 => ⟨_, rfl, ?_⟩⟩
    rw [hn]
    refine iteF ?_
    have hg := DGet.k (k := Sum.inr z) (s1 _ _ h2)
    rw [LK_val, h3, hn] at hg
    exact ⟨_, rfl, b, CB, dx, _, _, rfl, s1 _ _ h1, T.cl, T.nL, rfl, _, rfl, d, _, rfl, hg, q H1 s1⟩
end
end Ash

set_option Elab.async false
set_option linter.all false
set_option maxRecDepth 100000
set_option maxHeartbeats 4000000
namespace Ash
open PySem PySem.Spec PyProof.Rows L2
open C8 (pss_cut)
/-! ### entries -/
inductive Ent where
  | row (id : Int) (s k : Str) (m a r : Int)
  | fix (id m a r : Int)
  | gone (id r : Int)
  deriving DecidableEq
def Ent.vs : Ent → List V
  | .row id s k m a r => [.str "row", .int id, .str s, .str k, .int m, .int a, .int r]
  | .fix id m a r => [.str "fix", .int id, .int m, .int a, .int r]
  | .gone id r => [.str "gone", .int id, .int r]
def Ent.id : Ent → Int
  | .row id _ _ _ _ _ => id
  | .fix id _ _ _ => id
  | .gone id _ => id
def Ent.arr : Ent → Int
  | .row _ _ _ _ _ r => r
  | .fix _ _ _ r => r
  | .gone _ r => r
def Ent.ok (x : Ent) : Prop := 0 ≤ x.id ∧ ∀ id s k m a r, x = .row id s k m a r → IsNm s ∧ IsNm k
def EntAt (H : Hp) (e : Addr) (x : Ent) : Prop := H e = some (.tup x.vs)
/-- what is known of a row: taken back, or what it is -/
inductive RowSt where
  | tb
  | at_ (s k : Str) (m a : Int)
def RowV (aT : Addr) (H : Hp) : Option V → Option RowSt → Prop
  | none, none => True
  | some v, some .tb => v = .ref aT
  | some v, some (.at_ s k m a) => ∃ t, v = .ref t ∧ H t = some (.tup [.str s, .str k, .int m, .int a])
  | _, _ => False
theorem RowV.same {aT : Addr} {H H' : Hp} {v : Option V} {o : Option RowSt} (h : RowV aT H v o) (s : Same H H') : RowV aT H' v o := by
  cases v with
  | none => cases o <;> exact h
  | some v =>
    cases o with
    | none => exact h
    | some o =>
      cases o with
      | tb => exact h
      | at_ z k m a =>
        obtain ⟨t, e, h⟩ := h
        exact ⟨t, e, s _ _ h⟩
/-- what an entry makes of its row -/
def behind (L : List (Str × Int)) : Ent → Option RowSt → Option RowSt
  | .row _ s k m a r, none => (L.lookup s).bind fun l => if m ≤ r ∧ r ≤ m + l then some (.at_ s k m a) else none
  | .fix _ m a r, some (.at_ s k m0 _) => (L.lookup s).bind fun l => if r ≤ m0 + l ∧ m ≤ r ∧ r ≤ m + l then some (.at_ s k m a) else none
  | .gone _ r, some (.at_ s _ m0 _) => (L.lookup s).bind fun l => if r ≤ m0 + l then some .tb else none
  | _, _ => none
def spIsEntry (K : PySem.W.Frag) : Sp := fun vs H Q _ => ∃ v, vs = [v] ∧ ((∃ e x, v = .ref e ∧ EntAt H e x ∧ x.ok ∧ ∀ H', Same H H' → Q (.bl true) H') ∨ (NotTup K H v ∧ Q (.bl false) H) ∨
  ∃ e xs, v = .ref e ∧ H e = some (.tup xs) ∧ xs.length < 3 ∧ Q (.bl false) H)
def spArr (K : PySem.W.Frag) : Sp := fun vs H Q _ => ∃ e x, vs = [.ref e] ∧ EntAt H e x ∧ Q (.int x.arr) H
def spPlaced (CB : Addr) : Sp := fun vs H Q _ => ∃ (b t : Addr) (L : List (Str × Int)) (s k : Str) (m a r l : Int), vs = [.ref b, .ref t, .int r] ∧ BookAt CB H b L ∧ H t = some (.tup [.str s, .str k, .int m, .int a]) ∧ IsNm s ∧ L.lookup s = some l ∧
  ∀ H', Same H H' → Q (if m ≤ r ∧ r ≤ m + l then .ref t else .non) H'
def spBehind (aT CB : Addr) : Sp := fun vs H Q _ => ∃ (b e : Addr) (L : List (Str × Int)) (x : Ent) (ov : Option V) (o : Option RowSt), vs = [.ref b, .ref e, ov.getD .non] ∧ BookAt CB H b L ∧ EntAt H e x ∧ x.ok ∧ RowV aT H ov o ∧
  (∀ s k m a, o = some (.at_ s k m a) → IsNm s ∧ IsNm k ∧ (L.lookup s).isSome) ∧
  ∀ v H', Same H H' → ((behind L x o = none ∧ v = .non) ∨ (v ≠ .non ∧ ∃ y, behind L x o = some y ∧ RowV aT H' (some v) (some y))) → Q v H'
section
variable {P : Program} {w : World} {K : PySem.W.Frag} {mg : Str → Option Value} {base : Heap}
abbrev s_is_entry : Stmt := topS 28
theorem sc_is_entry : FnScope ["thing"] ["thing"] (defScope s_is_entry) := ⟨rfl, rfl, rfl, by decide +kernel, rfl, by decide +kernel, by decide +kernel⟩
theorem ok_is_entry {f : Addr} {fd : FuncData} (F : Fun K "is_entry" "is_entry" s_is_entry f fd) (B : Blt mg) (G : K3 P w K mg base) : FnOk P w K mg base CX0 3 f fd ["thing"] (spIsEntry K) := by
  refine F.ok sc_is_entry (fun vs H Q E h => ?_) (fun cdv A outer s H vs Q E hr h => ?_)
  · obtain ⟨v, rfl, _⟩ := h
    rfl
  · obtain ⟨v, rfl, hv⟩ := h
    refine ⟨_, (pss_cons (ps_if (PW.pt (pw_or (pt_not (pt_val (pe_callB call_isi (by rfl) B.isinstance (by decide +kernel) (pa_cons (pv 0) (pa_cons (pe_bltn (v := .ty "tuple") (by rfl) B.tuple (by decide +kernel) rfl) pa_nil))))) (pw_or (pt_cmpR op_lt (pe_callB call_len_seq (by rfl) B.len (by decide +kernel) (pa_cons (pv 0) pa_nil)) pe_int (nomark _)) (pw_or1 (pt_not (pt_val (pe_cal G.is_natural (hr.mono (by decide)) pass0 (pa_cons (pe_ix ix_tup (pv 0) pe_int (fun _ _ => rfl)) pa_nil))))))))
      (pss_one (ps_ret pe_bl))
      pss_nil)
    (pss_cons (ps_if (pt_cmpR op_eq (pe_ix ix_tup (pv 0) pe_int (fun _ _ => rfl)) pe_str (nomark _))
      (pss_one (ps_ret (pe_and (pe_cmpR op_eq (pe_callB call_len_seq (by rfl) B.len (by decide +kernel) (pa_cons (pv 0) pa_nil)) pe_int (nomark _)) (pe_and (pe_cal G.is_name (hr.mono (by decide)) pass0 (pa_cons (pe_ix ix_tup (pv 0) pe_int (fun _ _ => rfl)) pa_nil)) (pe_and (pe_cal G.is_name (hr.mono (by decide)) pass0 (pa_cons (pe_ix ix_tup (pv 0) pe_int (fun _ _ => rfl)) pa_nil)) (pe_one (pe_cal G.are_integers (hr.mono (by decide)) pass0 (pa_cons (pe_slice sl_tup (pv 0) (po_some pe_int) po_none) pa_nil))))))))
      pss_nil)
    (pss_cons (ps_if (pt_cmpR op_eq (pe_ix ix_tup (pv 0) pe_int (fun _ _ => rfl)) pe_str (nomark _))
      (pss_one (ps_ret (pe_and (pe_cmpR op_eq (pe_callB call_len_seq (by rfl) B.len (by decide +kernel) (pa_cons (pv 0) pa_nil)) pe_int (nomark _)) (pe_one (pe_cal G.are_integers (hr.mono (by decide)) pass0 (pa_cons (pe_slice sl_tup (pv 0) (po_some pe_int) po_none) pa_nil))))))
      pss_nil)
    (pss_one (ps_ret (pe_and (pe_cmpR op_eq (pe_ix ix_tup (pv 0) pe_int (fun _ _ => rfl)) pe_str (nomark _)) (pe_and (pe_cmpR op_eq (pe_callB call_len_seq (by rfl) B.len (by decide +kernel) (pa_cons (pv 0) pa_nil)) pe_int (nomark _)) (pe_one (pe_cal G.are_integers (hr.mono (by decide)) pass0 (pa_cons (pe_slice sl_tup (pv 0) (po_some pe_int) po_none) pa_nil)))))))))), ?_⟩
    rcases hv with ⟨e, x, rfl, hx, hok, q⟩ | ⟨⟨t, ty, e1⟩, q⟩ | ⟨e, xs, rfl, hx, hl, q⟩
    · refine ⟨_, rfl, _, _, _, _, true, rfl, ClsV.ty _, .base (.tup hx), kit_ty (by decide +kernel), _, rfl, iteF ?_⟩
      refine ⟨_, rfl, e, _, rfl, .inr (SqT.of hx), _, _, rfl, rfl, _, rfl, ?_⟩
      cases x with
      | row id s k m a r =>
        obtain ⟨h0, hn⟩ := hok
        obtain ⟨hs, hk⟩ := hn _ _ _ _ _ _ rfl
        refine iteF ⟨_, rfl, _, _, _, _, rfl, rfl, SqT.of hx, rfl, _, rfl, .inl ⟨id, rfl, _, rfl, ?_⟩⟩
        rw [decide_eq_true (show 0 ≤ id from h0)]
        refine iteF ⟨_, rfl, _, _, _, _, rfl, rfl, SqT.of hx, rfl, rfl, _, rfl, ?_⟩
        refine iteT ⟨_, rfl, e, _, rfl, .inr (SqT.of hx), rfl, _, rfl, iteT ?_⟩
        refine ⟨_, rfl, _, _, _, _, rfl, rfl, SqT.of hx, rfl, _, rfl, .inl ⟨s, rfl, (by have := hs.2.1; rw [sizeLine_eq]; omega), fun H1 s1 => ⟨_, rfl, ?_⟩⟩⟩
        rw [(nmB_iff s).mpr hs]
        have hx1 := s1 _ _ hx
        refine iteT ⟨_, rfl, _, _, _, _, rfl, rfl, SqT.of hx1, rfl, _, rfl, .inl ⟨k, rfl, (by have := hk.2.1; rw [sizeLine_eq]; omega), fun H2 s2 => ⟨_, rfl, ?_⟩⟩⟩
        rw [(nmB_iff k).mpr hk]
        have hx2 := s2 _ _ hx1
        refine iteT ⟨_, rfl, _, rfl, e, _, rfl, SqT.of hx2, (by show ¬ (HT.sIx 7 0 (some 4) = 0 ∧ HT.sIx 7 7 none = 7); decide), fun p hp => ?_⟩
        refine ⟨p, [m, a, r], rfl, SqT.of upd_same, (by show 3 ≤ 100; decide), fun H3 s3 => q _ ?_⟩
        exact ((s1.trans s2).trans (sameAt (Same.refl _) hp)).trans s3
      | fix id m a r =>
        obtain ⟨h0, hn⟩ := hok
        refine iteF ⟨_, rfl, _, _, _, _, rfl, rfl, SqT.of hx, rfl, _, rfl, .inl ⟨id, rfl, _, rfl, ?_⟩⟩
        rw [decide_eq_true (show 0 ≤ id from h0)]
        refine iteF ⟨_, rfl, _, _, _, _, rfl, rfl, SqT.of hx, rfl, rfl, _, rfl, ?_⟩
        refine iteF ⟨_, rfl, _, _, _, _, rfl, rfl, SqT.of hx, rfl, rfl, _, rfl, ?_⟩
        refine iteT ⟨_, rfl, e, _, rfl, .inr (SqT.of hx), rfl, _, rfl, iteT ?_⟩
        refine ⟨_, rfl, _, rfl, e, _, rfl, SqT.of hx, (by show ¬ (HT.sIx 5 0 (some 2) = 0 ∧ HT.sIx 5 5 none = 5); decide), fun p hp => ?_⟩
        refine ⟨p, [m, a, r], rfl, SqT.of upd_same, (by show 3 ≤ 100; decide), fun H3 s3 => q _ ?_⟩
        exact (sameAt (Same.refl _) hp).trans s3
      | gone id r =>
        obtain ⟨h0, hn⟩ := hok
        refine iteF ⟨_, rfl, _, _, _, _, rfl, rfl, SqT.of hx, rfl, _, rfl, .inl ⟨id, rfl, _, rfl, ?_⟩⟩
        rw [decide_eq_true (show 0 ≤ id from h0)]
        refine iteF ⟨_, rfl, _, _, _, _, rfl, rfl, SqT.of hx, rfl, rfl, _, rfl, ?_⟩
        refine iteF ⟨_, rfl, _, _, _, _, rfl, rfl, SqT.of hx, rfl, rfl, _, rfl, ?_⟩
        refine iteF ⟨_, rfl, _, _, _, _, rfl, rfl, SqT.of hx, rfl, rfl, _, rfl, iteT ?_⟩
        refine ⟨_, rfl, e, _, rfl, .inr (SqT.of hx), rfl, _, rfl, iteT ?_⟩
        refine ⟨_, rfl, _, rfl, e, _, rfl, SqT.of hx, (by show ¬ (HT.sIx 3 0 (some 2) = 0 ∧ HT.sIx 3 3 none = 3); decide), fun p hp => ?_⟩
        refine ⟨p, [r], rfl, SqT.of upd_same, (by show 1 ≤ 100; decide), fun H3 s3 => q _ ?_⟩
        exact (sameAt (Same.refl _) hp).trans s3
    · exact ⟨_, rfl, _, _, _, _, false, rfl, ClsV.ty _, ty, e1, _, rfl, iteT q⟩
    · refine ⟨_, rfl, _, _, _, _, true, rfl, ClsV.ty _, .base (.tup hx), kit_ty (by decide +kernel), _, rfl, iteF ?_⟩
      refine ⟨_, rfl, e, _, rfl, .inr (SqT.of hx), _, _, rfl, rfl, _, rfl, ?_⟩
      rw [decide_eq_true (show (xs.length : Int) < 3 by omega)]
      exact iteT q
abbrev s_arrival_of : Stmt := topS 29
theorem sc_arrival_of : FnScope ["entry"] ["entry"] (defScope s_arrival_of) := ⟨rfl, rfl, rfl, by decide +kernel, rfl, by decide +kernel, by decide +kernel⟩
theorem ok_arrival_of {f : Addr} {fd : FuncData} (F : Fun K "arrival_of" "arrival_of" s_arrival_of f fd) (B : Blt mg) : FnOk P w K mg base CX0 1 f fd ["entry"] (spArr K) := by
  refine F.ok sc_arrival_of (fun vs H Q E h => ?_) (fun cdv A outer s H vs Q E hr h => ?_)
  · obtain ⟨e, x, rfl, _⟩ := h
    rfl
  · obtain ⟨e, x, rfl, hx, q⟩ := h
    refine ⟨_, (pss_one (ps_ret (pe_ix ix_tup (pv 0) (pe_un un_neg pe_int) (fun _ _ => rfl)))), ?_⟩
    cases x with
    | row id s k m a r => exact ⟨_, rfl, _, rfl, _, _, _, _, rfl, rfl, SqT.of hx, rfl, q⟩
    | fix id m a r => exact ⟨_, rfl, _, rfl, _, _, _, _, rfl, rfl, SqT.of hx, rfl, q⟩
    | gone id r => exact ⟨_, rfl, _, rfl, _, _, _, _, rfl, rfl, SqT.of hx, rfl, q⟩
abbrev s_placed : Stmt := topS 31
theorem sc_placed : FnScope ["book", "row", "arrival", "stream", "moment"] ["book", "row", "arrival"] (defScope s_placed) := ⟨rfl, rfl, rfl, by decide +kernel, rfl, by decide +kernel, by decide +kernel⟩
theorem ok_placed {f fl CB : Addr} {fd fdl : FuncData} (F : Fun K "placed" "placed" s_placed f fd) (B : Blt mg) (T : Cb K mg CB) (M_late : Meth K CB "late" fl) (b_late : Binds K fdl ["self", "stream"] []) (F_late : FnOk P w K mg base CX0 3 fl fdl ["self", "stream"] (spLate CB)) : FnOk P w K mg base CX0 4 f fd ["book", "row", "arrival"] (spPlaced CB) := by
  refine F.ok sc_placed (fun vs H Q E h => ?_) (fun cdv A outer s H vs Q E hr h => ?_)
  · obtain ⟨b, t, L, z, k, m, a, r, l, rfl, _⟩ := h
    rfl
  · obtain ⟨b, t, L, z, k, m, a, r, l, rfl, hB, ht, hz, hl, q⟩ := h
    refine ⟨_, (pss_cons (ps_par (i := 3) (j := 4) (by rfl) sc_placed.nd rfl rfl (by decide) rfl rfl (pa_cons (pe_ix ix_tup (pv 1) pe_int (fun _ _ => rfl)) (pa_cons (pe_ix ix_tup (pv 1) pe_int (fun _ _ => rfl)) pa_nil)) (by rfl))
    (pss_cons (ps_if (pt_chain op_le op_le (pv 4) (pv 2) (pe_op op_add (pv 4) (pe_meth (pv 0) T.cl M_late F_late (hr.mono (by decide)) b_late .nil pass0 (pa_cons (pv 3) pa_nil))))
      (pss_one (ps_ret (pv 1)))
      pss_nil)
    (pss_one (ps_ret pe_non)))), ?_⟩
    refine ⟨_, rfl, _, _, _, _, rfl, rfl, SqT.of ht, rfl, _, rfl, _, _, _, _, rfl, rfl, SqT.of ht, rfl, _, _, rfl, ?_⟩
    obtain ⟨dx, d, L', h1, h2, h3⟩ := id hB
    refine ⟨_, rfl, _, rfl, _, _, rfl, rfl, _, rfl, ?_⟩
    refine ite2 (fun c1 => ?_) (fun c1 => ?_)
    · have c1 : m ≤ r := of_decide_eq_true c1
      refine ⟨_, rfl, _, rfl, b, dx, _, rfl, h1, rfl, _, rfl, b, L, z, l, rfl, hB, hz, hl, fun H1 s1 => ⟨_, _, rfl, rfl, _, _, rfl, rfl, _, rfl, ?_⟩⟩
      refine ite2 (fun c2 => ?_) (fun c2 => ?_)
      · have c2 : r ≤ m + l := of_decide_eq_true c2
        have := q H1 s1
        rw [if_pos ⟨c1, c2⟩] at this
        exact ⟨_, rfl, this⟩
      · have c2 : ¬ r ≤ m + l := by simpa using c2
        have := q H1 s1
        rw [if_neg (fun z => c2 z.2)] at this
        exact this
    · have c1 : ¬ m ≤ r := by simpa using c1
      have := q H (Same.refl H)
      rw [if_neg (fun z => c1 z.1)] at this
      exact ⟨_, rfl, iteF this⟩
structure K5 (P : Program) (w : World) (K : PySem.W.Frag) (mg : Str → Option Value) (base : Heap) (CB : Addr) : Prop extends K4 P w K mg base where
  is_entry : Cal P w K mg base CX0 "is_entry" 3 ["thing"] (spIsEntry K)
  arrival_of : Cal P w K mg base CX0 "arrival_of" 1 ["entry"] (spArr K)
  placed : Cal P w K mg base CX0 "placed" 4 ["book", "row", "arrival"] (spPlaced CB)
/-- the written () -/
structure Tb (K : PySem.W.Frag) (mg : Str → Option Value) (aT : Addr) : Prop where
  g : mg "TAKEN_BACK" = some (.ref aT)
  t : ∃ (o : Obj) (n : Nat), K.lookup aT = some o ∧ o.cls = .type "tuple" ∧ o.data = .seq #[] n
theorem Tb.sq {aT : Addr} (h : Tb K mg aT) (H : Hp) : SqT K H aT [] := by
  obtain ⟨o, n, h1, h2, h3⟩ := h.t
  exact .inr ⟨o, #[], n, h1, h2, h3, Nat.zero_le _, .nil⟩
abbrev s_row_behind : Stmt := topS 30
theorem sc_row_behind : FnScope ["book", "entry", "old", "stream", "key", "moment", "_"] ["book", "entry", "old"] (defScope s_row_behind) := ⟨rfl, rfl, rfl, by decide +kernel, rfl, by decide +kernel, by decide +kernel⟩
theorem ok_row_behind {f fh fl CB a_TAKEN_BACK : Addr} {fd fdh fdl : FuncData} (F : Fun K "row_behind" "row_behind" s_row_behind f fd) (B : Blt mg) (T : Cb K mg CB) (TB : Tb K mg a_TAKEN_BACK) (G : K5 P w K mg base CB) (M_has : Meth K CB "has" fh) (b_has : Binds K fdh ["self", "stream"] []) (F_has : FnOk P w K mg base CX0 2 fh fdh ["self", "stream"] (spHas CB))
    (M_late : Meth K CB "late" fl) (b_late : Binds K fdl ["self", "stream"] []) (F_late : FnOk P w K mg base CX0 3 fl fdl ["self", "stream"] (spLate CB)) : FnOk P w K mg base CX0 5 f fd ["book", "entry", "old"] (spBehind a_TAKEN_BACK CB) := by
  have g_TAKEN_BACK := TB.g
  refine F.ok sc_row_behind (fun vs H Q E h => ?_) (fun cdv A outer s H vs Q E hr h => ?_)
  · obtain ⟨b, e, L, x, ov, o, rfl, _⟩ := h
    rfl
  · obtain ⟨b, e, L, x, ov, o, rfl, hB, hx, hok, hV, hNm, q⟩ := h
    have hu := hu_of hr
    obtain ⟨dx, d, L', h1, h2, h3⟩ := id hB
    refine ⟨_, (pss_cons (ps_if (pt_cmpR op_eq (pe_ix ix_tup (pv 1) pe_int (fun _ _ => rfl)) pe_str (nomark _))
      (pss_cons (ps_if (PW.pt (pw_or (pt_cmpR op_notN (pv 2) pe_non (nomark _)) (pw_or1 (pt_not (pt_val (pe_meth (pv 0) T.cl M_has F_has (hr.mono (by decide)) b_has .nil pass0 (pa_cons (pe_ix ix_tup (pv 1) pe_int (fun _ _ => rfl)) pa_nil)))))))
        (pss_one (ps_ret pe_non))
        pss_nil)
      (pss_one (ps_ret (pe_cal G.placed (hr.mono (by decide)) pass0 (pa_cons (pv 0) (pa_cons (pe_slice sl_tup (pv 1) (po_some pe_int) (po_some pe_int)) (pa_cons (pe_cal G.arrival_of (hr.mono (by decide)) pass0 (pa_cons (pv 1) pa_nil)) pa_nil)))))))
      pss_nil)
    (pss_cons (ps_if (PW.pt (pw_or (pt_cmpR op_isN (pv 2) pe_non (nomark _)) (pw_or1 (pt_cmpR (op_eqD hr.units) (pv 2) (pe_glob (v := .ref a_TAKEN_BACK) (by rfl) g_TAKEN_BACK rfl) (nomark _)))))
      (pss_one (ps_ret pe_non))
      pss_nil)
    (pss_cons (ps_asg (pv 2) (pg_tup (by rfl) (pgs_cons (pg_name (i := 3) sc_row_behind.nd rfl (Or.inl rfl)) (pgs_cons (pg_name (i := 4) sc_row_behind.nd rfl (Or.inl rfl)) (pgs_cons (pg_name (i := 5) sc_row_behind.nd rfl (Or.inl rfl)) (pgs_cons (pg_name (i := 6) sc_row_behind.nd rfl (Or.inl rfl)) pgs_nil))))))
    (pss_cons (ps_if (pt_cmpR op_gt (pe_cal G.arrival_of (hr.mono (by decide)) pass0 (pa_cons (pv 1) pa_nil)) (pe_op op_add (pv 5) (pe_meth (pv 0) T.cl M_late F_late (hr.mono (by decide)) b_late .nil pass0 (pa_cons (pv 3) pa_nil))) (nomark _))
      (pss_one (ps_ret pe_non))
      pss_nil)
    (pss_cons (ps_if (pt_cmpR op_eq (pe_ix ix_tup (pv 1) pe_int (fun _ _ => rfl)) pe_str (nomark _))
      (pss_one (ps_ret (pe_glob (v := .ref a_TAKEN_BACK) (by rfl) g_TAKEN_BACK rfl)))
      pss_nil)
    (pss_one (ps_ret (pe_cal G.placed (hr.mono (by decide)) pass0 (pa_cons (pv 0) (pa_cons (pe_tup (pa_cons (pv 3) (pa_cons (pv 4) (pa_cons (pe_ix ix_tup (pv 1) pe_int (fun _ _ => rfl)) (pa_cons (pe_ix ix_tup (pv 1) pe_int (fun _ _ => rfl)) pa_nil))))) (pa_cons (pe_cal G.arrival_of (hr.mono (by decide)) pass0 (pa_cons (pv 1) pa_nil)) pa_nil))))))))))), ?_⟩
    cases x with
    | row id s k m a r =>
      obtain ⟨hs, hk⟩ := hok.2 _ _ _ _ _ _ rfl
      refine ⟨_, rfl, _, _, _, _, rfl, rfl, SqT.of hx, rfl, rfl, _, rfl, iteT ?_⟩
      cases ov with
      | some v =>
        have hvn : v ≠ .non := by
          cases o with
          | none => exact absurd hV (fun z => z)
          | some o =>
            cases o with
            | tb => obtain rfl : v = .ref a_TAKEN_BACK := hV; exact fun z => nomatch z
            | at_ s k m a => obtain ⟨t, rfl, _⟩ := hV; exact fun z => nomatch z
        refine ⟨_, rfl, rfl, _, rfl, ?_⟩
        show if (!decide (v = .non)) = true then _ else _
        rw [decide_eq_false hvn]
        refine iteT (q _ H (Same.refl H) (.inl ⟨?_, rfl⟩))
        cases o with
        | none => exact absurd hV (fun z => z)
        | some o => cases o <;> rfl
      | none =>
        cases o with
        | some o => exact absurd hV (fun z => z)
        | none =>
          refine ⟨_, rfl, rfl, _, rfl, iteF ?_⟩
          refine ⟨_, rfl, b, dx, _, rfl, h1, rfl, _, rfl, _, _, _, _, rfl, rfl, SqT.of hx, rfl, b, L, s, rfl, hB, hs, fun H1 s1 => ⟨_, rfl, ?_⟩⟩
          cases el : L.lookup s with
          | none =>
            refine iteT (q _ H1 s1 (.inl ⟨?_, rfl⟩))
            show (L.lookup s).bind _ = none
            rw [el]
            rfl
          | some l =>
            have hx1 := s1 _ _ hx
            refine iteF ⟨_, rfl, _, rfl, _, rfl, _, rfl, e, _, rfl, SqT.of hx1, (by show ¬ (HT.sIx 7 0 (some 2) = 0 ∧ HT.sIx 7 7 (some 6) = 7); decide), fun p hp => ?_⟩
            have hs2 : Same H (upd H1 p (.tup [.str s, .str k, .int m, .int a])) := s1.trans (sameAt (Same.refl _) hp)
            have hx2 : EntAt (upd H1 p (.tup [.str s, .str k, .int m, .int a])) e (.row id s k m a r) := hs2 _ _ hx
            refine ⟨_, rfl, e, _, rfl, hx2, b, p, L, s, k, m, a, r, l, rfl, hB.same hs2, upd_same, hs, el, fun H3 s3 => ?_⟩
            refine q _ H3 (hs2.trans s3) ?_
            by_cases c : m ≤ r ∧ r ≤ m + l
            · rw [if_pos c]
              refine .inr ⟨(fun z => nomatch z), .at_ s k m a, ?_, p, rfl, s3 _ _ upd_same⟩
              show (L.lookup s).bind _ = _
              rw [el, Option.bind_some, if_pos c]
            · rw [if_neg c]
              refine .inl ⟨?_, rfl⟩
              show (L.lookup s).bind _ = _
              rw [el, Option.bind_some, if_neg c]
    | fix id m a r =>
      refine ⟨_, rfl, _, _, _, _, rfl, rfl, SqT.of hx, rfl, rfl, _, rfl, iteF ?_⟩
      cases ov with
      | none =>
        cases o with
        | some o => exact absurd hV (fun z => z)
        | none => exact ⟨_, rfl, rfl, _, rfl, iteT (q _ H (Same.refl H) (.inl ⟨rfl, rfl⟩))⟩
      | some v =>
        cases o with
        | none => exact absurd hV (fun z => z)
        | some o =>
          cases o with
          | tb =>
            obtain rfl : v = .ref a_TAKEN_BACK := hV
            exact ⟨_, rfl, rfl, _, rfl, iteF ⟨_, rfl, .tuple [], .tuple [], .tup (TB.sq H) .nil, .tup (TB.sq H) .nil, rfl, rfl, _, rfl, iteT (q _ H (Same.refl H) (.inl ⟨rfl, rfl⟩))⟩⟩
          | at_ z k m0 a0 =>
            obtain ⟨t, rfl, ht⟩ := hV
            obtain ⟨hz, hk0, hzl⟩ := hNm _ _ _ _ rfl
            obtain ⟨l, el⟩ := Option.isSome_iff_exists.mp hzl
            refine ⟨_, rfl, rfl, _, rfl, iteF ⟨_, rfl, .tuple [.str z, .str k, .int m0, .int a0], .tuple [], .tup (SqT.of ht) (.cons (.str _) (.cons (.str _) (.cons (.int _) (.cons (.int _) .nil)))), .tup (TB.sq H) .nil, shaped_flat (by simp [flatD, nm_ok hz, nm_ok hk0]), rfl, _, rfl, iteF ?_⟩⟩
            refine ⟨_, rfl, t, _, rfl, SqT.of ht, rfl, _, _, rfl, _, _, rfl, _, _, rfl, _, _, rfl, rfl, ?_⟩
            refine ⟨_, rfl, e, _, rfl, hx, _, rfl, _, rfl, b, dx, _, rfl, h1, rfl, _, rfl, b, L, z, l, rfl, hB, hz, el, fun H1 s1 => ⟨_, _, rfl, rfl, _, _, rfl, rfl, _, rfl, ?_⟩⟩
            have hx1 : EntAt H1 e (.fix id m a r) := s1 _ _ hx
            have hB1 := hB.same s1
            refine ite2 (fun c1 => ?_) (fun c1 => ?_)
            · have c1 : m0 + l < r := of_decide_eq_true c1
              refine q _ H1 s1 (.inl ⟨?_, rfl⟩)
              show (L.lookup z).bind _ = none
              rw [el, Option.bind_some, if_neg (by omega)]
            · have c1 : ¬ m0 + l < r := fun z => c1 (decide_eq_true z)
              refine ⟨_, rfl, _, _, _, _, rfl, rfl, SqT.of hx1, rfl, rfl, _, rfl, iteF ?_⟩
              refine ⟨_, rfl, _, rfl, _, rfl, _, rfl, _, _, _, _, rfl, rfl, SqT.of hx1, rfl, _, rfl, _, _, _, _, rfl, rfl, SqT.of hx1, rfl, (by show 4 ≤ sizeLine; decide), fun p hp => ?_⟩
              have s2 : Same H (upd H1 p (.tup [.str z, .str k, .int m, .int a])) := s1.trans (sameAt (Same.refl _) hp)
              have hx2 : EntAt (upd H1 p (.tup [.str z, .str k, .int m, .int a])) e (.fix id m a r) := s2 _ _ hx
              refine ⟨_, rfl, e, _, rfl, hx2, b, p, L, z, k, m, a, r, l, rfl, hB.same s2, upd_same, hz, el, fun H3 s3 => ?_⟩
              refine q _ H3 (s2.trans s3) ?_
              by_cases c : m ≤ r ∧ r ≤ m + l
              · rw [if_pos c]
                refine .inr ⟨(fun z => nomatch z), .at_ z k m a, ?_, p, rfl, s3 _ _ upd_same⟩
                show (L.lookup z).bind _ = _
                rw [el, Option.bind_some, if_pos ⟨by omega, c.1, c.2⟩]
              · rw [if_neg c]
                refine .inl ⟨?_, rfl⟩
                show (L.lookup z).bind _ = _
                rw [el, Option.bind_some, if_neg (fun y => c y.2)]
    | gone id r =>
      refine ⟨_, rfl, _, _, _, _, rfl, rfl, SqT.of hx, rfl, rfl, _, rfl, iteF ?_⟩
      cases ov with
      | none =>
        cases o with
        | some o => exact absurd hV (fun z => z)
        | none => exact ⟨_, rfl, rfl, _, rfl, iteT (q _ H (Same.refl H) (.inl ⟨rfl, rfl⟩))⟩
      | some v =>
        cases o with
        | none => exact absurd hV (fun z => z)
        | some o =>
          cases o with
          | tb =>
            obtain rfl : v = .ref a_TAKEN_BACK := hV
            exact ⟨_, rfl, rfl, _, rfl, iteF ⟨_, rfl, .tuple [], .tuple [], .tup (TB.sq H) .nil, .tup (TB.sq H) .nil, rfl, rfl, _, rfl, iteT (q _ H (Same.refl H) (.inl ⟨rfl, rfl⟩))⟩⟩
          | at_ z k m0 a0 =>
            obtain ⟨t, rfl, ht⟩ := hV
            obtain ⟨hz, hk0, hzl⟩ := hNm _ _ _ _ rfl
            obtain ⟨l, el⟩ := Option.isSome_iff_exists.mp hzl
            refine ⟨_, rfl, rfl, _, rfl, iteF ⟨_, rfl, .tuple [.str z, .str k, .int m0, .int a0], .tuple [], .tup (SqT.of ht) (.cons (.str _) (.cons (.str _) (.cons (.int _) (.cons (.int _) .nil)))), .tup (TB.sq H) .nil, shaped_flat (by simp [flatD, nm_ok hz, nm_ok hk0]), rfl, _, rfl, iteF ?_⟩⟩
            refine ⟨_, rfl, t, _, rfl, SqT.of ht, rfl, _, _, rfl, _, _, rfl, _, _, rfl, _, _, rfl, rfl, ?_⟩
            refine ⟨_, rfl, e, _, rfl, hx, _, rfl, _, rfl, b, dx, _, rfl, h1, rfl, _, rfl, b, L, z, l, rfl, hB, hz, el, fun H1 s1 => ⟨_, _, rfl, rfl, _, _, rfl, rfl, _, rfl, ?_⟩⟩
            have hx1 : EntAt H1 e (.gone id r) := s1 _ _ hx
            refine ite2 (fun c1 => ?_) (fun c1 => ?_)
            · have c1 : m0 + l < r := of_decide_eq_true c1
              refine q _ H1 s1 (.inl ⟨?_, rfl⟩)
              show (L.lookup z).bind _ = none
              rw [el, Option.bind_some, if_neg (by omega)]
            · have c1 : ¬ m0 + l < r := fun z => c1 (decide_eq_true z)
              refine ⟨_, rfl, _, _, _, _, rfl, rfl, SqT.of hx1, rfl, rfl, _, rfl, iteT ?_⟩
              refine q _ H1 s1 (.inr ⟨(fun z => nomatch z), .tb, ?_, rfl⟩)
              show (L.lookup z).bind _ = _
              rw [el, Option.bind_some, if_pos (by omega)]
end
end Ash

set_option Elab.async false
set_option linter.all false
set_option maxRecDepth 100000
set_option maxHeartbeats 4000000
namespace PySem
open Sem (wp)
open AutoSeq1 (wpAny_loadPart')
theorem ash_enum_newT (l : Addr) (its : Array Value) (n : Nat) (dc : Option Addr) (sl : Array (Option Value)) :
    Meets (Builtin.«enumerate.__new__» ⟨[.type "enumerate", .ref l], []⟩) (fun _ R s => s.heap.get? l = some { cls := .type "tuple", dict := dc, data := .seq its n, slots := sl } ∧
      R (.ok (.ret (.ref (s.heap.push { cls := .type "tuple_iterator", data := .fields #[.ref l, .int 0 0] }).objs.size)))
        { s with heap := (s.heap.push { cls := .type "tuple_iterator", data := .fields #[.ref l, .int 0 0] }).push { cls := .type "enumerate", data := .fields #[.none, .bool false, .ref s.heap.objs.size, rawInt 0, .none, .none] } }) :=
  .of_wp fun prog w A R s h => by
    obtain ⟨hp, g, d, tk, os⟩ := s
    obtain ⟨ht, h⟩ := h
    have hsub := sub_enumerate
    have hT : Heap.IsTuple (Shared.heap ⟨hp, g, d, tk, os⟩) l its := ⟨_, ht, rfl, n, rfl⟩
    wp_walk using wpAny_loadPart' ht
    refine wpAny_stack_any fun st => wpAny_pure ?_
    split
    · rename_i c _ _ _ _ _
      cases (c == Value.type "enumerate") <;>
      · wp_walk using wpAny_loadPart' ht, wpAny_pyIter_tuple hT
        exact ⟨_, rfl, h⟩
    · wp_walk using wpAny_loadPart' ht, wpAny_pyIter_tuple hT
      exact ⟨_, rfl, h⟩
section
variable {prog : Program} {w : World} {A : Around} {E : Value → Shared → Prop} {s : Shared}
theorem ash_call_enumT {l : Addr} {its : Array Value} {Q : Value → Shared → Prop} (hT : s.heap.IsTuple l its)
    (h : ∀ h', IsEnum h' (s.heap.objs.size + 1) s.heap.objs.size 0 .none → h'.IsTupleIter s.heap.objs.size l 0 →
      (∀ b o, s.heap.get? b = some o → h'.get? b = some o) → Q (.ref (s.heap.objs.size + 1)) { s with heap := h' }) :
    wpAny (model prog w) A (call (.type "enumerate") [.ref l]) Q E s := by
  obtain ⟨⟨c, dc, dt, sl⟩, hl, hc, n, hd⟩ := hT
  replace hc : c = .type "tuple" := hc
  replace hd : dt = .seq its n := hd
  subst hc hd
  refine callType_new F.called_enumerate (by decide) (F.typeCall_enumerate_1 _) (F.newCall_enumerate_1 _) (fun o => F.args_object_init_2 o _) F.entry_enumerate_new (ash_enum_newT l its n dc sl) ⟨hl, ?_⟩
  let oi : Obj := { cls := .type "tuple_iterator", data := .fields #[.ref l, .int 0 0] }
  let oe : Obj := { cls := .type "enumerate", data := .fields #[.none, .bool false, .ref s.heap.objs.size, rawInt 0, .none, .none] }
  have hz : (s.heap.push oi).objs.size = s.heap.objs.size + 1 := Heap.size_push ..
  have he : IsEnum ((s.heap.push oi).push oe) (s.heap.objs.size + 1) s.heap.objs.size 0 .none := by
    have q := Heap.get?_push_size (s.heap.push oi) (o := oe) rfl
    rw [hz] at q
    exact q
  show _ ∧ _
  rw [hz]
  exact ⟨⟨_, he, rfl⟩, h _ he ⟨_, Heap.get?_push_of_some _ (Heap.get?_push_size _ rfl), rfl, rfl⟩ fun b o x => Heap.get?_push_of_some _ (Heap.get?_push_of_some _ x)⟩
end
end PySem
namespace Ash
open PySem PySem.Spec PyProof.Rows L2
/-- enumerate of a tuple: its items in new pairs -/
def Itet (K : PySem.W.Frag) (a : Addr) : It :=
  ⟨fun i H => ∃ (xs : List V) (x : V), SqT K H a xs ∧ xs[i]? = some x, fun i H v H' => ∃ T x, v = .ref T ∧ H T = none ∧ H' = upd H T (.tup [.int (i : Nat), x]) ∧ ∀ xs, SqT K H a xs → xs[i]? = some x, fun i H => ∃ xs : List V, SqT K H a xs ∧ xs.length ≤ i⟩
theorem turn_enumT {P : Program} {w : World} {K : PySem.W.Frag} {elts : List Expr} {kk : Nat} {tpos : Pos} (a e it : Addr) :
    Turn P w K (.Tuple elts kk tpos) (Itet K a) [e, it] e (fun i h => (∃ old, IsEnum h e it ((i : Nat) : Int) old) ∧ h.IsTupleIter it a i ∧ e ≠ it) where
  mem := by simp
  obj := fun i h st b hb => by
    obtain ⟨⟨old, he⟩, ⟨o, ho, hc, hd⟩, _⟩ := st
    rcases (show b = e ∨ b = it by simpa using hb) with z | z
    · subst z
      exact ⟨_, he, fun v q => nomatch q⟩
    · exact ⟨o, by rw [z]; exact ho, fun v q => by rw [hd] at q; cases q⟩
  keep := fun i h h' st k => by
    obtain ⟨⟨old, he⟩, hi, hne⟩ := st
    exact ⟨⟨old, k e (by simp) _ he⟩, hi.at fun o q => k it (by simp) o q, hne⟩
  item := by
    intro X hP hw hK hc i pins s σ H E I hf st hg
    subst hP hw hK
    obtain ⟨⟨old, he⟩, hit, hne⟩ := st
    obtain ⟨xs, x, hq, hx⟩ := hg
    obtain ⟨its, rv, p, hz⟩ := I.tuple hq
    obtain ⟨u, hu, ru⟩ := rv.get hx
    have hpT : s.heap.IsTuple a its.toArray := p
    have hel : e < s.heap.objs.size := Heap.lt_size he
    have hil : it < s.heap.objs.size := by
      obtain ⟨_, q, _⟩ := hit
      exact Heap.lt_size q
    have hae : e ≠ a := fun z => by
      obtain ⟨o, q1, q2, _⟩ := hpT
      rw [← z] at q1
      have q3 : s.heap.get? e = some _ := he
      rw [q3] at q1
      cases q1
      exact absurd (Value.type.inj q2) (by decide)
    have hai : a ≠ it := fun z => by
      obtain ⟨o, q1, q2, _⟩ := hpT
      obtain ⟨o2, q3, q4, _⟩ := hit
      rw [z, q3] at q1
      cases q1
      rw [q4] at q2
      exact absurd (Value.type.inj q2) (by decide)
    have hh : X.A.in1.handled = none := I.ok.hd hc
    have D := Draws.tuple (prog := X.prog) (w := X.w) hh it a hai its.toArray
    have hlt : i < its.toArray.size := by
      have := (List.getElem?_eq_some_iff.mp hu).1
      simpa using this
    refine wpAny_pyNext_enum_itemD D he ⟨hit, hpT⟩ hlt hne (by simp [hne, hae]) fun y h' tk hy ho hst hT hsz hk => ?_
    have hyu : y = u := by
      have q : its[i]? = some y := by simpa using hy
      rw [hu] at q
      exact (Option.some.inj q).symm
    subst hyu
    refine ⟨_, rfl, wpAny_letOwnedTupleGo_enum (s := { s with heap := h', toks := tk + 1 }) ho fun h'' he' sb => ?_⟩
    have hT2 : h''.get? s.heap.objs.size = some { cls := .type "tuple", data := .seq #[.int i tk, y] } := (sb.2 _ (Nat.ne_of_gt hel)).trans hT
    have new : ObjOk X.prog X.w (upd H s.heap.objs.size (.tup [.int (i : Nat), x])) h'' s.heap.objs.size (.tup [.int (i : Nat), x]) :=
      ⟨by show 2 ≤ sizeLine; decide, [.int i tk, y], .cons ⟨_, rfl⟩ (.cons ru .nil), ⟨_, hT2, rfl, _, rfl⟩⟩
    have I1 : Inv X pins σ (upd H s.heap.objs.size (.tup [.int (i : Nat), x])) { s with heap := h'', toks := tk + 1 } :=
      I.turnedNew (ch := [e, it]) (fun b o hb q => (sb.2 b (fun z => hb (by simp [z]))).trans (hk b o (fun z => hb (by simp [z])) (fun z => hb (by simp [z])) q)) hf (Nat.le_refl _) new
    refine ⟨.ref s.heap.objs.size, _, I1, rfl, ⟨_, x, rfl, I.hok.fresh (Nat.le_refl _), rfl, fun ys hy => by rw [I.tuple_inj hy hq]; exact hx⟩, ⟨⟨y, ?_⟩, hst.1.at fun o q => (sb.2 it (Ne.symm hne)).trans q, hne⟩, fun b hb => ?_⟩
    · rw [show ((i + 1 : Nat) : Int) = (i : Int) + 1 by omega]
      exact he'
    · have hb' : b < s.heap.objs.size := by
        rcases (show b = e ∨ b = it by simpa using hb) with z | z <;> rw [z] <;> assumption
      rw [upd_ne (Nat.ne_of_lt hb')]
      exact (hf b hb).1
  done := by
    intro X hP hw hK hc i pins s σ H E I hf st hg
    subst hP hw hK
    obtain ⟨⟨old, he⟩, hit, hne⟩ := st
    obtain ⟨xs, hq, hx⟩ := hg
    obtain ⟨its, rv, p, hz⟩ := I.tuple hq
    have hpT : s.heap.IsTuple a its.toArray := p
    obtain ⟨f0, f1, f2, f3, f4, f5⟩ := hf it (by simp)
    have hl := rv.length
    have hh : X.A.in1.handled = none := I.ok.hd hc
    have hT : s.TypeIs (.ref e) "enumerate" := ⟨_, he, rfl⟩
    unfold pyNext
    refine wpAny_bind (wpAny_attempt (wpAny_callSpecial?_slot (name := Str.ofString "__next__") hT F.slot_enumerate_next
      (wpAny_call_entry F.slot_enumerate_next hT F.entry_enumerate_next ?_ (F.args_enumerate_next_1 _))))
    show wpAny _ _ (field (.ref e) 2 >>= _) _ _ _
    refine wpAny_bind (wpAny_field he rfl (x := .ref it) rfl (wpAny_bind (wpAny_nextOf_tuple_end hh hit hpT (by simp; omega) fun h' x hb ⟨o, ho, hco⟩ => ?_)))
    refine wpAny_bind (wpAny_isInstance (T := "StopIteration") (b := true) ⟨o, ho, hco⟩ isSubtype_stop ?_)
    exact wpAny_pure ⟨rfl, I.turned (t' := s.toks) (fun b o hn q => hb b o hn q) f0 f1 f3 f4 f5⟩
  self := fun A i s Q E st h => by
    obtain ⟨⟨_, he⟩, _⟩ := st
    exact wpAny_pyIter_enum he h
/-- enumerate of a list or a tuple -/
def iEnumS (K : PySem.W.Frag) (ta : TA) : TI := fun σ H R => ta σ H fun vs H1 => ∃ a, vs = [.ref a] ∧ ((∃ xs, SqL K H1 a xs ∧ R (Ite K a) H1) ∨ ∃ xs, SqT K H1 a xs ∧ R (Itet K a) H1)
theorem pi_enumS {X : Cx} {e : Expr} {ta : TA} {p pos tpos : Pos} {elts : List Expr} {kk : Nat} (hg : Gl X "enumerate") (hm : X.mg "enumerate" = none) (ha : PA X [e] ta) (hs : starEach [e] X.env = [(false, eval e X.env)] := by rfl) :
    PI X (.Tuple elts kk tpos) (.Call (.Name "enumerate" p) [e] [] pos) (iEnumS X.K ta) := by
  refine ⟨fun pins s σ H R I h => ?_⟩
  refine Call_ (ld_blt I hg hm boot_enumerate (PyProof.Rows.callWith_type1 (thn (ha.run pos pins s σ H _ I h) fun us s1 ⟨vs, H1, I1, r1, a, ex, q1⟩ => ?_) hs rfl))
  subst ex
  have fresh : ∀ b, b ∈ [s1.heap.objs.size + 1, s1.heap.objs.size] → FpOk X pins H1 b := fun b hb => by
    have hle : s1.heap.objs.size ≤ b := by
      rcases (show b = s1.heap.objs.size + 1 ∨ b = s1.heap.objs.size by simpa using hb) with z | z <;> omega
    exact I1.fpOk hle (I1.hok.fresh hle)
  cases r1 with
  | cons r rr =>
    cases rr
    cases r
    rcases q1 with ⟨xs, hq, q⟩ | ⟨xs, hq, q⟩
    · obtain ⟨its, rv, p', hz⟩ := I1.list hq
      exact call_enumerate_list p'.isList fun h' he hit _ hk => wpAny_pyIter_enum he ⟨_, _, _, _, H1, rfl, I1.kept (t' := s1.toks) hk, turn_enum a _ _, ⟨⟨.none, he⟩, hit, Nat.succ_ne_self _⟩, fresh, q⟩
    · obtain ⟨its, rv, p', hz⟩ := I1.tuple hq
      exact ash_call_enumT (show s1.heap.IsTuple a its.toArray from p') fun h' he hit hk => wpAny_pyIter_enum he ⟨_, _, _, _, H1, rfl, I1.kept (t' := s1.toks) hk, turn_enumT a _ _, ⟨⟨.none, he⟩, hit, Nat.succ_ne_self _⟩, fresh, q⟩
theorem walk_enumT {K : PySem.W.Frag} {a : Addr} {xs : List V} : Walk (Itet K a) xs.length (fun H => SqT K H a xs) (YPair (fun i => some (.int (i : Nat))) (fun i => xs[i]?)) := by
  refine ⟨fun i _ hi q => ⟨xs, xs[i], q, by simp [hi]⟩, fun _ q => ⟨xs, q, Nat.le_refl _⟩, fun i H v H' _ q y => ?_⟩
  obtain ⟨T, x, h1, h2, h3, h4⟩ := y
  exact ⟨T, .int (i : Nat), x, h1, h2, h3, rfl, h4 xs q⟩
end Ash

set_option Elab.async false
set_option linter.all false
set_option maxRecDepth 100000
set_option maxHeartbeats 4000000
namespace Ash
open PySem PySem.Spec PyProof.Rows L2
open C8 (pss_cut)
/-! ### rows of things that may be entries -/
abbrev Kn := Int → Option RowSt
def late? (l : Option Int) (r : Int) : Bool := match l with
  | some t => decide (r < t)
  | none => false
/-- the index of the first thing that is not a good entry, and what is known ahead of it -/
def wk (L : List (Str × Int)) : List (Option Ent) → Nat → Kn → Option Int → Option Nat × Kn
  | [], _, S, _ => (none, S)
  | none :: _, i, S, _ => (some i, S)
  | some x :: r, i, S, l => if late? l x.arr = true then (some i, S) else match behind L x (S x.id) with
    | none => (some i, S)
    | some y => wk L r (i + 1) (fun j => if j = x.id then some y else S j) (some x.arr)
def ThAt (K : PySem.W.Frag) (H : Hp) (v : V) : Option Ent → Prop
  | some x => ∃ e, v = .ref e ∧ EntAt H e x ∧ x.ok
  | none => NotTup K H v ∨ ∃ e xs, v = .ref e ∧ H e = some (.tup xs) ∧ xs.length < 3
/-- a dict with keys that are ints, each once -/
structure KLen (kvs : List (Key × V)) (n : Nat) : Prop where
  len : kvs.length ≤ n
  nd : (kvs.map (·.1)).Nodup
  ik : ∀ kv ∈ kvs, ∃ id, kv.1 = Sum.inl id
theorem KLen.mono {kvs : List (Key × V)} {n m : Nat} (h : KLen kvs n) (l : n ≤ m) : KLen kvs m := ⟨Nat.le_trans h.len l, h.nd, h.ik⟩
theorem KLen.nil {n : Nat} : KLen [] n := ⟨Nat.zero_le _, .nil, fun _ h => nomatch h⟩
theorem KLen.put {kvs : List (Key × V)} {n : Nat} (h : KLen kvs n) (id : Int) (v : V) : KLen (putK kvs (Sum.inl id : Key) v) (n + 1) := by
  have hl := length_putK kvs (Sum.inl id : Key) v
  have h1 := h.len
  refine ⟨by omega, ?_, ?_⟩
  · unfold putK
    split
    · rw [List.map_map]
      have e : ((fun x : Key × V => x.1) ∘ fun kv : Key × V => if kv.1 = Sum.inl id then (kv.1, v) else kv) = fun x => x.1 := by
        funext x
        show (if x.1 = Sum.inl id then (x.1, v) else x).1 = x.1
        split <;> rfl
      first
        | exact e ▸ h.nd
        | (rw [show (kvs.map _) = kvs.map (·.1) from List.map_congr_left fun x _ => by
            show (if x.1 = Sum.inl id then _ else _ : Key × V).1 = x.1
            split <;> simp_all]
           exact h.nd)
    · rename_i c
      rw [List.map_append, List.nodup_append]
      refine ⟨h.nd, by simp, fun a ha b hb => ?_⟩
      obtain ⟨x, hx, rfl⟩ := List.mem_map.mp ha
      have : b = Sum.inl id := by simpa using hb
      subst this
      intro z
      exact c (List.any_eq_true.mpr ⟨x, hx, by simp [z]⟩)
  · intro kv hkv
    unfold putK at hkv
    split at hkv
    · obtain ⟨x, hx, rfl⟩ := List.mem_map.mp hkv
      obtain ⟨j, hj⟩ := h.ik x hx
      split
      · exact ⟨j, hj⟩
      · exact ⟨j, hj⟩
    · rcases List.mem_append.mp hkv with hk | hk
      · exact h.ik kv hk
      · rw [List.mem_singleton.mp hk]
        exact ⟨id, rfl⟩
def KnAt (aT : Addr) (H : Hp) (d : Addr) (S : Kn) (n : Nat) : Prop := ∃ kvs : List (Key × V), H d = some (.dK kvs) ∧ KLen kvs n ∧ ∀ id, RowV aT H (valV kvs (Sum.inl id)) (S id)
def KnOk (L : List (Str × Int)) (S : Kn) : Prop := ∀ id s k m a, S id = some (.at_ s k m a) → IsNm s ∧ IsNm k ∧ (L.lookup s).isSome
theorem tyx_same {K : PySem.W.Frag} {H H' : Hp} {v : V} {t : Value} (h : TyX K H v t) (s : Same H H') : TyX K H' v t := by
  cases h with
  | base b =>
    refine .base ?_
    cases b with
    | non => exact .non
    | bl x => exact .bl x
    | int x => exact .int x
    | str x => exact .str x
    | flt x => exact .flt x
    | lst e => exact .lst (s _ _ e)
    | frz e => exact .frz (s _ _ e)
    | tup e => exact .tup (s _ _ e)
    | dK e => exact .dK (s _ _ e)
    | dT e => exact .dT (s _ _ e)
    | ins e c a b d f => exact .ins (s _ _ e) c a b d f
  | byt b => exact .byt b
  | set e => exact .set (s _ _ e)
  | kList e c => exact .kList e c
  | kTuple e c => exact .kTuple e c
  | kDict e c => exact .kDict e c
  | fTuple e => exact .fTuple (s _ _ e)
  | fDict e => exact .fDict (s _ _ e)
theorem ThAt.same {K : PySem.W.Frag} {H H' : Hp} {v : V} {o : Option Ent} (h : ThAt K H v o) (s : Same H H') : ThAt K H' v o := by
  cases o with
  | some x =>
    obtain ⟨e, h1, h2, h3⟩ := h
    exact ⟨e, h1, s _ _ h2, h3⟩
  | none =>
    rcases h with ⟨t, h1, h2⟩ | ⟨e, xs, h1, h2, h3⟩
    · exact .inl ⟨t, tyx_same h1 s, h2⟩
    · exact .inr ⟨e, xs, h1, s _ _ h2, h3⟩
theorem behind_ok {L : List (Str × Int)} {x : Ent} {o : Option RowSt} {y : RowSt} (hx : x.ok) (ho : ∀ s k m a, o = some (.at_ s k m a) → IsNm s ∧ IsNm k ∧ (L.lookup s).isSome) (h : behind L x o = some y) :
    ∀ s k m a, y = .at_ s k m a → IsNm s ∧ IsNm k ∧ (L.lookup s).isSome := by
  rintro s k m a rfl
  cases x with
  | row id s' k' m' a' r =>
    cases o with
    | some o => cases h
    | none =>
      have h : (L.lookup s').bind _ = _ := h
      cases el : L.lookup s' with
      | none => rw [el] at h; cases h
      | some l =>
        rw [el, Option.bind_some] at h
        split at h
        · cases h
          obtain ⟨h1, h2⟩ := hx.2 _ _ _ _ _ _ rfl
          exact ⟨h1, h2, by rw [el]; rfl⟩
        · cases h
  | fix id m' a' r =>
    cases o with
    | none => cases h
    | some o =>
      cases o with
      | tb => cases h
      | at_ s' k' m0 a0 =>
        have h : (L.lookup s').bind _ = _ := h
        cases el : L.lookup s' with
        | none => rw [el] at h; cases h
        | some l =>
          rw [el, Option.bind_some] at h
          split at h
          · cases h
            exact ho _ _ _ _ rfl
          · cases h
  | gone id r =>
    cases o with
    | none => cases h
    | some o =>
      cases o with
      | tb => cases h
      | at_ s' k' m0 a0 =>
        have h : (L.lookup s').bind _ = _ := h
        cases el : L.lookup s' with
        | none => rw [el] at h; cases h
        | some l =>
          rw [el, Option.bind_some] at h
          split at h <;> cases h
def atV : Option Nat → V
  | none => .non
  | some i => .int (i : Int)
def spWalked (K : PySem.W.Frag) (aT CB : Addr) : Sp := fun vs H Q _ => ∃ (b a : Addr) (L : List (Str × Int)) (us : List V) (ths : List (Option Ent)), vs = [.ref b, .ref a] ∧ BookAt CB H b L ∧ (SqL K H a us ∨ SqT K H a us) ∧ us.length ≤ 1000 ∧ us.length = ths.length ∧
  (∀ (i : Nat) v o, us[i]? = some v → ths[i]? = some o → ThAt K H v o) ∧
  ∀ t kd H', H kd = none → Same H H' → H' t = some (.tup [atV (wk L ths 0 (fun _ => none) none).1, .ref kd]) → KnAt aT H' kd (wk L ths 0 (fun _ => none) none).2 us.length → Q (.ref t) H'
theorem pk_len {κ : Type} [DecidableEq κ] (c : List (κ × V)) (k : κ) (x : V) : (putK c k x).length ≤ c.length + 1 := by
  unfold putK
  split
  · rw [List.length_map]
    omega
  · rw [List.length_append]
    exact Nat.le_refl _
theorem seqS {K : PySem.W.Frag} {H H' : Hp} {a : Addr} {us : List V} (h : SqT K H a us) (s : Same H H') : SqT K H' a us := by
  rcases h with (h | ⟨o, h⟩) | h
  · exact .inl (.inl (s _ _ h))
  · exact .inl (.inr ⟨o, s _ _ h⟩)
  · exact .inr h
theorem rowV_off {aT d : Addr} {H : Hp} {kvs : List (Key × V)} {o' : HO} {w : Option V} {o : Option RowSt} (h : RowV aT H w o) (hd : H d = some (.dK kvs)) : RowV aT (upd H d o') w o := by
  cases w with
  | none => cases o <;> exact h
  | some v =>
    cases o with
    | none => exact h
    | some o =>
      cases o with
      | tb => exact h
      | at_ z k m a =>
        obtain ⟨t, e, h⟩ := h
        exact ⟨t, e, by rw [upd_ne (ne_of h hd (by intro z; cases z))]; exact h⟩
def latV : Option Int → V
  | none => .non
  | some n => .int n
theorem ent_id (y : Ent) : atI y.vs 1 = some (.int y.id) := by cases y <;> rfl
theorem wk_odd (L : List (Str × Int)) (r : List (Option Ent)) (i : Nat) (S : Kn) (l : Option Int) : wk L (none :: r) i S l = (some i, S) := rfl
theorem wk_late {L : List (Str × Int)} {x : Ent} {r : List (Option Ent)} {i : Nat} {S : Kn} {l : Option Int} (h : late? l x.arr = true) : wk L (some x :: r) i S l = (some i, S) := by
  show (if late? l x.arr = true then _ else _) = _
  rw [if_pos h]
theorem wk_bad {L : List (Str × Int)} {x : Ent} {r : List (Option Ent)} {i : Nat} {S : Kn} {l : Option Int} (h : late? l x.arr = false) (hb : behind L x (S x.id) = none) : wk L (some x :: r) i S l = (some i, S) := by
  show (if late? l x.arr = true then _ else _) = _
  rw [h, if_neg Bool.false_ne_true, hb]
theorem wk_go {L : List (Str × Int)} {x : Ent} {r : List (Option Ent)} {i : Nat} {S : Kn} {l : Option Int} {y : RowSt} (h : late? l x.arr = false) (hb : behind L x (S x.id) = some y) : wk L (some x :: r) i S l = wk L r (i + 1) (fun j => if j = x.id then some y else S j) (some x.arr) := by
  show (if late? l x.arr = true then _ else _) = _
  rw [h, if_neg Bool.false_ne_true, hb]
section
variable {P : Program} {w : World} {K : PySem.W.Frag} {mg : Str → Option Value} {base : Heap}
structure K6 (P : Program) (w : World) (K : PySem.W.Frag) (mg : Str → Option Value) (base : Heap) (CB aT : Addr) : Prop extends K5 P w K mg base CB where
  row_behind : Cal P w K mg base CX0 "row_behind" 5 ["book", "entry", "old"] (spBehind aT CB)
abbrev s_walked : Stmt := topS 32
theorem sc_walked : FnScope ["book", "things", "known", "latest", "at", "thing", "row"] ["book", "things"] (defScope s_walked) := ⟨rfl, rfl, rfl, by decide +kernel, rfl, by decide +kernel, by decide +kernel⟩
theorem ok_walked {f CB a_TAKEN_BACK : Addr} {fd : FuncData} (F : Fun K "walked" "walked" s_walked f fd) (B : Blt mg) (G : K6 P w K mg base CB a_TAKEN_BACK) : FnOk P w K mg base CX0 6 f fd ["book", "things"] (spWalked K a_TAKEN_BACK CB) := by
  refine F.ok sc_walked (fun vs H Q E h => ?_) (fun cdv A outer s H vs Q E hr h => ?_)
  · obtain ⟨b, a, L, us, ths, rfl, _⟩ := h
    rfl
  · obtain ⟨b, a, L, us, ths, rfl, hB, hS, hn, hlen, hT3, q⟩ := h
    have hu := hu_of hr
    refine ⟨_, (pss_cons (ps_set (i := 2) sc_walked.nd rfl (Or.inl rfl) pe_dnewK)
    (pss_cons (ps_set (i := 3) sc_walked.nd rfl (Or.inl rfl) pe_non)
    (pss_cons (ps_for PassesOwn.never rfl (pi_enumS (by rfl) B.enumerate (pa_cons (pv 1) pa_nil)) (pg_tup (by rfl) (pgs_cons (pg_name (i := 4) sc_walked.nd rfl (Or.inl rfl)) (pgs_cons (pg_name (i := 5) sc_walked.nd rfl (Or.inl rfl)) pgs_nil)))
      (pss_cut (ps_if (PW.pt (pw_or (pt_not (pt_val (pe_cal G.is_entry (hr.mono (by decide)) pass0 (pa_cons (pv 5) pa_nil)))) (pw_or1 (PW.pt (pw_and (pt_cmpR op_notN (pv 3) pe_non (nomark _)) (pw_and1 (pt_cmpR op_lt (pe_cal G.arrival_of (hr.mono (by decide)) pass0 (pa_cons (pv 5) pa_nil)) (pv 3) (nomark _))))))))
        (pss_one (ps_ret (pe_tup (pa_cons (pv 4) (pa_cons (pv 2) pa_nil)))))
        pss_nil)
      (pss_cons (ps_set (i := 6) sc_walked.nd rfl (Or.inl rfl) (pe_cal G.row_behind (hr.mono (by decide)) pass0 (pa_cons (pv 0) (pa_cons (pv 5) (pa_cons (pe_dget1 hu (pv 2) (pe_ix ix_tup (pv 5) pe_int (fun _ _ => rfl)) ⟨rfl, rfl, rfl, rfl⟩) pa_nil)))))
      (pss_cons (ps_if (pt_cmpR op_isN (pv 6) pe_non (nomark _))
        (pss_one (ps_ret (pe_tup (pa_cons (pv 4) (pa_cons (pv 2) pa_nil)))))
        pss_nil)
      (pss_cons (ps_dput hu (pv 2) (pe_ix ix_tup (pv 5) pe_int (fun _ _ => rfl)) (pv 6) rfl)
      (pss_one (ps_set (i := 3) sc_walked.nd rfl (Or.inl rfl) (pe_cal G.arrival_of (hr.mono (by decide)) pass0 (pa_cons (pv 5) pa_nil)))))))))
    (pss_one (ps_ret (pe_tup (pa_cons pe_non (pa_cons (pv 2) pa_nil)))))))), ?_⟩
    intro d hd
    rcases hS with hS | hS
    · refine ⟨_, rfl, a, rfl, .inl ⟨_, (sameAt (Same.refl H) hd).seq hS, for_it walk_enum (fun i σ H1 => ∃ (S : Kn) (lo : Option Int), (∃ a1 a2 a3, σ = [some (.ref b), some (.ref a), some (.ref d), some (latV lo), a1, a2, a3]) ∧ wk L ths 0 (fun _ => none) none = wk L (ths.drop i) i S lo ∧ KnAt a_TAKEN_BACK H1 d S i ∧ Same H H1 ∧ KnOk L S) ?_ (fun i σ H1 _ hv => by
        obtain ⟨S, lo, _, _, _, s1, _⟩ := hv
        exact s1.seq hS) ?_ ?_⟩⟩
      · exact ⟨fun _ => none, none, ⟨_, _, _, rfl⟩, rfl, ⟨[], upd_same, KLen.nil, fun id => trivial⟩, sameAt (Same.refl H) hd, fun _ _ _ _ _ z => nomatch z⟩
      · rintro i x σ H1 H2 hi ⟨S, lo, ⟨a1, a2, a3, rfl⟩, hw, ⟨kvs, hk1, hk2, hk3⟩, s1, hKn⟩ ⟨T, x1, x2, rfl, hT, rfl, e1, e2⟩
        cases e1
        have hil : i < ths.length := by rw [← hlen]; exact hi
        obtain ⟨o, ho⟩ : ∃ o, ths[i]? = some o := ⟨_, List.getElem?_eq_getElem hil⟩
        have s2 : Same H (upd H1 T (.tup [.int (i : Nat), x2])) := s1.trans (sameAt (Same.refl _) hT)
        have hdT : d ≠ T := fun z => by rw [← z, hk1] at hT; cases hT
        have hkd2 : (upd H1 T (.tup [.int (i : Nat), x2])) d = some (.dK kvs) := by rw [upd_ne hdT]; exact hk1
        have hth := hT3 i x2 o e2 ho
        have hdrop : ths.drop i = o :: ths.drop (i + 1) := by
          rw [List.drop_eq_getElem_cons hil]
          rw [List.getElem?_eq_getElem hil] at ho
          rw [Option.some.inj ho]
        rw [hdrop] at hw
        refine ⟨T, _, rfl, SqT.of upd_same, rfl, _, _, rfl, _, _, rfl, rfl, ?_⟩
        have bad : ∀ H3, Same (upd H1 T (.tup [.int (i : Nat), x2])) H3 → wk L (o :: ths.drop (i + 1)) i S lo = (some i, S) →
            ∀ (p : Addr), H3 p = none → Q (.ref p) (upd H3 p (.tup [.int (i : Nat), .ref d])) := fun H3 s3 hbad p hp => by
          have s4 := s3.trans (sameAt (Same.refl H3) hp (o := .tup [.int (i : Nat), .ref d]))
          rw [hbad] at hw
          refine q p d _ hd (s2.trans s4) ?_ ?_
          · rw [upd_same, hw]
            rfl
          · rw [hw]
            exact ⟨kvs, s4 _ _ hkd2, hk2.mono (Nat.le_of_lt hi), fun id => (hk3 id).same ((sameAt (Same.refl H1) hT).trans s4)⟩
        refine ⟨fun σ' H3 => (∃ e y a3, o = some y ∧ x2 = .ref e ∧ EntAt H e y ∧ y.ok ∧ σ' = [some (.ref b), some (.ref a), some (.ref d), some (latV lo), some (.int (i : Nat)), some (.ref e), a3] ∧ late? lo y.arr = false) ∧ Same (upd H1 T (.tup [.int (i : Nat), x2])) H3, ?_, ?_⟩
        · cases o with
          | none =>
            refine ⟨_, rfl, x2, rfl, .inr ?_⟩
            rcases hth.same s2 with nt | ⟨e, xs, rfl, hx, hx3⟩
            · exact .inl ⟨nt, _, rfl, iteT ⟨_, rfl, _, rfl, (by show 2 ≤ sizeLine; decide), fun p hp => bad _ (Same.refl _) rfl p hp⟩⟩
            · exact .inr ⟨e, xs, rfl, hx, hx3, _, rfl, iteT ⟨_, rfl, _, rfl, (by show 2 ≤ sizeLine; decide), fun p hp => bad _ (Same.refl _) rfl p hp⟩⟩
          | some y =>
            obtain ⟨e, rfl, hx, hok⟩ := hth
            refine ⟨_, rfl, _, rfl, .inl ⟨e, y, rfl, s2 _ _ hx, hok, fun H3 s3 => ⟨_, rfl, iteF ?_⟩⟩⟩
            have hx3 : EntAt H3 e y := s3 _ _ (s2 _ _ hx)
            cases lo with
            | none => exact ⟨_, rfl, rfl, _, rfl, iteF ⟨⟨e, y, _, rfl, rfl, hx, hok, rfl, rfl⟩, s3⟩⟩
            | some n =>
              refine ⟨_, rfl, rfl, _, rfl, iteT ⟨_, rfl, e, y, rfl, hx3, _, rfl, _, _, rfl, rfl, _, rfl, ?_⟩⟩
              refine ite2 (fun c1 => ?_) (fun c1 => ?_)
              · exact ⟨_, rfl, _, rfl, (by show 2 ≤ sizeLine; decide), fun p hp => bad _ s3 (wk_late c1) p hp⟩
              · exact ⟨⟨e, y, _, rfl, rfl, hx, hok, rfl, Bool.eq_false_iff.mpr c1⟩, s3⟩
        · rintro σ' H3 ⟨⟨e, y, a3, rfl, rfl, hx, hok, rfl, hlt⟩, s3⟩
          have s23 := s2.trans s3
          have hx3 : EntAt H3 e y := s23 _ _ hx
          have hkd3 : H3 d = some (.dK kvs) := s3 _ _ hkd2
          have s13 : Same H1 H3 := (sameAt (Same.refl H1) hT).trans s3
          refine ⟨_, rfl, _, rfl, _, rfl, d, rfl, .inl ⟨_, .of hkd3⟩, _, rfl, _, _, _, _, rfl, rfl, SqT.of hx3, ent_id y, _, DGet.k (k := Sum.inl y.id) hkd3, b, e, L, y, _, S y.id, rfl, hB.same s23, hx3, hok, (hk3 y.id).same s13, hKn y.id, fun v H4 s4 hv => ?_⟩
          have s34 := s3.trans s4
          rcases hv with ⟨hb, rfl⟩ | ⟨hvn, z, hb, hvz⟩
          · exact ⟨_, rfl, rfl, _, rfl, iteT ⟨_, rfl, _, rfl, (by show 2 ≤ sizeLine; decide), fun p hp => bad _ s34 (wk_bad hlt hb) p hp⟩⟩
          · refine ⟨_, rfl, rfl, _, rfl, ?_⟩
            rw [decide_eq_false hvn]
            have hx4 : EntAt H4 e y := s4 _ _ hx3
            have hkd4 : H4 d = some (.dK kvs) := s4 _ _ hkd3
            refine iteF ⟨_, rfl, _, rfl, _, rfl, _, _, _, _, rfl, rfl, SqT.of hx4, ent_id y, d, _, rfl, DPut.k (k := Sum.inl y.id) hkd4 (small1000 (by have := hk2.len; omega)), ?_⟩
            have hed : e ≠ d := fun q => by rw [q] at hx4; rw [show H4 d = _ from hx4] at hkd4; cases hkd4
            have hx5 : EntAt (upd H4 d (.dK (putK kvs (Sum.inl y.id) v))) e y := by show upd _ _ _ _ = _; rw [upd_ne hed]; exact hx4
            have s5 : Same H (upd H4 d (.dK (putK kvs (Sum.inl y.id) v))) := sameAt (s23.trans s4) hd
            refine ⟨_, rfl, e, y, rfl, hx5, (fun j => if j = y.id then some z else S j), some y.arr, ⟨_, _, _, rfl⟩, ?_, ⟨_, upd_same, hk2.put _ _, fun id => ?_⟩, s5, ?_⟩
            · rw [hw, wk_go hlt hb]
            · rw [valV_put]
              show RowV _ _ _ (if id = y.id then some z else S id)
              have rv : ∀ {w : Option V} {o : Option RowSt}, RowV a_TAKEN_BACK H4 w o → RowV a_TAKEN_BACK (upd H4 d (.dK (putK kvs (Sum.inl y.id) v))) w o := fun {w o} h => rowV_off h hkd4
              by_cases ej : id = y.id
              · rw [if_pos (by rw [ej]), if_pos ej]
                exact rv hvz
              · rw [if_neg (fun q => ej (Sum.inl.inj q)), if_neg ej]
                exact rv (((hk3 id).same s13).same s4)
            · intro id z1 k m a' he
              by_cases ej : id = y.id
              · have he : (if id = y.id then some z else S id) = some (.at_ z1 k m a') := he
                rw [if_pos ej] at he
                exact behind_ok hok (hKn y.id) hb _ _ _ _ (Option.some.inj he)
              · have he : (if id = y.id then some z else S id) = some (.at_ z1 k m a') := he
                rw [if_neg ej] at he
                exact hKn id _ _ _ _ he
      · rintro σ H1 ⟨S, lo, ⟨a1, a2, a3, rfl⟩, hw, hk, s1, hKn⟩
        have e : ths.drop us.length = [] := by rw [hlen]; exact List.drop_length
        rw [e] at hw
        refine ⟨_, rfl, (by show 2 ≤ sizeLine; decide), fun p hp => ?_⟩
        have s4 := sameAt (Same.refl H1) hp (o := .tup [.non, .ref d])
        obtain ⟨kvs, hk1, hk2, hk3⟩ := hk
        refine q p d _ hd (s1.trans s4) ?_ ?_
        · rw [upd_same, hw]
          rfl
        · rw [hw]
          exact ⟨kvs, s4 _ _ hk1, hk2, fun id => (hk3 id).same s4⟩
    · refine ⟨_, rfl, a, rfl, .inr ⟨_, seqS hS (sameAt (Same.refl H) hd), for_it walk_enumT (fun i σ H1 => ∃ (S : Kn) (lo : Option Int), (∃ a1 a2 a3, σ = [some (.ref b), some (.ref a), some (.ref d), some (latV lo), a1, a2, a3]) ∧ wk L ths 0 (fun _ => none) none = wk L (ths.drop i) i S lo ∧ KnAt a_TAKEN_BACK H1 d S i ∧ Same H H1 ∧ KnOk L S) ?_ (fun i σ H1 _ hv => by
        obtain ⟨S, lo, _, _, _, s1, _⟩ := hv
        exact seqS hS s1) ?_ ?_⟩⟩
      · exact ⟨fun _ => none, none, ⟨_, _, _, rfl⟩, rfl, ⟨[], upd_same, KLen.nil, fun id => trivial⟩, sameAt (Same.refl H) hd, fun _ _ _ _ _ z => nomatch z⟩
      · rintro i x σ H1 H2 hi ⟨S, lo, ⟨a1, a2, a3, rfl⟩, hw, ⟨kvs, hk1, hk2, hk3⟩, s1, hKn⟩ ⟨T, x1, x2, rfl, hT, rfl, e1, e2⟩
        cases e1
        have hil : i < ths.length := by rw [← hlen]; exact hi
        obtain ⟨o, ho⟩ : ∃ o, ths[i]? = some o := ⟨_, List.getElem?_eq_getElem hil⟩
        have s2 : Same H (upd H1 T (.tup [.int (i : Nat), x2])) := s1.trans (sameAt (Same.refl _) hT)
        have hdT : d ≠ T := fun z => by rw [← z, hk1] at hT; cases hT
        have hkd2 : (upd H1 T (.tup [.int (i : Nat), x2])) d = some (.dK kvs) := by rw [upd_ne hdT]; exact hk1
        have hth := hT3 i x2 o e2 ho
        have hdrop : ths.drop i = o :: ths.drop (i + 1) := by
          rw [List.drop_eq_getElem_cons hil]
          rw [List.getElem?_eq_getElem hil] at ho
          rw [Option.some.inj ho]
        rw [hdrop] at hw
        refine ⟨T, _, rfl, SqT.of upd_same, rfl, _, _, rfl, _, _, rfl, rfl, ?_⟩
        have bad : ∀ H3, Same (upd H1 T (.tup [.int (i : Nat), x2])) H3 → wk L (o :: ths.drop (i + 1)) i S lo = (some i, S) →
            ∀ (p : Addr), H3 p = none → Q (.ref p) (upd H3 p (.tup [.int (i : Nat), .ref d])) := fun H3 s3 hbad p hp => by
          have s4 := s3.trans (sameAt (Same.refl H3) hp (o := .tup [.int (i : Nat), .ref d]))
          rw [hbad] at hw
          refine q p d _ hd (s2.trans s4) ?_ ?_
          · rw [upd_same, hw]
            rfl
          · rw [hw]
            exact ⟨kvs, s4 _ _ hkd2, hk2.mono (Nat.le_of_lt hi), fun id => (hk3 id).same ((sameAt (Same.refl H1) hT).trans s4)⟩
        refine ⟨fun σ' H3 => (∃ e y a3, o = some y ∧ x2 = .ref e ∧ EntAt H e y ∧ y.ok ∧ σ' = [some (.ref b), some (.ref a), some (.ref d), some (latV lo), some (.int (i : Nat)), some (.ref e), a3] ∧ late? lo y.arr = false) ∧ Same (upd H1 T (.tup [.int (i : Nat), x2])) H3, ?_, ?_⟩
        · cases o with
          | none =>
            refine ⟨_, rfl, x2, rfl, .inr ?_⟩
            rcases hth.same s2 with nt | ⟨e, xs, rfl, hx, hx3⟩
            · exact .inl ⟨nt, _, rfl, iteT ⟨_, rfl, _, rfl, (by show 2 ≤ sizeLine; decide), fun p hp => bad _ (Same.refl _) rfl p hp⟩⟩
            · exact .inr ⟨e, xs, rfl, hx, hx3, _, rfl, iteT ⟨_, rfl, _, rfl, (by show 2 ≤ sizeLine; decide), fun p hp => bad _ (Same.refl _) rfl p hp⟩⟩
          | some y =>
            obtain ⟨e, rfl, hx, hok⟩ := hth
            refine ⟨_, rfl, _, rfl, .inl ⟨e, y, rfl, s2 _ _ hx, hok, fun H3 s3 => ⟨_, rfl, iteF ?_⟩⟩⟩
            have hx3 : EntAt H3 e y := s3 _ _ (s2 _ _ hx)
            cases lo with
            | none => exact ⟨_, rfl, rfl, _, rfl, iteF ⟨⟨e, y, _, rfl, rfl, hx, hok, rfl, rfl⟩, s3⟩⟩
            | some n =>
              refine ⟨_, rfl, rfl, _, rfl, iteT ⟨_, rfl, e, y, rfl, hx3, _, rfl, _, _, rfl, rfl, _, rfl, ?_⟩⟩
              refine ite2 (fun c1 => ?_) (fun c1 => ?_)
              · exact ⟨_, rfl, _, rfl, (by show 2 ≤ sizeLine; decide), fun p hp => bad _ s3 (wk_late c1) p hp⟩
              · exact ⟨⟨e, y, _, rfl, rfl, hx, hok, rfl, Bool.eq_false_iff.mpr c1⟩, s3⟩
        · rintro σ' H3 ⟨⟨e, y, a3, rfl, rfl, hx, hok, rfl, hlt⟩, s3⟩
          have s23 := s2.trans s3
          have hx3 : EntAt H3 e y := s23 _ _ hx
          have hkd3 : H3 d = some (.dK kvs) := s3 _ _ hkd2
          have s13 : Same H1 H3 := (sameAt (Same.refl H1) hT).trans s3
          refine ⟨_, rfl, _, rfl, _, rfl, d, rfl, .inl ⟨_, .of hkd3⟩, _, rfl, _, _, _, _, rfl, rfl, SqT.of hx3, ent_id y, _, DGet.k (k := Sum.inl y.id) hkd3, b, e, L, y, _, S y.id, rfl, hB.same s23, hx3, hok, (hk3 y.id).same s13, hKn y.id, fun v H4 s4 hv => ?_⟩
          have s34 := s3.trans s4
          rcases hv with ⟨hb, rfl⟩ | ⟨hvn, z, hb, hvz⟩
          · exact ⟨_, rfl, rfl, _, rfl, iteT ⟨_, rfl, _, rfl, (by show 2 ≤ sizeLine; decide), fun p hp => bad _ s34 (wk_bad hlt hb) p hp⟩⟩
          · refine ⟨_, rfl, rfl, _, rfl, ?_⟩
            rw [decide_eq_false hvn]
            have hx4 : EntAt H4 e y := s4 _ _ hx3
            have hkd4 : H4 d = some (.dK kvs) := s4 _ _ hkd3
            refine iteF ⟨_, rfl, _, rfl, _, rfl, _, _, _, _, rfl, rfl, SqT.of hx4, ent_id y, d, _, rfl, DPut.k (k := Sum.inl y.id) hkd4 (small1000 (by have := hk2.len; omega)), ?_⟩
            have hed : e ≠ d := fun q => by rw [q] at hx4; rw [show H4 d = _ from hx4] at hkd4; cases hkd4
            have hx5 : EntAt (upd H4 d (.dK (putK kvs (Sum.inl y.id) v))) e y := by show upd _ _ _ _ = _; rw [upd_ne hed]; exact hx4
            have s5 : Same H (upd H4 d (.dK (putK kvs (Sum.inl y.id) v))) := sameAt (s23.trans s4) hd
            refine ⟨_, rfl, e, y, rfl, hx5, (fun j => if j = y.id then some z else S j), some y.arr, ⟨_, _, _, rfl⟩, ?_, ⟨_, upd_same, hk2.put _ _, fun id => ?_⟩, s5, ?_⟩
            · rw [hw, wk_go hlt hb]
            · rw [valV_put]
              show RowV _ _ _ (if id = y.id then some z else S id)
              have rv : ∀ {w : Option V} {o : Option RowSt}, RowV a_TAKEN_BACK H4 w o → RowV a_TAKEN_BACK (upd H4 d (.dK (putK kvs (Sum.inl y.id) v))) w o := fun {w o} h => rowV_off h hkd4
              by_cases ej : id = y.id
              · rw [if_pos (by rw [ej]), if_pos ej]
                exact rv hvz
              · rw [if_neg (fun q => ej (Sum.inl.inj q)), if_neg ej]
                exact rv (((hk3 id).same s13).same s4)
            · intro id z1 k m a' he
              by_cases ej : id = y.id
              · have he : (if id = y.id then some z else S id) = some (.at_ z1 k m a') := he
                rw [if_pos ej] at he
                exact behind_ok hok (hKn y.id) hb _ _ _ _ (Option.some.inj he)
              · have he : (if id = y.id then some z else S id) = some (.at_ z1 k m a') := he
                rw [if_neg ej] at he
                exact hKn id _ _ _ _ he
      · rintro σ H1 ⟨S, lo, ⟨a1, a2, a3, rfl⟩, hw, hk, s1, hKn⟩
        have e : ths.drop us.length = [] := by rw [hlen]; exact List.drop_length
        rw [e] at hw
        refine ⟨_, rfl, (by show 2 ≤ sizeLine; decide), fun p hp => ?_⟩
        have s4 := sameAt (Same.refl H1) hp (o := .tup [.non, .ref d])
        obtain ⟨kvs, hk1, hk2, hk3⟩ := hk
        refine q p d _ hd (s1.trans s4) ?_ ?_
        · rw [upd_same, hw]
          rfl
        · rw [hw]
          exact ⟨kvs, s4 _ _ hk1, hk2, fun id => (hk3 id).same s4⟩
end
end Ash

set_option Elab.async false
set_option linter.all false
set_option maxRecDepth 100000
set_option maxHeartbeats 4000000
namespace Ash
open PySem PySem.Spec PyProof.Rows L2
open C8 (pss_cut)
/-! ### journals -/
def jf (b t kd : Addr) : List (Str × V) := putF "_known" (.ref kd) (putF "entries" (.ref t) (putF "book" (.ref b) []))
theorem jf_b (b t kd : Addr) : (jf b t kd).lookup ("book" : Str) = some (.ref b) := by
  unfold jf
  rw [lookup_putF, if_neg (by decide +kernel), lookup_putF, if_neg (by decide +kernel), lookup_putF, if_pos rfl]
theorem jf_e (b t kd : Addr) : (jf b t kd).lookup ("entries" : Str) = some (.ref t) := by
  unfold jf
  rw [lookup_putF, if_neg (by decide +kernel), lookup_putF, if_pos rfl]
theorem jf_k (b t kd : Addr) : (jf b t kd).lookup ("_known" : Str) = some (.ref kd) := by
  unfold jf
  rw [lookup_putF, if_pos rfl]
theorem jf_no (b t kd : Addr) {m : Str} (h1 : ¬ m = "_known") (h2 : ¬ m = "entries") (h3 : ¬ m = "book") : (jf b t kd).lookup m = none := by
  unfold jf
  rw [lookup_putF, if_neg h1, lookup_putF, if_neg h2, lookup_putF, if_neg h3]
  rfl
/-- a journal of the book at b with the things us, which are the entries xs -/
def JAt (K : PySem.W.Frag) (aT CJ CB : Addr) (H : Hp) (j b : Addr) (L : List (Str × Int)) (us : List V) (xs : List Ent) : Prop := ∃ dx t kd, H j = some (.ins CJ dx (jf b t kd)) ∧ BookAt CB H b L ∧ SqT K H t us ∧ us.length = xs.length ∧
  (∀ (i : Nat) v x, us[i]? = some v → xs[i]? = some x → ThAt K H v (some x)) ∧ (wk L (xs.map some) 0 (fun _ => none) none).1 = none ∧ KnAt aT H kd (wk L (xs.map some) 0 (fun _ => none) none).2 us.length
theorem KnAt.same {aT : Addr} {H H' : Hp} {d : Addr} {S : Kn} {n : Nat} (h : KnAt aT H d S n) (s : Same H H') : KnAt aT H' d S n := by
  obtain ⟨kvs, h1, h2, h3⟩ := h
  exact ⟨kvs, s _ _ h1, h2, fun id => (h3 id).same s⟩
theorem JAt.same {K : PySem.W.Frag} {aT CJ CB : Addr} {H H' : Hp} {j b : Addr} {L : List (Str × Int)} {us : List V} {xs : List Ent} (h : JAt K aT CJ CB H j b L us xs) (s : Same H H') : JAt K aT CJ CB H' j b L us xs := by
  obtain ⟨dx, t, kd, h1, h2, h3, h4, h5, h6, h7⟩ := h
  exact ⟨dx, t, kd, s _ _ h1, h2.same s, seqS h3 s, h4, fun i v x a b => (h5 i v x a b).same s, h6, h7.same s⟩
def spIsRow (K : PySem.W.Frag) : Sp := fun vs H Q _ => ∃ (a : Addr) (us : List V), vs = [.ref a] ∧ (H a = some (.lst us) ∨ SqT K H a us) ∧ ∀ H', Same H H' → Q (.bl true) H'
/-- the made error's dict -/
def Xd (H : Hp) (d : Addr) (fl : Str) (v : V) : Prop := H d = some (.xd [(fl, v)])
def spJInit (K : PySem.W.Frag) (aT CJ CB CE : Addr) : Sp := fun vs H Q E => ∃ (j dx b a : Addr) (L : List (Str × Int)) (us : List V) (ths : List (Option Ent)), vs = [.ref j, .ref b, .ref a] ∧ H j = some (.ins CJ dx []) ∧ BookAt CB H b L ∧ (H a = some (.lst us) ∨ SqT K H a us) ∧ us.length ≤ 400 ∧ us.length = ths.length ∧
  (∀ (i : Nat) v o, us[i]? = some v → ths[i]? = some o → ThAt K H v o) ∧
  (∀ H' xs, ths = xs.map some → (wk L ths 0 (fun _ => none) none).1 = none → JAt K aT CJ CB H' j b L us xs → (∃ dx t kd, H' j = some (.ins CJ dx (jf b t kd)) ∧ H kd = none) → (∀ c o, H c = some o → c ≠ j → H' c = some o) → Q .non H') ∧
  (∀ i d H', (wk L ths 0 (fun _ => none) none).1 = some i → Same H H' → Xd H' d "at" (.int (i : Int)) → E (.ref CE) (some d) H')
/-- what the top says of Journal and of the errors -/
structure Cj (P : Program) (K : PySem.W.Frag) (mg : Str → Option Value) (CJ CB : Addr) : Prop where
  cl : Cls K CJ
  nB : NoAttr K CJ "book"
  nE : NoAttr K CJ "entries"
  nK : NoAttr K CJ "_known"
  c : mg "Journal" = some (.ref CJ)
theorem wk_some {L : List (Str × Int)} : ∀ {ths : List (Option Ent)} {i : Nat} {S : Kn} {l : Option Int}, (wk L ths i S l).1 = none → ∃ xs : List Ent, ths = xs.map some
  | [], _, _, _, _ => ⟨[], rfl⟩
  | none :: r, i, S, l, h => by
    rw [wk_odd] at h
    cases h
  | some x :: r, i, S, l, h => by
    by_cases c : late? l x.arr = true
    · rw [wk_late c] at h
      cases h
    · have c : late? l x.arr = false := Bool.eq_false_iff.mpr c
      cases hb : behind L x (S x.id) with
      | none =>
        rw [wk_bad c hb] at h
        cases h
      | some y =>
        rw [wk_go c hb] at h
        obtain ⟨xs, e⟩ := wk_some h
        exact ⟨x :: xs, by rw [e]; rfl⟩
/-- all but an instance stands -/
theorem BookAt.chg {CB j C dx : Addr} {H H' : Hp} {b : Addr} {L : List (Str × Int)} (h : BookAt CB H b L) (hj : H j = some (.ins C dx [])) (k : ∀ c o, H c = some o → c ≠ j → H' c = some o) : BookAt CB H' b L := by
  obtain ⟨dx, d, L', h1, h2, h3⟩ := h
  exact ⟨dx, d, L', k _ _ h1 (ne_of h1 hj (by intro z; cases z)), k _ _ h2 (ne_of h2 hj (by intro z; cases z)), h3⟩
theorem seqC {K : PySem.W.Frag} {H H' : Hp} {a j C dx : Addr} {us : List V} (h : SqT K H a us) (hj : H j = some (.ins C dx [])) (k : ∀ c o, H c = some o → c ≠ j → H' c = some o) : SqT K H' a us := by
  rcases h with (h | ⟨o, h⟩) | h
  · exact .inl (.inl (k _ _ h (ne_of h hj (by intro z; cases z))))
  · exact .inl (.inr ⟨o, k _ _ h (ne_of h hj (by intro z; cases z))⟩)
  · exact .inr h
theorem knC {aT j : Addr} {H H' : Hp} {d : Addr} {S : Kn} {n : Nat} (h : KnAt aT H d S n) (k : ∀ c o, H c = some o → c ≠ j → H' c = some o) (hj : ∃ C dx fs, H j = some (.ins C dx fs)) : KnAt aT H' d S n := by
  obtain ⟨kvs, h1, h2, h3⟩ := h
  obtain ⟨C, dx, fs, hj⟩ := hj
  refine ⟨kvs, k _ _ h1 (ne_of h1 hj (by intro z; cases z)), h2, fun id => ?_⟩
  have q := h3 id
  cases e : valV kvs (Sum.inl id : Key) with
  | none => rw [e] at q; cases eS : S id <;> (rw [eS] at q; exact q)
  | some v =>
    rw [e] at q
    cases eS : S id with
    | none => rw [eS] at q; exact q
    | some o =>
      rw [eS] at q
      cases o with
      | tb => exact q
      | at_ z kk m a =>
        obtain ⟨t, e1, e2⟩ := q
        exact ⟨t, e1, k _ _ e2 (ne_of e2 hj (by intro z; cases z))⟩
theorem thC {K : PySem.W.Frag} {H H' : Hp} {j C dx : Addr} {v : V} {x : Ent} (h : ThAt K H v (some x)) (hj : H j = some (.ins C dx [])) (k : ∀ c o, H c = some o → c ≠ j → H' c = some o) : ThAt K H' v (some x) := by
  obtain ⟨e, h1, h2, h3⟩ := h
  exact ⟨e, h1, k _ _ h2 (ne_of h2 hj (by intro z; cases z)), h3⟩
section
variable {P : Program} {w : World} {K : PySem.W.Frag} {mg : Str → Option Value} {base : Heap}
abbrev s_is_row : Stmt := topS 18
theorem sc_is_row : FnScope ["thing"] ["thing"] (defScope s_is_row) := ⟨rfl, rfl, rfl, by decide +kernel, rfl, by decide +kernel, by decide +kernel⟩
theorem ok_is_row {f : Addr} {fd : FuncData} (F : Fun K "is_row" "is_row" s_is_row f fd) (B : Blt mg) : FnOk P w K mg base CX0 1 f fd ["thing"] (spIsRow K) := by
  refine F.ok sc_is_row (fun vs H Q E h => ?_) (fun cdv A outer s H vs Q E hr h => ?_)
  · obtain ⟨a, us, rfl, _⟩ := h
    rfl
  · obtain ⟨a, us, rfl, hS, q⟩ := h
    refine ⟨_, (pss_one (ps_ret (pe_callB call_isiT (by rfl) B.isinstance (by decide +kernel) (pa_cons (pv 0) (pa_cons (pe_tup (pa_cons (pe_bltn (v := .ty "list") (by rfl) B.list (by decide +kernel) rfl) (pa_cons (pe_bltn (v := .ty "tuple") (by rfl) B.tuple (by decide +kernel) rfl) pa_nil))) pa_nil))))), ?_⟩
    refine ⟨_, rfl, (by show 2 ≤ sizeLine; decide), fun p hp => ?_⟩
    rcases hS with hS | hS
    · refine ⟨_, p, _, .type "list", [.type "list", .type "tuple"], true, rfl, upd_same, .cons (ClsV.ty _) (.cons (ClsV.ty _) .nil), .base (.lst (by rw [upd_ne (ne_of_none hS hp)]; exact hS)), kitAny_cons (b := true) (kit_ty (by decide +kernel)) (fun z => by cases z) (fun _ => rfl), q _ (sameAt (Same.refl H) hp)⟩
    · have ty : TyX K (upd H p (.tup [.ty "list", .ty "tuple"])) (.ref a) (.type "tuple") := by
        rcases hS with (h | ⟨o, h⟩) | ⟨o, its, n, h1, h2, h3⟩
        · exact .base (.tup (by rw [upd_ne (ne_of_none h hp)]; exact h))
        · exact .fTuple (by rw [upd_ne (ne_of_none h hp)]; exact h)
        · exact .kTuple h1 h2
      refine ⟨_, p, _, .type "tuple", [.type "list", .type "tuple"], true, rfl, upd_same, .cons (ClsV.ty _) (.cons (ClsV.ty _) .nil), ty, kitAny_cons (b := false) (kit_ty (by decide +kernel)) (fun _ => kitAny_cons (b := true) (kit_ty (by decide +kernel)) (fun z => by cases z) (fun _ => rfl)) (fun z => by cases z), q _ (sameAt (Same.refl H) hp)⟩
structure K7 (P : Program) (w : World) (K : PySem.W.Frag) (mg : Str → Option Value) (base : Heap) (CB aT : Addr) : Prop extends K6 P w K mg base CB aT where
  walked : Cal P w K mg base CX0 "walked" 6 ["book", "things"] (spWalked K aT CB)
  is_row : Cal P w K mg base CX0 "is_row" 1 ["thing"] (spIsRow K)
theorem par_at : PySem.BadX.Par "at" := ⟨by decide, by decide +kernel, by decide +kernel, by decide +kernel, by decide +kernel⟩
theorem par_value : PySem.BadX.Par "value" := ⟨by decide, by decide +kernel, by decide +kernel, by decide +kernel, by decide +kernel⟩
abbrev s_Journal_init : Stmt := inClass (topS 35) 0
theorem sc_Journal_init : FnScope ["self", "book", "entries", "at", "known"] ["self", "book", "entries"] (defScope s_Journal_init) := ⟨rfl, rfl, rfl, by decide +kernel, rfl, by decide +kernel, by decide +kernel⟩
theorem ok_j_init {f CJ CBook CE fE aT aE : Addr} {fd : FuncData} (F : FunD K "__init__" "Journal.__init__" (defArgs s_Journal_init) (defBody s_Journal_init) (defScope s_Journal_init) [.ref aE] [] f fd) (B : Blt mg) (Cs : Cst mg) (T : Cj P K mg CJ CBook) (TB : Cb K mg CBook) (TE : PySem.BadX.Txt P K mg "at" "at" CE fE) (c_BadEntry : mg "BadEntry" = some (.ref CE))
    (bk : ∀ H b dx fs, H b = some (.ins CBook dx fs) → TyX K H (.ref b) (.ref CBook)) (G : K7 P w K mg base CBook aT) : FnOk P w K mg base (L2.CX P w) 7 f fd ["self", "book", "entries"] (spJInit K aT CJ CBook CE) := by
  obtain ⟨t1, g_MOST_ENTRIES⟩ := Cs.k_MOST_ENTRIES
  have c_Book := TB.c
  refine F.ok (CX := L2.CX P w) sc_Journal_init (fun vs H Q E h => ?_) (fun cdv A outer s H vs Q E hr h => ?_)
  · obtain ⟨j, dx, b, a, L, us, ths, rfl, _⟩ := h
    rfl
  · obtain ⟨j, dx, b, a, L, us, ths, rfl, hj, hB, hS, h4, hlen, hT, qg, qb⟩ := h
    have hu := hu_of hr
    refine ⟨_, (pss_cons (ps_if (pt_not (pt_val (pe_callB call_isi (by rfl) B.isinstance (by decide +kernel) (pa_cons (pv 1) (pa_cons (pe_glob (v := .ref CBook) (by rfl) c_Book rfl) pa_nil)))))
      (pss_one ps_never)
      pss_nil)
    (pss_cons (ps_if (PW.pt (pw_or (pt_not (pt_val (pe_cal G.is_row (hr.mono (by decide)) pass0 (pa_cons (pv 2) pa_nil)))) (pw_or1 (pt_cmpR op_gt (pe_callB call_len_seq (by rfl) B.len (by decide +kernel) (pa_cons (pv 2) pa_nil)) (pe_glob (v := .int 400) (by rfl) g_MOST_ENTRIES ⟨_, rfl⟩) (nomark _)))))
      (pss_one ps_never)
      pss_nil)
    (pss_cons (ps_asg (pe_cal G.walked (hr.mono (by decide)) pass0 (pa_cons (pv 1) (pa_cons (pv 2) pa_nil))) (pg_tup (by rfl) (pgs_cons (pg_name (i := 3) sc_Journal_init.nd rfl (Or.inl rfl)) (pgs_cons (pg_name (i := 4) sc_Journal_init.nd rfl (Or.inl rfl)) pgs_nil))))
    (pss_cons (ps_if (pt_cmpR op_notN (pv 3) pe_non (nomark _))
      (pss_one (ps_raiseB rfl TE par_at c_BadEntry (hr.mono (Nat.zero_le _)) (takes_of rfl rfl rfl rfl) (pa_cons (pv 3) pa_nil) (by rfl)))
      pss_nil)
    (pss_cons (ps_fld (pv 0) (pv 1) rfl)
    (pss_cons (ps_fld (pv 0) (pe_callTy call_tuple_of (by rfl) B.tuple (by decide +kernel) (pa_cons (pv 2) pa_nil)) rfl)
    (pss_one (ps_fld (pv 0) (pv 4) rfl)))))))), ?_⟩
    obtain ⟨bx, bd, L', b1, b2, b3⟩ := id hB
    refine ⟨_, rfl, _, _, _, _, true, rfl, ClsV.own _, bk _ _ _ _ b1, (by show PySem.W.kitOne K _ _ = _; unfold PySem.W.kitOne; rw [if_pos (by simp)]), _, rfl, iteF ?_⟩
    refine ⟨_, rfl, a, us, rfl, hS, fun H1 s1 => ⟨_, rfl, iteF ?_⟩⟩
    have hS1 : SqL K H1 a us ∨ SqT K H1 a us := by
      rcases hS with h | h
      · exact .inl (SqL.of (s1 _ _ h))
      · exact .inr (seqS h s1)
    refine ⟨_, rfl, a, us, rfl, hS1, _, _, rfl, rfl, _, rfl, ?_⟩
    rw [decide_eq_false (show ¬ (400 : Int) < (us.length : Int) by omega)]
    refine iteF ⟨_, rfl, _, rfl, b, a, L, us, ths, rfl, hB.same s1, hS1, by omega, hlen, fun i v o x y => (hT i v o x y).same s1, fun t kd H2 hkn s2 ht hk => ?_⟩
    have s12 := s1.trans s2
    have hkd0 : H kd = none := by
      cases e : H kd with
      | none => rfl
      | some o => rw [s1 _ _ e] at hkn; cases hkn
    refine ⟨t, _, rfl, SqT.of ht, rfl, _, _, rfl, _, _, rfl, rfl, ?_⟩
    have hj2 : H2 j = some (.ins CJ dx []) := s12 _ _ hj
    cases hw : (wk L ths 0 (fun _ => none) none).1 with
    | some i =>
      refine ⟨_, rfl, rfl, _, rfl, ?_⟩
      show if (!decide (atV (some i) = V.non)) = true then _ else _
      exact iteT ⟨_, rfl, _, rfl, fun d hd => qb i d _ hw (s12.trans (sameAt (Same.refl H2) hd)) upd_same⟩
    | none =>
      refine ⟨_, rfl, rfl, _, rfl, ?_⟩
      show if (!decide (atV none = V.non)) = true then _ else _
      refine iteF ?_
      obtain ⟨xs, hxs⟩ := wk_some hw
      have hlx : us.length = xs.length := by rw [hlen, hxs, List.length_map]
      have hTx : ∀ (i : Nat) v x, us[i]? = some v → xs[i]? = some x → ThAt K H v (some x) := fun i v x a b => hT i v (some x) a (by rw [hxs, List.getElem?_map, b]; rfl)
      have fin : ∀ H', (∀ c o, H2 c = some o → c ≠ j → H' c = some o) → (∃ t, H' j = some (.ins CJ dx (jf b t kd)) ∧ SqT K H' t us) → Q .non H' := fun H' kk2 ⟨t, h1, h2⟩ => by
        have kk : ∀ c o, H c = some o → c ≠ j → H' c = some o := fun c o h n => kk2 c o (s12 _ _ h) n
        refine qg H' xs hxs hw ⟨dx, t, kd, h1, hB.chg hj kk, h2, hlx, fun i v x a b => thC (hTx i v x a b) hj kk, by rw [← hxs]; exact hw, by rw [← hxs]; exact knC hk kk2 ⟨_, _, _, hj2⟩⟩ ⟨dx, t, kd, h1, hkd0⟩ kk
      refine ⟨_, rfl, _, rfl, j, CJ, dx, [], rfl, hj2, T.cl, T.nB, (by show 0 < 1000; decide), ?_⟩
      generalize eA : upd H2 j (.ins CJ dx (putF "book" (.ref b) [])) = HA
      have hA : HA j = some (.ins CJ dx (putF "book" (.ref b) [])) := by rw [← eA]; exact upd_same
      have kA2 : ∀ c o, H2 c = some o → c ≠ j → HA c = some o := fun c o h n => by rw [← eA, upd_ne n]; exact h
      have kA : ∀ c o, H c = some o → c ≠ j → HA c = some o := fun c o h n => kA2 c o (s12 _ _ h) n
      clear eA
      rcases hS with hS | hS
      · have haj : a ≠ j := ne_of hS hj (by intro z; cases z)
        refine ⟨_, rfl, a, us, rfl, .inl ⟨SqL.of (kA _ _ hS haj), fun l hl => ?_⟩⟩
        have hlj : l ≠ j := fun z => by rw [z, hA] at hl; cases hl
        refine ⟨_, rfl, j, CJ, dx, _, rfl, (by rw [upd_ne hlj.symm]; exact hA), T.cl, T.nE, (by show 1 < 1000; decide), ?_⟩
        refine ⟨_, rfl, _, rfl, j, CJ, dx, _, rfl, upd_same, T.cl, T.nK, (by show 2 < 1000; decide), ?_⟩
        refine fin _ (fun c o h n => ?_) ⟨l, upd_same, SqT.of (by rw [upd_ne hlj, upd_ne hlj, upd_same])⟩
        have hcl : c ≠ l := fun z => by rw [← z, kA2 c o h n] at hl; cases hl
        rw [upd_ne n, upd_ne n, upd_ne hcl]
        exact kA2 c o h n
      · refine ⟨_, rfl, a, us, rfl, .inr ⟨seqC hS hj kA, ?_⟩⟩
        refine ⟨_, rfl, j, CJ, dx, _, rfl, hA, T.cl, T.nE, (by show 1 < 1000; decide), ?_⟩
        refine ⟨_, rfl, _, rfl, j, CJ, dx, _, rfl, upd_same, T.cl, T.nK, (by show 2 < 1000; decide), ?_⟩
        have kF : ∀ c o, H2 c = some o → c ≠ j → (upd (upd HA j (.ins CJ dx (putF "entries" (.ref a) (putF "book" (.ref b) [])))) j (.ins CJ dx (putF "_known" (.ref kd) (putF "entries" (.ref a) (putF "book" (.ref b) []))))) c = some o := fun c o h n => by
          rw [upd_ne n, upd_ne n]
          exact kA2 c o h n
        exact fin _ kF ⟨a, upd_same, seqC hS hj fun c o h n => kF c o (s12 _ _ h) n⟩
structure K8 (P : Program) (w : World) (K : PySem.W.Frag) (mg : Str → Option Value) (base : Heap) (CB aT CJ CE : Addr) : Prop extends K7 P w K mg base CB aT where
  Journal : Mak P w K mg base (L2.CX P w) "Journal" CJ 7 ["self", "book", "entries"] (spJInit K aT CJ CB CE)
theorem wk_ge {L : List (Str × Int)} : ∀ {xs : List Ent} {i : Nat} {S : Kn} {t : Int}, (wk L (xs.map some) i S (some t)).1 = none → ∀ x ∈ xs, t ≤ x.arr
  | [], _, _, _, _, x, hx => nomatch hx
  | y :: r, i, S, t, h, x, hx => by
    have h : (wk L (some y :: r.map some) i S (some t)).1 = none := h
    by_cases c : late? (some t) y.arr = true
    · rw [wk_late c] at h
      cases h
    · have c0 : late? (some t) y.arr = false := Bool.eq_false_iff.mpr c
      have c1 : ¬ y.arr < t := fun z => c (decide_eq_true z)
      cases hb : behind L y (S y.id) with
      | none =>
        rw [wk_bad c0 hb] at h
        cases h
      | some z =>
        rw [wk_go c0 hb] at h
        rcases List.mem_cons.mp hx with rfl | hx
        · omega
        · have := wk_ge h x hx
          omega
theorem wk_cut {L : List (Str × Int)} (n : Int) : ∀ {xs : List Ent} {i : Nat} {S : Kn} {l : Option Int}, (wk L (xs.map some) i S l).1 = none →
    ∃ k, k ≤ xs.length ∧ (∀ (j : Nat) x, xs[j]? = some x → (x.arr ≤ n ↔ j < k)) ∧ (wk L ((xs.take k).map some) i S l).1 = none ∧ xs.filter (fun x => decide (x.arr ≤ n)) = xs.take k
  | [], _, _, _, _ => ⟨0, Nat.le_refl _, fun j x h => by simp at h, rfl, rfl⟩
  | y :: r, i, S, l, h => by
    have h : (wk L (some y :: r.map some) i S l).1 = none := h
    by_cases c : late? l y.arr = true
    · rw [wk_late c] at h
      cases h
    · have c0 : late? l y.arr = false := Bool.eq_false_iff.mpr c
      cases hb : behind L y (S y.id) with
      | none =>
        rw [wk_bad c0 hb] at h
        cases h
      | some z =>
        rw [wk_go c0 hb] at h
        by_cases cn : y.arr ≤ n
        · obtain ⟨k, k1, k2, k3, k4⟩ := wk_cut n h
          refine ⟨k + 1, by rw [List.length_cons]; omega, fun j x hj => ?_, ?_, ?_⟩
          · cases j with
            | zero =>
              have : y = x := Option.some.inj hj
              subst this
              exact ⟨fun _ => Nat.succ_pos _, fun _ => cn⟩
            | succ j =>
              have := k2 j x hj
              omega
          · show (wk L (some y :: (r.take k).map some) i S l).1 = none
            rw [wk_go c0 hb]
            exact k3
          · rw [List.filter_cons, if_pos (decide_eq_true cn), k4]
            rfl
        · refine ⟨0, Nat.zero_le _, fun j x hj => ?_, rfl, ?_⟩
          · have hx := List.mem_of_getElem? hj
            have : n < x.arr := by
              rcases List.mem_cons.mp hx with rfl | hx
              · omega
              · have := wk_ge h x hx
                omega
            omega
          · rw [List.filter_eq_nil_iff.mpr]
            · rfl
            · intro x hx
              rcases List.mem_cons.mp hx with rfl | hx
              · simpa using cn
              · have := wk_ge h x hx
                simp
                omega
def spThen (K : PySem.W.Frag) (aT CJ CB CE : Addr) : Sp := fun vs H Q E => ∃ (j b : Addr) (L : List (Str × Int)) (us : List V) (xs : List Ent) (v : V) (o : Option Ent), vs = [.ref j, v] ∧ JAt K aT CJ CB H j b L us xs ∧ us.length < 400 ∧ ThAt K H v o ∧
  (∀ j' H' x, o = some x → (wk L ((xs ++ [x]).map some) 0 (fun _ => none) none).1 = none → Same H H' → JAt K aT CJ CB H' j' b L (us ++ [v]) (xs ++ [x]) → Q (.ref j') H') ∧
  (∀ i d H', (wk L (xs.map some ++ [o]) 0 (fun _ => none) none).1 = some i → Same H H' → Xd H' d "at" (.int (i : Int)) → E (.ref CE) (some d) H')
def spHeard (K : PySem.W.Frag) (aT CJ CB CM : Addr) : Sp := fun vs H Q E => ∃ (j b : Addr) (L : List (Str × Int)) (us : List V) (xs : List Ent) (v : V), vs = [.ref j, v] ∧ JAt K aT CJ CB H j b L us xs ∧ us.length ≤ 400 ∧
  ((∃ n, v = .int n ∧ ∀ k j' H', xs.filter (fun x => decide (x.arr ≤ n)) = xs.take k → Same H H' → JAt K aT CJ CB H' j' b L (us.take k) (xs.take k) → Q (.ref j') H') ∨
   (NotInt K H v ∧ ∀ d H', Same H H' → Xd H' d "value" v → E (.ref CM) (some d) H'))
theorem mk_same {H H' : Hp} {x dx C : Addr} (nx : H x = none) (nd : H dx = none) (k : ∀ c o, (upd (upd H dx (.own x)) x (.ins C dx [])) c = some o → c ≠ x → H' c = some o) : Same H H' := fun c o h =>
  k c o (by rw [upd_ne (ne_of_none h nx), upd_ne (ne_of_none h nd)]; exact h) (ne_of_none h nx)
end
end Ash

set_option Elab.async false
set_option linter.all false
set_option maxRecDepth 100000
set_option maxHeartbeats 4000000
namespace Ash
open PySem PySem.Spec PyProof.Rows L2
open C8 (pss_cut)
section
variable {P : Program} {w : World} {K : PySem.W.Frag} {mg : Str → Option Value} {base : Heap}
abbrev s_Journal_heard : Stmt := inClass (topS 35) 6
theorem sc_Journal_heard : FnScope ["self", "h", "entry"] ["self", "h"] (defScope s_Journal_heard) := ⟨rfl, rfl, rfl, by decide +kernel, rfl, by decide +kernel, by decide +kernel⟩
theorem ok_heard {f CJ CB CE CM fM aT : Addr} {fd : FuncData} (F : Fun K "heard" "Journal.heard" s_Journal_heard f fd) (B : Blt mg) (T : Cj P K mg CJ CB) (TM : PySem.BadX.Txt P K mg "value" "value" CM fM) (c_BadMoment : mg "BadMoment" = some (.ref CM)) (G : K8 P w K mg base CB aT CJ CE) : FnOk P w K mg base (L2.CX P w) 9 f fd ["self", "h"] (spHeard K aT CJ CB CM) := by
  refine F.okX sc_Journal_heard (fun vs H Q E h => ?_) (fun cdv A outer s H vs Q E hr h => ?_)
  · obtain ⟨j, b, L, us, xs, v, rfl, _⟩ := h
    rfl
  · obtain ⟨j, b, L, us, xs, v, rfl, hJ, h4, hv⟩ := h
    refine ⟨_, (pss_cons (ps_if (pt_not (pt_val (pe_cal G.is_integer (hr.mono (by decide)) pass0 (pa_cons (pv 1) pa_nil))))
      (pss_one (ps_raiseB rfl TM par_value c_BadMoment (hr.mono (Nat.zero_le _)) (takes_of rfl rfl rfl rfl) (pa_cons (pv 1) pa_nil) (by rfl)))
      pss_nil)
    (pss_one (ps_ret (pe_mak G.Journal (hr.mono (by decide)) (passE (takes_of rfl rfl rfl rfl)) (pa_cons (pe_fld (pv 0) rfl) (pa_cons (pe_lc (own := [("entry", 2)]) (g := gName 2) (by rfl) sc_Journal_heard.nd (pi_tup (pe_fld (pv 0) rfl)) (blkOk_by (own := [("entry", 2)]) (N := ["self", "h", "entry"]) (sc := defScope s_Journal_heard) (by decide +kernel)) (fun _ _ _ _ _ => (pg_name (i := 2) sc_Journal_heard.nd rfl (Or.inl rfl))) (fun _ _ _ _ _ => pts_one (pt_cmpR op_le (pe_cal G.arrival_of (hr.mono (by decide)) pass0 (pa_cons (pv 2) pa_nil)) (pv 1) (nomark _))) (fun _ _ _ _ _ => (pv 2))) pa_nil)))))), ?_⟩
    obtain ⟨dx, t, kd, h1, h2, h3, hl, h5, h6, h7⟩ := id hJ
    rcases hv with ⟨n, rfl, q⟩ | ⟨ni, q⟩
    · refine ⟨_, rfl, _, rfl, .inl ⟨n, rfl, _, rfl, iteF ?_⟩⟩
      obtain ⟨k, k1, k2, k3, k4⟩ := wk_cut n h6
      refine ⟨_, rfl, j, CJ, dx, _, _, rfl, h1, T.cl, T.nB, jf_b _ _ _, _, rfl, j, CJ, dx, _, _, rfl, h1, T.cl, T.nE, jf_e _ _ _, t, rfl, ⟨_, h3⟩, fun D hD => lc_it (walk_tup (xs := us)) (fun i H1 => H1 D = some (.lst (us.take (min i k))) ∧ Same H H1) ⟨by rw [Nat.zero_min]; exact upd_same, sameAt (Same.refl H) hD⟩ (fun i H1 _ hv => seqS h3 hv.2) ?_ ?_⟩
      · rintro i v H1 H2 hi ⟨hD1, s1⟩ ⟨rfl, hvi⟩
        have hix : i < xs.length := by rw [← hl]; exact hi
        obtain ⟨x, hx⟩ : ∃ x, xs[i]? = some x := ⟨_, List.getElem?_eq_getElem hix⟩
        obtain ⟨e, rfl, he, hok⟩ := h5 i v x hvi hx
        refine ⟨rfl, _, rfl, e, x, rfl, s1 _ _ he, _, rfl, _, _, rfl, rfl, _, rfl, ?_⟩
        refine ite2 (fun c => ?_) (fun c => ?_)
        · have c : x.arr ≤ n := of_decide_eq_true c
          have ik := (k2 i x hx).mp c
          refine ⟨_, rfl, _, hD1, (by rw [List.length_take]; exact small1000 (by omega)), ?_, sameAt s1 hD⟩
          rw [upd_same, Nat.min_eq_left (Nat.le_of_lt ik), Nat.min_eq_left (by omega), list_take hvi]
        · have c : ¬ x.arr ≤ n := fun z => c (decide_eq_true z)
          have ik : k ≤ i := Nat.le_of_not_lt fun z => c ((k2 i x hx).mpr z)
          refine ⟨?_, s1⟩
          rw [hD1, Nat.min_eq_right ik, Nat.min_eq_right (by omega)]
      · rintro H1 ⟨hD1, s1⟩
        rw [Nat.min_eq_right (by omega)] at hD1
        intro x dx' nx ndx nex
        have sX : Same H1 (upd (upd H1 dx' (.own x)) x (.ins CJ dx' [])) := (sameAt (Same.refl _) ndx).trans (sameAt (Same.refl _) (by rw [upd_ne (Ne.symm nex)]; exact nx))
        refine ⟨x, dx', b, D, L, us.take k, (xs.take k).map some, rfl, upd_same, h2.same (s1.trans sX), .inl (sX _ _ hD1), by rw [List.length_take]; omega, by rw [List.length_take, List.length_map, List.length_take, hl], fun i v' o' hi ho => ?_, fun H' ys hys hw hJ' _ kk => ⟨rfl, ?_⟩, fun i d H' hw s hx => ?_⟩
        · have hik : i < k := by
            have := (List.getElem?_eq_some_iff.mp hi).1
            rw [List.length_take] at this
            omega
          rw [List.getElem?_take_of_lt hik] at hi
          rw [List.getElem?_map, List.getElem?_take_of_lt hik] at ho
          cases e : xs[i]? with
          | none => rw [e] at ho; cases ho
          | some y =>
            rw [e] at ho
            cases ho
            exact (h5 i v' y hi e).same (s1.trans sX)
        · have e : ys = xs.take k := (List.map_inj_right (fun a b h => Option.some.inj h)).mp hys.symm
          subst e
          exact q k x H' k4 (s1.trans (mk_same nx ndx kk)) hJ'
        · rw [k3] at hw
          cases hw
    · refine ⟨_, rfl, _, rfl, .inr ⟨ni, _, rfl, iteT ?_⟩⟩
      exact ⟨_, rfl, _, rfl, fun d hd => q d _ (sameAt (Same.refl H) hd) upd_same⟩
end
end Ash

set_option Elab.async false
set_option linter.all false
set_option maxRecDepth 100000
set_option maxHeartbeats 4000000
/-! ### own errors in a suite that handles one, and out of it -/
namespace L2H
open PySem PySem.Spec PyProof.Rows L2 HotX
theorem roomM {k : Nat} {A : Around} {h : Option Value} (r : Room k A) : RoomH 0 (A.mark h) := ⟨by have := r.dp; show A.depth + 3 * 0 + 5 < _; omega, by have := r.un; show A.units + 16 * 0 + 200 < _; omega⟩
section
variable {X : Cx} {C fI : Addr}
theorem pmk_bad5 {x par fl : Str} {a : Expr} {ta : TA} {p pos : Pos} {k : Nat} (T : PySem.BadX.Txt X.prog X.K X.mg par fl C fI) (pr : PySem.BadX.Par par) (hm : X.mg x = some (.ref C)) (hr : RoomH k X.A) (ha : PA X [a] ta) (hg : Gl X x)
    (hdb : (x == ("__debug__" : Str)) = false := by decide)
    (he : starEach (a :: []) X.env = (false, eval a X.env) :: starEach [] X.env := by rfl) (hpl : (backTo pos (starEach [] X.env)).any (·.1) = false := by rfl) :
    PMk5 X (.Call (.Name x p) [a] [] pos) (tMkB fl C ta) := by
  intro pins s σ H Q I h
  refine wpAny_Call_Name_kw (ld_glob I hg hm ?_ hdb)
  refine PySem.W.callWith_K (h₀ := X.base) I.ok.mod.kin T.kC (thn (ha.run pos pins s σ H _ I h) fun us s1 hh => ?_) he hpl
  obtain ⟨vs, H1, I1, r1, v, ev, q1⟩ := hh
  subst ev
  refine ⟨I1.kIn, ?_⟩
  cases r1 with
  | cons rv rn =>
    rename_i v' us'
    cases rn
    show wpAny _ _ (call (.ref C) [v']) _ _ _
    have hlim := I1.nolimit
    obtain ⟨mb, hb1, hb2⟩ := I1.mod.blt
    have Gn : s1.heap.Ns mainGlobals X.mg := I1.mod.glob.keeps I1.bk
    have Bn : s1.heap.Ns builtinsNs mb := hb1.keeps I1.bk
    have hbs : mb "super" = some (.type "super") := (hb2 _ (by decide +kernel)).trans (by first | boot_by_name | rfl | kernel_rfl)
    obtain ⟨hp, g, dr, tk, os⟩ := s1
    refine wpAny_call (PySem.BadX.made_ok T pr I1.kIn Gn Bn hbs hlim (by have := hr.dp; omega) fun h' tk' e d M => ?_)
    show L2N.MkP X pins σ Q (.ref e) ⟨h', g, dr, tk', os⟩ ∧ Six (.ref e) ⟨h', g, dr, tk', os⟩
    obtain ⟨oe, fv, hoe, hc, hd, hdat, h1, h2, h4⟩ := M.obj
    have hns := M.ns
    obtain ⟨G', g1, g2⟩ := restrict h' fun b => decide (b ≠ e)
    have gk : ∀ b, b ≠ e → G'.get? b = h'.get? b := fun b hb => g1 b (decide_eq_true hb)
    have ge : G'.get? e = none := g2 e (by simp)
    have old : ∀ b o, hp.get? b = some o → G'.get? b = some o := fun b o q => (gk b (Nat.ne_of_lt (Nat.lt_of_lt_of_le (Heap.lt_size q) M.new))).trans (M.keep b o q)
    have ob : ObjOk X.prog X.w (upd H1 d (.xd [(fl, v)])) G' d (.xd [(fl, v)]) :=
      ⟨_, hns.at (fun o q => (gk d M.dne).trans q), fun f => relO_one rv fl f⟩
    have J : Inv X pins σ (upd H1 d (.xd [(fl, v)])) ⟨G', g, dr, tk', os⟩ := I1.laid (t' := tk') old M.dbig ob
    refine ⟨⟨e, oe, fv, ⟨G', g, dr, tk', os⟩, _, .ref C, some d, rfl, J, fun b o q => ?_, ge, hoe, ⟨hc, hd, fun vs q => ?_⟩, hdat, h1, ?_, rfl, I1.bare, raises_own T.exC T.tyC, q1 d (I1.hok.fresh M.dbig)⟩, fun a' oe' vs' ea hg' hd' => ?_⟩
    · by_cases hb : b = e
      · have q' : G'.get? b = some o := q
        rw [hb, ge] at q'; cases q'
      · exact (gk b hb).symm.trans q
    · rw [hdat] at q
      cases q
      exact h2
    · rw [upd_ne (Ne.symm M.dne)]
      exact I1.hok.fresh M.new
    · cases ea
      have hg2 : h'.get? e = some oe' := hg'
      rw [hoe] at hg2
      cases hg2
      rw [hdat] at hd'
      cases hd'
      exact h4
theorem ps_raiseBN {x par fl : Str} {a : Expr} {ta : TA} {W : WX} {p pos pos2 : Pos} {k : Nat} (hc : X.calm = true) (T : PySem.BadX.Txt X.prog X.K X.mg par fl C fI) (pr : PySem.BadX.Par par) (hm : X.mg x = some (.ref C)) (hr : Room k X.A) (tk : L2N.Takes X W) (ha : PA X [a] ta) (hg : Gl X x)
    (hdb : (x == ("__debug__" : Str)) = false := by decide)
    (he : starEach (a :: []) X.env = (false, eval a X.env) :: starEach [] X.env := by rfl) (hpl : (backTo pos (starEach [] X.env)).any (·.1) = false := by rfl) :
    PS X (.Raise (some (.Call (.Name x p) [a] [] pos)) none pos2) (tRaiseB fl C W ta) := L2N.ps_raise hc tk (pmk_bad5 T pr hm (roomH_of hr) ha hg hdb he hpl).pmk
/-- try: .. except Cls: a suite that raises -/
def tTryX (K : PySem.W.Frag) (c : Value) (tb : WX → TS) (ts : Addr → Value → Option Addr → TS) (Wout : WX) : TS := fun D σ H => tb (wOnly K c ts Wout D) D σ H
theorem ps_tryX {x : Str} {c : Value} {body suite : List Stmt} {b₀ : Stmt} {np pos pos' : Pos} {tb : WX → TS} {ts : Addr → Value → Option Addr → TS} {Wout : WX} (hs : X.stack = X.env :: X.outer) (hf : X.env.frame = some X.env.locals) (hc : Names X x c) (hpa : ∀ hd : Option Value, PassesOwnAt (model X.prog X.w) (X.A.mark hd) X.A X.env X.xe) (tk : L2.Takes X Wout)
    (hb : ∀ (W : WX) (pn : List (Addr × Obj)) (xe : Value → Shared → Prop), L2N.Takes (X.tr pn xe) W → L2.Takes (X.tr pn xe) (wPass X.K c Wout) → PassesOwn (model X.prog X.w) X.A X.env xe → PSs (X.tr pn xe) body (tb W))
    (hsu : ∀ (a : Addr) (oe : Obj) (cls : Value) (d : Option Addr) (pn : List (Addr × Obj)), L2N.Zn cls d oe → (∃ vs, oe.data = .fields vs) → L2.Takes (suiteX X a ((a, oe) :: pn)) Wout → HotC (suiteX X a ((a, oe) :: pn)) → PSs (suiteX X a ((a, oe) :: pn)) (b₀ :: suite) (ts a cls d)) :
    PS X (.Try body [.ExceptHandler (some (.Name x np)) none (b₀ :: suite) pos'] [] [] pos) (tTryX X.K c tb ts Wout) := ps_try_onlyX hs hf hc hpa tk hb hsu
/-- raise Cls(e) from None, in a suite -/
theorem ps_raiseBF {x par fl : Str} {a : Expr} {ta : TA} {W : WX} {p pos pos2 cpos : Pos} {j k : Nat} (hc : HotC X) (T : PySem.BadX.Txt X.prog X.K X.mg par fl C fI) (pr : PySem.BadX.Par par) (hm : X.mg x = some (.ref C)) (hr : RoomH k X.A) (tk : L2.Takes X W) (ha : PA X [a] ta) (hg : Gl X x)
    (hdb : (x == ("__debug__" : Str)) = false := by decide)
    (he : starEach (a :: []) X.env = (false, eval a X.env) :: starEach [] X.env := by rfl) (hpl : (backTo pos (starEach [] X.env)).any (·.1) = false := by rfl) :
    PS X (.Raise (some (.Call (.Name x p) [a] [] pos)) (some (.Constant .none j cpos)) pos2) (tRaiseB fl C W ta) := ps_raiseHN hc tk (pmk_bad5 T pr hm hr ha hg hdb he hpl)
/-- raise Cls(e), in a suite -/
theorem ps_raiseBH {x par fl : Str} {a : Expr} {ta : TA} {W : WX} {p pos pos2 : Pos} {k : Nat} (hc : HotC X) (T : PySem.BadX.Txt X.prog X.K X.mg par fl C fI) (pr : PySem.BadX.Par par) (hm : X.mg x = some (.ref C)) (hr : RoomH k X.A) (tk : L2.Takes X W) (ha : PA X [a] ta) (hg : Gl X x)
    (hdb : (x == ("__debug__" : Str)) = false := by decide)
    (he : starEach (a :: []) X.env = (false, eval a X.env) :: starEach [] X.env := by rfl) (hpl : (backTo pos (starEach [] X.env)).any (·.1) = false := by rfl) :
    PS X (.Raise (some (.Call (.Name x p) [a] [] pos)) none pos2) (tRaiseB fl C W ta) := ps_raiseH hc tk (pmk_bad5 T pr hm hr ha hg hdb he hpl).pmk
end
end L2H
namespace Ash
open PySem PySem.Spec PyProof.Rows L2
section
variable {P : Program} {w : World} {K : PySem.W.Frag} {mg : Str → Option Value} {base : Heap}
theorem okN {x qual : Str} {st : Stmt} {f : Addr} {fd : FuncData} {N ps : List Str} {k : Nat} {sp : Sp} (F : Fun K x qual st f fd) (S : FnScope N ps (defScope st)) (len : ∀ vs H Q E, sp vs H Q E → vs.length = ps.length)
    (hbody : ∀ (cdv : Value) (A : Around) (outer : List Env) (s : Shared) (H : Hp) (vs : List V) (Q : VK) (E : XK), Room k (A.deeper (envOfC qual (defScope st) s.heap.objs.size f cdv)) → sp vs H Q E →
      ∃ t, PSs (cxOf (L2N.CX P w) P w K mg base N qual (defScope st) f cdv A outer s H E) (defBody st) t ∧ t { nx := fun _ H' => Q .non H', rt := Q } (start N vs) H) : FnOk P w K mg base (L2N.CX P w) (k + 1) f fd ps sp := by
  obtain ⟨oc, od, kV, doc, pm, an, cdv, ct, osl, rfl, lk, hcd⟩ := F.ex
  exact fn_of lk hcd S len fun A outer s H vs Q E hr hsp => hbody cdv A outer s H vs Q E hr hsp
theorem cxN {outer : List Env} {H : Hp} {s : Shared} {E : XK} {u : Value} {s' : Shared} (h : L2N.CX P w outer H s E u s') : L2.CX P w outer H s E u s' := by
  obtain ⟨a, B, H', cls, d, e, fl, r⟩ := h
  exact ⟨a, B, H', cls, d, e, L2H.flyingZ_imp (fun o z => L2N.Zn.zc z) fl, r⟩
theorem ofN {k : Nat} {f : Addr} {fd : FuncData} {ps : List Str} {sp : Sp} (F : FnOk P w K mg base (L2N.CX P w) k f fd ps sp) : FnOk P w K mg base (L2.CX P w) k f fd ps sp :=
  ⟨F.len, fun A outer s H args us vs Q E hr he hb hv hs => by
    have h := F.run A outer s H args us vs Q E hr he hb hv hs
    exact codeAny_mono h (fun o s1 c => match o, c with
      | .ok (.ret _), c => c
      | .error _, c => cxN c)⟩
end
end Ash

set_option Elab.async false
set_option linter.all false
set_option maxRecDepth 100000
set_option maxHeartbeats 4000000
namespace Ash
open PySem PySem.Spec PyProof.Rows L2
open C8 (pss_cut)
/-! ### journals whose errors may be caught and raised on -/
theorem passEN {X : Cx} {E : XK} (tk : L2N.Takes X (fun cls d _ H => E cls d H)) : Passes (L2N.CX X.prog X.w) X E := L2N.passes_call tk fun _ _ _ _ h => h
section
variable {P : Program} {w : World} {K : PySem.W.Frag} {mg : Str → Option Value} {base : Heap}
structure K8N (P : Program) (w : World) (K : PySem.W.Frag) (mg : Str → Option Value) (base : Heap) (CB aT CJ CE : Addr) : Prop extends K7 P w K mg base CB aT where
  Journal : Mak P w K mg base (L2N.CX P w) "Journal" CJ 7 ["self", "book", "entries"] (spJInit K aT CJ CB CE)
theorem makN {x : Str} {C : Addr} {k : Nat} {ps : List Str} {sp : Sp} (M : Mak P w K mg base (L2N.CX P w) x C k ps sp) : Mak P w K mg base (L2.CX P w) x C k ps sp := by
  obtain ⟨f, fd, a, b, c, d⟩ := M.ex
  exact ⟨f, fd, a, b, c, ofN d⟩
theorem metN {C : Addr} {m : Str} {k : Nat} {ps : List Str} {sp : Sp} (M : Met P w K mg base (L2N.CX P w) C m k ps sp) : Met P w K mg base (L2.CX P w) C m k ps sp := by
  obtain ⟨f, fd, a, b, d⟩ := M.ex
  exact ⟨f, fd, a, b, ofN d⟩
theorem K8N.k8 {CB aT CJ CE : Addr} (G : K8N P w K mg base CB aT CJ CE) : K8 P w K mg base CB aT CJ CE := ⟨G.toK7, makN G.Journal⟩
def spThenN (K : PySem.W.Frag) (aT CJ CB CE : Addr) : Sp := fun vs H Q E => ∃ (j b : Addr) (L : List (Str × Int)) (us : List V) (xs : List Ent) (v : V) (o : Option Ent), vs = [.ref j, v] ∧ JAt K aT CJ CB H j b L us xs ∧ ThAt K H v o ∧ us.length ≤ 400 ∧
  (∀ j' H' x, o = some x → (wk L ((xs ++ [x]).map some) 0 (fun _ => none) none).1 = none → Same H H' → JAt K aT CJ CB H' j' b L (us ++ [v]) (xs ++ [x]) → us.length < 400 → H j' = none → (∃ dx t kd, H' j' = some (.ins CJ dx (jf b t kd)) ∧ H kd = none) → Q (.ref j') H') ∧
  (∀ i d H', (wk L (xs.map some ++ [o]) 0 (fun _ => none) none).1 = some i → Same H H' → Xd H' d "at" (.int (i : Int)) → us.length < 400 → E (.ref CE) (some d) H') ∧
  (us.length = 400 → ∀ d H', Same H H' → Xd H' d "at" (.int 400) → E (.ref CE) (some d) H')
theorem ok_j_initN {f CJ CBook CE fE aT aE : Addr} {fd : FuncData} (F : FunD K "__init__" "Journal.__init__" (defArgs s_Journal_init) (defBody s_Journal_init) (defScope s_Journal_init) [.ref aE] [] f fd) (B : Blt mg) (Cs : Cst mg) (T : Cj P K mg CJ CBook) (TB : Cb K mg CBook) (TE : PySem.BadX.Txt P K mg "at" "at" CE fE) (c_BadEntry : mg "BadEntry" = some (.ref CE))
    (bk : ∀ H b dx fs, H b = some (.ins CBook dx fs) → TyX K H (.ref b) (.ref CBook)) (G : K7 P w K mg base CBook aT) : FnOk P w K mg base (L2N.CX P w) 7 f fd ["self", "book", "entries"] (spJInit K aT CJ CBook CE) := by
  obtain ⟨t1, g_MOST_ENTRIES⟩ := Cs.k_MOST_ENTRIES
  have c_Book := TB.c
  refine F.ok (CX := L2N.CX P w) sc_Journal_init (fun vs H Q E h => ?_) (fun cdv A outer s H vs Q E hr h => ?_)
  · obtain ⟨j, dx, b, a, L, us, ths, rfl, _⟩ := h
    rfl
  · obtain ⟨j, dx, b, a, L, us, ths, rfl, hj, hB, hS, h4, hlen, hT, qg, qb⟩ := h
    have hu := hu_of hr
    refine ⟨_, (pss_cons (ps_if (pt_not (pt_val (pe_callB call_isi (by rfl) B.isinstance (by decide +kernel) (pa_cons (pv 1) (pa_cons (pe_glob (v := .ref CBook) (by rfl) c_Book rfl) pa_nil)))))
      (pss_one ps_never)
      pss_nil)
    (pss_cons (ps_if (PW.pt (pw_or (pt_not (pt_val (pe_cal G.is_row (hr.mono (by decide)) pass0 (pa_cons (pv 2) pa_nil)))) (pw_or1 (pt_cmpR op_gt (pe_callB call_len_seq (by rfl) B.len (by decide +kernel) (pa_cons (pv 2) pa_nil)) (pe_glob (v := .int 400) (by rfl) g_MOST_ENTRIES ⟨_, rfl⟩) (nomark _)))))
      (pss_one ps_never)
      pss_nil)
    (pss_cons (ps_asg (pe_cal G.walked (hr.mono (by decide)) pass0 (pa_cons (pv 1) (pa_cons (pv 2) pa_nil))) (pg_tup (by rfl) (pgs_cons (pg_name (i := 3) sc_Journal_init.nd rfl (Or.inl rfl)) (pgs_cons (pg_name (i := 4) sc_Journal_init.nd rfl (Or.inl rfl)) pgs_nil))))
    (pss_cons (ps_if (pt_cmpR op_notN (pv 3) pe_non (nomark _))
      (pss_one (L2H.ps_raiseBN rfl TE par_at c_BadEntry (hr.mono (Nat.zero_le _)) (L2N.takes_of rfl rfl rfl rfl) (pa_cons (pv 3) pa_nil) (by rfl)))
      pss_nil)
    (pss_cons (ps_fld (pv 0) (pv 1) rfl)
    (pss_cons (ps_fld (pv 0) (pe_callTy call_tuple_of (by rfl) B.tuple (by decide +kernel) (pa_cons (pv 2) pa_nil)) rfl)
    (pss_one (ps_fld (pv 0) (pv 4) rfl)))))))), ?_⟩
    obtain ⟨bx, bd, L', b1, b2, b3⟩ := id hB
    refine ⟨_, rfl, _, _, _, _, true, rfl, ClsV.own _, bk _ _ _ _ b1, (by show PySem.W.kitOne K _ _ = _; unfold PySem.W.kitOne; rw [if_pos (by simp)]), _, rfl, iteF ?_⟩
    refine ⟨_, rfl, a, us, rfl, hS, fun H1 s1 => ⟨_, rfl, iteF ?_⟩⟩
    have hS1 : SqL K H1 a us ∨ SqT K H1 a us := by
      rcases hS with h | h
      · exact .inl (SqL.of (s1 _ _ h))
      · exact .inr (seqS h s1)
    refine ⟨_, rfl, a, us, rfl, hS1, _, _, rfl, rfl, _, rfl, ?_⟩
    rw [decide_eq_false (show ¬ (400 : Int) < (us.length : Int) by omega)]
    refine iteF ⟨_, rfl, _, rfl, b, a, L, us, ths, rfl, hB.same s1, hS1, by omega, hlen, fun i v o x y => (hT i v o x y).same s1, fun t kd H2 hkn s2 ht hk => ?_⟩
    have s12 := s1.trans s2
    have hkd0 : H kd = none := by
      cases e : H kd with
      | none => rfl
      | some o => rw [s1 _ _ e] at hkn; cases hkn
    refine ⟨t, _, rfl, SqT.of ht, rfl, _, _, rfl, _, _, rfl, rfl, ?_⟩
    have hj2 : H2 j = some (.ins CJ dx []) := s12 _ _ hj
    cases hw : (wk L ths 0 (fun _ => none) none).1 with
    | some i =>
      refine ⟨_, rfl, rfl, _, rfl, ?_⟩
      show if (!decide (atV (some i) = V.non)) = true then _ else _
      exact iteT ⟨_, rfl, _, rfl, fun d hd => qb i d _ hw (s12.trans (sameAt (Same.refl H2) hd)) upd_same⟩
    | none =>
      refine ⟨_, rfl, rfl, _, rfl, ?_⟩
      show if (!decide (atV none = V.non)) = true then _ else _
      refine iteF ?_
      obtain ⟨xs, hxs⟩ := wk_some hw
      have hlx : us.length = xs.length := by rw [hlen, hxs, List.length_map]
      have hTx : ∀ (i : Nat) v x, us[i]? = some v → xs[i]? = some x → ThAt K H v (some x) := fun i v x a b => hT i v (some x) a (by rw [hxs, List.getElem?_map, b]; rfl)
      have fin : ∀ H', (∀ c o, H2 c = some o → c ≠ j → H' c = some o) → (∃ t, H' j = some (.ins CJ dx (jf b t kd)) ∧ SqT K H' t us) → Q .non H' := fun H' kk2 ⟨t, h1, h2⟩ => by
        have kk : ∀ c o, H c = some o → c ≠ j → H' c = some o := fun c o h n => kk2 c o (s12 _ _ h) n
        refine qg H' xs hxs hw ⟨dx, t, kd, h1, hB.chg hj kk, h2, hlx, fun i v x a b => thC (hTx i v x a b) hj kk, by rw [← hxs]; exact hw, by rw [← hxs]; exact knC hk kk2 ⟨_, _, _, hj2⟩⟩ ⟨dx, t, kd, h1, hkd0⟩ kk
      refine ⟨_, rfl, _, rfl, j, CJ, dx, [], rfl, hj2, T.cl, T.nB, (by show 0 < 1000; decide), ?_⟩
      generalize eA : upd H2 j (.ins CJ dx (putF "book" (.ref b) [])) = HA
      have hA : HA j = some (.ins CJ dx (putF "book" (.ref b) [])) := by rw [← eA]; exact upd_same
      have kA2 : ∀ c o, H2 c = some o → c ≠ j → HA c = some o := fun c o h n => by rw [← eA, upd_ne n]; exact h
      have kA : ∀ c o, H c = some o → c ≠ j → HA c = some o := fun c o h n => kA2 c o (s12 _ _ h) n
      clear eA
      rcases hS with hS | hS
      · have haj : a ≠ j := ne_of hS hj (by intro z; cases z)
        refine ⟨_, rfl, a, us, rfl, .inl ⟨SqL.of (kA _ _ hS haj), fun l hl => ?_⟩⟩
        have hlj : l ≠ j := fun z => by rw [z, hA] at hl; cases hl
        refine ⟨_, rfl, j, CJ, dx, _, rfl, (by rw [upd_ne hlj.symm]; exact hA), T.cl, T.nE, (by show 1 < 1000; decide), ?_⟩
        refine ⟨_, rfl, _, rfl, j, CJ, dx, _, rfl, upd_same, T.cl, T.nK, (by show 2 < 1000; decide), ?_⟩
        refine fin _ (fun c o h n => ?_) ⟨l, upd_same, SqT.of (by rw [upd_ne hlj, upd_ne hlj, upd_same])⟩
        have hcl : c ≠ l := fun z => by rw [← z, kA2 c o h n] at hl; cases hl
        rw [upd_ne n, upd_ne n, upd_ne hcl]
        exact kA2 c o h n
      · refine ⟨_, rfl, a, us, rfl, .inr ⟨seqC hS hj kA, ?_⟩⟩
        refine ⟨_, rfl, j, CJ, dx, _, rfl, hA, T.cl, T.nE, (by show 1 < 1000; decide), ?_⟩
        refine ⟨_, rfl, _, rfl, j, CJ, dx, _, rfl, upd_same, T.cl, T.nK, (by show 2 < 1000; decide), ?_⟩
        have kF : ∀ c o, H2 c = some o → c ≠ j → (upd (upd HA j (.ins CJ dx (putF "entries" (.ref a) (putF "book" (.ref b) [])))) j (.ins CJ dx (putF "_known" (.ref kd) (putF "entries" (.ref a) (putF "book" (.ref b) []))))) c = some o := fun c o h n => by
          rw [upd_ne n, upd_ne n]
          exact kA2 c o h n
        exact fin _ kF ⟨a, upd_same, seqC hS hj fun c o h n => kF c o (s12 _ _ h) n⟩
abbrev s_Journal_then : Stmt := inClass (topS 35) 5
theorem sc_Journal_then : FnScope ["self", "entry"] ["self", "entry"] (defScope s_Journal_then) := ⟨rfl, rfl, rfl, by decide +kernel, rfl, by decide +kernel, by decide +kernel⟩
theorem ok_thenN {f CJ CB CE aT fE : Addr} {fd : FuncData} (F : Fun K "then" "Journal.then" s_Journal_then f fd) (B : Blt mg) (Cs : Cst mg) (T : Cj P K mg CJ CB) (TE : PySem.BadX.Txt P K mg "at" "at" CE fE) (c_BadEntry : mg "BadEntry" = some (.ref CE)) (G : K8N P w K mg base CB aT CJ CE) : FnOk P w K mg base (L2N.CX P w) 9 f fd ["self", "entry"] (spThenN K aT CJ CB CE) := by
  obtain ⟨t1, g_MOST_ENTRIES⟩ := Cs.k_MOST_ENTRIES
  refine okN F sc_Journal_then (fun vs H Q E h => ?_) (fun cdv A outer s H vs Q E hr h => ?_)
  · obtain ⟨j, b, L, us, xs, v, o, rfl, _⟩ := h
    rfl
  · obtain ⟨j, b, L, us, xs, v, o, rfl, hJ, hT, h4, qg, qb, qf⟩ := h
    refine ⟨_, (pss_cons (ps_if (pt_cmpR op_eq (pe_callB call_len_seq (by rfl) B.len (by decide +kernel) (pa_cons (pe_fld (pv 0) rfl) pa_nil)) (pe_glob (v := .int 400) (by rfl) g_MOST_ENTRIES ⟨_, rfl⟩) (nomark _))
      (pss_one (L2H.ps_raiseBN rfl TE par_at c_BadEntry (hr.mono (Nat.zero_le _)) (L2N.takes_of rfl rfl rfl rfl) (pa_cons (pe_glob (v := .int 400) (by rfl) g_MOST_ENTRIES ⟨_, rfl⟩) pa_nil) (by rfl)))
      pss_nil)
    (pss_one (ps_ret (pe_mak G.Journal (hr.mono (by decide)) (passEN (L2N.takes_of rfl rfl rfl rfl)) (pa_cons (pe_fld (pv 0) rfl) (pa_cons (pe_lst (StX.pa_star (pe_fld (pv 0) rfl) (pa_cons (pv 1) pa_nil))) pa_nil)))))), ?_⟩
    obtain ⟨dx, t, kd, h1, h2, h3, hl, h5, h6, h7⟩ := id hJ
    refine ⟨_, rfl, j, CJ, dx, _, _, rfl, h1, T.cl, T.nE, jf_e _ _ _, t, us, rfl, .inr h3, rfl, _, rfl, ?_⟩
    by_cases h5f : us.length = 400
    · rw [h5f, decide_eq_true (show (V.int ((400 : Nat) : Int) = V.int 400) from rfl)]
      exact iteT ⟨_, rfl, fun d hd => qf h5f d _ (sameAt (Same.refl H) hd) upd_same⟩
    have h4 : us.length < 400 := by omega
    rw [decide_eq_false (show ¬ (V.int (us.length : Int) = V.int 400) from fun z => by have := V.int.inj z; omega)]
    refine iteF ⟨_, rfl, j, CJ, dx, _, _, rfl, h1, T.cl, T.nB, jf_b _ _ _, _, rfl, j, CJ, dx, _, _, rfl, h1, T.cl, T.nE, jf_e _ _ _, t, us, rfl, .inl h3, _, rfl, (by rw [List.length_append]; exact Nat.le_of_lt (small1000 (by show us.length + 1 ≤ 1000; omega))), fun a ha => ?_⟩
    intro x dx' nx ndx nex
    have sA : Same H (upd H a (.lst (us ++ [v]))) := sameAt (Same.refl H) ha
    have sX : Same H (upd (upd (upd H a (.lst (us ++ [v]))) dx' (.own x)) x (.ins CJ dx' [])) := (sA.trans (sameAt (Same.refl _) ndx)).trans (sameAt (Same.refl _) (by rw [upd_ne (Ne.symm nex)]; exact nx))
    have haX : (upd (upd (upd H a (.lst (us ++ [v]))) dx' (.own x)) x (.ins CJ dx' [])) a = some (.lst (us ++ [v])) := by
      rw [upd_ne (fun z => by rw [← z, upd_same] at nx; cases nx), upd_ne (fun z => by rw [← z, upd_same] at ndx; cases ndx), upd_same]
    refine ⟨x, dx', b, a, L, us ++ [v], xs.map some ++ [o], rfl, upd_same, h2.same sX, .inl haX, by rw [List.length_append]; show us.length + 1 ≤ 400; omega, by rw [List.length_append, List.length_append, List.length_map, hl]; rfl, fun i v' o' hi ho => ?_, fun H' ys hys hw hJ' hkd kk => ⟨rfl, ?_⟩, fun i d H' hw s hx => ?_⟩
    · by_cases hil : i < us.length
      · rw [List.getElem?_append_left hil] at hi
        rw [List.getElem?_append_left (by rw [List.length_map, ← hl]; exact hil), List.getElem?_map] at ho
        cases e : xs[i]? with
        | none => rw [e] at ho; cases ho
        | some y =>
          rw [e] at ho
          cases ho
          exact (h5 i v' y hi e).same sX
      · have hi' : i = us.length := by
          have := (List.getElem?_eq_some_iff.mp hi).1
          rw [List.length_append] at this
          have : i < us.length + 1 := this
          omega
        subst hi'
        rw [List.getElem?_append_right (Nat.le_refl _), Nat.sub_self] at hi
        rw [hl, List.getElem?_append_right (by rw [List.length_map]; exact Nat.le_refl _), List.length_map, Nat.sub_self] at ho
        cases hi
        cases ho
        exact hT.same sX
    · obtain ⟨y, rfl⟩ : ∃ y, o = some y := by
        cases o with
        | none =>
          have hm : (none : Option Ent) ∈ ys.map some := by rw [← hys]; simp
          obtain ⟨y, _, e⟩ := List.mem_map.mp hm
          cases e
        | some y => exact ⟨y, rfl⟩
      have e : ys = xs ++ [y] := by
        have e2 : (xs ++ [y]).map some = ys.map some := by rw [← hys, List.map_append]; rfl
        exact (List.map_inj_right (fun a b h => Option.some.inj h)).mp e2.symm
      subst e
      obtain ⟨dx2, t2, kd2, hk1, hk2⟩ := hkd
      refine qg x H' y rfl (by rw [← hys]; exact hw) ?_ hJ' h4 (by
        cases e : H x with
        | none => rfl
        | some u => rw [sA _ _ e] at nx; cases nx) ⟨dx2, t2, kd2, hk1, (by
        cases e : H kd2 with
        | none => rfl
        | some u => rw [sX _ _ e] at hk2; cases hk2)⟩
      exact sA.trans (mk_same nx ndx kk)
    · exact qb i d H' hw (sX.trans s) hx h4
end
end Ash

set_option Elab.async false
set_option linter.all false
set_option maxRecDepth 100000
set_option maxHeartbeats 4000000
namespace Ash
open PySem PySem.Spec PyProof.Rows L2
/-! ### equality by identity, item by item -/
def SameV (x y : V) : Prop := (flatV x = true ∧ flatV y = true ∧ eqV x y = true) ∨ (x = y ∧ ∃ a, x = .ref a)
def SeqS (K : PySem.W.Frag) (H : Hp) (x y : V) : Prop := ∃ a b xs ys, x = .ref a ∧ y = .ref b ∧ SqT K H a xs ∧ SqT K H b ys ∧ xs.length = ys.length ∧ ∀ (i : Nat) u v, xs[i]? = some u → ys[i]? = some v → SameV u v
section
variable {X : Cx}
theorem same_at {A : Around} {s : Shared} {x y : V} {u v : Value} (h : SameV x y) (rx : RelV x u) (ry : RelV y v) : SeqAt.EqAt A s u v true := by
  rcases h with ⟨fx, fy, e⟩ | ⟨rfl, a, rfl⟩
  · have q := eqAt_V (A := A) (s := s) rx ry fx fy
    rw [e] at q
    exact q
  · cases (show u = Value.ref a from rx)
    cases (show v = Value.ref a from ry)
    exact SeqAt.EqAt.same _
theorem op_neS (hu : X.A.units < cLine) : OpR X (compareOp .NotEq) (fun x y H Q => SeqS X.K H x y ∧ Q (.bl false) H) := by
  intro pins s σ H x y v u Q I rx ry ⟨h, q⟩
  obtain ⟨a, b, xs, ys, rfl, rfl, ha, hb, hl, hi⟩ := h
  cases (show v = Value.ref a from rx)
  cases (show u = Value.ref b from ry)
  obtain ⟨i1, r1, t1, z1⟩ := I.tuple ha
  obtain ⟨i2, r2, t2, z2⟩ := I.tuple hb
  have l1 := r1.length
  have l2 := r2.length
  have e : (!((List.range (min i1.toArray.size i2.toArray.size)).all (fun _ => true) && i1.toArray.size == i2.toArray.size)) = false := by
    have : i1.toArray.size = i2.toArray.size := by simp; omega
    simp [this]
  have key := SeqAt.RcNeAt.tuples (A := X.A) (s := s) (e := fun _ => true) (show s.heap.IsTuple a i1.toArray from t1) (show s.heap.IsTuple b i2.toArray from t2) hu fun j h1 h2 => by
    have h1' : j < i1.length := by simpa using h1
    have h2' : j < i2.length := by simpa using h2
    have x1 : xs[j]? = some xs[j] := List.getElem?_eq_getElem (by omega)
    have y1 : ys[j]? = some ys[j] := List.getElem?_eq_getElem (by omega)
    obtain ⟨u1, e1, q1⟩ := r1.get x1
    obtain ⟨u2, e2, q2⟩ := r2.get y1
    have e1' : i1.toArray[j] = u1 := by
      rw [List.getElem?_eq_getElem h1'] at e1
      simpa using Option.some.inj e1
    have e2' : i2.toArray[j] = u2 := by
      rw [List.getElem?_eq_getElem h2'] at e2
      simpa using Option.some.inj e2
    rw [e1', e2']
    exact same_at (hi j _ _ x1 y1) q1 q2
  rw [e] at key
  exact key X.prog X.w X.xe _ ⟨.bl false, H, I, rfl, q⟩
end
/-! ### entries as data -/
def Ent.data : Ent → PyData
  | .row id s k m a r => .tuple [.str "row", .int id, .str s, .str k, .int m, .int a, .int r]
  | .fix id m a r => .tuple [.str "fix", .int id, .int m, .int a, .int r]
  | .gone id r => .tuple [.str "gone", .int id, .int r]
theorem ent_dp {K : PySem.W.Frag} {H : Hp} {e : Addr} {x : Ent} (h : EntAt H e x) : Dp K H (.ref e) x.data := by
  cases x with
  | row id s k m a r => exact .tup (SqT.of h) (.cons (.str _) (.cons (.int _) (.cons (.str _) (.cons (.str _) (.cons (.int _) (.cons (.int _) (.cons (.int _) .nil)))))))
  | fix id m a r => exact .tup (SqT.of h) (.cons (.str _) (.cons (.int _) (.cons (.int _) (.cons (.int _) (.cons (.int _) .nil)))))
  | gone id r => exact .tup (SqT.of h) (.cons (.str _) (.cons (.int _) (.cons (.int _) .nil)))
theorem ent_lay {x : Ent} (h : x.ok) : x.data.canLay0 = true ∧ x.data.depth ≤ 2 := by
  have key : ∀ ds : List PyData, ds.all flatD = true → (PyData.tuple ds).canLay0 = true ∧ (PyData.tuple ds).depth ≤ 2 := fun ds hd => by
    obtain ⟨h1, h2⟩ := flat_lay hd
    simp [PyData.canLay0, PyData.depth, h1]
    omega
  cases x with
  | row id s k m a r =>
    obtain ⟨h1, h2⟩ := h.2 _ _ _ _ _ _ rfl
    have hr : PyData.strOk "row" = true := by decide +kernel
    exact key _ (by simp [flatD, nm_ok h1, nm_ok h2, hr])
  | fix id m a r =>
    have hr : PyData.strOk "fix" = true := by decide +kernel
    exact key _ (by simp [flatD, hr])
  | gone id r =>
    have hr : PyData.strOk "gone" = true := by decide +kernel
    exact key _ (by simp [flatD, hr])
theorem ents_lay : ∀ {xs : List Ent}, (∀ x ∈ xs, x.ok) → PyData.canLayAll0 (xs.map Ent.data) = true ∧ PyData.depthAll (xs.map Ent.data) ≤ 2
  | [], _ => by simp [PyData.canLayAll0, PyData.depthAll]
  | x :: xs, h => by
    obtain ⟨h1, h2⟩ := ents_lay fun y hy => h y (List.mem_cons_of_mem _ hy)
    obtain ⟨h3, h4⟩ := ent_lay (h x List.mem_cons_self)
    rw [List.map_cons]
    simp only [PyData.canLayAll0, PyData.depthAll, h1, h3, Bool.and_self, true_and]
    exact Nat.max_le.mpr ⟨h4, h2⟩
/-- us are the entries xs -/
def Ents (H : Hp) (us : List V) (xs : List Ent) : Prop := us.length = xs.length ∧ ∀ (i : Nat) v x, us[i]? = some v → xs[i]? = some x → ∃ e, v = .ref e ∧ EntAt H e x ∧ x.ok
theorem Ents.same {H H' : Hp} {us : List V} {xs : List Ent} (h : Ents H us xs) (s : Same H H') : Ents H' us xs := ⟨h.1, fun i v x a b => by
  obtain ⟨e, h1, h2, h3⟩ := h.2 i v x a b
  exact ⟨e, h1, s _ _ h2, h3⟩⟩
theorem Ents.dp {K : PySem.W.Frag} {H : Hp} : ∀ {us : List V} {xs : List Ent}, Ents H us xs → DpAll K H us (xs.map Ent.data)
  | [], [], _ => .nil
  | [], _ :: _, h => by have := h.1; simp at this
  | _ :: _, [], h => by have := h.1; simp at this
  | v :: us, x :: xs, h => by
    obtain ⟨e, rfl, h2, _⟩ := h.2 0 v x rfl rfl
    exact .cons (ent_dp h2) (Ents.dp ⟨by have := h.1; simpa using this, fun i v x a b => h.2 (i + 1) v x a b⟩)
theorem Ents.ok {H : Hp} {us : List V} {xs : List Ent} (h : Ents H us xs) : ∀ x ∈ xs, x.ok := fun x hx => by
  obtain ⟨i, hi, e⟩ := List.getElem_of_mem hx
  have hu : i < us.length := by rw [h.1]; exact hi
  obtain ⟨_, _, _, h3⟩ := h.2 i us[i] x (List.getElem?_eq_getElem hu) (by rw [List.getElem?_eq_getElem hi, e])
  exact h3
theorem told_shaped {xs : List Ent} {w : Str} (hw : PyData.strOk w = true) (h : ∀ x ∈ xs, x.ok) : SeqAt.shaped (.tuple [.str w, .list (xs.map Ent.data)]) = true := by
  obtain ⟨h1, h2⟩ := ents_lay h
  unfold SeqAt.shaped
  simp [PyData.canLay0, PyData.canLayAll0, PyData.depth, PyData.depthAll, h1, hw]
  omega
theorem list_shaped {xs : List Ent} (h : ∀ x ∈ xs, x.ok) : SeqAt.shaped (.list (xs.map Ent.data)) = true := by
  obtain ⟨h1, h2⟩ := ents_lay h
  unfold SeqAt.shaped
  simp [PyData.canLay0, PyData.depth, h1]
  omega
end Ash

set_option Elab.async false
set_option linter.all false
set_option maxRecDepth 100000
set_option maxHeartbeats 4000000
namespace Ash
open PySem PySem.Spec PyProof.Rows L2
open C8 (pss_cut)
/-! ### the law's own draws -/
def spInt : Sp := fun vs H Q _ => ∃ (p s : Addr), vs = [.ref p] ∧ PoolAt H p s ∧ ∀ (n : Int) H', Pl H H' p s → Q (.int n) H'
def SV (H : Hp) : Option V → Option RowSt → Prop
  | none, none => True
  | some v, some .tb => v = .non
  | some v, some (.at_ s k m a) => ∃ t, v = .ref t ∧ H t = some (.tup [.str s, .str k, .int m, .int a])
  | _, _ => False
theorem SV.but {H H' : Hp} {v : Option V} {o : Option RowSt} (h : SV H v o) (s : ∀ t xs, H t = some (.tup xs) → H' t = some (.tup xs)) : SV H' v o := by
  cases v with
  | none => cases o <;> exact h
  | some v =>
    cases o with
    | none => exact h
    | some o =>
      cases o with
      | tb => exact h
      | at_ z k m a =>
        obtain ⟨t, e, h⟩ := h
        exact ⟨t, e, s _ _ h⟩
/-- the law's states: a dict from ids to None or what is known -/
def StAt (H : Hp) (d : Addr) (S : Kn) (n : Nat) : Prop := ∃ kvs : List (Key × V), H d = some (.dK kvs) ∧ kvs.length ≤ n ∧ (∀ kv ∈ kvs, ∃ id, kv.1 = Sum.inl id) ∧ ∀ id, SV H (valV kvs (Sum.inl id)) (S id)
theorem StAt.same {H H' : Hp} {d : Addr} {S : Kn} {n : Nat} (h : StAt H d S n) (s : Same H H') : StAt H' d S n := by
  obtain ⟨kvs, h1, h2, h3, h4⟩ := h
  exact ⟨kvs, s _ _ h1, h2, h3, fun id => (h4 id).but fun t xs e => s _ _ e⟩
theorem StAt.pl {H H' : Hp} {d p s : Addr} {S : Kn} {n : Nat} (h : StAt H d S n) (P0 : PoolAt H p s) (P : Pl H H' p s) : StAt H' d S n := by
  obtain ⟨kvs, h1, h2, h3, h4⟩ := h
  obtain ⟨ns, i, c, k, m, hp, _⟩ := P0
  exact ⟨kvs, P.keep h1 (ne_of h1 hp (by intro z; cases z)), h2, h3, fun id => (h4 id).but fun t xs e => P.keep e (ne_of e hp (by intro z; cases z))⟩
theorem Pl.dk {H H' : Hp} {p s d : Addr} {kvs : List (Key × V)} (P : Pl H H' p s) (P0 : PoolAt H p s) (h : H d = some (.dK kvs)) : H' d = some (.dK kvs) := by
  obtain ⟨ns, i, c, k, m, hp, _⟩ := P0
  exact P.keep h (ne_of h hp (by intro z; cases z))
theorem Pl.tp {H H' : Hp} {p s d : Addr} {xs : List V} (P : Pl H H' p s) (P0 : PoolAt H p s) (h : H d = some (.tup xs)) : H' d = some (.tup xs) := by
  obtain ⟨ns, i, c, k, m, hp, _⟩ := P0
  exact P.keep h (ne_of h hp (by intro z; cases z))
theorem strs_ne {ns : List Int} {r : Addr} {a b c d : Int} {ks : List Str} : (HO.lst (ks.map V.str)) ≠ .lst [.ref r, .int a, .int b, .int c, .int d] := fun z => by
  injection z with z
  cases ks with
  | nil => cases z
  | cons k ks => injection z with z1 _; cases z1
theorem Pl.sl {H H' : Hp} {p s d : Addr} {ks : List Str} (P : Pl H H' p s) (P0 : PoolAt H p s) (h : H d = some (.lst (ks.map V.str))) : H' d = some (.lst (ks.map V.str)) := by
  obtain ⟨ns, i, c, k, m, hp, _⟩ := P0
  exact P.keep h (ne_of h hp (strs_ne (ns := ns)))
theorem mem_val {kvs : List (Key × V)} {kv : Key × V} (h : kv ∈ kvs) : ∃ v, valV kvs kv.1 = some v := by
  have q : (kvs.any fun x => decide (x.1 = kv.1)) = true := List.any_eq_true.mpr ⟨kv, h, decide_eq_true rfl⟩
  rw [valV_any] at q
  exact Option.isSome_iff_exists.mp q
/-- what the entry is drawn from -/
structure Draw (H : Hp) (p s dl dk ds : Addr) (L : List (Str × Int)) (ks : List Str) (S : Kn) : Prop where
  pool : PoolAt H p s
  dl : H dl = some (.dK (LK L))
  LL : Lates L
  dk : H dk = some (.lst (ks.map V.str))
  k1 : 1 ≤ ks.length
  k2 : ks.length ≤ 30
  kn : ∀ z ∈ ks, IsNm z
  st : StAt H ds S 500
  ok : KnOk L S
  pos : ∀ id, S id ≠ none → 0 ≤ id
/-- a row of one of the keys -/
def KIn (ks : List Str) (x : Ent) : Prop := ∀ id s k m a r, x = .row id s k m a r → k ∈ ks
def spEntry : Sp := fun vs H Q _ => ∃ (p s dl dk ds : Addr) (L : List (Str × Int)) (ks : List Str) (S : Kn) (number arrival : Int), vs = [.ref p, .ref dl, .ref dk, .ref ds, .int number, .int arrival] ∧ Draw H p s dl dk ds L ks S ∧ 0 ≤ number ∧ S number = none ∧
  ∀ e x y H', EntAt H' e x → x.ok → KIn ks x → x.arr = arrival → behind L x (S x.id) = some y → (x.id = number ∨ S x.id ≠ none) → Pl H H' p s → Q (.ref e) H'
section
variable {P : Program} {w : World} {K : PySem.W.Frag} {mg : Str → Option Value} {base : Heap}
abbrev s_l_amount : Stmt := topS 45
theorem sc_l_amount : FnScope ["_law_pool_here"] ["_law_pool_here"] (defScope s_l_amount) := ⟨rfl, rfl, rfl, by decide +kernel, rfl, by decide +kernel, by decide +kernel⟩
theorem ok_amount {f : Addr} {fd : FuncData} (F : Fun K "_law_amount" "_law_amount" s_l_amount f fd) (B : Blt mg) (G : G2 P w K mg base) : FnOk P w K mg base CX0 2 f fd ["_law_pool_here"] spInt := by
  refine F.ok sc_l_amount (fun vs H Q E h => ?_) (fun cdv A outer s H vs Q E hr h => ?_)
  · obtain ⟨p, s, rfl, _⟩ := h
    rfl
  · obtain ⟨p, s0, rfl, hP, q⟩ := h
    refine ⟨_, (pss_cons (ps_if (pt_cmpR op_eq (pe_cal G.law_draw (hr.mono (by decide)) pass0 (pa_cons (pv 0) (pa_cons pe_int pa_nil))) pe_int (nomark _))
      (pss_one (ps_ret (pe_op op_sub (pe_cal G.law_draw (hr.mono (by decide)) pass0 (pa_cons (pv 0) (pa_cons (pe_op op_mul pe_int (pe_op op_pow pe_int pe_int)) pa_nil))) (pe_op op_pow pe_int pe_int))))
      pss_nil)
    (pss_one (ps_ret (pe_op op_sub (pe_cal G.law_draw (hr.mono (by decide)) pass0 (pa_cons (pv 0) (pa_cons pe_int pa_nil))) pe_int)))), ?_⟩
    refine ⟨_, rfl, p, s0, 6, rfl, hP, (by decide), (by decide), fun x H1 x0 x6 P1 => ⟨rfl, _, rfl, ?_⟩⟩
    refine ite2 (fun c => ?_) (fun c => ?_)
    · exact ⟨_, rfl, _, _, rfl, rfl, ⟨by decide, by decide, by decide⟩, _, _, rfl, rfl, .inl ⟨by decide, by decide⟩, p, s0, _, rfl, P1.now, (by decide), (by decide), fun y H2 y0 y6 P2 => ⟨_, _, rfl, rfl, ⟨by decide, by decide, by decide⟩, _, _, rfl, rfl, q _ H2 (P1.trans P2)⟩⟩
    · exact ⟨_, rfl, p, s0, 21, rfl, P1.now, (by decide), (by decide), fun y H2 y0 y6 P2 => ⟨_, _, rfl, rfl, q _ H2 (P1.trans P2)⟩⟩
abbrev s_l_begin : Stmt := topS 49
theorem sc_l_begin : FnScope ["_law_pool_here"] ["_law_pool_here"] (defScope s_l_begin) := ⟨rfl, rfl, rfl, by decide +kernel, rfl, by decide +kernel, by decide +kernel⟩
theorem ok_begin {f : Addr} {fd : FuncData} (F : Fun K "_law_begin" "_law_begin" s_l_begin f fd) (B : Blt mg) (G : G2 P w K mg base) : FnOk P w K mg base CX0 2 f fd ["_law_pool_here"] spInt := by
  refine F.ok sc_l_begin (fun vs H Q E h => ?_) (fun cdv A outer s H vs Q E hr h => ?_)
  · obtain ⟨p, s, rfl, _⟩ := h
    rfl
  · obtain ⟨p, s0, rfl, hP, q⟩ := h
    refine ⟨_, (pss_cons (ps_if (pt_cmpR op_eq (pe_cal G.law_draw (hr.mono (by decide)) pass0 (pa_cons (pv 0) (pa_cons pe_int pa_nil))) pe_int (nomark _))
      (pss_one (ps_ret (pe_op op_sub (pe_cal G.law_draw (hr.mono (by decide)) pass0 (pa_cons (pv 0) (pa_cons (pe_op op_mul pe_int (pe_op op_pow pe_int pe_int)) pa_nil))) (pe_op op_pow pe_int pe_int))))
      pss_nil)
    (pss_one (ps_ret (pe_op op_sub (pe_cal G.law_draw (hr.mono (by decide)) pass0 (pa_cons (pv 0) (pa_cons pe_int pa_nil))) pe_int)))), ?_⟩
    refine ⟨_, rfl, p, s0, 3, rfl, hP, (by decide), (by decide), fun x H1 x0 x6 P1 => ⟨rfl, _, rfl, ?_⟩⟩
    refine ite2 (fun c => ?_) (fun c => ?_)
    · exact ⟨_, rfl, _, _, rfl, rfl, ⟨by decide, by decide, by decide⟩, _, _, rfl, rfl, .inl ⟨by decide, by decide⟩, p, s0, _, rfl, P1.now, (by decide), (by decide), fun y H2 y0 y6 P2 => ⟨_, _, rfl, rfl, ⟨by decide, by decide, by decide⟩, _, _, rfl, rfl, q _ H2 (P1.trans P2)⟩⟩
    · exact ⟨_, rfl, p, s0, 21, rfl, P1.now, (by decide), (by decide), fun y H2 y0 y6 P2 => ⟨_, _, rfl, rfl, q _ H2 (P1.trans P2)⟩⟩
structure G3 (P : Program) (w : World) (K : PySem.W.Frag) (mg : Str → Option Value) (base : Heap) : Prop extends G2 P w K mg base where
  law_lates : Cal P w K mg base CX0 "_law_lates" 3 ["_law_pool_here"] spLates
  law_amount : Cal P w K mg base CX0 "_law_amount" 2 ["_law_pool_here"] spInt
abbrev s_l_entry : Stmt := topS 46
theorem sc_l_entry : FnScope ["_law_pool_here", "_law_lates_here", "_law_keys", "_law_states_here", "_law_number", "_law_arrival", "_law_open_ones", "_law_other", "_law_kind", "_law_stream", "_law_moment"] ["_law_pool_here", "_law_lates_here", "_law_keys", "_law_states_here", "_law_number", "_law_arrival"] (defScope s_l_entry) := ⟨rfl, rfl, rfl, by decide +kernel, rfl, by decide +kernel, by decide +kernel⟩
theorem ok_entry {f : Addr} {fd : FuncData} (F : Fun K "_law_entry" "_law_entry" s_l_entry f fd) (B : Blt mg) (G : G3 P w K mg base) : FnOk P w K mg base CX0 3 f fd ["_law_pool_here", "_law_lates_here", "_law_keys", "_law_states_here", "_law_number", "_law_arrival"] spEntry := by
  refine F.ok sc_l_entry (fun vs H Q E h => ?_) (fun cdv A outer s H vs Q E hr h => ?_)
  · obtain ⟨p, s, dl, dk, ds, L, ks, S, number, arrival, rfl, _⟩ := h
    rfl
  · obtain ⟨p, s0, dl, dk, ds, L, ks, S, number, arrival, rfl, D, hn, hSn, q⟩ := h
    have hu := hu_of hr
    refine ⟨_, (pss_cons (ps_set (i := 6) sc_l_entry.nd rfl (Or.inl rfl) (pe_lst pa_nil))
    (pss_cut (ps_for PassesOwn.never rfl (pi_list (pe_callTy (call_listD (by rfl)) (by rfl) B.list (by decide +kernel) (pa_cons (pv 3) pa_nil))) (pg_name (i := 7) sc_l_entry.nd rfl (Or.inl rfl))
      (pss_one (ps_if (PW.pt (pw_and (pt_cmpR op_notN (pe_dget hu (pv 3) (pv 7) (fun _ _ => rfl)) pe_non (nomark _)) (pw_and1 (pt_cmpR op_le (pv 5) (pe_op op_add (pe_ix ix_tup (pe_dget hu (pv 3) (pv 7) (fun _ _ => rfl)) pe_int (fun _ _ => rfl)) (pe_dget hu (pv 1) (pe_ix ix_tup (pe_dget hu (pv 3) (pv 7) (fun _ _ => rfl)) pe_int (fun _ _ => rfl)) (fun _ _ => rfl))) (nomark _)))))
        (pss_one (ps_expr (pe_bm PySem.F.plainAttrs_list PySem.F.slot_list_append PySem.F.type_list_append mt_append (pv 6) (pa_cons (pv 7) pa_nil))))
        pss_nil)))
    (pss_cons (ps_set (i := 8) sc_l_entry.nd rfl (Or.inl rfl) (pe_cal G.law_draw (hr.mono (by decide)) pass0 (pa_cons (pv 0) (pa_cons pe_int pa_nil))))
    (pss_cons (ps_if (PW.pt (pw_or (pt_cmpR op_lt (pv 8) pe_int (nomark _)) (pw_or1 (pt_cmpR op_eq (pe_callB call_len_seq (by rfl) B.len (by decide +kernel) (pa_cons (pv 6) pa_nil)) pe_int (nomark _)))))
      (pss_cons (ps_set (i := 9) sc_l_entry.nd rfl (Or.inl rfl) (pe_ix ix_list (pe_callTy (call_listD (by rfl)) (by rfl) B.list (by decide +kernel) (pa_cons (pv 1) pa_nil)) (pe_cal G.law_draw (hr.mono (by decide)) pass0 (pa_cons (pv 0) (pa_cons (pe_callB call_lenD (by rfl) B.len (by decide +kernel) (pa_cons (pv 1) pa_nil)) pa_nil))) (fun _ _ => rfl)))
      (pss_cons (ps_set (i := 10) sc_l_entry.nd rfl (Or.inl rfl) (pe_op op_sub (pv 5) (pe_cal G.law_draw (hr.mono (by decide)) pass0 (pa_cons (pv 0) (pa_cons (pe_op op_add (pe_dget hu (pv 1) (pv 9) (fun _ _ => rfl)) pe_int) pa_nil)))))
      (pss_one (ps_ret (pe_tup (pa_cons pe_str (pa_cons (pv 4) (pa_cons (pv 9) (pa_cons (pe_ix ix_list (pv 2) (pe_cal G.law_draw (hr.mono (by decide)) pass0 (pa_cons (pv 0) (pa_cons (pe_callB call_len_seq (by rfl) B.len (by decide +kernel) (pa_cons (pv 2) pa_nil)) pa_nil))) (fun _ _ => rfl)) (pa_cons (pv 10) (pa_cons (pe_cal G.law_amount (hr.mono (by decide)) pass0 (pa_cons (pv 0) pa_nil)) (pa_cons (pv 5) pa_nil))))))))))))
      pss_nil)
    (pss_cons (ps_set (i := 7) sc_l_entry.nd rfl (Or.inl rfl) (pe_ix ix_list (pv 6) (pe_cal G.law_draw (hr.mono (by decide)) pass0 (pa_cons (pv 0) (pa_cons (pe_callB call_len_seq (by rfl) B.len (by decide +kernel) (pa_cons (pv 6) pa_nil)) pa_nil))) (fun _ _ => rfl)))
    (pss_cons (ps_if (pt_cmpR op_eq (pv 8) pe_int (nomark _))
      (pss_cons (ps_set (i := 10) sc_l_entry.nd rfl (Or.inl rfl) (pe_op op_sub (pv 5) (pe_cal G.law_draw (hr.mono (by decide)) pass0 (pa_cons (pv 0) (pa_cons (pe_op op_add (pe_dget hu (pv 1) (pe_ix ix_tup (pe_dget hu (pv 3) (pv 7) (fun _ _ => rfl)) pe_int (fun _ _ => rfl)) (fun _ _ => rfl)) pe_int) pa_nil)))))
      (pss_one (ps_ret (pe_tup (pa_cons pe_str (pa_cons (pv 7) (pa_cons (pv 10) (pa_cons (pe_cal G.law_amount (hr.mono (by decide)) pass0 (pa_cons (pv 0) pa_nil)) (pa_cons (pv 5) pa_nil)))))))))
      pss_nil)
    (pss_one (ps_ret (pe_tup (pa_cons pe_str (pa_cons (pv 7) (pa_cons (pv 5) pa_nil)))))))))))), ?_⟩
    refine ⟨(by show 0 ≤ sizeLine; decide), fun q0 hq0 => ?_⟩
    obtain ⟨kvs, hst, hst1, hst2, hst3⟩ := D.st
    have s0' := sameAt (Same.refl H) hq0 (o := .lst [])
    -- open_ones
    refine ⟨fun σ H1 => (∃ a b c d, ∃ ids : List Int, σ = [some (.ref p), some (.ref dl), some (.ref dk), some (.ref ds), some (.int number), some (.int arrival), some (.ref q0), a, b, c, d] ∧ H1 q0 = some (.lst (ids.map V.int)) ∧ ids.length ≤ 500 ∧
      ∀ id ∈ ids, ∃ z k m a l, S id = some (.at_ z k m a) ∧ L.lookup z = some l ∧ arrival ≤ m + l) ∧ Same H H1, ?_, ?_⟩
    · refine ⟨_, rfl, ds, kvs, rfl, .of (s0' _ _ hst), fun l hl => ⟨l, rfl, ⟨_, SqL.of upd_same⟩, ?_⟩⟩
      have e1 : kvs.map (fun kv => kV kv.1) = kvs.map (fun kv => kV kv.1) := rfl
      have s1 : Same H (upd (upd H q0 (.lst [])) l (.lst (kvs.map fun kv => kV kv.1))) := s0'.trans (sameAt (Same.refl _) hl)
      have hql : q0 ≠ l := fun z => by rw [← z, upd_same] at hl; cases hl
      refine for_list (K := K) (a := l) (xs := kvs.map fun kv => kV kv.1) (fun i σ H1 => (∃ a b c d, ∃ ids : List Int, σ = [some (.ref p), some (.ref dl), some (.ref dk), some (.ref ds), some (.int number), some (.int arrival), some (.ref q0), a, b, c, d] ∧ H1 q0 = some (.lst (ids.map V.int)) ∧ ids.length ≤ i ∧
        ∀ id ∈ ids, ∃ z k m a l, S id = some (.at_ z k m a) ∧ L.lookup z = some l ∧ arrival ≤ m + l) ∧ H1 l = some (.lst (kvs.map fun kv => kV kv.1)) ∧ Same H H1) ?_ (fun i σ H1 _ hv => SqL.of hv.2.1) ?_ ?_
      · exact ⟨⟨_, _, _, _, [], rfl, by rw [upd_ne hql]; exact upd_same, Nat.le_refl _, fun _ h => nomatch h⟩, upd_same, s1⟩
      · rintro i x σ H1 hi ⟨⟨a, b, c, d, ids, rfl, hq1, hlen, hids⟩, hl1, s2⟩
        obtain ⟨kv, hkv, rfl⟩ : ∃ kv, kvs[i]? = some kv ∧ x = kV kv.1 := by
          rw [List.getElem?_map] at hi
          cases e : kvs[i]? with
          | none => rw [e] at hi; cases hi
          | some z => rw [e] at hi; exact ⟨z, rfl, (Option.some.inj hi).symm⟩
        have hil : i < kvs.length := (List.getElem?_eq_some_iff.mp hkv).1
        have hm := List.mem_of_getElem? hkv
        obtain ⟨id, hid⟩ := hst2 _ hm
        obtain ⟨v, hv⟩ := mem_val hm
        rw [hid] at hv ⊢
        have hs1 := s2 _ _ hst
        have hd1 := s2 _ _ D.dl
        have sv := (hst3 id).but (fun t xs e => s2 _ _ e)
        rw [hv] at sv
        have hg := DGet.k (k := Sum.inl id) hs1
        rw [hv] at hg
        cases eS : S id with
        | none => rw [eS] at sv; exact absurd sv (fun z => z)
        | some r =>
          rw [eS] at sv
          cases r with
          | tb =>
            obtain rfl : v = .non := sv
            refine ⟨_, rfl, _, rfl, ds, _, rfl, hg, rfl, _, rfl, iteF ?_⟩
            exact ⟨⟨_, _, _, _, ids, rfl, hq1, by omega, hids⟩, hl1, s2⟩
          | at_ z k m am =>
            obtain ⟨t, rfl, ht⟩ := sv
            obtain ⟨_, _, hz⟩ := D.ok _ _ _ _ _ eS
            obtain ⟨lt, hlt⟩ := Option.isSome_iff_exists.mp hz
            have hgl := DGet.k (k := Sum.inr z) hd1
            rw [LK_val, hlt] at hgl
            refine ⟨_, rfl, _, rfl, ds, _, rfl, hg, rfl, _, rfl, iteT ?_⟩
            refine ⟨_, rfl, _, rfl, _, rfl, ds, _, rfl, hg, _, _, _, _, rfl, rfl, SqT.of ht, rfl, _, rfl, _, rfl, _, rfl, ds, _, rfl, hg, _, _, _, _, rfl, rfl, SqT.of ht, rfl, dl, _, rfl, hgl, _, _, rfl, rfl, _, _, rfl, rfl, _, rfl, ?_⟩
            refine ite2 (fun c1 => ?_) (fun c1 => ?_)
            · have c1 : arrival ≤ m + lt := of_decide_eq_true c1
              refine ⟨_, rfl, .inl ⟨rfl, _, SqL.of hq1⟩, _, rfl, q0, _, _, rfl, rfl, hq1, (by rw [List.length_map]; exact small1000 (by omega)), ?_⟩
              refine ⟨⟨_, _, _, _, ids ++ [id], rfl, ?_, by rw [List.length_append]; show ids.length + 1 ≤ i + 1; omega, fun id' hid' => ?_⟩, ?_, ?_⟩
              · rw [upd_same, List.map_append]
                rfl
              · rcases List.mem_append.mp hid' with h | h
                · exact hids _ h
                · rw [List.mem_singleton.mp h]
                  exact ⟨z, k, m, am, lt, eS, hlt, c1⟩
              · rw [upd_ne (Ne.symm hql)]
                exact hl1
              · exact sameAt s2 hq0
            · exact ⟨⟨_, _, _, _, ids, rfl, hq1, by omega, hids⟩, hl1, s2⟩
      · rintro σ H1 ⟨⟨a, b, c, d, ids, rfl, hq1, hlen, hids⟩, hl1, s2⟩
        rw [List.length_map] at hlen
        exact ⟨⟨_, _, _, _, ids, rfl, hq1, by omega, hids⟩, s2⟩
    rintro σ H1 ⟨⟨a, b, c, d, ids, rfl, hq1, hlen, hids⟩, s1⟩
    have P1 := D.pool.same s1
    refine ⟨_, rfl, p, s0, 4, rfl, P1, (by decide), (by decide), fun kind H2 k0 k4 P2 => ?_⟩
    have PP2 : Pl H H2 p s0 := ⟨P2.now, D.pool.ne.1, D.pool.ne.2, fun b o hb hn => P2.keep (s1 _ _ hb) hn⟩
    have hqp : q0 ≠ p := fun z => D.pool.ne.1 (z ▸ hq0)
    have hq2 : H2 q0 = some (.lst (ids.map V.int)) := P2.keep hq1 hqp
    have hd2 : H2 dl = some (.dK (LK L)) := PP2.dk D.pool D.dl
    have hk2 : H2 dk = some (.lst (ks.map V.str)) := PP2.sl D.pool D.dk
    have l1 := D.LL.some_
    have l8 := D.LL.few
    refine ⟨_, rfl, _, _, rfl, rfl, _, rfl, ?_⟩
    refine ite2 (fun c1 => ?_) (fun c1 => ?_)
    · skip
      refine ⟨_, rfl, dl, _, rfl, .of hd2, fun l hl => ?_⟩
      have e1 : (LK L).map (fun kv => kV kv.1) = (L.map (·.1)).map V.str := by
        unfold LK
        rw [List.map_map, List.map_map]
        rfl
      rw [e1]
      have PP3 : Pl H (upd H2 l (.lst ((L.map (·.1)).map V.str))) p s0 := PP2.new hl
      have hlp : l ≠ p := fun z => P2.now.ne.1 (z ▸ hl)
      refine ⟨_, rfl, _, rfl, dl, _, rfl, PP3.dk D.pool D.dl, p, s0, _, rfl, PP3.now, (by rw [LK_len]; omega), (by rw [LK_len]; omega), fun g H4 g0 g1 P4 => ?_⟩
      rw [LK_len] at g1
      obtain ⟨g, rfl⟩ : ∃ n : Nat, g = (n : Int) := ⟨g.toNat, by omega⟩
      have hg : g < L.length := by omega
      have PP4 := PP3.trans P4
      have hm : L[g] ∈ L := List.getElem_mem hg
      have hlk : L.lookup L[g].1 = some L[g].2 := lookup_mem D.LL.nd hm
      have b0 := D.LL.lo _ hm
      have b1 := D.LL.hi _ hm
      refine ⟨_, _, _, V.str L[g].1, rfl, rfl, SqL.of (P4.keep upd_same hlp), atI_nat (by rw [List.getElem?_map, List.getElem?_map, List.getElem?_eq_getElem hg]; rfl), ?_⟩
      have hgl := DGet.k (k := Sum.inr L[g].1) (PP4.dk D.pool D.dl)
      rw [LK_val, hlk] at hgl
      refine ⟨_, rfl, _, rfl, _, rfl, _, rfl, dl, _, rfl, hgl, _, _, rfl, rfl, p, s0, _, rfl, PP4.now, (by omega), (by omega), fun dd H5 d0 d1 P5 => ⟨_, _, rfl, rfl, ?_⟩⟩
      have PP5 := PP4.trans P5
      have k1 := D.k1
      have k2 := D.k2
      refine ⟨_, rfl, _, rfl, _, rfl, _, rfl, _, rfl, dk, _, rfl, .inl (SqL.of (PP5.sl D.pool D.dk)), p, s0, _, rfl, PP5.now, (by rw [List.length_map]; omega), (by rw [List.length_map]; omega), fun gk H6 gk0 gk1 P6 => ?_⟩
      rw [List.length_map] at gk1
      obtain ⟨gk, rfl⟩ : ∃ n : Nat, gk = (n : Int) := ⟨gk.toNat, by omega⟩
      have hgk : gk < ks.length := by omega
      have PP6 := PP5.trans P6
      refine ⟨_, _, _, V.str ks[gk], rfl, rfl, SqL.of (PP6.sl D.pool D.dk), atI_nat (by rw [List.getElem?_map, List.getElem?_eq_getElem hgk]; rfl), _, rfl, _, rfl, p, s0, rfl, PP6.now, fun am H7 P7 => ⟨_, rfl, (by show 7 ≤ sizeLine; decide), fun e he => ?_⟩⟩
      refine q e (.row number L[g].1 ks[gk] (arrival - dd) am arrival) (.at_ L[g].1 ks[gk] (arrival - dd) am) _ upd_same ⟨hn, fun _ _ _ _ _ _ z => by
        cases z
        exact ⟨D.LL.nm _ hm, D.kn _ (List.getElem_mem hgk)⟩⟩ (fun _ _ _ _ _ _ z => by cases z; exact List.getElem_mem hgk) rfl ?_ (.inl rfl) ((PP6.trans P7).new he)
      show behind L _ (S number) = _
      rw [hSn]
      show (L.lookup L[g].1).bind _ = _
      rw [hlk, Option.bind_some, if_pos ⟨by omega, by omega⟩]
    · refine ⟨_, rfl, q0, _, rfl, .inl (SqL.of hq2), rfl, _, rfl, ?_⟩
      refine ite2 (fun c2 => ?_) (fun c2 => ?_)
      · skip
        refine ⟨_, rfl, dl, _, rfl, .of hd2, fun l hl => ?_⟩
        have e1 : (LK L).map (fun kv => kV kv.1) = (L.map (·.1)).map V.str := by
          unfold LK
          rw [List.map_map, List.map_map]
          rfl
        rw [e1]
        have PP3 : Pl H (upd H2 l (.lst ((L.map (·.1)).map V.str))) p s0 := PP2.new hl
        have hlp : l ≠ p := fun z => P2.now.ne.1 (z ▸ hl)
        refine ⟨_, rfl, _, rfl, dl, _, rfl, PP3.dk D.pool D.dl, p, s0, _, rfl, PP3.now, (by rw [LK_len]; omega), (by rw [LK_len]; omega), fun g H4 g0 g1 P4 => ?_⟩
        rw [LK_len] at g1
        obtain ⟨g, rfl⟩ : ∃ n : Nat, g = (n : Int) := ⟨g.toNat, by omega⟩
        have hg : g < L.length := by omega
        have PP4 := PP3.trans P4
        have hm : L[g] ∈ L := List.getElem_mem hg
        have hlk : L.lookup L[g].1 = some L[g].2 := lookup_mem D.LL.nd hm
        have b0 := D.LL.lo _ hm
        have b1 := D.LL.hi _ hm
        refine ⟨_, _, _, V.str L[g].1, rfl, rfl, SqL.of (P4.keep upd_same hlp), atI_nat (by rw [List.getElem?_map, List.getElem?_map, List.getElem?_eq_getElem hg]; rfl), ?_⟩
        have hgl := DGet.k (k := Sum.inr L[g].1) (PP4.dk D.pool D.dl)
        rw [LK_val, hlk] at hgl
        refine ⟨_, rfl, _, rfl, _, rfl, _, rfl, dl, _, rfl, hgl, _, _, rfl, rfl, p, s0, _, rfl, PP4.now, (by omega), (by omega), fun dd H5 d0 d1 P5 => ⟨_, _, rfl, rfl, ?_⟩⟩
        have PP5 := PP4.trans P5
        have k1 := D.k1
        have k2 := D.k2
        refine ⟨_, rfl, _, rfl, _, rfl, _, rfl, _, rfl, dk, _, rfl, .inl (SqL.of (PP5.sl D.pool D.dk)), p, s0, _, rfl, PP5.now, (by rw [List.length_map]; omega), (by rw [List.length_map]; omega), fun gk H6 gk0 gk1 P6 => ?_⟩
        rw [List.length_map] at gk1
        obtain ⟨gk, rfl⟩ : ∃ n : Nat, gk = (n : Int) := ⟨gk.toNat, by omega⟩
        have hgk : gk < ks.length := by omega
        have PP6 := PP5.trans P6
        refine ⟨_, _, _, V.str ks[gk], rfl, rfl, SqL.of (PP6.sl D.pool D.dk), atI_nat (by rw [List.getElem?_map, List.getElem?_eq_getElem hgk]; rfl), _, rfl, _, rfl, p, s0, rfl, PP6.now, fun am H7 P7 => ⟨_, rfl, (by show 7 ≤ sizeLine; decide), fun e he => ?_⟩⟩
        refine q e (.row number L[g].1 ks[gk] (arrival - dd) am arrival) (.at_ L[g].1 ks[gk] (arrival - dd) am) _ upd_same ⟨hn, fun _ _ _ _ _ _ z => by
          cases z
          exact ⟨D.LL.nm _ hm, D.kn _ (List.getElem_mem hgk)⟩⟩ (fun _ _ _ _ _ _ z => by cases z; exact List.getElem_mem hgk) rfl ?_ (.inl rfl) ((PP6.trans P7).new he)
        show behind L _ (S number) = _
        rw [hSn]
        show (L.lookup L[g].1).bind _ = _
        rw [hlk, Option.bind_some, if_pos ⟨by omega, by omega⟩]
      · have hne : 0 < ids.length := by
          refine Nat.pos_of_ne_zero fun z => c2 (decide_eq_true ?_)
          rw [List.length_map, z]
          rfl
        refine ⟨_, rfl, _, rfl, _, rfl, q0, _, rfl, .inl (SqL.of hq2), p, s0, _, rfl, PP2.now, (by rw [List.length_map]; omega), (by rw [List.length_map]; omega), fun g H3 g0 g1 P3 => ?_⟩
        rw [List.length_map] at g1
        obtain ⟨g, rfl⟩ : ∃ n : Nat, g = (n : Int) := ⟨g.toNat, by omega⟩
        have hg : g < ids.length := by omega
        have PP3 := PP2.trans P3
        obtain ⟨z, k, m, a0, lt, eS, hlt, hend⟩ := hids _ (List.getElem_mem hg)
        obtain ⟨hzn, hkn, _⟩ := D.ok _ _ _ _ _ eS
        have hpos : 0 ≤ ids[g] := D.pos _ (by rw [eS]; exact fun z => nomatch z)
        have hlo : 0 ≤ lt ∧ lt ≤ 1000000 := by
          have hzm : z ∈ L.map (·.1) := by
            by_cases hz : z ∈ L.map (·.1)
            · exact hz
            · rw [lookup_none hz] at hlt
              cases hlt
          obtain ⟨x, hx, rfl⟩ := List.mem_map.mp hzm
          rw [lookup_mem D.LL.nd hx] at hlt
          cases hlt
          exact ⟨D.LL.lo _ hx, D.LL.hi _ hx⟩
        have sv := (hst3 ids[g]).but (fun t xs e => PP3.tp D.pool e)
        rw [eS] at sv
        obtain ⟨v, hv⟩ : ∃ v, valV kvs (Sum.inl ids[g]) = some v := by
          cases e : valV kvs (Sum.inl ids[g] : Key) with
          | none => rw [e] at sv; exact absurd sv (fun z => z)
          | some v => exact ⟨v, rfl⟩
        rw [hv] at sv
        obtain ⟨t, rfl, ht⟩ := sv
        have hgs := DGet.k (k := Sum.inl ids[g]) (PP3.dk D.pool hst)
        rw [hv] at hgs
        have hgl := DGet.k (k := Sum.inr z) (PP3.dk D.pool D.dl)
        rw [LK_val, hlt] at hgl
        refine ⟨_, _, _, V.int ids[g], rfl, rfl, SqL.of (P3.keep hq2 hqp), atI_nat (by rw [List.getElem?_map, List.getElem?_eq_getElem hg]; rfl), _, rfl, rfl, _, rfl, ?_⟩
        refine ite2 (fun c3 => ?_) (fun c3 => ?_)
        · refine ⟨_, rfl, _, rfl, _, rfl, _, rfl, _, rfl, ds, _, rfl, hgs, _, _, _, _, rfl, rfl, SqT.of ht, rfl, dl, _, rfl, hgl, _, _, rfl, rfl, p, s0, _, rfl, PP3.now, (by omega), (by omega), fun dd H4 d0 d1 P4 => ⟨_, _, rfl, rfl, ?_⟩⟩
          have PP4 := PP3.trans P4
          refine ⟨_, rfl, _, rfl, _, rfl, p, s0, rfl, PP4.now, fun am H5 P5 => ⟨_, rfl, (by show 5 ≤ sizeLine; decide), fun e he => ?_⟩⟩
          refine q e (.fix ids[g] (arrival - dd) am arrival) (.at_ z k (arrival - dd) am) _ upd_same ⟨hpos, fun _ _ _ _ _ _ z => by cases z⟩ (fun _ _ _ _ _ _ z => by cases z) rfl ?_ (.inr (by show S ids[g] ≠ none; rw [eS]; exact fun z => nomatch z)) ((PP4.trans P5).new he)
          show behind L _ (S ids[g]) = _
          rw [eS]
          show (L.lookup z).bind _ = _
          rw [hlt, Option.bind_some, if_pos ⟨hend, by omega, by omega⟩]
        · refine ⟨_, rfl, _, rfl, (by show 3 ≤ sizeLine; decide), fun e he => ?_⟩
          refine q e (.gone ids[g] arrival) .tb _ upd_same ⟨hpos, fun _ _ _ _ _ _ z => by cases z⟩ (fun _ _ _ _ _ _ z => by cases z) rfl ?_ (.inr (by show S ids[g] ≠ none; rw [eS]; exact fun z => nomatch z)) (PP3.new he)
          show behind L _ (S ids[g]) = _
          rw [eS]
          show (L.lookup z).bind _ = _
          rw [hlt, Option.bind_some, if_pos hend]
end
end Ash

set_option Elab.async false
set_option linter.all false
set_option maxRecDepth 100000
set_option maxHeartbeats 4000000
namespace Ash
open PySem PySem.Spec PyProof.Rows L2
open C8 (pss_cut)
/-! ### states that change -/
def TK (H H' : Hp) : Prop := ∀ t xs, H t = some (.tup xs) → H' t = some (.tup xs)
theorem Ents.tk {H H' : Hp} {us : List V} {xs : List Ent} (h : Ents H us xs) (s : TK H H') : Ents H' us xs := ⟨h.1, fun i v x a b => by
  obtain ⟨e, h1, h2, h3⟩ := h.2 i v x a b
  exact ⟨e, h1, s _ _ h2, h3⟩⟩
theorem Pl.tk {H H' : Hp} {p s : Addr} (P : Pl H H' p s) (P0 : PoolAt H p s) : TK H H' := fun t xs h => P.tp P0 h
theorem tk_same {H H' : Hp} (s : Same H H') : TK H H' := fun t xs h => s _ _ h
theorem TK.trans {H H1 H2 : Hp} (a : TK H H1) (b : TK H1 H2) : TK H H2 := fun t xs h => b t xs (a t xs h)
theorem tk_off {H : Hp} {q : Addr} {o u : HO} (h : H q = some u) (hu : ∀ xs, u ≠ .tup xs) : TK H (upd H q o) := fun t xs e => by
  rw [upd_ne (ne_of e h (fun z => hu xs z.symm))]
  exact e
theorem mem_putK {kvs : List (Key × V)} {id : Int} {v : V} (h : ∀ kv ∈ kvs, ∃ id, kv.1 = Sum.inl id) : ∀ kv ∈ putK kvs (Sum.inl id : Key) v, ∃ id, kv.1 = Sum.inl id := by
  intro kv hkv
  unfold putK at hkv
  split at hkv
  · obtain ⟨x, hx, rfl⟩ := List.mem_map.mp hkv
    obtain ⟨j, hj⟩ := h x hx
    split
    · exact ⟨j, hj⟩
    · exact ⟨j, hj⟩
  · rcases List.mem_append.mp hkv with hk | hk
    · exact h kv hk
    · rw [List.mem_singleton.mp hk]
      exact ⟨id, rfl⟩
def setK (S : Kn) (id : Int) (y : RowSt) : Kn := fun j => if j = id then some y else S j
theorem StAt.put {H H1 : Hp} {ds : Addr} {S : Kn} {n : Nat} {kvs : List (Key × V)} {id : Int} {v : V} {y : RowSt} (h1 : H ds = some (.dK kvs)) (h2 : kvs.length ≤ n) (h3 : ∀ kv ∈ kvs, ∃ id, kv.1 = Sum.inl id) (h4 : ∀ id, SV H (valV kvs (Sum.inl id)) (S id))
    (s : Same H H1) (hv : SV H1 (some v) (some y)) : StAt (upd H1 ds (.dK (putK kvs (Sum.inl id) v))) ds (setK S id y) (n + 1) := by
  refine ⟨_, upd_same, Nat.le_trans (pk_len _ _ _) (by omega), mem_putK h3, fun j => ?_⟩
  have tk : TK H1 (upd H1 ds (.dK (putK kvs (Sum.inl id) v))) := tk_off (s _ _ h1) (fun xs z => by cases z)
  rw [valV_put]
  show SV _ _ (if j = id then some y else S j)
  by_cases e : j = id
  · rw [if_pos (by rw [e]), if_pos e]
    exact hv.but tk
  · rw [if_neg (fun q => e (Sum.inl.inj q)), if_neg e]
    exact ((h4 j).but fun t xs z => s _ _ z).but tk
theorem behind_row {L : List (Str × Int)} {id : Int} {s k : Str} {m a r : Int} {o : Option RowSt} {y : RowSt} (h : behind L (.row id s k m a r) o = some y) : y = .at_ s k m a := by
  cases o with
  | some o => cases h
  | none =>
    have h : (L.lookup s).bind _ = _ := h
    cases e : L.lookup s with
    | none => rw [e] at h; cases h
    | some l =>
      rw [e, Option.bind_some] at h
      split at h
      · exact (Option.some.inj h).symm
      · cases h
theorem behind_fix {L : List (Str × Int)} {id m a r : Int} {o : Option RowSt} {y : RowSt} (h : behind L (.fix id m a r) o = some y) : ∃ s k m0 a0, o = some (.at_ s k m0 a0) ∧ y = .at_ s k m a := by
  cases o with
  | none => cases h
  | some o =>
    cases o with
    | tb => cases h
    | at_ s k m0 a0 =>
      have h : (L.lookup s).bind _ = _ := h
      cases e : L.lookup s with
      | none => rw [e] at h; cases h
      | some l =>
        rw [e, Option.bind_some] at h
        split at h
        · exact ⟨s, k, m0, a0, rfl, (Option.some.inj h).symm⟩
        · cases h
theorem behind_gone {L : List (Str × Int)} {id r : Int} {o : Option RowSt} {y : RowSt} (h : behind L (.gone id r) o = some y) : y = .tb := by
  cases o with
  | none => cases h
  | some o =>
    cases o with
    | tb => cases h
    | at_ s k m0 a0 =>
      have h : (L.lookup s).bind _ = _ := h
      cases e : L.lookup s with
      | none => rw [e] at h; cases h
      | some l =>
        rw [e, Option.bind_some] at h
        split at h
        · exact (Option.some.inj h).symm
        · cases h
def spPut : Sp := fun vs H Q _ => ∃ (ds e : Addr) (L : List (Str × Int)) (S : Kn) (n : Nat) (x : Ent) (y : RowSt), vs = [.ref ds, .ref e] ∧ StAt H ds S n ∧ n ≤ 900 ∧ EntAt H e x ∧ behind L x (S x.id) = some y ∧
  ∀ H', StAt H' ds (setK S x.id y) (n + 1) → (∀ c o, H c = some o → c ≠ ds → H' c = some o) → Q .non H'
/-- the latest arrival -/
def lastA : List Ent → Option Int → Option Int
  | [], l => l
  | x :: r, _ => lastA r (some x.arr)
theorem lastA_snoc : ∀ (xs : List Ent) (x : Ent) (l : Option Int), lastA (xs ++ [x]) l = some x.arr
  | [], _, _ => rfl
  | _ :: r, x, _ => lastA_snoc r x _
theorem wk_app {L : List (Str × Int)} {S1 : Kn} (rest : List (Option Ent)) : ∀ {xs : List Ent} {i : Nat} {S : Kn} {l : Option Int}, wk L (xs.map some) i S l = (none, S1) → wk L (xs.map some ++ rest) i S l = wk L rest (i + xs.length) S1 (lastA xs l)
  | [], i, S, l, h => by
    have h : ((none : Option Nat), S) = (none, S1) := h
    cases h
    rfl
  | x :: r, i, S, l, h => by
    have h : wk L (some x :: r.map some) i S l = (none, S1) := h
    show wk L (some x :: (r.map some ++ rest)) i S l = _
    by_cases c : late? l x.arr = true
    · rw [wk_late c] at h
      cases h
    · have c0 : late? l x.arr = false := Bool.eq_false_iff.mpr c
      cases hb : behind L x (S x.id) with
      | none =>
        rw [wk_bad c0 hb] at h
        cases h
      | some z =>
        rw [wk_go c0 hb] at h ⊢
        rw [wk_app rest h]
        show wk L rest (i + 1 + r.length) S1 _ = wk L rest (i + (r.length + 1)) S1 _
        rw [show i + 1 + r.length = i + (r.length + 1) by omega]
        rfl
/-- what is left of the heap when the pool and the states have changed -/
structure Pd (H0 H : Hp) (p s ds : Addr) : Prop where
  now : PoolAt H p s
  op : H0 p ≠ none
  os : H0 s ≠ none
  but : ∀ b o, H0 b = some o → b ≠ p → b ≠ ds → H b = some o
theorem Pd.pl {H0 H H1 : Hp} {p s ds : Addr} (a : Pd H0 H p s ds) (b : Pl H H1 p s) : Pd H0 H1 p s ds := ⟨b.now, a.op, a.os, fun c o h n1 n2 => b.keep (a.but c o h n1 n2) n1⟩
theorem Pd.chg {H0 H H1 : Hp} {p s ds : Addr} {kvs : List (Key × V)} (a : Pd H0 H p s ds) (hd : H ds = some (.dK kvs)) (k : ∀ c o, H c = some o → c ≠ ds → H1 c = some o) : Pd H0 H1 p s ds := by
  refine ⟨?_, a.op, a.os, fun c o h n1 n2 => k _ _ (a.but c o h n1 n2) n2⟩
  obtain ⟨ns, i, c, kk, n, h1, h2, h3, h4⟩ := a.now
  exact ⟨ns, i, c, kk, n, k _ _ h1 (ne_of h1 hd (by intro z; cases z)), k _ _ h2 (ne_of h2 hd (by intro z; cases z)), h3, h4⟩
theorem Pd.at {H0 H : Hp} {p s ds q : Addr} {o : HO} (a : Pd H0 H p s ds) (hq : H0 q = none) : Pd H0 (upd H q o) p s ds :=
  ⟨a.now.off (fun z => a.op (z ▸ hq)) (fun z => a.os (z ▸ hq)), a.op, a.os, fun c o h n1 n2 => by rw [upd_ne (ne_of_none h hq)]; exact a.but c o h n1 n2⟩
theorem Pd.free {H0 H : Hp} {p s ds q : Addr} (a : Pd H0 H p s ds) (hd : H ds ≠ none) (hq : H q = none) : H0 q = none := by
  cases e : H0 q with
  | none => rfl
  | some u =>
    by_cases h1 : q = p
    · exact absurd (h1 ▸ hq) a.now.ne.1
    · by_cases h2 : q = ds
      · exact absurd (h2 ▸ hq) hd
      · rw [a.but q u e h1 h2] at hq
        cases hq
theorem Ents.snoc {H : Hp} {us : List V} {xs : List Ent} {e : Addr} {x : Ent} (h : Ents H us xs) (he : EntAt H e x) (hok : x.ok) : Ents H (us ++ [.ref e]) (xs ++ [x]) := by
  refine ⟨by rw [List.length_append, List.length_append, h.1]; rfl, fun i v y a b => ?_⟩
  by_cases hi : i < us.length
  · rw [List.getElem?_append_left hi] at a
    rw [List.getElem?_append_left (by rw [← h.1]; exact hi)] at b
    exact h.2 i v y a b
  · have hi' : i = us.length := by
      have := (List.getElem?_eq_some_iff.mp a).1
      rw [List.length_append] at this
      have : i < us.length + 1 := this
      omega
    subst hi'
    rw [List.getElem?_append_right (Nat.le_refl _), Nat.sub_self] at a
    rw [h.1, List.getElem?_append_right (Nat.le_refl _), Nat.sub_self] at b
    cases a
    cases b
    exact ⟨e, rfl, he, hok⟩
def spEntries : Sp := fun vs H Q _ => ∃ (p s dl dk ds : Addr) (L : List (Str × Int)) (ks : List Str) (S0 : Kn) (n0 : Nat) (number arrival many : Int), vs = [.ref p, .ref dl, .ref dk, .ref ds, .int number, .int arrival, .int many] ∧ Draw H p s dl dk ds L ks S0 ∧ StAt H ds S0 n0 ∧ 0 ≤ many ∧ many ≤ 100 ∧ (n0 : Int) + many ≤ 500 ∧
  0 ≤ number ∧ (∀ id, S0 id ≠ none → id < number) ∧ ds ≠ dl ∧
  ∀ (q : Addr) us xs S1 H', H q = none → H' q = some (.lst us) → Ents H' us xs → (xs.length : Int) = many → (∀ l, (∀ t, l = some t → t ≤ arrival) → ∀ i, wk L (xs.map some) i S0 l = (none, S1)) → (∀ x ∈ xs, arrival ≤ x.arr) →
    StAt H' ds S1 (n0 + xs.length) → KnOk L S1 → (∀ id, S1 id ≠ none → 0 ≤ id ∧ id < number + 3 * many) → Pd H H' p s ds → Q (.ref q) H'
section
variable {P : Program} {w : World} {K : PySem.W.Frag} {mg : Str → Option Value} {base : Heap}
abbrev s_l_put : Stmt := topS 47
theorem sc_l_put : FnScope ["_law_states_here", "_law_entry_here", "_law_old"] ["_law_states_here", "_law_entry_here"] (defScope s_l_put) := ⟨rfl, rfl, rfl, by decide +kernel, rfl, by decide +kernel, by decide +kernel⟩
theorem ok_put {f : Addr} {fd : FuncData} (F : Fun K "_law_put" "_law_put" s_l_put f fd) (B : Blt mg) : FnOk P w K mg base CX0 1 f fd ["_law_states_here", "_law_entry_here"] spPut := by
  refine F.ok sc_l_put (fun vs H Q E h => ?_) (fun cdv A outer s H vs Q E hr h => ?_)
  · obtain ⟨ds, e, L, S, n, x, y, rfl, _⟩ := h
    rfl
  · obtain ⟨ds, e, L, S, n, x, y, rfl, hst, hn, hx, hb, q⟩ := h
    have hu := hu_of hr
    obtain ⟨kvs, h1, h2, h3, h4⟩ := id hst
    refine ⟨_, (pss_one (ps_if (pt_cmpR op_eq (pe_ix ix_tup (pv 1) pe_int (fun _ _ => rfl)) pe_str (nomark _))
      (pss_one (ps_dput hu (pv 0) (pe_ix ix_tup (pv 1) pe_int (fun _ _ => rfl)) (pe_tup (pa_cons (pe_ix ix_tup (pv 1) pe_int (fun _ _ => rfl)) (pa_cons (pe_ix ix_tup (pv 1) pe_int (fun _ _ => rfl)) (pa_cons (pe_ix ix_tup (pv 1) pe_int (fun _ _ => rfl)) (pa_cons (pe_ix ix_tup (pv 1) pe_int (fun _ _ => rfl)) pa_nil))))) rfl))
      (pss_one (ps_if (pt_cmpR op_eq (pe_ix ix_tup (pv 1) pe_int (fun _ _ => rfl)) pe_str (nomark _))
        (pss_cons (ps_set (i := 2) sc_l_put.nd rfl (Or.inl rfl) (pe_dget hu (pv 0) (pe_ix ix_tup (pv 1) pe_int (fun _ _ => rfl)) (fun _ _ => rfl)))
        (pss_one (ps_dput hu (pv 0) (pe_ix ix_tup (pv 1) pe_int (fun _ _ => rfl)) (pe_tup (pa_cons (pe_ix ix_tup (pv 2) pe_int (fun _ _ => rfl)) (pa_cons (pe_ix ix_tup (pv 2) pe_int (fun _ _ => rfl)) (pa_cons (pe_ix ix_tup (pv 1) pe_int (fun _ _ => rfl)) (pa_cons (pe_ix ix_tup (pv 1) pe_int (fun _ _ => rfl)) pa_nil))))) rfl)))
        (pss_one (ps_dput hu (pv 0) (pe_ix ix_tup (pv 1) pe_int (fun _ _ => rfl)) pe_non rfl)))))), ?_⟩
    cases x with
    | row id z k m a r =>
      obtain rfl := behind_row hb
      refine ⟨_, rfl, _, _, _, _, rfl, rfl, SqT.of hx, rfl, rfl, _, rfl, iteT ?_⟩
      refine ⟨_, rfl, _, _, _, _, rfl, rfl, SqT.of hx, rfl, _, rfl, _, _, _, _, rfl, rfl, SqT.of hx, rfl, _, rfl, _, _, _, _, rfl, rfl, SqT.of hx, rfl, _, rfl, _, _, _, _, rfl, rfl, SqT.of hx, rfl, (by show 4 ≤ sizeLine; decide), fun t ht => ?_⟩
      have s1 := sameAt (Same.refl H) ht (o := .tup [.str z, .str k, .int m, .int a])
      have hx1 : EntAt (upd H t (.tup [.str z, .str k, .int m, .int a])) e (.row id z k m a r) := s1 _ _ hx
      refine ⟨_, rfl, _, rfl, _, _, _, _, rfl, rfl, SqT.of hx1, rfl, ds, _, rfl, DPut.k (k := Sum.inl id) (s1 _ _ h1) (small1000 (by omega)), ?_⟩
      exact q _ (StAt.put h1 h2 h3 h4 s1 ⟨t, rfl, upd_same⟩) fun c o hc hn => by rw [upd_ne hn]; exact s1 _ _ hc
    | fix id m a r =>
      obtain ⟨z, k, m0, a0, eS, rfl⟩ := behind_fix hb
      have sv := h4 id
      have eS : S id = some (.at_ z k m0 a0) := eS
      rw [eS] at sv
      obtain ⟨v, hv⟩ : ∃ v, valV kvs (Sum.inl id) = some v := by
        cases e : valV kvs (Sum.inl id : Key) with
        | none => rw [e] at sv; exact absurd sv (fun z => z)
        | some v => exact ⟨v, rfl⟩
      rw [hv] at sv
      obtain ⟨t0, rfl, ht0⟩ := sv
      have hg := DGet.k (k := Sum.inl id) h1
      rw [hv] at hg
      refine ⟨_, rfl, _, _, _, _, rfl, rfl, SqT.of hx, rfl, rfl, _, rfl, iteF ?_⟩
      refine ⟨_, rfl, _, _, _, _, rfl, rfl, SqT.of hx, rfl, rfl, _, rfl, iteT ?_⟩
      refine ⟨_, rfl, _, rfl, _, _, _, _, rfl, rfl, SqT.of hx, rfl, ds, _, rfl, hg, ?_⟩
      refine ⟨_, rfl, _, _, _, _, rfl, rfl, SqT.of ht0, rfl, _, rfl, _, _, _, _, rfl, rfl, SqT.of ht0, rfl, _, rfl, _, _, _, _, rfl, rfl, SqT.of hx, rfl, _, rfl, _, _, _, _, rfl, rfl, SqT.of hx, rfl, (by show 4 ≤ sizeLine; decide), fun t ht => ?_⟩
      have s1 := sameAt (Same.refl H) ht (o := .tup [.str z, .str k, .int m, .int a])
      have hx1 : EntAt (upd H t (.tup [.str z, .str k, .int m, .int a])) e (.fix id m a r) := s1 _ _ hx
      refine ⟨_, rfl, _, rfl, _, _, _, _, rfl, rfl, SqT.of hx1, rfl, ds, _, rfl, DPut.k (k := Sum.inl id) (s1 _ _ h1) (small1000 (by omega)), ?_⟩
      exact q _ (StAt.put h1 h2 h3 h4 s1 ⟨t, rfl, upd_same⟩) fun c o hc hn => by rw [upd_ne hn]; exact s1 _ _ hc
    | gone id r =>
      obtain rfl := behind_gone hb
      refine ⟨_, rfl, _, _, _, _, rfl, rfl, SqT.of hx, rfl, rfl, _, rfl, iteF ?_⟩
      refine ⟨_, rfl, _, _, _, _, rfl, rfl, SqT.of hx, rfl, rfl, _, rfl, iteF ?_⟩
      refine ⟨_, rfl, _, rfl, _, _, _, _, rfl, rfl, SqT.of hx, rfl, ds, _, rfl, DPut.k (k := Sum.inl id) h1 (small1000 (by omega)), ?_⟩
      exact q _ (StAt.put h1 h2 h3 h4 (Same.refl H) rfl) fun c o hc hn => by rw [upd_ne hn]; exact hc
structure G4 (P : Program) (w : World) (K : PySem.W.Frag) (mg : Str → Option Value) (base : Heap) : Prop extends G3 P w K mg base where
  law_entry : Cal P w K mg base CX0 "_law_entry" 3 ["_law_pool_here", "_law_lates_here", "_law_keys", "_law_states_here", "_law_number", "_law_arrival"] spEntry
  law_put : Cal P w K mg base CX0 "_law_put" 1 ["_law_states_here", "_law_entry_here"] spPut
abbrev s_l_entries : Stmt := topS 48
theorem sc_l_entries : FnScope ["_law_pool_here", "_law_lates_here", "_law_keys", "_law_states_here", "_law_number", "_law_arrival", "_law_many", "_law_entries_here", "_law_k", "_law_entry_here"] ["_law_pool_here", "_law_lates_here", "_law_keys", "_law_states_here", "_law_number", "_law_arrival", "_law_many"] (defScope s_l_entries) := ⟨rfl, rfl, rfl, by decide +kernel, rfl, by decide +kernel, by decide +kernel⟩
theorem ok_entries {f : Addr} {fd : FuncData} (F : Fun K "_law_entries" "_law_entries" s_l_entries f fd) (B : Blt mg) (G : G4 P w K mg base) : FnOk P w K mg base CX0 4 f fd ["_law_pool_here", "_law_lates_here", "_law_keys", "_law_states_here", "_law_number", "_law_arrival", "_law_many"] spEntries := by
  refine F.ok sc_l_entries (fun vs H Q E h => ?_) (fun cdv A outer s H vs Q E hr h => ?_)
  · obtain ⟨p, s, dl, dk, ds, L, ks, S, n0, number, arrival, many, rfl, _⟩ := h
    rfl
  · obtain ⟨p, s0, dl, dk, ds, L, ks, S0, n0, number, arrival, many, rfl, D, hst, hm0, hm1, hm5, hn0, hids, hdd, q⟩ := h
    refine ⟨_, (pss_cons (ps_set (i := 7) sc_l_entries.nd rfl (Or.inl rfl) (pe_lst pa_nil))
    (pss_cons (ps_for PassesOwn.never rfl (pi_range1 (by rfl) B.range (pa_cons (pv 6) pa_nil)) (pg_name (i := 8) sc_l_entries.nd rfl (Or.inl rfl))
      (pss_cons (ps_set (i := 5) sc_l_entries.nd rfl (Or.inl rfl) (pe_op op_add (pv 5) (pe_ix ix_list (pe_lst (pa_cons pe_int (pa_cons pe_int (pa_cons pe_int (pa_cons pe_int (pa_cons pe_int (pa_cons pe_int (pa_cons pe_int (pa_cons (pe_cal G.law_draw (hr.mono (by decide)) pass0 (pa_cons (pv 0) (pa_cons (pe_op op_pow pe_int pe_int) pa_nil))) pa_nil))))))))) (pe_cal G.law_draw (hr.mono (by decide)) pass0 (pa_cons (pv 0) (pa_cons pe_int pa_nil))) (fun _ _ => rfl))))
      (pss_cons (ps_set (i := 9) sc_l_entries.nd rfl (Or.inl rfl) (pe_cal G.law_entry (hr.mono (by decide)) pass0 (pa_cons (pv 0) (pa_cons (pv 1) (pa_cons (pv 2) (pa_cons (pv 3) (pa_cons (pe_op op_add (pe_op op_add (pv 4) (pe_op op_mul pe_int (pv 8))) (pe_cal G.law_draw (hr.mono (by decide)) pass0 (pa_cons (pv 0) (pa_cons pe_int pa_nil)))) (pa_cons (pv 5) pa_nil))))))))
      (pss_cons (ps_expr (pe_cal G.law_put (hr.mono (by decide)) pass0 (pa_cons (pv 3) (pa_cons (pv 9) pa_nil))))
      (pss_one (ps_expr (pe_bm PySem.F.plainAttrs_list PySem.F.slot_list_append PySem.F.type_list_append mt_append (pv 7) (pa_cons (pv 9) pa_nil))))))))
    (pss_one (ps_ret (pv 7))))), ?_⟩
    refine ⟨(by show 0 ≤ sizeLine; decide), fun q0 hq0 => ?_⟩
    have PD0 : Pd H (upd H q0 (.lst [])) p s0 ds := (⟨D.pool, D.pool.ne.1, D.pool.ne.2, fun b o h _ _ => h⟩ : Pd H H p s0 ds).at hq0
    refine ⟨_, rfl, _, rfl, (by omega), (by omega), for_range (n := many.toNat) (fun k σ H1 => ∃ (us : List V) (xs : List Ent) (S : Kn) (ar : Int), (∃ a b, σ = [some (.ref p), some (.ref dl), some (.ref dk), some (.ref ds), some (.int number), some (.int ar), some (.int many), some (.ref q0), a, b]) ∧ H1 q0 = some (.lst us) ∧ Ents H1 us xs ∧ xs.length = k ∧
      (∀ l, (∀ t, l = some t → t ≤ arrival) → (∀ i, wk L (xs.map some) i S0 l = (none, S)) ∧ ∀ t, lastA xs l = some t → t ≤ ar) ∧ arrival ≤ ar ∧ (∀ x ∈ xs, arrival ≤ x.arr) ∧ StAt H1 ds S (n0 + k) ∧ KnOk L S ∧ (∀ id, S id ≠ none → 0 ≤ id ∧ id < number + 3 * (k : Int)) ∧ Pd H H1 p s0 ds) ?_ ?_ ?_⟩
    · refine ⟨[], [], S0, arrival, ⟨_, _, rfl⟩, upd_same, ⟨rfl, fun i v x a b => by simp at a⟩, rfl, fun l hl => ⟨fun i => rfl, hl⟩, Int.le_refl _, (fun x hx => nomatch hx), hst.same (sameAt (Same.refl H) hq0), D.ok, (fun id h => ⟨D.pos id h, by have := hids id h; omega⟩), PD0⟩
    · rintro k σ H1 hk ⟨us, xs, S, ar, ⟨a, b, rfl⟩, hq1, hE, hlen, hwk, har, harr, hst1, hok, hpos, PD⟩
      have hqp : q0 ≠ p := fun z => D.pool.ne.1 (z ▸ hq0)
      obtain ⟨kvs0, hst0, _⟩ := id hst
      have hqd : q0 ≠ ds := fun z => by rw [z, hst0] at hq0; cases hq0
      obtain ⟨ns, i1, c1, k1, m1, hp1, _⟩ := id D.pool
      have dlp : dl ≠ p := ne_of D.dl hp1 (by intro z; cases z)
      have dkp : dk ≠ p := ne_of D.dk hp1 (strs_ne (ns := ns))
      have dkd : dk ≠ ds := ne_of D.dk hst0 (by intro z; cases z)
      obtain ⟨kvs1, hst1', _⟩ := id hst1
      -- arrival
      refine ⟨_, rfl, _, rfl, _, _, rfl, rfl, ⟨by decide, by decide, by decide⟩, p, s0, _, rfl, PD.now, (by decide), (by decide), fun v H2 v0 v1 P2 => ⟨(by show 8 ≤ sizeLine; decide), fun u hu2 => ?_⟩⟩
      have v1 : v < 1000000 := v1
      have PD2 := PD.pl P2
      have hd2 := P2.dk PD.now hst1'
      have hu0 : H u = none := PD2.free (by rw [hd2]; exact fun z => nomatch z) hu2
      have PD3 : Pd H (upd H2 u (.lst [V.int 0, V.int 0, V.int 1, V.int 1, V.int 2, V.int 3, V.int 7, V.int v])) p s0 ds := PD2.at hu0
      have hup : u ≠ p := fun z => D.pool.ne.1 (z ▸ hu0)
      have hud : u ≠ ds := fun z => by rw [z, hst0] at hu0; cases hu0
      refine ⟨_, rfl, p, s0, 8, rfl, PD3.now, (by decide), (by decide), fun g H4 g0 g1 P4 => ?_⟩
      obtain ⟨inc, hinc, inc0⟩ : ∃ inc : Int, atI ([V.int 0, V.int 0, V.int 1, V.int 1, V.int 2, V.int 3, V.int 7, V.int v]) g = some (V.int inc) ∧ 0 ≤ inc := by
        have : g = 0 ∨ g = 1 ∨ g = 2 ∨ g = 3 ∨ g = 4 ∨ g = 5 ∨ g = 6 ∨ g = 7 := by omega
        rcases this with rfl | rfl | rfl | rfl | rfl | rfl | rfl | rfl
        · exact ⟨0, rfl, by omega⟩
        · exact ⟨0, rfl, by omega⟩
        · exact ⟨1, rfl, by omega⟩
        · exact ⟨1, rfl, by omega⟩
        · exact ⟨2, rfl, by omega⟩
        · exact ⟨3, rfl, by omega⟩
        · exact ⟨7, rfl, by omega⟩
        · exact ⟨v, rfl, v0⟩
      have PD4 := PD3.pl P4
      refine ⟨_, _, _, V.int inc, rfl, rfl, SqL.of (P4.keep upd_same hup), hinc, _, _, rfl, rfl, ?_⟩
      -- entry
      refine ⟨_, rfl, _, rfl, _, rfl, _, rfl, _, rfl, _, rfl, _, _, rfl, rfl, .inl ⟨by decide, by decide⟩, _, _, rfl, rfl, _, rfl, p, s0, 3, rfl, PD4.now, (by decide), (by decide), fun g3 H5 g30 g33 P5 => ⟨_, _, rfl, rfl, _, rfl, ?_⟩⟩
      have PD5 := PD4.pl P5
      have tk15 : TK H1 H5 := (((P2.tk PD.now).trans (tk_same (sameAt (Same.refl H2) hu2))).trans (P4.tk PD3.now)).trans (P5.tk PD4.now)
      have st5 : StAt H5 ds S (n0 + k) := ((((hst1.pl PD.now P2).same (sameAt (Same.refl H2) hu2)).pl PD3.now P4).pl PD4.now P5)
      have D5 : Draw H5 p s0 dl dk ds L ks S := ⟨PD5.now, PD5.but _ _ D.dl dlp (Ne.symm hdd), D.LL, PD5.but _ _ D.dk dkp dkd, D.k1, D.k2, D.kn, by
        obtain ⟨kk, a1, a2, a3, a4⟩ := st5
        exact ⟨kk, a1, by omega, a3, a4⟩, hok, fun id h => (hpos id h).1⟩
      refine ⟨p, s0, dl, dk, ds, L, ks, S, _, _, rfl, D5, (by omega), ?_, fun e x y H6 he hxok _ hxarr hbh hid P6 => ?_⟩
      · cases eS : S (number + 3 * (0 + (k : Int)) + g3) with
        | none => rfl
        | some r =>
          have := (hpos _ (by rw [eS]; exact fun z => nomatch z)).2
          omega
      have PD6 := PD5.pl P6
      have st6 := st5.pl PD5.now P6
      obtain ⟨kvs6, hd6, _⟩ := id st6
      refine ⟨_, rfl, _, rfl, ds, e, L, S, n0 + k, x, y, rfl, st6, (by omega), he, hbh, fun H7 st7 k7 => ?_⟩
      have PD7 := PD6.chg hd6 k7
      have tk67 : TK H6 H7 := fun t zs h => k7 _ _ h (ne_of h hd6 (by intro z; cases z))
      have keepq : H7 q0 = some (.lst us) := by
        have a2 := P2.keep hq1 hqp
        have a3 : (upd H2 u (.lst [V.int 0, V.int 0, V.int 1, V.int 1, V.int 2, V.int 3, V.int 7, V.int v])) q0 = some (.lst us) := by rw [upd_ne (ne_of_none a2 hu2)]; exact a2
        exact k7 _ _ (P6.keep (P5.keep (P4.keep a3 hqp) hqp) hqp) hqd
      refine ⟨_, rfl, .inl ⟨rfl, _, SqL.of keepq⟩, _, rfl, q0, us, _, rfl, rfl, keepq, (by rw [hE.1]; exact small1000 (by omega)), ?_⟩
      have tk78 : TK H7 (upd H7 q0 (.lst (us ++ [.ref e]))) := tk_off keepq (fun xs z => by cases z)
      have tkAll := ((tk15.trans (P6.tk PD5.now)).trans tk67).trans tk78
      refine ⟨us ++ [.ref e], xs ++ [x], setK S x.id y, ar + inc, ⟨_, _, rfl⟩, upd_same, (hE.tk tkAll).snoc ((tk67.trans tk78) _ _ he) hxok, by rw [List.length_append, hlen]; rfl, fun l hl => ⟨fun i => ?_, fun t ht => ?_⟩, by omega, fun z hz => ?_, ?_, ?_, fun id hid' => ?_, PD7.at hq0⟩
      · rw [List.map_append]
        show wk L (xs.map some ++ [some x]) i S0 l = _
        rw [wk_app [some x] ((hwk l hl).1 i)]
        have hlt : late? (lastA xs l) x.arr = false := by
          cases e : lastA xs l with
          | none => rfl
          | some t =>
            have := (hwk l hl).2 t e
            exact decide_eq_false (by omega)
        rw [wk_go hlt hbh]
        rfl
      · rw [lastA_snoc] at ht
        cases ht
        omega
      · rcases List.mem_append.mp hz with hz | hz
        · exact harr z hz
        · rw [List.mem_singleton.mp hz]
          omega
      · obtain ⟨kk, a1, a2, a3, a4⟩ := st7
        exact ⟨kk, by rw [upd_ne (Ne.symm hqd)]; exact a1, by omega, a3, fun id => (a4 id).but tk78⟩
      · intro id z1 kk m a' he'
        have he' : (if id = x.id then some y else S id) = some (.at_ z1 kk m a') := he'
        by_cases ej : id = x.id
        · rw [if_pos ej] at he'
          exact behind_ok hxok (hok x.id) hbh _ _ _ _ (Option.some.inj he')
        · rw [if_neg ej] at he'
          exact hok id _ _ _ _ he'
      · have hid' : (if id = x.id then some y else S id) ≠ none := hid'
        by_cases ej : id = x.id
        · have hx0 : 0 ≤ x.id := hxok.1
          rw [ej]
          refine ⟨hx0, ?_⟩
          rcases hid with h | h
          · omega
          · have := (hpos _ h).2
            omega
        · rw [if_neg ej] at hid'
          have := hpos _ hid'
          omega
    · rintro σ H1 ⟨us, xs, S, ar, ⟨a, b, rfl⟩, hq1, hE, hlen, hwk, har, harr, hst1, hok, hpos, PD⟩
      refine ⟨_, rfl, q q0 us xs S H1 hq0 hq1 hE (by omega) (fun l hl => (hwk l hl).1) harr (by rw [hlen]; exact hst1) hok (fun id h => ⟨(hpos id h).1, by have := (hpos id h).2; omega⟩) PD⟩
end
end Ash

set_option Elab.async false
set_option linter.all false
set_option maxRecDepth 100000
set_option maxHeartbeats 4000000
namespace Ash
open PySem PySem.Spec PyProof.Rows L2
open C8 (pss_cut)
theorem wk_step {L : List (Str × Int)} {x : Ent} {r : List Ent} {i : Nat} {S S1 : Kn} {l : Option Int} (h : wk L ((x :: r).map some) i S l = (none, S1)) : late? l x.arr = false ∧ ∃ y, behind L x (S x.id) = some y ∧ wk L (r.map some) (i + 1) (fun j => if j = x.id then some y else S j) (some x.arr) = (none, S1) := by
  have h : wk L (some x :: r.map some) i S l = (none, S1) := h
  by_cases c : late? l x.arr = true
  · rw [wk_late c] at h
    cases h
  · have c0 : late? l x.arr = false := Bool.eq_false_iff.mpr c
    cases hb : behind L x (S x.id) with
    | none =>
      rw [wk_bad c0 hb] at h
      cases h
    | some y =>
      rw [wk_go c0 hb] at h
      exact ⟨c0, y, rfl, h⟩
theorem list_take' {xs : List Ent} {i : Nat} {x : Ent} (h : xs[i]? = some x) : xs.take (i + 1) = xs.take i ++ [x] := by
  have := (List.getElem?_eq_some_iff.mp h)
  obtain ⟨l, e⟩ := this
  rw [List.take_succ, h]
  rfl
/-! ### states made of entries, their rows -/
/-- StAt, each key once -/
def StK (H : Hp) (d : Addr) (S : Kn) (n : Nat) : Prop := ∃ kvs : List (Key × V), H d = some (.dK kvs) ∧ kvs.length ≤ n ∧ ((∀ kv ∈ kvs, ∃ id, kv.1 = Sum.inl id) ∧ (kvs.map (·.1)).Nodup) ∧ ∀ id, SV H (valV kvs (Sum.inl id)) (S id)
theorem StK.put {H H1 : Hp} {ds : Addr} {S : Kn} {n : Nat} {kvs : List (Key × V)} {id : Int} {v : V} {y : RowSt} (h1 : H ds = some (.dK kvs)) (h2 : kvs.length ≤ n) (h3 : (∀ kv ∈ kvs, ∃ id, kv.1 = Sum.inl id) ∧ (kvs.map (·.1)).Nodup) (h4 : ∀ id, SV H (valV kvs (Sum.inl id)) (S id))
    (s : Same H H1) (hv : SV H1 (some v) (some y)) : StK (upd H1 ds (.dK (putK kvs (Sum.inl id) v))) ds (setK S id y) (n + 1) := by
  obtain ⟨kk, a1, a2, a3, a4⟩ := StAt.put h1 h2 h3.1 h4 s hv
  rw [upd_same] at a1
  cases a1
  have q := (KLen.put (n := n) ⟨h2, h3.2, h3.1⟩ id v)
  exact ⟨_, upd_same, a2, ⟨a3, q.nd⟩, a4⟩
def spPutK : Sp := fun vs H Q _ => ∃ (ds e : Addr) (L : List (Str × Int)) (S : Kn) (n : Nat) (x : Ent) (y : RowSt), vs = [.ref ds, .ref e] ∧ StK H ds S n ∧ n ≤ 900 ∧ EntAt H e x ∧ behind L x (S x.id) = some y ∧
  ∀ H', StK H' ds (setK S x.id y) (n + 1) → (∀ c o, H c = some o → c ≠ ds → H' c = some o) → Q .non H'
def spStates : Sp := fun vs H Q _ => ∃ (a : Addr) (L : List (Str × Int)) (us : List V) (xs : List Ent) (S1 : Kn), vs = [.ref a] ∧ H a = some (.lst us) ∧ Ents H us xs ∧ xs.length ≤ 900 ∧ wk L (xs.map some) 0 (fun _ => none) none = (none, S1) ∧
  ∀ d H', H d = none → StK H' d S1 xs.length → Same H H' → Q (.ref d) H'
theorem wk_pre {L : List (Str × Int)} : ∀ {xs : List Ent} {i : Nat} {S S1 : Kn} {l : Option Int}, wk L (xs.map some) i S l = (none, S1) → ∀ k, ∃ Sk, wk L ((xs.take k).map some) i S l = (none, Sk)
  | [], _, S, _, _, _, k => ⟨S, by rw [List.take_nil]; rfl⟩
  | x :: xs, i, S, S1, l, h, 0 => ⟨S, rfl⟩
  | x :: xs, i, S, S1, l, h, k + 1 => by
    obtain ⟨c, y, h2, h3⟩ := wk_step h
    obtain ⟨Sk, hk⟩ := wk_pre h3 k
    refine ⟨Sk, ?_⟩
    rw [List.take_succ_cons]
    show wk L (some x :: (xs.take k).map some) i S l = _
    rw [wk_go c h2]
    exact hk
theorem wk_nth {L : List (Str × Int)} {xs : List Ent} {S S1 Sk : Kn} {l : Option Int} {k : Nat} {x : Ent} (h : wk L (xs.map some) 0 S l = (none, S1)) (hx : xs[k]? = some x) (hk : wk L ((xs.take k).map some) 0 S l = (none, Sk)) :
    ∃ y, behind L x (Sk x.id) = some y ∧ wk L ((xs.take (k + 1)).map some) 0 S l = (none, setK Sk x.id y) := by
  obtain ⟨S2, h2⟩ := wk_pre h (k + 1)
  have h2' := h2
  rw [list_take' hx, List.map_append] at h2
  have h2 : wk L ((xs.take k).map some ++ [some x]) 0 S l = _ := h2
  rw [wk_app [some x] hk] at h2
  obtain ⟨c, y, b, e⟩ := wk_step (r := []) h2
  refine ⟨y, b, ?_⟩
  rw [h2', ← e]
  rfl
section
variable {P : Program} {w : World} {K : PySem.W.Frag} {mg : Str → Option Value} {base : Heap}
theorem ok_putk {f : Addr} {fd : FuncData} (F : Fun K "_law_put" "_law_put" s_l_put f fd) (B : Blt mg) : FnOk P w K mg base CX0 1 f fd ["_law_states_here", "_law_entry_here"] spPutK := by
  refine F.ok sc_l_put (fun vs H Q E h => ?_) (fun cdv A outer s H vs Q E hr h => ?_)
  · obtain ⟨ds, e, L, S, n, x, y, rfl, _⟩ := h
    rfl
  · obtain ⟨ds, e, L, S, n, x, y, rfl, hst, hn, hx, hb, q⟩ := h
    have hu := hu_of hr
    obtain ⟨kvs, h1, h2, h3, h4⟩ := id hst
    refine ⟨_, (pss_one (ps_if (pt_cmpR op_eq (pe_ix ix_tup (pv 1) pe_int (fun _ _ => rfl)) pe_str (nomark _))
      (pss_one (ps_dput hu (pv 0) (pe_ix ix_tup (pv 1) pe_int (fun _ _ => rfl)) (pe_tup (pa_cons (pe_ix ix_tup (pv 1) pe_int (fun _ _ => rfl)) (pa_cons (pe_ix ix_tup (pv 1) pe_int (fun _ _ => rfl)) (pa_cons (pe_ix ix_tup (pv 1) pe_int (fun _ _ => rfl)) (pa_cons (pe_ix ix_tup (pv 1) pe_int (fun _ _ => rfl)) pa_nil))))) rfl))
      (pss_one (ps_if (pt_cmpR op_eq (pe_ix ix_tup (pv 1) pe_int (fun _ _ => rfl)) pe_str (nomark _))
        (pss_cons (ps_set (i := 2) sc_l_put.nd rfl (Or.inl rfl) (pe_dget hu (pv 0) (pe_ix ix_tup (pv 1) pe_int (fun _ _ => rfl)) (fun _ _ => rfl)))
        (pss_one (ps_dput hu (pv 0) (pe_ix ix_tup (pv 1) pe_int (fun _ _ => rfl)) (pe_tup (pa_cons (pe_ix ix_tup (pv 2) pe_int (fun _ _ => rfl)) (pa_cons (pe_ix ix_tup (pv 2) pe_int (fun _ _ => rfl)) (pa_cons (pe_ix ix_tup (pv 1) pe_int (fun _ _ => rfl)) (pa_cons (pe_ix ix_tup (pv 1) pe_int (fun _ _ => rfl)) pa_nil))))) rfl)))
        (pss_one (ps_dput hu (pv 0) (pe_ix ix_tup (pv 1) pe_int (fun _ _ => rfl)) pe_non rfl)))))), ?_⟩
    cases x with
    | row id z k m a r =>
      obtain rfl := behind_row hb
      refine ⟨_, rfl, _, _, _, _, rfl, rfl, SqT.of hx, rfl, rfl, _, rfl, iteT ?_⟩
      refine ⟨_, rfl, _, _, _, _, rfl, rfl, SqT.of hx, rfl, _, rfl, _, _, _, _, rfl, rfl, SqT.of hx, rfl, _, rfl, _, _, _, _, rfl, rfl, SqT.of hx, rfl, _, rfl, _, _, _, _, rfl, rfl, SqT.of hx, rfl, (by show 4 ≤ sizeLine; decide), fun t ht => ?_⟩
      have s1 := sameAt (Same.refl H) ht (o := .tup [.str z, .str k, .int m, .int a])
      have hx1 : EntAt (upd H t (.tup [.str z, .str k, .int m, .int a])) e (.row id z k m a r) := s1 _ _ hx
      refine ⟨_, rfl, _, rfl, _, _, _, _, rfl, rfl, SqT.of hx1, rfl, ds, _, rfl, DPut.k (k := Sum.inl id) (s1 _ _ h1) (small1000 (by omega)), ?_⟩
      exact q _ (StK.put h1 h2 h3 h4 s1 ⟨t, rfl, upd_same⟩) fun c o hc hn => by rw [upd_ne hn]; exact s1 _ _ hc
    | fix id m a r =>
      obtain ⟨z, k, m0, a0, eS, rfl⟩ := behind_fix hb
      have sv := h4 id
      have eS : S id = some (.at_ z k m0 a0) := eS
      rw [eS] at sv
      obtain ⟨v, hv⟩ : ∃ v, valV kvs (Sum.inl id) = some v := by
        cases e : valV kvs (Sum.inl id : Key) with
        | none => rw [e] at sv; exact absurd sv (fun z => z)
        | some v => exact ⟨v, rfl⟩
      rw [hv] at sv
      obtain ⟨t0, rfl, ht0⟩ := sv
      have hg := DGet.k (k := Sum.inl id) h1
      rw [hv] at hg
      refine ⟨_, rfl, _, _, _, _, rfl, rfl, SqT.of hx, rfl, rfl, _, rfl, iteF ?_⟩
      refine ⟨_, rfl, _, _, _, _, rfl, rfl, SqT.of hx, rfl, rfl, _, rfl, iteT ?_⟩
      refine ⟨_, rfl, _, rfl, _, _, _, _, rfl, rfl, SqT.of hx, rfl, ds, _, rfl, hg, ?_⟩
      refine ⟨_, rfl, _, _, _, _, rfl, rfl, SqT.of ht0, rfl, _, rfl, _, _, _, _, rfl, rfl, SqT.of ht0, rfl, _, rfl, _, _, _, _, rfl, rfl, SqT.of hx, rfl, _, rfl, _, _, _, _, rfl, rfl, SqT.of hx, rfl, (by show 4 ≤ sizeLine; decide), fun t ht => ?_⟩
      have s1 := sameAt (Same.refl H) ht (o := .tup [.str z, .str k, .int m, .int a])
      have hx1 : EntAt (upd H t (.tup [.str z, .str k, .int m, .int a])) e (.fix id m a r) := s1 _ _ hx
      refine ⟨_, rfl, _, rfl, _, _, _, _, rfl, rfl, SqT.of hx1, rfl, ds, _, rfl, DPut.k (k := Sum.inl id) (s1 _ _ h1) (small1000 (by omega)), ?_⟩
      exact q _ (StK.put h1 h2 h3 h4 s1 ⟨t, rfl, upd_same⟩) fun c o hc hn => by rw [upd_ne hn]; exact s1 _ _ hc
    | gone id r =>
      obtain rfl := behind_gone hb
      refine ⟨_, rfl, _, _, _, _, rfl, rfl, SqT.of hx, rfl, rfl, _, rfl, iteF ?_⟩
      refine ⟨_, rfl, _, _, _, _, rfl, rfl, SqT.of hx, rfl, rfl, _, rfl, iteF ?_⟩
      refine ⟨_, rfl, _, rfl, _, _, _, _, rfl, rfl, SqT.of hx, rfl, ds, _, rfl, DPut.k (k := Sum.inl id) h1 (small1000 (by omega)), ?_⟩
      exact q _ (StK.put h1 h2 h3 h4 (Same.refl H) rfl) fun c o hc hn => by rw [upd_ne hn]; exact hc
structure G4k (P : Program) (w : World) (K : PySem.W.Frag) (mg : Str → Option Value) (base : Heap) : Prop where
  law_put : Cal P w K mg base CX0 "_law_put" 1 ["_law_states_here", "_law_entry_here"] spPutK
abbrev s_l_states : Stmt := topS 50
theorem sc_l_states : FnScope ["_law_entries_here", "_law_states_here", "_law_entry_here"] ["_law_entries_here"] (defScope s_l_states) := ⟨rfl, rfl, rfl, by decide +kernel, rfl, by decide +kernel, by decide +kernel⟩
theorem ok_states {f : Addr} {fd : FuncData} (F : Fun K "_law_states" "_law_states" s_l_states f fd) (B : Blt mg) (G : G4k P w K mg base) : FnOk P w K mg base CX0 2 f fd ["_law_entries_here"] spStates := by
  refine F.ok sc_l_states (fun vs H Q E h => ?_) (fun cdv A outer s H vs Q E hr h => ?_)
  · obtain ⟨a, L, us, xs, S1, rfl, _⟩ := h
    rfl
  · obtain ⟨a, L, us, xs, S1, rfl, ha, hE, h9, hw, q⟩ := h
    refine ⟨_, (pss_cons (ps_set (i := 1) sc_l_states.nd rfl (Or.inl rfl) pe_dnewK)
    (pss_cons (ps_for PassesOwn.never rfl (pi_list (pv 0)) (pg_name (i := 2) sc_l_states.nd rfl (Or.inl rfl))
      (pss_one (ps_expr (pe_cal G.law_put (hr.mono (by decide)) pass0 (pa_cons (pv 1) (pa_cons (pv 2) pa_nil))))))
    (pss_one (ps_ret (pv 1))))), ?_⟩
    intro d hd
    have s1 := sameAt (Same.refl H) hd (o := .dK [])
    refine ⟨_, rfl, a, rfl, ⟨_, SqL.of (s1 _ _ ha)⟩, for_list (K := K) (a := a) (xs := us) (fun i σ H1 => (∃ b, σ = [some (.ref a), some (.ref d), b]) ∧ H1 a = some (.lst us) ∧ (∃ Si, wk L ((xs.take i).map some) 0 (fun _ => none) none = (none, Si) ∧ StK H1 d Si i) ∧ Same H H1) ?_ (fun i σ H1 _ hv => SqL.of hv.2.1) ?_ ?_⟩
    · exact ⟨⟨_, rfl⟩, s1 _ _ ha, ⟨_, rfl, [], upd_same, Nat.zero_le _, ⟨(fun _ h => nomatch h), .nil⟩, fun id => True.intro⟩, s1⟩
    · rintro i v σ H1 hi ⟨⟨b, rfl⟩, ha1, ⟨Si, hwi, hst⟩, sH⟩
      have hil := (List.getElem?_eq_some_iff.mp hi).1
      obtain ⟨x, hx⟩ : ∃ x, xs[i]? = some x := ⟨_, List.getElem?_eq_getElem (by rw [← hE.1]; exact hil)⟩
      obtain ⟨e, rfl, he, hok⟩ := hE.2 i v x hi hx
      obtain ⟨y, hb, hw1⟩ := wk_nth hw hx hwi
      have := hE.1
      obtain ⟨kvs, hd1, _⟩ := id hst
      refine ⟨_, rfl, _, rfl, d, e, L, Si, i, x, y, rfl, hst, by omega, sH _ _ he, hb, fun H2 st2 k2 => ?_⟩
      have sd : Same H H2 := fun c o hc => k2 c o (sH _ _ hc) (fun z => by rw [z, hd] at hc; cases hc)
      exact ⟨⟨_, rfl⟩, k2 _ _ ha1 (fun z => by rw [z, hd1] at ha1; cases ha1), ⟨_, hw1, st2⟩, sd⟩
    · rintro σ H1 ⟨⟨b, rfl⟩, ha1, ⟨Si, hwi, hst⟩, sH⟩
      rw [hE.1] at hwi hst
      rw [List.take_length, hw] at hwi
      cases hwi
      exact ⟨_, rfl, q d _ hd hst sH⟩
structure G5k (P : Program) (w : World) (K : PySem.W.Frag) (mg : Str → Option Value) (base : Heap) : Prop extends G4k P w K mg base where
  law_states : Cal P w K mg base CX0 "_law_states" 2 ["_law_entries_here"] spStates
end
end Ash

set_option Elab.async false
set_option linter.all false
set_option maxRecDepth 100000
set_option maxHeartbeats 4000000
namespace Ash
open PySem PySem.Spec PyProof.Rows L2
open C8 (pss_cut)
/-! ### states made of entries that need not be good: rows may stand anywhere -/
def puF (m a : Int) : Option RowSt → Option RowSt
  | some (.at_ z k _ _) => some (.at_ z k m a)
  | _ => none
def pu (S : Kn) : Ent → Option RowSt
  | .row _ s k m a _ => some (.at_ s k m a)
  | .fix id m a _ => puF m a (S id)
  | .gone _ _ => some .tb
def sts : List Ent → Kn → Option Kn
  | [], S => some S
  | x :: xs, S => match pu S x with
    | some y => sts xs (setK S x.id y)
    | none => none
theorem pu_row {S : Kn} {id : Int} {s k : Str} {m a r : Int} {y : RowSt} (h : pu S (.row id s k m a r) = some y) : y = .at_ s k m a := (Option.some.inj h).symm
theorem pu_gone {S : Kn} {id r : Int} {y : RowSt} (h : pu S (.gone id r) = some y) : y = .tb := (Option.some.inj h).symm
theorem pu_fix {S : Kn} {id m a r : Int} {y : RowSt} (h : pu S (.fix id m a r) = some y) : ∃ z k m0 a0, S id = some (.at_ z k m0 a0) ∧ y = .at_ z k m a := by
  have h : puF m a (S id) = some y := h
  cases e : S id with
  | none => rw [e] at h; cases h
  | some o =>
    rw [e] at h
    cases o with
    | tb => cases h
    | at_ z k m0 a0 => exact ⟨z, k, m0, a0, rfl, (Option.some.inj h).symm⟩
theorem pu_of {L : List (Str × Int)} {S : Kn} {x : Ent} {y : RowSt} (h : behind L x (S x.id) = some y) : pu S x = some y := by
  cases x with
  | row id s k m a r => rw [behind_row h]; rfl
  | fix id m a r =>
    obtain ⟨z, k, m0, a0, e, rfl⟩ := behind_fix h
    have e : S id = some (.at_ z k m0 a0) := e
    show puF m a (S id) = _
    rw [e]
    rfl
  | gone id r => rw [behind_gone h]; rfl
theorem sts_app : ∀ (xs ys : List Ent) (S : Kn), sts (xs ++ ys) S = (sts xs S).bind (sts ys)
  | [], ys, S => rfl
  | x :: xs, ys, S => by
    show (match pu S x with | some y => sts (xs ++ ys) (setK S x.id y) | none => none) = (match pu S x with | some y => sts xs (setK S x.id y) | none => none).bind (sts ys)
    cases pu S x with
    | none => rfl
    | some y => exact sts_app xs ys _
theorem sts_wk {L : List (Str × Int)} : ∀ {xs : List Ent} {i : Nat} {S S1 : Kn} {l : Option Int}, wk L (xs.map some) i S l = (none, S1) → sts xs S = some S1
  | [], _, S, S1, _, h => by cases h; rfl
  | x :: xs, i, S, S1, l, h => by
    obtain ⟨_, y, hb, h2⟩ := wk_step h
    show (match pu S x with | some y => sts xs (setK S x.id y) | none => none) = _
    rw [pu_of hb]
    exact sts_wk h2
theorem sts_rows : ∀ {ys : List Ent} {S : Kn}, (∀ x ∈ ys, ∃ id s k m a r, x = .row id s k m a r) → ∃ S1, sts ys S = some S1
  | [], S, _ => ⟨S, rfl⟩
  | x :: ys, S, h => by
    obtain ⟨id, s, k, m, a, r, rfl⟩ := h x List.mem_cons_self
    exact sts_rows (S := setK S id (.at_ s k m a)) fun y hy => h y (List.mem_cons_of_mem _ hy)
theorem sts_pos : ∀ {xs : List Ent} {S S1 : Kn}, sts xs S = some S1 → (∀ x ∈ xs, x.ok) → (∀ id, S id ≠ none → 0 ≤ id) → ∀ id, S1 id ≠ none → 0 ≤ id
  | [], S, S1, h, _, hS => by cases h; exact hS
  | x :: xs, S, S1, h, ok, hS => by
    have h : (match pu S x with | some y => sts xs (setK S x.id y) | none => none) = some S1 := h
    cases e : pu S x with
    | none => rw [e] at h; cases h
    | some y =>
      rw [e] at h
      refine sts_pos h (fun z hz => ok z (List.mem_cons_of_mem _ hz)) fun j hj => ?_
      by_cases c : j = x.id
      · rw [c]; exact (ok x List.mem_cons_self).1
      · have hj : (if j = x.id then some y else S j) ≠ none := hj
        rw [if_neg c] at hj
        exact hS j hj
theorem sts_nth {xs : List Ent} {S S1 Sk : Kn} {k : Nat} {x : Ent} (h : sts xs S = some S1) (hx : xs[k]? = some x) (hk : sts (xs.take k) S = some Sk) : ∃ y, pu Sk x = some y ∧ sts (xs.take (k + 1)) S = some (setK Sk x.id y) := by
  have e : xs = xs.take (k + 1) ++ xs.drop (k + 1) := (List.take_append_drop _ _).symm
  rw [e, sts_app, list_take' hx, sts_app, hk] at h
  have h : ((match pu Sk x with | some y => sts [] (setK Sk x.id y) | none => none).bind (sts _)) = some S1 := h
  cases e2 : pu Sk x with
  | none => rw [e2] at h; cases h
  | some y =>
    refine ⟨y, rfl, ?_⟩
    rw [list_take' hx, sts_app, hk]
    show (match pu Sk x with | some y => sts [] (setK Sk x.id y) | none => none) = _
    rw [e2]
    rfl
def spPutS : Sp := fun vs H Q _ => ∃ (ds e : Addr) (L : List (Str × Int)) (S : Kn) (n : Nat) (x : Ent) (y : RowSt), vs = [.ref ds, .ref e] ∧ StK H ds S n ∧ n ≤ 900 ∧ EntAt H e x ∧ pu S x = some y ∧
  ∀ H', StK H' ds (setK S x.id y) (n + 1) → (∀ c o, H c = some o → c ≠ ds → H' c = some o) → Q .non H'
def spStatesS : Sp := fun vs H Q _ => ∃ (a : Addr) (L : List (Str × Int)) (us : List V) (xs : List Ent) (S1 : Kn), vs = [.ref a] ∧ H a = some (.lst us) ∧ Ents H us xs ∧ xs.length ≤ 900 ∧ sts xs (fun _ => none) = some S1 ∧
  ∀ d H', H d = none → StK H' d S1 xs.length → Same H H' → Q (.ref d) H'
section
variable {P : Program} {w : World} {K : PySem.W.Frag} {mg : Str → Option Value} {base : Heap}
theorem ok_putS {f : Addr} {fd : FuncData} (F : Fun K "_law_put" "_law_put" s_l_put f fd) (B : Blt mg) : FnOk P w K mg base CX0 1 f fd ["_law_states_here", "_law_entry_here"] spPutS := by
  refine F.ok sc_l_put (fun vs H Q E h => ?_) (fun cdv A outer s H vs Q E hr h => ?_)
  · obtain ⟨ds, e, L, S, n, x, y, rfl, _⟩ := h
    rfl
  · obtain ⟨ds, e, L, S, n, x, y, rfl, hst, hn, hx, hb, q⟩ := h
    have hu := hu_of hr
    obtain ⟨kvs, h1, h2, h3, h4⟩ := id hst
    refine ⟨_, (pss_one (ps_if (pt_cmpR op_eq (pe_ix ix_tup (pv 1) pe_int (fun _ _ => rfl)) pe_str (nomark _))
      (pss_one (ps_dput hu (pv 0) (pe_ix ix_tup (pv 1) pe_int (fun _ _ => rfl)) (pe_tup (pa_cons (pe_ix ix_tup (pv 1) pe_int (fun _ _ => rfl)) (pa_cons (pe_ix ix_tup (pv 1) pe_int (fun _ _ => rfl)) (pa_cons (pe_ix ix_tup (pv 1) pe_int (fun _ _ => rfl)) (pa_cons (pe_ix ix_tup (pv 1) pe_int (fun _ _ => rfl)) pa_nil))))) rfl))
      (pss_one (ps_if (pt_cmpR op_eq (pe_ix ix_tup (pv 1) pe_int (fun _ _ => rfl)) pe_str (nomark _))
        (pss_cons (ps_set (i := 2) sc_l_put.nd rfl (Or.inl rfl) (pe_dget hu (pv 0) (pe_ix ix_tup (pv 1) pe_int (fun _ _ => rfl)) (fun _ _ => rfl)))
        (pss_one (ps_dput hu (pv 0) (pe_ix ix_tup (pv 1) pe_int (fun _ _ => rfl)) (pe_tup (pa_cons (pe_ix ix_tup (pv 2) pe_int (fun _ _ => rfl)) (pa_cons (pe_ix ix_tup (pv 2) pe_int (fun _ _ => rfl)) (pa_cons (pe_ix ix_tup (pv 1) pe_int (fun _ _ => rfl)) (pa_cons (pe_ix ix_tup (pv 1) pe_int (fun _ _ => rfl)) pa_nil))))) rfl)))
        (pss_one (ps_dput hu (pv 0) (pe_ix ix_tup (pv 1) pe_int (fun _ _ => rfl)) pe_non rfl)))))), ?_⟩
    cases x with
    | row id z k m a r =>
      obtain rfl := pu_row hb
      refine ⟨_, rfl, _, _, _, _, rfl, rfl, SqT.of hx, rfl, rfl, _, rfl, iteT ?_⟩
      refine ⟨_, rfl, _, _, _, _, rfl, rfl, SqT.of hx, rfl, _, rfl, _, _, _, _, rfl, rfl, SqT.of hx, rfl, _, rfl, _, _, _, _, rfl, rfl, SqT.of hx, rfl, _, rfl, _, _, _, _, rfl, rfl, SqT.of hx, rfl, (by show 4 ≤ sizeLine; decide), fun t ht => ?_⟩
      have s1 := sameAt (Same.refl H) ht (o := .tup [.str z, .str k, .int m, .int a])
      have hx1 : EntAt (upd H t (.tup [.str z, .str k, .int m, .int a])) e (.row id z k m a r) := s1 _ _ hx
      refine ⟨_, rfl, _, rfl, _, _, _, _, rfl, rfl, SqT.of hx1, rfl, ds, _, rfl, DPut.k (k := Sum.inl id) (s1 _ _ h1) (small1000 (by omega)), ?_⟩
      exact q _ (StK.put h1 h2 h3 h4 s1 ⟨t, rfl, upd_same⟩) fun c o hc hn => by rw [upd_ne hn]; exact s1 _ _ hc
    | fix id m a r =>
      obtain ⟨z, k, m0, a0, eS, rfl⟩ := pu_fix hb
      have sv := h4 id
      have eS : S id = some (.at_ z k m0 a0) := eS
      rw [eS] at sv
      obtain ⟨v, hv⟩ : ∃ v, valV kvs (Sum.inl id) = some v := by
        cases e : valV kvs (Sum.inl id : Key) with
        | none => rw [e] at sv; exact absurd sv (fun z => z)
        | some v => exact ⟨v, rfl⟩
      rw [hv] at sv
      obtain ⟨t0, rfl, ht0⟩ := sv
      have hg := DGet.k (k := Sum.inl id) h1
      rw [hv] at hg
      refine ⟨_, rfl, _, _, _, _, rfl, rfl, SqT.of hx, rfl, rfl, _, rfl, iteF ?_⟩
      refine ⟨_, rfl, _, _, _, _, rfl, rfl, SqT.of hx, rfl, rfl, _, rfl, iteT ?_⟩
      refine ⟨_, rfl, _, rfl, _, _, _, _, rfl, rfl, SqT.of hx, rfl, ds, _, rfl, hg, ?_⟩
      refine ⟨_, rfl, _, _, _, _, rfl, rfl, SqT.of ht0, rfl, _, rfl, _, _, _, _, rfl, rfl, SqT.of ht0, rfl, _, rfl, _, _, _, _, rfl, rfl, SqT.of hx, rfl, _, rfl, _, _, _, _, rfl, rfl, SqT.of hx, rfl, (by show 4 ≤ sizeLine; decide), fun t ht => ?_⟩
      have s1 := sameAt (Same.refl H) ht (o := .tup [.str z, .str k, .int m, .int a])
      have hx1 : EntAt (upd H t (.tup [.str z, .str k, .int m, .int a])) e (.fix id m a r) := s1 _ _ hx
      refine ⟨_, rfl, _, rfl, _, _, _, _, rfl, rfl, SqT.of hx1, rfl, ds, _, rfl, DPut.k (k := Sum.inl id) (s1 _ _ h1) (small1000 (by omega)), ?_⟩
      exact q _ (StK.put h1 h2 h3 h4 s1 ⟨t, rfl, upd_same⟩) fun c o hc hn => by rw [upd_ne hn]; exact s1 _ _ hc
    | gone id r =>
      obtain rfl := pu_gone hb
      refine ⟨_, rfl, _, _, _, _, rfl, rfl, SqT.of hx, rfl, rfl, _, rfl, iteF ?_⟩
      refine ⟨_, rfl, _, _, _, _, rfl, rfl, SqT.of hx, rfl, rfl, _, rfl, iteF ?_⟩
      refine ⟨_, rfl, _, rfl, _, _, _, _, rfl, rfl, SqT.of hx, rfl, ds, _, rfl, DPut.k (k := Sum.inl id) h1 (small1000 (by omega)), ?_⟩
      exact q _ (StK.put h1 h2 h3 h4 (Same.refl H) rfl) fun c o hc hn => by rw [upd_ne hn]; exact hc
structure G4S (P : Program) (w : World) (K : PySem.W.Frag) (mg : Str → Option Value) (base : Heap) : Prop where
  law_put : Cal P w K mg base CX0 "_law_put" 1 ["_law_states_here", "_law_entry_here"] spPutS
theorem ok_statesS {f : Addr} {fd : FuncData} (F : Fun K "_law_states" "_law_states" s_l_states f fd) (B : Blt mg) (G : G4S P w K mg base) : FnOk P w K mg base CX0 2 f fd ["_law_entries_here"] spStatesS := by
  refine F.ok sc_l_states (fun vs H Q E h => ?_) (fun cdv A outer s H vs Q E hr h => ?_)
  · obtain ⟨a, L, us, xs, S1, rfl, _⟩ := h
    rfl
  · obtain ⟨a, L, us, xs, S1, rfl, ha, hE, h9, hw, q⟩ := h
    refine ⟨_, (pss_cons (ps_set (i := 1) sc_l_states.nd rfl (Or.inl rfl) pe_dnewK)
    (pss_cons (ps_for PassesOwn.never rfl (pi_list (pv 0)) (pg_name (i := 2) sc_l_states.nd rfl (Or.inl rfl))
      (pss_one (ps_expr (pe_cal G.law_put (hr.mono (by decide)) pass0 (pa_cons (pv 1) (pa_cons (pv 2) pa_nil))))))
    (pss_one (ps_ret (pv 1))))), ?_⟩
    intro d hd
    have s1 := sameAt (Same.refl H) hd (o := .dK [])
    refine ⟨_, rfl, a, rfl, ⟨_, SqL.of (s1 _ _ ha)⟩, for_list (K := K) (a := a) (xs := us) (fun i σ H1 => (∃ b, σ = [some (.ref a), some (.ref d), b]) ∧ H1 a = some (.lst us) ∧ (∃ Si, sts (xs.take i) (fun _ => none) = some Si ∧ StK H1 d Si i) ∧ Same H H1) ?_ (fun i σ H1 _ hv => SqL.of hv.2.1) ?_ ?_⟩
    · exact ⟨⟨_, rfl⟩, s1 _ _ ha, ⟨_, rfl, [], upd_same, Nat.zero_le _, ⟨(fun _ h => nomatch h), .nil⟩, fun id => True.intro⟩, s1⟩
    · rintro i v σ H1 hi ⟨⟨b, rfl⟩, ha1, ⟨Si, hwi, hst⟩, sH⟩
      have hil := (List.getElem?_eq_some_iff.mp hi).1
      obtain ⟨x, hx⟩ : ∃ x, xs[i]? = some x := ⟨_, List.getElem?_eq_getElem (by rw [← hE.1]; exact hil)⟩
      obtain ⟨e, rfl, he, hok⟩ := hE.2 i v x hi hx
      obtain ⟨y, hb, hw1⟩ := sts_nth hw hx hwi
      have := hE.1
      obtain ⟨kvs, hd1, _⟩ := id hst
      refine ⟨_, rfl, _, rfl, d, e, L, Si, i, x, y, rfl, hst, by omega, sH _ _ he, hb, fun H2 st2 k2 => ?_⟩
      have sd : Same H H2 := fun c o hc => k2 c o (sH _ _ hc) (fun z => by rw [z, hd] at hc; cases hc)
      exact ⟨⟨_, rfl⟩, k2 _ _ ha1 (fun z => by rw [z, hd1] at ha1; cases ha1), ⟨_, hw1, st2⟩, sd⟩
    · rintro σ H1 ⟨⟨b, rfl⟩, ha1, ⟨Si, hwi, hst⟩, sH⟩
      rw [hE.1] at hwi hst
      rw [List.take_length, hw] at hwi
      cases hwi
      exact ⟨_, rfl, q d _ hd hst sH⟩
end
end Ash

set_option Elab.async false
set_option linter.all false
set_option maxRecDepth 100000
set_option maxHeartbeats 4000000
namespace Ash
open PySem PySem.Spec PyProof.Rows L2
open C8 (pss_cut)
/-! ### entries of a draft: without their arrival -/
def DAt (H : Hp) (e : Addr) (x : Ent) : Prop := H e = some (.tup x.vs.dropLast)
/-- what a drafted entry may be -/
def DOk (L : List (Str × Int)) (x : Ent) : Prop := x.ok ∧ ∀ id s k m a r, x = .row id s k m a r → (L.lookup s).isSome
def spDrafted : Sp := fun vs H Q _ => ∃ (p s dl dk de : Addr) (L : List (Str × Int)) (ks : List Str) (us : List V) (xs : List Ent) (S1 : Kn) (number now : Int), vs = [.ref p, .ref dl, .ref dk, .ref de, .int number, .int now] ∧ PoolAt H p s ∧ H dl = some (.dK (LK L)) ∧ Lates L ∧ H dk = some (.lst (ks.map V.str)) ∧ 1 ≤ ks.length ∧ ks.length ≤ 30 ∧ (∀ z ∈ ks, IsNm z) ∧ H de = some (.lst us) ∧ Ents H us xs ∧ xs.length ≤ 450 ∧ sts xs (fun _ => none) = some S1 ∧ (∀ id, S1 id ≠ none → 0 ≤ id) ∧ 0 ≤ number ∧
  ∀ e x H', DAt H' e x → DOk L x → (x.id = number ∨ S1 x.id ≠ none) → Pl H H' p s → Q (.ref e) H'
section
variable {P : Program} {w : World} {K : PySem.W.Frag} {mg : Str → Option Value} {base : Heap}
structure G6d (P : Program) (w : World) (K : PySem.W.Frag) (mg : Str → Option Value) (base : Heap) : Prop extends G3 P w K mg base where
  law_states : Cal P w K mg base CX0 "_law_states" 2 ["_law_entries_here"] spStatesS
abbrev s_l_drafted : Stmt := topS 56
theorem sc_l_drafted : FnScope ["_law_pool_here", "_law_lates_here", "_law_keys", "_law_entries_here", "_law_number", "_law_now", "_law_states_here", "_law_other", "_law_standing", "_law_kind", "_law_stream", "_law_moment"] ["_law_pool_here", "_law_lates_here", "_law_keys", "_law_entries_here", "_law_number", "_law_now"] (defScope s_l_drafted) := ⟨rfl, rfl, rfl, by decide +kernel, rfl, by decide +kernel, by decide +kernel⟩
theorem ok_drafted {f : Addr} {fd : FuncData} (F : Fun K "_law_drafted" "_law_drafted" s_l_drafted f fd) (B : Blt mg) (G : G6d P w K mg base) : FnOk P w K mg base CX0 4 f fd ["_law_pool_here", "_law_lates_here", "_law_keys", "_law_entries_here", "_law_number", "_law_now"] spDrafted := by
  refine F.ok sc_l_drafted (fun vs H Q E h => ?_) (fun cdv A outer s H vs Q E hr h => ?_)
  · obtain ⟨p, s, dl, dk, de, L, ks, us, xs, S1, number, now, rfl, _⟩ := h
    rfl
  · obtain ⟨p, s0, dl, dk, de, L, ks, us, xs, S1, number, now, rfl, hP, hdl, LL, hdk, k1, k2, kn, hde, hE, h9, hw, pos, hn, q⟩ := h
    have hu := hu_of hr
    refine ⟨_, (pss_cons (ps_set (i := 6) sc_l_drafted.nd rfl (Or.inr rfl) (pe_cal G.law_states (hr.mono (by decide)) pass0 (pa_cons (pv 3) pa_nil)))
    (pss_cons (ps_setLc (i := 8) (own := [("_law_other", 7)]) (g := gName 7) (by rfl) sc_l_drafted.nd rfl rfl (sw_true rfl rfl rfl (by decide +kernel)) (pi_list (pe_callTy (call_listD (by rfl)) (by rfl) B.list (by decide +kernel) (pa_cons (pv 6) pa_nil))) (blkOk_by (own := [("_law_other", 7)]) (N := ["_law_pool_here", "_law_lates_here", "_law_keys", "_law_entries_here", "_law_number", "_law_now", "_law_states_here", "_law_other", "_law_standing", "_law_kind", "_law_stream", "_law_moment"]) (sc := defScope s_l_drafted) (by decide +kernel)) (fun _ _ _ _ _ => (pg_name (i := 7) sc_l_drafted.nd rfl (Or.inl rfl))) (fun _ _ _ _ _ => pts_one (pt_cmpR op_notN (pe_dget hu (pv 6) (pv 7) (fun _ _ => rfl)) pe_non (nomark _))) (fun _ _ _ _ _ => (pv 7)))
    (pss_cons (ps_set (i := 9) sc_l_drafted.nd rfl (Or.inl rfl) (pe_cal G.law_draw (hr.mono (by decide)) pass0 (pa_cons (pv 0) (pa_cons pe_int pa_nil))))
    (pss_cons (ps_if (PW.pt (pw_or (pt_cmpR op_lt (pv 9) pe_int (nomark _)) (pw_or1 (pt_cmpR op_eq (pe_callB call_len_seq (by rfl) B.len (by decide +kernel) (pa_cons (pv 8) pa_nil)) pe_int (nomark _)))))
      (pss_cons (ps_set (i := 10) sc_l_drafted.nd rfl (Or.inl rfl) (pe_ix ix_list (pe_callTy (call_listD (by rfl)) (by rfl) B.list (by decide +kernel) (pa_cons (pv 1) pa_nil)) (pe_cal G.law_draw (hr.mono (by decide)) pass0 (pa_cons (pv 0) (pa_cons (pe_callB call_lenD (by rfl) B.len (by decide +kernel) (pa_cons (pv 1) pa_nil)) pa_nil))) (fun _ _ => rfl)))
      (pss_cons (ps_set (i := 11) sc_l_drafted.nd rfl (Or.inl rfl) (pe_op op_add (pe_op op_sub (pv 5) (pe_cal G.law_draw (hr.mono (by decide)) pass0 (pa_cons (pv 0) (pa_cons (pe_op op_add (pe_callB (call_min2 rfl) (by rfl) B.min (by decide +kernel) (pa_cons (pe_dget hu (pv 1) (pv 10) (fun _ _ => rfl)) (pa_cons pe_int pa_nil))) pe_int) pa_nil)))) (pe_callTy call_int1 (by rfl) B.int (by decide +kernel) (pa_cons (pe_cmpR op_eq (pe_cal G.law_draw (hr.mono (by decide)) pass0 (pa_cons (pv 0) (pa_cons pe_int pa_nil))) pe_int (nomark _)) pa_nil))))
      (pss_one (ps_ret (pe_tup (pa_cons pe_str (pa_cons (pv 4) (pa_cons (pv 10) (pa_cons (pe_ix ix_list (pv 2) (pe_cal G.law_draw (hr.mono (by decide)) pass0 (pa_cons (pv 0) (pa_cons (pe_callB call_len_seq (by rfl) B.len (by decide +kernel) (pa_cons (pv 2) pa_nil)) pa_nil))) (fun _ _ => rfl)) (pa_cons (pv 11) (pa_cons (pe_cal G.law_amount (hr.mono (by decide)) pass0 (pa_cons (pv 0) pa_nil)) pa_nil)))))))))))
      pss_nil)
    (pss_cons (ps_set (i := 7) sc_l_drafted.nd rfl (Or.inl rfl) (pe_ix ix_list (pv 8) (pe_cal G.law_draw (hr.mono (by decide)) pass0 (pa_cons (pv 0) (pa_cons (pe_callB call_len_seq (by rfl) B.len (by decide +kernel) (pa_cons (pv 8) pa_nil)) pa_nil))) (fun _ _ => rfl)))
    (pss_cons (ps_if (pt_cmpR op_eq (pv 9) pe_int (nomark _))
      (pss_one (ps_ret (pe_tup (pa_cons pe_str (pa_cons (pv 7) (pa_cons (pe_op op_sub (pv 5) (pe_cal G.law_draw (hr.mono (by decide)) pass0 (pa_cons (pv 0) (pa_cons pe_int pa_nil)))) (pa_cons (pe_cal G.law_amount (hr.mono (by decide)) pass0 (pa_cons (pv 0) pa_nil)) pa_nil)))))))
      pss_nil)
    (pss_one (ps_ret (pe_tup (pa_cons pe_str (pa_cons (pv 7) pa_nil))))))))))), ?_⟩
    refine ⟨_, rfl, de, L, us, xs, S1, rfl, hde, hE, by omega, hw, fun d H1 hd hst s1 => ?_⟩
    obtain ⟨kvs, hd1, hkl, ⟨hk2, hkn⟩, hsv⟩ := id hst
    have hP1 := hP.same s1
    refine ⟨_, rfl, d, kvs, rfl, .of hd1, fun lo hlo => ⟨lo, rfl, ⟨_, SqL.of upd_same⟩, ?_⟩⟩
    have s2 : Same H1 (upd H1 lo (.lst (kvs.map fun kv => kV kv.1))) := sameAt (Same.refl _) hlo
    have hlo2 : (upd H1 lo (.lst (kvs.map fun kv => kV kv.1))) lo = some (.lst (kvs.map fun kv => kV kv.1)) := upd_same
    generalize (upd H1 lo (.lst (kvs.map fun kv => kV kv.1))) = H2 at s2 hlo2 ⊢
    refine fun D hD => lc_list (a := lo) (xs := kvs.map fun kv => kV kv.1) (fun i H3 => ∃ ids : List Int, H3 D = some (.lst (ids.map V.int)) ∧ ids.length ≤ i ∧ (∀ id ∈ ids, ∃ z k m a, S1 id = some (.at_ z k m a)) ∧ Same H2 H3) ⟨[], upd_same, Nat.zero_le _, (fun _ h => nomatch h), sameAt (Same.refl _) hD⟩ (fun i H3 _ hv => by obtain ⟨_, _, _, _, h⟩ := hv; exact SqL.of (h _ _ hlo2)) ?_ ?_
    · rintro i v H3 hvi ⟨ids, hD3, hln, hids, s3⟩
      rw [List.getElem?_map] at hvi
      obtain ⟨kv, hkv, rfl⟩ : ∃ kv, kvs[i]? = some kv ∧ v = kV kv.1 := by
        cases e : kvs[i]? with
        | none => rw [e] at hvi; cases hvi
        | some z => rw [e] at hvi; exact ⟨z, rfl, (Option.some.inj hvi).symm⟩
      have hil := (List.getElem?_eq_some_iff.mp hkv).1
      have hm := List.mem_of_getElem? hkv
      obtain ⟨id, hid⟩ := hk2 _ hm
      obtain ⟨v, hv⟩ := mem_val hm
      rw [hid] at hv ⊢
      have hs1 := s3 _ _ (s2 _ _ hd1)
      have sv := (hsv id).but (fun t xs e => s3 _ _ (s2 _ _ e))
      rw [hv] at sv
      have hg := DGet.k (k := Sum.inl id) hs1
      rw [hv] at hg
      cases eS : S1 id with
      | none => rw [eS] at sv; exact absurd sv (fun z => z)
      | some r =>
        rw [eS] at sv
        cases r with
        | tb =>
          obtain rfl : v = .non := sv
          refine ⟨rfl, _, rfl, _, rfl, d, _, rfl, hg, rfl, _, rfl, iteF ?_⟩
          exact ⟨ids, hD3, by omega, hids, s3⟩
        | at_ z k m am =>
          obtain ⟨t, rfl, ht⟩ := sv
          refine ⟨rfl, _, rfl, _, rfl, d, _, rfl, hg, rfl, _, rfl, iteT ?_⟩
          refine ⟨_, rfl, _, hD3, (by rw [List.length_map]; exact small1000 (by omega)), ids ++ [id], ?_, by rw [List.length_append]; show ids.length + 1 ≤ i + 1; omega, fun id' hid' => ?_, ?_⟩
          · rw [upd_same, List.map_append]
            rfl
          · rcases List.mem_append.mp hid' with h | h
            · exact hids _ h
            · rw [List.mem_singleton.mp h]
              exact ⟨z, k, m, am, eS⟩
          · exact sameAt s3 hD
    rintro H3 ⟨ids, hD3, hln, hids, s3⟩
    rw [List.length_map] at hln
    have hP3 := hP1.same (s2.trans s3)
    have sA : Same H H3 := s1.trans (s2.trans s3)
    have Dp : D ≠ p := fun z => (hP1.same s2).ne.1 (z ▸ hD)
    have l1 := LL.some_
    have l8 := LL.few
    refine ⟨_, rfl, p, s0, 5, rfl, hP3, (by decide), (by decide), fun kind H4 q0 q5 P4 => ?_⟩
    have PP4 : Pl H H4 p s0 := ⟨P4.now, hP.ne.1, hP.ne.2, fun b o hb hn => P4.keep (sA _ _ hb) hn⟩
    have hD4 := P4.keep hD3 Dp
    refine ⟨_, rfl, _, _, rfl, rfl, _, rfl, ?_⟩
    refine ite2 (fun c1 => ?_) (fun c1 => ?_)
    · skip
      refine ⟨_, rfl, dl, _, rfl, .of (PP4.dk hP hdl), fun l hl => ?_⟩
      have e1 : (LK L).map (fun kv => kV kv.1) = (L.map (·.1)).map V.str := by
        unfold LK
        rw [List.map_map, List.map_map]
        rfl
      rw [e1]
      have PP5 : Pl H (upd H4 l (.lst ((L.map (·.1)).map V.str))) p s0 := PP4.new hl
      have hlp : l ≠ p := fun z => P4.now.ne.1 (z ▸ hl)
      refine ⟨_, rfl, _, rfl, dl, _, rfl, PP5.dk hP hdl, p, s0, _, rfl, PP5.now, (by rw [LK_len]; omega), (by rw [LK_len]; omega), fun g H6 g0 g1 P6 => ?_⟩
      rw [LK_len] at g1
      obtain ⟨g, rfl⟩ : ∃ n : Nat, g = (n : Int) := ⟨g.toNat, by omega⟩
      have hg : g < L.length := by omega
      have PP6 := PP5.trans P6
      have hm : L[g] ∈ L := List.getElem_mem hg
      have hlk : L.lookup L[g].1 = some L[g].2 := lookup_mem LL.nd hm
      have b0 := LL.lo _ hm
      have b1 := LL.hi _ hm
      refine ⟨_, _, _, V.str L[g].1, rfl, rfl, SqL.of (P6.keep upd_same hlp), atI_nat (by rw [List.getElem?_map, List.getElem?_map, List.getElem?_eq_getElem hg]; rfl), ?_⟩
      have hgl := DGet.k (k := Sum.inr L[g].1) (PP6.dk hP hdl)
      rw [LK_val, hlk] at hgl
      refine ⟨_, rfl, _, rfl, _, rfl, _, rfl, dl, _, rfl, hgl, _, _, rfl, _, _, rfl, rfl, p, s0, _, rfl, PP6.now, (by split <;> omega), (by split <;> omega), fun dd H7 d0 d1 P7 => ⟨_, _, rfl, rfl, _, rfl, p, s0, 9, rfl, (PP6.trans P7).now, (by decide), (by decide), fun ee H8 e0 e9 P8 => ⟨rfl, .inr ⟨_, rfl, _, _, rfl, rfl, ?_⟩⟩⟩⟩
      have PP8 := (PP6.trans P7).trans P8
      refine ⟨_, rfl, _, rfl, _, rfl, _, rfl, _, rfl, dk, _, rfl, .inl (SqL.of (PP8.sl hP hdk)), p, s0, _, rfl, PP8.now, (by rw [List.length_map]; omega), (by rw [List.length_map]; omega), fun gk H9 gk0 gk1 P9 => ?_⟩
      rw [List.length_map] at gk1
      obtain ⟨gk, rfl⟩ : ∃ n : Nat, gk = (n : Int) := ⟨gk.toNat, by omega⟩
      have hgk : gk < ks.length := by omega
      have PP9 := PP8.trans P9
      refine ⟨_, _, _, V.str ks[gk], rfl, rfl, SqL.of (PP9.sl hP hdk), atI_nat (by rw [List.getElem?_map, List.getElem?_eq_getElem hgk]; rfl), _, rfl, _, rfl, p, s0, rfl, PP9.now, fun am H10 P10 => ⟨(by show 6 ≤ sizeLine; decide), fun e he => ?_⟩⟩
      exact q e (.row number L[g].1 ks[gk] _ am 0) _ upd_same ⟨⟨hn, fun _ _ _ _ _ _ z => by
        cases z
        exact ⟨LL.nm _ hm, kn _ (List.getElem_mem hgk)⟩⟩, fun _ _ _ _ _ _ z => by cases z; rw [hlk]; rfl⟩ (.inl rfl) ((PP9.trans P10).new he)
    · refine ⟨_, rfl, D, _, rfl, .inl (SqL.of hD4), rfl, _, rfl, ?_⟩
      refine ite2 (fun c2 => ?_) (fun c2 => ?_)
      · skip
        refine ⟨_, rfl, dl, _, rfl, .of (PP4.dk hP hdl), fun l hl => ?_⟩
        have e1 : (LK L).map (fun kv => kV kv.1) = (L.map (·.1)).map V.str := by
          unfold LK
          rw [List.map_map, List.map_map]
          rfl
        rw [e1]
        have PP5 : Pl H (upd H4 l (.lst ((L.map (·.1)).map V.str))) p s0 := PP4.new hl
        have hlp : l ≠ p := fun z => P4.now.ne.1 (z ▸ hl)
        refine ⟨_, rfl, _, rfl, dl, _, rfl, PP5.dk hP hdl, p, s0, _, rfl, PP5.now, (by rw [LK_len]; omega), (by rw [LK_len]; omega), fun g H6 g0 g1 P6 => ?_⟩
        rw [LK_len] at g1
        obtain ⟨g, rfl⟩ : ∃ n : Nat, g = (n : Int) := ⟨g.toNat, by omega⟩
        have hg : g < L.length := by omega
        have PP6 := PP5.trans P6
        have hm : L[g] ∈ L := List.getElem_mem hg
        have hlk : L.lookup L[g].1 = some L[g].2 := lookup_mem LL.nd hm
        have b0 := LL.lo _ hm
        have b1 := LL.hi _ hm
        refine ⟨_, _, _, V.str L[g].1, rfl, rfl, SqL.of (P6.keep upd_same hlp), atI_nat (by rw [List.getElem?_map, List.getElem?_map, List.getElem?_eq_getElem hg]; rfl), ?_⟩
        have hgl := DGet.k (k := Sum.inr L[g].1) (PP6.dk hP hdl)
        rw [LK_val, hlk] at hgl
        refine ⟨_, rfl, _, rfl, _, rfl, _, rfl, dl, _, rfl, hgl, _, _, rfl, _, _, rfl, rfl, p, s0, _, rfl, PP6.now, (by split <;> omega), (by split <;> omega), fun dd H7 d0 d1 P7 => ⟨_, _, rfl, rfl, _, rfl, p, s0, 9, rfl, (PP6.trans P7).now, (by decide), (by decide), fun ee H8 e0 e9 P8 => ⟨rfl, .inr ⟨_, rfl, _, _, rfl, rfl, ?_⟩⟩⟩⟩
        have PP8 := (PP6.trans P7).trans P8
        refine ⟨_, rfl, _, rfl, _, rfl, _, rfl, _, rfl, dk, _, rfl, .inl (SqL.of (PP8.sl hP hdk)), p, s0, _, rfl, PP8.now, (by rw [List.length_map]; omega), (by rw [List.length_map]; omega), fun gk H9 gk0 gk1 P9 => ?_⟩
        rw [List.length_map] at gk1
        obtain ⟨gk, rfl⟩ : ∃ n : Nat, gk = (n : Int) := ⟨gk.toNat, by omega⟩
        have hgk : gk < ks.length := by omega
        have PP9 := PP8.trans P9
        refine ⟨_, _, _, V.str ks[gk], rfl, rfl, SqL.of (PP9.sl hP hdk), atI_nat (by rw [List.getElem?_map, List.getElem?_eq_getElem hgk]; rfl), _, rfl, _, rfl, p, s0, rfl, PP9.now, fun am H10 P10 => ⟨(by show 6 ≤ sizeLine; decide), fun e he => ?_⟩⟩
        exact q e (.row number L[g].1 ks[gk] _ am 0) _ upd_same ⟨⟨hn, fun _ _ _ _ _ _ z => by
          cases z
          exact ⟨LL.nm _ hm, kn _ (List.getElem_mem hgk)⟩⟩, fun _ _ _ _ _ _ z => by cases z; rw [hlk]; rfl⟩ (.inl rfl) ((PP9.trans P10).new he)
      · have hne : 0 < ids.length := by
          refine Nat.pos_of_ne_zero fun z => c2 (decide_eq_true ?_)
          rw [List.length_map, z]
          rfl
        refine ⟨_, rfl, _, rfl, _, rfl, D, _, rfl, .inl (SqL.of hD4), p, s0, _, rfl, PP4.now, (by rw [List.length_map]; omega), (by rw [List.length_map]; omega), fun g H5 g0 g1 P5 => ?_⟩
        rw [List.length_map] at g1
        obtain ⟨g, rfl⟩ : ∃ n : Nat, g = (n : Int) := ⟨g.toNat, by omega⟩
        have hg : g < ids.length := by omega
        have PP5 := PP4.trans P5
        obtain ⟨z, k, m, a0, eS⟩ := hids _ (List.getElem_mem hg)
        have hS : S1 ids[g] ≠ none := by rw [eS]; exact fun z => nomatch z
        have hpos : 0 ≤ ids[g] := pos _ hS
        refine ⟨_, _, _, V.int ids[g], rfl, rfl, SqL.of (P5.keep hD4 Dp), atI_nat (by rw [List.getElem?_map, List.getElem?_eq_getElem hg]; rfl), _, rfl, rfl, _, rfl, ?_⟩
        refine ite2 (fun c3 => ?_) (fun c3 => ?_)
        · refine ⟨_, rfl, _, rfl, _, rfl, p, s0, 3, rfl, PP5.now, (by decide), (by decide), fun dd H6 d0 d3 P6 => ⟨_, _, rfl, rfl, _, rfl, p, s0, rfl, (PP5.trans P6).now, fun am H7 P7 => ⟨(by show 4 ≤ sizeLine; decide), fun e he => ?_⟩⟩⟩
          exact q e (.fix ids[g] (now - dd) am 0) _ upd_same ⟨⟨hpos, fun _ _ _ _ _ _ z => by cases z⟩, fun _ _ _ _ _ _ z => by cases z⟩ (.inr hS) (((PP5.trans P6).trans P7).new he)
        · refine ⟨_, rfl, (by show 2 ≤ sizeLine; decide), fun e he => ?_⟩
          exact q e (.gone ids[g] 0) _ upd_same ⟨⟨hpos, fun _ _ _ _ _ _ z => by cases z⟩, fun _ _ _ _ _ _ z => by cases z⟩ (.inr hS) (PP5.new he)
end
end Ash

set_option Elab.async false
set_option linter.all false
set_option maxRecDepth 100000
set_option maxHeartbeats 4000000
namespace Ash
open PySem PySem.Spec PyProof.Rows L2
open C8 (pss_cut)
/-! ### is an entry good behind what is known -/
def LastV : Option Int → V
  | none => .non
  | some t => .int t
def good? (L : List (Str × Int)) (S : Kn) (l : Option Int) (x : Ent) : Bool := !late? l x.arr && (behind L x (S x.id)).isSome
/-- streams of the lates alone -/
def InL (L : List (Str × Int)) (S : Kn) (x : Ent) : Prop := (∀ id s k m a, S id = some (.at_ s k m a) → (L.lookup s).isSome) ∧ ∀ id s k m a r, x = .row id s k m a r → (L.lookup s).isSome
def spGood : Sp := fun vs H Q _ => ∃ (dl ds e : Addr) (L : List (Str × Int)) (S : Kn) (n : Nat) (l : Option Int) (x : Ent), vs = [.ref dl, .ref ds, LastV l, .ref e] ∧ H dl = some (.dK (LK L)) ∧ StK H ds S n ∧ EntAt H e x ∧ InL L S x ∧ Q (.bl (good? L S l x)) H
section
variable {P : Program} {w : World} {K : PySem.W.Frag} {mg : Str → Option Value} {base : Heap}
abbrev s_l_is_good : Stmt := topS 52
theorem sc_l_is_good : FnScope ["_law_lates_here", "_law_states_here", "_law_last", "_law_entry_here", "_law_arrival", "_law_old", "_law_late"] ["_law_lates_here", "_law_states_here", "_law_last", "_law_entry_here"] (defScope s_l_is_good) := ⟨rfl, rfl, rfl, by decide +kernel, rfl, by decide +kernel, by decide +kernel⟩
theorem ok_good {f : Addr} {fd : FuncData} (F : Fun K "_law_is_good" "_law_is_good" s_l_is_good f fd) (B : Blt mg) : FnOk P w K mg base CX0 1 f fd ["_law_lates_here", "_law_states_here", "_law_last", "_law_entry_here"] spGood := by
  refine F.ok sc_l_is_good (fun vs H Q E h => ?_) (fun cdv A outer s H vs Q E hr h => ?_)
  · obtain ⟨dl, ds, e, L, S, n, l, x, rfl, _⟩ := h
    rfl
  · obtain ⟨dl, ds, e, L, S, n, l, x, rfl, hdl, hst, he, hI, q⟩ := h
    have hu := hu_of hr
    obtain ⟨kvs, hd1, hkl, ⟨hk2, hkn⟩, hsv⟩ := id hst
    refine ⟨_, (pss_cons (ps_set (i := 4) sc_l_is_good.nd rfl (Or.inl rfl) (pe_ix ix_tup (pv 3) (pe_op op_sub (pe_callB call_len_seq (by rfl) B.len (by decide +kernel) (pa_cons (pv 3) pa_nil)) pe_int) (fun _ _ => rfl)))
    (pss_cons (ps_if (PW.pt (pw_and (pt_cmpR op_notN (pv 2) pe_non (nomark _)) (pw_and1 (pt_cmpR op_lt (pv 4) (pv 2) (nomark _)))))
      (pss_one (ps_ret pe_bl))
      pss_nil)
    (pss_cons (ps_if (pt_cmpR op_eq (pe_ix ix_tup (pv 3) pe_int (fun _ _ => rfl)) pe_str (nomark _))
      (pss_one (ps_ret (pe_and (pe_cmp (pc_dnotin hu (pe_ix ix_tup (pv 3) pe_int (fun _ _ => rfl)) (pv 1)) rfl) (pe_one (pe_chain op_le op_le (pe_ix ix_tup (pv 3) pe_int (fun _ _ => rfl)) (pv 4) (pe_op op_add (pe_ix ix_tup (pv 3) pe_int (fun _ _ => rfl)) (pe_dget hu (pv 0) (pe_ix ix_tup (pv 3) pe_int (fun _ _ => rfl)) (fun _ _ => rfl))))))))
      pss_nil)
    (pss_cons (ps_if (PW.pt (pw_or (pt_cmp (pc_dnotin hu (pe_ix ix_tup (pv 3) pe_int (fun _ _ => rfl)) (pv 1)) rfl) (pw_or1 (pt_cmpR op_isN (pe_dget hu (pv 1) (pe_ix ix_tup (pv 3) pe_int (fun _ _ => rfl)) (fun _ _ => rfl)) pe_non (nomark _)))))
      (pss_one (ps_ret pe_bl))
      pss_nil)
    (pss_cons (ps_set (i := 5) sc_l_is_good.nd rfl (Or.inl rfl) (pe_dget hu (pv 1) (pe_ix ix_tup (pv 3) pe_int (fun _ _ => rfl)) (fun _ _ => rfl)))
    (pss_cons (ps_set (i := 6) sc_l_is_good.nd rfl (Or.inl rfl) (pe_dget hu (pv 0) (pe_ix ix_tup (pv 5) pe_int (fun _ _ => rfl)) (fun _ _ => rfl)))
    (pss_cons (ps_if (pt_cmpR op_gt (pv 4) (pe_op op_add (pe_ix ix_tup (pv 5) pe_int (fun _ _ => rfl)) (pv 6)) (nomark _))
      (pss_one (ps_ret pe_bl))
      pss_nil)
    (pss_one (ps_ret (pe_or (pe_cmpR op_eq (pe_ix ix_tup (pv 3) pe_int (fun _ _ => rfl)) pe_str (nomark _)) (pe_one (pe_chain op_le op_le (pe_ix ix_tup (pv 3) pe_int (fun _ _ => rfl)) (pv 4) (pe_op op_add (pe_ix ix_tup (pv 3) pe_int (fun _ _ => rfl)) (pv 6)))))))))))))), ?_⟩
    have no (b : Bool) (e0 : good? L S l x = b) : Q (.bl b) H := e0 ▸ q
    have lk (s : Str) (hs : (L.lookup s).isSome) : ∃ lt, L.lookup s = some lt ∧ DGet H dl (.str s) (some (.int lt)) := by
      obtain ⟨lt, hlt⟩ := Option.isSome_iff_exists.mp hs
      have := DGet.k (k := Sum.inr s) hdl
      rw [LK_val, hlt] at this
      exact ⟨lt, hlt, this⟩
    have st (id : Int) : (S id = none ∧ DGet H ds (.int id) none) ∨ (S id = some .tb ∧ DGet H ds (.int id) (some .non)) ∨ ∃ s k m a t, S id = some (.at_ s k m a) ∧ DGet H ds (.int id) (some (.ref t)) ∧ H t = some (.tup [.str s, .str k, .int m, .int a]) := by
      have sv := hsv id
      have hg := DGet.k (k := Sum.inl id) hd1
      cases ev : valV kvs (Sum.inl id : Key) with
      | none =>
        rw [ev] at sv hg
        cases eS : S id with
        | none => exact .inl ⟨rfl, hg⟩
        | some y => rw [eS] at sv; exact absurd sv (fun z => z)
      | some v =>
        rw [ev] at sv hg
        cases eS : S id with
        | none => rw [eS] at sv; exact absurd sv (fun z => z)
        | some y =>
          rw [eS] at sv
          cases y with
          | tb => obtain rfl : v = .non := sv; exact .inr (.inl ⟨rfl, hg⟩)
          | at_ s k m a => obtain ⟨t, rfl, ht⟩ := sv; exact .inr (.inr ⟨s, k, m, a, t, rfl, hg, ht⟩)
    cases x with
    | row id s k m a r =>
      refine ⟨_, rfl, _, rfl, e, _, rfl, .inr (SqT.of he), _, _, rfl, rfl, _, _, _, _, rfl, rfl, SqT.of he, rfl, ?_⟩
      cases l with
      | none =>
        have hl : late? none r = false := rfl
        refine ⟨_, rfl, rfl, _, rfl, iteF ?_⟩
        have ge (o) (eS : S id = o) : good? L S none (.row id s k m a r) = (behind L (.row id s k m a r) o).isSome := by
          show (!late? _ r && (behind L _ (S id)).isSome) = _
          rw [hl, eS]; rfl
        obtain ⟨lt, hlt, hgl⟩ := lk s (hI.2 _ _ _ _ _ _ rfl)
        refine ⟨_, rfl, _, _, _, _, rfl, rfl, SqT.of he, rfl, rfl, _, rfl, iteT ?_⟩
        rcases st id with ⟨eS, hg⟩ | h
        · refine ⟨_, rfl, _, _, _, _, rfl, rfl, SqT.of he, rfl, _, rfl, ds, _, rfl, hg, _, rfl, iteT ?_⟩
          have e0 := ge _ eS
          have e1 : (behind L (.row id s k m a r) none).isSome = decide (m ≤ r ∧ r ≤ m + lt) := by
            show ((L.lookup s).bind _).isSome = _
            rw [hlt, Option.bind_some]
            split
            · rename_i c; rw [decide_eq_true c]; rfl
            · rename_i c; rw [decide_eq_false c]; rfl
          rw [e1] at e0
          by_cases c1 : m ≤ r
          · refine ⟨_, rfl, _, _, _, _, rfl, rfl, SqT.of he, rfl, _, rfl, _, _, rfl, rfl, true, congrArg V.bl (decide_eq_true c1), iteT ⟨_, rfl, _, _, _, _, rfl, rfl, SqT.of he, rfl, _, rfl, _, rfl, _, _, _, _, rfl, rfl, SqT.of he, rfl, dl, _, rfl, hgl, _, _, rfl, rfl, _, _, rfl, rfl, ?_⟩⟩
            exact no _ (e0.trans (by congr 1; exact propext ⟨fun z => z.2, fun z => ⟨c1, z⟩⟩))
          · refine ⟨_, rfl, _, _, _, _, rfl, rfl, SqT.of he, rfl, _, rfl, _, _, rfl, rfl, false, congrArg V.bl (decide_eq_false c1), iteF ?_⟩
            exact no _ (e0.trans (decide_eq_false fun z => c1 z.1))
        · have h2 : ∃ y v, S id = some y ∧ DGet H ds (.int id) (some v) := by
            rcases h with ⟨eS, hg⟩ | ⟨_, _, _, _, _, eS, hg, _⟩
            · exact ⟨_, _, eS, hg⟩
            · exact ⟨_, _, eS, hg⟩
          obtain ⟨y, v, eS, hg⟩ := h2
          refine ⟨_, rfl, _, _, _, _, rfl, rfl, SqT.of he, rfl, _, rfl, ds, _, rfl, hg, _, rfl, iteF ?_⟩
          exact no _ (ge _ eS)

      | some t0 =>
        refine ⟨_, rfl, rfl, _, rfl, iteT ⟨_, rfl, _, rfl, _, _, rfl, rfl, _, rfl, ?_⟩⟩
        refine ite2 (fun c => ?_) (fun c => ?_)
        · exact no false (by have c := of_decide_eq_true c; show (!decide (r < t0) && _) = false; rw [decide_eq_true c]; rfl)
        · have hl : late? (some t0) r = false := decide_eq_false fun z => c (decide_eq_true z)
          have ge (o) (eS : S id = o) : good? L S (some t0) (.row id s k m a r) = (behind L (.row id s k m a r) o).isSome := by
            show (!late? _ r && (behind L _ (S id)).isSome) = _
            rw [hl, eS]; rfl
          obtain ⟨lt, hlt, hgl⟩ := lk s (hI.2 _ _ _ _ _ _ rfl)
          refine ⟨_, rfl, _, _, _, _, rfl, rfl, SqT.of he, rfl, rfl, _, rfl, iteT ?_⟩
          rcases st id with ⟨eS, hg⟩ | h
          · refine ⟨_, rfl, _, _, _, _, rfl, rfl, SqT.of he, rfl, _, rfl, ds, _, rfl, hg, _, rfl, iteT ?_⟩
            have e0 := ge _ eS
            have e1 : (behind L (.row id s k m a r) none).isSome = decide (m ≤ r ∧ r ≤ m + lt) := by
              show ((L.lookup s).bind _).isSome = _
              rw [hlt, Option.bind_some]
              split
              · rename_i c; rw [decide_eq_true c]; rfl
              · rename_i c; rw [decide_eq_false c]; rfl
            rw [e1] at e0
            by_cases c1 : m ≤ r
            · refine ⟨_, rfl, _, _, _, _, rfl, rfl, SqT.of he, rfl, _, rfl, _, _, rfl, rfl, true, congrArg V.bl (decide_eq_true c1), iteT ⟨_, rfl, _, _, _, _, rfl, rfl, SqT.of he, rfl, _, rfl, _, rfl, _, _, _, _, rfl, rfl, SqT.of he, rfl, dl, _, rfl, hgl, _, _, rfl, rfl, _, _, rfl, rfl, ?_⟩⟩
              exact no _ (e0.trans (by congr 1; exact propext ⟨fun z => z.2, fun z => ⟨c1, z⟩⟩))
            · refine ⟨_, rfl, _, _, _, _, rfl, rfl, SqT.of he, rfl, _, rfl, _, _, rfl, rfl, false, congrArg V.bl (decide_eq_false c1), iteF ?_⟩
              exact no _ (e0.trans (decide_eq_false fun z => c1 z.1))
          · have h2 : ∃ y v, S id = some y ∧ DGet H ds (.int id) (some v) := by
              rcases h with ⟨eS, hg⟩ | ⟨_, _, _, _, _, eS, hg, _⟩
              · exact ⟨_, _, eS, hg⟩
              · exact ⟨_, _, eS, hg⟩
            obtain ⟨y, v, eS, hg⟩ := h2
            refine ⟨_, rfl, _, _, _, _, rfl, rfl, SqT.of he, rfl, _, rfl, ds, _, rfl, hg, _, rfl, iteF ?_⟩
            exact no _ (ge _ eS)

    | fix id m a r =>
      refine ⟨_, rfl, _, rfl, e, _, rfl, .inr (SqT.of he), _, _, rfl, rfl, _, _, _, _, rfl, rfl, SqT.of he, rfl, ?_⟩
      cases l with
      | none =>
        have hl : late? none r = false := rfl
        refine ⟨_, rfl, rfl, _, rfl, iteF ?_⟩
        have ge (o) (eS : S id = o) : good? L S none (.fix id m a r) = (behind L (.fix id m a r) o).isSome := by
          show (!late? _ r && (behind L _ (S id)).isSome) = _
          rw [hl, eS]; rfl
        refine ⟨_, rfl, _, _, _, _, rfl, rfl, SqT.of he, rfl, rfl, _, rfl, iteF ?_⟩
        rcases st id with ⟨eS, hg⟩ | ⟨eS, hg⟩ | ⟨s, k, m0, a0, t, eS, hg, ht⟩
        · refine ⟨_, rfl, _, _, _, _, rfl, rfl, SqT.of he, rfl, _, rfl, ds, _, rfl, hg, _, rfl, iteT ?_⟩
          exact no _ (ge _ eS)
        · refine ⟨_, rfl, _, _, _, _, rfl, rfl, SqT.of he, rfl, _, rfl, ds, _, rfl, hg, _, rfl, iteF ⟨_, rfl, _, rfl, _, _, _, _, rfl, rfl, SqT.of he, rfl, ds, _, rfl, hg, rfl, _, rfl, iteT ?_⟩⟩
          exact no _ (ge _ eS)
        obtain ⟨lt, hlt, hgl⟩ := lk s (hI.1 _ _ _ _ _ eS)
        refine ⟨_, rfl, _, _, _, _, rfl, rfl, SqT.of he, rfl, _, rfl, ds, _, rfl, hg, _, rfl, iteF ⟨_, rfl, _, rfl, _, _, _, _, rfl, rfl, SqT.of he, rfl, ds, _, rfl, hg, rfl, _, rfl, iteF ?_⟩⟩
        refine ⟨_, rfl, _, rfl, _, _, _, _, rfl, rfl, SqT.of he, rfl, ds, _, rfl, hg, _, rfl, _, rfl, _, _, _, _, rfl, rfl, SqT.of ht, rfl, dl, _, rfl, hgl, _, rfl, _, rfl, _, _, _, _, rfl, rfl, SqT.of ht, rfl, _, rfl, _, _, rfl, rfl, _, _, rfl, rfl, _, rfl, ?_⟩
        have e0 := ge _ eS
        have e1 : (behind L (.fix id m a r) (some (.at_ s k m0 a0))).isSome = decide (r ≤ m0 + lt ∧ m ≤ r ∧ r ≤ m + lt) := by
          show ((L.lookup s).bind _).isSome = _
          rw [hlt, Option.bind_some]
          split
          · rename_i c; rw [decide_eq_true c]; rfl
          · rename_i c; rw [decide_eq_false c]; rfl
        rw [e1] at e0
        refine ite2 (fun c => ?_) (fun c => ?_)
        · have c := of_decide_eq_true c
          exact no _ (e0.trans (decide_eq_false fun z => by have := z.1; omega))
        · have c : ¬ m0 + lt < r := fun z => c (decide_eq_true z)
          refine ⟨_, rfl, _, _, _, _, rfl, rfl, SqT.of he, rfl, rfl, _, rfl, iteF ?_⟩
          by_cases c1 : m ≤ r
          · refine ⟨_, rfl, _, _, _, _, rfl, rfl, SqT.of he, rfl, _, rfl, _, _, rfl, rfl, true, congrArg V.bl (decide_eq_true c1), iteT ⟨_, rfl, _, _, _, _, rfl, rfl, SqT.of he, rfl, _, rfl, _, _, rfl, rfl, _, _, rfl, rfl, ?_⟩⟩
            exact no _ (e0.trans (by congr 1; exact propext ⟨fun z => z.2.2, fun z => ⟨by omega, c1, z⟩⟩))
          · refine ⟨_, rfl, _, _, _, _, rfl, rfl, SqT.of he, rfl, _, rfl, _, _, rfl, rfl, false, congrArg V.bl (decide_eq_false c1), iteF ?_⟩
            exact no _ (e0.trans (decide_eq_false fun z => c1 z.2.1))

      | some t0 =>
        refine ⟨_, rfl, rfl, _, rfl, iteT ⟨_, rfl, _, rfl, _, _, rfl, rfl, _, rfl, ?_⟩⟩
        refine ite2 (fun c => ?_) (fun c => ?_)
        · exact no false (by have c := of_decide_eq_true c; show (!decide (r < t0) && _) = false; rw [decide_eq_true c]; rfl)
        · have hl : late? (some t0) r = false := decide_eq_false fun z => c (decide_eq_true z)
          have ge (o) (eS : S id = o) : good? L S (some t0) (.fix id m a r) = (behind L (.fix id m a r) o).isSome := by
            show (!late? _ r && (behind L _ (S id)).isSome) = _
            rw [hl, eS]; rfl
          refine ⟨_, rfl, _, _, _, _, rfl, rfl, SqT.of he, rfl, rfl, _, rfl, iteF ?_⟩
          rcases st id with ⟨eS, hg⟩ | ⟨eS, hg⟩ | ⟨s, k, m0, a0, t, eS, hg, ht⟩
          · refine ⟨_, rfl, _, _, _, _, rfl, rfl, SqT.of he, rfl, _, rfl, ds, _, rfl, hg, _, rfl, iteT ?_⟩
            exact no _ (ge _ eS)
          · refine ⟨_, rfl, _, _, _, _, rfl, rfl, SqT.of he, rfl, _, rfl, ds, _, rfl, hg, _, rfl, iteF ⟨_, rfl, _, rfl, _, _, _, _, rfl, rfl, SqT.of he, rfl, ds, _, rfl, hg, rfl, _, rfl, iteT ?_⟩⟩
            exact no _ (ge _ eS)
          obtain ⟨lt, hlt, hgl⟩ := lk s (hI.1 _ _ _ _ _ eS)
          refine ⟨_, rfl, _, _, _, _, rfl, rfl, SqT.of he, rfl, _, rfl, ds, _, rfl, hg, _, rfl, iteF ⟨_, rfl, _, rfl, _, _, _, _, rfl, rfl, SqT.of he, rfl, ds, _, rfl, hg, rfl, _, rfl, iteF ?_⟩⟩
          refine ⟨_, rfl, _, rfl, _, _, _, _, rfl, rfl, SqT.of he, rfl, ds, _, rfl, hg, _, rfl, _, rfl, _, _, _, _, rfl, rfl, SqT.of ht, rfl, dl, _, rfl, hgl, _, rfl, _, rfl, _, _, _, _, rfl, rfl, SqT.of ht, rfl, _, rfl, _, _, rfl, rfl, _, _, rfl, rfl, _, rfl, ?_⟩
          have e0 := ge _ eS
          have e1 : (behind L (.fix id m a r) (some (.at_ s k m0 a0))).isSome = decide (r ≤ m0 + lt ∧ m ≤ r ∧ r ≤ m + lt) := by
            show ((L.lookup s).bind _).isSome = _
            rw [hlt, Option.bind_some]
            split
            · rename_i c; rw [decide_eq_true c]; rfl
            · rename_i c; rw [decide_eq_false c]; rfl
          rw [e1] at e0
          refine ite2 (fun c => ?_) (fun c => ?_)
          · have c := of_decide_eq_true c
            exact no _ (e0.trans (decide_eq_false fun z => by have := z.1; omega))
          · have c : ¬ m0 + lt < r := fun z => c (decide_eq_true z)
            refine ⟨_, rfl, _, _, _, _, rfl, rfl, SqT.of he, rfl, rfl, _, rfl, iteF ?_⟩
            by_cases c1 : m ≤ r
            · refine ⟨_, rfl, _, _, _, _, rfl, rfl, SqT.of he, rfl, _, rfl, _, _, rfl, rfl, true, congrArg V.bl (decide_eq_true c1), iteT ⟨_, rfl, _, _, _, _, rfl, rfl, SqT.of he, rfl, _, rfl, _, _, rfl, rfl, _, _, rfl, rfl, ?_⟩⟩
              exact no _ (e0.trans (by congr 1; exact propext ⟨fun z => z.2.2, fun z => ⟨by omega, c1, z⟩⟩))
            · refine ⟨_, rfl, _, _, _, _, rfl, rfl, SqT.of he, rfl, _, rfl, _, _, rfl, rfl, false, congrArg V.bl (decide_eq_false c1), iteF ?_⟩
              exact no _ (e0.trans (decide_eq_false fun z => c1 z.2.1))

    | gone id r =>
      refine ⟨_, rfl, _, rfl, e, _, rfl, .inr (SqT.of he), _, _, rfl, rfl, _, _, _, _, rfl, rfl, SqT.of he, rfl, ?_⟩
      cases l with
      | none =>
        have hl : late? none r = false := rfl
        refine ⟨_, rfl, rfl, _, rfl, iteF ?_⟩
        have ge (o) (eS : S id = o) : good? L S none (.gone id r) = (behind L (.gone id r) o).isSome := by
          show (!late? _ r && (behind L _ (S id)).isSome) = _
          rw [hl, eS]; rfl
        refine ⟨_, rfl, _, _, _, _, rfl, rfl, SqT.of he, rfl, rfl, _, rfl, iteF ?_⟩
        rcases st id with ⟨eS, hg⟩ | ⟨eS, hg⟩ | ⟨s, k, m0, a0, t, eS, hg, ht⟩
        · refine ⟨_, rfl, _, _, _, _, rfl, rfl, SqT.of he, rfl, _, rfl, ds, _, rfl, hg, _, rfl, iteT ?_⟩
          exact no _ (ge _ eS)
        · refine ⟨_, rfl, _, _, _, _, rfl, rfl, SqT.of he, rfl, _, rfl, ds, _, rfl, hg, _, rfl, iteF ⟨_, rfl, _, rfl, _, _, _, _, rfl, rfl, SqT.of he, rfl, ds, _, rfl, hg, rfl, _, rfl, iteT ?_⟩⟩
          exact no _ (ge _ eS)
        obtain ⟨lt, hlt, hgl⟩ := lk s (hI.1 _ _ _ _ _ eS)
        refine ⟨_, rfl, _, _, _, _, rfl, rfl, SqT.of he, rfl, _, rfl, ds, _, rfl, hg, _, rfl, iteF ⟨_, rfl, _, rfl, _, _, _, _, rfl, rfl, SqT.of he, rfl, ds, _, rfl, hg, rfl, _, rfl, iteF ?_⟩⟩
        refine ⟨_, rfl, _, rfl, _, _, _, _, rfl, rfl, SqT.of he, rfl, ds, _, rfl, hg, _, rfl, _, rfl, _, _, _, _, rfl, rfl, SqT.of ht, rfl, dl, _, rfl, hgl, _, rfl, _, rfl, _, _, _, _, rfl, rfl, SqT.of ht, rfl, _, rfl, _, _, rfl, rfl, _, _, rfl, rfl, _, rfl, ?_⟩
        have e0 := ge _ eS
        have e1 : (behind L (.gone id r) (some (.at_ s k m0 a0))).isSome = decide (r ≤ m0 + lt) := by
          show ((L.lookup s).bind _).isSome = _
          rw [hlt, Option.bind_some]
          split
          · rename_i c; rw [decide_eq_true c]; rfl
          · rename_i c; rw [decide_eq_false c]; rfl
        rw [e1] at e0
        refine ite2 (fun c => ?_) (fun c => ?_)
        · have c := of_decide_eq_true c
          exact no _ (e0.trans (decide_eq_false (by omega)))
        · have c : ¬ m0 + lt < r := fun z => c (decide_eq_true z)
          refine ⟨_, rfl, _, _, _, _, rfl, rfl, SqT.of he, rfl, rfl, _, rfl, iteT ?_⟩
          exact no _ (e0.trans (decide_eq_true (by omega)))

      | some t0 =>
        refine ⟨_, rfl, rfl, _, rfl, iteT ⟨_, rfl, _, rfl, _, _, rfl, rfl, _, rfl, ?_⟩⟩
        refine ite2 (fun c => ?_) (fun c => ?_)
        · exact no false (by have c := of_decide_eq_true c; show (!decide (r < t0) && _) = false; rw [decide_eq_true c]; rfl)
        · have hl : late? (some t0) r = false := decide_eq_false fun z => c (decide_eq_true z)
          have ge (o) (eS : S id = o) : good? L S (some t0) (.gone id r) = (behind L (.gone id r) o).isSome := by
            show (!late? _ r && (behind L _ (S id)).isSome) = _
            rw [hl, eS]; rfl
          refine ⟨_, rfl, _, _, _, _, rfl, rfl, SqT.of he, rfl, rfl, _, rfl, iteF ?_⟩
          rcases st id with ⟨eS, hg⟩ | ⟨eS, hg⟩ | ⟨s, k, m0, a0, t, eS, hg, ht⟩
          · refine ⟨_, rfl, _, _, _, _, rfl, rfl, SqT.of he, rfl, _, rfl, ds, _, rfl, hg, _, rfl, iteT ?_⟩
            exact no _ (ge _ eS)
          · refine ⟨_, rfl, _, _, _, _, rfl, rfl, SqT.of he, rfl, _, rfl, ds, _, rfl, hg, _, rfl, iteF ⟨_, rfl, _, rfl, _, _, _, _, rfl, rfl, SqT.of he, rfl, ds, _, rfl, hg, rfl, _, rfl, iteT ?_⟩⟩
            exact no _ (ge _ eS)
          obtain ⟨lt, hlt, hgl⟩ := lk s (hI.1 _ _ _ _ _ eS)
          refine ⟨_, rfl, _, _, _, _, rfl, rfl, SqT.of he, rfl, _, rfl, ds, _, rfl, hg, _, rfl, iteF ⟨_, rfl, _, rfl, _, _, _, _, rfl, rfl, SqT.of he, rfl, ds, _, rfl, hg, rfl, _, rfl, iteF ?_⟩⟩
          refine ⟨_, rfl, _, rfl, _, _, _, _, rfl, rfl, SqT.of he, rfl, ds, _, rfl, hg, _, rfl, _, rfl, _, _, _, _, rfl, rfl, SqT.of ht, rfl, dl, _, rfl, hgl, _, rfl, _, rfl, _, _, _, _, rfl, rfl, SqT.of ht, rfl, _, rfl, _, _, rfl, rfl, _, _, rfl, rfl, _, rfl, ?_⟩
          have e0 := ge _ eS
          have e1 : (behind L (.gone id r) (some (.at_ s k m0 a0))).isSome = decide (r ≤ m0 + lt) := by
            show ((L.lookup s).bind _).isSome = _
            rw [hlt, Option.bind_some]
            split
            · rename_i c; rw [decide_eq_true c]; rfl
            · rename_i c; rw [decide_eq_false c]; rfl
          rw [e1] at e0
          refine ite2 (fun c => ?_) (fun c => ?_)
          · have c := of_decide_eq_true c
            exact no _ (e0.trans (decide_eq_false (by omega)))
          · have c : ¬ m0 + lt < r := fun z => c (decide_eq_true z)
            refine ⟨_, rfl, _, _, _, _, rfl, rfl, SqT.of he, rfl, rfl, _, rfl, iteT ?_⟩
            exact no _ (e0.trans (decide_eq_true (by omega)))

end
end Ash

set_option Elab.async false
set_option linter.all false
set_option maxRecDepth 100000
set_option maxHeartbeats 4000000
namespace Ash
open PySem PySem.Spec PyProof.Rows L2
open C8 (pss_cut)
/-! ### the first bad one of a row of entries -/
def numV : Option Nat → V
  | none => .non
  | some i => .int i
def RowsIn (L : List (Str × Int)) (xs : List Ent) : Prop := ∀ x ∈ xs, ∀ id s k m a r, x = .row id s k m a r → (L.lookup s).isSome
theorem behind_in {L : List (Str × Int)} {x : Ent} {o : Option RowSt} {s k : Str} {m a : Int} (h : behind L x o = some (.at_ s k m a)) : (L.lookup s).isSome := by
  cases x with
  | row id z k1 m1 a1 r =>
    cases o with
    | some o => exact nomatch h
    | none =>
      have h : (L.lookup z).bind _ = some (RowSt.at_ s k m a) := h
      cases e : L.lookup z with
      | none => rw [e] at h; cases h
      | some l =>
        rw [e, Option.bind_some] at h
        split at h
        · cases h; rw [e]; rfl
        · cases h
  | fix id m1 a1 r =>
    cases o with
    | none => exact nomatch h
    | some o =>
      cases o with
      | tb => exact nomatch h
      | at_ z k1 m0 a0 =>
        have h : (L.lookup z).bind _ = some (RowSt.at_ s k m a) := h
        cases e : L.lookup z with
        | none => rw [e] at h; cases h
        | some l =>
          rw [e, Option.bind_some] at h
          split at h
          · cases h; rw [e]; rfl
          · cases h
  | gone id r =>
    cases o with
    | none => exact nomatch h
    | some o =>
      cases o with
      | tb => exact nomatch h
      | at_ z k1 m0 a0 =>
        have h : (L.lookup z).bind _ = some (RowSt.at_ s k m a) := h
        cases e : L.lookup z with
        | none => rw [e] at h; cases h
        | some l =>
          rw [e, Option.bind_some] at h
          split at h <;> cases h
def StIn (L : List (Str × Int)) (S : Kn) : Prop := ∀ id s k m a, S id = some (.at_ s k m a) → (L.lookup s).isSome
theorem StIn.put {L : List (Str × Int)} {S : Kn} {x : Ent} {y : RowSt} (h : StIn L S) (hb : behind L x (S x.id) = some y) : StIn L (setK S x.id y) := by
  intro id s k m a e
  by_cases c : id = x.id
  · have e' : some y = some (.at_ s k m a) := by rw [← e]; show _ = (if id = x.id then _ else _); rw [if_pos c]
    cases e'
    exact behind_in hb
  · have e' : S id = some (.at_ s k m a) := by rw [← e]; show _ = (if id = x.id then _ else _); rw [if_neg c]
    exact h _ _ _ _ _ e'
theorem good_step {L : List (Str × Int)} {xs : List Ent} {i : Nat} {x : Ent} {S : Kn} (hx : xs[i]? = some x) (hk : wk L ((xs.take i).map some) 0 (fun _ => none) none = (none, S)) :
    (good? L S (lastA (xs.take i) none) x = true ∧ ∃ y, behind L x (S x.id) = some y ∧ wk L ((xs.take (i + 1)).map some) 0 (fun _ => none) none = (none, setK S x.id y)) ∨
    (good? L S (lastA (xs.take i) none) x = false ∧ (wk L (xs.map some) 0 (fun _ => none) none).1 = some i ∧ ∀ n, i < n → n ≤ xs.length → ∀ S2, wk L ((xs.take n).map some) 0 (fun _ => none) none ≠ (none, S2)) := by
  have hil := (List.getElem?_eq_some_iff.mp hx).1
  have all (n : Nat) (hn : i < n) : ∃ r, wk L ((xs.take n).map some) 0 (fun _ => none) none = wk L (some x :: r) i S (lastA (xs.take i) none) := by
    obtain ⟨j, rfl⟩ : ∃ j, n = i + 1 + j := ⟨n - (i + 1), by omega⟩
    have e : xs.take (i + 1 + j) = xs.take i ++ x :: ((xs.drop (i + 1)).take j) := by
      rw [List.take_add, list_take' hx, List.append_assoc]; rfl
    refine ⟨((xs.drop (i + 1)).take j).map some, ?_⟩
    rw [e, List.map_append, wk_app _ hk, List.length_take, Nat.min_eq_left (by omega), Nat.zero_add]
    rfl
  by_cases c : late? (lastA (xs.take i) none) x.arr = true
  · refine .inr ⟨by unfold good?; rw [c]; rfl, ?_, fun n h1 _ S2 e => ?_⟩
    · obtain ⟨r, e⟩ := all xs.length hil
      rw [List.take_length] at e
      rw [e, wk_late c]
    · obtain ⟨r, e1⟩ := all n h1
      rw [e1, wk_late c] at e
      cases e
  · have c : late? (lastA (xs.take i) none) x.arr = false := Bool.eq_false_iff.mpr c
    cases hb : behind L x (S x.id) with
    | none =>
      refine .inr ⟨by unfold good?; rw [c, hb]; rfl, ?_, fun n h1 _ S2 e => ?_⟩
      · obtain ⟨r, e⟩ := all xs.length hil
        rw [List.take_length] at e
        rw [e, wk_bad c hb]
      · obtain ⟨r, e1⟩ := all n h1
        rw [e1, wk_bad c hb] at e
        cases e
    | some y =>
      refine .inl ⟨by unfold good?; rw [c, hb]; rfl, y, rfl, ?_⟩
      rw [list_take' hx, List.map_append, wk_app _ hk]
      show wk L [some x] _ S _ = _
      rw [wk_go c hb]
      rfl
def spBad : Sp := fun vs H Q _ => ∃ (dl a : Addr) (L : List (Str × Int)) (us : List V) (xs : List Ent) (n : Nat), vs = [.ref dl, .ref a, .int n] ∧ H dl = some (.dK (LK L)) ∧ H a = some (.lst us) ∧ Ents H us xs ∧ xs.length ≤ 450 ∧ n ≤ xs.length ∧ (∃ S0, wk L ((xs.take n).map some) 0 (fun _ => none) none = (none, S0)) ∧ RowsIn L xs ∧
  ∀ H', Same H H' → Q (numV (wk L (xs.map some) 0 (fun _ => none) none).1) H'
section
variable {P : Program} {w : World} {K : PySem.W.Frag} {mg : Str → Option Value} {base : Heap}
structure G7d (P : Program) (w : World) (K : PySem.W.Frag) (mg : Str → Option Value) (base : Heap) : Prop where
  law_put : Cal P w K mg base CX0 "_law_put" 1 ["_law_states_here", "_law_entry_here"] spPutK
  law_is_good : Cal P w K mg base CX0 "_law_is_good" 1 ["_law_lates_here", "_law_states_here", "_law_last", "_law_entry_here"] spGood
abbrev s_l_bad_from : Stmt := topS 53
theorem sc_l_bad_from : FnScope ["_law_lates_here", "_law_entries_here", "_law_begin_here", "_law_states_here", "_law_last", "_law_at"] ["_law_lates_here", "_law_entries_here", "_law_begin_here"] (defScope s_l_bad_from) := ⟨rfl, rfl, rfl, by decide +kernel, rfl, by decide +kernel, by decide +kernel⟩
theorem ok_bad {f : Addr} {fd : FuncData} (F : Fun K "_law_bad_from" "_law_bad_from" s_l_bad_from f fd) (B : Blt mg) (G : G7d P w K mg base) : FnOk P w K mg base CX0 2 f fd ["_law_lates_here", "_law_entries_here", "_law_begin_here"] spBad := by
  refine F.ok sc_l_bad_from (fun vs H Q E h => ?_) (fun cdv A outer s H vs Q E hr h => ?_)
  · obtain ⟨dl, a, L, us, xs, n, rfl, _⟩ := h
    rfl
  · obtain ⟨dl, a, L, us, xs, n, rfl, hdl, ha, hE, h9, hn, ⟨S0, hw0⟩, hR, q⟩ := h
    have hu := hu_of hr
    refine ⟨_, (pss_cons (ps_set (i := 3) sc_l_bad_from.nd rfl (Or.inl rfl) pe_dnewK)
    (pss_cons (ps_set (i := 4) sc_l_bad_from.nd rfl (Or.inl rfl) pe_non)
    (pss_cons (ps_for PassesOwn.never rfl (pi_range1 (by rfl) B.range (pa_cons (pe_callB call_len_seq (by rfl) B.len (by decide +kernel) (pa_cons (pv 1) pa_nil)) pa_nil)) (pg_name (i := 5) sc_l_bad_from.nd rfl (Or.inl rfl))
      (pss_cons (ps_if (PW.pt (pw_and (pt_cmpR op_ge (pv 5) (pv 2) (nomark _)) (pw_and1 (pt_not (pt_val (pe_cal G.law_is_good (hr.mono (by decide)) pass0 (pa_cons (pv 0) (pa_cons (pv 3) (pa_cons (pv 4) (pa_cons (pe_ix ix_list (pv 1) (pv 5) (fun _ _ => rfl)) pa_nil))))))))))
        (pss_one (ps_ret (pv 5)))
        pss_nil)
      (pss_cons (ps_expr (pe_cal G.law_put (hr.mono (by decide)) pass0 (pa_cons (pv 3) (pa_cons (pe_ix ix_list (pv 1) (pv 5) (fun _ _ => rfl)) pa_nil))))
      (pss_one (ps_set (i := 4) sc_l_bad_from.nd rfl (Or.inl rfl) (pe_ix ix_tup (pe_ix ix_list (pv 1) (pv 5) (fun _ _ => rfl)) (pe_op op_sub (pe_callB call_len_seq (by rfl) B.len (by decide +kernel) (pa_cons (pe_ix ix_list (pv 1) (pv 5) (fun _ _ => rfl)) pa_nil)) pe_int) (fun _ _ => rfl)))))))
    (pss_one (ps_ret pe_non))))), ?_⟩
    intro d hd
    have s1 := sameAt (Same.refl H) hd (o := .dK [])
    have hEl := hE.1
    refine ⟨_, rfl, a, _, rfl, .inl (SqL.of (s1 _ _ ha)), _, rfl, (by omega), (by omega), for_range (n := us.length) (fun i σ H1 => ∃ Si, (∃ b, σ = [some (.ref dl), some (.ref a), some (.int n), some (.ref d), some (LastV (lastA (xs.take i) none)), b]) ∧ wk L ((xs.take i).map some) 0 (fun _ => none) none = (none, Si) ∧ StIn L Si ∧ StK H1 d Si i ∧ Same H H1) ?_ ?_ ?_⟩
    · exact ⟨fun _ => none, ⟨_, rfl⟩, rfl, (fun _ _ _ _ _ h => nomatch h), ⟨[], upd_same, Nat.zero_le _, ⟨(fun _ h => nomatch h), .nil⟩, fun id => True.intro⟩, s1⟩
    · rintro i σ H1 hi ⟨Si, ⟨b, rfl⟩, hw, hSt, hst, sH⟩
      rw [show ((0 : Int) + (i : Int)) = i from Int.zero_add _]
      obtain ⟨x, hx⟩ : ∃ x, xs[i]? = some x := ⟨_, List.getElem?_eq_getElem (by omega)⟩
      obtain ⟨v, hv⟩ : ∃ v, us[i]? = some v := ⟨_, List.getElem?_eq_getElem hi⟩
      obtain ⟨e, rfl, he, hok⟩ := hE.2 i v x hv hx
      have hu1 := hv
      refine ⟨_, rfl, _, rfl, _, _, rfl, rfl, _, rfl, ?_⟩
      refine ite2 (fun c => ?_) (fun c => ?_)
      · refine ⟨_, rfl, _, rfl, _, rfl, _, rfl, _, rfl, _, _, _, V.ref e, rfl, rfl, SqL.of (sH _ _ ha), atI_nat hu1, dl, d, e, L, Si, i, lastA (xs.take i) none, x, rfl, sH _ _ hdl, hst, sH _ _ he, ⟨hSt, hR x (List.mem_of_getElem? hx)⟩, _, rfl, ?_⟩
        rcases good_step hx hw with ⟨hg, y, hb, hw1⟩ | ⟨hg, hr1, _⟩
        · rw [hg]
          refine iteF ?_
          have hHa := ha
          refine ⟨_, rfl, _, rfl, _, rfl, _, _, _, V.ref e, rfl, rfl, SqL.of (sH _ _ ha), atI_nat hu1, d, e, L, Si, i, x, y, rfl, hst, (by omega), sH _ _ he, hb, fun H2 st2 k2 => ?_⟩
          have sd : Same H H2 := fun c o hc => k2 c o (sH _ _ hc) (fun z => by rw [z, hd] at hc; cases hc)
          refine ⟨_, rfl, _, rfl, _, _, _, V.ref e, rfl, rfl, SqL.of (sd _ _ ha), atI_nat hu1, _, rfl, _, rfl, _, _, _, V.ref e, rfl, rfl, SqL.of (sd _ _ ha), atI_nat hu1, e, _, rfl, .inr (SqT.of (sd _ _ he)), _, _, rfl, rfl, _, _, _, V.int x.arr, rfl, rfl, SqT.of (sd _ _ he), (by cases x <;> rfl), ?_⟩
          exact ⟨setK Si x.id y, ⟨_, by rw [list_take' hx, lastA_snoc]; rfl⟩, hw1, hSt.put hb, st2, sd⟩
        · rw [hg]
          refine iteT ⟨_, rfl, ?_⟩
          have := q H1 sH
          rw [hr1] at this
          exact this
      · have c : ¬ (n : Int) ≤ i := fun z => c (decide_eq_true z)
        rcases good_step hx hw with ⟨hg, y, hb, hw1⟩ | ⟨_, _, h3⟩
        · skip
          have hHa := ha
          refine ⟨_, rfl, _, rfl, _, rfl, _, _, _, V.ref e, rfl, rfl, SqL.of (sH _ _ ha), atI_nat hu1, d, e, L, Si, i, x, y, rfl, hst, (by omega), sH _ _ he, hb, fun H2 st2 k2 => ?_⟩
          have sd : Same H H2 := fun c o hc => k2 c o (sH _ _ hc) (fun z => by rw [z, hd] at hc; cases hc)
          refine ⟨_, rfl, _, rfl, _, _, _, V.ref e, rfl, rfl, SqL.of (sd _ _ ha), atI_nat hu1, _, rfl, _, rfl, _, _, _, V.ref e, rfl, rfl, SqL.of (sd _ _ ha), atI_nat hu1, e, _, rfl, .inr (SqT.of (sd _ _ he)), _, _, rfl, rfl, _, _, _, V.int x.arr, rfl, rfl, SqT.of (sd _ _ he), (by cases x <;> rfl), ?_⟩
          exact ⟨setK Si x.id y, ⟨_, by rw [list_take' hx, lastA_snoc]; rfl⟩, hw1, hSt.put hb, st2, sd⟩
        · exact absurd hw0 (h3 n (by omega) hn S0)
    · rintro σ H1 ⟨Si, ⟨b, rfl⟩, hw, hSt, hst, sH⟩
      have := q H1 sH
      rw [hEl, List.take_length] at hw
      rw [hw] at this
      exact this
end
end Ash

set_option Elab.async false
set_option linter.all false
set_option maxRecDepth 100000
set_option maxHeartbeats 4000000
namespace Ash
open PySem PySem.Spec PyProof.Rows L2
open C8 (pss_cut)
/-! ### drafts -/
/-- a draft: since which close, the list of its entries -/
def dftF (n : Int) (l : Addr) : List (Str × V) := [("begun", .int n), ("entries", .ref l)]
structure Cd (K : PySem.W.Frag) (mg : Str → Option Value) (CD : Addr) : Prop where
  cl : Cls K CD
  nB : NoAttr K CD "begun"
  nE : NoAttr K CD "entries"
  c : mg "Draft" = some (.ref CD)
def spDraftInit (CD : Addr) : Sp := fun vs H Q _ => ∃ (o dx : Addr) (n : Int), vs = [.ref o, .int n] ∧ H o = some (.ins CD dx []) ∧
  ∀ l H', H l = none → H' o = some (.ins CD dx (dftF n l)) → H' l = some (.lst []) → (∀ c x, H c = some x → c ≠ o → H' c = some x) → Q .non H'
section
variable {P : Program} {w : World} {K : PySem.W.Frag} {mg : Str → Option Value} {base : Heap}
abbrev s_Draft_init : Stmt := inClass (topS 38) 0
theorem sc_Draft_init : FnScope ["self", "begun"] ["self", "begun"] (defScope s_Draft_init) := ⟨rfl, rfl, rfl, by decide +kernel, rfl, by decide +kernel, by decide +kernel⟩
theorem ok_draft_init {f CD : Addr} {fd : FuncData} (F : Fun K "__init__" "Draft.__init__" s_Draft_init f fd) (T : Cd K mg CD) : FnOk P w K mg base CX0 1 f fd ["self", "begun"] (spDraftInit CD) := by
  refine F.ok sc_Draft_init (fun vs H Q E h => ?_) (fun cdv A outer s H vs Q E hr h => ?_)
  · obtain ⟨o, dx, n, rfl, _⟩ := h
    rfl
  · obtain ⟨o, dx, n, rfl, ho, q⟩ := h
    have hu := hu_of hr
    refine ⟨_, (pss_cons (ps_fld (pv 0) (pv 1) rfl)
    (pss_one (ps_fld (pv 0) (pe_lst pa_nil) rfl))), ?_⟩
    refine ⟨_, rfl, _, rfl, o, CD, dx, [], rfl, ho, T.cl, T.nB, (by show 0 < 1000; decide), ?_⟩
    refine ⟨(by show 0 ≤ sizeLine; decide), fun l hl => ?_⟩
    have hlo : l ≠ o := fun z => by rw [z, upd_same] at hl; cases hl
    have hl0 : H l = none := by rw [upd_ne hlo] at hl; exact hl
    refine ⟨_, rfl, o, CD, dx, _, rfl, (by rw [upd_ne (Ne.symm hlo)]; exact upd_same), T.cl, T.nE, (by show 1 < 1000; decide), ?_⟩
    refine q l _ hl0 upd_same (by rw [upd_ne hlo]; exact upd_same) fun c x hc hn => ?_
    have hcl : c ≠ l := fun z => by rw [z, hl0] at hc; cases hc
    rw [upd_ne hn, upd_ne hcl, upd_ne hn]
    exact hc
end
end Ash

set_option Elab.async false
set_option linter.all false
set_option maxRecDepth 100000
set_option maxHeartbeats 4000000
namespace Ash
open PySem PySem.Spec PyProof.Rows L2
open C8 (pss_cut)
/-! ### offices -/
def ofF (b j dd pa : Addr) (cl : Int) (cb : Addr) : List (Str × V) := [("_book", .ref b), ("journal", .ref j), ("_drafts", .ref dd), ("_past", .ref pa), ("_closes", .int cl), ("_closed_by", .ref cb)]
/-- the drafts by their writers -/
def DK (ds : List (Str × Addr)) : List (Key × V) := ds.map fun x => (Sum.inr x.1, V.ref x.2)
theorem DK_val : ∀ (ds : List (Str × Addr)) (z : Str), valV (DK ds) (Sum.inr z : Key) = (ds.lookup z).map V.ref
  | [], z => rfl
  | a :: ds, z => by
    have ih := DK_val ds z
    by_cases h : a.1 = z
    · have h' : (z == a.1) = true := by simpa using h.symm
      show valV ((Sum.inr a.1, V.ref a.2) :: DK ds) (Sum.inr z : Key) = _
      rw [valV_pos (by rw [h])]
      obtain ⟨a1, a2⟩ := a
      simp only [List.lookup, h', Option.map_some]
    · have h' : (z == a.1) = false := by simpa using fun q => h q.symm
      show valV ((Sum.inr a.1, V.ref a.2) :: DK ds) (Sum.inr z : Key) = _
      rw [valV_neg (fun q => h (Sum.inr.inj q)), ih]
      obtain ⟨a1, a2⟩ := a
      simp only [List.lookup, h']
theorem par_writer : PySem.BadX.Par "writer" := ⟨by decide, by decide +kernel, by decide +kernel, by decide +kernel, by decide +kernel⟩
structure Co (K : PySem.W.Frag) (mg : Str → Option Value) (CO : Addr) : Prop where
  cl : Cls K CO
  nB : NoAttr K CO "_book"
  nJ : NoAttr K CO "journal"
  nD : NoAttr K CO "_drafts"
  nP : NoAttr K CO "_past"
  nC : NoAttr K CO "_closes"
  nY : NoAttr K CO "_closed_by"
  c : mg "Office" = some (.ref CO)
def spDraftOf (CO CI : Addr) : Sp := fun vs H Q E => ∃ (o dx b j dd pa cb : Addr) (cl : Int) (ds : List (Str × Addr)) (z : Str), vs = [.ref o, .str z] ∧ H o = some (.ins CO dx (ofF b j dd pa cl cb)) ∧ H dd = some (.dK (DK ds)) ∧ IsNm z ∧
  ((∃ a, ds.lookup z = some a ∧ ∀ H', Same H H' → Q (.ref a) H') ∨ (ds.lookup z = none ∧ ∀ d H', Same H H' → Xd H' d "writer" (.str z) → E (.ref CI) (some d) H'))
section
variable {P : Program} {w : World} {K : PySem.W.Frag} {mg : Str → Option Value} {base : Heap}
abbrev s_Officedraft_of : Stmt := inClass (topS 39) 10
theorem sc_Officedraft_of : FnScope ["self", "writer"] ["self", "writer"] (defScope s_Officedraft_of) := ⟨rfl, rfl, rfl, by decide +kernel, rfl, by decide +kernel, by decide +kernel⟩
theorem ok_draft_of {f CO CI fI : Addr} {fd : FuncData} (F : Fun K "_draft_of" "Office._draft_of" s_Officedraft_of f fd) (T : Co K mg CO) (TI : PySem.BadX.Txt P K mg "writer" "writer" CI fI) (c_Idle : mg "Idle" = some (.ref CI)) (G : K4 P w K mg base) : FnOk P w K mg base (L2.CX P w) 2 f fd ["self", "writer"] (spDraftOf CO CI) := by
  refine F.okX sc_Officedraft_of (fun vs H Q E h => ?_) (fun cdv A outer s H vs Q E hr h => ?_)
  · obtain ⟨o, dx, b, j, dd, pa, cb, cl, ds, z, rfl, _⟩ := h
    rfl
  · obtain ⟨o, dx, b, j, dd, pa, cb, cl, ds, z, rfl, ho, hdd, hz, hv⟩ := h
    have hu := hu_of hr
    refine ⟨_, (pss_cons (ps_if (PW.pt (pw_or (pt_not (pt_val (pe_cal G.is_name (hr.mono (by decide)) pass0 (pa_cons (pv 1) pa_nil)))) (pw_or1 (pt_cmp (pc_dnotin hu (pv 1) (pe_fld (pv 0) rfl)) rfl))))
      (pss_one (ps_raiseB rfl TI par_writer c_Idle (hr.mono (Nat.zero_le _)) (takes_of rfl rfl rfl rfl) (pa_cons (pv 1) pa_nil) (by rfl)))
      pss_nil)
    (pss_one (ps_ret (pe_dget hu (pe_fld (pv 0) rfl) (pv 1) (fun _ _ => rfl))))), ?_⟩
    refine ⟨_, rfl, _, rfl, .inl ⟨z, rfl, (by have := hz.2.1; rw [sizeLine_eq]; omega), fun H1 s1 => ⟨_, rfl, ?_⟩⟩⟩
    rw [(nmB_iff z).mpr hz]
    have ho1 := s1 _ _ ho
    have hg := DGet.k (k := Sum.inr z) (s1 _ _ hdd)
    rw [DK_val] at hg
    rcases hv with ⟨a, ha, q⟩ | ⟨ha, q⟩
    · rw [ha] at hg
      refine iteF ⟨_, rfl, _, rfl, o, CO, dx, _, _, rfl, ho1, T.cl, T.nD, rfl, dd, _, rfl, hg, _, rfl, iteF ?_⟩
      exact ⟨_, rfl, o, CO, dx, _, _, rfl, ho1, T.cl, T.nD, rfl, _, rfl, dd, _, rfl, hg, q _ s1⟩
    · rw [ha] at hg
      refine iteF ⟨_, rfl, _, rfl, o, CO, dx, _, _, rfl, ho1, T.cl, T.nD, rfl, dd, _, rfl, hg, _, rfl, iteT ?_⟩
      exact ⟨_, rfl, _, rfl, fun d hd => q d _ (s1.trans (sameAt (Same.refl H1) hd)) upd_same⟩
end
end Ash

set_option Elab.async false
set_option linter.all false
set_option maxRecDepth 100000
set_option maxHeartbeats 4000000
namespace L2
open PySem PySem.Spec PyProof.Rows
section
variable {X : Cx} {C fI : Addr} {par fl : Str}
/-- n.f in the suite that caught an own error with the one field fl -/
def tByB (fl : Str) (C a : Addr) (cls : Value) (d : Option Addr) (te : TE) : TE := fun σ H Q => te σ H fun x H1 => x = .ref a ∧ cls = .ref C ∧ ∃ (dd : Addr) (v : V), d = some dd ∧ H1 dd = some (.xd [(fl, v)]) ∧ Q v H1
theorem pe_byB {a : Addr} {oe : Obj} {cls : Value} {d : Option Addr} {pn : List (Addr × Obj)} {e : Expr} {te : TE} {pos : Pos} (T : PySem.BadX.Txt X.prog X.K X.mg par fl C fI) (hz : Zc cls d oe) (hf : ∃ vs, oe.data = .fields vs) (he : PE (X.suite a ((a, oe) :: pn)) e te)
    (hb : attributeBase e fl X.env (eval e X.env) = eval e X.env := by rfl) :
    PE (X.suite a ((a, oe) :: pn)) (.Attribute e fl pos) (tByB fl C a cls d te) := by
  refine ⟨fun pins s σ H Q I h => ?_⟩
  refine attr_of hb (thn (he.run pins s σ H _ I h) fun u s1 hh => ?_)
  obtain ⟨x, H1, I1, rx, ex, ec, dd, v, ed, ea, q⟩ := hh
  subst ex
  obtain rfl : u = Value.ref a := rx
  subst ec
  subst ed
  obtain ⟨ha, _⟩ := I1.pin (a, oe) (List.mem_append_left _ List.mem_cons_self)
  obtain ⟨vs, hd⟩ := hf
  have hx : ObjOk X.prog X.w H1 s1.heap dd (.xd [(fl, v)]) := I1.hok dd _ ea
  obtain ⟨mA, hns, hr⟩ := hx
  obtain ⟨od, ho, hl⟩ := lookIn_ns hns
  have l : List.lookup fl [(fl, v)] = some v := by simp [List.lookup]
  obtain ⟨u, hu, ru⟩ := RelO.some_of (v := v) (o := mA fl) (by rw [← l]; exact hr fl)
  have J : PySem.W.InstAt s1.heap a oe C (some od) := ⟨ha, hz.1, by unfold PySem.W.notCls; rw [hd] <;> rfl, by rw [hz.2]; exact ho⟩
  exact HandSPX.exc_get I1.kIn J T.ga T.gg T.exC (PySem.W.findObj_own T.hdC T.noN rfl (by rw [hl, hu])) (handed_of ru) ⟨v, H1, I1.tok _, ru, q⟩
end
end L2
namespace Ash
open PySem PySem.Spec PyProof.Rows L2
open C8 (pss_cut)
/-- what is wanted of an exception at any n slots -/
def WEn (n : Nat) (W : WX) : XK := fun cls d H => ∀ σ : L2.St, σ.length = n → W cls d σ H
theorem passN {X : Cx} {W : WX} {n : Nat} (hn : X.N.length = n) (tk : Takes X W) : Passes (L2.CX X.prog X.w) X (WEn n W) := fun _ σ _ _ e s' I c => tk e s' (XE.of_call I (fun cls d H' h => h σ (I.len.trans hn)) c)
section
variable {X : Cx} {CX : CXT} {k : Nat} {ps : List Str} {sp : Sp} {E : XK} {o e : Expr} {es : List Expr} {ta : TE} {t : TA} {C : Addr} {m : Str} {apos pos : Pos}
theorem pe_met {pl : Sem Bool} (c : Cls X.K C) (G : Met X.prog X.w X.K X.mg X.base CX C m k ps sp) (hr : Room k X.A) (hx : Passes CX X E) (ho : PE X o ta) (ha : PA X (e :: es) t) 
    (he : starEach (e :: es) X.env = (false, eval e X.env) :: starEach es X.env := by rfl) (hpl : (backTo pos (starEach es X.env)).any (·.1) = false := by rfl)
    (ht : eval (.Call (.Attribute o m apos) (e :: es) [] pos) X.env = (do
      let ov ← eval o X.env
      standAt apos.atName
      let (f, first) ← holding [ov] (getMethod ov m pl)
      callWith pos f first (backTo pos (starEach (e :: es) X.env)) (backToKw pos (keywordEach [] X.env))) := by rfl) :
    PE X (.Call (.Attribute o m apos) (e :: es) [] pos) (tMeth C m sp [] E ta t) := by
  obtain ⟨f, fd, hm, hb, F⟩ := G.ex
  exact pe_meth ho c hm F hr hb .nil hx ha he hpl ht
end
section
variable {X : Cx} {CX : CXT} {k : Nat} {ps : List Str} {sp : Sp} {E : L2.St → XK} {o e : Expr} {es : List Expr} {ta : TE} {t : TA} {C : Addr} {m : Str} {apos pos : Pos}
/-- o.m(e, ..), what is raised being wished for at the caller's slots -/
def tMethS (C : Addr) (m : Str) (sp : Sp) (E : L2.St → XK) (ta : TE) (t : TA) : TE := fun σ H Q => ta σ H fun x H1 => ∃ a dx fs, x = .ref a ∧ H1 a = some (.ins C dx fs) ∧ fs.lookup m = none ∧ t σ H1 fun vs H2 => sp (x :: (vs ++ [])) H2 Q (E σ)
theorem pe_metS {pl : Sem Bool} (c : Cls X.K C) (G : Met X.prog X.w X.K X.mg X.base CX C m k ps sp) (hr : Room k X.A) (hx : ∀ σ, PassesAt CX X σ (E σ)) (ho : PE X o ta) (ha : PA X (e :: es) t) 
    (he : starEach (e :: es) X.env = (false, eval e X.env) :: starEach es X.env := by rfl) (hpl : (backTo pos (starEach es X.env)).any (·.1) = false := by rfl)
    (ht : eval (.Call (.Attribute o m apos) (e :: es) [] pos) X.env = (do
      let ov ← eval o X.env
      standAt apos.atName
      let (f, first) ← holding [ov] (getMethod ov m pl)
      callWith pos f first (backTo pos (starEach (e :: es) X.env)) (backToKw pos (keywordEach [] X.env))) := by rfl) :
    PE X (.Call (.Attribute o m apos) (e :: es) [] pos) (tMethS C m sp E ta t) := by
  obtain ⟨f, fd, hm, hb, F⟩ := G.ex
  refine ⟨fun pins s σ H Q I h => PySem.W.methodCall_KW (pl := pl) (thn (ho.run pins s σ H _ I h) fun u s1 ⟨x, H1, I1, rx, a, dx, fs, ex, ea, l, q⟩ => ?_) ht⟩
  cases ex
  cases (show u = Value.ref a from rx)
  refine getmeth_ok I1 ea c hm l (PySem.W.callWith_K (first := [.ref a]) (h₀ := X.base) I.ok.mod.kin hm.kp (thn (ha.run pos pins s1 σ H1 _ I1 q) fun us s2 ⟨vs, H2, I2, r, q2⟩ => ⟨I2.kIn, ?_⟩) he hpl)
  exact run_fnSD (us := .ref a :: us) (vs := .ref a :: vs) F hr hb .nil (hx σ) I2 (.cons rfl r) q2
theorem pe_metS0 {pl : Sem Bool} (c : Cls X.K C) (G : Met X.prog X.w X.K X.mg X.base CX C m k ps sp) (hr : Room k X.A) (hx : ∀ σ, PassesAt CX X σ (E σ)) (ho : PE X o ta)
    (ht : eval (.Call (.Attribute o m apos) [] [] pos) X.env = (do
      let ov ← eval o X.env
      standAt apos.atName
      let (f, first) ← holding [ov] (getMethod ov m pl)
      callWith pos f first (backTo pos (starEach [] X.env)) (backToKw pos (keywordEach [] X.env))) := by rfl) :
    PE X (.Call (.Attribute o m apos) [] [] pos) (tMethS C m sp E ta tNil) := by
  obtain ⟨f, fd, hm, hb, F⟩ := G.ex
  refine ⟨fun pins s σ H Q I h => PySem.W.methodCall_KW (pl := pl) (thn (ho.run pins s σ H _ I h) fun u s1 ⟨x, H1, I1, rx, a, dx, fs, ex, ea, l, q⟩ => ?_) ht⟩
  cases ex
  cases (show u = Value.ref a from rx)
  exact getmeth_ok I1 ea c hm l (PySem.W.callWith_K0 (first := [.ref a]) I1.kIn hm.kp (run_fnSD (us := [.ref a]) (vs := [.ref a]) F hr hb .nil (hx σ) I1 (.cons rfl .nil) q))
end
section
variable {X : Cx} {CX : CXT} {k : Nat} {ps : List Str} {sp : Sp} {E : XK} {o : Expr} {ta : TE} {C : Addr} {m : Str} {apos pos : Pos}
theorem pe_met0 {pl : Sem Bool} (c : Cls X.K C) (G : Met X.prog X.w X.K X.mg X.base CX C m k ps sp) (hr : Room k X.A) (hx : Passes CX X E) (ho : PE X o ta) 
    (ht : eval (.Call (.Attribute o m apos) [] [] pos) X.env = (do
      let ov ← eval o X.env
      standAt apos.atName
      let (f, first) ← holding [ov] (getMethod ov m pl)
      callWith pos f first (backTo pos (starEach [] X.env)) (backToKw pos (keywordEach [] X.env))) := by rfl) :
    PE X (.Call (.Attribute o m apos) [] [] pos) (tMeth C m sp [] E ta tNil) := by
  obtain ⟨f, fd, hm, hb, F⟩ := G.ex
  exact pe_meth0 ho c hm F hr hb .nil hx ht
end
section
variable {X : Cx} {CX : CXT} {k : Nat} {ps : List Str} {sp : Sp} {E : XK} {x : Str} {p pos : Pos} {e : Expr} {es : List Expr} {t : TA}
structure MakD (P : Program) (w : World) (K : PySem.W.Frag) (mg : Str → Option Value) (base : Heap) (CX : CXT) (x : Str) (C : Addr) (k : Nat) (ps : List Str) (dv : V) (sp : Sp) : Prop where
  ex : ∃ f fd u, Mk K C f ∧ mg x = some (.ref C) ∧ Binds K fd ps [u] ∧ RelV dv u ∧ FnOk P w K mg base CX k f fd ps sp
section
variable {X : Cx} {CX : CXT} {k j : Nat} {ps : List Str} {sp : Sp} {E : XK} {x : Str} {p pos : Pos} {e : Expr} {es : List Expr} {t : TA}
theorem pe_makD {C : Addr} {dv : V} (G : MakD X.prog X.w X.K X.mg X.base CX x C k ps dv sp) (hr : Room (k + 1) X.A) (hx : Passes CX X E) (ha : PA X (e :: es) t) (hg : Gl X x := by rfl)
    (hdb : (x == ("__debug__" : Str)) = false := by decide) (he : starEach (e :: es) X.env = (false, eval e X.env) :: starEach es X.env := by rfl) (hpl : (backTo pos (starEach es X.env)).any (·.1) = false := by rfl) :
    PE X (.Call (.Name x p) (e :: es) [] pos) (tMake C sp [dv] E t) := by
  obtain ⟨f, fd, u, M, hm, hb, hv, F⟩ := G.ex
  exact pe_make M F hr hg hm hb (.cons hv .nil) hx ha hdb he hpl
end
end
end Ash

set_option Elab.async false
set_option linter.all false
set_option maxRecDepth 100000
set_option maxHeartbeats 4000000
namespace RZ
open PySem PySem.Spec PyProof.Rows L2
open PySem.Sem (wp)
section
variable {prog : Program} {w : World} {A : Around} {E : Value → Shared → Prop} {s : Shared}
theorem zipM_next_item {z TI TO i1 i2 l1 l2 : Addr} {k1 k2 : Nat} {xs ys : Array Value} {x y a b : Value} {Q : Value → Shared → Prop} (D : ZipApart z TI TO i1 i2 l1 l2)
    (hz : IsZip s.heap z TI TO .none) (hTI : IsPair s.heap TI (.ref i1) (.ref i2)) (hTO : IsPair s.heap TO a b)
    (h1 : s.heap.IsTupleIter i1 l1 k1) (h2 : s.heap.IsListIter i2 l2 k2) (hl1 : s.heap.IsTuple l1 xs) (hl2 : s.heap.IsList l2 ys) (hx : xs[k1]? = some x) (hy : ys[k2]? = some y)
    (hQ : ∀ h', IsZip h' z TI TO (rawInt s.heap.objs.size) → IsPair h' TO x y → h'.IsTupleIter i1 l1 (k1 + 1) → h'.IsListIter i2 l2 (k2 + 1) → IsPair h' s.heap.objs.size x y → h'.objs.size = s.heap.objs.size + 1 →
      (∀ c o, c ≠ z → c ≠ TO → c ≠ i1 → c ≠ i2 → s.heap.get? c = some o → h'.get? c = some o) → Q (.ref s.heap.objs.size) { s with heap := h' }) :
    wpAny (model prog w) A (Builtin.«zip.__next__» ⟨[.ref z], []⟩) (fun fin s' => ∃ v, fin = .done (.ret v) ∧ Q v s') E s := by
  show wpAny _ _ (field (.ref z) 2 >>= _) _ _ _
  refine wpAny_bind (wpAny_field hz rfl (x := .bool false) rfl ?_)
  show wpAny _ _ (field (.ref z) 3 >>= _) _ _ _
  refine wpAny_bind (wpAny_field hz rfl (x := .ref TI) rfl ?_)
  refine wpAny_bind (wpAny_seqItems hTI rfl ?_)
  show wpAny _ _ (Builtin.SmallTypes.ownedTupleIsFree (.ref z) >>= _) _ _ _
  refine wpAny_bind ?_
  unfold Builtin.SmallTypes.ownedTupleIsFree
  refine wpAny_bind (wpAny_field hz rfl (x := .none) rfl (wpAny_pure ?_))
  simp only [if_true]
  refine wpAny_bind (wpAny_rule ?_)
  refine wpAny_bind (wpAny_field hz rfl (x := .ref TO) rfl ?_)
  refine wpAny_bind (wpAny_setField_rec hz (by simp) fun h₁ hz₁ hs₁ => ?_)
  replace hz₁ : IsZip h₁ z TI TO .ellipsis := hz₁
  refine wpAny_bind ?_
  simp only [List.zipIdx_cons, List.zipIdx_nil, List.forIn_cons, List.forIn_nil]

  refine wpAny_bind (wpAny_bind (wpAny_onRaise ?_))
  show wpAny _ _ (Builtin.SmallTypes.nextOf (.ref i1) >>= _) _ _ _
  refine wpAny_bind (nextOf_tuple_item (h1.extBut hs₁.extBut D.i1z) (hl1.extBut hs₁.extBut D.l1z) hx fun h₂ h1₂ hs₂ => wpAny_pure ?_)
  have hTO₂ : IsPair h₂ TO a b := hs₂.extBut _ _ D.TOi1 (hs₁.extBut _ _ D.TOz hTO)
  refine wpAny_bind (wpAny_seqItems hTO₂ rfl ?_)
  refine wpAny_bind (wpAny_updateSeq_pair hTO₂ fun h₃ hTO₃ hs₃ => ?_)
  replace hTO₃ : IsPair h₃ TO x b := hTO₃
  refine wpAny_bind (wpAny_letGo (wpAny_pure ?_))

  refine wpAny_bind (wpAny_bind (wpAny_onRaise ?_))
  show wpAny _ _ (Builtin.SmallTypes.nextOf (.ref i2) >>= _) _ _ _
  refine wpAny_bind (wpAny_nextOf_list_item (((h2.extBut hs₁.extBut D.i2z).extBut hs₂.extBut D.i12.symm).extBut hs₃.extBut D.TOi2.symm)
    (((hl2.extBut hs₁.extBut D.l2z).extBut hs₂.extBut D.l2i1).extBut hs₃.extBut D.l2TO) hy fun h₄ h2₄ hs₄ => wpAny_pure ?_)
  have hTO₄ : IsPair h₄ TO x b := hs₄.extBut _ _ D.TOi2 hTO₃
  refine wpAny_bind (wpAny_seqItems hTO₄ rfl ?_)
  refine wpAny_bind (wpAny_updateSeq_pair hTO₄ fun h₅ hTO₅ hs₅ => ?_)
  replace hTO₅ : IsPair h₅ TO x y := hTO₅
  refine wpAny_bind (wpAny_letGo (wpAny_pure (wpAny_pure ?_)))

  refine wpAny_bind (wpAny_seqItems hTO₅ rfl ?_)
  refine wpAny_bind (wpAny_newTuple ?_)
  have hsz : h₅.objs.size = s.heap.objs.size := by rw [hs₅.1, hs₄.1, hs₃.1, hs₂.1, hs₁.1]
  have hz₅ : IsZip h₅ z TI TO .ellipsis := hs₅.extBut _ _ D.TOz.symm (hs₄.extBut _ _ D.i2z.symm (hs₃.extBut _ _ D.TOz.symm (hs₂.extBut _ _ D.i1z.symm hz₁)))
  have hk₅ : ∀ c o, c ≠ z → c ≠ TO → c ≠ i1 → c ≠ i2 → s.heap.get? c = some o → h₅.get? c = some o := fun c o c1 c2 c3 c4 e =>
    hs₅.extBut _ _ c2 (hs₄.extBut _ _ c4 (hs₃.extBut _ _ c2 (hs₂.extBut _ _ c3 (hs₁.extBut _ _ c1 e))))
  have h1₅ : h₅.IsTupleIter i1 l1 (k1 + 1) := ((h1₂.extBut hs₃.extBut D.TOi1.symm).extBut hs₄.extBut D.i12).extBut hs₅.extBut D.TOi1.symm
  have h2₅ : h₅.IsListIter i2 l2 (k2 + 1) := h2₄.extBut hs₅.extBut D.TOi2.symm
  have hzlt : z < h₅.objs.size := Heap.lt_size hz₅
  have hTOlt : TO < h₅.objs.size := Heap.lt_size hTO₅
  have hi1lt : i1 < h₅.objs.size := by obtain ⟨_, e, _⟩ := h1₅; exact Heap.lt_size e
  have hi2lt : i2 < h₅.objs.size := by obtain ⟨_, e, _⟩ := h2₅; exact Heap.lt_size e
  show wpAny _ _ (Builtin.SmallTypes.ownedTupleHandOut (.ref z) (.ref h₅.objs.size) >>= _) _ _ _
  refine wpAny_bind ?_
  unfold Builtin.SmallTypes.ownedTupleHandOut
  have hz₆ : IsZip (h₅.push { cls := .type "tuple", data := .seq #[x, y] }) z TI TO .ellipsis := Heap.get?_push_of_some _ hz₅
  refine wpAny_bind (wpAny_setField_rec hz₆ (by simp) fun h₇ hz₇ hs₇ => ?_)
  replace hz₇ : IsZip h₇ z TI TO (rawInt h₅.objs.size) := hz₇
  refine wpAny_setField_rec hz₇ (by simp) fun h₈ hz₈ hs₈ => ?_
  replace hz₈ : IsZip h₈ z TI TO (rawInt h₅.objs.size) := hz₈
  have up : ∀ c o, c ≠ z → h₅.get? c = some o → h₈.get? c = some o := fun c o c1 e => hs₈.extBut _ _ c1 (hs₇.extBut _ _ c1 (Heap.get?_push_of_some _ e))
  have hT₈ : IsPair h₈ h₅.objs.size x y := hs₈.extBut _ _ (Nat.ne_of_gt hzlt) (hs₇.extBut _ _ (Nat.ne_of_gt hzlt) (Heap.get?_push_size _ rfl))
  have hz8 : h₈.objs.size = h₅.objs.size + 1 := by rw [hs₈.1, hs₇.1, Heap.size_push]
  rw [hsz] at hz₈ hT₈ hz8
  refine wpAny_pure ⟨_, rfl, ?_⟩
  show Q (.ref h₅.objs.size) _
  rw [hsz]
  exact hQ h₈ hz₈ (up _ _ D.TOz hTO₅) (h1₅.at fun o e => up _ o D.i1z e) (h2₅.at fun o e => up _ o D.i2z e) hT₈ hz8 fun c o c1 c2 c3 c4 e => up c o c1 (hk₅ c o c1 c2 c3 c4 e)

theorem zipM_next_end {z TI TO i1 i2 l1 l2 : Addr} {k1 k2 : Nat} {xs ys : Array Value} {a b : Value} {Q : Fin → Shared → Prop} (hh : A.handled = none) (D : ZipApart z TI TO i1 i2 l1 l2)
    (hz : IsZip s.heap z TI TO .none) (hTI : IsPair s.heap TI (.ref i1) (.ref i2)) (hTO : IsPair s.heap TO a b)
    (h1 : s.heap.IsTupleIter i1 l1 k1) (h2 : s.heap.IsListIter i2 l2 k2) (hl1 : s.heap.IsTuple l1 xs) (hl2 : s.heap.IsList l2 ys) (hend : xs[k1]? = none ∨ ys[k2]? = none)
    (hE : ∀ h' e, (∀ c o, c ≠ z → c ≠ TO → c ≠ i1 → c ≠ i2 → s.heap.get? c = some o → h'.get? c = some o) → (∃ o, h'.get? e = some o ∧ o.cls = .type "StopIteration") → E (.ref e) { s with heap := h' }) :
    wpAny (model prog w) A (Builtin.«zip.__next__» ⟨[.ref z], []⟩) Q E s := by
  show wpAny _ _ (field (.ref z) 2 >>= _) _ _ _
  refine wpAny_bind (wpAny_field hz rfl (x := .bool false) rfl ?_)
  show wpAny _ _ (field (.ref z) 3 >>= _) _ _ _
  refine wpAny_bind (wpAny_field hz rfl (x := .ref TI) rfl ?_)
  refine wpAny_bind (wpAny_seqItems hTI rfl ?_)
  show wpAny _ _ (Builtin.SmallTypes.ownedTupleIsFree (.ref z) >>= _) _ _ _
  refine wpAny_bind ?_
  unfold Builtin.SmallTypes.ownedTupleIsFree
  refine wpAny_bind (wpAny_field hz rfl (x := .none) rfl (wpAny_pure ?_))
  simp only [if_true]
  refine wpAny_bind (wpAny_rule ?_)
  refine wpAny_bind (wpAny_field hz rfl (x := .ref TO) rfl ?_)
  refine wpAny_bind (wpAny_setField_rec hz (by simp) fun h₁ hz₁ hs₁ => ?_)
  replace hz₁ : IsZip h₁ z TI TO .ellipsis := hz₁
  refine wpAny_bind ?_
  simp only [List.zipIdx_cons, List.zipIdx_nil, List.forIn_cons, List.forIn_nil]
  refine wpAny_bind (wpAny_bind (wpAny_onRaise ?_))
  show wpAny _ _ (Builtin.SmallTypes.nextOf (.ref i1) >>= _) _ _ _
  cases hx : xs[k1]? with
  | none =>
    refine wpAny_bind (nextOf_tuple_end hh (h1.extBut hs₁.extBut D.i1z) (hl1.extBut hs₁.extBut D.l1z) hx fun h₂ e hs₂ he => ?_)
    obtain ⟨oe, hoe, hce⟩ := he
    have hz₂ : IsZip h₂ z TI TO .ellipsis := hs₂ _ _ D.i1z.symm hz₁
    have hez : e ≠ z := fun x => by subst x; rw [hz₂] at hoe; cases hoe; simp at hce
    refine wpAny_setField_rec hz₂ (by simp) fun h₃ _ hs₃ => hE h₃ e (fun c o c1 _ c3 _ x => hs₃.extBut _ _ c1 (hs₂ _ _ c3 (hs₁.extBut _ _ c1 x))) ⟨oe, hs₃.extBut _ _ hez hoe, hce⟩
  | some x =>
    have hy : ys[k2]? = none := by rcases hend with h | h; rw [hx] at h; cases h; exact h
    refine wpAny_bind (nextOf_tuple_item (h1.extBut hs₁.extBut D.i1z) (hl1.extBut hs₁.extBut D.l1z) hx fun h₂ h1₂ hs₂ => wpAny_pure ?_)
    have hTO₂ : IsPair h₂ TO a b := hs₂.extBut _ _ D.TOi1 (hs₁.extBut _ _ D.TOz hTO)
    refine wpAny_bind (wpAny_seqItems hTO₂ rfl ?_)
    refine wpAny_bind (wpAny_updateSeq_pair hTO₂ fun h₃ hTO₃ hs₃ => ?_)
    refine wpAny_bind (wpAny_letGo (wpAny_pure ?_))
    refine wpAny_bind (wpAny_bind (wpAny_onRaise ?_))
    show wpAny _ _ (Builtin.SmallTypes.nextOf (.ref i2) >>= _) _ _ _
    refine wpAny_bind (wpAny_nextOf_list_end hh (((h2.extBut hs₁.extBut D.i2z).extBut hs₂.extBut D.i12.symm).extBut hs₃.extBut D.TOi2.symm)
      (((hl2.extBut hs₁.extBut D.l2z).extBut hs₂.extBut D.l2i1).extBut hs₃.extBut D.l2TO) hy fun h₄ e hs₄ he => ?_)
    obtain ⟨oe, hoe, hce⟩ := he
    have hz₄ : IsZip h₄ z TI TO .ellipsis := hs₄ _ _ D.i2z.symm (hs₃.extBut _ _ D.TOz.symm (hs₂.extBut _ _ D.i1z.symm hz₁))
    have hez : e ≠ z := fun x => by subst x; rw [hz₄] at hoe; cases hoe; simp at hce
    refine wpAny_setField_rec hz₄ (by simp) fun h₅ _ hs₅ => hE h₅ e (fun c o c1 c2 c3 c4 x => hs₅.extBut _ _ c1 (hs₄ _ _ c4 (hs₃.extBut _ _ c2 (hs₂.extBut _ _ c3 (hs₁.extBut _ _ c1 x))))) ⟨oe, hs₅.extBut _ _ hez hoe, hce⟩

theorem pyNext_zipM_item {z TI TO i1 i2 l1 l2 : Addr} {k1 k2 : Nat} {xs ys : Array Value} {x y a b : Value} {Q : Option Value → Shared → Prop} (D : ZipApart z TI TO i1 i2 l1 l2)
    (hz : IsZip s.heap z TI TO .none) (hTI : IsPair s.heap TI (.ref i1) (.ref i2)) (hTO : IsPair s.heap TO a b)
    (h1 : s.heap.IsTupleIter i1 l1 k1) (h2 : s.heap.IsListIter i2 l2 k2) (hl1 : s.heap.IsTuple l1 xs) (hl2 : s.heap.IsList l2 ys) (hx : xs[k1]? = some x) (hy : ys[k2]? = some y)
    (hQ : ∀ h', IsZip h' z TI TO (rawInt s.heap.objs.size) → IsPair h' TO x y → h'.IsTupleIter i1 l1 (k1 + 1) → h'.IsListIter i2 l2 (k2 + 1) → IsPair h' s.heap.objs.size x y → h'.objs.size = s.heap.objs.size + 1 →
      (∀ c o, c ≠ z → c ≠ TO → c ≠ i1 → c ≠ i2 → s.heap.get? c = some o → h'.get? c = some o) → Q (some (.ref s.heap.objs.size)) { s with heap := h' }) :
    wpAny (model prog w) A (pyNext (.ref z)) Q E s := by
  have hT : s.TypeIs (.ref z) "zip" := ⟨_, hz, rfl⟩
  unfold pyNext
  exact wpAny_bind (wpAny_attempt (wpAny_callSpecial?_slot (name := Str.ofString "__next__") hT F.slot_zip_next
    (wpAny_call_entry F.slot_zip_next hT F.entry_zip_next
      (zipM_next_item D hz hTI hTO h1 h2 hl1 hl2 hx hy fun h' a1 a2 a3 a4 a5 a6 a7 => wpAny_pure (hQ h' a1 a2 a3 a4 a5 a6 a7)) (F.args_zip_next_1 _))))

theorem pyNext_zipM_end {z TI TO i1 i2 l1 l2 : Addr} {k1 k2 : Nat} {xs ys : Array Value} {a b : Value} {Q : Option Value → Shared → Prop} (hh : A.handled = none) (D : ZipApart z TI TO i1 i2 l1 l2)
    (hz : IsZip s.heap z TI TO .none) (hTI : IsPair s.heap TI (.ref i1) (.ref i2)) (hTO : IsPair s.heap TO a b)
    (h1 : s.heap.IsTupleIter i1 l1 k1) (h2 : s.heap.IsListIter i2 l2 k2) (hl1 : s.heap.IsTuple l1 xs) (hl2 : s.heap.IsList l2 ys) (hend : xs[k1]? = none ∨ ys[k2]? = none)
    (hQ : ∀ h', (∀ c o, c ≠ z → c ≠ TO → c ≠ i1 → c ≠ i2 → s.heap.get? c = some o → h'.get? c = some o) → Q none { s with heap := h' }) : wpAny (model prog w) A (pyNext (.ref z)) Q E s := by
  have hT : s.TypeIs (.ref z) "zip" := ⟨_, hz, rfl⟩
  unfold pyNext
  refine wpAny_bind (wpAny_attempt (wpAny_callSpecial?_slot (name := Str.ofString "__next__") hT F.slot_zip_next
    (wpAny_call_entry F.slot_zip_next hT F.entry_zip_next (zipM_next_end hh D hz hTI hTO h1 h2 hl1 hl2 hend fun h' e hk he => ?_) (F.args_zip_next_1 _))))
  obtain ⟨o, ho, hc⟩ := he
  refine wpAny_bind (wpAny_isInstance (T := "StopIteration") (b := true) ⟨o, ho, hc⟩ isSubtype_stop ?_)
  exact wpAny_pure (hQ _ hk)
end

abbrev zipMH1 (h : Heap) (l1 : Addr) : Heap := h.push { cls := .type "tuple_iterator", data := .fields #[.ref l1, .int 0 0] }
abbrev zipMH2 (h : Heap) (l1 l2 : Addr) : Heap := (zipMH1 h l1).push { cls := .type "list_iterator", data := .fields #[.ref l2, .int 0 0] }
abbrev zipMH3 (h : Heap) (l1 l2 : Addr) : Heap := (zipMH2 h l1 l2).push { cls := .type "tuple", data := .seq #[.ref h.objs.size, .ref (zipMH1 h l1).objs.size] }
abbrev zipMH4 (h : Heap) (l1 l2 : Addr) : Heap := (zipMH3 h l1 l2).push { cls := .type "tuple", data := .seq #[.none, .none] }
abbrev zipMH5 (h : Heap) (l1 l2 : Addr) : Heap := (zipMH4 h l1 l2).push { cls := .type "zip", data := .fields #[.none, .bool false, .bool false, .ref (zipMH2 h l1 l2).objs.size, .ref (zipMH3 h l1 l2).objs.size] }

theorem meets_zipM_new (l1 l2 : Addr) (xs ys : Array Value) :
    Meets (Builtin.«zip.__new__» ⟨[.type "zip", .ref l1, .ref l2], []⟩) (fun _ R s => s.heap.IsTuple l1 xs ∧ s.heap.IsList l2 ys ∧
      R (.ok (.ret (.ref (zipMH4 s.heap l1 l2).objs.size))) { s with heap := zipMH5 s.heap l1 l2 }) :=
  .of_wp fun prog w A R s h => by
    obtain ⟨hp, g, d, tk, os⟩ := s; obtain ⟨hl1, hl2, h⟩ := h
    have hsub := sub_zip
    have hL1 : Heap.IsTuple (Shared.heap ⟨hp, g, d, tk, os⟩) l1 xs := hl1
    have hL2 : Heap.IsList (Shared.heap ⟨hp.push { cls := .type "tuple_iterator", data := .fields #[.ref l1, .int 0 0] }, g, d, tk, os⟩) l2 ys := Heap.IsList.push hl2 _
    wp_walk using wpAny_pyIter_tuple hL1, wpAny_pyIter_list hL2
    exact ⟨_, rfl, h⟩

section
variable {prog : Program} {w : World} {A : Around} {E : Value → Shared → Prop} {s : Shared}

theorem call_zipM {l1 l2 : Addr} {xs ys : Array Value} {Q : Value → Shared → Prop} (hl1 : s.heap.IsTuple l1 xs) (hl2 : s.heap.IsList l2 ys)
    (h : ∀ h', IsZip h' (s.heap.objs.size + 4) (s.heap.objs.size + 2) (s.heap.objs.size + 3) .none → IsPair h' (s.heap.objs.size + 2) (.ref s.heap.objs.size) (.ref (s.heap.objs.size + 1)) →
      IsPair h' (s.heap.objs.size + 3) .none .none → h'.IsTupleIter s.heap.objs.size l1 0 → h'.IsListIter (s.heap.objs.size + 1) l2 0 → h'.objs.size = s.heap.objs.size + 5 →
      (∀ c o, s.heap.get? c = some o → h'.get? c = some o) → Q (.ref (s.heap.objs.size + 4)) { s with heap := h' }) :
    wpAny (model prog w) A (call (.type "zip") [.ref l1, .ref l2]) Q E s := by
  refine callType_new F.called_zip (by decide) (F.typeCall_zip_2 _ _) (F.newCall_zip_2 _ _) (fun obj => F.args_object_init_3 obj _ _) F.entry_zip_new
    (meets_zipM_new l1 l2 xs ys) ⟨hl1, hl2, ?_⟩
  have z1 : (zipMH1 s.heap l1).objs.size = s.heap.objs.size + 1 := Heap.size_push ..
  have z2 : (zipMH2 s.heap l1 l2).objs.size = s.heap.objs.size + 2 := by rw [Heap.size_push, z1]
  have z3 : (zipMH3 s.heap l1 l2).objs.size = s.heap.objs.size + 3 := by rw [Heap.size_push, z2]
  have z4 : (zipMH4 s.heap l1 l2).objs.size = s.heap.objs.size + 4 := by rw [Heap.size_push, z3]
  have z5 : (zipMH5 s.heap l1 l2).objs.size = s.heap.objs.size + 5 := by rw [Heap.size_push, z4]
  have g5 : (zipMH5 s.heap l1 l2).get? (zipMH4 s.heap l1 l2).objs.size = some _ := Heap.get?_push_size _ rfl
  have g4 : (zipMH5 s.heap l1 l2).get? (zipMH3 s.heap l1 l2).objs.size = some _ := Heap.get?_push_of_some _ (Heap.get?_push_size _ rfl)
  have g3 : (zipMH5 s.heap l1 l2).get? (zipMH2 s.heap l1 l2).objs.size = some _ := Heap.get?_push_of_some _ (Heap.get?_push_of_some _ (Heap.get?_push_size _ rfl))
  have g2 : (zipMH5 s.heap l1 l2).get? (zipMH1 s.heap l1).objs.size = some _ := Heap.get?_push_of_some _ (Heap.get?_push_of_some _ (Heap.get?_push_of_some _ (Heap.get?_push_size _ rfl)))
  have g1 : (zipMH5 s.heap l1 l2).get? s.heap.objs.size = some _ := Heap.get?_push_of_some _ (Heap.get?_push_of_some _ (Heap.get?_push_of_some _ (Heap.get?_push_of_some _ (Heap.get?_push_size _ rfl))))
  show _ ∧ _
  rw [z2, z3, z4] at g5
  rw [z1, z2] at g3
  rw [z3] at g4
  rw [z1] at g2
  rw [z4]
  exact ⟨⟨_, g5, rfl⟩, h _ g5 g3 g4 ⟨_, g1, rfl, rfl⟩ ⟨_, g2, rfl, rfl⟩ z5 fun c o x =>
    Heap.get?_push_of_some _ (Heap.get?_push_of_some _ (Heap.get?_push_of_some _ (Heap.get?_push_of_some _ (Heap.get?_push_of_some _ x))))⟩
end
/-- the tuple at a and the list at b as they stand at each turn, the items in new pairs -/
def ItzM (K : PySem.W.Frag) (a b : Addr) : It :=
  ⟨fun i H => ∃ (xs ys : List V) (x y : V), SqT K H a xs ∧ SqL K H b ys ∧ xs[i]? = some x ∧ ys[i]? = some y,
    fun i H v H' => ∃ T x y, v = .ref T ∧ H T = none ∧ H' = upd H T (.tup [x, y]) ∧ (∀ xs, SqT K H a xs → xs[i]? = some x) ∧ ∀ ys, SqL K H b ys → ys[i]? = some y,
    fun i H => ∃ xs ys : List V, SqT K H a xs ∧ SqL K H b ys ∧ (xs.length ≤ i ∨ ys.length ≤ i)⟩
theorem turn_zipM {P : Program} {w : World} {K : PySem.W.Frag} {elts : List Expr} {kk : Nat} {tpos : Pos} {a b z TI TO i1 i2 : Addr} (D : ZipApart z TI TO i1 i2 a b) :
    Turn P w K (.Tuple elts kk tpos) (ItzM K a b) [z, TI, TO, i1, i2] z (fun i h => IsZip h z TI TO .none ∧ IsPair h TI (.ref i1) (.ref i2) ∧ (∃ x y, IsPair h TO x y) ∧ h.IsTupleIter i1 a i ∧ h.IsListIter i2 b i) where
  mem := by simp
  obj := fun i h st c hc => by
    obtain ⟨hz, hTI, ⟨x, y, hTO⟩, ⟨o1, e1, _, d1⟩, ⟨o2, e2, _, d2⟩⟩ := st
    have e' : c = z ∨ c = TI ∨ c = TO ∨ c = i1 ∨ c = i2 := by simpa using hc
    rcases e' with q | q | q | q | q
    · rw [q]; exact ⟨_, hz, fun v q => nomatch q⟩
    · rw [q]; exact ⟨_, hTI, fun v q => nomatch q⟩
    · rw [q]; exact ⟨_, hTO, fun v q => nomatch q⟩
    · rw [q]; exact ⟨o1, e1, fun v q => by rw [d1] at q; cases q⟩
    · rw [q]; exact ⟨o2, e2, fun v q => by rw [d2] at q; cases q⟩
  keep := fun i h h' st k => by
    obtain ⟨hz, hTI, ⟨x, y, hTO⟩, h1, h2⟩ := st
    exact ⟨k z (by simp) _ hz, k TI (by simp) _ hTI, ⟨x, y, k TO (by simp) _ hTO⟩, h1.at fun o q => k i1 (by simp) o q, h2.at fun o q => k i2 (by simp) o q⟩
  item := by
    intro X hP hw hK hc i pins s σ H E I hf st hg
    subst hP hw hK
    obtain ⟨hz, hTI, ⟨x0, y0, hTO⟩, h1, h2⟩ := st
    obtain ⟨xs, ys, x, y, hqx, hqy, hx, hy⟩ := hg
    obtain ⟨its, rv, p, _⟩ := I.tuple hqx
    obtain ⟨its2, rv2, p2, _⟩ := I.list hqy
    obtain ⟨u, hu, ru⟩ := rv.get hx
    obtain ⟨u2, hu2, ru2⟩ := rv2.get hy
    have hzl : z < s.heap.objs.size := Heap.lt_size hz
    refine pyNext_zipM_item D hz hTI hTO h1 h2 p p2.isList (x := u) (y := u2) (by simpa using hu) (by simpa using hu2) fun h' z' TO' h1' h2' hT hsz hk => ?_
    refine ⟨_, rfl, wpAny_letOwnedTupleGo_zip (s := { s with heap := h' }) z' fun h'' z'' sb => ?_⟩
    have hT2 : h''.get? s.heap.objs.size = some { cls := .type "tuple", data := .seq #[u, u2] } := (sb.2 _ (Nat.ne_of_gt hzl)).trans hT
    have new : ObjOk X.prog X.w (upd H s.heap.objs.size (.tup [x, y])) h'' s.heap.objs.size (.tup [x, y]) :=
      ⟨by show 2 ≤ sizeLine; decide, [u, u2], .cons ru (.cons ru2 .nil), ⟨_, hT2, rfl, _, rfl⟩⟩
    have I1 : Inv X pins σ (upd H s.heap.objs.size (.tup [x, y])) { s with heap := h'' } :=
      I.turnedNew (t' := s.toks) (ch := [z, TI, TO, i1, i2]) (fun c o hb q => (sb.2 c (fun q' => hb (by simp [q']))).trans (hk c o (fun q' => hb (by simp [q'])) (fun q' => hb (by simp [q'])) (fun q' => hb (by simp [q'])) (fun q' => hb (by simp [q'])) q)) hf (Nat.le_refl _) new
    refine ⟨.ref s.heap.objs.size, _, I1, rfl, ⟨_, x, y, rfl, I.hok.fresh (Nat.le_refl _), rfl, fun l hl => by rw [I.tuple_inj hl hqx]; exact hx, fun l hl => by rw [I.list_inj hl hqy]; exact hy⟩, ⟨z'', ?_, ⟨u, u2, ?_⟩, ?_, ?_⟩, fun c hcm => ?_⟩
    · exact (sb.2 _ D.TIz).trans (hk _ _ D.TIz D.TITO D.TIi1 D.TIi2 hTI)
    · exact (sb.2 _ D.TOz).trans TO'
    · exact h1'.at fun o q => (sb.2 _ D.i1z).trans q
    · exact h2'.at fun o q => (sb.2 _ D.i2z).trans q
    · have hlt : c < s.heap.objs.size := by
        have e' : c = z ∨ c = TI ∨ c = TO ∨ c = i1 ∨ c = i2 := by simpa using hcm
        rcases e' with q | q | q | q | q
        · rw [q]; exact hzl
        · rw [q]; exact Heap.lt_size hTI
        · rw [q]; exact Heap.lt_size hTO
        · rw [q]; obtain ⟨_, e1, _⟩ := h1; exact Heap.lt_size e1
        · rw [q]; obtain ⟨_, e2, _⟩ := h2; exact Heap.lt_size e2
      rw [upd_ne (Nat.ne_of_lt hlt)]
      exact (hf c hcm).1
  done := by
    intro X hP hw hK hc i pins s σ H E I hf st hg
    subst hP hw hK
    obtain ⟨hz, hTI, ⟨x0, y0, hTO⟩, h1, h2⟩ := st
    obtain ⟨xs, ys, hqx, hqy, hend⟩ := hg
    obtain ⟨its, rv, p, _⟩ := I.tuple hqx
    obtain ⟨its2, rv2, p2, _⟩ := I.list hqy
    have l1 := rv.length
    have l2 := rv2.length
    have he : its.toArray[i]? = none ∨ its2.toArray[i]? = none := by
      rcases hend with q | q
      · exact .inl (by simp; omega)
      · exact .inr (by simp; omega)
    exact pyNext_zipM_end (I.ok.hd hc) D hz hTI hTO h1 h2 p p2.isList he fun h' hk => ⟨rfl, I.turnedL (t' := s.toks) (ch := [z, TI, TO, i1, i2]) (fun c o hb q =>
      hk c o (fun q' => hb (by simp [q'])) (fun q' => hb (by simp [q'])) (fun q' => hb (by simp [q'])) (fun q' => hb (by simp [q'])) q) hf⟩
  self := fun A i s Q E st h => wpAny_pyIter_zip st.1 h

def iZipM (K : PySem.W.Frag) (ta : TA) : TI := fun σ H R => ta σ H fun vs H1 => ∃ a b xs ys, vs = [.ref a, .ref b] ∧ SqT K H1 a xs ∧ SqL K H1 b ys ∧ R (ItzM K a b) H1
theorem pi_zipM {X : Cx} {e e2 : Expr} {ta : TA} {p pos tpos : Pos} {elts : List Expr} {kk : Nat} (hg : Gl X "zip") (hm : X.mg "zip" = none) (ha : PA X [e, e2] ta)
    (hs : starEach [e, e2] X.env = (false, eval e X.env) :: starEach [e2] X.env := by rfl) (hpl : (backTo pos (starEach [e2] X.env)).any (·.1) = false := by rfl) :
    PI X (.Tuple elts kk tpos) (.Call (.Name "zip" p) [e, e2] [] pos) (iZipM X.K ta) := by
  refine ⟨fun pins s σ H R I h => ?_⟩
  refine Call_ (ld_blt I hg hm PyProof.Rows.boot_zip (PyProof.Rows.callWith_type1 (thn (ha.run pos pins s σ H _ I h) fun us s1 ⟨vs, H1, I1, r1, q1⟩ => ?_) hs hpl))
  obtain ⟨a, b, xs, ys, ex, q1⟩ := q1
  subst ex
  cases r1 with
  | cons r rr =>
    cases rr with
    | cons r' rr =>
      cases rr
      cases r
      cases r'
      have fresh5 : ∀ c, c ∈ [s1.heap.objs.size + 4, s1.heap.objs.size + 2, s1.heap.objs.size + 3, s1.heap.objs.size, s1.heap.objs.size + 1] → FpOk X pins H1 c := fun c hcm => by
        have e' : c = s1.heap.objs.size + 4 ∨ c = s1.heap.objs.size + 2 ∨ c = s1.heap.objs.size + 3 ∨ c = s1.heap.objs.size ∨ c = s1.heap.objs.size + 1 := by simpa using hcm
        have hle : s1.heap.objs.size ≤ c := by
          rcases e' with z | z | z | z | z
          · rw [z]; exact Nat.le_add_right _ _
          · rw [z]; exact Nat.le_add_right _ _
          · rw [z]; exact Nat.le_add_right _ _
          · rw [z]; exact Nat.le_refl _
          · rw [z]; exact Nat.le_add_right _ _
        exact I1.fpOk hle (I1.hok.fresh hle)
      obtain ⟨hqx, hqy, q⟩ := q1
      obtain ⟨its, rv, p1, _⟩ := I1.tuple hqx
      obtain ⟨its2, rv2, p2, _⟩ := I1.list hqy
      obtain ⟨o1, ho1, _⟩ := id p1
      refine call_zipM (show s1.heap.IsTuple a its.toArray from p1) p2.isList fun h' hz hTI hTO h1 h2 hsz hk => wpAny_pyIter_zip hz ?_
      have I2 : Inv X pins σ H1 { s1 with heap := h' } := I1.kept (t' := s1.toks) hk
      exact ⟨s1.heap.objs.size + 4, [s1.heap.objs.size + 4, s1.heap.objs.size + 2, s1.heap.objs.size + 3, s1.heap.objs.size, s1.heap.objs.size + 1], _, _, H1, rfl, I2, turn_zipM (PySem.W.ktu_apart s1.heap.objs.size a b (Heap.lt_size ho1) p2.lt), ⟨hz, hTI, ⟨_, _, hTO⟩, h1, h2⟩, fresh5, q⟩

/-- a loop over zip of a tuple and a list of one length -/
theorem for_zipM {K : PySem.W.Frag} {a b : Addr} {xs ys : List V} {g : TG} {tb : TS} {D : Ends} {σ : L2.St} {H : Hp} (hl : xs.length = ys.length) (Pv : Nat → L2.St → Hp → Prop) (h0 : Pv 0 σ H) (hq : ∀ i σ H, Pv i σ H → SqT K H a xs ∧ SqL K H b ys)
    (hs : ∀ (i : Nat) (x y : V) (T : Addr) (σ : L2.St) (H : Hp), xs[i]? = some x → ys[i]? = some y → Pv i σ H → H T = none → g (.ref T) σ (upd H T (.tup [x, y])) fun σ2 H2 => tb { D with nx := Pv (i + 1), ct := Pv (i + 1), bk := D.nx } σ2 H2) (hd : ∀ σ H, Pv xs.length σ H → D.nx σ H) :
    ∃ W : Nat → Nat → L2.St → Hp → Prop, (∃ m, W 0 m σ H) ∧ ∀ i m σ H, W i m σ H →
      ((ItzM K a b).stop i H ∧ D.nx σ H) ∨ ((ItzM K a b).go i H ∧ ∃ N : L2.St → Hp → Prop, (∀ σ' H', N σ' H' → ∃ m', m' < m ∧ W (i + 1) m' σ' H') ∧ ∀ v H', (ItzM K a b).yld i H v H' → g v σ H' fun σ2 H2 => tb { D with nx := N, ct := N, bk := D.nx } σ2 H2) := by
  refine ⟨fun i m σ H => m = xs.length - i ∧ i ≤ xs.length ∧ Pv i σ H, ⟨xs.length, rfl, Nat.zero_le _, h0⟩, ?_⟩
  rintro i m σ H ⟨rfl, hi, p⟩
  obtain ⟨qx, qy⟩ := hq i σ H p
  by_cases hlt : i < xs.length
  · have hx : xs[i]? = some xs[i] := List.getElem?_eq_getElem hlt
    have hlt2 : i < ys.length := by omega
    have hy : ys[i]? = some ys[i] := List.getElem?_eq_getElem hlt2
    refine .inr ⟨⟨xs, ys, _, _, qx, qy, hx, hy⟩, Pv (i + 1), fun σ' H' p' => ⟨xs.length - (i + 1), by omega, rfl, hlt, p'⟩, fun v H' y => ?_⟩
    obtain ⟨T, x', y', rfl, hT, rfl, f1, f2⟩ := y
    exact hs i x' y' T σ H (f1 xs qx) (f2 ys qy) p hT
  · have e : i = xs.length := by omega
    subst e
    exact .inl ⟨⟨xs, ys, qx, qy, Or.inl (Nat.le_refl _)⟩, hd σ H p⟩

end RZ

set_option Elab.async false
set_option linter.all false
set_option maxRecDepth 100000
set_option maxHeartbeats 4000000
namespace L2
open PySem PySem.Spec PyProof.Rows
/-! ### an own __eq__ asked by !=, an own __len__, list(d.values()) -/
/-- a name of a written namespace -/
theorem ns_at {K : PySem.W.Frag} {h : Heap} {N : Addr} {mN : Str → Option Value} {n : Str} {v : Value} (X : K.In h) (G : h.Ns N mN) (e : PySem.W.nsIn K N n = some (some v)) : mN n = some v := by
  obtain ⟨o, es, ep, ho, hd, _, hf⟩ := G
  unfold PySem.W.nsIn at e
  split at e
  case h_2 => cases e
  case h_1 c d es' n' sl q =>
    have z := X _ _ q
    rw [ho] at z
    cases z
    cases hd
    split at e
    case h_2 => split at e <;> cases e
    case h_1 en he =>
      cases e
      rw [← hf]
      unfold nsFind findBy
      rw [← Array.find?_toList, he]
      rfl
/-- a plain class with an own __eq__ and no __ne__ -/
structure NeC (K : PySem.W.Frag) (C f : Addr) : Prop where
  ex : ∃ (nm q : Str) (N : Addr) (bs : List Value) (hd : Bool) (sn : List Str) (sub : List Value) (ab : Bool) (col : Option Bool) (dd : Option Addr) (k0 k1 k2 k3 k5 : Option Value) (nid : String) (fo : Obj),
    K.lookup C = some (excClassObj nm q C N bs [.type "object"] hd sn sub ab col dd k0 k1 k2 k3 k5 nid) ∧ PySem.W.nsOkIn K N = true ∧ PySem.W.nsIn K N "__eq__" = some (some (.ref f)) ∧ PySem.W.nsIn K N "__ne__" = some none ∧ K.lookup f = some fo ∧ fo.cls = .type "function"
theorem obj_eq : ∃ y, typeLookup (.type "object") "__eq__" = pure y := ⟨_, PySem.F.cmp_object.eq.lookup⟩
section
variable {X : Cx} {n : Nat} {CX : CXT} {C f : Addr} {fd : FuncData} {ps : List Str} {R : Addr → Addr → Hp → Prop} {E : XK}
theorem op_neG (F : FnOk X.prog X.w X.K X.mg X.base CX n f fd ps (spEq R)) (Z : NeC X.K C f) (hb : Binds X.K fd ps []) (hx : Passes CX X E) (hr : Room (n + 2) X.A) :
    OpR X (compareOp .NotEq) (fun x y H Q => DIns C R x y H ∧ ∀ H', Ext H H' → Q (.bl false) H') := by
  intro pins s σ H x y v u Q I rx ry hq
  obtain ⟨⟨a, b, dx, dy, fs, gs, rfl, rfl, ha, hb', hR⟩, q⟩ := hq
  cases rx
  cases ry
  obtain ⟨mA, J, _⟩ := ins_get I.hok ha
  obtain ⟨mB, J', _⟩ := ins_get I.hok hb'
  obtain ⟨od, J, _⟩ := J.look
  obtain ⟨od', J', _⟩ := J'.look
  obtain ⟨nm, qn, N, bs, hd, sn, sub, ab, col, dd, k0, k1, k2, k3, k5, nid, fo, z1, z2, z3, z4, z5, z6⟩ := Z.ex
  have XK := I.kIn
  have Gn := Heap.Ns.of_isNs (PySem.W.isNs_of_in XK z2)
  obtain ⟨y0, hy0⟩ := obj_eq
  have Y : s.heap.OwnEqNoNe a C f "object" [.type "object"] := ⟨_, fo, nm, qn, N, bs, hd, sn, sub, ab, col, dd, k0, k1, k2, k3, k5, nid, _, y0, J.at_, J.cls, XK _ _ z1, Gn, ns_at XK Gn z3, XK _ _ z5, z6, PySem.F.mro_object, hy0, PySem.W.ns_none_of XK Gn z4⟩
  obtain ⟨hp, gg, dw, tk, os⟩ := s
  refine compareOp_ne_ownEq PySem.F.cmp_object Y J'.at_ J'.cls hr.in1.units0 ?_
  have hsp : spEq R [.ref a, .ref b] H (fun v H' => v = .bl true ∧ Ext H H') E := ⟨a, b, rfl, hR, fun H' e => ⟨rfl, e⟩⟩
  have e0 : Env0 X.prog X.w X.K X.mg X.base X.A.in1 X.stack ⟨hp, gg, dw, tk, os⟩ H := by
    have e := I.env0
    exact ⟨e.frames, e.mod, e.bs, e.bsz, e.funs, e.frf, e.hok, e.bare⟩
  have hl := F.len _ _ _ _ hsp
  have r2 : Vals [V.ref a, V.ref b] [Value.ref a, Value.ref b] := .cons rfl (.cons rfl .nil)
  refine wpAny_call (codeAny_mono (F.run X.A.in1 X.stack _ H ⟨[.ref a, .ref b], []⟩ [.ref a, .ref b] [.ref a, .ref b] _ E (hr.in1.mono (by omega)) e0 (by
    have := hb ⟨hp, gg, dw, tk, os⟩ [.ref a, .ref b] I.kIn (by simpa using hl)
    simpa using this) r2 hsp) fun r s' hq => ?_)
  cases r with
  | error e => exact hx pins σ H _ e s' I hq
  | ok fl =>
    cases fl with
    | ret w =>
      obtain ⟨z, H', I', rz, ez, ex⟩ := I.after hq
      subst ez
      cases rz
      exact ⟨true, rfl, .bl false, H', I', rfl, q H' ex⟩
    | next => exact False.elim hq
    | brk => exact False.elim hq
    | cont => exact False.elim hq
/-- len(o) by an own __len__ -/
theorem call_lenI {sp : Sp} (F : FnOk X.prog X.w X.K X.mg X.base CX n f fd ["self"] sp) (hs : PySem.W.findIn X.K (.ref C) "__len__" = some (some (.ref f))) (hf : PySem.W.isFn X.K (.ref f) = true) (hb : Binds X.K fd ["self"] []) (hx : Passes CX X E) (hr : Room (n + 1) X.A) :
    CallR X (.builtin "len") (fun xs H Q => ∃ a dx fs, xs = [.ref a] ∧ H a = some (.ins C dx fs) ∧ sp [.ref a] H (fun v H' => ∃ m : Nat, v = .int m ∧ m < 2 ^ 62 ∧ Q (.int m) H') E) := by
  intro pins s σ H xs us Q I r h
  obtain ⟨a, dx, fs, rfl, ha, h⟩ := h
  rw [Vals.ref1 r]
  obtain ⟨mA, J, _⟩ := ins_get I.hok ha
  obtain ⟨od, J, _⟩ := J.look
  obtain ⟨m, hF⟩ := I.fr
  refine PySem.W.len_K hF I.ok.mod.kin J hs hf ?_
  have e0 : Env0 X.prog X.w X.K X.mg X.base X.A.in1 X.stack s H := by
    have e := I.env0
    exact ⟨e.frames, e.mod, e.bs, e.bsz, e.funs, e.frf, e.hok, e.bare⟩
  have hl := F.len _ _ _ _ h
  refine wpAny_call (codeAny_mono (F.run X.A.in1 X.stack _ H ⟨[.ref a], []⟩ [.ref a] [.ref a] _ E (hr.in1.mono (by omega)) e0 (by
    have := hb s [.ref a] I.kIn (by simpa using hl)
    simpa using this) (.cons rfl .nil) h) fun r s' hq => ?_)
  cases r with
  | error e => exact hx pins σ H _ e s' I hq
  | ok fl =>
    cases fl with
    | ret w =>
      obtain ⟨z, H', I', rz, m, ez, hm, q⟩ := I.after hq
      subst ez
      obtain ⟨t, rfl⟩ := rz
      exact ⟨⟨Int.natCast_nonneg m, by omega⟩, .int m, H', I'.tok _, ⟨_, rfl⟩, q⟩
    | next => exact False.elim hq
    | brk => exact False.elim hq
    | cont => exact False.elim hq
/-- the same object -/
def DOne : Eqv := fun x y _ => x = y ∧ ∃ a, x = .ref a
theorem mon_one : Mon DOne := fun _ _ _ _ _ d => d
theorem eqG_one : EqG X 0 DOne := by
  intro A pins s σ H x y u v sb I rx ry d
  obtain ⟨rfl, a, rfl⟩ := d
  cases rx
  cases ry
  exact SeqAt.EqAt.same (A := A) (s := s) (.ref a) X.prog X.w X.xe _ ⟨rfl, H, I, Ext.rfl'⟩
end
section
variable {X : Cx} {o : Expr} {p pos apos mpos : Pos} {td : TE}
/-- list(o.values()) of a dict -/
def tListVals (td : TE) : TE := fun σ H Q => td σ H fun x H1 => ∃ a kvs, x = V.ref a ∧ H1 a = some (.dK kvs) ∧ ∀ l, H1 l = none → Q (.ref l) (upd H1 l (.lst (kvs.map (·.2))))
theorem vals_vals {kvs : List (Key × V)} {vs : List (Key × Value)} (r : KV kvs vs) {us : List Value} (hn : us.length = vs.length) (hu : ∀ (j : Nat) v, us[j]? = some v → ∃ k, vs[j]? = some (k, v)) : Vals (kvs.map (·.2)) us := by
  have e : us = vs.map (·.2) := PySem.W.kdl_vals_eq us hn hu
  subst e
  unfold KV at r
  clear hn hu
  induction r with
  | nil => exact .nil
  | cons h t ih => exact .cons h.2 ih
theorem pe_listVals (hcalm : X.calm = true) (hg : Gl X "list") (hm : X.mg "list" = none) (hd : PE X o td) (hbase : attributeBase o "values" X.env (eval o X.env) = eval o X.env := by rfl) (hline : (apos.endLine == mpos.line) = true := by rfl)
    (hse : starEach [Expr.Call (.Attribute o "values" apos) [] [] mpos] X.env = [(false, eval (Expr.Call (.Attribute o "values" apos) [] [] mpos) X.env)] := by rfl) :
    PE X (.Call (.Name "list" p) [.Call (.Attribute o "values" apos) [] [] mpos] [] pos) (tListVals td) := by
  refine ⟨fun pins s σ H Q I h => ?_⟩
  refine wpAny_Call_Name_kw (ld_blt I hg hm (u := .type "list") (by first | rfl | decide +kernel) ?_ (by first | decide +kernel | decide) (by first | decide +kernel | decide))
  rw [hse]
  refine PySem.callWith_type1 (wpAny_Call_method0_late hbase hline (thn (hd.run pins s σ H _ I h) fun v s1 ⟨x, H1, I1, r1, a, kvs, ex, ha, q⟩ => ?_))
  subst ex
  obtain rfl : v = Value.ref a := r1
  obtain ⟨hz, hsys, vs, rel, dof⟩ := dk_of I1.hok ha
  obtain ⟨ep, dat⟩ := dof.dictAt
  obtain ⟨ob, es, ho, ex, _⟩ := id dat
  refine ⟨"dict", "dict.values", F.plainAttrs_dict, F.slot_dict_values, F.type_dict_values, ⟨ob, ho, ex.1⟩, fun b e => ?_, Calls.callWith_builtin rfl (PySem.evalArgs_none ?_)⟩
  · cases e
    exact ⟨ob, ho, ex.2.1⟩
  refine call_meetsIn F.slot_dict_values ⟨ob, ho, ex.1⟩ F.entry_dict_values (F.args_dict_values_1 _) (meets_dict_values (mixKind X.prog X.w) a hsys) ⟨⟨vs, dof⟩, ?_⟩
  have up : ∀ b u, s1.heap.get? b = some u → (s1.heap.push { cls := .type "dict_values", data := .fields #[.ref a] }).get? b = some u := fun b u e => Heap.get?_push_of_some _ e
  have hlen : vs.length = kvs.length := (KV.length rel).symm
  refine PySem.W.kdl_call (PySem.W.kdl_values (knd := mixKind X.prog X.w) (kvs := vs) (ep := ep)) (I1.ok.hd hcalm) ⟨⟨_, Heap.get?_push_size _ rfl, rfl, rfl⟩, dat.keep up⟩ (by rw [hlen]; exact hz) fun h' tk acc c' hk hD hacc => ?_
  have hv : Vals (kvs.map (·.2)) acc.toList := vals_vals rel (by rw [Array.length_toList]; exact hacc.1) fun j v e => hacc.2 j v (by rw [← Array.getElem?_toList]; exact e)
  refine ⟨.ref _, upd H1 _ (.lst (kvs.map (·.2))), I1.laid (t' := tk) (fun b u e => hk b u (up b u e)) (Nat.le_of_lt (Nat.lt_of_lt_of_le (Nat.lt_succ_self _) (by rw [Heap.size_push]; exact Nat.le_refl _)))
    (show ObjOk X.prog X.w _ _ _ (.lst (kvs.map (·.2))) from ⟨by rw [List.length_map]; exact hz, acc.toList, c', hv, by rw [Array.toArray_toList]; exact hD⟩), rfl, q _ (I1.hok.fresh (Nat.le_of_lt (Nat.lt_of_lt_of_le (Nat.lt_succ_self _) (by rw [Heap.size_push]; exact Nat.le_refl _))))⟩
end
end L2

set_option Elab.async false
set_option linter.all false
set_option maxRecDepth 100000
set_option maxHeartbeats 4000000
namespace L2
open PySem PySem.Spec PyProof.Rows
/-! ### a, b, c = xs of a list -/
section
variable {prog : Program} {w : World} {A : Around} {E : Value → Shared → Prop}
theorem drawL {it l : Addr} {items : Array Value} (ne : l ≠ it) (n : Nat) : ∀ (i : Nat) (s : Shared) (Q : List Value → Shared → Prop), s.heap.IsListIter it l i → s.heap.IsList l items → i + n ≤ items.size →
    (∀ g, g.IsListIter it l (i + n) → Heap.SameBut it s.heap g → Q ((items.toList.drop i).take n) { s with heap := g }) → wpAny (model prog w) A (draw (.ref it) n) Q E s := by
  induction n with
  | zero =>
    intro i s Q hi _ _ q
    have q := q s.heap hi (Heap.SameBut.refl ..)
    rw [List.take_zero] at q
    exact (show wpAny _ _ (pure []) Q E s from wpAny_pure q)
  | succ n ih =>
    intro i s Q hi hl le q
    have lt : i < items.size := by omega
    refine (show wpAny _ _ (pyNext (.ref it) >>= _) Q E s from wpAny_bind (wpAny_pyNext_list_item hi hl (x := items[i]) (by simp [lt]) fun g1 i1 s1 => wpAny_bind (wpAny_holding (ih (i + 1) _ _ i1 (hl.extBut s1.extBut ne) (by omega) fun g2 i2 s2 => wpAny_pure ?_))))
    have q := q g2 (by rw [show i + (n + 1) = i + 1 + n by omega]; exact i2) (s1.trans s2)
    rw [List.drop_eq_getElem_cons (by simpa using lt), List.take_succ_cons] at q
    simpa using q
theorem unpL {l : Addr} {items : Array Value} {s : Shared} {Q : List Value → Shared → Prop} (hh : A.handled = none) (hl : s.heap.IsList l items)
    (q : ∀ g, Heap.ExtBut s.heap.objs.size s.heap g → Q items.toList { s with heap := g }) : wpAny (model prog w) A (unpackItems (.ref l) items.size none) Q E s := by
  have ne : l ≠ s.heap.objs.size := by
    obtain ⟨o, ho, _⟩ := hl
    exact Nat.ne_of_lt (Heap.lt_size ho)
  unfold unpackItems
  refine wpAny_bind ?_
  unfold notIterableAtAll
  refine wpAny_bind (wpAny_specialOf hl.typeIs slot_list_iter.lookup (wpAny_pure ?_))
  simp only [Bool.false_eq_true, if_false]
  refine wpAny_bind (wpAny_holding (wpAny_pyIter_list hl (wpAny_bind (wpAny_holding (drawL ne items.size 0 _ _ ⟨_, Heap.get?_push_size _ rfl, rfl, rfl⟩ (hl.push _) (by omega) fun g1 i1 s1 => ?_)))))
  rw [List.drop_zero, List.take_of_length_le (by simp), if_neg (by simp)]
  refine wpAny_bind (wpAny_holding (wpAny_pyNext_list_end hh i1 ((hl.push _).extBut s1.extBut ne) (by simp) fun g2 e2 => ?_))
  simp only [Option.isSome_none, Bool.false_eq_true, if_false]
  exact wpAny_pure (q g2 fun b o hb e => e2 b o hb (s1.extBut b o hb (Heap.get?_push_of_some _ e)))
end
section
variable {X : Cx} {pos : Pos}
/-- a, b, c = xs: a list of as many items -/
def gTupL (n : Nat) (t : TGs) : TG := fun v σ H Q => ∃ a xs, v = .ref a ∧ H a = some (.lst xs) ∧ xs.length = n ∧ t xs σ H Q
theorem pg_tupL {es : List Expr} {k : Nat} {t : TGs} {n : Nat} (hc : X.calm = true) (h : PGs X es t) (hn : (assignEach es X.env).length = n := by rfl) (hst : (assignEach es X.env).findIdx? (·.1) = none := by rfl) : PG X (.Tuple es k pos) (gTupL n t) := by
  refine ⟨fun pins s σ H v u Q I r hw => ?_⟩
  obtain ⟨a, xs, e1, ha, hl, hw⟩ := hw
  subst e1
  cases r
  obtain ⟨z, its, c, rv, e⟩ := I.hok a _ ha
  have isl : s.heap.IsList a its.toArray := ⟨_, e, rfl, c, rfl⟩
  rw [assign_Tuple]
  refine wpAny_bind (wpAny_standAt ?_)
  unfold unpack
  rw [hst, show (assignEach es X.env).length = its.toArray.size by rw [hn, ← hl, rv.length, List.size_toArray]]
  refine wpAny_bind (wpAny_holding (unpL (I.ok.hd hc) isl fun g hx => ?_))
  have I1 : Inv X pins σ H { s with heap := g } := I.kept (t' := s.toks) fun b o e => hx b o (Nat.ne_of_lt (Heap.lt_size e)) e
  exact h.run pins _ σ H xs _ Q I1 (by simpa using rv) hw
end
/-! ### dicts compared that may differ -/
/-- the entries of ks are in ls -/
def eqD {κ : Type} [DecidableEq κ] (ls ks : List (κ × V)) : Bool := ks.all fun p => match valV ls p.1 with
  | some v => eqV p.2 v
  | none => false
theorem hits_any {A : Around} {s : Shared} {ls : List (Key × V)} {vb : List (Key × Value)} (rb : KV ls vb) (fl : ∀ k v, valV ls k = some v → flatV v = true) {ks : List (Key × V)} {va : List (Key × Value)} (ra : KV ks va) (fk : ∀ p ∈ ks, flatV p.2 = true) :
    PySem.W.KeqHits A s vb va (eqD ls ks) := by
  unfold KV at ra
  induction ra with
  | nil => exact .nil
  | @cons p q ps qs h t ih =>
    obtain ⟨h1, h2⟩ := h
    obtain ⟨k, v⟩ := q
    have h1 : p.1 = k := h1
    have h2 : RelV p.2 v := h2
    have st : eqD ls (p :: ps) = ((match valV ls p.1 with
      | some v => eqV p.2 v
      | none => false) && eqD ls ps) := rfl
    have rr := rb.val p.1
    rw [st]
    cases e : valV ls p.1 with
    | none =>
      rw [e] at rr
      have rr := rr.none_of
      rw [h1] at rr
      exact .miss rr
    | some y =>
      rw [e] at rr
      obtain ⟨u, hu, ru⟩ := rr.some_of
      rw [h1] at hu
      exact .hit hu (eqAt_V h2 ru (fk p List.mem_cons_self) (fl _ _ e)) (ih fun z hz => fk z (List.mem_cons_of_mem _ hz))
section
variable {X : Cx}
def rEqDB : R2 := fun x y H Q => ∃ a b ks ls, x = .ref a ∧ y = .ref b ∧ H a = some (.dK ks) ∧ H b = some (.dK ls) ∧ (∀ p ∈ ks, flatV p.2 = true) ∧ (∀ k v, valV ls k = some v → flatV v = true) ∧ Q (.bl (decide (ks.length = ls.length) && eqD ls ks)) H
theorem op_eq_dictB (hu : X.A.units < cLine) : OpR X (compareOp .Eq) rEqDB := by
  intro pins s σ H x y v u Q I rx ry h
  obtain ⟨a, b, ks, ls, rfl, rfl, ea, eb, fk, fl, q⟩ := h
  obtain rfl : v = Value.ref a := rx
  obtain rfl : u = Value.ref b := ry
  obtain ⟨_, ya, va, ra, da⟩ := (show ObjOk X.prog X.w H s.heap a (.dK ks) from I.hok a _ ea)
  obtain ⟨_, yb, vb, rb, db⟩ := (show ObjOk X.prog X.w H s.heap b (.dK ls) from I.hok b _ eb)
  refine PySem.W.keq_eq (knd := mixKind X.prog X.w) (r := eqD ls ks) ya yb da db hu (fun _ => hits_any rb fl ra fk) (fin_bl I q ?_)
  rw [ra.length, rb.length]
  rfl
end
/-! ### != by an own __eq__, whatever it says -/
section
variable {X : Cx} {n : Nat} {CX : CXT} {C f : Addr} {fd : FuncData} {ps : List Str} {E : XK} {sp : Sp}
theorem op_neV (F : FnOk X.prog X.w X.K X.mg X.base CX n f fd ps sp) (Z : NeC X.K C f) (hb : Binds X.K fd ps []) (hx : Passes CX X E) (hr : Room (n + 2) X.A) :
    OpR X (compareOp .NotEq) (fun x y H Q => ∃ a b dx dy fs gs, x = .ref a ∧ y = .ref b ∧ H a = some (.ins C dx fs) ∧ H b = some (.ins C dy gs) ∧ sp [.ref a, .ref b] H (fun v H' => ∃ r, v = .bl r ∧ Q (.bl (!r)) H') E) := by
  intro pins s σ H x y v u Q I rx ry hq
  obtain ⟨a, b, dx, dy, fs, gs, rfl, rfl, ha, hb', hsp⟩ := hq
  cases rx
  cases ry
  obtain ⟨mA, J, _⟩ := ins_get I.hok ha
  obtain ⟨mB, J', _⟩ := ins_get I.hok hb'
  obtain ⟨od, J, _⟩ := J.look
  obtain ⟨od', J', _⟩ := J'.look
  obtain ⟨nm, qn, N, bs, hd, sn, sub, ab, col, dd, k0, k1, k2, k3, k5, nid, fo, z1, z2, z3, z4, z5, z6⟩ := Z.ex
  have XK := I.kIn
  have Gn := Heap.Ns.of_isNs (PySem.W.isNs_of_in XK z2)
  obtain ⟨y0, hy0⟩ := obj_eq
  have Y : s.heap.OwnEqNoNe a C f "object" [.type "object"] := ⟨_, fo, nm, qn, N, bs, hd, sn, sub, ab, col, dd, k0, k1, k2, k3, k5, nid, _, y0, J.at_, J.cls, XK _ _ z1, Gn, ns_at XK Gn z3, XK _ _ z5, z6, PySem.F.mro_object, hy0, PySem.W.ns_none_of XK Gn z4⟩
  obtain ⟨hp, gg, dw, tk, os⟩ := s
  refine compareOp_ne_ownEq PySem.F.cmp_object Y J'.at_ J'.cls hr.in1.units0 ?_
  have e0 : Env0 X.prog X.w X.K X.mg X.base X.A.in1 X.stack ⟨hp, gg, dw, tk, os⟩ H := by
    have e := I.env0
    exact ⟨e.frames, e.mod, e.bs, e.bsz, e.funs, e.frf, e.hok, e.bare⟩
  have hl := F.len _ _ _ _ hsp
  have r2 : Vals [V.ref a, V.ref b] [Value.ref a, Value.ref b] := .cons rfl (.cons rfl .nil)
  refine wpAny_call (codeAny_mono (F.run X.A.in1 X.stack _ H ⟨[.ref a, .ref b], []⟩ [.ref a, .ref b] [.ref a, .ref b] _ E (hr.in1.mono (by omega)) e0 (by
    have := hb ⟨hp, gg, dw, tk, os⟩ [.ref a, .ref b] I.kIn (by simpa using hl)
    simpa using this) r2 hsp) fun r s' hq => ?_)
  cases r with
  | error e => exact hx pins σ H _ e s' I hq
  | ok fl =>
    cases fl with
    | ret w =>
      obtain ⟨z, H', I', rz, r0, ez, q⟩ := I.after hq
      subst ez
      cases rz
      exact ⟨r0, rfl, .bl (!r0), H', I', rfl, q⟩
    | next => exact False.elim hq
    | brk => exact False.elim hq
    | cont => exact False.elim hq
end
end L2

set_option Elab.async false
set_option linter.all false
set_option maxRecDepth 100000
set_option maxHeartbeats 4000000
namespace Ash
open PySem PySem.Spec PyProof.Rows L2
open C8 (pss_cut)
open C8 (pss_cut)
def spBookEqV (CB : Addr) : Sp := fun vs H Q _ => ∃ (a b : Addr) (L M : List (Str × Int)), vs = [.ref a, .ref b] ∧ BookAt CB H a L ∧ BookAt CB H b M ∧
  (((∀ z, L.lookup z = M.lookup z) ∧ ∀ H', Ext H H' → Q (.bl true) H') ∨ ((∃ z n m, L.lookup z = some n ∧ M.lookup z = some m ∧ n ≠ m) ∧ ∀ H', Ext H H' → Q (.bl false) H'))
/-- the pairs of a book's dict -/
theorem lk_val : ∀ {L : List (Str × Int)} (z : Str), valV (LK L) (Sum.inr z : Key) = (L.lookup z).map V.int
  | [], z => rfl
  | (y, n) :: r, z => by
    show valV ((Sum.inr y, V.int n) :: LK r) (Sum.inr z) = _
    rw [List.lookup_cons]
    by_cases c : z = y
    · subst c
      rw [beq_self_eq_true]
      exact valV_pos (p := ((Sum.inr z : Key), V.int n)) rfl
    · rw [beq_false_of_ne c]
      rw [valV_neg (p := ((Sum.inr y : Key), V.int n)) (fun e => c (Sum.inr.inj e).symm)]
      exact lk_val z
theorem lk_mem : ∀ {L : List (Str × Int)} {z : Str} {n : Int}, (L.map (·.1)).Nodup → (z, n) ∈ L → L.lookup z = some n
  | [], _, _, _, h => nomatch h
  | (y, m) :: r, z, n, nd, h => by
    rw [List.lookup_cons]
    rw [List.map_cons, List.nodup_cons] at nd
    rcases List.mem_cons.mp h with e | h
    · cases e
      rw [beq_self_eq_true]
    · have c : z ≠ y := fun e => nd.1 (e ▸ List.mem_map.mpr ⟨(z, n), h, rfl⟩)
      rw [beq_false_of_ne c]
      exact lk_mem nd.2 h
theorem lk_has : ∀ {L : List (Str × Int)} {z : Str} {n : Int}, L.lookup z = some n → (z, n) ∈ L
  | [], _, _, h => by cases h
  | (y, m) :: r, z, n, h => by
    rw [List.lookup_cons] at h
    by_cases c : z = y
    · subst c
      rw [beq_self_eq_true] at h
      cases h
      exact List.mem_cons_self
    · rw [beq_false_of_ne c] at h
      exact List.mem_cons_of_mem _ (lk_has h)
theorem lk_sub {L M : List (Str × Int)} (h : ∀ z, L.lookup z = M.lookup z) (nl : (L.map (·.1)).Nodup) : ∀ z ∈ L.map (·.1), z ∈ M.map (·.1) := fun z hz => by
  obtain ⟨⟨y, n⟩, hy, rfl⟩ := List.mem_map.mp hz
  have := lk_mem nl hy
  rw [h] at this
  exact List.mem_map.mpr ⟨_, lk_has this, rfl⟩
theorem lk_len {L M : List (Str × Int)} (h : ∀ z, L.lookup z = M.lookup z) (nl : (L.map (·.1)).Nodup) (nm : (M.map (·.1)).Nodup) : L.length = M.length := by
  have p : (L.map (·.1)).Perm (M.map (·.1)) := (List.perm_ext_iff_of_nodup nl nm).mpr fun z => ⟨lk_sub h nl z, lk_sub (fun z => (h z).symm) nm z⟩
  have := p.length_eq
  rw [List.length_map, List.length_map] at this
  exact this
theorem lk_eqD {L M : List (Str × Int)} (nl : (L.map (·.1)).Nodup) (h : ∀ z, L.lookup z = M.lookup z) : eqD (LK M) (LK L) = true := by
  unfold eqD
  rw [List.all_eq_true]
  intro p hp
  obtain ⟨⟨z, n⟩, hz, rfl⟩ := List.mem_map.mp hp
  show (match valV (LK M) (Sum.inr z) with | some v => eqV (.int n) v | none => false) = true
  rw [lk_val, ← h, lk_mem nl hz]
  show eqV (.int n) (.int n) = true
  simp [eqV]
theorem lk_neD {L M : List (Str × Int)} {z : Str} {n m : Int} (h1 : L.lookup z = some n) (h2 : M.lookup z = some m) (ne : n ≠ m) : eqD (LK M) (LK L) = false := by
  unfold eqD
  rw [List.all_eq_false]
  refine ⟨_, List.mem_map.mpr ⟨(z, n), lk_has h1, rfl⟩, ?_⟩
  show ¬ (match valV (LK M) (Sum.inr z) with | some v => eqV (.int n) v | none => false) = true
  rw [lk_val, h2]
  show ¬ eqV (.int n) (.int m) = true
  intro e
  have e : (n == m) = true := e
  exact ne (by simpa using e)
theorem lk_flat {L : List (Str × Int)} : ∀ p ∈ LK L, flatV p.2 = true := fun p hp => by
  obtain ⟨x, _, rfl⟩ := List.mem_map.mp hp
  rfl
theorem lk_flat' {L : List (Str × Int)} : ∀ k v, valV (LK L) k = some v → flatV v = true := fun k v h => by
  unfold valV at h
  cases e : (LK L).find? (fun kv => decide (kv.1 = k)) with
  | none => rw [e] at h; cases h
  | some p =>
    rw [e] at h
    cases h
    exact lk_flat p (List.mem_of_find?_eq_some e)
section
variable {P : Program} {w : World} {K : PySem.W.Frag} {mg : Str → Option Value} {base : Heap}
abbrev s_Book_eq : Stmt := inClass (topS 23) 1
theorem sc_Book_eq : FnScope ["self", "other"] ["self", "other"] (defScope s_Book_eq) := ⟨rfl, rfl, rfl, by decide +kernel, rfl, by decide +kernel, by decide +kernel⟩
theorem ok_book_eqV {f CBook : Addr} {fd : FuncData} (F : Fun K "__eq__" "Book.__eq__" s_Book_eq f fd) (B : Blt mg) (T : Cb K mg CBook) (bk : ∀ H b dx fs, H b = some (.ins CBook dx fs) → TyX K H (.ref b) (.ref CBook)) : FnOk P w K mg base CX0 1 f fd ["self", "other"] (spBookEqV CBook) := by
  have c_Book := T.c
  refine F.ok sc_Book_eq (fun vs H Q E h => ?_) (fun cdv A outer s H vs Q E hr h => ?_)
  · obtain ⟨a, b, L, M, rfl, _⟩ := h
    rfl
  · obtain ⟨a, b, L, M, rfl, hA, hB, q⟩ := h
    have hu := hu_of hr
    have hu0 : (A.deeper (envOfC "Book.__eq__" (defScope s_Book_eq) s.heap.objs.size f cdv)).units < cLine := by omega
    refine ⟨_, (pss_one (ps_ret (pe_and (pe_callB call_isi (by rfl) B.isinstance (by decide +kernel) (pa_cons (pv 1) (pa_cons (pe_glob (v := .ref CBook) (by rfl) c_Book rfl) pa_nil))) (pe_one (pe_cmpR (op_eq_dictB hu0) (pe_fld (pv 0) rfl) (pe_fld (pv 1) rfl) (nomark _)))))), ?_⟩
    obtain ⟨dx, d, L', h1, h2, h3, nd⟩ := id hA
    obtain ⟨dy, e, M', g1, g2, g3, ne⟩ := id hB
    refine ⟨_, rfl, _, _, _, _, true, rfl, ClsV.own _, bk _ _ _ _ g1, (by show PySem.W.kitOne K _ _ = _; unfold PySem.W.kitOne; rw [if_pos (by simp)]), _, rfl, iteT ?_⟩
    refine ⟨_, rfl, a, CBook, dx, _, _, rfl, h1, T.cl, T.nL, rfl, _, rfl, b, CBook, dy, _, _, rfl, g1, T.cl, T.nL, rfl, d, e, _, _, rfl, rfl, h2, g2, lk_flat, lk_flat', ?_⟩
    rcases q with ⟨q0, q⟩ | ⟨⟨z, n, m, q1, q2, q3⟩, q⟩
    · have hlk : ∀ z, L'.lookup z = M'.lookup z := fun z => by rw [h3, q0, g3]
      rw [lk_eqD nd hlk, decide_eq_true (show (LK L').length = (LK M').length by unfold LK; rw [List.length_map, List.length_map]; exact lk_len hlk nd ne)]
      exact q H Ext.rfl'
    · rw [lk_neD (by rw [h3]; exact q1) (by rw [g3]; exact q2) q3, Bool.and_false]
      exact q H Ext.rfl'

/-- books that tell the same -/
def EqBk (CB : Addr) : Addr → Addr → Hp → Prop := fun a b H => ∃ L M, BookAt CB H a L ∧ BookAt CB H b M ∧ ∀ z, L.lookup z = M.lookup z
theorem ok_book_eqE {f CBook : Addr} {fd : FuncData} (F : Fun K "__eq__" "Book.__eq__" s_Book_eq f fd) (B : Blt mg) (T : Cb K mg CBook) (bk : ∀ H b dx fs, H b = some (.ins CBook dx fs) → TyX K H (.ref b) (.ref CBook)) : FnOk P w K mg base CX0 1 f fd ["self", "other"] (spEq (EqBk CBook)) := by
  have o := ok_book_eqV (P := P) (w := w) (base := base) F B T bk
  exact o.imp fun vs H Q E ⟨a, b, e, ⟨L, M, h1, h2, h3⟩, q⟩ => ⟨a, b, L, M, e, h1, h2, .inl ⟨h3, q⟩⟩
end
end Ash

set_option Elab.async false
set_option linter.all false
set_option maxRecDepth 100000
set_option maxHeartbeats 4000000
namespace Ash
open PySem PySem.Spec PyProof.Rows L2
open C8 (pss_cut)
def spJLen (K : PySem.W.Frag) (aT CJ CB : Addr) : Sp := fun vs H Q _ => ∃ (j b : Addr) (L : List (Str × Int)) (us : List V) (xs : List Ent), vs = [.ref j] ∧ JAt K aT CJ CB H j b L us xs ∧ Q (.int us.length) H
section
variable {P : Program} {w : World} {K : PySem.W.Frag} {mg : Str → Option Value} {base : Heap}
abbrev s_Journal_len : Stmt := inClass (topS 35) 2
theorem sc_Journal_len : FnScope ["self"] ["self"] (defScope s_Journal_len) := ⟨rfl, rfl, rfl, by decide +kernel, rfl, by decide +kernel, by decide +kernel⟩
theorem ok_jlen {f CJ CB aT : Addr} {fd : FuncData} (F : Fun K "__len__" "Journal.__len__" s_Journal_len f fd) (B : Blt mg) (T : Cj P K mg CJ CB) : FnOk P w K mg base CX0 1 f fd ["self"] (spJLen K aT CJ CB) := by
  refine F.ok sc_Journal_len (fun vs H Q E h => ?_) (fun cdv A outer s H vs Q E hr h => ?_)
  · obtain ⟨j, b, L, us, xs, rfl, _⟩ := h
    rfl
  · obtain ⟨j, b, L, us, xs, rfl, hJ, q⟩ := h
    refine ⟨_, (pss_one (ps_ret (pe_callB call_len_seq (by rfl) B.len (by decide +kernel) (pa_cons (pe_fld (pv 0) rfl) pa_nil)))), ?_⟩
    obtain ⟨dx, t, kd, h1, h2, h3, hl, h5, h6, h7⟩ := id hJ
    exact ⟨_, rfl, j, CJ, dx, _, _, rfl, h1, T.cl, T.nE, jf_e _ _ _, t, us, rfl, .inr h3, q⟩
end
end Ash

set_option Elab.async false
set_option linter.all false
set_option maxRecDepth 100000
set_option maxHeartbeats 4000000
namespace Ash
open PySem PySem.Spec PyProof.Rows L2
open C8 (pss_cut)
/-! ### what stays: a heap without the places that change -/
open Classical in
noncomputable def cutH (B : Addr → Prop) (H : Hp) : Hp := fun c => if B c then none else H c
theorem cut_at {B : Addr → Prop} {H : Hp} {c : Addr} {x : HO} (n : ¬ B c) (h : H c = some x) : cutH B H c = some x := by
  unfold cutH
  rw [if_neg n]
  exact h
theorem cut_of {B : Addr → Prop} {H : Hp} {c : Addr} {x : HO} (h : cutH B H c = some x) : ¬ B c ∧ H c = some x := by
  unfold cutH at h
  by_cases c : B c
  · rw [if_pos c] at h
    cases h
  · rw [if_neg c] at h
    exact ⟨c, h⟩
theorem cut_same (B : Addr → Prop) (H : Hp) : Same (cutH B H) H := fun _ _ h => (cut_of h).2
theorem cut_step {B B' : Addr → Prop} {H H' : Hp} (k : ∀ c x, H c = some x → ¬ B c → H' c = some x) (g : ∀ c, B' c → B c ∨ H c = none) : Same (cutH B H) (cutH B' H') := fun c x h => by
  obtain ⟨n, h⟩ := cut_of h
  refine cut_at (fun b => ?_) (k c x h n)
  rcases g c b with b | b
  · exact n b
  · rw [h] at b; cases b
abbrev uni (B A : Addr → Prop) : Addr → Prop := fun c => B c ∨ A c
/-- all but the places of A stands; A grows by new places -/
structure Fr (A : Addr → Prop) (H : Hp) (A' : Addr → Prop) (H' : Hp) : Prop where
  k : ∀ c x, H c = some x → ¬ A c → H' c = some x
  g : ∀ c, A' c → A c ∨ H c = none
theorem Fr.cut {A A' B : Addr → Prop} {H H' : Hp} (f : Fr A H A' H') (s : ∀ c, A c → B c) : Same (cutH B H) (cutH (uni B A') H') :=
  cut_step (fun c x h n => f.k c x h fun a => n (s c a)) fun c b => b.elim .inl fun a => (f.g c a).imp (s c) id
theorem Fr.of_same {A : Addr → Prop} {H H' : Hp} (s : Same H H') : Fr A H A H' := ⟨fun c x h _ => s c x h, fun c h => .inl h⟩
theorem no_of {H0 H : Hp} {c : Addr} (sm : Same H0 H) (h0 : H c = none) : H0 c = none := by
  cases e : H0 c with
  | none => rfl
  | some x => rw [sm _ _ e] at h0; cases h0
/-! ### an office -/
structure Dr where
  z : Str
  t : Addr
  l : Addr
  n : Int
  es : List Ent
def DrK (ps : List Dr) : List (Key × V) := ps.map fun d => (Sum.inr d.z, V.ref d.t)
theorem DrK_val : ∀ (ps : List Dr) (z : Str), valV (DrK ps) (Sum.inr z : Key) = (ps.find? fun d => decide (d.z = z)).map fun d => V.ref d.t
  | [], z => rfl
  | a :: ps, z => by
    have ih := DrK_val ps z
    by_cases h : a.z = z
    · show valV ((Sum.inr a.z, V.ref a.t) :: DrK ps) (Sum.inr z : Key) = _
      rw [valV_pos (by rw [h]), List.find?_cons_of_pos (by simpa using h)]
      rfl
    · show valV ((Sum.inr a.z, V.ref a.t) :: DrK ps) (Sum.inr z : Key) = _
      rw [valV_neg (fun q => h (Sum.inr.inj q)), ih, List.find?_cons_of_neg (by simpa using h)]
def DEnts (H : Hp) (us : List V) (es : List Ent) : Prop := us.length = es.length ∧ ∀ (i : Nat) v x, us[i]? = some v → es[i]? = some x → ∃ e, v = .ref e ∧ DAt H e x ∧ x.ok
theorem DEnts.same {H H' : Hp} {us : List V} {es : List Ent} (h : DEnts H us es) (s : Same H H') : DEnts H' us es := ⟨h.1, fun i v x a b => by
  obtain ⟨e, h1, h2, h3⟩ := h.2 i v x a b
  exact ⟨e, h1, s _ _ h2, h3⟩⟩
theorem DEnts.snoc {H : Hp} {us : List V} {es : List Ent} {e : Addr} {x : Ent} (h : DEnts H us es) (he : DAt H e x) (ok : x.ok) : DEnts H (us ++ [.ref e]) (es ++ [x]) := by
  obtain ⟨hl, h⟩ := h
  refine ⟨by rw [List.length_append, List.length_append, hl]; rfl, fun i v y a b => ?_⟩
  by_cases c : i < us.length
  · rw [List.getElem?_append_left c] at a
    rw [List.getElem?_append_left (by omega)] at b
    exact h i v y a b
  · have hi : i = us.length := by
      have := (List.getElem?_eq_some_iff.mp a).1
      rw [List.length_append] at this
      have : i < us.length + 1 := this
      omega
    subst hi
    rw [List.getElem?_append_right (Nat.le_refl _), Nat.sub_self] at a
    rw [hl, List.getElem?_append_right (Nat.le_refl _), Nat.sub_self] at b
    cases a
    cases b
    exact ⟨e, rfl, he, ok⟩
def DrAt (CD : Addr) (B A : Addr → Prop) (H : Hp) (d : Dr) : Prop := ∃ tx us, cutH B H d.t = some (.ins CD tx (dftF d.n d.l)) ∧ A d.l ∧ H d.l = some (.lst us) ∧ DEnts (cutH B H) us d.es
structure OA where
  o : Addr
  dx : Addr
  b : Addr
  j : Addr
  bj : Addr
  dd : Addr
  pa : Addr
  cb : Addr
structure OS where
  L : List (Str × Int)
  xs : List Ent
  us : List V
  ps : List Dr
  past : List Nat
  cl : Int
  cb : List Int
def OS.find (S : OS) (z : Str) : Option Dr := S.ps.find? fun d => decide (d.z = z)
structure Cls6 where
  K : PySem.W.Frag
  aT : Addr
  CJ : Addr
  CB : Addr
  CO : Addr
  CD : Addr
/-- what may change: lists, dicts and the office itself -/
def MuO (CO : Addr) : HO → Prop
  | .lst _ => True
  | .dK _ => True
  | .ins C _ _ => C = CO
  | _ => False
def Mu (CO : Addr) (o : Option HO) : Prop := ∃ u, o = some u ∧ MuO CO u
/-- the places of an office are A (within B, the places that change), its addresses a, its state S -/
structure OfM (c : Cls6) (B A : Addr → Prop) (H : Hp) (a : OA) (S : OS) : Prop where
  o : H a.o = some (.ins c.CO a.dx (ofF a.b a.j a.dd a.pa S.cl a.cb))
  dd : H a.dd = some (.dK (DrK S.ps))
  pa : H a.pa = some (.lst (S.past.map fun (n : Nat) => V.int (n : Int)))
  cb : H a.cb = some (.lst (S.cb.map V.int))
  Ao : A a.o
  Add : A a.dd
  Apa : A a.pa
  Acb : A a.cb
  AB : ∀ x, A x → B x
  BT : ∀ x, B x → Mu c.CO (H x)
  ne : a.pa ≠ a.cb
  bk : BookAt c.CB (cutH B H) a.b S.L
  jr : JAt c.K c.aT c.CJ c.CB (cutH B H) a.j a.bj S.L S.us S.xs
  x4 : S.us.length ≤ 400
  dr : ∀ d ∈ S.ps, DrAt c.CD B A H d ∧ d.l ≠ a.pa ∧ d.l ≠ a.cb ∧ IsNm d.z ∧ d.es.length ≤ 20
  ndl : (S.ps.map (·.l)).Nodup
  ndz : (S.ps.map (·.z)).Nodup
  cbl : S.cb.length = S.xs.length
  pst : (S.past ++ [S.xs.length]).Pairwise (· ≤ ·)
section
variable {c : Cls6} {B A : Addr → Prop} {H : Hp} {a : OA} {S : OS}
theorem OfM.find (h : OfM c B A H a S) {z : Str} {d : Dr} (e : S.find z = some d) : d ∈ S.ps ∧ d.z = z := ⟨List.mem_of_find?_eq_some e, by simpa using List.find?_some e⟩
theorem OfM.keep {B' : Addr → Prop} {H' : Hp} (h : OfM c B A H a S) (kA : ∀ p x, A p → H p = some x → H' p = some x) (kB : ∀ p x, H p = some x → ¬ B p → H' p = some x) (g1 : ∀ p, B p → B' p) (g2 : ∀ p, B' p → B p ∨ H p = none) (gH : ∀ p, B' p → Mu c.CO (H' p)) : OfM c B' A H' a S := by
  have s := cut_step kB g2
  exact ⟨kA _ _ h.Ao h.o, kA _ _ h.Add h.dd, kA _ _ h.Apa h.pa, kA _ _ h.Acb h.cb, h.Ao, h.Add, h.Apa, h.Acb, fun x hx => g1 x (h.AB x hx), gH, h.ne, h.bk.same s, h.jr.same s, h.x4, fun d hd => by
    obtain ⟨⟨tx, us, h1, h2, h3, h4⟩, r⟩ := h.dr d hd
    exact ⟨⟨tx, us, s _ _ h1, h2, kA _ _ h2 h3, h4.same s⟩, r⟩, h.ndl, h.ndz, h.cbl, h.pst⟩
theorem OfM.same {H' : Hp} (h : OfM c B A H a S) (s : Same H H') : OfM c B A H' a S :=
  h.keep (fun p x _ e => s _ _ e) (fun p x e _ => s _ _ e) (fun _ x => x) (fun _ x => .inl x) fun p b => by
    obtain ⟨u, e, m⟩ := h.BT p b
    exact ⟨u, s _ _ e, m⟩
/-- behind a draw -/
theorem OfM.pl {H' : Hp} {p s : Addr} (h : OfM c B A H a S) (P : Pl H H' p s) (np : ¬ A p) (bp : B p) : OfM c B A H' a S :=
  h.keep (fun q x hq e => P.keep e (fun z => np (z ▸ hq))) (fun q x e n => P.keep e (fun z => n (z ▸ bp))) (fun _ x => x) (fun _ x => .inl x) fun q b => by
    by_cases z : q = p
    · subst z
      obtain ⟨_, _, _, _, _, e, _⟩ := P.now
      exact ⟨_, e, trivial⟩
    · obtain ⟨u, e, m⟩ := h.BT q b
      exact ⟨u, P.keep e z, m⟩
theorem OfM.free (h : OfM c B A H a S) {q : Addr} (hq : H q = none) : ¬ B q := fun b => by
  obtain ⟨u, e, _⟩ := h.BT q b
  rw [hq] at e; cases e
theorem OfM.tup (h : OfM c B A H a S) {q : Addr} {xs : List V} (hq : H q = some (.tup xs)) : ¬ B q := fun b => by
  obtain ⟨u, e, m⟩ := h.BT q b
  rw [hq] at e
  cases e
  exact m
theorem DrAt.mono {CD : Addr} {B B' A A' : Addr → Prop} {H H' : Hp} {d : Dr} (h : DrAt CD B A H d) (s : Same (cutH B H) (cutH B' H')) (ha : A d.l → A' d.l) (hl : H' d.l = H d.l) : DrAt CD B' A' H' d := by
  obtain ⟨tx, us, h1, h2, h3, h4⟩ := h
  exact ⟨tx, us, s _ _ h1, ha h2, by rw [hl]; exact h3, h4.same s⟩
/-- a step of the office: its places A grow to A' -/
theorem OfM.to {A' : Addr → Prop} {H' : Hp} {a' : OA} {S' : OS} (h : OfM c B A H a S) (f : Fr A H A' H') (sub : ∀ p, A p → A' p) (hA : ∀ p, A' p → Mu c.CO (H' p)) (e1 : a'.o = a.o) (e2 : a'.dd = a.dd) (e3 : a'.pa = a.pa) (e4 : a'.cb = a.cb) (eb : a'.b = a.b) (eL : S'.L = S.L)
    (ho : H' a.o = some (.ins c.CO a'.dx (ofF a'.b a'.j a'.dd a'.pa S'.cl a'.cb))) (hdd : H' a.dd = some (.dK (DrK S'.ps))) (hpa : H' a.pa = some (.lst (S'.past.map fun (n : Nat) => V.int (n : Int)))) (hcb : H' a.cb = some (.lst (S'.cb.map V.int)))
    (jr : Same (cutH B H) (cutH (uni B A') H') → JAt c.K c.aT c.CJ c.CB (cutH (uni B A') H') a'.j a'.bj S'.L S'.us S'.xs) (x4 : S'.us.length ≤ 400)
    (dr : Same (cutH B H) (cutH (uni B A') H') → ∀ d ∈ S'.ps, DrAt c.CD (uni B A') A' H' d ∧ d.l ≠ a.pa ∧ d.l ≠ a.cb ∧ IsNm d.z ∧ d.es.length ≤ 20) (ndl : (S'.ps.map (·.l)).Nodup) (ndz : (S'.ps.map (·.z)).Nodup) (cbl : S'.cb.length = S'.xs.length) (pst : (S'.past ++ [S'.xs.length]).Pairwise (· ≤ ·)) : OfM c (uni B A') A' H' a' S' := by
  have s := f.cut h.AB
  obtain ⟨o', dx', b', j', bj', dd', pa', cb'⟩ := a'
  cases e1; cases e2; cases e3; cases e4; cases eb
  refine ⟨ho, hdd, hpa, hcb, sub _ h.Ao, sub _ h.Add, sub _ h.Apa, sub _ h.Acb, fun x hx => .inr hx, fun x hx => ?_, h.ne, by rw [eL]; exact h.bk.same s, jr s, x4, dr s, ndl, ndz, cbl, pst⟩
  rcases hx with hx | hx
  · by_cases c : A x
    · exact hA x (sub x c)
    · obtain ⟨u, e, m⟩ := h.BT x hx
      exact ⟨u, f.k _ _ e c, m⟩
  · exact hA x hx
theorem nodup_at {α β : Type} {f : α → β} : ∀ {l : List α}, (l.map f).Nodup → ∀ x ∈ l, ∀ y ∈ l, f x = f y → x = y
  | [], _, _, h, _, _, _ => nomatch h
  | a :: l, h, x, hx, y, hy, e => by
    rw [List.map_cons, List.nodup_cons] at h
    rcases List.mem_cons.mp hx with rfl | hx1
    · rcases List.mem_cons.mp hy with rfl | hy1
      · rfl
      · exact absurd (show f x ∈ l.map f from List.mem_map.mpr ⟨y, hy1, e.symm⟩) h.1
    · rcases List.mem_cons.mp hy with rfl | hy1
      · exact absurd (show f y ∈ l.map f from List.mem_map.mpr ⟨x, hx1, e⟩) h.1
      · exact nodup_at h.2 x hx1 y hy1 e
/-- one more entry in a draft -/
def OS.putd (S : OS) (z : Str) (x : Ent) : OS := { S with ps := S.ps.map fun d => if d.z = z then { d with es := d.es ++ [x] } else d }
theorem putd_map {γ : Type} (f : Dr → γ) (hf : ∀ d es, f { d with es := es } = f d) (S : OS) (z : Str) (x : Ent) : ((S.putd z x).ps.map f) = S.ps.map f := by
  show (S.ps.map _).map f = _
  rw [List.map_map]
  refine List.map_congr_left fun d _ => ?_
  show f (if d.z = z then { d with es := d.es ++ [x] } else d) = f d
  split
  · exact hf d _
  · rfl
theorem OfM.lne (h : OfM c B A H a S) {d : Dr} (hd : d ∈ S.ps) : d.l ≠ a.o ∧ d.l ≠ a.dd ∧ d.l ≠ a.pa ∧ d.l ≠ a.cb := by
  obtain ⟨⟨tx, us, h1, h2, h3, h4⟩, n1, n2, _⟩ := h.dr d hd
  exact ⟨ne_of h3 h.o (by intro z; cases z), ne_of h3 h.dd (by intro z; cases z), n1, n2⟩
theorem OfM.put (h : OfM c B A H a S) {H1 : Hp} {d : Dr} {e : Addr} {x : Ent} {us : List V} (s1 : Same H H1) (hd : d ∈ S.ps) (hl : H d.l = some (.lst us)) (hus : DEnts (cutH B H) us d.es) (he : DAt H1 e x) (ok : x.ok) (l20 : d.es.length < 20) :
    Fr A H A (upd H1 d.l (.lst (us ++ [.ref e]))) ∧ OfM c (uni B A) A (upd H1 d.l (.lst (us ++ [.ref e]))) a (S.putd d.z x) := by
  obtain ⟨n1, n2, n3, n4⟩ := h.lne hd
  obtain ⟨⟨tx, us0, h1, h2, h3, h4⟩, _⟩ := h.dr d hd
  have f : Fr A H A (upd H1 d.l (.lst (us ++ [.ref e]))) := ⟨fun q y hq nq => by rw [upd_ne (fun z : q = d.l => nq (by rw [z]; exact h2))]; exact s1 _ _ hq, fun _ q => .inl q⟩
  have hlk : H1 d.l = some (.lst us) := s1 _ _ hl
  have he' : cutH (uni B A) (upd H1 d.l (.lst (us ++ [.ref e]))) e = some (.tup x.vs.dropLast) := by
    have nb : ¬ B e := fun b => by
      obtain ⟨u, e1, m⟩ := h.BT e b
      have := s1 _ _ e1
      rw [he] at this
      cases this
      exact m
    refine cut_at (fun z => z.elim nb fun q => nb (h.AB _ q)) ?_
    have he0 : H1 e = some (.tup x.vs.dropLast) := he
    rw [upd_ne (fun z => by rw [z, hlk] at he0; cases he0)]
    exact he0
  refine ⟨f, h.to f (fun _ x => x) (fun p hp => ?_) rfl rfl rfl rfl rfl rfl (by rw [upd_ne n1.symm]; exact s1 _ _ h.o) ?_ (by rw [upd_ne n3.symm]; exact s1 _ _ h.pa) (by rw [upd_ne n4.symm]; exact s1 _ _ h.cb) (fun s => h.jr.same s) h.x4 (fun s d' hd' => ?_) ?_ ?_ h.cbl h.pst⟩
  · by_cases z : p = d.l
    · subst z
      exact ⟨_, upd_same, trivial⟩
    · obtain ⟨u, e1, m⟩ := h.BT p (h.AB p hp)
      exact ⟨u, by rw [upd_ne z]; exact s1 _ _ e1, m⟩
  · rw [upd_ne n2.symm]
    have e0 : DrK (S.putd d.z x).ps = DrK S.ps := putd_map (fun d => ((Sum.inr d.z : Key), V.ref d.t)) (fun _ _ => rfl) S d.z x
    rw [e0]
    exact s1 _ _ h.dd
  · obtain ⟨d0, hd0, e0⟩ := List.mem_map.mp (show d' ∈ S.ps.map fun d' => if d'.z = d.z then { d' with es := d'.es ++ [x] } else d' from hd')
    obtain ⟨D0, m1, m2, m3, m4⟩ := h.dr d0 hd0
    by_cases cz : d0.z = d.z
    · have : d0 = d := nodup_at h.ndz _ hd0 _ hd cz
      subst this
      rw [if_pos rfl] at e0
      subst e0
      refine ⟨⟨tx, us ++ [.ref e], s _ _ h1, h2, upd_same, (hus.same s).snoc he' ok⟩, m1, m2, m3, ?_⟩
      show (d0.es ++ [x]).length ≤ 20
      rw [List.length_append]
      exact l20
    · rw [if_neg cz] at e0
      subst e0
      have nl : d0.l ≠ d.l := fun z => cz (congrArg Dr.z (nodup_at h.ndl _ hd0 _ hd z))
      refine ⟨D0.mono s (fun x => x) ?_, m1, m2, m3, m4⟩
      rw [upd_ne nl]
      obtain ⟨_, _, _, _, q, _⟩ := D0
      rw [q, s1 _ _ q]
  · rw [putd_map (·.l) (fun _ _ => rfl)]
    exact h.ndl
  · rw [putd_map (·.z) (fun _ _ => rfl)]
    exact h.ndz
/-- a draft is gone -/
def OS.dropd (S : OS) (z : Str) : OS := { S with ps := S.ps.filter fun d => decide (d.z ≠ z) }
theorem DrK_drop (S : OS) (z : Str) : dropK (DrK S.ps) (Sum.inr z : Key) = DrK (S.dropd z).ps := by
  unfold dropK DrK OS.dropd
  rw [List.filter_map]
  congr 1
  refine List.filter_congr fun d _ => ?_
  show decide ((Sum.inr d.z : Key) ≠ Sum.inr z) = decide (d.z ≠ z)
  exact decide_eq_decide.mpr ⟨fun q e => q (congrArg _ e), fun q e => q (Sum.inr.inj e)⟩
theorem OfM.drop (h : OfM c B A H a S) {H1 : Hp} (s1 : Same H H1) (z : Str) : Fr A H A (upd H1 a.dd (.dK (DrK (S.dropd z).ps))) ∧ OfM c (uni B A) A (upd H1 a.dd (.dK (DrK (S.dropd z).ps))) a (S.dropd z) := by
  have f : Fr A H A (upd H1 a.dd (.dK (DrK (S.dropd z).ps))) := ⟨fun q y hq nq => by rw [upd_ne (fun z : q = a.dd => nq (by rw [z]; exact h.Add))]; exact s1 _ _ hq, fun _ q => .inl q⟩
  have no : a.o ≠ a.dd := ne_of h.o h.dd (by intro z; cases z)
  have np : a.pa ≠ a.dd := ne_of h.pa h.dd (by intro z; cases z)
  have nc : a.cb ≠ a.dd := ne_of h.cb h.dd (by intro z; cases z)
  refine ⟨f, h.to f (fun _ x => x) (fun p hp => ?_) rfl rfl rfl rfl rfl rfl (by rw [upd_ne no]; exact s1 _ _ h.o) upd_same (by rw [upd_ne np]; exact s1 _ _ h.pa) (by rw [upd_ne nc]; exact s1 _ _ h.cb) (fun s => h.jr.same s) h.x4 (fun s d' hd' => ?_) ?_ ?_ h.cbl h.pst⟩
  · by_cases q : p = a.dd
    · subst q
      exact ⟨_, upd_same, trivial⟩
    · obtain ⟨u, e1, m⟩ := h.BT p (h.AB p hp)
      exact ⟨u, by rw [upd_ne q]; exact s1 _ _ e1, m⟩
  · have hd0 : d' ∈ S.ps := (List.mem_filter.mp hd').1
    obtain ⟨D0, m⟩ := h.dr d' hd0
    refine ⟨D0.mono s (fun x => x) ?_, m⟩
    rw [upd_ne (h.lne hd0).2.1]
    obtain ⟨_, _, _, _, q, _⟩ := D0
    rw [q, s1 _ _ q]
  · exact h.ndl.sublist ((List.filter_sublist).map _)
  · exact h.ndz.sublist ((List.filter_sublist).map _)
theorem OfM.val (h : OfM c B A H a S) (z : Str) : valV (DrK S.ps) (Sum.inr z : Key) = (S.find z).map fun d => V.ref d.t := DrK_val S.ps z
end
end Ash

set_option Elab.async false
set_option linter.all false
set_option maxRecDepth 100000
set_option maxHeartbeats 4000000
namespace Ash
open PySem PySem.Spec PyProof.Rows L2
open C8 (pss_cut)
/-! ### the office's smaller deeds -/
def StrOk (K : PySem.W.Frag) (H : Hp) (v : V) : Prop := (∃ z, v = .str z ∧ z.length ≤ sizeLine) ∨ NotStr K H v
def wfind (S : OS) : V → Option Dr
  | .str z => S.find z
  | _ => none
def isNmV : V → Bool
  | .str z => nmB z
  | _ => false
def spDraftO (c : Cls6) (CI : Addr) : Sp := fun vs H Q E => ∃ (B A : Addr → Prop) (a : OA) (S : OS) (v : V), vs = [.ref a.o, v] ∧ OfM c B A H a S ∧ StrOk c.K H v ∧
  (∀ d H', wfind S v = some d → Same H H' → Q (.ref d.t) H') ∧ (∀ e H', wfind S v = none → Same H H' → Xd H' e "writer" v → E (.ref CI) (some e) H')
def spBeginO (c : Cls6) (CN CY : Addr) : Sp := fun vs H Q E => ∃ (B A : Addr → Prop) (a : OA) (S : OS) (v : V), vs = [.ref a.o, v] ∧ OfM c B A H a S ∧ StrOk c.K H v ∧ S.ps.length < 900 ∧
  (∀ z t l A' H', v = .str z → nmB z = true → S.find z = none → Fr A H A' H' → (∀ p, A' p ↔ A p ∨ p = l) → OfM c (uni B A') A' H' a { S with ps := S.ps ++ [⟨z, t, l, S.cl, []⟩] } → Q .non H') ∧
  (∀ d e H', wfind S v = some d → Same H H' → Xd H' e "writer" v → E (.ref CY) (some e) H') ∧
  (∀ e H', isNmV v = false → Same H H' → Xd H' e "value" v → E (.ref CN) (some e) H')
def InB (L : List (Str × Int)) (x : Ent) : Prop := ∀ id s k m a r, x = .row id s k m a r → (L.lookup s).isSome
def spPutO (c : Cls6) (CI CE : Addr) : Sp := fun vs H Q E => ∃ (B A : Addr → Prop) (a : OA) (S : OS) (v : V) (en : Addr) (x : Ent), vs = [.ref a.o, v, .ref en] ∧ OfM c B A H a S ∧ StrOk c.K H v ∧ DAt H en x ∧ x.ok ∧
  (∀ d H', wfind S v = some d → d.es.length < 20 → InB S.L x → Fr A H A H' → OfM c (uni B A) A H' a (S.putd d.z x) → Q .non H') ∧
  (∀ d e H', wfind S v = some d → (d.es.length = 20 ∨ ¬ InB S.L x) → Same H H' → Xd H' e "at" (.int d.es.length) → E (.ref CE) (some e) H') ∧
  (∀ e H', wfind S v = none → Same H H' → Xd H' e "writer" v → E (.ref CI) (some e) H')
def spDropO (c : Cls6) (CI : Addr) : Sp := fun vs H Q E => ∃ (B A : Addr → Prop) (a : OA) (S : OS) (v : V), vs = [.ref a.o, v] ∧ OfM c B A H a S ∧ StrOk c.K H v ∧
  (∀ d H', wfind S v = some d → Fr A H A H' → OfM c (uni B A) A H' a (S.dropd d.z) → Q .non H') ∧
  (∀ e H', wfind S v = none → Same H H' → Xd H' e "writer" v → E (.ref CI) (some e) H')
def WithN (H : Hp) (us : List V) (es : List Ent) (w : V) : Prop := us.length = es.length ∧ ∀ (i : Nat) v x, us[i]? = some v → es[i]? = some x → ∃ e, v = .ref e ∧ H e = some (.tup (x.vs.dropLast ++ [w])) ∧ x.ok
def spTellO (c : Cls6) (CI : Addr) : Sp := fun vs H Q E => ∃ (B A : Addr → Prop) (a : OA) (S : OS) (v : V), vs = [.ref a.o, v] ∧ OfM c B A H a S ∧ StrOk c.K H v ∧
  (∀ d l us H', wfind S v = some d → Same H H' → H l = none → H' l = some (.lst us) → WithN H' us d.es .non → Q (.ref l) H') ∧
  (∀ e H', wfind S v = none → Same H H' → Xd H' e "writer" v → E (.ref CI) (some e) H')
def spWritersO (c : Cls6) : Sp := fun vs H Q _ => ∃ (B A : Addr → Prop) (a : OA) (S : OS), vs = [.ref a.o] ∧ OfM c B A H a S ∧ S.ps.length < 64 ∧
  ∀ ys l H', ys.Perm (S.ps.map (·.z)) → sortedS ys = true → Same H H' → H l = none → H' l = some (.lst (ys.map V.str)) → Q (.ref l) H'
structure Cst2 (mg : Str → Option Value) : Prop where
  k_LD : ∃ t, mg "LONGEST_DRAFT" = some (.int 20 t)
section
variable {P : Program} {w : World} {mg : Str → Option Value} {base : Heap} {c : Cls6}
/-- what the office's deeds rest on -/
structure GO (P : Program) (w : World) (mg : Str → Option Value) (base : Heap) (c : Cls6) (CE CI CN CY fE fI fN fY : Addr) : Prop extends K8N P w c.K mg base c.CB c.aT c.CJ CE where
  T : Co c.K mg c.CO
  TB : Cb c.K mg c.CB
  TJ : Cj P c.K mg c.CJ c.CB
  TD : Cd c.K mg c.CD
  TE : PySem.BadX.Txt P c.K mg "at" "at" CE fE
  TI : PySem.BadX.Txt P c.K mg "writer" "writer" CI fI
  TN : PySem.BadX.Txt P c.K mg "value" "value" CN fN
  TY : PySem.BadX.Txt P c.K mg "writer" "writer" CY fY
  c_BadEntry : mg "BadEntry" = some (.ref CE)
  c_Idle : mg "Idle" = some (.ref CI)
  c_BadName : mg "BadName" = some (.ref CN)
  c_Busy : mg "Busy" = some (.ref CY)
  Draft : Mak P w c.K mg base CX0 "Draft" c.CD 1 ["self", "begun"] (spDraftInit c.CD)
  has : Met P w c.K mg base CX0 c.CB "has" 2 ["self", "stream"] (spHas c.CB)
  C1 : Cst mg
  C2 : Cst2 mg
variable {CE CI CN CY fE fI fN fY : Addr}
theorem notStr_nm {K : PySem.W.Frag} {H : Hp} {v : V} (h : NotStr K H v) : isNmV v = false := by
  cases v with
  | str z =>
    obtain ⟨t, ty, k⟩ := h
    cases ty with
    | base b =>
      cases b with
      | _ =>
        rw [show PySem.W.kitOne K (.type "str") (.type "str") = some true from kit_ty (by decide +kernel)] at k
        cases k
  | _ => rfl
theorem OfM.named {B A : Addr → Prop} {H : Hp} {a : OA} {S : OS} (h : OfM c B A H a S) {z : Str} (n : nmB z = false) : S.find z = none := by
  cases e : S.find z with
  | none => rfl
  | some d =>
    obtain ⟨h1, h2⟩ := h.find e
    rw [← h2, (nmB_iff _).mpr (h.dr d h1).2.2.2.1] at n
    cases n
theorem OfM.getd {B A : Addr → Prop} {H : Hp} {a : OA} {S : OS} (h : OfM c B A H a S) {v : V} (n : isNmV v = false) : wfind S v = none := by
  cases v with
  | str z => exact h.named n
  | _ => rfl
theorem ok_draftO {f : Addr} {fd : FuncData} (F : Fun c.K "_draft_of" "Office._draft_of" s_Officedraft_of f fd) (G : GO P w mg base c CE CI CN CY fE fI fN fY) : FnOk P w c.K mg base (L2.CX P w) 2 f fd ["self", "writer"] (spDraftO c CI) := by
  have T := G.T
  have TI := G.TI
  have c_Idle := G.c_Idle
  refine F.okX sc_Officedraft_of (fun vs H Q E h => ?_) (fun cdv A0 outer s H vs Q E hr h => ?_)
  · obtain ⟨B, A, a, S, v, rfl, _⟩ := h
    rfl
  · obtain ⟨B, A, a, S, v, rfl, M, hv, q, qi⟩ := h
    have hu := hu_of hr
    refine ⟨_, (pss_cons (ps_if (PW.pt (pw_or (pt_not (pt_val (pe_cal G.is_name (hr.mono (by decide)) pass0 (pa_cons (pv 1) pa_nil)))) (pw_or1 (pt_cmp (pc_dnotin hu (pv 1) (pe_fld (pv 0) rfl)) rfl))))
      (pss_one (ps_raiseB rfl TI par_writer c_Idle (hr.mono (Nat.zero_le _)) (takes_of rfl rfl rfl rfl) (pa_cons (pv 1) pa_nil) (by rfl)))
      pss_nil)
    (pss_one (ps_ret (pe_dget hu (pe_fld (pv 0) rfl) (pv 1) (fun _ _ => rfl))))), ?_⟩
    rcases hv with ⟨z, rfl, hz⟩ | hn
    rotate_left
    · exact ⟨_, rfl, v, rfl, .inr ⟨hn, ⟨_, rfl, iteT ⟨_, rfl, _, rfl, fun d hd => qi d _ (M.getd (notStr_nm hn)) (sameAt (Same.refl H) hd) upd_same⟩⟩⟩⟩
    refine ⟨_, rfl, _, rfl, .inl ⟨z, rfl, hz, fun H1 s1 => ⟨_, rfl, ?_⟩⟩⟩
    cases eN : nmB z with
    | false => exact iteT ⟨_, rfl, _, rfl, fun d hd => qi d _ (M.named eN) (s1.trans (sameAt (Same.refl H1) hd)) upd_same⟩
    | true =>
      have M1 := M.same s1
      have hg := DGet.k (k := Sum.inr z) M1.dd
      rw [M1.val] at hg
      cases ez : S.find z with
      | none =>
        rw [ez] at hg
        refine iteF ⟨_, rfl, _, rfl, a.o, c.CO, a.dx, _, _, rfl, M1.o, T.cl, T.nD, rfl, a.dd, _, rfl, hg, _, rfl, iteT ?_⟩
        exact ⟨_, rfl, _, rfl, fun d hd => qi d _ ez (s1.trans (sameAt (Same.refl H1) hd)) upd_same⟩
      | some d =>
        rw [ez] at hg
        refine iteF ⟨_, rfl, _, rfl, a.o, c.CO, a.dx, _, _, rfl, M1.o, T.cl, T.nD, rfl, a.dd, _, rfl, hg, _, rfl, iteF ?_⟩
        exact ⟨_, rfl, a.o, c.CO, a.dx, _, _, rfl, M1.o, T.cl, T.nD, rfl, _, rfl, a.dd, _, rfl, hg, q d _ ez s1⟩
theorem OfM.begin_ {B A : Addr → Prop} {H : Hp} {a : OA} {S : OS} (h : OfM c B A H a S) {H1 : Hp} (s1 : Same H H1) {z : Str} {t tx l : Addr} (hz : IsNm z) (ez : S.find z = none) (nl : H l = none) (ht : H1 t = some (.ins c.CD tx (dftF S.cl l))) (nt : H t = none) (hl : H1 l = some (.lst [])) :
    Fr A H (fun p => A p ∨ p = l) (upd H1 a.dd (.dK (DrK (S.ps ++ [⟨z, t, l, S.cl, []⟩])))) ∧ OfM c (uni B fun p => A p ∨ p = l) (fun p => A p ∨ p = l) (upd H1 a.dd (.dK (DrK (S.ps ++ [⟨z, t, l, S.cl, []⟩])))) a { S with ps := S.ps ++ [⟨z, t, l, S.cl, []⟩] } := by
  have f : Fr A H (fun p => A p ∨ p = l) (upd H1 a.dd (.dK (DrK (S.ps ++ [⟨z, t, l, S.cl, []⟩])))) := ⟨fun q y hq nq => by rw [upd_ne (fun z : q = a.dd => nq (by rw [z]; exact h.Add))]; exact s1 _ _ hq, fun p q => q.imp id fun e => by rw [e]; exact nl⟩
  have no : a.o ≠ a.dd := ne_of h.o h.dd (by intro z; cases z)
  have np : a.pa ≠ a.dd := ne_of h.pa h.dd (by intro z; cases z)
  have nc : a.cb ≠ a.dd := ne_of h.cb h.dd (by intro z; cases z)
  have ld : l ≠ a.dd := fun z => by rw [z, h.dd] at nl; cases nl
  have td : t ≠ a.dd := fun z => by rw [z, h.dd] at nt; cases nt
  refine ⟨f, h.to f (fun _ x => .inl x) (fun p hp => ?_) rfl rfl rfl rfl rfl rfl (by rw [upd_ne no]; exact s1 _ _ h.o) upd_same (by rw [upd_ne np]; exact s1 _ _ h.pa) (by rw [upd_ne nc]; exact s1 _ _ h.cb) (fun s => h.jr.same s) h.x4 (fun s d' hd' => ?_) ?_ ?_ h.cbl h.pst⟩
  · by_cases q : p = a.dd
    · subst q
      exact ⟨_, upd_same, trivial⟩
    · rcases hp with hp | rfl
      · obtain ⟨u, e1, m⟩ := h.BT p (h.AB p hp)
        exact ⟨u, by rw [upd_ne q]; exact s1 _ _ e1, m⟩
      · exact ⟨.lst [], by rw [upd_ne q]; exact hl, trivial⟩
  · rcases List.mem_append.mp hd' with hd0 | hd0
    · obtain ⟨D0, m⟩ := h.dr d' hd0
      refine ⟨D0.mono s (fun x => .inl x) ?_, m⟩
      rw [upd_ne (h.lne hd0).2.1]
      obtain ⟨_, _, _, _, q, _⟩ := D0
      rw [q, s1 _ _ q]
    · obtain rfl := List.mem_singleton.mp hd0
      refine ⟨⟨tx, [], cut_at (fun b => ?_) ?_, .inr rfl, ?_, rfl, fun i v x e => nomatch e⟩, ?_, ?_, hz, Nat.zero_le _⟩
      · rcases b with b | b | b
        · exact h.free nt b
        · exact h.free nt (h.AB _ b)
        · have b : t = l := b
          rw [b, hl] at ht
          cases ht
      · show upd _ _ _ t = _
        rw [upd_ne td]
        exact ht
      · show upd _ _ _ l = _
        rw [upd_ne ld]
        exact hl
      · exact fun z => by have z : l = a.pa := z; rw [z, h.pa] at nl; cases nl
      · exact fun z => by have z : l = a.cb := z; rw [z, h.cb] at nl; cases nl
  · show ((S.ps ++ [_]).map _).Nodup
    rw [List.map_append, List.nodup_append]
    refine ⟨h.ndl, List.pairwise_singleton _ _, fun x hx y hy e => ?_⟩
    obtain ⟨d0, hd0, rfl⟩ := List.mem_map.mp hx
    obtain rfl := List.mem_singleton.mp hy
    obtain ⟨⟨_, _, _, _, q, _⟩, _⟩ := h.dr d0 hd0
    rw [e] at q
    rw [nl] at q
    cases q
  · show ((S.ps ++ [_]).map _).Nodup
    rw [List.map_append, List.nodup_append]
    refine ⟨h.ndz, List.pairwise_singleton _ _, fun x hx y hy e => ?_⟩
    obtain ⟨d0, hd0, rfl⟩ := List.mem_map.mp hx
    obtain rfl := List.mem_singleton.mp hy
    have := (List.find?_eq_none.mp ez) d0 hd0
    exact this (by simpa using e)
abbrev s_Office_begin : Stmt := inClass (topS 39) 2
theorem sc_Office_begin : FnScope ["self", "writer"] ["self", "writer"] (defScope s_Office_begin) := ⟨rfl, rfl, rfl, by decide +kernel, rfl, by decide +kernel, by decide +kernel⟩
theorem ok_beginO {f : Addr} {fd : FuncData} (F : Fun c.K "begin" "Office.begin" s_Office_begin f fd) (G : GO P w mg base c CE CI CN CY fE fI fN fY) : FnOk P w c.K mg base (L2.CX P w) 3 f fd ["self", "writer"] (spBeginO c CN CY) := by
  have T := G.T
  refine F.okX sc_Office_begin (fun vs H Q E h => ?_) (fun cdv A0 outer s H vs Q E hr h => ?_)
  · obtain ⟨B, A, a, S, v, rfl, _⟩ := h
    rfl
  · obtain ⟨B, A, a, S, v, rfl, M, hv, h9, q, qy, qn⟩ := h
    have hu := hu_of hr
    refine ⟨_, (pss_cons (ps_if (pt_not (pt_val (pe_cal G.is_name (hr.mono (by decide)) pass0 (pa_cons (pv 1) pa_nil))))
      (pss_one (ps_raiseB rfl G.TN par_value G.c_BadName (hr.mono (Nat.zero_le _)) (takes_of rfl rfl rfl rfl) (pa_cons (pv 1) pa_nil) (by rfl)))
      pss_nil)
    (pss_cons (ps_if (pt_cmp (pc_din hu (pv 1) (pe_fld (pv 0) rfl)) rfl)
      (pss_one (ps_raiseB rfl G.TY par_writer G.c_Busy (hr.mono (Nat.zero_le _)) (takes_of rfl rfl rfl rfl) (pa_cons (pv 1) pa_nil) (by rfl)))
      pss_nil)
    (pss_one (ps_dput hu (pe_fld (pv 0) rfl) (pv 1) (pe_mak G.Draft (hr.mono (by decide)) pass0 (pa_cons (pe_fld (pv 0) rfl) pa_nil)) rfl)))), ?_⟩
    rcases hv with ⟨z, rfl, hz⟩ | hn
    rotate_left
    · exact ⟨_, rfl, v, rfl, .inr ⟨hn, ⟨_, rfl, iteT ⟨_, rfl, _, rfl, fun d hd => qn d _ (notStr_nm hn) (sameAt (Same.refl H) hd) upd_same⟩⟩⟩⟩
    refine ⟨_, rfl, _, rfl, .inl ⟨z, rfl, hz, fun H1 s1 => ⟨_, rfl, ?_⟩⟩⟩
    cases eN : nmB z with
    | false => exact iteT ⟨_, rfl, _, rfl, fun d hd => qn d _ eN (s1.trans (sameAt (Same.refl H1) hd)) upd_same⟩
    | true =>
      have M1 := M.same s1
      have hg := DGet.k (k := Sum.inr z) M1.dd
      rw [M1.val] at hg
      cases ez : S.find z with
      | some d =>
        rw [ez] at hg
        refine iteF ⟨_, rfl, _, rfl, a.o, c.CO, a.dx, _, _, rfl, M1.o, T.cl, T.nD, rfl, a.dd, _, rfl, hg, _, rfl, iteT ?_⟩
        exact ⟨_, rfl, _, rfl, fun e hd => qy d e _ ez (s1.trans (sameAt (Same.refl H1) hd)) upd_same⟩
      | none =>
        rw [ez] at hg
        refine iteF ⟨_, rfl, _, rfl, a.o, c.CO, a.dx, _, _, rfl, M1.o, T.cl, T.nD, rfl, a.dd, _, rfl, hg, _, rfl, iteF ?_⟩
        refine ⟨_, rfl, a.o, c.CO, a.dx, _, _, rfl, M1.o, T.cl, T.nC, rfl, fun t tx nt ntx ne => ?_⟩
        have s2 : Same H1 (upd (upd H1 tx (.own t)) t (.ins c.CD tx [])) := (sameAt (Same.refl _) ntx).trans (sameAt (Same.refl _) (by rw [upd_ne (Ne.symm ne)]; exact nt))
        have ht2 : (upd (upd H1 tx (.own t)) t (.ins c.CD tx [])) t = some (.ins c.CD tx []) := upd_same
        refine ⟨t, tx, S.cl, rfl, ht2, fun l H3 hl h3t h3l k3 => ?_⟩
        have s13 : Same H1 H3 := fun c x hc => k3 c x (s2 _ _ hc) (fun e => by rw [e, nt] at hc; cases hc)
        have M3 := M1.same s13
        refine ⟨rfl, _, rfl, a.o, c.CO, a.dx, _, _, rfl, M3.o, T.cl, T.nD, rfl, _, rfl, a.dd, _, rfl, DPut.k (k := Sum.inr z) M3.dd (small1000 (by unfold DrK; rw [List.length_map]; omega)), ?_⟩
        have e0 : putK (DrK S.ps) (Sum.inr z) (V.ref t) = DrK (S.ps ++ [⟨z, t, l, S.cl, []⟩]) := by
          rw [putK_new _ (by rw [DrK_val]; show Option.map _ (S.find z) = none; rw [ez]; rfl)]
          unfold DrK
          rw [List.map_append]
          rfl
        rw [e0]
        have ht0 := no_of s1 nt
        have hl0 := no_of (s1.trans s2) hl
        obtain ⟨fr, MF⟩ := M.begin_ (s1.trans s13) ((nmB_iff z).mp eN) ez hl0 h3t ht0 h3l
        exact q z t l _ _ rfl eN ez fr (fun p => Iff.rfl) MF
end
end Ash

set_option Elab.async false
set_option linter.all false
set_option maxRecDepth 100000
set_option maxHeartbeats 4000000
namespace Ash
open PySem PySem.Spec PyProof.Rows L2
open C8 (pss_cut)
section
variable {P : Program} {w : World} {mg : Str → Option Value} {base : Heap} {c : Cls6} {CE CI CN CY fE fI fN fY : Addr}
structure GO2 (P : Program) (w : World) (mg : Str → Option Value) (base : Heap) (c : Cls6) (CE CI CN CY fE fI fN fY : Addr) : Prop extends GO P w mg base c CE CI CN CY fE fI fN fY where
  draft_of : Met P w c.K mg base (L2.CX P w) c.CO "_draft_of" 2 ["self", "writer"] (spDraftO c CI)
theorem vs_drop (x : Ent) (r : Int) : ∃ y : Ent, y.vs = x.vs.dropLast ++ [.int r] ∧ y.id = x.id ∧ (x.ok → y.ok) ∧ y.arr = r ∧ (∀ L, InB L x → InB L y) := by
  cases x with
  | row id s k m a q => exact ⟨.row id s k m a r, rfl, rfl, fun h => ⟨h.1, fun _ _ _ _ _ _ e => by cases e; exact h.2 _ _ _ _ _ _ rfl⟩, rfl, fun L h _ _ _ _ _ _ e => by cases e; exact h _ _ _ _ _ _ rfl⟩
  | fix id m a q => exact ⟨.fix id m a r, rfl, rfl, fun h => ⟨h.1, fun _ _ _ _ _ _ e => by cases e⟩, rfl, fun L h _ _ _ _ _ _ e => by cases e⟩
  | gone id q => exact ⟨.gone id r, rfl, rfl, fun h => ⟨h.1, fun _ _ _ _ _ _ e => by cases e⟩, rfl, fun L h _ _ _ _ _ _ e => by cases e⟩
theorem vs_len (x : Ent) : x.vs.length ≤ sizeLine := by
  rw [sizeLine_eq]
  cases x <;> (show _ ≤ 16777216; simp [Ent.vs])
abbrev s_Officeput : Stmt := inClass (topS 39) 11
theorem sc_Officeput : FnScope ["self", "writer", "entry", "entries"] ["self", "writer", "entry"] (defScope s_Officeput) := ⟨rfl, rfl, rfl, by decide +kernel, rfl, by decide +kernel, by decide +kernel⟩
theorem ok_putO {f : Addr} {fd : FuncData} (F : Fun c.K "_put" "Office._put" s_Officeput f fd) (B : Blt mg) (G : GO2 P w mg base c CE CI CN CY fE fI fN fY) : FnOk P w c.K mg base (L2.CX P w) 4 f fd ["self", "writer", "entry"] (spPutO c CI CE) := by
  have T := G.T
  have TD := G.TD
  have TB := G.TB
  obtain ⟨t1, g_LONGEST_DRAFT⟩ := G.C2.k_LD
  refine F.okX sc_Officeput (fun vs H Q E h => ?_) (fun cdv A0 outer s H vs Q E hr h => ?_)
  · obtain ⟨B, A, a, S, v, en, x, rfl, _⟩ := h
    rfl
  · obtain ⟨B', A, a, S, v, en, x, rfl, M, hv, he, ok, q, qe, qi⟩ := h
    have hu := hu_of hr
    refine ⟨_, (pss_cons (ps_set (i := 3) sc_Officeput.nd rfl (Or.inl rfl) (pe_fld (pe_met T.cl G.draft_of (hr.mono (by decide)) (passE (takes_of rfl rfl rfl rfl)) (pv 0) (pa_cons (pv 1) pa_nil)) rfl))
    (pss_cons (ps_if (PW.pt (pw_or (pt_cmpR op_eq (pe_callB call_len_seq (by rfl) B.len (by decide +kernel) (pa_cons (pv 3) pa_nil)) (pe_glob (v := .int 20) (by rfl) g_LONGEST_DRAFT ⟨_, rfl⟩) (nomark _)) (pw_or1 (pt_not (pt_val (pe_cal G.is_entry (hr.mono (by decide)) pass0 (pa_cons (pe_tup (StX.pa_star (pv 2) (pa_cons pe_int pa_nil))) pa_nil)))))))
      (pss_one (ps_raiseB rfl G.TE par_at G.c_BadEntry (hr.mono (Nat.zero_le _)) (takes_of rfl rfl rfl rfl) (pa_cons (pe_callB call_len_seq (by rfl) B.len (by decide +kernel) (pa_cons (pv 3) pa_nil)) pa_nil) (by rfl)))
      pss_nil)
    (pss_cons (ps_if (PW.pt (pw_and (pt_cmpR op_eq (pe_ix ix_tup (pv 2) pe_int (fun _ _ => rfl)) pe_str (nomark _)) (pw_and1 (pt_not (pt_val (pe_met TB.cl G.has (hr.mono (by decide)) pass0 (pe_fld (pv 0) rfl) (pa_cons (pe_ix ix_tup (pv 2) pe_int (fun _ _ => rfl)) pa_nil)))))))
      (pss_one (ps_raiseB rfl G.TE par_at G.c_BadEntry (hr.mono (Nat.zero_le _)) (takes_of rfl rfl rfl rfl) (pa_cons (pe_callB call_len_seq (by rfl) B.len (by decide +kernel) (pa_cons (pv 3) pa_nil)) pa_nil) (by rfl)))
      pss_nil)
    (pss_one (ps_expr (pe_bm PySem.F.plainAttrs_list PySem.F.slot_list_append PySem.F.type_list_append mt_append (pv 3) (pa_cons (pv 2) pa_nil))))))), ?_⟩
    refine ⟨_, rfl, a.o, a.dx, _, rfl, M.o, rfl, _, rfl, B', A, a, S, v, rfl, M, hv, fun d H1 ed s1 => ?_, fun e H1 en s1 x => ?_⟩
    · have M1 := M.same s1
      obtain ⟨tx, us, hft, hA, hl, hd⟩ := (M1.dr d (by cases v with | str z => exact (M.find ed).1 | _ => cases ed)).1
      refine ⟨d.t, c.CD, tx, _, _, rfl, (cut_same _ _ _ _ hft), TD.cl, TD.nE, rfl, ?_⟩
      have hl1 : H1 d.l = some (.lst us) := hl
      have m1 := hd.1
      have l20 := (M1.dr d (by cases v with | str z => exact (M.find ed).1 | _ => cases ed)).2.2.2.2
      have e20 : decide (V.int (us.length : Int) = V.int 20) = decide (d.es.length = 20) := decide_eq_decide.mpr ⟨fun z => by have := V.int.inj z; omega, fun z => by rw [m1, z]; rfl⟩
      have bad : (d.es.length = 20 ∨ ¬ InB S.L x) → ∀ H2, Same H1 H2 → ∃ p ys, [V.ref d.l] = [V.ref p] ∧ (SqL c.K H2 p ys ∨ SqT c.K H2 p ys) ∧ ∃ vv, [V.int (ys.length : Int)] = [vv] ∧ ∀ e, H2 e = none → E (.ref CE) (some e) (upd H2 e (.xd [("at", vv)])) := fun hb H2 s2 =>
        ⟨d.l, us, rfl, .inl (SqL.of (s2 _ _ hl1)), _, rfl, fun e hx => by rw [m1]; exact qe d e _ ed hb ((s1.trans s2).trans (sameAt (Same.refl _) hx)) upd_same⟩
      refine ⟨_, rfl, d.l, us, rfl, .inl (SqL.of hl1), rfl, _, rfl, ?_⟩
      rw [e20]
      by_cases c20 : d.es.length = 20
      · rw [decide_eq_true c20]
        exact iteT ⟨_, rfl, bad (.inl c20) H1 (Same.refl _)⟩
      rw [decide_eq_false c20]
      have he1 : H1 en = some (.tup x.vs.dropLast) := s1 _ _ he
      obtain ⟨y, ey, yid, yok, yarr, yin⟩ := vs_drop x 0
      refine iteF ⟨_, rfl, en, _, rfl, .inl (SqT.of he1), (by rw [← ey]; exact vs_len y), fun t ht => ?_⟩
      have s2 : Same H1 (upd H1 t (.tup (x.vs.dropLast ++ [V.int 0]))) := sameAt (Same.refl _) ht
      refine ⟨_, rfl, .inl ⟨t, y, rfl, by unfold EntAt; rw [upd_same, ey], yok ok, fun H2 s3 => ⟨_, rfl, iteF ?_⟩⟩⟩
      have s12 := s2.trans s3
      have he2 := s12 _ _ he1
      have M2 := M1.same s12
      have hl2 : H2 d.l = some (.lst us) := s12 _ _ hl1
      have d2 : d ∈ S.ps := by cases v with | str z => exact (M.find ed).1 | _ => cases ed
      have sz : us.length < sizeLine := small1000 (by omega)
      have fin : InB S.L x → ∀ H3, Same H2 H3 → Q .non (upd H3 d.l (.lst (us ++ [.ref en]))) := fun hi H3 s3 => by
        have s13 := (s1.trans s12).trans s3
        obtain ⟨tx0, us0, _, _, q0, q4⟩ := (M.dr d d2).1
        have h0 := q0
        rw [s1 _ _ q0] at hl1
        cases hl1
        obtain ⟨fr, MF⟩ := M.put s13 d2 h0 q4 (s13 _ _ he) ok (by omega)
        exact q d _ ed (by omega) hi fr MF
      cases x with
      | row number s k m am r =>
        refine ⟨_, rfl, _, _, _, _, rfl, rfl, SqT.of he2, rfl, rfl, _, rfl, iteT ?_⟩
        have hn := (ok.2 _ _ _ _ _ _ rfl).1
        have hbk : BookAt c.CB H2 a.b S.L := M2.bk.same (cut_same _ _)
        obtain ⟨bx, bd, L', b1, b2⟩ := id hbk
        refine ⟨_, rfl, a.o, c.CO, a.dx, _, _, rfl, M2.o, T.cl, T.nB, rfl, a.b, bx, _, rfl, b1, rfl, _, rfl, _, _, _, _, rfl, rfl, SqT.of he2, rfl, a.b, S.L, s, rfl, hbk, hn, fun H3 s3 => ⟨_, rfl, ?_⟩⟩
        cases el : (S.L.lookup s).isSome with
        | false => exact iteT ⟨_, rfl, bad (.inr fun z => by have := z _ _ _ _ _ _ rfl; rw [el] at this; cases this) H3 (s12.trans s3)⟩
        | true => exact iteF ⟨_, rfl, .inl ⟨rfl, _, SqL.of (s3 _ _ hl2)⟩, _, rfl, d.l, _, _, rfl, rfl, s3 _ _ hl2, sz, fin (fun _ _ _ _ _ _ e => by cases e; exact el) H3 s3⟩
      | fix number m am r =>
        exact ⟨_, rfl, _, _, _, _, rfl, rfl, SqT.of he2, rfl, rfl, _, rfl, iteF (iteF ⟨_, rfl, .inl ⟨rfl, _, SqL.of hl2⟩, _, rfl, d.l, _, _, rfl, rfl, hl2, sz, fin (fun _ _ _ _ _ _ e => by cases e) H2 (Same.refl _)⟩)⟩
      | gone number r =>
        exact ⟨_, rfl, _, _, _, _, rfl, rfl, SqT.of he2, rfl, rfl, _, rfl, iteF (iteF ⟨_, rfl, .inl ⟨rfl, _, SqL.of hl2⟩, _, rfl, d.l, _, _, rfl, rfl, hl2, sz, fin (fun _ _ _ _ _ _ e => by cases e) H2 (Same.refl _)⟩)⟩
    · exact qi e H1 en s1 x
end
end Ash

set_option Elab.async false
set_option linter.all false
set_option maxRecDepth 100000
set_option maxHeartbeats 4000000
namespace Ash
open PySem PySem.Spec PyProof.Rows L2
open C8 (pss_cut)
theorem Fr.pre {A A' : Addr → Prop} {H H1 H' : Hp} (s : Same H H1) (f : Fr A H1 A' H') : Fr A H A' H' := ⟨fun c x h n => f.k c x (s _ _ h) n, fun c h => (f.g c h).imp id fun e => no_of s e⟩
theorem Fr.post {A A' : Addr → Prop} {H H1 H' : Hp} (f : Fr A H A' H1) (s : Same H1 H') : Fr A H A' H' := ⟨fun c x h n => s _ _ (f.k c x h n), f.g⟩
def PutOut (c : Cls6) (CI CE : Addr) (B A : Addr → Prop) (H : Hp) (a : OA) (S : OS) (v : V) (x : Ent) (Q : VK) (E : XK) : Prop :=
  (∀ d H', wfind S v = some d → d.es.length < 20 → InB S.L x → Fr A H A H' → OfM c (uni B A) A H' a (S.putd d.z x) → Q .non H') ∧
  (∀ d e H', wfind S v = some d → (d.es.length = 20 ∨ ¬ InB S.L x) → Same H H' → Xd H' e "at" (.int d.es.length) → E (.ref CE) (some e) H') ∧
  (∀ e H', wfind S v = none → Same H H' → Xd H' e "writer" v → E (.ref CI) (some e) H')
theorem PutOut.pre {c : Cls6} {CI CE : Addr} {B A : Addr → Prop} {H H1 : Hp} {a : OA} {S : OS} {v : V} {x : Ent} {Q : VK} {E : XK} (h : PutOut c CI CE B A H a S v x Q E) (s : Same H H1) : PutOut c CI CE B A H1 a S v x Q E :=
  ⟨fun d H' e1 e2 e3 f M => h.1 d H' e1 e2 e3 (f.pre s) M, fun d e H' e1 e2 s' x => h.2.1 d e H' e1 e2 (s.trans s') x, fun e H' e1 s' x => h.2.2 e H' e1 (s.trans s') x⟩
theorem StrOk.same {K : PySem.W.Frag} {H H' : Hp} {v : V} (h : StrOk K H v) (s : Same H H') : StrOk K H' v := by
  rcases h with h | ⟨t, ty, k⟩
  · exact .inl h
  · exact .inr ⟨t, tyx_same ty s, k⟩
def spRowO (c : Cls6) (CI CE : Addr) : Sp := fun vs H Q E => ∃ (B A : Addr → Prop) (a : OA) (S : OS) (v : V) (n : Int) (s k : Str) (m am : Int), vs = [.ref a.o, v, .int n, .str s, .str k, .int m, .int am] ∧ OfM c B A H a S ∧ StrOk c.K H v ∧ (Ent.row n s k m am 0).ok ∧ PutOut c CI CE B A H a S v (.row n s k m am 0) Q E
def spFixO (c : Cls6) (CI CE : Addr) : Sp := fun vs H Q E => ∃ (B A : Addr → Prop) (a : OA) (S : OS) (v : V) (n m am : Int), vs = [.ref a.o, v, .int n, .int m, .int am] ∧ OfM c B A H a S ∧ StrOk c.K H v ∧ (Ent.fix n m am 0).ok ∧ PutOut c CI CE B A H a S v (.fix n m am 0) Q E
def spGoneO (c : Cls6) (CI CE : Addr) : Sp := fun vs H Q E => ∃ (B A : Addr → Prop) (a : OA) (S : OS) (v : V) (n : Int), vs = [.ref a.o, v, .int n] ∧ OfM c B A H a S ∧ StrOk c.K H v ∧ (Ent.gone n 0).ok ∧ PutOut c CI CE B A H a S v (.gone n 0) Q E
theorem WithN.same {H H' : Hp} {us : List V} {es : List Ent} {w : V} (h : WithN H us es w) (s : Same H H') : WithN H' us es w := ⟨h.1, fun i v x a b => by
  obtain ⟨e, h1, h2, h3⟩ := h.2 i v x a b
  exact ⟨e, h1, s _ _ h2, h3⟩⟩
theorem WithN.snoc {H : Hp} {us : List V} {es : List Ent} {e : Addr} {x : Ent} {w : V} (h : WithN H us es w) (he : H e = some (.tup (x.vs.dropLast ++ [w]))) (ok : x.ok) : WithN H (us ++ [.ref e]) (es ++ [x]) w := by
  obtain ⟨hl, h⟩ := h
  refine ⟨by rw [List.length_append, List.length_append, hl]; rfl, fun i v y a b => ?_⟩
  by_cases c : i < us.length
  · rw [List.getElem?_append_left c] at a
    rw [List.getElem?_append_left (by omega)] at b
    exact h i v y a b
  · have hi : i = us.length := by
      have := (List.getElem?_eq_some_iff.mp a).1
      rw [List.length_append] at this
      have : i < us.length + 1 := this
      omega
    subst hi
    rw [List.getElem?_append_right (Nat.le_refl _), Nat.sub_self] at a
    rw [hl, List.getElem?_append_right (Nat.le_refl _), Nat.sub_self] at b
    cases a
    cases b
    exact ⟨e, rfl, he, ok⟩
theorem vs_lenW (x : Ent) (w : V) : (x.vs.dropLast ++ [w]).length ≤ sizeLine := by
  rw [sizeLine_eq]
  cases x <;> (show _ ≤ 16777216; simp [Ent.vs])
section
variable {P : Program} {w : World} {mg : Str → Option Value} {base : Heap} {c : Cls6} {CE CI CN CY fE fI fN fY : Addr}
structure GO3 (P : Program) (w : World) (mg : Str → Option Value) (base : Heap) (c : Cls6) (CE CI CN CY fE fI fN fY : Addr) : Prop extends GO2 P w mg base c CE CI CN CY fE fI fN fY where
  put_ : Met P w c.K mg base (L2.CX P w) c.CO "_put" 4 ["self", "writer", "entry"] (spPutO c CI CE)
theorem OfM.noadd {B A : Addr → Prop} {H : Hp} {a : OA} {S : OS} (h : OfM c B A H a S) {t : Addr} {o : HO} (ht : H t = none) : Same H (upd H t o) := sameAt (Same.refl _) ht
abbrev s_Office_row : Stmt := inClass (topS 39) 3
theorem sc_Office_row : FnScope ["self", "writer", "number", "stream", "key", "moment", "amount"] ["self", "writer", "number", "stream", "key", "moment", "amount"] (defScope s_Office_row) := ⟨rfl, rfl, rfl, by decide +kernel, rfl, by decide +kernel, by decide +kernel⟩
theorem ok_rowO {f : Addr} {fd : FuncData} (F : Fun c.K "row" "Office.row" s_Office_row f fd) (G : GO3 P w mg base c CE CI CN CY fE fI fN fY) : FnOk P w c.K mg base (L2.CX P w) 5 f fd ["self", "writer", "number", "stream", "key", "moment", "amount"] (spRowO c CI CE) := by
  have T := G.T
  refine F.okX sc_Office_row (fun vs H Q E h => ?_) (fun cdv A0 outer s H vs Q E hr h => ?_)
  · obtain ⟨B, A, a, S, v, n, st, k, m, am, rfl, _⟩ := h
    rfl
  · obtain ⟨B, A, a, S, v, n, st, k, m, am, rfl, M, hv, ok, q⟩ := h
    refine ⟨_, (pss_one (ps_expr (pe_met T.cl G.put_ (hr.mono (by decide)) (passE (takes_of rfl rfl rfl rfl)) (pv 0) (pa_cons (pv 1) (pa_cons (pe_tup (pa_cons pe_str (pa_cons (pv 2) (pa_cons (pv 3) (pa_cons (pv 4) (pa_cons (pv 5) (pa_cons (pv 6) pa_nil))))))) pa_nil))))), ?_⟩
    refine ⟨_, rfl, a.o, a.dx, _, rfl, M.o, rfl, _, rfl, _, rfl, _, rfl, _, rfl, _, rfl, _, rfl, (by show 6 ≤ sizeLine; decide), fun t ht => ?_⟩
    have s1 : Same H (upd H t (.tup [.str "row", .int n, .str st, .str k, .int m, .int am])) := sameAt (Same.refl _) ht
    exact ⟨B, A, a, S, v, t, .row n st k m am 0, rfl, M.same s1, hv.same s1, upd_same, ok, (q.pre s1).1, (q.pre s1).2.1, (q.pre s1).2.2⟩
abbrev s_Office_fix : Stmt := inClass (topS 39) 4
theorem sc_Office_fix : FnScope ["self", "writer", "number", "moment", "amount"] ["self", "writer", "number", "moment", "amount"] (defScope s_Office_fix) := ⟨rfl, rfl, rfl, by decide +kernel, rfl, by decide +kernel, by decide +kernel⟩
theorem ok_fixO {f : Addr} {fd : FuncData} (F : Fun c.K "fix" "Office.fix" s_Office_fix f fd) (G : GO3 P w mg base c CE CI CN CY fE fI fN fY) : FnOk P w c.K mg base (L2.CX P w) 5 f fd ["self", "writer", "number", "moment", "amount"] (spFixO c CI CE) := by
  have T := G.T
  refine F.okX sc_Office_fix (fun vs H Q E h => ?_) (fun cdv A0 outer s H vs Q E hr h => ?_)
  · obtain ⟨B, A, a, S, v, n, m, am, rfl, _⟩ := h
    rfl
  · obtain ⟨B, A, a, S, v, n, m, am, rfl, M, hv, ok, q⟩ := h
    refine ⟨_, (pss_one (ps_expr (pe_met T.cl G.put_ (hr.mono (by decide)) (passE (takes_of rfl rfl rfl rfl)) (pv 0) (pa_cons (pv 1) (pa_cons (pe_tup (pa_cons pe_str (pa_cons (pv 2) (pa_cons (pv 3) (pa_cons (pv 4) pa_nil))))) pa_nil))))), ?_⟩
    refine ⟨_, rfl, a.o, a.dx, _, rfl, M.o, rfl, _, rfl, _, rfl, _, rfl, _, rfl, (by show 4 ≤ sizeLine; decide), fun t ht => ?_⟩
    have s1 : Same H (upd H t (.tup [.str "fix", .int n, .int m, .int am])) := sameAt (Same.refl _) ht
    exact ⟨B, A, a, S, v, t, .fix n m am 0, rfl, M.same s1, hv.same s1, upd_same, ok, (q.pre s1).1, (q.pre s1).2.1, (q.pre s1).2.2⟩
abbrev s_Office_gone : Stmt := inClass (topS 39) 5
theorem sc_Office_gone : FnScope ["self", "writer", "number"] ["self", "writer", "number"] (defScope s_Office_gone) := ⟨rfl, rfl, rfl, by decide +kernel, rfl, by decide +kernel, by decide +kernel⟩
theorem ok_goneO {f : Addr} {fd : FuncData} (F : Fun c.K "gone" "Office.gone" s_Office_gone f fd) (G : GO3 P w mg base c CE CI CN CY fE fI fN fY) : FnOk P w c.K mg base (L2.CX P w) 5 f fd ["self", "writer", "number"] (spGoneO c CI CE) := by
  have T := G.T
  refine F.okX sc_Office_gone (fun vs H Q E h => ?_) (fun cdv A0 outer s H vs Q E hr h => ?_)
  · obtain ⟨B, A, a, S, v, n, rfl, _⟩ := h
    rfl
  · obtain ⟨B, A, a, S, v, n, rfl, M, hv, ok, q⟩ := h
    refine ⟨_, (pss_one (ps_expr (pe_met T.cl G.put_ (hr.mono (by decide)) (passE (takes_of rfl rfl rfl rfl)) (pv 0) (pa_cons (pv 1) (pa_cons (pe_tup (pa_cons pe_str (pa_cons (pv 2) pa_nil))) pa_nil))))), ?_⟩
    refine ⟨_, rfl, a.o, a.dx, _, rfl, M.o, rfl, _, rfl, _, rfl, (by show 2 ≤ sizeLine; decide), fun t ht => ?_⟩
    have s1 : Same H (upd H t (.tup [.str "gone", .int n])) := sameAt (Same.refl _) ht
    exact ⟨B, A, a, S, v, t, .gone n 0, rfl, M.same s1, hv.same s1, upd_same, ok, (q.pre s1).1, (q.pre s1).2.1, (q.pre s1).2.2⟩
theorem wfind_mem {B A : Addr → Prop} {H : Hp} {a : OA} {S : OS} (M : OfM c B A H a S) {v : V} {d : Dr} (e : wfind S v = some d) : d ∈ S.ps ∧ v = .str d.z := by
  cases v with
  | str z =>
    obtain ⟨h1, h2⟩ := M.find e
    exact ⟨h1, by rw [h2]⟩
  | _ => cases e
abbrev s_Office_drop : Stmt := inClass (topS 39) 7
theorem sc_Office_drop : FnScope ["self", "writer"] ["self", "writer"] (defScope s_Office_drop) := ⟨rfl, rfl, rfl, by decide +kernel, rfl, by decide +kernel, by decide +kernel⟩
theorem ok_dropO {f : Addr} {fd : FuncData} (F : Fun c.K "drop" "Office.drop" s_Office_drop f fd) (G : GO2 P w mg base c CE CI CN CY fE fI fN fY) : FnOk P w c.K mg base (L2.CX P w) 3 f fd ["self", "writer"] (spDropO c CI) := by
  have T := G.T
  refine F.okX sc_Office_drop (fun vs H Q E h => ?_) (fun cdv A0 outer s H vs Q E hr h => ?_)
  · obtain ⟨B, A, a, S, v, rfl, _⟩ := h
    rfl
  · obtain ⟨B, A, a, S, v, rfl, M, hv, q, qi⟩ := h
    refine ⟨_, (pss_cons (ps_expr (pe_met T.cl G.draft_of (hr.mono (by decide)) (passE (takes_of rfl rfl rfl rfl)) (pv 0) (pa_cons (pv 1) pa_nil)))
    (pss_one (ps_ddel (pe_fld (pv 0) rfl) (pv 1)))), ?_⟩
    refine ⟨_, rfl, a.o, a.dx, _, rfl, M.o, rfl, _, rfl, B, A, a, S, v, rfl, M, hv, fun d H1 ed s1 => ?_, fun e H1 en s1 x => qi e H1 en s1 x⟩
    have M1 := M.same s1
    obtain ⟨hd, rfl⟩ := wfind_mem M ed
    refine ⟨_, rfl, a.o, c.CO, a.dx, _, _, rfl, M1.o, T.cl, T.nD, rfl, _, rfl, a.dd, _, Sum.inr d.z, rfl, M1.dd, rfl, ?_, ?_⟩
    · rw [M1.val]
      have : S.find d.z = some d := ed
      rw [this]
      rfl
    · rw [DrK_drop]
      obtain ⟨fr, MF⟩ := M.drop s1 d.z
      exact q d _ ed fr MF
abbrev s_Office_writers : Stmt := inClass (topS 39) 1
theorem sc_Office_writers : FnScope ["self"] ["self"] (defScope s_Office_writers) := ⟨rfl, rfl, rfl, by decide +kernel, rfl, by decide +kernel, by decide +kernel⟩
theorem ok_writersO {f : Addr} {fd : FuncData} (F : Fun c.K "writers" "Office.writers" s_Office_writers f fd) (B : Blt mg) (T : Co c.K mg c.CO) : FnOk P w c.K mg base CX0 1 f fd ["self"] (spWritersO c) := by
  refine F.ok sc_Office_writers (fun vs H Q E h => ?_) (fun cdv A0 outer s H vs Q E hr h => ?_)
  · obtain ⟨B, A, a, S, rfl, _⟩ := h
    rfl
  · obtain ⟨B', A, a, S, rfl, M, h6, q⟩ := h
    refine ⟨_, (pss_one (ps_ret (pe_callB cr_sortedS (by rfl) B.sorted (by decide +kernel) (pa_cons (pe_callTy (call_listD (by rfl)) (by rfl) B.list (by decide +kernel) (pa_cons (pe_fld (pv 0) rfl) pa_nil)) pa_nil)))), ?_⟩
    refine ⟨_, rfl, a.o, c.CO, a.dx, _, _, rfl, M.o, T.cl, T.nD, rfl, a.dd, _, rfl, .of M.dd, fun l hl => ⟨l, S.ps.map (·.z), rfl, ?_, ?_, fun ys p pm so hp => ?_⟩⟩
    · have e : (DrK S.ps).map (fun kv => kV kv.1) = (S.ps.map (·.z)).map V.str := by
        unfold DrK
        rw [List.map_map, List.map_map]
        rfl
      rw [e]
      exact SqL.of upd_same
    · rw [List.length_map]; exact h6
    · have hp0 : H p = none := by
        by_cases z : p = l
        · rw [z]; exact hl
        · rw [upd_ne z] at hp; exact hp
      exact q ys p _ pm so ((sameAt (Same.refl _) hl).trans (sameAt (Same.refl _) hp)) hp0 upd_same
abbrev s_Office_draft : Stmt := inClass (topS 39) 6
theorem sc_Office_draft : FnScope ["self", "writer", "entry"] ["self", "writer"] (defScope s_Office_draft) := ⟨rfl, rfl, rfl, by decide +kernel, rfl, by decide +kernel, by decide +kernel⟩
theorem ok_tellO {f : Addr} {fd : FuncData} (F : Fun c.K "draft" "Office.draft" s_Office_draft f fd) (G : GO2 P w mg base c CE CI CN CY fE fI fN fY) : FnOk P w c.K mg base (L2.CX P w) 3 f fd ["self", "writer"] (spTellO c CI) := by
  have T := G.T
  have TD := G.TD
  refine F.okX sc_Office_draft (fun vs H Q E h => ?_) (fun cdv A0 outer s H vs Q E hr h => ?_)
  · obtain ⟨B, A, a, S, v, rfl, _⟩ := h
    rfl
  · obtain ⟨B, A, a, S, v, rfl, M, hv, q, qi⟩ := h
    refine ⟨_, (pss_one (ps_ret (pe_lc (own := [("entry", 2)]) (g := gName 2) (tt := tYes) (by rfl) sc_Office_draft.nd (pi_list (pe_fld (pe_met T.cl G.draft_of (hr.mono (by decide)) (passE (takes_of rfl rfl rfl rfl)) (pv 0) (pa_cons (pv 1) pa_nil)) rfl)) (blkOk_by (own := [("entry", 2)]) (N := ["self", "writer", "entry"]) (sc := defScope s_Office_draft) (by decide +kernel)) (fun _ _ _ _ _ => (pg_name (i := 2) sc_Office_draft.nd rfl (Or.inl rfl))) (fun _ _ _ _ _ => pts_nil) (fun _ _ _ _ _ => (show PE _ _ (tTup (StX.tStar c.K (tVar 2) (tCons (tC V.non) tNil))) from (pe_tup (StX.pa_star (pv 2) (pa_cons pe_non pa_nil)))))))), ?_⟩
    refine ⟨_, rfl, a.o, a.dx, _, rfl, M.o, rfl, _, rfl, B, A, a, S, v, rfl, M, hv, fun d H1 ed s1 => ?_, fun e H1 en s1 x => qi e H1 en s1 x⟩
    have M1 := M.same s1
    obtain ⟨hd, rfl⟩ := wfind_mem M ed
    obtain ⟨⟨tx, us, hft, hA, hl, hde⟩, _, _, _, h20⟩ := M1.dr d hd
    have hde1 := hde.same (cut_same _ _)
    refine ⟨d.t, c.CD, tx, _, _, rfl, (cut_same _ _ _ _ hft), TD.cl, TD.nE, rfl, d.l, rfl, ⟨_, SqL.of hl⟩, fun D hD => ?_⟩
    refine lc_list (a := d.l) (xs := us) (fun i H3 => ∃ us', H3 D = some (.lst us') ∧ WithN H3 us' (d.es.take i) .non ∧ Same H1 H3) ⟨[], upd_same, ⟨rfl, fun _ _ _ e => nomatch e⟩, sameAt (Same.refl _) hD⟩ (fun i H3 _ hv => by obtain ⟨_, _, _, h⟩ := hv; exact SqL.of (h _ _ hl)) ?_ ?_
    · rintro i v H3 hvi ⟨us', hD3, hW, s3⟩
      have hil := (List.getElem?_eq_some_iff.mp hvi).1
      obtain ⟨x, hx⟩ : ∃ x, d.es[i]? = some x := ⟨_, List.getElem?_eq_getElem (by rw [← hde.1]; exact hil)⟩
      obtain ⟨e, rfl, he, ok⟩ := hde1.2 i v x hvi hx
      have he3 : H3 e = some (.tup x.vs.dropLast) := s3 _ _ he
      refine ⟨rfl, _, rfl, e, _, rfl, .inl (SqT.of he3), vs_lenW x .non, fun t ht => ?_⟩
      have s4 : Same H3 (upd H3 t (.tup (x.vs.dropLast ++ [V.non]))) := sameAt (Same.refl _) ht
      have tD : D ≠ t := fun z => by rw [← z, hD3] at ht; cases ht
      have hul : us'.length ≤ 20 := by
        have := hW.1
        rw [List.length_take] at this
        omega
      refine ⟨us', s4 _ _ hD3, small1000 (by omega), us' ++ [.ref t], upd_same, ?_, sameAt (s3.trans s4) hD⟩
      rw [list_take' hx]
      have s5 : ∀ (k : Addr) (xs : List V), (upd H3 t (.tup (x.vs.dropLast ++ [V.non]))) k = some (.tup xs) → (upd (upd H3 t (.tup (x.vs.dropLast ++ [V.non]))) D (.lst (us' ++ [V.ref t]))) k = some (.tup xs) := fun k xs h => by
        rw [upd_ne (fun z => by rw [z, s4 _ _ hD3] at h; cases h)]
        exact h
      refine WithN.snoc ⟨hW.1, fun k v y a b => ?_⟩ (s5 _ _ upd_same) ok
      obtain ⟨e', h1, h2, h3⟩ := hW.2 k v y a b
      exact ⟨e', h1, s5 _ _ (s4 _ _ h2), h3⟩
    · rintro H3 ⟨us', hD3, hW, s3⟩
      rw [List.take_of_length_le (by rw [hde.1]; exact Nat.le_refl _)] at hW
      exact q d D us' H3 ed (s1.trans s3) (no_of s1 hD) hD3 hW
end
end Ash

set_option Elab.async false
set_option linter.all false
set_option maxRecDepth 100000
set_option maxHeartbeats 4000000
namespace Ash
open PySem PySem.Spec PyProof.Rows L2
open C8 (pss_cut)
open RZ (pi_zipM)
/-! ### stale drafts, the journal behind a draft -/
def laterIds (xs : List Ent) (cb : List Int) (n : Int) : List Int := ((xs.zip cb).filter fun p => decide (n < p.2)).map fun p => p.1.id
def stale (S : OS) (d : Dr) : Option Int := (d.es.find? fun x => decide (x.id ∈ laterIds S.xs S.cb d.n)).map Ent.id
def spFreshO (c : Cls6) (CS : Addr) : Sp := fun vs H Q E => ∃ (B A : Addr → Prop) (a : OA) (S : OS) (d : Dr), vs = [.ref a.o, .ref d.t] ∧ OfM c B A H a S ∧ d ∈ S.ps ∧
  (∀ H', stale S d = none → Same H H' → Q .non H') ∧ (∀ n e H', stale S d = some n → Same H H' → Xd H' e "id" (.int n) → E (.ref CS) (some e) H')
structure Cst3 (mg : Str → Option Value) : Prop where
  zip : mg "zip" = none
theorem dn_id (x : Ent) : atI x.vs.dropLast 1 = some (.int x.id) := by cases x <;> rfl
theorem later_snoc {xs : List Ent} {cb : List Int} {n : Int} {i : Nat} {x : Ent} {b : Int} (hx : xs[i]? = some x) (hb : cb[i]? = some b) : laterIds (xs.take (i + 1)) (cb.take (i + 1)) n = laterIds (xs.take i) (cb.take i) n ++ if n < b then [x.id] else [] := by
  unfold laterIds
  have h1 := (List.getElem?_eq_some_iff.mp hx).1
  have h2 := (List.getElem?_eq_some_iff.mp hb).1
  rw [list_take' hx, show cb.take (i + 1) = cb.take i ++ [b] by rw [List.take_add_one, hb]; rfl, List.zip_append (by rw [List.length_take, List.length_take]; omega), List.filter_append, List.map_append]
  congr 1
  by_cases c : n < b
  · rw [if_pos c]
    show List.map _ (List.filter _ [(x, b)]) = _
    rw [List.filter_cons_of_pos (by simpa using c)]
    rfl
  · rw [if_neg c]
    show List.map _ (List.filter _ [(x, b)]) = _
    rw [List.filter_cons_of_neg (by simpa using c)]
    rfl
section
variable {P : Program} {w : World} {mg : Str → Option Value} {base : Heap} {c : Cls6} {CE CI CN CY CS fE fI fN fY fS : Addr}
abbrev s_Officecheck_fresh : Stmt := inClass (topS 39) 12
theorem sc_Officecheck_fresh : FnScope ["self", "draft", "later", "entry", "close"] ["self", "draft"] (defScope s_Officecheck_fresh) := ⟨rfl, rfl, rfl, by decide +kernel, rfl, by decide +kernel, by decide +kernel⟩
theorem ok_freshO {f : Addr} {fd : FuncData} (F : Fun c.K "_check_fresh" "Office._check_fresh" s_Officecheck_fresh f fd) (B : Cst3 mg) (T : Co c.K mg c.CO) (TD : Cd c.K mg c.CD) (TJ : Cj P c.K mg c.CJ c.CB) (TS : PySem.BadX.Txt P c.K mg "number" "id" CS fS) (pn : PySem.BadX.Par "number") (c_Stale : mg "Stale" = some (.ref CS)) : FnOk P w c.K mg base (L2.CX P w) 1 f fd ["self", "draft"] (spFreshO c CS) := by
  refine F.okX sc_Officecheck_fresh (fun vs H Q E h => ?_) (fun cdv A0 outer s H vs Q E hr h => ?_)
  · obtain ⟨B, A, a, S, d, rfl, _⟩ := h
    rfl
  · obtain ⟨B', A, a, S, d, rfl, M, hd, q, qs⟩ := h
    have hu := hu_of hr
    refine ⟨_, (pss_cons (ps_set (i := 2) sc_Officecheck_fresh.nd rfl (Or.inl rfl) pe_dnewK)
    (pss_cons (ps_for (passes_of rfl) rfl (pi_zipM (by rfl) B.zip (pa_cons (pe_fld (pe_fld (pv 0) rfl) rfl) (pa_cons (pe_fld (pv 0) rfl) pa_nil))) (pg_tup (by rfl) (pgs_cons (pg_name (i := 3) sc_Officecheck_fresh.nd rfl (Or.inl rfl)) (pgs_cons (pg_name (i := 4) sc_Officecheck_fresh.nd rfl (Or.inl rfl)) pgs_nil)))
      (pss_one (ps_if (pt_cmpR op_gt (pv 4) (pe_fld (pv 1) rfl) (nomark _))
        (pss_one (ps_dput hu (pv 2) (pe_ix ix_tup (pv 3) pe_int (fun _ _ => rfl)) pe_bl rfl))
        pss_nil)))
    (pss_one (ps_for (passes_of rfl) rfl (pi_list (pe_fld (pv 1) rfl)) (pg_name (i := 3) sc_Officecheck_fresh.nd rfl (Or.inl rfl))
      (pss_one (ps_if (pt_cmp (pc_din hu (pe_ix ix_tup (pv 3) pe_int (fun _ _ => rfl)) (pv 2)) rfl)
        (pss_one (ps_raiseB rfl TS pn c_Stale (hr.mono (Nat.zero_le _)) (takes_of rfl rfl rfl rfl) (pa_cons (pe_ix ix_tup (pv 3) pe_int (fun _ _ => rfl)) pa_nil) (by rfl)))
        pss_nil)))))), ?_⟩
    obtain ⟨⟨tx, us, hft, hA, hl, hde⟩, _, _, _, h20⟩ := M.dr d hd
    obtain ⟨jx, t, kd, j1, j2, j3, j4, j5, j6, j7⟩ := id (M.jr.same (cut_same _ _))
    intro ld nl
    have s1 : Same H (upd H ld (.dK [])) := sameAt (Same.refl _) nl
    have M1 := M.same s1
    have x4 := M.x4
    refine ⟨_, rfl, a.o, c.CO, a.dx, _, _, rfl, M1.o, T.cl, T.nJ, rfl, a.j, c.CJ, jx, _, _, rfl, s1 _ _ j1, TJ.cl, TJ.nE, jf_e _ _ _, _, rfl, a.o, c.CO, a.dx, _, _, rfl, M1.o, T.cl, T.nY, rfl, t, a.cb, S.us, S.cb.map V.int, rfl, seqS j3 s1, SqL.of M1.cb, ?_⟩
    refine RZ.for_zipM (by rw [List.length_map, j4, M.cbl]) (fun i σ H3 => (∃ x1 x2, σ = [some (.ref a.o), some (.ref d.t), some (.ref ld), x1, x2]) ∧ (∃ kvs : List (Key × V), H3 ld = some (.dK kvs) ∧ kvs.length ≤ i ∧ ∀ n : Int, (valV kvs (Sum.inl n)).isSome = decide (n ∈ laterIds (S.xs.take i) (S.cb.take i) d.n)) ∧ Same H H3) ⟨⟨_, _, rfl⟩, ⟨[], upd_same, Nat.le_refl _, fun n => rfl⟩, s1⟩ (fun i σ H3 hv => ⟨seqS j3 hv.2.2, SqL.of (hv.2.2 _ _ M.cb)⟩) ?_ ?_
    · rintro i x y T0 σ H3 hx hy ⟨⟨x1, x2, rfl⟩, ⟨kvs, k1, k2, k3⟩, s3⟩ hT
      have hil := (List.getElem?_eq_some_iff.mp hx).1
      obtain ⟨ex, hex⟩ : ∃ ex, S.xs[i]? = some ex := ⟨_, List.getElem?_eq_getElem (by rw [← j4]; exact hil)⟩
      obtain ⟨bx, hbx⟩ : ∃ bx, S.cb[i]? = some bx := ⟨_, List.getElem?_eq_getElem (by rw [M.cbl, ← j4]; exact hil)⟩
      obtain ⟨e, rfl, he, ok⟩ := j5 i x ex hx hex
      obtain rfl : y = .int bx := by rw [List.getElem?_map, hbx] at hy; exact (Option.some.inj hy).symm
      have s4 : Same H3 (upd H3 T0 (.tup [.ref e, .int bx])) := sameAt (Same.refl _) hT
      have s34 := s3.trans s4
      have he4 := s34 _ _ he
      have M4 := M.same s34
      have hld4 := s4 _ _ k1
      refine ⟨T0, [.ref e, .int bx], rfl, SqT.of upd_same, rfl, _, _, rfl, _, _, rfl, rfl, ?_⟩
      refine ⟨_, rfl, _, rfl, d.t, c.CD, tx, _, _, rfl, s34 _ _ (cut_same _ _ _ _ hft), TD.cl, TD.nB, rfl, _, _, rfl, rfl, _, rfl, ?_⟩
      have hs := later_snoc (n := d.n) hex hbx
      by_cases cb : d.n < bx
      · rw [if_pos cb] at hs
        rw [decide_eq_true cb]
        refine iteT ⟨_, rfl, _, rfl, _, _, _, _, rfl, rfl, SqT.of he4, ent_id ex, ld, _, rfl, DPut.k (k := Sum.inl ex.id) hld4 (small1000 (by omega)), ⟨_, _, rfl⟩, ⟨_, upd_same, Nat.le_trans (pk_len _ _ _) (by omega), fun n => ?_⟩, ?_⟩
        · rw [valV_put, hs]
          by_cases cn : n = ex.id
          · rw [if_pos (congrArg Sum.inl cn), cn]
            exact (decide_eq_true (List.mem_append.mpr (.inr (List.mem_singleton.mpr rfl)))).symm
          · rw [if_neg (fun z => cn (Sum.inl.inj z)), k3 n]
            exact decide_eq_decide.mpr ⟨fun z => List.mem_append.mpr (.inl z), fun z => (List.mem_append.mp z).elim id fun z => absurd (List.mem_singleton.mp z) cn⟩
        · intro p o hp
          rw [upd_ne (ne_of_none hp nl)]
          exact s34 _ _ hp
      · rw [if_neg cb, List.append_nil] at hs
        rw [decide_eq_false cb]
        exact iteF ⟨⟨_, _, rfl⟩, ⟨kvs, hld4, by omega, fun n => by rw [hs]; exact k3 n⟩, s34⟩
    · rintro σ H3 ⟨⟨x1, x2, rfl⟩, ⟨kvs, k1, k2, k3⟩, s3⟩
      rw [List.take_of_length_le (by rw [j4]; exact Nat.le_refl _), List.take_of_length_le (by rw [j4, M.cbl]; exact Nat.le_refl _)] at k3
      have hl3 := s3 _ _ hl
      refine ⟨_, rfl, d.t, c.CD, tx, _, _, rfl, s3 _ _ (cut_same _ _ _ _ hft), TD.cl, TD.nE, rfl, d.l, rfl, ⟨_, SqL.of hl3⟩, ?_⟩
      refine for_list (a := d.l) (xs := us) (fun i σ H4 => (∃ x1 x2, σ = [some (.ref a.o), some (.ref d.t), some (.ref ld), x1, x2]) ∧ (∀ x ∈ d.es.take i, ¬ x.id ∈ laterIds S.xs S.cb d.n) ∧ Same H3 H4) ⟨⟨_, _, rfl⟩, (fun _ h => nomatch h), Same.refl _⟩ (fun i σ H4 _ hv => SqL.of (hv.2.2 _ _ hl3)) ?_ ?_
      · rintro i v σ H4 hvi ⟨⟨x1, x2, rfl⟩, hno, s4⟩
        have hil := (List.getElem?_eq_some_iff.mp hvi).1
        obtain ⟨x, hx⟩ : ∃ x, d.es[i]? = some x := ⟨_, List.getElem?_eq_getElem (by rw [← hde.1]; exact hil)⟩
        obtain ⟨e, rfl, he, ok⟩ := (hde.same (cut_same _ _)).2 i v x hvi hx
        have s34 := s3.trans s4
        have he4 := s34 _ _ he
        have hg := DGet.k (k := Sum.inl x.id) (s4 _ _ k1)
        refine ⟨_, rfl, _, _, _, _, rfl, rfl, SqT.of he4, dn_id x, _, rfl, ld, _, rfl, hg, _, rfl, ?_⟩
        rw [k3]
        by_cases cx : x.id ∈ laterIds S.xs S.cb d.n
        · rw [decide_eq_true cx]
          refine iteT ⟨_, rfl, _, _, _, _, rfl, rfl, SqT.of he4, dn_id x, _, rfl, fun e' he' => qs x.id e' _ ?_ (s34.trans (sameAt (Same.refl _) he')) upd_same⟩
          unfold stale
          have : d.es.find? (fun x => decide (x.id ∈ laterIds S.xs S.cb d.n)) = some x := by
            rw [List.find?_eq_some_iff_getElem]
            refine ⟨by simpa using cx, i, (List.getElem?_eq_some_iff.mp hx).1, (List.getElem?_eq_some_iff.mp hx).2, fun j hj => ?_⟩
            have hm : d.es[j]'(by have := (List.getElem?_eq_some_iff.mp hx).1; omega) ∈ d.es.take i := List.mem_take_iff_getElem.mpr ⟨j, by have := (List.getElem?_eq_some_iff.mp hx).1; omega, rfl⟩
            simpa using hno _ hm
          rw [this]
          rfl
        · rw [decide_eq_false cx]
          refine iteF ⟨⟨_, _, rfl⟩, fun y hy => ?_, s4⟩
          rw [list_take' hx] at hy
          rcases List.mem_append.mp hy with hy | hy
          · exact hno y hy
          · rw [List.mem_singleton.mp hy]; exact cx
      · rintro σ H4 ⟨⟨x1, x2, rfl⟩, hno, s4⟩
        rw [List.take_of_length_le (by rw [hde.1]; exact Nat.le_refl _)] at hno
        refine q H4 ?_ (s3.trans s4)
        unfold stale
        rw [List.find?_eq_none.mpr (fun x hx => by simpa using hno x hx)]
        rfl
end
end Ash

set_option Elab.async false
set_option linter.all false
set_option maxRecDepth 100000
set_option maxHeartbeats 4000000
namespace Ash
open PySem PySem.Spec PyProof.Rows L2
open C8 (pss_cut)
/-! ### the journal behind a draft -/
theorem jf_inj {b t kd t' kd' : Addr} (h : jf b t kd = jf b t' kd') : t = t' ∧ kd = kd' := by
  have e1 := jf_e b t kd
  have e2 := jf_k b t kd
  rw [h, jf_e] at e1
  rw [h, jf_k] at e2
  cases e1
  cases e2
  exact ⟨rfl, rfl⟩
theorem JAt.cut {K : PySem.W.Frag} {aT CJ CB CO : Addr} {B : Addr → Prop} {H H' : Hp} {j b : Addr} {L : List (Str × Int)} {us : List V} {xs : List Ent} (J : JAt K aT CJ CB H' j b L us xs) (s : Same H H') (BT : ∀ x, B x → Mu CO (H x)) (hj : H j = none)
    (hk : ∃ dx t kd, H' j = some (.ins CJ dx (jf b t kd)) ∧ H kd = none) (bk : BookAt CB (cutH B H') b L) : JAt K aT CJ CB (cutH B H') j b L us xs := by
  obtain ⟨dx, t, kd, h1, h2, h3, h4, h5, h6, h7⟩ := J
  obtain ⟨dx', t', kd', k1, k2⟩ := hk
  have e : HO.ins CJ dx' (jf b t' kd') = HO.ins CJ dx (jf b t kd) := Option.some.inj (k1.symm.trans h1)
  injection e with _ e1 e2
  obtain ⟨rfl, rfl⟩ := jf_inj e2
  have nf : ∀ q, H q = none → ¬ B q := fun q hq b => by
    obtain ⟨u, e, _⟩ := BT q b
    rw [hq] at e; cases e
  have nu : ∀ q u, H' q = some u → ¬ MuO CO u → ¬ B q := fun q u hq hu b => by
    obtain ⟨u', e, m⟩ := BT q b
    have := s _ _ e
    rw [hq] at this
    cases this
    exact hu m
  have tp : ∀ q ys, H' q = some (.tup ys) → cutH B H' q = some (.tup ys) := fun q ys hq => cut_at (nu q _ hq fun z => z) hq
  refine ⟨dx, t', kd', cut_at (nf j hj) h1, bk, ?_, h4, fun i v x a b => ?_, h6, ?_⟩
  · rcases h3 with (h | ⟨o, h⟩) | h
    · exact .inl (.inl (tp _ _ h))
    · exact .inl (.inr ⟨o, cut_at (nu _ _ h fun z => z) h⟩)
    · exact .inr h
  · obtain ⟨e, q1, q2, q3⟩ := h5 i v x a b
    exact ⟨e, q1, tp _ _ q2, q3⟩
  · obtain ⟨kvs, q1, q2, q3⟩ := h7
    refine ⟨kvs, cut_at (nf _ k2) q1, q2, fun id => ?_⟩
    have := q3 id
    cases ev : valV kvs (Sum.inl id) with
    | none => rw [ev] at this; cases eo : (wk L (xs.map some) 0 (fun _ => none) none).2 id <;> (rw [eo] at this; exact this)
    | some v =>
      rw [ev] at this
      cases eo : (wk L (xs.map some) 0 (fun _ => none) none).2 id with
      | none => rw [eo] at this; exact this
      | some r =>
        rw [eo] at this
        cases r with
        | tb => exact this
        | at_ z k m am =>
          obtain ⟨t, e1, e2⟩ := this
          exact ⟨t, e1, tp _ _ e2⟩
def Good (L : List (Str × Int)) (xs : List Ent) : Prop := (wk L (xs.map some) 0 (fun _ => none) none).1 = none
/-- the first entry that a draft can't hand in -/
def JBad (L : List (Str × Int)) (xs ys : List Ent) (i : Nat) : Prop := i < ys.length ∧ Good L (xs ++ ys.take i) ∧ xs.length + i ≤ 400 ∧ (xs.length + i = 400 ∨ ¬ Good L (xs ++ ys.take (i + 1)))
def spBehindO (c : Cls6) (CE : Addr) : Sp := fun vs H Q E => ∃ (B A : Addr → Prop) (a : OA) (S : OS) (l : Addr) (us : List V) (ys : List Ent), vs = [.ref a.o, .ref l] ∧ OfM c B A H a S ∧ H l = some (.lst us) ∧ Ents H us ys ∧ ys.length ≤ 20 ∧
  (∀ j' H', Same H H' → Good S.L (S.xs ++ ys) → S.xs.length + ys.length ≤ 400 → JAt c.K c.aT c.CJ c.CB (cutH B H') j' a.bj S.L (S.us ++ us) (S.xs ++ ys) → Q (.ref j') H') ∧
  (∀ i e H', JBad S.L S.xs ys i → Same H H' → Xd H' e "at" (.int (i : Int)) → E (.ref CE) (some e) H')
section
variable {P : Program} {w : World} {mg : Str → Option Value} {base : Heap} {c : Cls6} {CE fE : Addr}
structure GO4 (P : Program) (w : World) (mg : Str → Option Value) (base : Heap) (c : Cls6) (CE fE : Addr) : Prop where
  T : Co c.K mg c.CO
  TJ : Cj P c.K mg c.CJ c.CB
  TE : PySem.BadX.Txt P c.K mg "at" "at" CE fE
  c_BadEntry : mg "BadEntry" = some (.ref CE)
  then_ : Met P w c.K mg base (L2N.CX P w) c.CJ "then" 9 ["self", "entry"] (spThenN c.K c.aT c.CJ c.CB CE)
abbrev s_Officejournal_behind : Stmt := inClass (topS 39) 13
theorem sc_Officejournal_behind : FnScope ["self", "entries", "journal", "at", "entry"] ["self", "entries"] (defScope s_Officejournal_behind) := ⟨rfl, rfl, rfl, by decide +kernel, rfl, by decide +kernel, by decide +kernel⟩
theorem ok_behindO {f : Addr} {fd : FuncData} (F : Fun c.K "_journal_behind" "Office._journal_behind" s_Officejournal_behind f fd) (B : Blt mg) (G : GO4 P w mg base c CE fE) : FnOk P w c.K mg base (L2.CX P w) 10 f fd ["self", "entries"] (spBehindO c CE) := by
  have T := G.T
  have TJ := G.TJ
  refine F.okX sc_Officejournal_behind (fun vs H Q E h => ?_) (fun cdv A0 outer s H vs Q E hr h => ?_)
  · obtain ⟨B, A, a, S, l, us, ys, rfl, _⟩ := h
    rfl
  · obtain ⟨B', A, a, S, l, us, ys, rfl, M, hl, hE, h20, q, qb⟩ := h
    refine ⟨_, (pss_cons (ps_set (i := 2) sc_Officejournal_behind.nd rfl (Or.inl rfl) (pe_fld (pv 0) rfl))
    (pss_cons (ps_for (passes_of rfl) rfl (pi_enum (by rfl) B.enumerate (pa_cons (pv 1) pa_nil)) (pg_tup (by rfl) (pgs_cons (pg_name (i := 3) sc_Officejournal_behind.nd rfl (Or.inl rfl)) (pgs_cons (pg_name (i := 4) sc_Officejournal_behind.nd rfl (Or.inl rfl)) pgs_nil)))
      (pss_one (L2H.ps_tryX  rfl rfl ⟨rfl, by decide, .inl G.c_BadEntry⟩ (fun hd => L2H.passesAt_of rfl hd) (takes_of rfl rfl rfl rfl) (fun W pn xe tk tkp _ =>
        (pss_one (ps_set (i := 2) sc_Officejournal_behind.nd rfl (Or.inl rfl) (pe_metS TJ.cl G.then_ (hr.mono (by decide)) (fun σ => L2N.passAt tk σ) (pv 2) (pa_cons (pv 4) pa_nil)))))
        (fun a oe cls d pn hz hf tkx hot => (pss_one (L2H.ps_raiseBF hot G.TE par_at G.c_BadEntry (L2H.roomM hr) tkx (pa_cons (pv 3) pa_nil) (by rfl)))))))
    (pss_one (ps_ret (pv 2))))), ?_⟩
    have xl : S.us.length = S.xs.length := by
      obtain ⟨_, _, _, _, _, _, h, _⟩ := M.jr
      exact h
    have x4 := M.x4
    have hEl := hE.1
    refine ⟨_, rfl, a.o, c.CO, a.dx, _, _, rfl, M.o, T.cl, T.nJ, rfl, ?_⟩
    refine ⟨_, rfl, l, us, rfl, SqL.of hl, for_it walk_enum (fun i σ H3 => (∃ j x1 x2, σ = [some (.ref a.o), some (.ref l), some (.ref j), x1, x2] ∧ JAt c.K c.aT c.CJ c.CB (cutH B' H3) j a.bj S.L (S.us ++ us.take i) (S.xs ++ ys.take i)) ∧ Same H H3 ∧ S.xs.length + i ≤ 400) ⟨⟨a.j, _, _, rfl, by rw [List.take_zero, List.take_zero, List.append_nil, List.append_nil]; exact M.jr⟩, Same.refl _, by omega⟩ (fun i σ H3 _ hv => SqL.of (hv.2.1 _ _ hl)) ?_ ?_⟩
    · rintro i x σ H1 H2 hi ⟨⟨j, z1, z2, rfl, J⟩, s1, h4⟩ ⟨T0, x1, x2, rfl, hT, rfl, e1, e2⟩
      cases e1
      obtain ⟨y, hy⟩ : ∃ y, ys[i]? = some y := ⟨_, List.getElem?_eq_getElem (by rw [← hEl]; exact hi)⟩
      obtain ⟨e, rfl, he, ok⟩ := hE.2 i x2 y e2 hy
      have e2 : us[i]? = some (V.ref e) := e2
      have hys := (List.getElem?_eq_some_iff.mp hy).1
      have s2 : Same H1 (upd H1 T0 (.tup [.int (i : Nat), .ref e])) := sameAt (Same.refl _) hT
      have s12 := s1.trans s2
      have Mc := M.same s12
      have Jf := (J.same (cut_same _ _)).same s2
      refine ⟨T0, _, rfl, SqT.of upd_same, rfl, _, _, rfl, _, _, rfl, rfl, ?_⟩
      obtain ⟨jx, jt, jk, j1, _⟩ := id Jf
      have ul : (S.us ++ us.take i).length = S.xs.length + i := by rw [List.length_append, List.length_take]; omega
      have hsn : (S.xs ++ ys.take i) ++ [y] = S.xs ++ ys.take (i + 1) := by rw [list_take' hy, List.append_assoc]
      have hsu : (S.us ++ us.take i) ++ [.ref e] = S.us ++ us.take (i + 1) := by rw [List.take_add_one, e2, List.append_assoc]; rfl
      have G0 : Good S.L (S.xs ++ ys.take i) := by
        obtain ⟨_, _, _, _, _, _, _, _, h, _⟩ := J
        exact h
      refine ⟨_, rfl, j, jx, _, rfl, j1, jf_no _ _ _ (by decide +kernel) (by decide +kernel) (by decide +kernel), _, rfl, ?_⟩
      refine ⟨j, a.bj, S.L, S.us ++ us.take i, S.xs ++ ys.take i, .ref e, some y, rfl, Jf, ⟨e, rfl, s12 _ _ he, ok⟩, by omega, ?_, ?_, ?_⟩
      · rintro j' H3 y' ey hw s3 J' hlt nj hk
        cases ey
        refine ⟨⟨j', _, _, rfl, ?_⟩, s12.trans s3, by omega⟩
        rw [← hsn, ← hsu]
        refine J'.cut s3 (fun x hx => by
          obtain ⟨u, e, m⟩ := M.BT x hx
          exact ⟨u, s12 _ _ e, m⟩) nj hk ?_
        obtain ⟨_, _, _, _, hb, _⟩ := J
        exact (hb.same (cut_step (fun c x h _ => s2 _ _ h) fun c h => .inl h)).same (cut_step (fun c x h _ => s3 _ _ h) fun c h => .inl h)
      · intro k d H3 hw s3 hx hlt
        refine ⟨true, G.TE.te, fun _ q0 nq => ⟨_, rfl, _, rfl, fun e' he' => qb i e' _ ⟨hys, G0, h4, .inr fun g => ?_⟩ ((s12.trans s3).trans (sameAt (Same.refl _) he')) upd_same⟩, fun z => nomatch z⟩
        unfold Good at g
        rw [← hsn, List.map_append] at g
        have hw : (wk S.L ((S.xs ++ ys.take i).map some ++ [some y]) 0 (fun _ => none) none).1 = some k := hw
        rw [show ([y] : List Ent).map some = [some y] from rfl, hw] at g
        cases g
      · intro h400 d H3 s3 hx
        exact ⟨true, G.TE.te, fun _ q0 nq => ⟨_, rfl, _, rfl, fun e' he' => qb i e' _ ⟨hys, G0, h4, .inl (by omega)⟩ ((s12.trans s3).trans (sameAt (Same.refl _) he')) upd_same⟩, fun z => nomatch z⟩
    · rintro σ H3 ⟨⟨j, z1, z2, rfl, J⟩, s1, h4⟩
      rw [List.take_of_length_le (Nat.le_refl _), List.take_of_length_le (by rw [hEl]; exact Nat.le_refl _)] at J
      refine ⟨_, rfl, q j H3 s1 ?_ (by omega) J⟩
      obtain ⟨_, _, _, _, _, _, _, _, h, _⟩ := J
      exact h
end
end Ash

set_option Elab.async false
set_option linter.all false
set_option maxRecDepth 100000
set_option maxHeartbeats 4000000
/-! ### del xs[n:] of a list -/
namespace L2
open PySem PySem.Spec PyProof.Rows
section
variable {prog : Program} {w : World} {A : Around} {E : Value → Shared → Prop} {s : Shared}
theorem tail_bounds {a n : Nat} (ha : a ≤ n) : sliceBounds (some (a : Int)) none none n = ((a : Int), (n : Int), 1) := by
  have h1 : ¬ ((a : Int) < 0) := by omega
  simp only [sliceBounds, Option.getD_none, h1, if_false, show (1 : Int) > 0 by decide, if_true]
  congr 1
  omega
theorem kept_head {α : Type} (xs : List α) (a : Nat) (f : α × Nat → Option α) (hf : ∀ p : α × Nat, p.2 < xs.length → f p = if p.2 < a then some p.1 else none) : xs.zipIdx.filterMap f = xs.take a := by
  have key : ∀ (ys : List α) (j : Nat), (∀ p : α × Nat, p.2 < j + ys.length → f p = if p.2 < a then some p.1 else none) → (ys.zipIdx j).filterMap f = ys.take (a - j) := by
    intro ys
    induction ys with
    | nil => intro j _; simp
    | cons y ys ih =>
      intro j h
      rw [List.zipIdx_cons, List.filterMap_cons, h (y, j) (by rw [List.length_cons]; show j < _; omega), ih (j + 1) fun p hp => h p (by rw [List.length_cons]; omega)]
      by_cases c : j < a
      · rw [if_pos c, show a - j = (a - (j + 1)) + 1 by omega, List.take_succ_cons]
      · rw [if_neg c, show a - j = 0 by omega, show a - (j + 1) = 0 by omega]
        rfl
  have := key xs 0 fun p hp => hf p (by omega)
  simpa using this
/-- the list behind del xs[a:] -/
def dropTail (a n : Int) : Array Value → Array Value := fun xs => (xs.toList.zipIdx.filterMap fun (x, k) => if (if (1 : Int) > 0 then (decide (a ≤ (k : Int)) && decide ((k : Int) < n) && ((k : Int) - a) % 1 == 0) else decide (n < (k : Int)) && decide ((k : Int) ≤ a) && (a - (k : Int)) % (-1) == 0) = true then none else some x).toArray
theorem dropTail_eq (its : List Value) (a : Nat) (ha : a ≤ its.length) : dropTail (a : Int) (its.length : Int) its.toArray = (its.take a).toArray := by
  unfold dropTail
  congr 1
  refine kept_head its a _ fun p hp => ?_
  obtain ⟨x, k⟩ := p
  have hk : k < its.length := hp
  by_cases c : k < a
  · have h1 : ¬ ((a : Int) ≤ (k : Int)) := by omega
    simp [c, h1]
  · have h1 : (a : Int) ≤ (k : Int) := by omega
    have h2 : (k : Int) < (its.length : Int) := by omega
    simp [c, h1, h2]
set_option maxRecDepth 100000 in
theorem delItem_tail {l sl : Addr} {items : Array Value} {n : Nat} {vl : Value} {a : Nat} {Q : Unit → Shared → Prop}
    (e : s.heap.get? l = some { cls := .type "list", data := .seq items n }) (hs : s.heap.IsSliceOf sl vl .none .none) (pl : IsPart vl (some (a : Int))) (ha : a ≤ items.size)
    (hsz : items.size ≤ sizeLine) (hz' : (dropTail (a : Int) (items.size : Int) items).size ≤ sizeLine + 1) (h : Q () { s with heap := s.heap.update l (Obj.mapSeq (dropTail (a : Int) (items.size : Int))) }) :
    wpAny (model prog w) A (delItem (.ref l) (.ref sl)) Q E s := by
  have hl : s.heap.IsList l items := PySem.IsL.isList e
  obtain ⟨os, hos, hcs, hds⟩ := id hs
  have hTs : s.TypeIs (.ref sl) "slice" := ⟨os, hos, hcs⟩
  have hstep : ¬ ((rawPart none == rawInt 0) = true) := Bool.false_ne_true
  unfold delItem
  refine wpAny_holding (wpAny_bind (wpAny_sequenceKey hl.typeIs (by decide) ?_))
  refine wpAny_bind (wpAny_callSpecial?_slot (name := Str.ofString "__delitem__") hl.typeIs F.slot_list_delitem (wpAny_call_entry F.slot_list_delitem hl.typeIs F.entry_list_delitem ?_ (F.args_list_delitem_2 _ _)))
  show wpAny _ _ (Builtin.List.listSubscript? (.ref sl) >>= _) _ _ s
  unfold Builtin.List.listSubscript?
  refine wpAny_bind (wpAny_bind (wpAny_specialOf hTs slice_no_index ?_))
  rw [if_pos (by rfl)]
  refine wpAny_pure ?_
  show wpAny _ _ (typeOf (.ref sl) >>= _) _ _ s
  refine wpAny_bind (wpAny_typeOf hTs ?_)
  first
    | rw [if_neg (by decide)]
    | refine PySem.W.KFB.if_not (by decide) ?_
  rw [listSliceParts_eq]
  refine wpAny_bind (wpAny_bind (wpAny_field hos hds (x := .none) rfl (wpAny_bind (wpAny_listPart .none ?_))))
  rw [if_neg hstep]
  refine wpAny_bind (wpAny_field hos hds (x := vl) rfl (wpAny_bind (wpAny_listPart pl ?_)))
  refine wpAny_bind (wpAny_field hos hds (x := .none) rfl (wpAny_bind (wpAny_listPart .none (wpAny_pure ?_))))
  unfold Builtin.List.listItems
  refine wpAny_bind (wpAny_bind (wpAny_seqItems e rfl (wpAny_pure ?_)))
  refine wpAny_bind (wpAny_of_eq ((sliceIndices_raw (some (a : Int)) none none items.size (by simp)).trans (congrArg (pure : Int × Int × Int → Sem (Int × Int × Int)) (tail_bounds ha))) ?_)
  dsimp only
  refine wpAny_bind (wpAny_rule ?_)
  show wpAny _ _ (updateSeq l (dropTail (a : Int) (items.size : Int)) >>= _) _ _ s
  refine wpAny_bind (wpAny_updateSeq (hz := hsz) (_hz' := hz') e rfl ?_)
  refine wpAny_bind (wpAny_letGo ?_)
  first
    | exact wpAny_bind (wpAny_pure (wpAny_pure ⟨.none, rfl, wpAny_pure h⟩))
    | exact wpAny_pure ⟨.none, rfl, wpAny_pure h⟩
end
section
variable {X : Cx} {o lo : Expr} {to : TE} {tl : TO} {p2 tpos pos : Pos}
/-- del xs[a:] -/
def tDelTail (to : TE) (tl : TO) : TS := fun D σ H => to σ H fun x H1 => tl σ H1 fun i H2 => ∃ (l : Addr) (xs : List V) (a : Nat), x = .ref l ∧ i = some (a : Int) ∧ H2 l = some (.lst xs) ∧ a ≤ xs.length ∧ D.nx σ (upd H2 l (.lst (xs.take a)))
theorem ps_delTail (ho : PE X o to) (hl : PO X (some lo) tl) : PS X (.Delete [.Subscript o (.Slice (some lo) none none p2) tpos] pos) (tDelTail to tl) := by
  refine ⟨fun pins s σ H D I h => ?_⟩
  refine wpAny_Delete (wpAny_deleteEach_cons (wpAny_delete_Subscript (thn (ho.run pins s σ H _ I h) fun u s1 ⟨x, H1, I1, rx, q1⟩ => ?_)))
  refine wpAny_Slice (thn (hl.run pins s1 σ H1 _ I1 q1) fun vl s2 ⟨i, H2, I2, pl, q2⟩ => ?_)
  rw [evalPart_none]
  refine wpAny_pure (wpAny_pure ?_)
  obtain ⟨l, xs, a, rfl, rfl, hH, ha, q⟩ := q2
  cases (show u = Value.ref l from rx)
  have I3 : Inv X pins σ H2 { s2 with heap := s2.heap.push { cls := .type "slice", data := .fields #[vl, .none, .none] } } := I2.kept (t' := s2.toks) fun b ob q => Heap.get?_push_of_some _ q
  obtain ⟨z, its, n, r, hl, e⟩ := I3.lstM hH
  have dt := dropTail_eq its a (by omega)
  refine delItem_tail (a := a) e (Heap.IsSliceOf.new ..) pl (by rw [List.size_toArray]; omega) (by rw [List.size_toArray]; omega) (by rw [show its.toArray.size = its.length from List.size_toArray, dt, List.size_toArray, List.length_take]; omega) (wpAny_deleteEach_nil ⟨σ, _, ?_, q⟩)
  refine I3.lset (its' := its.take a) (t' := s2.toks) hH e ?_ (r.take a) ?_
  · rw [List.size_toArray]
    exact dt
  · rw [List.length_take]
    omega
end
end L2

set_option Elab.async false
set_option linter.all false
set_option maxRecDepth 100000
set_option maxHeartbeats 4000000
namespace L2
open PySem PySem.Spec PyProof.Rows
variable {X : Cx} {C : Addr} {bmB : List Value} {B newId initId : String} {x : Str} {p pos : Pos}
/-- C(), C an own error without an __init__ of its own -/
theorem pmk_own0 (F : ExcBaseFacts B newId initId bmB) (q : PySem.W.excIn X.K C bmB newId = true) (gC : X.mg x = some (.ref C)) (kC : PySem.W.keepIn X.K (.ref C) = true) (r : Raises X (.ref C)) (hg : Gl X x) (hdb : (x == ("__debug__" : Str)) = false := by decide) :
    PMk X (.Call (.Name x p) [] [] pos) (fun _ H Q => Q (.ref C) none H) := by
  intro pins s σ H Q I h
  refine wpAny_Call_Name_kw (ld_glob I hg gC ?_ hdb)
  refine PySem.W.callWith_K0 I.kIn kC ?_
  obtain ⟨bm, N, nm, qn, bs, hdct, sn, sub, ab, col, dd, k0, k1, k2, k3, k5, mN, hC, hN, hni, T⟩ := exc_obj I.kIn q
  exact wpAny_call_exc_subT F T hC hN hni (fun h' e hm => mk_of I hm r h (I.hok.gone hm.new)) (Nat.zero_le _)
end L2

set_option Elab.async false
set_option linter.all false
set_option maxRecDepth 100000
set_option maxHeartbeats 4000000
namespace Ash
open PySem PySem.Spec PyProof.Rows L2
open C8 (pss_cut)
/-! ### close, undo, a new office -/
def Ent.at_ : Ent → Int → Ent
  | .row id s k m a _, r => .row id s k m a r
  | .fix id m a _, r => .fix id m a r
  | .gone id _, r => .gone id r
theorem at_vs (x : Ent) (r : Int) : (x.at_ r).vs = x.vs.dropLast ++ [.int r] := by cases x <;> rfl
theorem at_id (x : Ent) (r : Int) : (x.at_ r).id = x.id := by cases x <;> rfl
theorem at_ok {x : Ent} (h : x.ok) (r : Int) : (x.at_ r).ok := by
  cases x with
  | row id s k m a q => exact ⟨h.1, fun _ _ _ _ _ _ e => by cases e; exact h.2 _ _ _ _ _ _ rfl⟩
  | fix id m a q => exact ⟨h.1, fun _ _ _ _ _ _ e => by cases e⟩
  | gone id q => exact ⟨h.1, fun _ _ _ _ _ _ e => by cases e⟩
def OS.closed (S : OS) (d : Dr) (n : Int) (us : List V) : OS := { S.dropd d.z with xs := S.xs ++ d.es.map (·.at_ n), us := S.us ++ us, past := S.past ++ [S.xs.length], cl := S.cl + 1, cb := S.cb ++ List.replicate d.es.length (S.cl + 1) }
theorem putF_j {b j j' dd pa cb : Addr} {cl : Int} : putF "journal" (.ref j') (ofF b j dd pa cl cb) = ofF b j' dd pa cl cb := rfl
theorem putF_c {b j dd pa cb : Addr} {cl cl' : Int} : putF "_closes" (.int cl') (ofF b j dd pa cl cb) = ofF b j dd pa cl' cb := rfl

theorem OfM.close_ {c : Cls6} {B A : Addr → Prop} {H H4 H' : Hp} {a : OA} {S : OS} (h : OfM c B A H a S) (s4 : Same H H4) {d : Dr} {n : Int} {us : List V} {j' : Addr} (J : JAt c.K c.aT c.CJ c.CB (cutH B H4) j' a.bj S.L (S.us ++ us) (S.xs ++ d.es.map (·.at_ n))) (hul : us.length = d.es.length) (x4 : S.xs.length + d.es.length ≤ 400)
    (k : ∀ q y, H4 q = some y → q ≠ a.dd → q ≠ a.pa → q ≠ a.o → q ≠ a.cb → H' q = some y) (ho : H' a.o = some (.ins c.CO a.dx (ofF a.b j' a.dd a.pa (S.cl + 1) a.cb))) (hdd : H' a.dd = some (.dK (DrK (S.dropd d.z).ps)))
    (hpa : H' a.pa = some (.lst ((S.past ++ [S.xs.length]).map fun (n : Nat) => V.int (n : Int)))) (hcb : H' a.cb = some (.lst ((S.cb ++ List.replicate d.es.length (S.cl + 1)).map V.int))) :
    Fr A H A H' ∧ OfM c (uni B A) A H' { a with j := j' } (S.closed d n us) := by
  have kA : ∀ q y, H4 q = some y → ¬ A q → H' q = some y := fun q y hq nq => k q y hq (fun z => nq (z ▸ h.Add)) (fun z => nq (z ▸ h.Apa)) (fun z => nq (z ▸ h.Ao)) (fun z => nq (z ▸ h.Acb))
  have f : Fr A H A H' := ⟨fun q y hq nq => kA q y (s4 _ _ hq) nq, fun _ q => .inl q⟩
  have xl : S.us.length = S.xs.length := by
    obtain ⟨_, _, _, _, _, _, h, _⟩ := h.jr
    exact h
  refine ⟨f, h.to f (fun _ x => x) (fun p hp => ?_) rfl rfl rfl rfl rfl rfl ho hdd hpa hcb (fun s => J.same (cut_step (fun q y hq nq => kA q y hq fun z => nq (h.AB _ z)) fun q z => .inl (z.elim id (h.AB q)))) ?_ (fun s d' hd' => ?_) ?_ ?_ ?_ ?_⟩
  · obtain ⟨u, e1, m⟩ := h.BT p (h.AB p hp)
    by_cases q1 : p = a.dd
    · subst q1; exact ⟨_, hdd, trivial⟩
    by_cases q2 : p = a.pa
    · subst q2; exact ⟨_, hpa, trivial⟩
    by_cases q3 : p = a.o
    · subst q3; exact ⟨_, ho, rfl⟩
    by_cases q4 : p = a.cb
    · subst q4; exact ⟨_, hcb, trivial⟩
    exact ⟨u, k _ _ (s4 _ _ e1) q1 q2 q3 q4, m⟩
  · show (S.us ++ us).length ≤ 400
    rw [List.length_append]
    omega
  · have hd0 : d' ∈ S.ps := (List.mem_filter.mp hd').1
    obtain ⟨D0, m⟩ := h.dr d' hd0
    obtain ⟨n1, n2, n3, n4⟩ := h.lne hd0
    refine ⟨D0.mono s (fun x => x) ?_, m⟩
    obtain ⟨_, _, _, _, q, _⟩ := D0
    rw [q, k _ _ (s4 _ _ q) n2 n3 n1 n4]
  · exact h.ndl.sublist ((List.filter_sublist).map _)
  · exact h.ndz.sublist ((List.filter_sublist).map _)
  · show (S.cb ++ List.replicate _ _).length = (S.xs ++ _).length
    rw [List.length_append, List.length_append, List.length_replicate, List.length_map, h.cbl]
  · show ((S.past ++ [S.xs.length]) ++ [(S.xs ++ d.es.map _).length]).Pairwise (· ≤ ·)
    rw [List.pairwise_append]
    refine ⟨h.pst, List.pairwise_singleton _ _, fun x hx y hy => ?_⟩
    rw [List.mem_singleton.mp hy, List.length_append]
    have hx' := List.pairwise_append.mp h.pst
    rcases List.mem_append.mp hx with hx | hx
    · have := hx'.2.2 x hx S.xs.length (List.mem_singleton.mpr rfl)
      omega
    · rw [List.mem_singleton.mp hx]
      omega
theorem flat_rep (v : V) : ∀ n : Nat, (List.replicate n [v]).flatten = List.replicate n v
  | 0 => rfl
  | n + 1 => by rw [List.replicate_succ, List.flatten_cons, flat_rep v n]; rfl
theorem WithN.ents {H : Hp} {us : List V} {es : List Ent} {n : Int} (h : WithN H us es (.int n)) : Ents H us (es.map (·.at_ n)) := ⟨by rw [List.length_map]; exact h.1, fun i v x a b => by
  rw [List.getElem?_map] at b
  cases e : es[i]? with
  | none => rw [e] at b; cases b
  | some y =>
    rw [e] at b
    cases b
    obtain ⟨p, h1, h2, h3⟩ := h.2 i v y a e
    exact ⟨p, h1, by unfold EntAt; rw [h2, at_vs], at_ok h3 n⟩⟩
def spCloseO (c : Cls6) (CI CM CS CE : Addr) : Sp := fun vs H Q E => ∃ (B A : Addr → Prop) (a : OA) (S : OS) (v r : V), vs = [.ref a.o, v, r] ∧ OfM c B A H a S ∧ StrOk c.K H v ∧ ((∃ n, r = .int n) ∨ NotInt c.K H r) ∧ S.past.length ≤ 900 ∧
  (∀ e H', wfind S v = none → Same H H' → Xd H' e "writer" v → E (.ref CI) (some e) H') ∧
  (∀ d e H', wfind S v = some d → NotInt c.K H r → Same H H' → Xd H' e "value" r → E (.ref CM) (some e) H') ∧
  (∀ d n m e H', wfind S v = some d → r = .int n → stale S d = some m → Same H H' → Xd H' e "id" (.int m) → E (.ref CS) (some e) H') ∧
  (∀ d n i e H', wfind S v = some d → r = .int n → stale S d = none → JBad S.L S.xs (d.es.map (·.at_ n)) i → Same H H' → Xd H' e "at" (.int (i : Int)) → E (.ref CE) (some e) H') ∧
  (∀ d n us j' H', wfind S v = some d → r = .int n → stale S d = none → Good S.L (S.xs ++ d.es.map (·.at_ n)) → S.xs.length + d.es.length ≤ 400 → Fr A H A H' → OfM c (uni B A) A H' { a with j := j' } (S.closed d n us) → Q (.int d.es.length) H')
section
variable {P : Program} {w : World} {mg : Str → Option Value} {base : Heap} {c : Cls6} {CI CM CS CE fM fl : Addr} {fdl : FuncData}
structure GO5 (P : Program) (w : World) (mg : Str → Option Value) (base : Heap) (c : Cls6) (CI CM CS CE fM : Addr) : Prop where
  T : Co c.K mg c.CO
  TJ : Cj P c.K mg c.CJ c.CB
  TD : Cd c.K mg c.CD
  TM : PySem.BadX.Txt P c.K mg "value" "value" CM fM
  c_BadMoment : mg "BadMoment" = some (.ref CM)
  is_integer : Cal P w c.K mg base CX0 "is_integer" 1 ["thing"] (spIsInt c.K)
  draft_of : Met P w c.K mg base (L2.CX P w) c.CO "_draft_of" 2 ["self", "writer"] (spDraftO c CI)
  fresh : Met P w c.K mg base (L2.CX P w) c.CO "_check_fresh" 1 ["self", "draft"] (spFreshO c CS)
  behind : Met P w c.K mg base (L2.CX P w) c.CO "_journal_behind" 10 ["self", "entries"] (spBehindO c CE)
abbrev s_Office_close : Stmt := inClass (topS 39) 8
theorem sc_Office_close : FnScope ["self", "writer", "arrival", "draft", "journal", "many", "entry"] ["self", "writer", "arrival"] (defScope s_Office_close) := ⟨rfl, rfl, rfl, by decide +kernel, rfl, by decide +kernel, by decide +kernel⟩
theorem ok_closeO {f : Addr} {fd : FuncData} (F : Fun c.K "close" "Office.close" s_Office_close f fd) (B : Blt mg) (G : GO5 P w mg base c CI CM CS CE fM)
    (Fl : FnOk P w c.K mg base CX0 1 fl fdl ["self"] (spJLen c.K c.aT c.CJ c.CB)) (hl1 : PySem.W.findIn c.K (.ref c.CJ) "__len__" = some (some (.ref fl))) (hl2 : PySem.W.isFn c.K (.ref fl) = true) (hl3 : Binds c.K fdl ["self"] []) : FnOk P w c.K mg base (L2.CX P w) 11 f fd ["self", "writer", "arrival"] (spCloseO c CI CM CS CE) := by
  have T := G.T
  have TD := G.TD
  refine F.okX sc_Office_close (fun vs H Q E h => ?_) (fun cdv A0 outer s H vs Q E hr h => ?_)
  · obtain ⟨B, A, a, S, v, r, rfl, _⟩ := h
    rfl
  · obtain ⟨B', A, a, S, v, r, rfl, M, hv, hr0, hp9, qi, qm, qs, qe, q⟩ := h
    have hu := hu_of hr
    refine ⟨_, (pss_cons (ps_set (i := 3) sc_Office_close.nd rfl (Or.inl rfl) (pe_met T.cl G.draft_of (hr.mono (by decide)) (passE (takes_of rfl rfl rfl rfl)) (pv 0) (pa_cons (pv 1) pa_nil)))
    (pss_cons (ps_if (pt_not (pt_val (pe_cal G.is_integer (hr.mono (by decide)) pass0 (pa_cons (pv 2) pa_nil))))
      (pss_one (ps_raiseB rfl G.TM par_value G.c_BadMoment (hr.mono (Nat.zero_le _)) (takes_of rfl rfl rfl rfl) (pa_cons (pv 2) pa_nil) (by rfl)))
      pss_nil)
    (pss_cons (ps_expr (pe_met T.cl G.fresh (hr.mono (by decide)) (passE (takes_of rfl rfl rfl rfl)) (pv 0) (pa_cons (pv 3) pa_nil)))
    (pss_cons (ps_set (i := 4) sc_Office_close.nd rfl (Or.inl rfl) (pe_met T.cl G.behind (hr.mono (by decide)) (passE (takes_of rfl rfl rfl rfl)) (pv 0) (pa_cons (pe_lc (own := [("entry", 6)]) (g := gName 6) (tt := tYes) (by rfl) sc_Office_close.nd (pi_list (pe_fld (pv 3) rfl)) (blkOk_by (own := [("entry", 6)]) (N := ["self", "writer", "arrival", "draft", "journal", "many", "entry"]) (sc := defScope s_Office_close) (by decide +kernel)) (fun _ _ _ _ _ => (pg_name (i := 6) sc_Office_close.nd rfl (Or.inl rfl))) (fun _ _ _ _ _ => pts_nil) (fun _ _ _ _ _ => (show PE _ _ (tTup (StX.tStar c.K (tVar 6) (tCons (tVar 2) tNil))) from (pe_tup (StX.pa_star (pv 6) (pa_cons (pv 2) pa_nil)))))) pa_nil)))
    (pss_cons (ps_set (i := 5) sc_Office_close.nd rfl (Or.inl rfl) (pe_callB call_len_seq (by rfl) B.len (by decide +kernel) (pa_cons (pe_fld (pv 3) rfl) pa_nil)))
    (pss_cons (ps_ddel (pe_fld (pv 0) rfl) (pv 1))
    (pss_cons (ps_expr (pe_bm PySem.F.plainAttrs_list PySem.F.slot_list_append PySem.F.type_list_append mt_append (pe_fld (pv 0) rfl) (pa_cons (pe_callB (call_lenI Fl hl1 hl2 hl3 pass0 (hr.mono (by decide))) (by rfl) B.len (by decide +kernel) (pa_cons (pe_fld (pv 0) rfl) pa_nil)) pa_nil)))
    (pss_cons (ps_fldaug (pv 0) pe_int in_add)
    (pss_cons (ps_expr (pe_bm PySem.F.plainAttrs_list PySem.F.slot_list_extend PySem.F.type_list_extend mt_extend (pe_fld (pv 0) rfl) (pa_cons (pe_op op_rep (pe_lst (pa_cons (pe_fld (pv 0) rfl) pa_nil)) (pv 5)) pa_nil)))
    (pss_cons (ps_fld (pv 0) (pv 4) rfl)
    (pss_one (ps_ret (pv 5))))))))))))), ?_⟩
    refine ⟨_, rfl, a.o, a.dx, _, rfl, M.o, rfl, _, rfl, B', A, a, S, v, rfl, M, hv, fun d H1 ed s1 => ?_, fun e H1 en s1 x => qi e H1 en s1 x⟩
    have M1 := M.same s1
    obtain ⟨hd, rfl⟩ := wfind_mem M ed
    rcases hr0 with ⟨n, rfl⟩ | hni
    rotate_left
    · obtain ⟨t0, bi, bb, ty, k1, k2, k3⟩ := id hni
      exact ⟨_, rfl, r, rfl, .inr ⟨⟨t0, bi, bb, tyx_same ty s1, k1, k2, k3⟩, ⟨_, rfl, iteT ⟨_, rfl, _, rfl, fun e' he' => qm d e' _ ed hni (s1.trans (sameAt (Same.refl _) he')) upd_same⟩⟩⟩⟩
    refine ⟨_, rfl, _, rfl, .inl ⟨n, rfl, ⟨_, rfl, iteF ?_⟩⟩⟩
    refine ⟨_, rfl, a.o, a.dx, _, rfl, M1.o, rfl, _, rfl, B', A, a, S, d, rfl, M1, hd, fun H2 st s2 => ?_, fun m e' H2 st s2 hx => qs d n m e' H2 ed rfl st (s1.trans s2) hx⟩
    have M2 := M1.same s2
    obtain ⟨⟨tx, us, hft, hA, hl, hde⟩, _, _, _, h20⟩ := M2.dr d hd
    have hde1 := hde.same (cut_same _ _)
    have hft2 := cut_same _ _ _ _ hft
    refine ⟨_, rfl, a.o, a.dx, _, rfl, M2.o, rfl, _, rfl, d.t, c.CD, tx, _, _, rfl, hft2, TD.cl, TD.nE, rfl, d.l, rfl, ⟨_, SqL.of hl⟩, fun D hD => ?_⟩
    refine lc_list (a := d.l) (xs := us) (fun i H3 => ∃ us', H3 D = some (.lst us') ∧ WithN H3 us' (d.es.take i) (.int n) ∧ Same H2 H3) ⟨[], upd_same, ⟨rfl, fun _ _ _ e => nomatch e⟩, sameAt (Same.refl _) hD⟩ (fun i H3 _ hv => by obtain ⟨_, _, _, h⟩ := hv; exact SqL.of (h _ _ hl)) ?_ ?_
    · rintro i v H3 hvi ⟨us', hD3, hW, s3⟩
      have hil := (List.getElem?_eq_some_iff.mp hvi).1
      obtain ⟨x, hx⟩ : ∃ x, d.es[i]? = some x := ⟨_, List.getElem?_eq_getElem (by rw [← hde.1]; exact hil)⟩
      obtain ⟨e, rfl, he, ok⟩ := hde1.2 i v x hvi hx
      have he3 : H3 e = some (.tup x.vs.dropLast) := s3 _ _ he
      refine ⟨rfl, _, rfl, e, _, rfl, .inl (SqT.of he3), _, rfl, vs_lenW x (.int n), fun t ht => ?_⟩
      have s4 : Same H3 (upd H3 t (.tup (x.vs.dropLast ++ [V.int n]))) := sameAt (Same.refl _) ht
      have tD : D ≠ t := fun z => by rw [← z, hD3] at ht; cases ht
      have hul : us'.length ≤ 20 := by
        have := hW.1
        rw [List.length_take] at this
        omega
      refine ⟨us', s4 _ _ hD3, small1000 (by omega), us' ++ [.ref t], upd_same, ?_, sameAt (s3.trans s4) hD⟩
      rw [list_take' hx]
      have s5 : ∀ (k : Addr) (xs : List V), (upd H3 t (.tup (x.vs.dropLast ++ [V.int n]))) k = some (.tup xs) → (upd (upd H3 t (.tup (x.vs.dropLast ++ [V.int n]))) D (.lst (us' ++ [V.ref t]))) k = some (.tup xs) := fun k xs h => by
        rw [upd_ne (fun z => by rw [z, s4 _ _ hD3] at h; cases h)]
        exact h
      refine WithN.snoc ⟨hW.1, fun k v y a b => ?_⟩ (s5 _ _ upd_same) ok
      obtain ⟨e', h1, h2, h3⟩ := hW.2 k v y a b
      exact ⟨e', h1, s5 _ _ (s4 _ _ h2), h3⟩
    · rintro H3 ⟨us', hD3, hW, s3⟩
      rw [List.take_of_length_le (by rw [hde.1]; exact Nat.le_refl _)] at hW
      have s03 := (s1.trans s2).trans s3
      have M3 := M.same s03
      refine ⟨B', A, a, S, D, us', d.es.map (·.at_ n), rfl, M3, hD3, hW.ents, by rw [List.length_map]; exact h20, fun j' H4 s4 gd x4 J => ?_, fun i e' H4 hb s4 hx => qe d n i e' H4 ed rfl st hb (s03.trans s4) hx⟩
      have s04 := s03.trans s4
      have M4 := M.same s04
      have hl4 : H4 d.l = some (.lst us) := (s3.trans s4) _ _ hl
      rw [List.length_map] at x4
      refine ⟨_, rfl, d.t, c.CD, tx, _, _, rfl, (s3.trans s4) _ _ hft2, TD.cl, TD.nE, rfl, d.l, us, rfl, .inl (SqL.of hl4), ?_⟩
      refine ⟨_, rfl, a.o, c.CO, a.dx, _, _, rfl, M4.o, T.cl, T.nD, rfl, _, rfl, a.dd, _, Sum.inr d.z, rfl, M4.dd, rfl, ?_, ?_⟩
      · rw [M4.val]
        have : S.find d.z = some d := ed
        rw [this]
        rfl
      rw [DrK_drop]
      have no : a.o ≠ a.dd := ne_of M.o M.dd (by intro z; cases z)
      have npd : a.pa ≠ a.dd := ne_of M.pa M.dd (by intro z; cases z)
      have ncd : a.cb ≠ a.dd := ne_of M.cb M.dd (by intro z; cases z)
      have npo : a.pa ≠ a.o := ne_of M.pa M.o (by intro z; cases z)
      have nco : a.cb ≠ a.o := ne_of M.cb M.o (by intro z; cases z)
      obtain ⟨jx, jt, jk, j1, j2, j3, j4, j5⟩ := id (M4.jr.same (cut_same _ _))
      have njd : a.j ≠ a.dd := ne_of j1 M4.dd (by intro z; cases z)
      have J5 : JAt c.K c.aT c.CJ c.CB (upd H4 a.dd (.dK (DrK (S.dropd d.z).ps))) a.j a.bj S.L S.us S.xs := M4.jr.same fun q y hq => by
        obtain ⟨n1, n2⟩ := cut_of hq
        rw [upd_ne (fun z : q = a.dd => n1 (by rw [z]; exact M.AB _ M.Add))]
        exact n2
      have hpaL : (S.past.map fun (n : Nat) => V.int (n : Int)).length < sizeLine := by
        rw [List.length_map]
        exact small1000 (by omega)
      have xl : S.us.length = S.xs.length := j4
      have ho5 : (upd H4 a.dd (.dK (DrK (S.dropd d.z).ps))) a.o = some (.ins c.CO a.dx (ofF a.b a.j a.dd a.pa S.cl a.cb)) := by rw [upd_ne no]; exact M4.o
      have hp5 : (upd H4 a.dd (.dK (DrK (S.dropd d.z).ps))) a.pa = some (.lst (S.past.map fun (n : Nat) => V.int (n : Int))) := by rw [upd_ne npd]; exact M4.pa
      have hc5 : (upd H4 a.dd (.dK (DrK (S.dropd d.z).ps))) a.cb = some (.lst (S.cb.map V.int)) := by rw [upd_ne ncd]; exact M4.cb
      have hj5 : (upd H4 a.dd (.dK (DrK (S.dropd d.z).ps))) a.j = some (.ins c.CJ jx (jf a.bj jt jk)) := by rw [upd_ne njd]; exact j1
      have k5 : ∀ q y, H4 q = some y → q ≠ a.dd → (upd H4 a.dd (.dK (DrK (S.dropd d.z).ps))) q = some y := fun q y hq n => by rw [upd_ne n]; exact hq
      have d5 : (upd H4 a.dd (.dK (DrK (S.dropd d.z).ps))) a.dd = some (.dK (DrK (S.dropd d.z).ps)) := upd_same
      generalize (upd H4 a.dd (.dK (DrK (S.dropd d.z).ps))) = H5 at J5 ho5 hp5 hc5 hj5 k5 d5 ⊢
      refine ⟨_, rfl, a.o, c.CO, a.dx, _, _, rfl, ho5, T.cl, T.nP, rfl, .inl ⟨rfl, _, SqL.of hp5⟩, _, rfl, a.o, c.CO, a.dx, _, _, rfl, ho5, T.cl, T.nJ, rfl, a.j, jx, _, rfl, hj5, a.j, a.bj, S.L, S.us, S.xs, rfl, J5, S.us.length, rfl, by have := M.x4; omega, a.pa, _, _, rfl, rfl, hp5, hpaL, ?_⟩
      have e6 : (S.past.map fun (n : Nat) => V.int (n : Int)) ++ [V.int (S.us.length : Int)] = (S.past ++ [S.xs.length]).map fun (n : Nat) => V.int (n : Int) := by rw [xl, List.map_append]; rfl
      rw [e6]
      have ho6 : (upd H5 a.pa (.lst ((S.past ++ [S.xs.length]).map fun (n : Nat) => V.int (n : Int)))) a.o = some (.ins c.CO a.dx (ofF a.b a.j a.dd a.pa S.cl a.cb)) := by rw [upd_ne npo.symm]; exact ho5
      have hc6 : (upd H5 a.pa (.lst ((S.past ++ [S.xs.length]).map fun (n : Nat) => V.int (n : Int)))) a.cb = some (.lst (S.cb.map V.int)) := by rw [upd_ne M.ne.symm]; exact hc5
      have k6 : ∀ q y, H4 q = some y → q ≠ a.dd → q ≠ a.pa → (upd H5 a.pa (.lst ((S.past ++ [S.xs.length]).map fun (n : Nat) => V.int (n : Int)))) q = some y := fun q y hq n1 n2 => by rw [upd_ne n2]; exact k5 q y hq n1
      have d6 : (upd H5 a.pa (.lst ((S.past ++ [S.xs.length]).map fun (n : Nat) => V.int (n : Int)))) a.dd = some (.dK (DrK (S.dropd d.z).ps)) := by rw [upd_ne npd.symm]; exact d5
      have p6 : (upd H5 a.pa (.lst ((S.past ++ [S.xs.length]).map fun (n : Nat) => V.int (n : Int)))) a.pa = some (.lst ((S.past ++ [S.xs.length]).map fun (n : Nat) => V.int (n : Int))) := upd_same
      generalize (upd H5 a.pa (.lst ((S.past ++ [S.xs.length]).map fun (n : Nat) => V.int (n : Int)))) = H6 at ho6 hc6 k6 d6 p6 ⊢
      refine ⟨_, rfl, a.o, c.CO, a.dx, _, _, rfl, ho6, T.cl, T.nC, rfl, _, _, rfl, rfl, _, _, ho6, (by show 6 < 1000; decide), ?_⟩
      rw [putF_c]
      have ho7 : (upd H6 a.o (.ins c.CO a.dx (ofF a.b a.j a.dd a.pa (S.cl + 1) a.cb))) a.o = some (.ins c.CO a.dx (ofF a.b a.j a.dd a.pa (S.cl + 1) a.cb)) := upd_same
      have hc7 : (upd H6 a.o (.ins c.CO a.dx (ofF a.b a.j a.dd a.pa (S.cl + 1) a.cb))) a.cb = some (.lst (S.cb.map V.int)) := by rw [upd_ne nco]; exact hc6
      have k7 : ∀ q y, H4 q = some y → q ≠ a.dd → q ≠ a.pa → q ≠ a.o → (upd H6 a.o (.ins c.CO a.dx (ofF a.b a.j a.dd a.pa (S.cl + 1) a.cb))) q = some y := fun q y hq n1 n2 n3 => by rw [upd_ne n3]; exact k6 q y hq n1 n2
      have d7 : (upd H6 a.o (.ins c.CO a.dx (ofF a.b a.j a.dd a.pa (S.cl + 1) a.cb))) a.dd = some (.dK (DrK (S.dropd d.z).ps)) := by rw [upd_ne no.symm]; exact d6
      have p7 : (upd H6 a.o (.ins c.CO a.dx (ofF a.b a.j a.dd a.pa (S.cl + 1) a.cb))) a.pa = some (.lst ((S.past ++ [S.xs.length]).map fun (n : Nat) => V.int (n : Int))) := by rw [upd_ne npo]; exact p6
      generalize (upd H6 a.o (.ins c.CO a.dx (ofF a.b a.j a.dd a.pa (S.cl + 1) a.cb))) = H7 at ho7 hc7 k7 d7 p7 ⊢
      refine ⟨_, rfl, a.o, c.CO, a.dx, _, _, rfl, ho7, T.cl, T.nY, rfl, .inl ⟨rfl, _, SqL.of hc7⟩, _, rfl, a.o, c.CO, a.dx, _, _, rfl, ho7, T.cl, T.nC, rfl, (by show 1 ≤ sizeLine; decide), fun p1 np1 => ?_⟩
      have s8 : Same H7 (upd H7 p1 (.lst [V.int (S.cl + 1)])) := sameAt (Same.refl _) np1
      have hul : us.length = d.es.length := hde.1
      have sz : us.length ≤ sizeLine := Nat.le_of_lt (small1000 (by omega))
      refine ⟨_, rfl, p1, _, _, rfl, rfl, upd_same, by omega, by omega, (by show 1 * ((us.length : Int).toNat) ≤ _; rw [Int.toNat_natCast]; omega), fun p2 np2 => ?_⟩
      rw [Int.toNat_natCast, flat_rep]
      have hc8 := s8 _ _ hc7
      have ho8 := s8 _ _ ho7
      have hd8 := s8 _ _ d7
      have hp8 := s8 _ _ p7
      have k8 : ∀ q y, H4 q = some y → q ≠ a.dd → q ≠ a.pa → q ≠ a.o → (upd H7 p1 (.lst [V.int (S.cl + 1)])) q = some y := fun q y hq n1 n2 n3 => s8 _ _ (k7 q y hq n1 n2 n3)
      generalize (upd H7 p1 (.lst [V.int (S.cl + 1)])) = H8 at np2 hc8 ho8 hd8 hp8 k8 ⊢
      have s9 : Same H8 (upd H8 p2 (.lst (List.replicate us.length (V.int (S.cl + 1))))) := sameAt (Same.refl _) np2
      have cl4 := M.cbl
      have mx := M.x4
      refine ⟨a.cb, p2, _, _, rfl, rfl, s9 _ _ hc8, upd_same, ?_, ?_⟩
      · rw [List.length_map, List.length_replicate]
        exact Nat.le_of_lt (small1000 (by omega))
      have e10 : S.cb.map V.int ++ List.replicate us.length (V.int (S.cl + 1)) = (S.cb ++ List.replicate d.es.length (S.cl + 1)).map V.int := by rw [List.map_append, List.map_replicate, hul]
      rw [e10]
      have ncp2 : a.cb ≠ p2 := fun z => by rw [← z, hc8] at np2; cases np2
      have noc : a.o ≠ a.cb := nco.symm
      refine ⟨_, rfl, _, rfl, a.o, c.CO, a.dx, _, rfl, (by rw [upd_ne noc]; exact s9 _ _ ho8), T.cl, T.nJ, (by show 6 < 1000; decide), ?_⟩
      rw [putF_j]
      refine ⟨_, rfl, ?_⟩
      have H11 := M.close_ (H' := upd (upd (upd H8 p2 (.lst (List.replicate us.length (V.int (S.cl + 1))))) a.cb (.lst ((S.cb ++ List.replicate d.es.length (S.cl + 1)).map V.int))) a.o (.ins c.CO a.dx (ofF a.b j' a.dd a.pa (S.cl + 1) a.cb))) (n := n) (us := us') s04 J (by rw [hW.1]) x4 (fun q y hq n1 n2 n3 n4 => by rw [upd_ne n3, upd_ne n4]; exact s9 _ _ (k8 q y hq n1 n2 n3)) upd_same
        (by rw [upd_ne no.symm, upd_ne ncd.symm]; exact s9 _ _ hd8) (by rw [upd_ne npo, upd_ne M.ne]; exact s9 _ _ hp8) (by rw [upd_ne nco]; exact upd_same)
      rw [hul] at H11 ⊢
      exact q d n us' j' _ ed rfl st gd x4 H11.1 H11.2
end
end Ash

set_option Elab.async false
set_option linter.all false
set_option maxRecDepth 100000
set_option maxHeartbeats 4000000
namespace Ash
open PySem PySem.Spec PyProof.Rows L2
open C8 (pss_cut)
/-! ### undo, a new office -/
def OS.undone (S : OS) (p : List Nat) (m : Nat) : OS := { S with xs := S.xs.take m, us := S.us.take m, past := p, cb := S.cb.take m }
theorem OfM.undo_ {c : Cls6} {B A : Addr → Prop} {H H4 H' : Hp} {a : OA} {S : OS} (h : OfM c B A H a S) (k0 : ∀ q y, H q = some y → q ≠ a.pa → H4 q = some y) {p : List Nat} {m : Nat} {j' : Addr} (ep : S.past = p ++ [m]) (J : JAt c.K c.aT c.CJ c.CB (cutH B H4) j' a.b S.L (S.us.take m) (S.xs.take m))
    (k : ∀ q y, H4 q = some y → q ≠ a.pa → q ≠ a.o → q ≠ a.cb → H' q = some y) (ho : H' a.o = some (.ins c.CO a.dx (ofF a.b j' a.dd a.pa S.cl a.cb)))
    (hpa : H' a.pa = some (.lst (p.map fun (n : Nat) => V.int (n : Int)))) (hcb : H' a.cb = some (.lst ((S.cb.take m).map V.int))) :
    Fr A H A H' ∧ OfM c (uni B A) A H' { a with j := j', bj := a.b } (S.undone p m) := by
  have kA : ∀ q y, H4 q = some y → ¬ A q → H' q = some y := fun q y hq nq => k q y hq (fun z => nq (z ▸ h.Apa)) (fun z => nq (z ▸ h.Ao)) (fun z => nq (z ▸ h.Acb))
  have f : Fr A H A H' := ⟨fun q y hq nq => kA q y (k0 _ _ hq fun z => nq (z ▸ h.Apa)) nq, fun _ q => .inl q⟩
  have ndp : a.dd ≠ a.pa := ne_of h.dd h.pa (by intro z; cases z)
  have ndo : a.dd ≠ a.o := ne_of h.dd h.o (by intro z; cases z)
  have ndc : a.dd ≠ a.cb := ne_of h.dd h.cb (by intro z; cases z)
  have hp := h.pst
  rw [ep, List.append_assoc] at hp
  have hp1 := List.pairwise_append.mp hp
  have hm : m ≤ S.xs.length := (List.pairwise_append.mp (show ([m] ++ [S.xs.length]).Pairwise (· ≤ ·) from hp1.2.1)).2.2 m (List.mem_singleton.mpr rfl) _ (List.mem_singleton.mpr rfl)
  refine ⟨f, h.to f (fun _ x => x) (fun q hq => ?_) rfl rfl rfl rfl rfl rfl ho (k _ _ (k0 _ _ h.dd ndp) ndp ndo ndc) hpa hcb (fun s => J.same (cut_step (fun q y hq nq => kA q y hq fun z => nq (h.AB _ z)) fun q z => .inl (z.elim id (h.AB q)))) ?_ (fun s d' hd' => ?_) h.ndl h.ndz ?_ ?_⟩
  · obtain ⟨u, e1, mm⟩ := h.BT q (h.AB q hq)
    by_cases q2 : q = a.pa
    · subst q2; exact ⟨_, hpa, trivial⟩
    by_cases q3 : q = a.o
    · subst q3; exact ⟨_, ho, rfl⟩
    by_cases q4 : q = a.cb
    · subst q4; exact ⟨_, hcb, trivial⟩
    exact ⟨u, k _ _ (k0 _ _ e1 q2) q2 q3 q4, mm⟩
  · show (S.us.take m).length ≤ 400
    have := h.x4
    rw [List.length_take]
    omega
  · obtain ⟨D0, mm⟩ := h.dr d' hd'
    obtain ⟨n1, n2, n3, n4⟩ := h.lne hd'
    refine ⟨D0.mono s (fun x => x) ?_, mm⟩
    obtain ⟨_, _, _, _, q, _⟩ := D0
    rw [q, k _ _ (k0 _ _ q n3) n3 n1 n4]
  · show (S.cb.take m).length = (S.xs.take m).length
    rw [List.length_take, List.length_take, h.cbl]
  · show (p ++ [(S.xs.take m).length]).Pairwise (· ≤ ·)
    rw [List.length_take, Nat.min_eq_left hm, List.pairwise_append]
    exact ⟨hp1.1, List.pairwise_singleton _ _, fun x hx y hy => by
      rw [List.mem_singleton.mp hy]
      exact hp1.2.2 x hx m (List.mem_append.mpr (.inl (List.mem_singleton.mpr rfl)))⟩
def spUndoO (c : Cls6) (CT : Addr) : Sp := fun vs H Q E => ∃ (B A : Addr → Prop) (a : OA) (S : OS), vs = [.ref a.o] ∧ OfM c B A H a S ∧
  (∀ H', S.past = [] → Same H H' → E (.ref CT) none H') ∧
  (∀ p m j' H', S.past = p ++ [m] → Fr A H A H' → OfM c (uni B A) A H' { a with j := j', bj := a.b } (S.undone p m) → Q .non H')
abbrev veB : List Value := [.type "ValueError", .type "Exception", .type "BaseException", .type "object"]
section
variable {P : Program} {w : World} {mg : Str → Option Value} {base : Heap} {c : Cls6} {CT CE : Addr}
structure GO6 (P : Program) (w : World) (mg : Str → Option Value) (base : Heap) (c : Cls6) (CT CE : Addr) : Prop extends K8N P w c.K mg base c.CB c.aT c.CJ CE where
  T : Co c.K mg c.CO
  TJ : Cj P c.K mg c.CJ c.CB
  xT : PySem.W.excIn c.K CT veB "ValueError.__new__" = true
  gT : mg "NothingDone" = some (.ref CT)
  kT : PySem.W.keepIn c.K (.ref CT) = true
  bT : PySem.W.subIn c.K (.ref CT) (.type "BaseException") = some true
  tT : PySem.W.typeIn c.K (.ref CT) = some (.type "type")
abbrev s_Office_undo : Stmt := inClass (topS 39) 9
theorem sc_Office_undo : FnScope ["self", "many"] ["self"] (defScope s_Office_undo) := ⟨rfl, rfl, rfl, by decide +kernel, rfl, by decide +kernel, by decide +kernel⟩
theorem ok_undoO {f : Addr} {fd : FuncData} (F : Fun c.K "undo" "Office.undo" s_Office_undo f fd) (B : Blt mg) (G : GO6 P w mg base c CT CE) : FnOk P w c.K mg base (L2.CX P w) 9 f fd ["self"] (spUndoO c CT) := by
  have T := G.T
  have TJ := G.TJ
  refine F.okX sc_Office_undo (fun vs H Q E h => ?_) (fun cdv A0 outer s H vs Q E hr h => ?_)
  · obtain ⟨B, A, a, S, rfl, _⟩ := h
    rfl
  · obtain ⟨B', A, a, S, rfl, M, qn, q⟩ := h
    have hu := hu_of hr
    refine ⟨_, (pss_cons (ps_if (pt_cmpR op_eq (pe_callB call_len_seq (by rfl) B.len (by decide +kernel) (pa_cons (pe_fld (pv 0) rfl) pa_nil)) pe_int (nomark _))
      (pss_one (ps_raise rfl (takes_of rfl rfl rfl rfl) (pmk_own0 PySem.F.excBase_ValueError G.xT G.gT G.kT (raises_own G.bT G.tT) rfl)))
      pss_nil)
    (pss_cons (ps_set (i := 1) sc_Office_undo.nd rfl (Or.inl rfl) (pe_bm0 PySem.F.plainAttrs_list PySem.F.slot_list_pop PySem.F.type_list_pop mt_pop (pe_fld (pv 0) rfl)))
    (pss_cons (ps_fld (pv 0) (pe_mak G.k8.Journal (hr.mono (by decide)) (passE (takes_of rfl rfl rfl rfl)) (pa_cons (pe_fld (pv 0) rfl) (pa_cons (pe_slice sl_tupA (pe_fld (pe_fld (pv 0) rfl) rfl) po_none (po_some (pv 1))) pa_nil))) rfl)
    (pss_one (ps_delTail (pe_fld (pv 0) rfl) (po_some (pv 1))))))), ?_⟩
    refine ⟨_, rfl, a.o, c.CO, a.dx, _, _, rfl, M.o, T.cl, T.nP, rfl, a.pa, _, rfl, .inl (SqL.of M.pa), rfl, _, rfl, ?_⟩
    rcases List.eq_nil_or_concat S.past with e0 | ⟨p, m, e0⟩
    · rw [e0]
      exact iteT (qn H e0 (Same.refl _))
    have e0 : S.past = p ++ [m] := by rw [e0]; simp
    have ne0 : ¬ (V.int ((S.past.map fun (n : Nat) => V.int (n : Int)).length : Int) = V.int 0) := fun z => by
      have := V.int.inj z
      rw [List.length_map, e0, List.length_append] at this
      have h1 : ([m] : List Nat).length = 1 := rfl
      omega
    rw [decide_eq_false ne0]
    refine iteF ⟨_, rfl, a.o, c.CO, a.dx, _, _, rfl, M.o, T.cl, T.nP, rfl, .inl ⟨rfl, _, SqL.of M.pa⟩, a.pa, _, .int (m : Int), rfl, rfl, M.pa, ?_, ?_⟩
    · rw [e0, List.map_append, List.length_append, List.getElem?_append_right (by show _ ≤ _ + 1 - 1; omega)]
      show [V.int (m : Int)][_ + 1 - 1 - _]? = _
      rw [show ∀ n : Nat, n + 1 - 1 - n = 0 from fun n => by omega]
      rfl
    have e1 : (S.past.map fun (n : Nat) => V.int (n : Int)).dropLast = p.map fun (n : Nat) => V.int (n : Int) := by
      rw [e0, List.map_append]
      exact List.dropLast_concat
    rw [e1]
    have nop : a.o ≠ a.pa := ne_of M.o M.pa (by intro z; cases z)
    have k1 : ∀ q y, H q = some y → q ≠ a.pa → (upd H a.pa (.lst (p.map fun (n : Nat) => V.int (n : Int)))) q = some y := fun q y hq n => by rw [upd_ne n]; exact hq
    have p1 : (upd H a.pa (.lst (p.map fun (n : Nat) => V.int (n : Int)))) a.pa = some (.lst (p.map fun (n : Nat) => V.int (n : Int))) := upd_same
    have c1 : Same (cutH B' H) (upd H a.pa (.lst (p.map fun (n : Nat) => V.int (n : Int)))) := fun q y hq => by
      obtain ⟨n1, n2⟩ := cut_of hq
      exact k1 q y n2 fun z => n1 (by rw [z]; exact M.AB _ M.Apa)
    have fr1 : ∀ q, (upd H a.pa (.lst (p.map fun (n : Nat) => V.int (n : Int)))) q = none → H q = none := fun q hq => by
      by_cases z : q = a.pa
      · rw [z, p1] at hq; cases hq
      · rw [upd_ne z] at hq; exact hq
    generalize (upd H a.pa (.lst (p.map fun (n : Nat) => V.int (n : Int)))) = H1 at k1 p1 c1 fr1 ⊢
    have ho1 := k1 _ _ M.o nop
    have J1 := M.jr.same c1
    have B1 := M.bk.same c1
    obtain ⟨jx, jt, jk, j1, j2, j3, j4, j5, j6, j7⟩ := id J1
    have hp := M.pst
    rw [e0, List.append_assoc] at hp
    have hm : m ≤ S.xs.length := (List.pairwise_append.mp (show ([m] ++ [S.xs.length]).Pairwise (· ≤ ·) from (List.pairwise_append.mp hp).2.1)).2.2 m (List.mem_singleton.mpr rfl) _ (List.mem_singleton.mpr rfl)
    refine ⟨_, rfl, a.o, c.CO, a.dx, _, _, rfl, ho1, T.cl, T.nB, rfl, _, rfl, a.o, c.CO, a.dx, _, _, rfl, ho1, T.cl, T.nJ, rfl, a.j, c.CJ, jx, _, _, rfl, j1, TJ.cl, TJ.nE, jf_e _ _ _, _, rfl, ?_⟩
    refine ⟨_, rfl, jt, S.us, rfl, j3, fun hw => ?_, fun hw t2 nt2 => ?_⟩
    · have em : S.us.take m = S.us := by
        have h2 : HT.sIx S.us.length S.us.length (some (m : Int)) = S.us.length := hw.2
        rw [HT.sIx_nat] at h2
        exact List.take_of_length_le (by omega)
      have hsq : SqT c.K H1 jt (S.us.take m) := by rw [em]; exact j3
      obtain ⟨t2, et⟩ : ∃ X, X = jt := ⟨_, rfl⟩
      obtain ⟨H2, eH⟩ : ∃ X, X = H1 := ⟨_, rfl⟩
      have s12 : Same H1 H2 := by rw [eH]; exact Same.refl _
      rw [← eH, ← et] at hsq ⊢
      intro x dx' nx ndx nex
      have sX : Same H2 (upd (upd H2 dx' (.own x)) x (.ins c.CJ dx' [])) := (sameAt (Same.refl _) ndx).trans (sameAt (Same.refl _) (by rw [upd_ne (Ne.symm nex)]; exact nx))
      have s1X := s12.trans sX
      refine ⟨x, dx', a.b, t2, S.L, S.us.take m, (S.xs.take m).map some, rfl, upd_same, B1.same s1X, .inr (seqS hsq sX), by have := M.x4; rw [List.length_take]; omega, by rw [List.length_map, List.length_take, List.length_take, j4], fun i v o hv ho => ?_, fun H5 ys hys hw hJ5 hk kk => ⟨rfl, ?_⟩, fun i d H5 hw s hx => ?_⟩
      · rw [List.getElem?_map] at ho
        cases e : (S.xs.take m)[i]? with
        | none => rw [e] at ho; cases ho
        | some y =>
          rw [e] at ho
          cases ho
          have hi : i < m := by
            have := (List.getElem?_eq_some_iff.mp e).1
            rw [List.length_take] at this
            omega
          rw [List.getElem?_take_of_lt hi] at hv e
          exact (j5 i v y hv e).same s1X
      · have e5 : ys = S.xs.take m := ((List.map_inj_right (fun a b h => Option.some.inj h)).mp hys).symm
        subst e5
        have s5 : Same H1 H5 := s12.trans (mk_same nx ndx kk)
        have ho5 := s5 _ _ ho1
        obtain ⟨dx5, t5, kd5, k51, k52⟩ := hk
        have BT1 : ∀ q, B' q → Mu c.CO (H1 q) := fun q hq => by
          by_cases z : q = a.pa
          · subst z; exact ⟨_, p1, trivial⟩
          · obtain ⟨u, e1, mm⟩ := M.BT q hq
            exact ⟨u, k1 _ _ e1 z, mm⟩
        have JC := hJ5.cut s5 BT1 (no_of s12 nx) ⟨dx5, t5, kd5, k51, no_of s1X k52⟩ ((M.bk.same (cut_step (fun q y hq nq => k1 q y hq fun z => nq (by rw [z]; exact M.AB _ M.Apa)) fun q z => .inl z)).same (cut_step (fun q y hq _ => s5 _ _ hq) fun q z => .inl z))
        refine ⟨_, rfl, a.o, c.CO, a.dx, _, rfl, ho5, T.cl, T.nJ, (by show 6 < 1000; decide), ?_⟩
        rw [putF_j]
        have nco : a.cb ≠ a.o := ne_of M.cb M.o (by intro z; cases z)
        have npo : a.pa ≠ a.o := nop.symm
        have hc6 : (upd H5 a.o (.ins c.CO a.dx (ofF a.b x a.dd a.pa S.cl a.cb))) a.cb = some (.lst (S.cb.map V.int)) := by rw [upd_ne nco]; exact s5 _ _ (k1 _ _ M.cb M.ne.symm)
        have ho6 : (upd H5 a.o (.ins c.CO a.dx (ofF a.b x a.dd a.pa S.cl a.cb))) a.o = some (.ins c.CO a.dx (ofF a.b x a.dd a.pa S.cl a.cb)) := upd_same
        refine ⟨_, rfl, a.o, c.CO, a.dx, _, _, rfl, ho6, T.cl, T.nY, rfl, _, rfl, _, rfl, a.cb, _, m, rfl, rfl, hc6, (by rw [List.length_map, M.cbl]; exact hm), ?_⟩
        have e7 : (S.cb.map V.int).take m = (S.cb.take m).map V.int := List.map_take.symm
        rw [e7]
        have fin := M.undo_ (H4 := H5) (H' := upd (upd H5 a.o (.ins c.CO a.dx (ofF a.b x a.dd a.pa S.cl a.cb))) a.cb (.lst ((S.cb.take m).map V.int))) (fun q y hq n => s5 _ _ (k1 q y hq n)) e0 JC (fun q y hq _ n2 n3 => by rw [upd_ne n3, upd_ne n2]; exact hq) (by rw [upd_ne nco.symm]; exact upd_same) (by rw [upd_ne M.ne, upd_ne npo]; exact s5 _ _ p1) upd_same
        exact q p m x _ e0 fin.1 fin.2
      · have g : (wk S.L (S.xs.map some) 0 (fun _ => none) none) = (none, (wk S.L (S.xs.map some) 0 (fun _ => none) none).2) := by rw [← j6]
        obtain ⟨Sk, hk⟩ := wk_pre g m
        rw [hk] at hw
        cases hw
    · have em : cutV S.us none (some (m : Int)) = S.us.take m := by
        unfold cutV
        rw [HT.sIx_nat]
        show (S.us.drop 0).take (min m S.us.length - 0) = _
        rw [List.drop_zero, Nat.sub_zero, Nat.min_def]
        split
        · rfl
        · rw [List.take_of_length_le (Nat.le_refl _), List.take_of_length_le (by omega)]
      rw [em]
      have hsq : SqT c.K (upd H1 t2 (.tup (S.us.take m))) t2 (S.us.take m) := SqT.of upd_same
      have s12 : Same H1 (upd H1 t2 (.tup (S.us.take m))) := sameAt (Same.refl _) nt2
      generalize (upd H1 t2 (.tup (S.us.take m))) = H2 at hsq s12 ⊢
      intro x dx' nx ndx nex
      have sX : Same H2 (upd (upd H2 dx' (.own x)) x (.ins c.CJ dx' [])) := (sameAt (Same.refl _) ndx).trans (sameAt (Same.refl _) (by rw [upd_ne (Ne.symm nex)]; exact nx))
      have s1X := s12.trans sX
      refine ⟨x, dx', a.b, t2, S.L, S.us.take m, (S.xs.take m).map some, rfl, upd_same, B1.same s1X, .inr (seqS hsq sX), by have := M.x4; rw [List.length_take]; omega, by rw [List.length_map, List.length_take, List.length_take, j4], fun i v o hv ho => ?_, fun H5 ys hys hw hJ5 hk kk => ⟨rfl, ?_⟩, fun i d H5 hw s hx => ?_⟩
      · rw [List.getElem?_map] at ho
        cases e : (S.xs.take m)[i]? with
        | none => rw [e] at ho; cases ho
        | some y =>
          rw [e] at ho
          cases ho
          have hi : i < m := by
            have := (List.getElem?_eq_some_iff.mp e).1
            rw [List.length_take] at this
            omega
          rw [List.getElem?_take_of_lt hi] at hv e
          exact (j5 i v y hv e).same s1X
      · have e5 : ys = S.xs.take m := ((List.map_inj_right (fun a b h => Option.some.inj h)).mp hys).symm
        subst e5
        have s5 : Same H1 H5 := s12.trans (mk_same nx ndx kk)
        have ho5 := s5 _ _ ho1
        obtain ⟨dx5, t5, kd5, k51, k52⟩ := hk
        have BT1 : ∀ q, B' q → Mu c.CO (H1 q) := fun q hq => by
          by_cases z : q = a.pa
          · subst z; exact ⟨_, p1, trivial⟩
          · obtain ⟨u, e1, mm⟩ := M.BT q hq
            exact ⟨u, k1 _ _ e1 z, mm⟩
        have JC := hJ5.cut s5 BT1 (no_of s12 nx) ⟨dx5, t5, kd5, k51, no_of s1X k52⟩ ((M.bk.same (cut_step (fun q y hq nq => k1 q y hq fun z => nq (by rw [z]; exact M.AB _ M.Apa)) fun q z => .inl z)).same (cut_step (fun q y hq _ => s5 _ _ hq) fun q z => .inl z))
        refine ⟨_, rfl, a.o, c.CO, a.dx, _, rfl, ho5, T.cl, T.nJ, (by show 6 < 1000; decide), ?_⟩
        rw [putF_j]
        have nco : a.cb ≠ a.o := ne_of M.cb M.o (by intro z; cases z)
        have npo : a.pa ≠ a.o := nop.symm
        have hc6 : (upd H5 a.o (.ins c.CO a.dx (ofF a.b x a.dd a.pa S.cl a.cb))) a.cb = some (.lst (S.cb.map V.int)) := by rw [upd_ne nco]; exact s5 _ _ (k1 _ _ M.cb M.ne.symm)
        have ho6 : (upd H5 a.o (.ins c.CO a.dx (ofF a.b x a.dd a.pa S.cl a.cb))) a.o = some (.ins c.CO a.dx (ofF a.b x a.dd a.pa S.cl a.cb)) := upd_same
        refine ⟨_, rfl, a.o, c.CO, a.dx, _, _, rfl, ho6, T.cl, T.nY, rfl, _, rfl, _, rfl, a.cb, _, m, rfl, rfl, hc6, (by rw [List.length_map, M.cbl]; exact hm), ?_⟩
        have e7 : (S.cb.map V.int).take m = (S.cb.take m).map V.int := List.map_take.symm
        rw [e7]
        have fin := M.undo_ (H4 := H5) (H' := upd (upd H5 a.o (.ins c.CO a.dx (ofF a.b x a.dd a.pa S.cl a.cb))) a.cb (.lst ((S.cb.take m).map V.int))) (fun q y hq n => s5 _ _ (k1 q y hq n)) e0 JC (fun q y hq _ n2 n3 => by rw [upd_ne n3, upd_ne n2]; exact hq) (by rw [upd_ne nco.symm]; exact upd_same) (by rw [upd_ne M.ne, upd_ne npo]; exact s5 _ _ p1) upd_same
        exact q p m x _ e0 fin.1 fin.2
      · have g : (wk S.L (S.xs.map some) 0 (fun _ => none) none) = (none, (wk S.L (S.xs.map some) 0 (fun _ => none) none).2) := by rw [← j6]
        obtain ⟨Sk, hk⟩ := wk_pre g m
        rw [hk] at hw
        cases hw
end
end Ash

set_option Elab.async false
set_option linter.all false
set_option maxRecDepth 100000
set_option maxHeartbeats 4000000
namespace Ash
open PySem PySem.Spec PyProof.Rows L2
open C8 (pss_cut)
/-! ### a new office -/
theorem pe_no {X : Cx} {e : Expr} : PE X e (fun _ _ _ => False) := ⟨fun _ _ _ _ _ _ h => h.elim⟩
def newOS (L : List (Str × Int)) (xs : List Ent) (us : List V) : OS := ⟨L, xs, us, [], [], 0, List.replicate xs.length 0⟩
def spOfInit (c : Cls6) : Sp := fun vs H Q _ => ∃ (B : Addr → Prop) (o dx b j bj : Addr) (L : List (Str × Int)) (us : List V) (xs : List Ent), vs = [.ref o, .ref b, .ref j] ∧ H o = some (.ins c.CO dx []) ∧ B o ∧ (∀ x, B x → Mu c.CO (H x)) ∧ BookAt c.CB (cutH B H) b L ∧ JAt c.K c.aT c.CJ c.CB (cutH B H) j bj L us xs ∧ us.length ≤ 400 ∧
  ∀ a A' H', a.o = o → a.j = j → a.b = b → a.bj = bj → (∀ q y, H q = some y → q ≠ o → H' q = some y) → (∀ p, A' p → p = o ∨ H p = none) → OfM c (uni B A') A' H' a (newOS L xs us) → Q .non H'
section
variable {P : Program} {w : World} {mg : Str → Option Value} {base : Heap} {c : Cls6} {fb fl : Addr} {fdb fdl : FuncData}
abbrev s_Office_init : Stmt := inClass (topS 39) 0
theorem sc_Office_init : FnScope ["self", "book", "journal"] ["self", "book", "journal"] (defScope s_Office_init) := ⟨rfl, rfl, rfl, by decide +kernel, rfl, by decide +kernel, by decide +kernel⟩
theorem ok_ofInit {f : Addr} {fd : FuncData} (F : FunD c.K "__init__" "Office.__init__" (defArgs s_Office_init) (defBody s_Office_init) (defScope s_Office_init) [.non] [] f fd) (B : Blt mg) (T : Co c.K mg c.CO) (TB : Cb c.K mg c.CB) (TJ : Cj P c.K mg c.CJ c.CB)
    (bk : ∀ H b dx fs, H b = some (.ins c.CB dx fs) → TyX c.K H (.ref b) (.ref c.CB)) (jk : ∀ H b dx fs, H b = some (.ins c.CJ dx fs) → TyX c.K H (.ref b) (.ref c.CJ))
    (Fl : FnOk P w c.K mg base CX0 1 fl fdl ["self"] (spJLen c.K c.aT c.CJ c.CB)) (hl1 : PySem.W.findIn c.K (.ref c.CJ) "__len__" = some (some (.ref fl))) (hl2 : PySem.W.isFn c.K (.ref fl) = true) (hl3 : Binds c.K fdl ["self"] [])
    (Zb : NeC c.K c.CB fb) (hb : Binds c.K fdb ["self", "other"] []) (Fb : FnOk P w c.K mg base CX0 1 fb fdb ["self", "other"] (spBookEqV c.CB)) : FnOk P w c.K mg base (L2.CX P w) 4 f fd ["self", "book", "journal"] (spOfInit c) := by
  have c_Book := TB.c
  have c_Journal := TJ.c
  refine F.ok (CX := L2.CX P w) sc_Office_init (fun vs H Q E h => ?_) (fun cdv A0 outer s H vs Q E hr h => ?_)
  · obtain ⟨B, o, dx, b, j, bj, L, us, xs, rfl, _⟩ := h
    rfl
  · obtain ⟨B', o, dx, b, j, bj, L, us, xs, rfl, ho, hBo, hBT, hB, hJ, h4, q⟩ := h
    have hu := hu_of hr
    refine ⟨_, (pss_cons (ps_if (pt_not (pt_val (pe_callB call_isi (by rfl) B.isinstance (by decide +kernel) (pa_cons (pv 1) (pa_cons (pe_glob (v := .ref c.CB) (by rfl) c_Book rfl) pa_nil)))))
      (pss_one ps_never)
      pss_nil)
    (pss_cons (ps_if (PW.pt (pw_and (pt_cmpR op_notN (pv 2) pe_non (nomark _)) (pw_and1 (PW.pt (pw_or (pt_not (pt_val (pe_callB call_isi (by rfl) B.isinstance (by decide +kernel) (pa_cons (pv 2) (pa_cons (pe_glob (v := .ref c.CJ) (by rfl) c_Journal rfl) pa_nil))))) (pw_or1 (pt_cmpR (op_neV Fb Zb hb pass0 (hr.mono (by decide))) (pe_fld (pv 2) rfl) (pv 1) (nomark _))))))))
      (pss_one ps_never)
      pss_nil)
    (pss_cons (ps_fld (pv 0) (pv 1) rfl)
    (pss_cons (ps_fld (pv 0) (pe_ifExp (pt_cmpR op_isN (pv 2) pe_non (nomark _)) pe_no (pv 2)) rfl)
    (pss_cons (ps_fld (pv 0) pe_dnewK rfl)
    (pss_cons (ps_fld (pv 0) (pe_lst pa_nil) rfl)
    (pss_cons (ps_fld (pv 0) pe_int rfl)
    (pss_one (ps_fld (pv 0) (pe_op op_rep (pe_lst (pa_cons pe_int pa_nil)) (pe_callB (call_lenI Fl hl1 hl2 hl3 pass0 (hr.mono (by decide))) (by rfl) B.len (by decide +kernel) (pa_cons (pe_fld (pv 0) rfl) pa_nil))) rfl))))))))), ?_⟩
    obtain ⟨bx, bd, L', b1, b2, b3⟩ := id (hB.same (cut_same _ _))
    obtain ⟨jx, jt, jkd, j1, j2, j3, j4, j5, j6, j7⟩ := id (hJ.same (cut_same _ _))
    obtain ⟨bx2, bd2, L2', g1, g2, g3⟩ := id j2
    refine ⟨_, rfl, _, _, _, _, true, rfl, ClsV.own _, bk _ _ _ _ b1, (by show PySem.W.kitOne _ _ _ = _; unfold PySem.W.kitOne; rw [if_pos (by simp)]), _, rfl, iteF ?_⟩
    refine ⟨_, rfl, rfl, _, rfl, iteT ?_⟩
    refine ⟨_, rfl, _, _, _, _, true, rfl, ClsV.own _, jk _ _ _ _ j1, (by show PySem.W.kitOne _ _ _ = _; unfold PySem.W.kitOne; rw [if_pos (by simp)]), _, rfl, iteF ?_⟩
    refine ⟨_, rfl, j, c.CJ, jx, _, _, rfl, j1, TJ.cl, TJ.nB, jf_b _ _ _, _, rfl, ?_⟩
    refine ⟨bj, b, bx2, bx, _, _, rfl, rfl, g1, b1, bj, b, L, L, rfl, j2, hB.same (cut_same _ _), .inl ⟨fun _ => rfl, fun H1 ex => ⟨true, rfl, ⟨_, rfl, iteF ?_⟩⟩⟩⟩
    have s1 : Same H H1 := ex
    have ho1 := s1 _ _ ho
    have njo : j ≠ o := fun z => by
      obtain ⟨_, _, _, h, _⟩ := hJ
      exact (cut_of h).1 (z ▸ hBo)
    refine ⟨_, rfl, _, rfl, o, c.CO, dx, [], rfl, ho1, T.cl, T.nB, (by show 0 < 1000; decide), ?_⟩
    have k2 : ∀ q y, H q = some y → q ≠ o → (upd H1 o (.ins c.CO dx (putF "_book" (.ref b) []))) q = some y := fun q y h n => by rw [upd_ne n]; exact s1 _ _ h
    have o2 : (upd H1 o (.ins c.CO dx (putF "_book" (.ref b) []))) o = some (.ins c.CO dx (putF "_book" (.ref b) [])) := upd_same
    generalize (upd H1 o (.ins c.CO dx (putF "_book" (.ref b) []))) = H2 at k2 o2 ⊢
    refine ⟨_, rfl, rfl, _, rfl, iteF ⟨_, rfl, _, rfl, o, c.CO, dx, _, rfl, o2, T.cl, T.nJ, (by show 1 < 1000; decide), ?_⟩⟩
    have k3 : ∀ q y, H q = some y → q ≠ o → (upd H2 o (.ins c.CO dx (putF "journal" (.ref j) (putF "_book" (.ref b) [])))) q = some y := fun q y h n => by rw [upd_ne n]; exact k2 _ _ h n
    have o3 : (upd H2 o (.ins c.CO dx (putF "journal" (.ref j) (putF "_book" (.ref b) [])))) o = some (.ins c.CO dx (putF "journal" (.ref j) (putF "_book" (.ref b) []))) := upd_same
    generalize (upd H2 o (.ins c.CO dx (putF "journal" (.ref j) (putF "_book" (.ref b) [])))) = H3 at k3 o3 ⊢
    intro dd ndd
    have ndo : dd ≠ o := fun z => by rw [z, o3] at ndd; cases ndd
    have d0 : H dd = none := by
      cases e : H dd with
      | none => rfl
      | some y => rw [k3 _ _ e ndo] at ndd; cases ndd
    refine ⟨_, rfl, o, c.CO, dx, _, rfl, (by rw [upd_ne ndo.symm]; exact o3), T.cl, T.nD, (by show 2 < 1000; decide), ?_⟩
    have k5 : ∀ q y, H q = some y → q ≠ o → (upd (upd H3 dd (.dK [])) o (.ins c.CO dx (putF "_drafts" (.ref dd) (putF "journal" (.ref j) (putF "_book" (.ref b) []))))) q = some y := fun q y h n => by rw [upd_ne n, upd_ne (ne_of_none h d0)]; exact k3 _ _ h n
    have o5 : (upd (upd H3 dd (.dK [])) o (.ins c.CO dx (putF "_drafts" (.ref dd) (putF "journal" (.ref j) (putF "_book" (.ref b) []))))) o = some (.ins c.CO dx (putF "_drafts" (.ref dd) (putF "journal" (.ref j) (putF "_book" (.ref b) [])))) := upd_same
    have d5 : (upd (upd H3 dd (.dK [])) o (.ins c.CO dx (putF "_drafts" (.ref dd) (putF "journal" (.ref j) (putF "_book" (.ref b) []))))) dd = some (.dK []) := by rw [upd_ne ndo]; exact upd_same
    generalize (upd (upd H3 dd (.dK [])) o (.ins c.CO dx (putF "_drafts" (.ref dd) (putF "journal" (.ref j) (putF "_book" (.ref b) []))))) = H5 at k5 o5 d5 ⊢
    refine ⟨(by show 0 ≤ sizeLine; decide), fun pa npa => ?_⟩
    have npo : pa ≠ o := fun z => by rw [z, o5] at npa; cases npa
    have npd : dd ≠ pa := fun z => by rw [← z, d5] at npa; cases npa
    have p0 : H pa = none := by
      cases e : H pa with
      | none => rfl
      | some y => rw [k5 _ _ e npo] at npa; cases npa
    refine ⟨_, rfl, o, c.CO, dx, _, rfl, (by rw [upd_ne npo.symm]; exact o5), T.cl, T.nP, (by show 3 < 1000; decide), ?_⟩
    have k7 : ∀ q y, H q = some y → q ≠ o → (upd (upd H5 pa (.lst [])) o (.ins c.CO dx (putF "_past" (.ref pa) (putF "_drafts" (.ref dd) (putF "journal" (.ref j) (putF "_book" (.ref b) [])))))) q = some y := fun q y h n => by rw [upd_ne n, upd_ne (ne_of_none h p0)]; exact k5 _ _ h n
    have o7 : (upd (upd H5 pa (.lst [])) o (.ins c.CO dx (putF "_past" (.ref pa) (putF "_drafts" (.ref dd) (putF "journal" (.ref j) (putF "_book" (.ref b) [])))))) o = some (.ins c.CO dx (putF "_past" (.ref pa) (putF "_drafts" (.ref dd) (putF "journal" (.ref j) (putF "_book" (.ref b) []))))) := upd_same
    have d7 : (upd (upd H5 pa (.lst [])) o (.ins c.CO dx (putF "_past" (.ref pa) (putF "_drafts" (.ref dd) (putF "journal" (.ref j) (putF "_book" (.ref b) [])))))) dd = some (.dK []) := by rw [upd_ne ndo, upd_ne npd]; exact d5
    have p7 : (upd (upd H5 pa (.lst [])) o (.ins c.CO dx (putF "_past" (.ref pa) (putF "_drafts" (.ref dd) (putF "journal" (.ref j) (putF "_book" (.ref b) [])))))) pa = some (.lst []) := by rw [upd_ne npo]; exact upd_same
    generalize (upd (upd H5 pa (.lst [])) o (.ins c.CO dx (putF "_past" (.ref pa) (putF "_drafts" (.ref dd) (putF "journal" (.ref j) (putF "_book" (.ref b) [])))))) = H7 at k7 o7 d7 p7 ⊢
    refine ⟨_, rfl, o, c.CO, dx, _, rfl, o7, T.cl, T.nC, (by show 4 < 1000; decide), ?_⟩
    have k8 : ∀ q y, H q = some y → q ≠ o → (upd H7 o (.ins c.CO dx (putF "_closes" (.int 0) (putF "_past" (.ref pa) (putF "_drafts" (.ref dd) (putF "journal" (.ref j) (putF "_book" (.ref b) []))))))) q = some y := fun q y h n => by rw [upd_ne n]; exact k7 _ _ h n
    have o8 : (upd H7 o (.ins c.CO dx (putF "_closes" (.int 0) (putF "_past" (.ref pa) (putF "_drafts" (.ref dd) (putF "journal" (.ref j) (putF "_book" (.ref b) []))))))) o = some (.ins c.CO dx (putF "_closes" (.int 0) (putF "_past" (.ref pa) (putF "_drafts" (.ref dd) (putF "journal" (.ref j) (putF "_book" (.ref b) [])))))) := upd_same
    have d8 : (upd H7 o (.ins c.CO dx (putF "_closes" (.int 0) (putF "_past" (.ref pa) (putF "_drafts" (.ref dd) (putF "journal" (.ref j) (putF "_book" (.ref b) []))))))) dd = some (.dK []) := by rw [upd_ne ndo]; exact d7
    have p8 : (upd H7 o (.ins c.CO dx (putF "_closes" (.int 0) (putF "_past" (.ref pa) (putF "_drafts" (.ref dd) (putF "journal" (.ref j) (putF "_book" (.ref b) []))))))) pa = some (.lst []) := by rw [upd_ne npo]; exact p7
    generalize (upd H7 o (.ins c.CO dx (putF "_closes" (.int 0) (putF "_past" (.ref pa) (putF "_drafts" (.ref dd) (putF "journal" (.ref j) (putF "_book" (.ref b) []))))))) = H8 at k8 o8 d8 p8 ⊢
    refine ⟨(by show 1 ≤ sizeLine; decide), fun p1 np1 => ?_⟩
    have s9 : Same H8 (upd H8 p1 (.lst [.int 0])) := sameAt (Same.refl _) np1
    have k9 : ∀ q y, H q = some y → q ≠ o → (upd H8 p1 (.lst [.int 0])) q = some y := fun q y h n => s9 _ _ (k8 _ _ h n)
    have J9 : JAt c.K c.aT c.CJ c.CB (upd H8 p1 (.lst [.int 0])) j bj L us xs := hJ.same fun q y h => by
      obtain ⟨n1, n2⟩ := cut_of h
      exact k9 _ _ n2 fun z => n1 (z ▸ hBo)
    obtain ⟨jx9, jt9, jk9, j91, _⟩ := id J9
    refine ⟨_, rfl, o, c.CO, dx, _, _, rfl, s9 _ _ o8, T.cl, T.nJ, rfl, j, jx9, _, rfl, j91, j, bj, L, us, xs, rfl, J9, us.length, rfl, by omega, p1, _, _, rfl, rfl, upd_same, by omega, by omega, (by show 1 * ((us.length : Int).toNat) ≤ _; rw [Int.toNat_natCast, Nat.one_mul]; exact Nat.le_of_lt (small1000 (by omega))), fun p2 np2 => ?_⟩
    rw [Int.toNat_natCast, flat_rep]
    have o9 := s9 _ _ o8
    have d9 := s9 _ _ d8
    have p9 := s9 _ _ p8
    generalize (upd H8 p1 (.lst [.int 0])) = H9 at np2 k9 o9 d9 p9 ⊢
    have n2o : p2 ≠ o := fun z => by rw [z, o9] at np2; cases np2
    have n2d : dd ≠ p2 := fun z => by rw [← z, d9] at np2; cases np2
    have n2p : pa ≠ p2 := fun z => by rw [← z, p9] at np2; cases np2
    have p20 : H p2 = none := by
      cases e : H p2 with
      | none => rfl
      | some y => rw [k9 _ _ e n2o] at np2; cases np2
    refine ⟨_, rfl, o, c.CO, dx, _, rfl, (by rw [upd_ne n2o.symm]; exact o9), T.cl, T.nY, (by show 5 < 1000; decide), ?_⟩
    have k11 : ∀ q y, H q = some y → q ≠ o → (upd (upd H9 p2 (.lst (List.replicate us.length (.int 0)))) o (.ins c.CO dx (ofF b j dd pa 0 p2))) q = some y := fun q y h n => by rw [upd_ne n, upd_ne (ne_of_none h p20)]; exact k9 _ _ h n
    have hA : ∀ q, (q = o ∨ q = dd ∨ q = pa ∨ q = p2) → q = o ∨ H q = none := fun q hq => by
      rcases hq with rfl | rfl | rfl | rfl
      · exact .inl rfl
      · exact .inr d0
      · exact .inr p0
      · exact .inr p20
    have cs : Same (cutH B' H) (cutH (uni B' fun q => q = o ∨ q = dd ∨ q = pa ∨ q = p2) (upd (upd H9 p2 (.lst (List.replicate us.length (.int 0)))) o (.ins c.CO dx (ofF b j dd pa 0 p2)))) := cut_step (fun q y h n => k11 q y h fun z => n (z ▸ hBo)) fun q hq => hq.elim .inl fun h => (hA q h).imp (fun z : q = o => by rw [z]; exact hBo) id
    refine q ⟨o, dx, b, j, bj, dd, pa, p2⟩ (fun q => q = o ∨ q = dd ∨ q = pa ∨ q = p2) _ rfl rfl rfl rfl k11 hA ?_
    refine ⟨upd_same, by rw [upd_ne ndo, upd_ne n2d]; exact d9, by rw [upd_ne npo, upd_ne n2p]; exact p9, ?_, .inl rfl, .inr (.inl rfl), .inr (.inr (.inl rfl)), .inr (.inr (.inr rfl)), fun q h => .inr h, fun q hq => ?_, n2p, hB.same cs, hJ.same cs, h4, (fun d hd => nomatch hd), List.Pairwise.nil, List.Pairwise.nil, List.length_replicate, List.pairwise_singleton _ _⟩
    · show (upd (upd H9 p2 (.lst (List.replicate us.length (.int 0)))) o (.ins c.CO dx (ofF b j dd pa 0 p2))) p2 = some (.lst ((List.replicate xs.length (0 : Int)).map V.int))
      rw [upd_ne n2o, upd_same, List.map_replicate, j4]
    · by_cases q1 : q = o
      · subst q1; exact ⟨_, upd_same, rfl⟩
      by_cases q2 : q = p2
      · subst q2; exact ⟨.lst (List.replicate us.length (.int 0)), by rw [upd_ne q1, upd_same], trivial⟩
      rcases hq with hq | rfl | rfl | rfl | rfl
      · obtain ⟨u, e, m⟩ := hBT q hq
        exact ⟨u, k11 _ _ e q1, m⟩
      · exact absurd rfl q1
      · exact ⟨.dK [], by rw [upd_ne q1, upd_ne q2]; exact d9, trivial⟩
      · exact ⟨.lst [], by rw [upd_ne q1, upd_ne q2]; exact p9, trivial⟩
      · exact absurd rfl q2
end
end Ash

set_option Elab.async false
set_option linter.all false
set_option maxRecDepth 100000
set_option maxHeartbeats 4000000
namespace L2
open PySem PySem.Spec PyProof.Rows
/-! ### several except clauses, each with a name or without -/
abbrev Clause := Value × Option Nat × (Addr → Value → Option Addr → TS)
/-- behind a suite its name is gone -/
def endAs (i : Nat) (D : Ends) : Ends := { nx := fun σ H => D.nx (σ.set i none) H, rt := D.rt, bk := fun σ H => D.bk (σ.set i none) H, ct := fun σ H => D.ct (σ.set i none) H }
def clGo (D : Ends) : Option Nat → (Addr → Value → Option Addr → TS) → WX
  | none, ts => fun cls d σ H => ∀ q, H q = none → ts q cls d D σ H
  | some i, ts => fun cls d σ H => ∀ q, H q = none → ts q cls d (endAs i D) (σ.set i (some (.ref q))) H
def wCls (K : PySem.W.Frag) (W0 : WX) (D : Ends) : List Clause → WX
  | [] => W0
  | (c, o, ts) :: r => fun cls d σ H => ∃ b, PySem.W.exmOne K cls c = some b ∧ (b = true → clGo D o ts cls d σ H) ∧ (b = false → wCls K W0 D r cls d σ H)
/-- the name of a clause -/
def ClName (X : Cx) : Option Str → Option Nat → Prop
  | none, none => True
  | some n, some i => X.N[i]? = some n ∧ X.env.kindOf n = some .local
  | _, _ => False
inductive ClsOk (X : Cx) : List ExceptHandler → List Clause → Prop
  | nil : ClsOk X [] []
  | cons {x : Str} {n : Option Str} {o : Option Nat} {c : Value} {ts : Addr → Value → Option Addr → TS} {b0 : Stmt} {su : List Stmt} {p1 p2 : Pos} {hs : List ExceptHandler} {l : List Clause} (hc : Names X x c) (hn : ClName X n o)
      (hsu : ∀ (q : Addr) (oe : Obj) (cls : Value) (d : Option Addr) (pn : List (Addr × Obj)), Zc cls d oe → (∃ vs, oe.data = .fields vs) → PSs (X.suite q ((q, oe) :: pn)) (b0 :: su) (ts q cls d)) (r : ClsOk X hs l) :
      ClsOk X (.ExceptHandler (some (.Name x p1)) n (b0 :: su) p2 :: hs) ((c, o, ts) :: l)
section
variable {X : Cx} {body : List Stmt} {h0 : ExceptHandler} {hs : List ExceptHandler} {l : List Clause} {pos : Pos} {tb : WX → TS} {W0 : WX}
theorem ps_try_cls (st : X.stack = X.env :: X.outer) (fr : X.env.frame = some X.env.locals) (nd : X.N.Nodup) (tk : Takes X W0)
    (hb : ∀ (W : WX) (pn : List (Addr × Obj)) (xe : Value → Shared → Prop), Takes (X.tr pn xe) W → PassesOwn (model X.prog X.w) X.A X.env xe → PSs (X.tr pn xe) body (tb W))
    (hh : ClsOk X (h0 :: hs) l) : PS X (.Try body (h0 :: hs) [] [] pos) (fun D σ H => tb (wCls X.K W0 D l) D σ H) := by
  refine ⟨fun pins s σ H D I h => ?_⟩
  have ok := I.ok
  have fA : X.A.frames = some (X.env :: X.outer) := by rw [ok.frames, st]
  refine wpAny_Try_except (wpAny_mono ((hb (wCls X.K W0 D l) (X.pn ++ pins) (fun e s1 => wpAny (model X.prog X.w) X.A (noteFrame e X.env) (fun _ s2 => wpAny (model X.prog X.w) X.A (setFlight e none) (fun _ s3 => wpAny (model X.prog X.w) X.A (handleBy e X.env (h0 :: hs)) (SP X pins D) X.xe s3) X.xe s2) X.xe s1)
    (fun u s' xx => ?_) PassesOwn.looking).run [] s σ H D (I.toTry _) h) (fun f s1 k => ?_) (fun _ _ he => he))
  · obtain ⟨q, M, t0, pins', τ, G, cls, d, rfl, J', nb, up, sky, nq, os, ag, w⟩ := xx
    have J : Inv X pins τ G t0 := J'.ofTry ok
    have sk : Sky M (X.env :: X.outer) q (Zc cls d) X.env.locals s'.heap := st ▸ sky
    refine (show wpAny (model X.prog X.w) X.A (noteFrame (.ref q) X.env) _ _ _ from Sky.land Zc.steady fA fr sk fun g3 f3 u3 => ?_)
    have J3 : Inv X pins τ G { s' with heap := g3 } := J.landed nb f3.1 (up.trans u3) os ag
    obtain ⟨oe3, vs3, he3, hz3, hd3⟩ := f3.there
    have off : ∀ {g : Heap} {o : Obj} {vs : Array Value}, g.FunFrames M (X.env :: X.outer) → g.get? q = some o → o.data = .fields vs → q ∉ frs (X.env :: X.outer) := fun {g o vs} ff e dd hm => by
      obtain ⟨_, o2, e2, hnf⟩ := ff.mem hm
      rw [e] at e2
      cases e2
      exact hnf _ dd
    have nfr := off f3.2.2.1 he3 hd3
    have nL : q ≠ X.env.locals := fun z => nfr (List.mem_filterMap.mpr ⟨X.env, List.mem_cons_self, fr.trans (congrArg some z.symm)⟩)
    have nF : q ∉ X.fs := fun hm => by
      obtain ⟨e, he, z⟩ := List.mem_filterMap.mp hm
      exact nfr (List.mem_filterMap.mpr ⟨e, List.mem_cons_of_mem _ he, z⟩)
    have S3 := J3.suite he3 hd3 nq nL nF
    have go : ∀ {ks : List ExceptHandler} {ls : List Clause}, ClsOk X ks ls → wCls X.K W0 D ls cls d τ G → wpAny (model X.prog X.w) X.A (handleBy (.ref q) X.env ks) (SP X pins D) X.xe { s' with heap := g3 } := by
      intro ks ls hk
      induction hk with
      | nil =>
        intro w
        refine wpAny_handleBy_nil ?_
        obtain ⟨_, _, _, oe, vs, T, oT, ts', he, hz, hd, h1, hr⟩ := id f3
        unfold PySem.passOn
        refine wpAny_bind (wpAny_field he hd h1 ?_)
        rw [if_neg (show ¬ ((Value.ref T == Value.none) = true) from Bool.false_ne_true)]
        have fin : wpAny (model X.prog X.w) X.A (setFlight (.ref q) X.env.frame) (fun _ s4 => wpAny (model X.prog X.w) X.A (throw (.ref q) : Sem Flow) (SP X pins D) X.xe s4) X.xe { s' with heap := g3 } := by
          rw [fr]
          exact HandSPX.setFlight_upZ f3 fun g4 k4 u4 => wpAny_throw (tk _ _ ⟨q, M, t0, pins, τ, G, cls, d, rfl, J, nb, (up.trans u3).trans u4, .inr (.inr (by rw [st]; exact k4)), nq, os, ag, w⟩)
        first
          | exact wpAny_bind (wpAny_pure (wpAny_bind fin))
          | exact wpAny_bind fin
      | @cons x n o c ts b0 su p1 p2 ks2 l2 hc hn hsu r ih =>
        intro w
        obtain ⟨b, b1, yes, no⟩ := w
        refine wpAny_handleBy_cons (codeAny_handlers_test ?_) (by intro z; cases z)
        have LM := PySem.W.exm_one (M := model X.prog X.w) (J3.kIn) (show PySem.W.Looks (model X.prog X.w) g3 (typeOf (.ref q)) cls from fun A Q E s k z => wpAny_typeOf_ref (k _ _ he3) (by rw [hz3.1]; exact z)) b1
        have test : ∀ {Q E : Value → Shared → Prop}, Q c { s' with heap := g3 } → wpAny (model X.prog X.w) (X.A.mark (some (.ref q))) (eval (.Name x p1) X.env) Q E { s' with heap := g3 } := fun {Q E} z => by
          obtain ⟨e1, e2, e3 | ⟨e3, e4, e5⟩⟩ := hc
          · exact ld_glob (X := X.suite q ((q, oe3) :: (X.pn ++ pins))) S3 e1 e3 z e2
          · exact ld_blt (X := X.suite q ((q, oe3) :: (X.pn ++ pins))) S3 e1 e3 e4 z e5 e2
        refine test (LM.here ?_)
        cases b with
        | false => exact (show wpAny _ X.A (handleBy (.ref q) X.env ks2) _ _ _ from ih (no rfl))
        | true =>
          have yes := yes rfl
          match n, o, hn with
          | none, none, _ =>
            refine codeAny_handlers_suite (HandSPX.lands_againZ f3 fun g4 f4 u4 => ?_)
            have J4 : Inv X pins τ G { s' with heap := g4 } := J.landed nb f4.1 ((up.trans u3).trans u4) os ag
            obtain ⟨oe4, vs4, he4, hz4, hd4⟩ := f4.there
            refine wpAny_mono ((hsu q oe4 cls d (X.pn ++ pins) hz4 ⟨_, hd4⟩).run [] _ _ G _ (J4.suite he4 hd4 nq nL nF) (yes q nq)) (fun f s6 k => ?_) (fun _ _ z => False.elim z)
            cases f with
            | ret u =>
              obtain ⟨v6, σ6, H6, S6, r6, q6⟩ := k
              exact ⟨_, _, _, S6.unsuite ok, r6, q6⟩
            | _ =>
              obtain ⟨σ6, H6, S6, q6⟩ := k
              exact ⟨_, _, S6.unsuite ok, q6⟩
          | some n, some i, ⟨hi, hln⟩ =>
            refine codeAny_handlers_suite_as (HandSPX.lands_againZ f3 fun g4 f4 u4 => ?_)
            have J4 : Inv X pins τ G { s' with heap := g4 } := J.landed nb f4.1 ((up.trans u3).trans u4) os ag
            obtain ⟨oe4, vs4, he4, hz4, hd4⟩ := f4.there
            have S4 := J4.suite he4 hd4 nq nL nF
            refine store_ok (X := X.suite q ((q, oe4) :: (X.pn ++ pins))) (v := .ref q) S4 nd hi (.inl hln) rfl (fun s5 S5 => ?_) (.inr hln)
            refine wpAny_mono ((hsu q oe4 cls d (X.pn ++ pins) hz4 ⟨_, hd4⟩).run [] s5 _ G _ S5 (yes q nq)) (fun f s6 k => ?_) (fun _ _ z => False.elim z)
            have out : ∀ {σ6 : St} {H6 : Hp} {Q : Shared → Prop}, Inv (X.suite q ((q, oe4) :: (X.pn ++ pins))) [] σ6 H6 s6 → (∀ s7, Inv X pins (σ6.set i none) H6 s7 → Q s7) → wpAny (model X.prog X.w) X.A (do bindName X.env n .none; unbindBehindTheSuite X.env n p2) (fun _ s7 => Q s7) X.xe s6 :=
              fun {σ6 H6 Q} S6 hq => gone_ok (S6.unsuite ok) nd hi hln hq
            cases f with
            | ret u =>
              obtain ⟨v6, σ6, H6, S6, r6, q6⟩ := k
              exact out S6 fun s7 J7 => ⟨_, _, _, J7, r6, q6⟩
            | _ =>
              obtain ⟨σ6, H6, S6, q6⟩ := k
              exact out S6 fun s7 J7 => ⟨_, _, J7, q6⟩
    exact go hh w
  · cases f with
    | next =>
      obtain ⟨τ, G, J', z⟩ := k
      exact wpAny_execs_nil ⟨τ, G, J'.ofTry ok, z⟩
    | ret u =>
      obtain ⟨v, τ, G, J', r, z⟩ := k
      exact ⟨v, τ, G, J'.ofTry ok, r, z⟩
    | _ =>
      obtain ⟨τ, G, J', z⟩ := k
      exact ⟨τ, G, J'.ofTry ok, z⟩
end
end L2

set_option Elab.async false
set_option linter.all false
set_option maxRecDepth 100000
set_option maxHeartbeats 4000000
namespace Ash
open PySem PySem.Spec PyProof.Rows L2
open C8 (pss_cut)
/-! ### the law's calls of an office -/
structure Errs where
  CI : Addr
  CY : Addr
  CS : Addr
  CE : Addr
  CM : Addr
  CN : Addr
  CT : Addr
theorem atI_zero (v : V) (l : List V) : atI (v :: l) 0 = some v := atI_natC (xs := v :: l) (j := 0) (Nat.succ_pos _)
def calledB (c : Cls6) (e : Errs) (o : Addr) (wh : Int) (gs : List V) (H : Hp) (Q : VK) (E : XK) : Prop :=
  (wh = 0 ∧ ∃ v gs', gs = v :: gs' ∧ spBeginO c e.CN e.CY [.ref o, v] H Q E) ∨
  (wh = 1 ∧ ∃ v n s k m am, gs = [v, n, s, k, m, am] ∧ spRowO c e.CI e.CE [.ref o, v, n, s, k, m, am] H Q E) ∨
  (wh = 2 ∧ ∃ v n m am, gs = [v, n, m, am] ∧ spFixO c e.CI e.CE [.ref o, v, n, m, am] H Q E) ∨
  (wh = 3 ∧ ∃ v n, gs = [v, n] ∧ spGoneO c e.CI e.CE [.ref o, v, n] H Q E) ∨
  (wh = 4 ∧ ∃ v gs', gs = v :: gs' ∧ spDropO c e.CI [.ref o, v] H Q E) ∨
  (wh = 5 ∧ spUndoO c e.CT [.ref o] H Q E) ∨
  (wh = 6 ∧ ∃ v r, gs = [v, r] ∧ spCloseO c e.CI e.CM e.CS e.CE [.ref o, v, r] H Q E) ∨
  (wh = 7 ∧ ∃ v gs', gs = v :: gs' ∧ spTellO c e.CI [.ref o, v] H Q E)
def spCalled (c : Cls6) (e : Errs) : Sp := fun vs H Q E => ∃ (a : OA) (cl wh : Int) (g : Addr) (gs : List V), vs = [.int wh, .ref a.o, .ref g] ∧ H a.o = some (.ins c.CO a.dx (ofF a.b a.j a.dd a.pa cl a.cb)) ∧ H g = some (.tup gs) ∧ calledB c e a.o wh gs H Q E
section
variable {c : Cls6} {e : Errs} {CI CY CS CE CM CN CT : Addr} {vs : List V} {H : Hp} {Q Q' : VK} {E E' : XK}
theorem mono_begin (h : spBeginO c CN CY vs H Q E) (hq : ∀ v H', Q v H' → Q' v H') (he : ∀ x d H', E x d H' → E' x d H') : spBeginO c CN CY vs H Q' E' := by
  obtain ⟨B, A, a, S, v, e, M, hv, l, q1, q2, q3⟩ := h
  exact ⟨B, A, a, S, v, e, M, hv, l, fun _ _ _ _ _ z1 z2 z3 z4 z5 z6 => hq _ _ (q1 _ _ _ _ _ z1 z2 z3 z4 z5 z6), fun _ _ _ z1 z2 z3 => he _ _ _ (q2 _ _ _ z1 z2 z3), fun _ _ z1 z2 z3 => he _ _ _ (q3 _ _ z1 z2 z3)⟩
theorem mono_out {B A : Addr → Prop} {a : OA} {S : OS} {v : V} {x : Ent} (h : PutOut c CI CE B A H a S v x Q E) (hq : ∀ v H', Q v H' → Q' v H') (he : ∀ x d H', E x d H' → E' x d H') : PutOut c CI CE B A H a S v x Q' E' :=
  ⟨fun _ _ z1 z2 z3 z4 z5 => hq _ _ (h.1 _ _ z1 z2 z3 z4 z5), fun _ _ _ z1 z2 z3 z4 => he _ _ _ (h.2.1 _ _ _ z1 z2 z3 z4), fun _ _ z1 z2 z3 => he _ _ _ (h.2.2 _ _ z1 z2 z3)⟩
theorem mono_row (h : spRowO c CI CE vs H Q E) (hq : ∀ v H', Q v H' → Q' v H') (he : ∀ x d H', E x d H' → E' x d H') : spRowO c CI CE vs H Q' E' := by
  obtain ⟨B, A, a, S, v, n, s, k, m, am, e, M, hv, ok, q⟩ := h
  exact ⟨B, A, a, S, v, n, s, k, m, am, e, M, hv, ok, mono_out q hq he⟩
theorem mono_fix (h : spFixO c CI CE vs H Q E) (hq : ∀ v H', Q v H' → Q' v H') (he : ∀ x d H', E x d H' → E' x d H') : spFixO c CI CE vs H Q' E' := by
  obtain ⟨B, A, a, S, v, n, m, am, e, M, hv, ok, q⟩ := h
  exact ⟨B, A, a, S, v, n, m, am, e, M, hv, ok, mono_out q hq he⟩
theorem mono_gone (h : spGoneO c CI CE vs H Q E) (hq : ∀ v H', Q v H' → Q' v H') (he : ∀ x d H', E x d H' → E' x d H') : spGoneO c CI CE vs H Q' E' := by
  obtain ⟨B, A, a, S, v, n, e, M, hv, ok, q⟩ := h
  exact ⟨B, A, a, S, v, n, e, M, hv, ok, mono_out q hq he⟩
theorem mono_drop (h : spDropO c CI vs H Q E) (hq : ∀ v H', Q v H' → Q' v H') (he : ∀ x d H', E x d H' → E' x d H') : spDropO c CI vs H Q' E' := by
  obtain ⟨B, A, a, S, v, e, M, hv, q1, q2⟩ := h
  exact ⟨B, A, a, S, v, e, M, hv, fun _ _ z1 z2 z3 => hq _ _ (q1 _ _ z1 z2 z3), fun _ _ z1 z2 z3 => he _ _ _ (q2 _ _ z1 z2 z3)⟩
theorem mono_tell (h : spTellO c CI vs H Q E) (hq : ∀ v H', Q v H' → Q' v H') (he : ∀ x d H', E x d H' → E' x d H') : spTellO c CI vs H Q' E' := by
  obtain ⟨B, A, a, S, v, e, M, hv, q1, q2⟩ := h
  exact ⟨B, A, a, S, v, e, M, hv, fun _ _ _ _ z1 z2 z3 z4 z5 => hq _ _ (q1 _ _ _ _ z1 z2 z3 z4 z5), fun _ _ z1 z2 z3 => he _ _ _ (q2 _ _ z1 z2 z3)⟩
theorem mono_undo (h : spUndoO c CT vs H Q E) (hq : ∀ v H', Q v H' → Q' v H') (he : ∀ x d H', E x d H' → E' x d H') : spUndoO c CT vs H Q' E' := by
  obtain ⟨B, A, a, S, e, M, q1, q2⟩ := h
  exact ⟨B, A, a, S, e, M, fun _ z1 z2 => he _ _ _ (q1 _ z1 z2), fun _ _ _ _ z1 z2 z3 => hq _ _ (q2 _ _ _ _ z1 z2 z3)⟩
theorem mono_close (h : spCloseO c CI CM CS CE vs H Q E) (hq : ∀ v H', Q v H' → Q' v H') (he : ∀ x d H', E x d H' → E' x d H') : spCloseO c CI CM CS CE vs H Q' E' := by
  obtain ⟨B, A, a, S, v, r, e, M, hv, hr, l, q1, q2, q3, q4, q5⟩ := h
  exact ⟨B, A, a, S, v, r, e, M, hv, hr, l, fun _ _ z1 z2 z3 => he _ _ _ (q1 _ _ z1 z2 z3), fun _ _ _ z1 z2 z3 z4 => he _ _ _ (q2 _ _ _ z1 z2 z3 z4), fun _ _ _ _ _ z1 z2 z3 z4 z5 => he _ _ _ (q3 _ _ _ _ _ z1 z2 z3 z4 z5), fun _ _ _ _ _ z1 z2 z3 z4 z5 z6 => he _ _ _ (q4 _ _ _ _ _ z1 z2 z3 z4 z5 z6), fun _ _ _ _ _ z1 z2 z3 z4 z5 z6 z7 => hq _ _ (q5 _ _ _ _ _ z1 z2 z3 z4 z5 z6 z7)⟩
theorem mono_called {o : Addr} {wh : Int} {gs : List V} (h : calledB c e o wh gs H Q E) (hq : ∀ v H', Q v H' → Q' v H') (he : ∀ x d H', E x d H' → E' x d H') : calledB c e o wh gs H Q' E' := by
  rcases h with ⟨h, v, g, h2, q⟩ | ⟨h, v, n, s, k, m, am, h2, q⟩ | ⟨h, v, n, m, am, h2, q⟩ | ⟨h, v, n, h2, q⟩ | ⟨h, v, g, h2, q⟩ | ⟨h, q⟩ | ⟨h, v, r, h2, q⟩ | ⟨h, v, g, h2, q⟩
  · exact .inl ⟨h, v, g, h2, mono_begin q hq he⟩
  · exact .inr (.inl ⟨h, v, n, s, k, m, am, h2, mono_row q hq he⟩)
  · exact .inr (.inr (.inl ⟨h, v, n, m, am, h2, mono_fix q hq he⟩))
  · exact .inr (.inr (.inr (.inl ⟨h, v, n, h2, mono_gone q hq he⟩)))
  · exact .inr (.inr (.inr (.inr (.inl ⟨h, v, g, h2, mono_drop q hq he⟩))))
  · exact .inr (.inr (.inr (.inr (.inr (.inl ⟨h, mono_undo q hq he⟩)))))
  · exact .inr (.inr (.inr (.inr (.inr (.inr (.inl ⟨h, v, r, h2, mono_close q hq he⟩))))))
  · exact .inr (.inr (.inr (.inr (.inr (.inr (.inr ⟨h, v, g, h2, mono_tell q hq he⟩))))))
end
/-- what a told thing, a told error is -/
def toldQ (Q : VK) : VK := fun v H => ∀ t, H t = none → Q (.ref t) (upd H t (.tup [.str "told", v]))
def Errs.tab (e : Errs) : List (Addr × Str × Str) := [(e.CI, "idle", "writer"), (e.CY, "busy", "writer"), (e.CS, "stale", "id"), (e.CE, "entry", "at"), (e.CM, "moment", "value"), (e.CN, "name", "value")]
def toldE (e : Errs) (Q : VK) : XK := fun cls d H => (∃ C nm fl dd v, (C, nm, fl) ∈ e.tab ∧ cls = .ref C ∧ d = some dd ∧ H dd = some (.xd [(fl, v)]) ∧ ∀ t, H t = none → Q (.ref t) (upd H t (.tup [.str nm, v]))) ∨
  (cls = .ref e.CT ∧ ∀ t, H t = none → Q (.ref t) (upd H t (.tup [.str "nothing"])))
def spDone (c : Cls6) (e : Errs) : Sp := fun vs H Q _ => ∃ (a : OA) (cl wh : Int) (g : Addr) (gs : List V), vs = [.int wh, .ref a.o, .ref g] ∧ H a.o = some (.ins c.CO a.dx (ofF a.b a.j a.dd a.pa cl a.cb)) ∧ H g = some (.tup gs) ∧ calledB c e a.o wh gs H (toldQ Q) (toldE e Q)
section
variable {P : Program} {w : World} {mg : Str → Option Value} {base : Heap} {c : Cls6} {e : Errs} {fI fY fS fE fM fN : Addr}
structure GC (P : Program) (w : World) (mg : Str → Option Value) (base : Heap) (c : Cls6) (e : Errs) : Prop where
  T : Co c.K mg c.CO
  begin_ : Met P w c.K mg base (L2.CX P w) c.CO "begin" 3 ["self", "writer"] (spBeginO c e.CN e.CY)
  row : Met P w c.K mg base (L2.CX P w) c.CO "row" 5 ["self", "writer", "number", "stream", "key", "moment", "amount"] (spRowO c e.CI e.CE)
  fix : Met P w c.K mg base (L2.CX P w) c.CO "fix" 5 ["self", "writer", "number", "moment", "amount"] (spFixO c e.CI e.CE)
  gone : Met P w c.K mg base (L2.CX P w) c.CO "gone" 5 ["self", "writer", "number"] (spGoneO c e.CI e.CE)
  drop_ : Met P w c.K mg base (L2.CX P w) c.CO "drop" 3 ["self", "writer"] (spDropO c e.CI)
  undo : Met P w c.K mg base (L2.CX P w) c.CO "undo" 9 ["self"] (spUndoO c e.CT)
  close : Met P w c.K mg base (L2.CX P w) c.CO "close" 11 ["self", "writer", "arrival"] (spCloseO c e.CI e.CM e.CS e.CE)
  tell : Met P w c.K mg base (L2.CX P w) c.CO "draft" 3 ["self", "writer"] (spTellO c e.CI)
abbrev s_l_called : Stmt := topS 54
theorem sc_l_called : FnScope ["_law_which", "_law_office", "_law_given"] ["_law_which", "_law_office", "_law_given"] (defScope s_l_called) := ⟨rfl, rfl, rfl, by decide +kernel, rfl, by decide +kernel, by decide +kernel⟩
theorem ok_called {f : Addr} {fd : FuncData} (F : Fun c.K "_law_called" "_law_called" s_l_called f fd) (G : GC P w mg base c e) : FnOk P w c.K mg base (L2.CX P w) 12 f fd ["_law_which", "_law_office", "_law_given"] (spCalled c e) := by
  have T := G.T
  refine F.okX sc_l_called (fun vs H Q E h => ?_) (fun cdv A0 outer s H vs Q E hr h => ?_)
  · obtain ⟨a, cl, wh, g, gs, rfl, _⟩ := h
    rfl
  · obtain ⟨a, cl, wh, g, gs, rfl, ho, hg, q⟩ := h
    refine ⟨_, (pss_cons (ps_if (pt_cmpR op_eq (pv 0) pe_int (nomark _))
      (pss_one (ps_ret (pe_met T.cl G.begin_ (hr.mono (by decide)) (passE (takes_of rfl rfl rfl rfl)) (pv 1) (pa_cons (pe_ix ix_tup (pv 2) pe_int (fun _ _ => rfl)) pa_nil))))
      pss_nil)
    (pss_cons (ps_if (pt_cmpR op_eq (pv 0) pe_int (nomark _))
      (pss_one (ps_ret (pe_met T.cl G.row (hr.mono (by decide)) (passE (takes_of rfl rfl rfl rfl)) (pv 1) (pa_cons (pe_ix ix_tup (pv 2) pe_int (fun _ _ => rfl)) (pa_cons (pe_ix ix_tup (pv 2) pe_int (fun _ _ => rfl)) (pa_cons (pe_ix ix_tup (pv 2) pe_int (fun _ _ => rfl)) (pa_cons (pe_ix ix_tup (pv 2) pe_int (fun _ _ => rfl)) (pa_cons (pe_ix ix_tup (pv 2) pe_int (fun _ _ => rfl)) (pa_cons (pe_ix ix_tup (pv 2) pe_int (fun _ _ => rfl)) pa_nil)))))))))
      pss_nil)
    (pss_cons (ps_if (pt_cmpR op_eq (pv 0) pe_int (nomark _))
      (pss_one (ps_ret (pe_met T.cl G.fix (hr.mono (by decide)) (passE (takes_of rfl rfl rfl rfl)) (pv 1) (pa_cons (pe_ix ix_tup (pv 2) pe_int (fun _ _ => rfl)) (pa_cons (pe_ix ix_tup (pv 2) pe_int (fun _ _ => rfl)) (pa_cons (pe_ix ix_tup (pv 2) pe_int (fun _ _ => rfl)) (pa_cons (pe_ix ix_tup (pv 2) pe_int (fun _ _ => rfl)) pa_nil)))))))
      pss_nil)
    (pss_cons (ps_if (pt_cmpR op_eq (pv 0) pe_int (nomark _))
      (pss_one (ps_ret (pe_met T.cl G.gone (hr.mono (by decide)) (passE (takes_of rfl rfl rfl rfl)) (pv 1) (pa_cons (pe_ix ix_tup (pv 2) pe_int (fun _ _ => rfl)) (pa_cons (pe_ix ix_tup (pv 2) pe_int (fun _ _ => rfl)) pa_nil)))))
      pss_nil)
    (pss_cons (ps_if (pt_cmpR op_eq (pv 0) pe_int (nomark _))
      (pss_one (ps_ret (pe_met T.cl G.drop_ (hr.mono (by decide)) (passE (takes_of rfl rfl rfl rfl)) (pv 1) (pa_cons (pe_ix ix_tup (pv 2) pe_int (fun _ _ => rfl)) pa_nil))))
      pss_nil)
    (pss_cons (ps_if (pt_cmpR op_eq (pv 0) pe_int (nomark _))
      (pss_one (ps_ret (pe_met0 T.cl G.undo (hr.mono (by decide)) (passE (takes_of rfl rfl rfl rfl)) (pv 1))))
      pss_nil)
    (pss_cons (ps_if (pt_cmpR op_eq (pv 0) pe_int (nomark _))
      (pss_one (ps_ret (pe_met T.cl G.close (hr.mono (by decide)) (passE (takes_of rfl rfl rfl rfl)) (pv 1) (pa_cons (pe_ix ix_tup (pv 2) pe_int (fun _ _ => rfl)) (pa_cons (pe_ix ix_tup (pv 2) pe_int (fun _ _ => rfl)) pa_nil)))))
      pss_nil)
    (pss_one (ps_ret (pe_met T.cl G.tell (hr.mono (by decide)) (passE (takes_of rfl rfl rfl rfl)) (pv 1) (pa_cons (pe_ix ix_tup (pv 2) pe_int (fun _ _ => rfl)) pa_nil))))))))))), ?_⟩
    rcases q with ⟨rfl, v, gs', rfl, q⟩ | ⟨rfl, v, n, st, k, m, am, rfl, q⟩ | ⟨rfl, v, n, m, am, rfl, q⟩ | ⟨rfl, v, n, rfl, q⟩ | ⟨rfl, v, gs', rfl, q⟩ | ⟨rfl, q⟩ | ⟨rfl, v, r, rfl, q⟩ | ⟨rfl, v, gs', rfl, q⟩
    · exact ⟨_, rfl, rfl, _, rfl, iteT ⟨_, rfl, a.o, a.dx, _, rfl, ho, rfl, _, rfl, _, _, _, _, rfl, rfl, SqT.of hg, atI_zero v gs', q⟩⟩
    · exact ⟨_, rfl, rfl, _, rfl, iteF ⟨_, rfl, rfl, _, rfl, iteT ⟨_, rfl, a.o, a.dx, _, rfl, ho, rfl, _, rfl, _, _, _, _, rfl, rfl, SqT.of hg, rfl, _, rfl, _, _, _, _, rfl, rfl, SqT.of hg, rfl, _, rfl, _, _, _, _, rfl, rfl, SqT.of hg, rfl, _, rfl, _, _, _, _, rfl, rfl, SqT.of hg, rfl, _, rfl, _, _, _, _, rfl, rfl, SqT.of hg, rfl, _, rfl, _, _, _, _, rfl, rfl, SqT.of hg, rfl, q⟩⟩⟩
    · exact ⟨_, rfl, rfl, _, rfl, iteF ⟨_, rfl, rfl, _, rfl, iteF ⟨_, rfl, rfl, _, rfl, iteT ⟨_, rfl, a.o, a.dx, _, rfl, ho, rfl, _, rfl, _, _, _, _, rfl, rfl, SqT.of hg, rfl, _, rfl, _, _, _, _, rfl, rfl, SqT.of hg, rfl, _, rfl, _, _, _, _, rfl, rfl, SqT.of hg, rfl, _, rfl, _, _, _, _, rfl, rfl, SqT.of hg, rfl, q⟩⟩⟩⟩
    · exact ⟨_, rfl, rfl, _, rfl, iteF ⟨_, rfl, rfl, _, rfl, iteF ⟨_, rfl, rfl, _, rfl, iteF ⟨_, rfl, rfl, _, rfl, iteT ⟨_, rfl, a.o, a.dx, _, rfl, ho, rfl, _, rfl, _, _, _, _, rfl, rfl, SqT.of hg, rfl, _, rfl, _, _, _, _, rfl, rfl, SqT.of hg, rfl, q⟩⟩⟩⟩⟩
    · exact ⟨_, rfl, rfl, _, rfl, iteF ⟨_, rfl, rfl, _, rfl, iteF ⟨_, rfl, rfl, _, rfl, iteF ⟨_, rfl, rfl, _, rfl, iteF ⟨_, rfl, rfl, _, rfl, iteT ⟨_, rfl, a.o, a.dx, _, rfl, ho, rfl, _, rfl, _, _, _, _, rfl, rfl, SqT.of hg, atI_zero v gs', q⟩⟩⟩⟩⟩⟩
    · exact ⟨_, rfl, rfl, _, rfl, iteF ⟨_, rfl, rfl, _, rfl, iteF ⟨_, rfl, rfl, _, rfl, iteF ⟨_, rfl, rfl, _, rfl, iteF ⟨_, rfl, rfl, _, rfl, iteF ⟨_, rfl, rfl, _, rfl, iteT ⟨_, rfl, a.o, a.dx, _, rfl, ho, rfl, q⟩⟩⟩⟩⟩⟩⟩
    · exact ⟨_, rfl, rfl, _, rfl, iteF ⟨_, rfl, rfl, _, rfl, iteF ⟨_, rfl, rfl, _, rfl, iteF ⟨_, rfl, rfl, _, rfl, iteF ⟨_, rfl, rfl, _, rfl, iteF ⟨_, rfl, rfl, _, rfl, iteF ⟨_, rfl, rfl, _, rfl, iteT ⟨_, rfl, a.o, a.dx, _, rfl, ho, rfl, _, rfl, _, _, _, _, rfl, rfl, SqT.of hg, rfl, _, rfl, _, _, _, _, rfl, rfl, SqT.of hg, rfl, q⟩⟩⟩⟩⟩⟩⟩⟩
    · exact ⟨_, rfl, rfl, _, rfl, iteF ⟨_, rfl, rfl, _, rfl, iteF ⟨_, rfl, rfl, _, rfl, iteF ⟨_, rfl, rfl, _, rfl, iteF ⟨_, rfl, rfl, _, rfl, iteF ⟨_, rfl, rfl, _, rfl, iteF ⟨_, rfl, rfl, _, rfl, iteF ⟨_, rfl, a.o, a.dx, _, rfl, ho, rfl, _, rfl, _, _, _, _, rfl, rfl, SqT.of hg, atI_zero v gs', q⟩⟩⟩⟩⟩⟩⟩⟩
/-- the errors are apart -/
structure GE (P : Program) (K : PySem.W.Frag) (mg : Str → Option Value) (e : Errs) (fI fY fS fE fM fN : Addr) : Prop where
  TI : PySem.BadX.Txt P K mg "writer" "writer" e.CI fI
  TY : PySem.BadX.Txt P K mg "writer" "writer" e.CY fY
  TS : PySem.BadX.Txt P K mg "number" "id" e.CS fS
  TE : PySem.BadX.Txt P K mg "at" "at" e.CE fE
  TM : PySem.BadX.Txt P K mg "value" "value" e.CM fM
  TN : PySem.BadX.Txt P K mg "value" "value" e.CN fN
  c_Idle : mg "Idle" = some (.ref e.CI)
  c_Busy : mg "Busy" = some (.ref e.CY)
  c_Stale : mg "Stale" = some (.ref e.CS)
  c_BadEntry : mg "BadEntry" = some (.ref e.CE)
  c_BadMoment : mg "BadMoment" = some (.ref e.CM)
  c_BadName : mg "BadName" = some (.ref e.CN)
  c_NothingDone : mg "NothingDone" = some (.ref e.CT)
  nYI : PySem.W.exmOne K (.ref e.CY) (.ref e.CI) = some false
  nSI : PySem.W.exmOne K (.ref e.CS) (.ref e.CI) = some false
  nSY : PySem.W.exmOne K (.ref e.CS) (.ref e.CY) = some false
  nEI : PySem.W.exmOne K (.ref e.CE) (.ref e.CI) = some false
  nEY : PySem.W.exmOne K (.ref e.CE) (.ref e.CY) = some false
  nES : PySem.W.exmOne K (.ref e.CE) (.ref e.CS) = some false
  nMI : PySem.W.exmOne K (.ref e.CM) (.ref e.CI) = some false
  nMY : PySem.W.exmOne K (.ref e.CM) (.ref e.CY) = some false
  nMS : PySem.W.exmOne K (.ref e.CM) (.ref e.CS) = some false
  nME : PySem.W.exmOne K (.ref e.CM) (.ref e.CE) = some false
  nNI : PySem.W.exmOne K (.ref e.CN) (.ref e.CI) = some false
  nNY : PySem.W.exmOne K (.ref e.CN) (.ref e.CY) = some false
  nNS : PySem.W.exmOne K (.ref e.CN) (.ref e.CS) = some false
  nNE : PySem.W.exmOne K (.ref e.CN) (.ref e.CE) = some false
  nNM : PySem.W.exmOne K (.ref e.CN) (.ref e.CM) = some false
  nTI : PySem.W.exmOne K (.ref e.CT) (.ref e.CI) = some false
  nTY : PySem.W.exmOne K (.ref e.CT) (.ref e.CY) = some false
  nTS : PySem.W.exmOne K (.ref e.CT) (.ref e.CS) = some false
  nTE : PySem.W.exmOne K (.ref e.CT) (.ref e.CE) = some false
  nTM : PySem.W.exmOne K (.ref e.CT) (.ref e.CM) = some false
  nTN : PySem.W.exmOne K (.ref e.CT) (.ref e.CN) = some false
  nTT : PySem.W.exmOne K (.ref e.CT) (.ref e.CT) = some true
abbrev s_l_done : Stmt := topS 55
theorem sc_l_done : FnScope ["_law_which", "_law_office", "_law_given", "e"] ["_law_which", "_law_office", "_law_given"] (defScope s_l_done) := ⟨rfl, rfl, rfl, by decide +kernel, rfl, by decide +kernel, by decide +kernel⟩
theorem ok_done {f : Addr} {fd : FuncData} (F : Fun c.K "_law_done" "_law_done" s_l_done f fd) (Gc : Cal P w c.K mg base (L2.CX P w) "_law_called" 12 ["_law_which", "_law_office", "_law_given"] (spCalled c e)) (E0 : GE P c.K mg e fI fY fS fE fM fN) : FnOk P w c.K mg base CX0 13 f fd ["_law_which", "_law_office", "_law_given"] (spDone c e) := by
  refine F.ok sc_l_done (fun vs H Q E h => ?_) (fun cdv A0 outer s H vs Q E hr h => ?_)
  · obtain ⟨a, cl, wh, g, gs, rfl, _⟩ := h
    rfl
  · obtain ⟨a, cl, wh, g, gs, rfl, ho, hg, q⟩ := h
    have two : (2 : Nat) ≤ sizeLine := by decide
    have one : (1 : Nat) ≤ sizeLine := by decide
    refine ⟨_, (pss_one (ps_try_cls (tb := fun W => tRet (tTup (tCons (tC (.str "told")) (tCons (tCallSD (spCalled c e) [] (WE W) (tCons (tVar 0) (tCons (tVar 1) (tCons (tVar 2) tNil)))) tNil)))) (l := [(.ref e.CI, some 3, fun a cls d => tRet (tTup (tCons (tC (.str "idle")) (tCons (tByB "writer" e.CI a cls d (tVar 3)) tNil)))), (.ref e.CY, some 3, fun a cls d => tRet (tTup (tCons (tC (.str "busy")) (tCons (tByB "writer" e.CY a cls d (tVar 3)) tNil)))), (.ref e.CS, some 3, fun a cls d => tRet (tTup (tCons (tC (.str "stale")) (tCons (tByB "id" e.CS a cls d (tVar 3)) tNil)))), (.ref e.CE, some 3, fun a cls d => tRet (tTup (tCons (tC (.str "entry")) (tCons (tByB "at" e.CE a cls d (tVar 3)) tNil)))), (.ref e.CM, some 3, fun a cls d => tRet (tTup (tCons (tC (.str "moment")) (tCons (tByB "value" e.CM a cls d (tVar 3)) tNil)))), (.ref e.CN, some 3, fun a cls d => tRet (tTup (tCons (tC (.str "name")) (tCons (tByB "value" e.CN a cls d (tVar 3)) tNil)))), (.ref e.CT, none, fun a cls d => tRet (tTup (tCons (tC (.str "nothing")) tNil)))]) (W0 := fun _ _ _ _ => False) rfl rfl sc_l_done.nd takes0 (fun W pn xe tk _ =>
      (pss_one (ps_ret (pe_tup (pa_cons pe_str (pa_cons (pe_calS Gc (hr.mono (by decide)) (fun σ => passAt tk σ) (pa_cons (pv 0) (pa_cons (pv 1) (pa_cons (pv 2) pa_nil)))) pa_nil))))))
      (.cons ⟨rfl, by decide, .inl E0.c_Idle⟩ ⟨rfl, rfl⟩ (fun a oe cls d pn hz hf => (pss_one (ps_ret (pe_tup (pa_cons pe_str (pa_cons (pe_byB E0.TI hz hf (pv 3)) pa_nil)))))) (.cons ⟨rfl, by decide, .inl E0.c_Busy⟩ ⟨rfl, rfl⟩ (fun a oe cls d pn hz hf => (pss_one (ps_ret (pe_tup (pa_cons pe_str (pa_cons (pe_byB E0.TY hz hf (pv 3)) pa_nil)))))) (.cons ⟨rfl, by decide, .inl E0.c_Stale⟩ ⟨rfl, rfl⟩ (fun a oe cls d pn hz hf => (pss_one (ps_ret (pe_tup (pa_cons pe_str (pa_cons (pe_byB E0.TS hz hf (pv 3)) pa_nil)))))) (.cons ⟨rfl, by decide, .inl E0.c_BadEntry⟩ ⟨rfl, rfl⟩ (fun a oe cls d pn hz hf => (pss_one (ps_ret (pe_tup (pa_cons pe_str (pa_cons (pe_byB E0.TE hz hf (pv 3)) pa_nil)))))) (.cons ⟨rfl, by decide, .inl E0.c_BadMoment⟩ ⟨rfl, rfl⟩ (fun a oe cls d pn hz hf => (pss_one (ps_ret (pe_tup (pa_cons pe_str (pa_cons (pe_byB E0.TM hz hf (pv 3)) pa_nil)))))) (.cons ⟨rfl, by decide, .inl E0.c_BadName⟩ ⟨rfl, rfl⟩ (fun a oe cls d pn hz hf => (pss_one (ps_ret (pe_tup (pa_cons pe_str (pa_cons (pe_byB E0.TN hz hf (pv 3)) pa_nil)))))) (.cons ⟨rfl, by decide, .inl E0.c_NothingDone⟩ trivial (fun a oe cls d pn hz hf => (pss_one (ps_ret (pe_tup (pa_cons pe_str pa_nil))))) .nil))))))))), ?_⟩
    refine ⟨_, rfl, _, rfl, _, rfl, a, cl, wh, g, gs, rfl, ho, hg, ?_⟩
    refine mono_called q (fun v H1 h => ⟨two, h⟩) (fun cls d H1 h => ?_)
    have no : ∀ {α : Prop}, (false = true) → α := fun z => Bool.noConfusion z
    have yes : ∀ {α : Prop}, (true = false) → α := fun z => Bool.noConfusion z
    rcases h with ⟨C, nm, fl, dd, v, hm, rfl, rfl, hx, q⟩ | ⟨rfl, q⟩
    · have hm : (C, nm, fl) ∈ [(e.CI, ("idle" : Str), ("writer" : Str)), (e.CY, "busy", "writer"), (e.CS, "stale", "id"), (e.CE, "entry", "at"), (e.CM, "moment", "value"), (e.CN, "name", "value")] := hm
      simp only [List.mem_cons, List.not_mem_nil, or_false] at hm
      rcases hm with hm | hm | hm | hm | hm | hm <;> (cases hm)
      · exact ⟨true, E0.TI.te, fun _ a ha => ⟨_, rfl, rfl, rfl, dd, _, rfl, hx, two, q⟩, yes⟩
      · exact ⟨false, E0.nYI, no, fun _ => ⟨true, E0.TY.te, fun _ a ha => ⟨_, rfl, rfl, rfl, dd, _, rfl, hx, two, q⟩, yes⟩⟩
      · exact ⟨false, E0.nSI, no, fun _ => ⟨false, E0.nSY, no, fun _ => ⟨true, E0.TS.te, fun _ a ha => ⟨_, rfl, rfl, rfl, dd, _, rfl, hx, two, q⟩, yes⟩⟩⟩
      · exact ⟨false, E0.nEI, no, fun _ => ⟨false, E0.nEY, no, fun _ => ⟨false, E0.nES, no, fun _ => ⟨true, E0.TE.te, fun _ a ha => ⟨_, rfl, rfl, rfl, dd, _, rfl, hx, two, q⟩, yes⟩⟩⟩⟩
      · exact ⟨false, E0.nMI, no, fun _ => ⟨false, E0.nMY, no, fun _ => ⟨false, E0.nMS, no, fun _ => ⟨false, E0.nME, no, fun _ => ⟨true, E0.TM.te, fun _ a ha => ⟨_, rfl, rfl, rfl, dd, _, rfl, hx, two, q⟩, yes⟩⟩⟩⟩⟩
      · exact ⟨false, E0.nNI, no, fun _ => ⟨false, E0.nNY, no, fun _ => ⟨false, E0.nNS, no, fun _ => ⟨false, E0.nNE, no, fun _ => ⟨false, E0.nNM, no, fun _ => ⟨true, E0.TN.te, fun _ a ha => ⟨_, rfl, rfl, rfl, dd, _, rfl, hx, two, q⟩, yes⟩⟩⟩⟩⟩⟩
    · exact ⟨false, E0.nTI, no, fun _ => ⟨false, E0.nTY, no, fun _ => ⟨false, E0.nTS, no, fun _ => ⟨false, E0.nTE, no, fun _ => ⟨false, E0.nTM, no, fun _ => ⟨false, E0.nTN, no, fun _ => ⟨true, E0.nTT, fun _ a ha => ⟨one, q⟩, yes⟩⟩⟩⟩⟩⟩⟩
end
end Ash

set_option Elab.async false
set_option linter.all false
set_option maxRecDepth 100000
set_option maxHeartbeats 4000000
namespace Ash
open PySem PySem.Spec PyProof.Rows L2
open C8 (pss_cut)
def kindN : Ent → Int
  | .row .. => 1
  | .fix .. => 2
  | .gone .. => 3
def spPutIn (c : Cls6) (e : Errs) : Sp := fun vs H Q _ => ∃ (a : OA) (cl : Int) (v : V) (en : Addr) (x : Ent), vs = [.ref a.o, v, .ref en] ∧ H a.o = some (.ins c.CO a.dx (ofF a.b a.j a.dd a.pa cl a.cb)) ∧ DAt H en x ∧ ∀ H1, Same H H1 → calledB c e a.o (kindN x) (v :: x.vs.dropLast.tail) H1 (toldQ Q) (toldE e Q)
section
variable {P : Program} {w : World} {mg : Str → Option Value} {base : Heap} {c : Cls6} {e : Errs}
structure GP (P : Program) (w : World) (mg : Str → Option Value) (base : Heap) (c : Cls6) (e : Errs) : Prop where
  law_done : Cal P w c.K mg base CX0 "_law_done" 13 ["_law_which", "_law_office", "_law_given"] (spDone c e)
abbrev s_l_put_in : Stmt := topS 57
theorem sc_l_put_in : FnScope ["_law_office", "_law_writer", "_law_entry_here"] ["_law_office", "_law_writer", "_law_entry_here"] (defScope s_l_put_in) := ⟨rfl, rfl, rfl, by decide +kernel, rfl, by decide +kernel, by decide +kernel⟩
theorem ok_putIn {f : Addr} {fd : FuncData} (F : Fun c.K "_law_put_in" "_law_put_in" s_l_put_in f fd) (G : GP P w mg base c e) : FnOk P w c.K mg base CX0 14 f fd ["_law_office", "_law_writer", "_law_entry_here"] (spPutIn c e) := by
  refine F.ok sc_l_put_in (fun vs H Q E h => ?_) (fun cdv A0 outer s H vs Q E hr h => ?_)
  · obtain ⟨a, cl, v, en, x, rfl, _⟩ := h
    rfl
  · obtain ⟨a, cl, v, en, x, rfl, ho, he, q⟩ := h
    have hu := hu_of hr
    refine ⟨_, (pss_one (ps_ret (pe_cal G.law_done (hr.mono (by decide)) pass0 (pa_cons (pe_dget hu (pe_disp (pps_cons pe_str pe_int (pps_cons pe_str pe_int (pps_cons pe_str pe_int pps_nil))) (by rfl) (by rfl) (fun z => by cases z) (by decide)) (pe_ix ix_tup (pv 2) pe_int (fun _ _ => rfl)) (fun _ _ => rfl)) (pa_cons (pv 0) (pa_cons (pe_op op_catT (pe_tup (pa_cons (pv 1) pa_nil)) (pe_slice sl_tup (pv 2) (po_some pe_int) po_none)) pa_nil)))))), ?_⟩
    intro d hd
    have s1 : Same H (upd H d (.dK [])) := sameAt (Same.refl _) hd
    refine ⟨upd_same, [(Sum.inr "row", .int 1), (Sum.inr "fix", .int 2), (Sum.inr "gone", .int 3)], rfl, (by decide), ?_⟩
    have e2 : upd (upd H d (.dK [])) d (.dK (mergeK [] [((Sum.inr "row" : Key), V.int 1), (Sum.inr "fix", .int 2), (Sum.inr "gone", .int 3)])) = upd H d (.dK [((Sum.inr "row" : Key), V.int 1), (Sum.inr "fix", .int 2), (Sum.inr "gone", .int 3)]) := by
      funext q
      by_cases z : q = d
      · subst z; rw [upd_same, upd_same]; rfl
      · rw [upd_ne z, upd_ne z, upd_ne z]
    rw [e2]
    have s2 : Same H (upd H d (.dK [((Sum.inr "row" : Key), V.int 1), (Sum.inr "fix", .int 2), (Sum.inr "gone", .int 3)])) := sameAt (Same.refl _) hd
    have hd2 : (upd H d (.dK [((Sum.inr "row" : Key), V.int 1), (Sum.inr "fix", .int 2), (Sum.inr "gone", .int 3)])) d = some (.dK [((Sum.inr "row" : Key), V.int 1), (Sum.inr "fix", .int 2), (Sum.inr "gone", .int 3)]) := upd_same
    generalize (upd H d (.dK [((Sum.inr "row" : Key), V.int 1), (Sum.inr "fix", .int 2), (Sum.inr "gone", .int 3)])) = H2 at s2 hd2 ⊢
    have he2 : H2 en = some (.tup x.vs.dropLast) := s2 _ _ he
    have one : (1 : Nat) ≤ sizeLine := by decide
    cases x with
    | row n st k m am r =>
      refine ⟨_, rfl, _, _, _, _, rfl, rfl, SqT.of he2, rfl, d, _, rfl, DGet.k (k := Sum.inr "row") hd2, ?_⟩
      refine ⟨_, rfl, _, rfl, one, fun t1 n1 => ?_⟩
      have s3 : Same H2 (upd H2 t1 (.tup [v])) := sameAt (Same.refl _) n1
      refine ⟨_, rfl, _, rfl, en, _, rfl, SqT.of (s3 _ _ he2), (fun z => absurd (show (1 : Nat) = 0 from z.1) (by decide)), fun t2 n2 => ?_⟩
      have t12 : t1 ≠ t2 := fun z => by rw [← z, upd_same] at n2; cases n2
      refine ⟨t1, t2, [v], _, rfl, rfl, SqT.of (by rw [upd_ne t12]; exact upd_same), SqT.of upd_same, (fun z => nomatch z), (by rw [sizeLine_eq]; exact Nat.le_of_ble_eq_true rfl), (fun z => by cases (show (_ :: _ : List V) = [] from z)), fun _ t3 n3 => ?_⟩
      refine ⟨a, cl, _, t3, _, rfl, ?_, upd_same, q _ ?_⟩
      · exact (((s2.trans s3).trans (sameAt (Same.refl _) n2)).trans (sameAt (Same.refl _) n3)) _ _ ho
      · exact (((s2.trans s3).trans (sameAt (Same.refl _) n2)).trans (sameAt (Same.refl _) n3))
    | fix n m am r =>
      refine ⟨_, rfl, _, _, _, _, rfl, rfl, SqT.of he2, rfl, d, _, rfl, DGet.k (k := Sum.inr "fix") hd2, ?_⟩
      refine ⟨_, rfl, _, rfl, one, fun t1 n1 => ?_⟩
      have s3 : Same H2 (upd H2 t1 (.tup [v])) := sameAt (Same.refl _) n1
      refine ⟨_, rfl, _, rfl, en, _, rfl, SqT.of (s3 _ _ he2), (fun z => absurd (show (1 : Nat) = 0 from z.1) (by decide)), fun t2 n2 => ?_⟩
      have t12 : t1 ≠ t2 := fun z => by rw [← z, upd_same] at n2; cases n2
      refine ⟨t1, t2, [v], _, rfl, rfl, SqT.of (by rw [upd_ne t12]; exact upd_same), SqT.of upd_same, (fun z => nomatch z), (by rw [sizeLine_eq]; exact Nat.le_of_ble_eq_true rfl), (fun z => by cases (show (_ :: _ : List V) = [] from z)), fun _ t3 n3 => ?_⟩
      refine ⟨a, cl, _, t3, _, rfl, ?_, upd_same, q _ ?_⟩
      · exact (((s2.trans s3).trans (sameAt (Same.refl _) n2)).trans (sameAt (Same.refl _) n3)) _ _ ho
      · exact (((s2.trans s3).trans (sameAt (Same.refl _) n2)).trans (sameAt (Same.refl _) n3))
    | gone n r =>
      refine ⟨_, rfl, _, _, _, _, rfl, rfl, SqT.of he2, rfl, d, _, rfl, DGet.k (k := Sum.inr "gone") hd2, ?_⟩
      refine ⟨_, rfl, _, rfl, one, fun t1 n1 => ?_⟩
      have s3 : Same H2 (upd H2 t1 (.tup [v])) := sameAt (Same.refl _) n1
      refine ⟨_, rfl, _, rfl, en, _, rfl, SqT.of (s3 _ _ he2), (fun z => absurd (show (1 : Nat) = 0 from z.1) (by decide)), fun t2 n2 => ?_⟩
      have t12 : t1 ≠ t2 := fun z => by rw [← z, upd_same] at n2; cases n2
      refine ⟨t1, t2, [v], _, rfl, rfl, SqT.of (by rw [upd_ne t12]; exact upd_same), SqT.of upd_same, (fun z => nomatch z), (by rw [sizeLine_eq]; exact Nat.le_of_ble_eq_true rfl), (fun z => by cases (show (_ :: _ : List V) = [] from z)), fun _ t3 n3 => ?_⟩
      refine ⟨a, cl, _, t3, _, rfl, ?_, upd_same, q _ ?_⟩
      · exact (((s2.trans s3).trans (sameAt (Same.refl _) n2)).trans (sameAt (Same.refl _) n3)) _ _ ho
      · exact (((s2.trans s3).trans (sameAt (Same.refl _) n2)).trans (sameAt (Same.refl _) n3))
end
end Ash

set_option Elab.async false
set_option linter.all false
set_option maxRecDepth 100000
set_option maxHeartbeats 4000000
namespace Ash
open PySem PySem.Spec PyProof.Rows L2
open C8 (pss_cut)
/-! ### where a law stands: its pool, its office, what it changes itself -/
structure LW (c : Cls6) (B A : Addr → Prop) (H : Hp) (a : OA) (S : OS) (p s : Addr) : Prop where
  M : OfM c B A H a S
  pool : PoolAt H p s
  bp : B p
  nap : ¬ A p
  nas : ¬ A s
/-- from (B, A, H) to (B', A', H') -/
structure Lst (p : Addr) (B A : Addr → Prop) (H : Hp) (B' A' : Addr → Prop) (H' : Hp) : Prop where
  sub : ∀ q, B q → B' q
  cut : Same (cutH B H) (cutH B' H')
  k : ∀ q x, H q = some x → ¬ A q → q ≠ p → H' q = some x
  gA : ∀ q, A' q → A q ∨ H q = none
  gB : ∀ q, B' q → B q ∨ H q = none
  alive : ∀ q, H q ≠ none → H' q ≠ none
theorem Lst.refl (p : Addr) (B A : Addr → Prop) (H : Hp) : Lst p B A H B A H := ⟨fun _ h => h, fun _ _ h => h, fun _ _ h _ _ => h, fun _ h => .inl h, fun _ h => .inl h, fun _ h => h⟩
theorem Lst.trans {p : Addr} {B A B1 A1 B2 A2 : Addr → Prop} {H H1 H2 : Hp} (x : Lst p B A H B1 A1 H1) (y : Lst p B1 A1 H1 B2 A2 H2) : Lst p B A H B2 A2 H2 := by
  have dead : ∀ q, H1 q = none → H q = none := fun q h => by
    cases e : H q with
    | none => rfl
    | some u => exact absurd h (x.alive q (by rw [e]; exact fun z => nomatch z))
  refine ⟨fun q h => y.sub q (x.sub q h), x.cut.trans y.cut, fun q u h n1 n2 => y.k q u (x.k q u h n1 n2) (fun a1 => ?_) n2, fun q h => ?_, fun q h => ?_, fun q h => y.alive q (x.alive q h)⟩
  · rcases x.gA q a1 with h1 | h1
    · exact n1 h1
    · rw [h] at h1; cases h1
  · rcases y.gA q h with h1 | h1
    · exact x.gA q h1
    · exact .inr (dead q h1)
  · rcases y.gB q h with h1 | h1
    · exact x.gB q h1
    · exact .inr (dead q h1)
section
variable {c : Cls6} {B A : Addr → Prop} {H : Hp} {a : OA} {S : OS} {p s : Addr}
theorem LW.draw {H' : Hp} (h : LW c B A H a S p s) (P : Pl H H' p s) : LW c B A H' a S p s ∧ Lst p B A H B A H' := by
  refine ⟨⟨h.M.pl P h.nap h.bp, P.now, h.bp, h.nap, h.nas⟩, ⟨fun _ x => x, cut_step (fun q u e n => P.keep e fun z => n (z ▸ h.bp)) fun _ x => .inl x, fun q u e _ n => P.keep e n, fun _ x => .inl x, fun _ x => .inl x, fun q hq => ?_⟩⟩
  by_cases z : q = p
  · subst z; exact P.now.ne.1
  · cases e : H q with
    | none => exact absurd e hq
    | some u => rw [P.keep e z]; exact fun z => nomatch z
theorem alive_same {H H' : Hp} (s : Same H H') (q : Addr) (h : H q ≠ none) : H' q ≠ none := by
  cases e : H q with
  | none => exact absurd e h
  | some u => rw [s _ _ e]; exact fun z => nomatch z
theorem LW.same {H' : Hp} (h : LW c B A H a S p s) (e : Same H H') : LW c B A H' a S p s ∧ Lst p B A H B A H' :=
  ⟨⟨h.M.same e, h.pool.same e, h.bp, h.nap, h.nas⟩, ⟨fun _ x => x, cut_step (fun q u h _ => e _ _ h) fun _ x => .inl x, fun q u h _ _ => e _ _ h, fun _ x => .inl x, fun _ x => .inl x, alive_same e⟩⟩
theorem LW.office {A' : Addr → Prop} {H' : Hp} {a' : OA} {S' : OS} (h : LW c B A H a S p s) (f : Fr A H A' H') (M : OfM c (uni B A') A' H' a' S') : LW c (uni B A') A' H' a' S' p s ∧ Lst p B A H (uni B A') A' H' := by
  obtain ⟨ns, i, cc, k, n, e1, e2, e3, e4⟩ := h.pool
  have hA : ∀ q, ¬ A q → H q ≠ none → ¬ A' q := fun q n1 n2 z => (f.g q z).elim n1 n2
  refine ⟨⟨M, ⟨ns, i, cc, k, n, f.k _ _ e1 h.nap, f.k _ _ e2 h.nas, e3, e4⟩, .inl h.bp, hA p h.nap h.pool.ne.1, hA s h.nas h.pool.ne.2⟩, ⟨fun _ x => .inl x, f.cut h.M.AB, fun q u e n _ => f.k q u e n, f.g, fun q x => x.elim .inl fun z => (f.g q z).imp (h.M.AB q) id, fun q hq => ?_⟩⟩
  by_cases z : A q
  · by_cases z2 : A' q
    · obtain ⟨u, e, _⟩ := M.BT q (.inr z2)
      rw [e]; exact fun z => nomatch z
    · have hb : uni B A' q := .inl (h.M.AB q z)
      obtain ⟨u, e, _⟩ := M.BT q hb
      rw [e]; exact fun z => nomatch z
  · cases e : H q with
    | none => exact absurd e hq
    | some u => rw [f.k _ _ e z]; exact fun z => nomatch z
/-- a new place of the law's own that will change -/
theorem LW.own {q : Addr} {o : HO} (h : LW c B A H a S p s) (hq : H q = none) (ho : MuO c.CO o) : LW c (fun x => B x ∨ x = q) A (upd H q o) a S p s ∧ Lst p B A H (fun x => B x ∨ x = q) A (upd H q o) := by
  have e : Same H (upd H q o) := sameAt (Same.refl _) hq
  refine ⟨⟨h.M.keep (fun x u _ hx => e _ _ hx) (fun x u hx _ => e _ _ hx) (fun _ x => .inl x) (fun x hx => hx.imp id fun z => by rw [z]; exact hq) fun x hx => ?_, h.pool.same e, .inl h.bp, h.nap, h.nas⟩, ⟨fun _ x => .inl x, cut_step (fun x u hx _ => e _ _ hx) fun x hx => hx.imp id fun z => by rw [z]; exact hq, fun x u hx _ _ => e _ _ hx, fun _ x => .inl x, fun x hx => hx.imp id fun z => by rw [z]; exact hq, alive_same e⟩⟩
  rcases hx with hx | rfl
  · obtain ⟨u, e1, m⟩ := h.M.BT x hx
    exact ⟨u, e _ _ e1, m⟩
  · exact ⟨o, upd_same, ho⟩
/-- the law changes its own place -/
theorem LW.set {q : Addr} {o : HO} (h : LW c B A H a S p s) (bq : B q) (nq : ¬ A q) (np : q ≠ p) (ns : q ≠ s) (ho : MuO c.CO o) : LW c B A (upd H q o) a S p s ∧ Same (cutH B H) (cutH B (upd H q o)) := by
  refine ⟨⟨h.M.keep (fun x u hx e => by rw [upd_ne (fun z : x = q => nq (by rw [← z]; exact hx))]; exact e) (fun x u e n => by rw [upd_ne (fun z : x = q => n (by rw [z]; exact bq))]; exact e) (fun _ x => x) (fun _ x => .inl x) fun x hx => ?_, h.pool.off np ns, h.bp, h.nap, h.nas⟩, cut_step (fun x u e n => by rw [upd_ne (fun z : x = q => n (by rw [z]; exact bq))]; exact e) fun _ x => .inl x⟩
  by_cases z : x = q
  · subst z; exact ⟨o, upd_same, ho⟩
  · obtain ⟨u, e1, m⟩ := h.M.BT x hx
    exact ⟨u, by rw [upd_ne z]; exact e1, m⟩
theorem LW.tup (h : LW c B A H a S p s) {q : Addr} {xs : List V} (hq : H q = some (.tup xs)) : cutH B H q = some (.tup xs) := cut_at (h.M.tup hq) hq
end
theorem kn_pos {L : List (Str × Int)} : ∀ {xs : List Ent} {i : Nat} {S S1 : Kn} {l : Option Int}, wk L (xs.map some) i S l = (none, S1) → (∀ x ∈ xs, x.ok) → (∀ id, S id ≠ none → 0 ≤ id) → ∀ id, S1 id ≠ none → 0 ≤ id
  | [], _, S, S1, _, h, _, hS, id, hid => by
    have : (none, S) = (none, S1) := h
    cases this
    exact hS id hid
  | x :: xs, i, S, S1, l, h, ok, hS, id, hid => by
    obtain ⟨_, y, _, h2⟩ := wk_step h
    refine kn_pos h2 (fun z hz => ok z (List.mem_cons_of_mem _ hz)) (fun j hj => ?_) id hid
    by_cases e : j = x.id
    · rw [e]; exact (ok x List.mem_cons_self).1
    · rw [if_neg e] at hj; exact hS j hj
theorem wk_rows {L : List (Str × Int)} : ∀ {xs : List Ent} {i : Nat} {S S1 : Kn} {l : Option Int}, wk L (xs.map some) i S l = (none, S1) → RowsIn L xs
  | [], _, _, _, _, _ => fun _ h => nomatch h
  | x :: xs, i, S, S1, l, h => by
    obtain ⟨_, y, hb, h2⟩ := wk_step h
    intro z hz
    rcases List.mem_cons.mp hz with rfl | hz
    · intro id s k m a r e
      subst e
      cases eS : S id with
      | some o =>
        have hb' : behind L (.row id s k m a r) (S id) = some y := hb
        rw [eS] at hb'
        cases o <;> cases hb'
      | none =>
        have hb' : behind L (.row id s k m a r) none = some y := by rw [← eS]; exact hb
        cases el : L.lookup s with
        | none =>
          have hb2 : ((L.lookup s).bind fun l => if m ≤ r ∧ r ≤ m + l then some (RowSt.at_ s k m a) else none) = some y := hb'
          rw [el] at hb2
          cases hb2
        | some l => rfl
    · exact wk_rows h2 z hz
theorem Good.eq {L : List (Str × Int)} {xs : List Ent} (h : Good L xs) : ∃ S1, wk L (xs.map some) 0 (fun _ => none) none = (none, S1) := ⟨_, by rw [← h]⟩
theorem called_put {c : Cls6} {e : Errs} {B A : Addr → Prop} {H : Hp} {a : OA} {S : OS} {v : V} {x : Ent} {Q : VK} {E : XK} (M : OfM c B A H a S) (hv : StrOk c.K H v) (ok : (x.at_ 0).ok) (h : PutOut c e.CI e.CE B A H a S v (x.at_ 0) Q E) : calledB c e a.o (kindN x) (v :: x.vs.dropLast.tail) H Q E := by
  cases x with
  | row n st k m am r => exact .inr (.inl ⟨rfl, v, _, _, _, _, _, rfl, B, A, a, S, v, n, st, k, m, am, rfl, M, hv, ok, h⟩)
  | fix n m am r => exact .inr (.inr (.inl ⟨rfl, v, _, _, _, rfl, B, A, a, S, v, n, m, am, rfl, M, hv, ok, h⟩))
  | gone n r => exact .inr (.inr (.inr (.inl ⟨rfl, v, _, rfl, B, A, a, S, v, n, rfl, M, hv, ok, h⟩)))
theorem at_at (x : Ent) (m n : Int) : (x.at_ m).at_ n = x.at_ n := by cases x <;> rfl
theorem DAt.at0 {H : Hp} {e : Addr} {x : Ent} (h : DAt H e x) : DAt H e (x.at_ 0) := by
  unfold DAt at h ⊢
  rw [h]
  cases x <;> rfl
theorem DOk.at0 {L : List (Str × Int)} {x : Ent} (h : DOk L x) (n : Int) : DOk L (x.at_ n) := ⟨at_ok h.1 n, fun id s k m a r e => by
  cases x with
  | row id s k m a r => cases e; exact h.2 _ _ _ _ _ _ rfl
  | fix id m a q => cases e
  | gone id q => cases e⟩
theorem DOk.inB {L : List (Str × Int)} {x : Ent} (h : DOk L x) : InB L x := h.2
theorem Ents.append {H : Hp} {us vs : List V} {xs ys : List Ent} (a : Ents H us xs) (b : Ents H vs ys) : Ents H (us ++ vs) (xs ++ ys) := by
  obtain ⟨al, a⟩ := a
  obtain ⟨bl, b⟩ := b
  refine ⟨by rw [List.length_append, List.length_append, al, bl], fun i v x h1 h2 => ?_⟩
  by_cases c : i < us.length
  · rw [List.getElem?_append_left c] at h1
    rw [List.getElem?_append_left (by omega)] at h2
    exact a i v x h1 h2
  · rw [List.getElem?_append_right (by omega)] at h1
    rw [List.getElem?_append_right (by omega), ← al] at h2
    exact b _ v x h1 h2
theorem take_at {α : Type} (xs ys : List α) (i : Nat) : (xs ++ ys).take (xs.length + i) = xs ++ ys.take i := by
  rw [List.take_append, List.take_of_length_le (by omega), Nat.add_sub_cancel_left]
/-- the first entry that can't be handed in is the first bad one -/
theorem jb_index {L : List (Str × Int)} {xs ys : List Ent} {i : Nat} (hi : i < ys.length) (g : Good L (xs ++ ys.take i)) (b : ¬ Good L (xs ++ ys.take (i + 1))) : (wk L ((xs ++ ys).map some) 0 (fun _ => none) none).1 = some (xs.length + i) := by
  obtain ⟨S1, h1⟩ := g.eq
  have hx : (xs ++ ys)[xs.length + i]? = some ys[i] := by
    rw [List.getElem?_append_right (by omega), Nat.add_sub_cancel_left]
    exact List.getElem?_eq_getElem hi
  rcases good_step hx (by rw [take_at]; exact h1) with ⟨_, y, _, h2⟩ | ⟨_, h2, _⟩
  · rw [Nat.add_assoc, take_at] at h2
    exact absurd (show Good L _ by unfold Good; rw [h2]) b
  · exact h2
theorem good_pre {L : List (Str × Int)} {xs ys : List Ent} (h : Good L (xs ++ ys)) (i : Nat) : Good L (xs ++ ys.take i) := by
  obtain ⟨S1, h1⟩ := h.eq
  obtain ⟨S2, h2⟩ := wk_pre h1 (xs.length + i)
  rw [take_at] at h2
  unfold Good
  rw [h2]
theorem jb_bad {L : List (Str × Int)} {xs ys : List Ent} {i : Nat} (h : JBad L xs ys i) (l : xs.length + ys.length ≤ 400) : (wk L ((xs ++ ys).map some) 0 (fun _ => none) none).1 = some (xs.length + i) := by
  obtain ⟨h1, h2, h3, h4⟩ := h
  rcases h4 with h4 | h4
  · omega
  · exact jb_index h1 h2 h4
theorem no_stale {S : OS} {d : Dr} (h : ∀ b ∈ S.cb, b ≤ d.n) : stale S d = none := by
  have e : laterIds S.xs S.cb d.n = [] := by
    unfold laterIds
    rw [List.map_eq_nil_iff, List.filter_eq_nil_iff]
    intro x hx
    have := h _ (List.of_mem_zip hx).2
    simp
    omega
  unfold stale
  rw [e, List.find?_eq_none.mpr (fun x _ => by simp)]
  rfl
end Ash

set_option Elab.async false
set_option linter.all false
set_option maxRecDepth 100000
set_option maxHeartbeats 4000000
set_option pp.maxSteps 1500
namespace Ash
open PySem PySem.Spec PyProof.Rows L2
open C8 (pss_cut)
theorem str_ok {K : PySem.W.Frag} {H : Hp} {z : Str} (h : z.length ≤ 100) : StrOk K H (.str z) := .inl ⟨z, rfl, by rw [sizeLine_eq]; omega⟩
theorem int_is {K : PySem.W.Frag} {H : Hp} {n : Int} (h : NotInt K H (.int n)) : False := by
  obtain ⟨t, bi, bb, ty, k1, k2, k3⟩ := h
  cases ty with
  | base b =>
    cases b with
    | _ =>
      rw [show PySem.W.kitOne K (.type "int") (.type "int") = some true from kit_ty (by decide +kernel)] at k1
      rw [show PySem.W.kitOne K (.type "int") (.type "bool") = some false from kit_ty (by decide +kernel)] at k2
      cases k1
      cases k2
      cases k3
theorem seqs {K : PySem.W.Frag} {H : Hp} {a b : Addr} {x y : V} (ha : H a = some (.tup [x, y])) (hb : H b = some (.tup [x, y])) (fx : flatV x = true ∧ eqV x x = true) (fy : flatV y = true ∧ eqV y y = true) : SeqS K H (.ref a) (.ref b) :=
  ⟨a, b, [x, y], [x, y], rfl, rfl, SqT.of ha, SqT.of hb, rfl, fun i u v hu hv => by
    rw [hu] at hv
    cases hv
    match i, hu with
    | 0, hu => cases hu; exact .inl ⟨fx.1, fx.1, fx.2⟩
    | 1, hu => cases hu; exact .inl ⟨fy.1, fy.1, fy.2⟩⟩
theorem fl_int (n : Int) : flatV (.int n) = true ∧ eqV (.int n) (.int n) = true := ⟨rfl, by simp [eqV]⟩
theorem fl_str (z : Str) : flatV (.str z) = true ∧ eqV (.str z) (.str z) = true := ⟨rfl, by simp [eqV]⟩
theorem nl_cut {B : Addr → Prop} {H : Hp} {q : Addr} {u : HO} (hB : ∀ x, B x → ∃ xs, H x = some (.lst xs)) (h : H q = some u) (hu : ∀ xs, u ≠ .lst xs) : cutH B H q = some u :=
  cut_at (fun b => by
    obtain ⟨xs, e⟩ := hB q b
    rw [h] at e
    exact hu xs (Option.some.inj e)) h
theorem BookAt.cutL {CB : Addr} {B : Addr → Prop} {H : Hp} {b : Addr} {L : List (Str × Int)} (hB : ∀ x, B x → ∃ xs, H x = some (.lst xs)) (h : BookAt CB H b L) : BookAt CB (cutH B H) b L := by
  obtain ⟨dx, d, L', h1, h2, h3⟩ := h
  exact ⟨dx, d, L', nl_cut hB h1 (fun xs z => nomatch z), nl_cut hB h2 (fun xs z => nomatch z), h3⟩
theorem Ents.cutL {B : Addr → Prop} {H : Hp} {us : List V} {xs : List Ent} (hB : ∀ x, B x → ∃ xs, H x = some (.lst xs)) (h : Ents H us xs) : Ents (cutH B H) us xs := ⟨h.1, fun i v x a b => by
  obtain ⟨e, h1, h2, h3⟩ := h.2 i v x a b
  exact ⟨e, h1, nl_cut hB h2 (fun xs z => nomatch z), h3⟩⟩
theorem JAt.cutL {K : PySem.W.Frag} {aT CJ CB : Addr} {B : Addr → Prop} {H : Hp} {j b : Addr} {L : List (Str × Int)} {us : List V} {xs : List Ent} (hB : ∀ x, B x → ∃ xs, H x = some (.lst xs)) (h : JAt K aT CJ CB H j b L us xs) : JAt K aT CJ CB (cutH B H) j b L us xs := by
  obtain ⟨dx, t, kd, h1, h2, h3, h4, h5, h6, h7⟩ := h
  refine ⟨dx, t, kd, nl_cut hB h1 (fun xs z => nomatch z), h2.cutL hB, ?_, h4, fun i v x a b => ?_, h6, ?_⟩
  · rcases h3 with (h | ⟨o, h⟩) | h
    · exact .inl (.inl (nl_cut hB h (fun xs z => nomatch z)))
    · exact .inl (.inr ⟨o, nl_cut hB h (fun xs z => nomatch z)⟩)
    · exact .inr h
  · obtain ⟨e, q1, q2, q3⟩ := h5 i v x a b
    exact ⟨e, q1, nl_cut hB q2 (fun xs z => nomatch z), q3⟩
  · obtain ⟨kvs, q1, q2, q3⟩ := h7
    refine ⟨kvs, nl_cut hB q1 (fun xs z => nomatch z), q2, fun id => ?_⟩
    have := q3 id
    cases ev : valV kvs (Sum.inl id) with
    | none => rw [ev] at this; cases eo : (wk L (xs.map some) 0 (fun _ => none) none).2 id <;> (rw [eo] at this; exact this)
    | some v =>
      rw [ev] at this
      cases eo : (wk L (xs.map some) 0 (fun _ => none) none).2 id with
      | none => rw [eo] at this; exact this
      | some r =>
        rw [eo] at this
        cases r with
        | tb => exact this
        | at_ z k m am =>
          obtain ⟨t, e1, e2⟩ := this
          exact ⟨t, e1, nl_cut hB e2 (fun xs z => nomatch z)⟩
theorem JAt.ents {K : PySem.W.Frag} {aT CJ CB : Addr} {H : Hp} {j b : Addr} {L : List (Str × Int)} {us : List V} {xs : List Ent} (h : JAt K aT CJ CB H j b L us xs) : Ents H us xs := by
  obtain ⟨dx, t, kd, h1, h2, h3, h4, h5, h6, h7⟩ := h
  exact ⟨h4, fun i v x a b => h5 i v x a b⟩
theorem mkJN {K : PySem.W.Frag} {aT CJ CB CE b : Addr} {L : List (Str × Int)} {H' : Hp} {a' : Addr} {us' : List V} {xs : List Ent} {S : Kn} {x dx' : Addr} (hb : BookAt CB H' b L) (ha : H' a' = some (.lst us')) (he : Ents H' us' xs) (hl : xs.length ≤ 400) (hw : wk L (xs.map some) 0 (fun _ => none) none = (none, S)) (nx : H' x = none) (ndx : H' dx' = none) (nex : dx' ≠ x) {Qj : Hp → Prop} (hq : ∀ H2, Same H' H2 → JAt K aT CJ CB H2 x b L us' xs → Qj H2) :
    spJInit K aT CJ CB CE [.ref x, .ref b, .ref a'] (upd (upd H' dx' (.own x)) x (.ins CJ dx' [])) (fun v H2 => v = .non ∧ Qj H2) (fun _ _ _ => False) := by
  have sX : Same H' (upd (upd H' dx' (.own x)) x (.ins CJ dx' [])) := (sameAt (Same.refl _) ndx).trans (sameAt (Same.refl _) (by rw [upd_ne (Ne.symm nex)]; exact nx))
  refine ⟨x, dx', b, a', L, us', xs.map some, rfl, upd_same, hb.same sX, .inl (sX _ _ ha), by rw [he.1]; exact hl, by rw [List.length_map]; exact he.1, fun i v o hi ho => ?_, fun H2 ys hys hw2 hJ _ kk => ⟨rfl, ?_⟩, fun i d H2 hw2 _ _ => ?_⟩
  · rw [List.getElem?_map] at ho
    cases ex : xs[i]? with
    | none => rw [ex] at ho; cases ho
    | some y =>
      rw [ex] at ho
      cases ho
      exact (he.same sX).2 i v y hi ex
  · have ey : ys = xs := (List.map_inj_right (fun a b h => Option.some.inj h)).mp hys.symm
    subst ey
    exact hq H2 (mk_same nx ndx kk) hJ
  · rw [hw] at hw2
    cases hw2
theorem sqL_same {K : PySem.W.Frag} {H H' : Hp} {a : Addr} {xs : List V} (h : SqL K H a xs) (s : Same H H') : SqL K H' a xs := by
  rcases h with (h | ⟨o, h⟩) | h
  · exact .inl (.inl (s _ _ h))
  · exact .inl (.inr ⟨o, s _ _ h⟩)
  · exact .inr h
theorem ent_arr (x : Ent) : atI x.vs ((x.vs.length : Int) - 1) = some (.int x.arr) := by cases x <;> rfl
theorem seqs1 {K : PySem.W.Frag} {H : Hp} {a b : Addr} {x : V} (ha : H a = some (.tup [x])) (hb : H b = some (.tup [x])) (fx : flatV x = true ∧ eqV x x = true) : SeqS K H (.ref a) (.ref b) :=
  ⟨a, b, [x], [x], rfl, rfl, SqT.of ha, SqT.of hb, rfl, fun i u v hu hv => by
    rw [hu] at hv
    cases hv
    match i, hu with
    | 0, hu => cases hu; exact .inl ⟨fx.1, fx.1, fx.2⟩⟩
theorem fl_non : flatV .non = true ∧ eqV .non .non = true := ⟨rfl, by simp [eqV]⟩
theorem neD_ents {K : PySem.W.Frag} {H : Hp} {l d : Addr} {us1 us2 : List V} {xs : List Ent} {Q : VK} (hl : H l = some (.lst us1)) (E1 : Ents H us1 xs) (hd : H d = some (.lst us2)) (E2 : Ents H us2 xs) (q : Q (.bl false) H) : rNeD K (.ref l) (.ref d) H Q := by
  refine ⟨.list (xs.map Ent.data), .list (xs.map Ent.data), .lst (SqL.of hl) E1.dp, .lst (SqL.of hd) E2.dp, list_shaped E1.ok, list_shaped E1.ok, ?_⟩
  rw [SeqAt.eqv_refl _ (SeqAt.canLay_of_shaped (list_shaped E1.ok))]
  exact q
def spLawN (K : PySem.W.Frag) : Sp := fun vs H Q _ => ∃ (a : Addr) (ns : List Int), vs = [.ref a] ∧ SqL K H a (ns.map V.int) ∧ ns.length ≤ 63 ∧ ∀ H', Q (.bl true) H'
theorem inV_int {z : Int} {l : List Int} : inV (.int z) (l.map V.int) = decide (z ∈ l) := by
  unfold inV
  rw [List.any_map]
  induction l with
  | nil => simp
  | cons a l ih =>
    rw [List.any_cons, ih]
    show (eqV (.int a) (.int z) || _) = _
    by_cases c : a = z
    · subst c
      simp [eqV]
    · have c' : ¬ z = a := fun e => c e.symm
      simp [eqV, c, c']
end Ash

set_option Elab.async false
set_option linter.all false
set_option maxRecDepth 100000
set_option maxHeartbeats 4000000
set_option pp.maxSteps 1500
namespace Ash
open PySem PySem.Spec PyProof.Rows L2
open C8 (pss_cut)
theorem str_ext {a b : Str} (h : a.cps.toList = b.cps.toList) : a = b := by
  obtain ⟨x⟩ := a
  obtain ⟨y⟩ := b
  have h : x.toList = y.toList := h
  rw [Array.toList_inj.mp h]
/-- texts in order -/
def LeS (a b : Str) : Prop := decide (b.cps.toList < a.cps.toList) = false
theorem leS_anti {a b : Str} (h : LeS a b) (g : LeS b a) : a = b := str_ext (PyProof.Rows.strKind.total _ _ g h)
theorem leS_trans {a b c : Str} (h : LeS a b) (g : LeS b c) : LeS a c := by
  unfold LeS at *
  cases e : decide (c.cps.toList < a.cps.toList) with
  | false => rfl
  | true =>
    rcases PyProof.Rows.strKind.negTrans _ b.cps.toList _ e with q | q
    · exact absurd (show decide (c.cps.toList < b.cps.toList) = true from q) (by rw [g]; exact Bool.false_ne_true)
    · exact absurd (show decide (b.cps.toList < a.cps.toList) = true from q) (by rw [h]; exact Bool.false_ne_true)
theorem ris_pw : ∀ (l : List Str) (p : Str), risingS p l = true → (p :: l).Pairwise LeS
  | [], p, _ => List.pairwise_singleton _ _
  | x :: r, p, h => by
    have h : (!ltCps x.cps.toList p.cps.toList && risingS x r) = true := h
    rw [Bool.and_eq_true] at h
    have e1 : LeS p x := by
      unfold LeS
      rw [← ltCps_eq]
      simpa using h.1
    have ih := ris_pw r x h.2
    refine List.pairwise_cons.mpr ⟨fun y hy => ?_, ih⟩
    rcases List.mem_cons.mp hy with rfl | hy
    · exact e1
    · exact leS_trans e1 (List.rel_of_pairwise_cons ih hy)
theorem srtS_pw : ∀ {l : List Str}, sortedS l = true → l.Pairwise LeS
  | [], _ => .nil
  | p :: r, h => ris_pw r p h
theorem srt_uniq {α : Type} {le : α → α → Prop} (anti : ∀ a b, le a b → le b a → a = b) : ∀ {l m : List α}, l.Pairwise le → m.Pairwise le → l.Perm m → l = m
  | [], m, _, _, p => (List.nil_perm.mp p).symm
  | a :: l, [], _, _, p => absurd p.symm (by simp)
  | a :: l, b :: m, hl, hm, p => by
    have e : a = b := by
      rcases List.mem_cons.mp (p.mem_iff.mp (List.mem_cons_self (a := a) (l := l))) with h | h
      · exact h
      · rcases List.mem_cons.mp (p.mem_iff.mpr (List.mem_cons_self (a := b) (l := m))) with g | g
        · exact g.symm
        · exact anti _ _ (List.rel_of_pairwise_cons hl g) (List.rel_of_pairwise_cons hm h)
    subst e
    rw [srt_uniq anti (List.pairwise_cons.mp hl).2 (List.pairwise_cons.mp hm).2 ((List.perm_cons a).mp p)]
theorem dp_strs {K : PySem.W.Frag} {H : Hp} : ∀ is : List Str, DpAll K H (is.map V.str) (is.map PyData.str)
  | [] => .nil
  | i :: r => .cons (.str i) (dp_strs r)
theorem strs_shaped {is : List Str} (h : ∀ z ∈ is, PyData.strOk z = true) : SeqAt.shaped (.list (is.map PyData.str)) = true := by
  have q : (is.map PyData.str).all flatD = true := by
    rw [List.all_eq_true]
    intro d hd
    obtain ⟨z, hz, rfl⟩ := List.mem_map.mp hd
    exact h z hz
  obtain ⟨h1, h2⟩ := flat_lay q
  unfold SeqAt.shaped
  simp [PyData.canLay0, PyData.depth, h1]
  omega
theorem strs_perm {l m : List Str} (hl : sortedS l = true) (hm : sortedS m = true) (h : l.Perm m) : l = m := srt_uniq (fun _ _ => leS_anti) (srtS_pw hl) (srtS_pw hm) h
def Ent.dataN : Ent → PyData
  | .row id s k m a _ => .tuple [.str "row", .int id, .str s, .str k, .int m, .int a, .none]
  | .fix id m a _ => .tuple [.str "fix", .int id, .int m, .int a, .none]
  | .gone id _ => .tuple [.str "gone", .int id, .none]
theorem entN_dp {K : PySem.W.Frag} {H : Hp} {e : Addr} {x : Ent} (h : H e = some (.tup (x.vs.dropLast ++ [.non]))) : Dp K H (.ref e) x.dataN := by
  cases x with
  | row id s k m a r => exact .tup (SqT.of h) (.cons (.str _) (.cons (.int _) (.cons (.str _) (.cons (.str _) (.cons (.int _) (.cons (.int _) (.cons .non .nil)))))))
  | fix id m a r => exact .tup (SqT.of h) (.cons (.str _) (.cons (.int _) (.cons (.int _) (.cons (.int _) (.cons .non .nil)))))
  | gone id r => exact .tup (SqT.of h) (.cons (.str _) (.cons (.int _) (.cons .non .nil)))
theorem entN_lay {x : Ent} (h : x.ok) : x.dataN.canLay0 = true ∧ x.dataN.depth ≤ 2 := by
  have key : ∀ ds : List PyData, ds.all flatD = true → (PyData.tuple ds).canLay0 = true ∧ (PyData.tuple ds).depth ≤ 2 := fun ds hd => by
    obtain ⟨h1, h2⟩ := flat_lay hd
    simp [PyData.canLay0, PyData.depth, h1]
    omega
  cases x with
  | row id s k m a r =>
    obtain ⟨h1, h2⟩ := h.2 _ _ _ _ _ _ rfl
    have hr : PyData.strOk "row" = true := by decide +kernel
    exact key _ (by simp [flatD, nm_ok h1, nm_ok h2, hr])
  | fix id m a r =>
    have hr : PyData.strOk "fix" = true := by decide +kernel
    exact key _ (by simp [flatD, hr])
  | gone id r =>
    have hr : PyData.strOk "gone" = true := by decide +kernel
    exact key _ (by simp [flatD, hr])
theorem entsN_lay : ∀ {xs : List Ent}, (∀ x ∈ xs, x.ok) → PyData.canLayAll0 (xs.map Ent.dataN) = true ∧ PyData.depthAll (xs.map Ent.dataN) ≤ 2
  | [], _ => by simp [PyData.canLayAll0, PyData.depthAll]
  | x :: xs, h => by
    obtain ⟨h1, h2⟩ := entsN_lay fun y hy => h y (List.mem_cons_of_mem _ hy)
    obtain ⟨h3, h4⟩ := entN_lay (h x List.mem_cons_self)
    rw [List.map_cons]
    simp only [PyData.canLayAll0, PyData.depthAll, h1, h3, Bool.and_self, true_and]
    exact Nat.max_le.mpr ⟨h4, h2⟩
theorem WithN.dp {K : PySem.W.Frag} {H : Hp} : ∀ {us : List V} {xs : List Ent}, WithN H us xs .non → DpAll K H us (xs.map Ent.dataN)
  | [], [], _ => .nil
  | [], _ :: _, h => by have := h.1; simp at this
  | _ :: _, [], h => by have := h.1; simp at this
  | v :: us, x :: xs, h => by
    obtain ⟨e, rfl, h2, _⟩ := h.2 0 v x rfl rfl
    exact .cons (entN_dp h2) (WithN.dp ⟨by have := h.1; simpa using this, fun i v x a b => h.2 (i + 1) v x a b⟩)
theorem WithN.ok {H : Hp} {us : List V} {xs : List Ent} {w : V} (h : WithN H us xs w) : ∀ x ∈ xs, x.ok := fun x hx => by
  obtain ⟨i, hi, e⟩ := List.getElem_of_mem hx
  have hu : i < us.length := by rw [h.1]; exact hi
  obtain ⟨_, _, _, h3⟩ := h.2 i us[i] x (List.getElem?_eq_getElem hu) (by rw [List.getElem?_eq_getElem hi, e])
  exact h3
theorem toldN_shaped {xs : List Ent} (h : ∀ x ∈ xs, x.ok) : SeqAt.shaped (.tuple [.str "told", .list (xs.map Ent.dataN)]) = true := by
  obtain ⟨h1, h2⟩ := entsN_lay h
  have hw : PyData.strOk "told" = true := by decide +kernel
  unfold SeqAt.shaped
  simp [PyData.canLay0, PyData.canLayAll0, PyData.depth, PyData.depthAll, h1, hw]
  omega
theorem shaped_fl {ds : List PyData} (h : ds.all flatD = true) : SeqAt.shaped (.tuple ds) = true := by
  obtain ⟨h1, h2⟩ := flat_lay h
  unfold SeqAt.shaped
  simp [PyData.canLay0, PyData.depth, h1]
  omega
/-- what a deed tells, as data -/
inductive Tl (K : PySem.W.Frag) (H : Hp) (t : Addr) : PyData → Prop
  | one (s : Str) : H t = some (.tup [.str s]) → PyData.strOk s = true → Tl K H t (.tuple [.str s])
  | non (s : Str) : H t = some (.tup [.str s, .non]) → PyData.strOk s = true → Tl K H t (.tuple [.str s, .none])
  | int (s : Str) (n : Int) : H t = some (.tup [.str s, .int n]) → PyData.strOk s = true → Tl K H t (.tuple [.str s, .int n])
  | str (s z : Str) : H t = some (.tup [.str s, .str z]) → PyData.strOk s = true → PyData.strOk z = true → Tl K H t (.tuple [.str s, .str z])
  | lst (l : Addr) (us : List V) (xs : List Ent) : H t = some (.tup [.str "told", .ref l]) → H l = some (.lst us) → WithN H us xs .non → Tl K H t (.tuple [.str "told", .list (xs.map Ent.dataN)])
theorem Tl.dp {K : PySem.W.Frag} {H : Hp} {t : Addr} {d : PyData} (h : Tl K H t d) : Dp K H (.ref t) d ∧ SeqAt.shaped d = true := by
  cases h with
  | one s h hs => exact ⟨.tup (SqT.of h) (.cons (.str _) .nil), shaped_fl (by simp [flatD, hs])⟩
  | non s h hs => exact ⟨.tup (SqT.of h) (.cons (.str _) (.cons .non .nil)), shaped_fl (by simp [flatD, hs])⟩
  | int s n h hs => exact ⟨.tup (SqT.of h) (.cons (.str _) (.cons (.int _) .nil)), shaped_fl (by simp [flatD, hs])⟩
  | str s z h hs hz => exact ⟨.tup (SqT.of h) (.cons (.str _) (.cons (.str _) .nil)), shaped_fl (by simp [flatD, hs, hz])⟩
  | lst l us xs h hl hW => exact ⟨.tup (SqT.of h) (.cons (.str _) (.cons (.lst (SqL.of hl) hW.dp) .nil)), toldN_shaped hW.ok⟩
theorem Tl.same {K : PySem.W.Frag} {H H' : Hp} {t : Addr} {d : PyData} (h : Tl K H t d) (s : Same H H') : Tl K H' t d := by
  cases h with
  | one s0 h hs => exact .one s0 (s _ _ h) hs
  | non s0 h hs => exact .non s0 (s _ _ h) hs
  | int s0 n h hs => exact .int s0 n (s _ _ h) hs
  | str s0 z h hs hz => exact .str s0 z (s _ _ h) hs hz
  | lst l us xs h hl hW => exact .lst l us xs (s _ _ h) (s _ _ hl) (hW.same s)
theorem Tl.ne {K : PySem.W.Frag} {H : Hp} {t t' : Addr} {d : PyData} {Q : VK} (h : Tl K H t d) (h' : Tl K H t' d) (q : Q (.bl false) H) : rNeD K (.ref t) (.ref t') H Q := by
  refine ⟨d, d, h.dp.1, h'.dp.1, h.dp.2, h.dp.2, ?_⟩
  rw [SeqAt.eqv_refl _ (SeqAt.canLay_of_shaped h.dp.2)]
  exact q
theorem neD_strs {K : PySem.W.Frag} {H : Hp} {l d : Addr} {zs : List Str} {Q : VK} (hl : H l = some (.lst (zs.map V.str))) (hd : H d = some (.lst (zs.map V.str))) (ok : ∀ z ∈ zs, PyData.strOk z = true) (q : Q (.bl false) H) : rNeD K (.ref l) (.ref d) H Q := by
  refine ⟨_, _, .lst (SqL.of hl) (dp_strs zs), .lst (SqL.of hd) (dp_strs zs), strs_shaped ok, strs_shaped ok, ?_⟩
  rw [SeqAt.eqv_refl _ (SeqAt.canLay_of_shaped (strs_shaped ok))]
  exact q
theorem OfM.notup {c : Cls6} {B A : Addr → Prop} {H : Hp} {a : OA} {S : OS} (h : OfM c B A H a S) : ∀ x, B x → H x ≠ none ∧ ∀ ys, H x ≠ some (.tup ys) := fun x hx => by
  obtain ⟨u, e, mu⟩ := h.BT x hx
  rw [e]
  refine ⟨(fun z => nomatch z), fun ys z => ?_⟩
  cases z
  exact mu
theorem Tl.fr {K : PySem.W.Frag} {H H' : Hp} {t : Addr} {d : PyData} (h : Tl K H t d) (nl : ∀ l, d ≠ .tuple [.str "told", .list l]) (k : ∀ ys, H t = some (.tup ys) → H' t = some (.tup ys)) : Tl K H' t d := by
  cases h with
  | one s0 h hs => exact .one s0 (k _ h) hs
  | non s0 h hs => exact .non s0 (k _ h) hs
  | int s0 n h hs => exact .int s0 n (k _ h) hs
  | str s0 z h hs hz => exact .str s0 z (k _ h) hs hz
  | lst l us xs h hl hW => exact absurd rfl (nl _)
theorem ok_told : PyData.strOk "told" = true := by decide +kernel
theorem ok_idle : PyData.strOk "idle" = true := by decide +kernel
theorem ok_busy : PyData.strOk "busy" = true := by decide +kernel
theorem ok_stale : PyData.strOk "stale" = true := by decide +kernel
theorem ok_entry' : PyData.strOk "entry" = true := by decide +kernel
theorem ok_nothing : PyData.strOk "nothing" = true := by decide +kernel
def Al {α β : Type} (R : α → β → Prop) : List α → List β → Prop
  | [], [] => True
  | a :: as, b :: bs => R a b ∧ Al R as bs
  | _, _ => False
section
variable {α β γ δ : Type} {R : α → β → Prop} {R' : γ → δ → Prop}
theorem Al.len : ∀ {as : List α} {bs : List β}, Al R as bs → as.length = bs.length
  | [], [], _ => rfl
  | a :: as, b :: bs, h => by rw [List.length_cons, List.length_cons, h.2.len]
theorem Al.map {f : α → γ} {g : β → δ} (k : ∀ a b, R a b → R' (f a) (g b)) : ∀ {as : List α} {bs : List β}, Al R as bs → Al R' (as.map f) (bs.map g)
  | [], [], _ => trivial
  | a :: as, b :: bs, h => ⟨k _ _ h.1, h.2.map k⟩
theorem Al.mono {S : α → β → Prop} (k : ∀ a b, R a b → S a b) : ∀ {as : List α} {bs : List β}, Al R as bs → Al S as bs
  | [], [], _ => trivial
  | a :: as, b :: bs, h => ⟨k _ _ h.1, h.2.mono k⟩
theorem Al.app {as' : List α} {bs' : List β} (g : Al R as' bs') : ∀ {as : List α} {bs : List β}, Al R as bs → Al R (as ++ as') (bs ++ bs')
  | [], [], _ => g
  | a :: as, b :: bs, h => ⟨h.1, Al.app g h.2⟩
theorem Al.filter {f : α → Bool} {g : β → Bool} (k : ∀ a b, R a b → f a = g b) : ∀ {as : List α} {bs : List β}, Al R as bs → Al R (as.filter f) (bs.filter g)
  | [], [], _ => trivial
  | a :: as, b :: bs, h => by
    rw [List.filter_cons, List.filter_cons, k _ _ h.1]
    split
    · exact ⟨h.1, h.2.filter k⟩
    · exact h.2.filter k
theorem Al.find {f : α → Bool} {g : β → Bool} (k : ∀ a b, R a b → f a = g b) : ∀ {as : List α} {bs : List β}, Al R as bs → (as.find? f = none ∧ bs.find? g = none) ∨ ∃ a b, as.find? f = some a ∧ bs.find? g = some b ∧ R a b
  | [], [], _ => .inl ⟨rfl, rfl⟩
  | a :: as, b :: bs, h => by
    rw [List.find?_cons, List.find?_cons, k _ _ h.1]
    cases g b with
    | true => exact .inr ⟨a, b, rfl, rfl, h.1⟩
    | false => exact h.2.find k
end
end Ash

set_option Elab.async false
set_option linter.all false
set_option maxRecDepth 100000
set_option maxHeartbeats 4000000
set_option pp.maxSteps 1500
namespace Ash
open PySem PySem.Spec PyProof.Rows L2
open C8 (pss_cut)
/-! ### what a close is due -/
def dueT (L : List (Str × Int)) (xs es : List Ent) (n : Int) : List V := match (wk L ((xs ++ es.map (·.at_ n)).map some) 0 (fun _ => none) none).1 with
  | none => [.str "told", .int es.length]
  | some k => [.str "entry", .int ((k : Int) - (xs.length : Int))]
def spDue : Sp := fun vs H Q _ => ∃ (dl de l : Addr) (L : List (Str × Int)) (usd us : List V) (xs es : List Ent) (n : Int), vs = [.ref dl, .ref de, .ref l, .int n] ∧ H dl = some (.dK (LK L)) ∧ H de = some (.lst usd) ∧ Ents H usd xs ∧ Good L xs ∧ H l = some (.lst us) ∧ DEnts H us es ∧ (∀ x ∈ es, DOk L x) ∧ xs.length ≤ 390 ∧ es.length ≤ 20 ∧
  ∀ t H', Same H H' → H' t = some (.tup (dueT L xs es n)) → Q (.ref t) H'
section
variable {P : Program} {w : World} {K : PySem.W.Frag} {mg : Str → Option Value} {base : Heap}
structure GD (P : Program) (w : World) (K : PySem.W.Frag) (mg : Str → Option Value) (base : Heap) : Prop where
  law_bad_from : Cal P w K mg base CX0 "_law_bad_from" 2 ["_law_lates_here", "_law_entries_here", "_law_begin_here"] spBad
abbrev s_l_due : Stmt := topS 58
theorem sc_l_due : FnScope ["_law_lates_here", "_law_entries_here", "_law_drafted_here", "_law_arrival", "_law_whole", "_law_at", "_law_entry_here"] ["_law_lates_here", "_law_entries_here", "_law_drafted_here", "_law_arrival"] (defScope s_l_due) := ⟨rfl, rfl, rfl, by decide +kernel, rfl, by decide +kernel, by decide +kernel⟩
theorem ok_due {f : Addr} {fd : FuncData} (F : Fun K "_law_due" "_law_due" s_l_due f fd) (B : Blt mg) (G : GD P w K mg base) : FnOk P w K mg base CX0 3 f fd ["_law_lates_here", "_law_entries_here", "_law_drafted_here", "_law_arrival"] spDue := by
  refine F.ok sc_l_due (fun vs H Q E h => ?_) (fun cdv A outer s H vs Q E hr h => ?_)
  · obtain ⟨dl, de, l, L, usd, us, xs, es, n, rfl, _⟩ := h
    rfl
  · obtain ⟨dl, de, l, L, usd, us, xs, es, n, rfl, hdl, hde, hE, gx, hl, hD, hok, h4, h20, q⟩ := h
    have hu := hu_of hr
    have hel := hE.1
    have hdl2 := hD.1
    unfold dueT at q
    refine ⟨_, (pss_cons (ps_set (i := 4) sc_l_due.nd rfl (Or.inl rfl) (pe_op op_cat (pv 1) (pe_lc (own := [("_law_entry_here", 6)]) (g := gName 6) (tt := tYes) (by rfl) sc_l_due.nd (pi_list (pv 2)) (blkOk_by (own := [("_law_entry_here", 6)]) (N := ["_law_lates_here", "_law_entries_here", "_law_drafted_here", "_law_arrival", "_law_whole", "_law_at", "_law_entry_here"]) (sc := defScope s_l_due) (by decide +kernel)) (fun _ _ _ _ _ => (pg_name (i := 6) sc_l_due.nd rfl (Or.inl rfl))) (fun _ _ _ _ _ => pts_nil) (fun _ _ _ _ _ => (pe_op (show OpR _ _ (rCatT K) from op_catT) (pv 6) (pe_tup (pa_cons (pv 3) pa_nil)))))))
    (pss_cons (ps_set (i := 5) sc_l_due.nd rfl (Or.inl rfl) (pe_cal G.law_bad_from (hr.mono (by decide)) pass0 (pa_cons (pv 0) (pa_cons (pv 4) (pa_cons (pe_callB call_len_seq (by rfl) B.len (by decide +kernel) (pa_cons (pv 1) pa_nil)) pa_nil)))))
    (pss_cons (ps_if (pt_cmpR op_isN (pv 5) pe_non (nomark _))
      (pss_one (ps_ret (pe_tup (pa_cons pe_str (pa_cons (pe_callB call_len_seq (by rfl) B.len (by decide +kernel) (pa_cons (pv 2) pa_nil)) pa_nil)))))
      pss_nil)
    (pss_one (ps_ret (pe_tup (pa_cons pe_str (pa_cons (pe_op op_sub (pv 5) (pe_callB call_len_seq (by rfl) B.len (by decide +kernel) (pa_cons (pv 1) pa_nil))) pa_nil)))))))), ?_⟩
    refine ⟨_, rfl, _, rfl, l, rfl, ⟨_, SqL.of hl⟩, fun D4 hD40 => ?_⟩
    refine lc_list (a := l) (xs := us) (fun i H4 => ∃ us', H4 D4 = some (.lst us') ∧ WithN H4 us' (es.take i) (.int n) ∧ Same H H4) ⟨[], upd_same, ⟨rfl, fun _ _ _ e => nomatch e⟩, sameAt (Same.refl _) hD40⟩ (fun i H4 _ hv => by obtain ⟨_, _, _, h⟩ := hv; exact SqL.of (h _ _ hl)) ?_ ?_
    · rintro i v H5 hvi ⟨us', hD5, hW, s5⟩
      have hil := (List.getElem?_eq_some_iff.mp hvi).1
      obtain ⟨x, hx⟩ : ∃ x, es[i]? = some x := ⟨_, List.getElem?_eq_getElem (by rw [← hdl2]; exact hil)⟩
      obtain ⟨e1, rfl, he, ok⟩ := hD.2 i v x hvi hx
      have he5 : H5 e1 = some (.tup x.vs.dropLast) := s5 _ _ he
      refine ⟨rfl, _, rfl, _, rfl, (by show 1 ≤ sizeLine; decide), fun t1 nt1 => ?_⟩
      have s6 : Same H5 (upd H5 t1 (.tup [.int n])) := sameAt (Same.refl _) nt1
      have ne1 : x.vs.dropLast ≠ [] := by cases x <;> exact fun z => nomatch z
      refine ⟨e1, t1, _, _, rfl, rfl, SqT.of (s6 _ _ he5), SqT.of upd_same, ne1, (by have := vs_lenW x (.int n); rw [List.length_append] at this; exact this), (fun z => nomatch z), fun _ t2 nt2 => ?_⟩
      have s7 : Same (upd H5 t1 (.tup [.int n])) (upd (upd H5 t1 (.tup [.int n])) t2 (.tup (x.vs.dropLast ++ [.int n]))) := sameAt (Same.refl _) nt2
      have s57 := s6.trans s7
      have hul : us'.length ≤ 20 := by
        have := hW.1
        rw [List.length_take] at this
        omega
      have h2 : (upd (upd H5 t1 (.tup [.int n])) t2 (.tup (x.vs.dropLast ++ [.int n]))) t2 = some (.tup (x.vs.dropLast ++ [.int n])) := upd_same
      generalize (upd (upd H5 t1 (.tup [.int n])) t2 (.tup (x.vs.dropLast ++ [.int n]))) = H7 at s57 h2 ⊢
      have hD7 := s57 _ _ hD5
      refine ⟨us', hD7, small1000 (by omega), us' ++ [.ref t2], upd_same, ?_, sameAt (s5.trans s57) hD40⟩
      rw [list_take' hx]
      have s8 : ∀ (k : Addr) (xs : List V), H7 k = some (.tup xs) → (upd H7 D4 (.lst (us' ++ [V.ref t2]))) k = some (.tup xs) := fun k xs h => by
        rw [upd_ne (fun z => by rw [z, hD7] at h; cases h)]
        exact h
      refine WithN.snoc ⟨hW.1, fun k v y a b => ?_⟩ (s8 _ _ h2) ok
      obtain ⟨e', h1, h2, h3⟩ := hW.2 k v y a b
      exact ⟨e', h1, s8 _ _ (s57 _ _ h2), h3⟩
    rintro H5 ⟨us', hD5, hW, s5⟩
    rw [List.take_of_length_le (by rw [hdl2]; exact Nat.le_refl _)] at hW
    have hul : us'.length = es.length := hW.1
    refine ⟨de, D4, _, _, rfl, rfl, s5 _ _ hde, hD5, Nat.le_of_lt (small1000 (by omega)), fun wp nwp => ?_⟩
    have s6 : Same H5 (upd H5 wp (.lst (usd ++ us'))) := sameAt (Same.refl _) nwp
    have s16 := s5.trans s6
    have EW : Ents (upd H5 wp (.lst (usd ++ us'))) (usd ++ us') (xs ++ es.map (·.at_ n)) := (hE.same s16).append (hW.ents.same s6)
    have hwp : (upd H5 wp (.lst (usd ++ us'))) wp = some (.lst (usd ++ us')) := upd_same
    generalize (upd H5 wp (.lst (usd ++ us'))) = H6 at s6 s16 EW hwp ⊢
    obtain ⟨SK, hSK⟩ := gx.eq
    have lw : (xs ++ es.map (·.at_ n)).length = xs.length + es.length := by rw [List.length_append, List.length_map]
    refine ⟨_, rfl, _, rfl, _, rfl, de, usd, rfl, .inl (SqL.of (s16 _ _ hde)), dl, wp, L, usd ++ us', xs ++ es.map (·.at_ n), usd.length, rfl, s16 _ _ hdl, hwp, EW, by omega, by omega, ⟨SK, by rw [hel, List.take_left]; exact hSK⟩, ?_, fun H7 s7 => ?_⟩
    · intro x hx
      rcases List.mem_append.mp hx with hx | hx
      · exact wk_rows hSK x hx
      · obtain ⟨y, hy, rfl⟩ := List.mem_map.mp hx
        exact ((hok y hy).at0 n).inB
    have s17 := s16.trans s7
    have hl7 := s17 _ _ hl
    cases hw : (wk L ((xs ++ es.map (·.at_ n)).map some) 0 (fun _ => none) none).1 with
    | none =>
      rw [hw] at q
      refine ⟨_, rfl, rfl, _, rfl, iteT ⟨_, rfl, l, us, rfl, .inl (SqL.of hl7), (by show 2 ≤ sizeLine; decide), fun t nt => q t _ (s17.trans (sameAt (Same.refl _) nt)) ?_⟩⟩
      rw [← hdl2]
      exact upd_same
    | some k =>
      rw [hw] at q
      refine ⟨_, rfl, rfl, _, rfl, iteF ⟨_, rfl, _, rfl, de, usd, rfl, .inl (SqL.of (s17 _ _ hde)), _, _, rfl, rfl, (by show 2 ≤ sizeLine; decide), fun t nt => q t _ (s17.trans (sameAt (Same.refl _) nt)) ?_⟩⟩
      rw [← hel]
      exact upd_same
end
end Ash

set_option Elab.async false
set_option linter.all false
set_option maxRecDepth 100000
set_option maxHeartbeats 4000000
set_option pp.maxSteps 1500
namespace Ash
open PySem PySem.Spec PyProof.Rows L2
open C8 (pss_cut)
/-! ### an office of one draft alone, new behind a heap -/
def mkW (S : OS) (z : Str) (t l : Addr) (es : List Ent) : OS := { S with ps := [⟨z, t, l, S.cl, es⟩] }
theorem mkW_put (S : OS) (z : Str) (t l : Addr) (es : List Ent) (x : Ent) : (mkW S z t l es).putd z x = mkW S z t l (es ++ [x]) := by
  unfold mkW OS.putd
  simp
theorem mkW_drop (S : OS) (z : Str) (t l : Addr) (es : List Ent) : (mkW S z t l es).dropd z = { S with ps := [] } := by
  unfold mkW OS.dropd
  simp
theorem mkW_find (S : OS) (z : Str) (t l : Addr) (es : List Ent) : (mkW S z t l es).find z = some ⟨z, t, l, S.cl, es⟩ := by
  unfold mkW OS.find
  simp
structure RI (c : Cls6) (H0 : Hp) (B A : Addr → Prop) (H : Hp) (a : OA) (S : OS) : Prop where
  M : OfM c B A H a S
  k : Same H0 H
  n : ∀ q, A q → H0 q = none
theorem RI.same {c : Cls6} {H0 H H' : Hp} {B A : Addr → Prop} {a : OA} {S : OS} (h : RI c H0 B A H a S) (s : Same H H') : RI c H0 B A H' a S := ⟨h.M.same s, h.k.trans s, h.n⟩
theorem RI.office {c : Cls6} {H0 H H' : Hp} {B A A' : Addr → Prop} {a a' : OA} {S S' : OS} (h : RI c H0 B A H a S) (f : Fr A H A' H') (M : OfM c (uni B A') A' H' a' S') : RI c H0 (uni B A') A' H' a' S' :=
  ⟨M, (fun q x e => f.k _ _ (h.k _ _ e) fun z => by rw [h.n _ z] at e; cases e), fun q z => (f.g q z).elim (h.n q) fun e => no_of h.k e⟩
theorem late_of {t r : Int} (h : t ≤ r) : late? (some t) r = false := by
  show decide (r < t) = false
  exact decide_eq_false (by omega)
/-! ### rows one behind the other -/
def rws (z : Str) (c : Int) : Int → Int → Nat → List Ent
  | _, _, 0 => []
  | a, m, k + 1 => .row a z "a" m 0 m :: rws z c (a + 1) (m + c) k
theorem rws_len (z : Str) (c : Int) : ∀ (n : Nat) (a m : Int), (rws z c a m n).length = n
  | 0, _, _ => rfl
  | n + 1, a, m => by
    show (rws z c (a + 1) (m + c) n).length + 1 = n + 1
    rw [rws_len z c n]
theorem rws_at (z : Str) (c : Int) : ∀ (n k : Nat) (a m : Int), k < n → (rws z c a m n)[k]? = some (.row (a + k) z "a" (m + c * k) 0 (m + c * k))
  | 0, _, _, _, h => absurd h (by omega)
  | n + 1, 0, a, m, _ => by
    show some (Ent.row a z "a" m 0 m) = _
    simp
  | n + 1, k + 1, a, m, h => by
    show (rws z c (a + 1) (m + c) n)[k]? = _
    rw [rws_at z c n k _ _ (by omega)]
    have e1 : a + 1 + (k : Int) = a + ((k + 1 : Nat) : Int) := by omega
    have e2 : m + c + c * (k : Int) = m + c * ((k + 1 : Nat) : Int) := by
      rw [show (((k + 1 : Nat) : Int)) = (k : Int) + 1 by omega, Int.mul_add, Int.mul_one]
      omega
    rw [e1, e2]
theorem rws_wk {L : List (Str × Int)} {z : Str} {c t : Int} (hz : L.lookup z = some t) (ht : 0 ≤ t) (hc : 0 ≤ c) : ∀ (n : Nat) (a m : Int) (i : Nat) (S : Kn) (l : Option Int), (∀ id, a ≤ id → S id = none) → late? l m = false →
    ∃ S1, wk L ((rws z c a m n).map some) i S l = (none, S1) ∧ ∀ id, S1 id ≠ none → S id ≠ none ∨ (a ≤ id ∧ id < a + n)
  | 0, a, m, i, S, l, _, _ => ⟨S, rfl, fun id h => .inl h⟩
  | n + 1, a, m, i, S, l, hS, hl => by
    have hb : behind L (.row a z "a" m 0 m) (S a) = some (.at_ z "a" m 0) := by
      rw [hS a (Int.le_refl _)]
      show (L.lookup z).bind _ = _
      rw [hz]
      show (if m ≤ m ∧ m ≤ m + t then _ else _) = _
      rw [if_pos ⟨Int.le_refl _, by omega⟩]
    obtain ⟨S1, h1, h2⟩ := rws_wk hz ht hc n (a + 1) (m + c) (i + 1) (fun j => if j = a then some (.at_ z "a" m 0) else S j) (some m) (fun id h => by
      show (if id = a then _ else _) = _
      rw [if_neg (by omega)]
      exact hS id (by omega)) (late_of (by omega))
    refine ⟨S1, ?_, fun id h => ?_⟩
    · show wk L (some (Ent.row a z "a" m 0 m) :: (rws z c (a + 1) (m + c) n).map some) i S l = _
      rw [wk_go hl hb]
      exact h1
    · rcases h2 id h with h | h
      · have h : (if id = a then some (RowSt.at_ z "a" m 0) else S id) ≠ none := h
        by_cases e : id = a
        · exact .inr (by omega)
        · rw [if_neg e] at h
          exact .inl h
      · exact .inr (by omega)
theorem rws_last (z : Str) (c : Int) : ∀ (n : Nat) (a m : Int) (l : Option Int), lastA (rws z c a m (n + 1)) l = some (m + c * n)
  | 0, a, m, l => by
    show some m = _
    simp
  | n + 1, a, m, l => by
    show lastA (rws z c (a + 1) (m + c) (n + 1)) (some m) = _
    rw [rws_last z c n]
    congr 1
    rw [show (((n + 1 : Nat) : Int)) = (n : Int) + 1 by omega, Int.mul_add, Int.mul_one]
    omega
theorem rws_good {L : List (Str × Int)} {z : Str} {t : Int} (hz : L.lookup z = some t) (ht : 0 ≤ t) (k : Nat) : Good L (rws z 1 0 0 398 ++ rws z 0 500 400 k) := by
  obtain ⟨A1, w1, i1⟩ := rws_wk (c := 1) hz ht (by decide) 398 0 0 0 (fun _ => none) none (fun _ _ => rfl) rfl
  have hl : lastA (rws z 1 0 0 398) none = some 397 := by rw [rws_last z 1 397 0 0 none]; rfl
  obtain ⟨A2, w2, _⟩ := rws_wk (c := 0) hz ht (by decide) k 500 400 (0 + (rws z 1 0 0 398).length) A1 (lastA (rws z 1 0 0 398) none) (fun id h => by
    cases e : A1 id with
    | none => rfl
    | some y =>
      rcases i1 id (by rw [e]; exact fun z => nomatch z) with h1 | h1
      · exact absurd rfl h1
      · omega) (by rw [hl]; decide)
  unfold Good
  rw [List.map_append, wk_app _ w1, w2]
theorem Ents.setL {H : Hp} {us : List V} {xs : List Ent} {a : Addr} {l0 : List V} {o : HO} (h : Ents H us xs) (ha : H a = some (.lst l0)) : Ents (upd H a o) us xs := ⟨h.1, fun i v x p q => by
  obtain ⟨e, h1, h2, h3⟩ := h.2 i v x p q
  refine ⟨e, h1, ?_, h3⟩
  have h2 : H e = some (.tup x.vs) := h2
  show upd H a o e = _
  rw [upd_ne (fun z => by rw [z, ha] at h2; cases h2)]
  exact h2⟩
end Ash

set_option Elab.async false
set_option linter.all false
set_option maxRecDepth 100000
set_option maxHeartbeats 4000000
set_option pp.maxSteps 1500
namespace Ash
open PySem PySem.Spec PyProof.Rows L2
open C8 (pss_cut)
/-! ### an office that is full -/
def W3 (z : Str) (n : Nat) : List Ent := ((rws z 0 500 400 3).take n).map (·.at_ 0)
theorem W3_snoc (z : Str) {i : Nat} (h : i < 3) : W3 z (i + 1) = W3 z i ++ [.row (500 + (i : Int)) z "a" 400 0 0] := by
  unfold W3
  have := rws_at z 0 3 i 500 400 h
  rw [list_take' this, List.map_append]
  show _ ++ [Ent.row (500 + (i : Int)) z "a" (400 + 0 * (i : Int)) 0 0] = _
  rw [Int.zero_mul]
  rfl
theorem W3_at (z : Str) {n : Nat} (h : n ≤ 3) : (W3 z n).map (·.at_ 400) = rws z 0 500 400 n := by
  match n, h with
  | 0, _ => rfl
  | 1, _ => rfl
  | 2, _ => rfl
  | 3, _ => rfl
theorem W3_len (z : Str) {n : Nat} (h : n ≤ 3) : (W3 z n).length = n := by
  match n, h with
  | 0, _ => rfl
  | 1, _ => rfl
  | 2, _ => rfl
  | 3, _ => rfl
theorem Tl.eq {K : PySem.W.Frag} {H : Hp} {t t' : Addr} {d : PyData} {Q : VK} (h : Tl K H t d) (h' : Tl K H t' d) (q : Q (.bl true) H) : rEqD K (.ref t) (.ref t') H Q := by
  refine ⟨d, d, h.dp.1, h'.dp.1, h.dp.2, h'.dp.2, ?_⟩
  rw [SeqAt.eqv_refl _ (SeqAt.canLay_of_shaped h.dp.2)]
  exact q
def spFull (c : Cls6) : Sp := fun vs H Q _ => ∃ (dl b : Addr) (L : List (Str × Int)), vs = [.ref dl, .ref b] ∧ H dl = some (.dK (LK L)) ∧ Lates L ∧ BookAt c.CB H b L ∧ ∀ H', Q (.bl true) H'
section
variable {P : Program} {w : World} {mg : Str → Option Value} {base : Heap} {c : Cls6} {e : Errs}
structure GFl (P : Program) (w : World) (mg : Str → Option Value) (base : Heap) (c : Cls6) (e : Errs) : Prop where
  T : Co c.K mg c.CO
  begin_ : Met P w c.K mg base (L2.CX P w) c.CO "begin" 3 ["self", "writer"] (spBeginO c e.CN e.CY)
  row : Met P w c.K mg base (L2.CX P w) c.CO "row" 5 ["self", "writer", "number", "stream", "key", "moment", "amount"] (spRowO c e.CI e.CE)
  drop_ : Met P w c.K mg base (L2.CX P w) c.CO "drop" 3 ["self", "writer"] (spDropO c e.CI)
  law_done : Cal P w c.K mg base CX0 "_law_done" 13 ["_law_which", "_law_office", "_law_given"] (spDone c e)
  Journal : Mak P w c.K mg base (L2.CX P w) "Journal" c.CJ 7 ["self", "book", "entries"] (spJInit c.K c.aT c.CJ c.CB e.CE)
  Office : Mak P w c.K mg base (L2.CX P w) "Office" c.CO 4 ["self", "book", "journal"] (spOfInit c)
abbrev s_l_full : Stmt := topS 59
theorem sc_l_full : FnScope ["_law_lates_here", "_law_book", "_law_stream", "_law_k", "_law_many", "_law_office"] ["_law_lates_here", "_law_book"] (defScope s_l_full) := ⟨rfl, rfl, rfl, by decide +kernel, rfl, by decide +kernel, by decide +kernel⟩
theorem ok_full {f fl : Addr} {fd fdl : FuncData} (F : Fun c.K "_law_full" "_law_full" s_l_full f fd) (B : Blt mg) (G : GFl P w mg base c e)
    (Fl : FnOk P w c.K mg base CX0 1 fl fdl ["self"] (spJLen c.K c.aT c.CJ c.CB)) (hl1 : PySem.W.findIn c.K (.ref c.CJ) "__len__" = some (some (.ref fl))) (hl2 : PySem.W.isFn c.K (.ref fl) = true) (hl3 : Binds c.K fdl ["self"] []) : FnOk P w c.K mg base CX0 15 f fd ["_law_lates_here", "_law_book"] (spFull c) := by
  have T := G.T
  refine F.ok sc_l_full (fun vs H Q E h => ?_) (fun cdv A0 outer s H vs Q E hr h => ?_)
  · obtain ⟨dl, b, L, rfl, _⟩ := h
    rfl
  · obtain ⟨dl, b, L, rfl, hdl, LL, hB, q⟩ := h
    have hu := hu_of hr
    have one : (1 : Nat) ≤ sizeLine := by decide
    have two : (2 : Nat) ≤ sizeLine := by decide
    refine ⟨_, (pss_cons (ps_set (i := 2) sc_l_full.nd rfl (Or.inr rfl) (pe_ix ix_list (pe_callTy (call_listD (by rfl)) (by rfl) B.list (by decide +kernel) (pa_cons (pv 0) pa_nil)) pe_int (fun _ _ => rfl)))
    (pss_cons (ps_setLc (i := 4) (own := [("_law_k", 3)]) (g := gName 3) (tt := tYes) (by rfl) sc_l_full.nd rfl rfl (sw_true rfl rfl rfl (by decide +kernel)) (pi_range1 (by rfl) B.range (pa_cons pe_int pa_nil)) (blkOk_by (own := [("_law_k", 3)]) (N := ["_law_lates_here", "_law_book", "_law_stream", "_law_k", "_law_many", "_law_office"]) (sc := defScope s_l_full) (by decide +kernel)) (fun _ _ _ _ _ => (pg_name (i := 3) sc_l_full.nd rfl (Or.inl rfl))) (fun _ _ _ _ _ => pts_nil) (fun _ _ _ _ _ => (pe_tup (pa_cons pe_str (pa_cons (pv 3) (pa_cons (pv 2) (pa_cons pe_str (pa_cons (pv 3) (pa_cons pe_int (pa_cons (pv 3) pa_nil))))))))))
    (pss_cons (ps_set (i := 5) sc_l_full.nd rfl (Or.inl rfl) (pe_mak G.Office (hr.mono (by decide)) (passE takes0) (pa_cons (pv 1) (pa_cons (pe_mak G.Journal (hr.mono (by decide)) (passE takes0) (pa_cons (pv 1) (pa_cons (pv 4) pa_nil))) pa_nil))))
    (pss_cons (ps_expr (pe_met T.cl G.begin_ (hr.mono (by decide)) (passE takes0) (pv 5) (pa_cons pe_str pa_nil)))
    (pss_cons (ps_for PassesOwn.never rfl (pi_range1 (by rfl) B.range (pa_cons pe_int pa_nil)) (pg_name (i := 3) sc_l_full.nd rfl (Or.inl rfl))
      (pss_one (ps_expr (pe_met T.cl G.row (hr.mono (by decide)) (passE takes0) (pv 5) (pa_cons pe_str (pa_cons (pe_op op_add pe_int (pv 3)) (pa_cons (pv 2) (pa_cons pe_str (pa_cons pe_int (pa_cons pe_int pa_nil))))))))))
    (pss_cons (ps_if (PW.pt (pw_or (pt_cmpR (op_neD hr.units) (pe_cal G.law_done (hr.mono (by decide)) pass0 (pa_cons pe_int (pa_cons (pv 5) (pa_cons (pe_tup (pa_cons pe_str (pa_cons pe_int pa_nil))) pa_nil)))) (pe_tup (pa_cons pe_str (pa_cons pe_int pa_nil))) (nomark _)) (pw_or1 (pt_cmpR op_ne (pe_callB (call_lenI Fl hl1 hl2 hl3 pass0 (hr.mono (by decide))) (by rfl) B.len (by decide +kernel) (pa_cons (pe_fld (pv 5) rfl) pa_nil)) pe_int (nomark _)))))
      (pss_one (ps_ret pe_bl))
      pss_nil)
    (pss_cons (ps_expr (pe_met T.cl G.drop_ (hr.mono (by decide)) (passE takes0) (pv 5) (pa_cons pe_str pa_nil)))
    (pss_cons (ps_expr (pe_met T.cl G.begin_ (hr.mono (by decide)) (passE takes0) (pv 5) (pa_cons pe_str pa_nil)))
    (pss_cons (ps_for PassesOwn.never rfl (pi_range1 (by rfl) B.range (pa_cons pe_int pa_nil)) (pg_name (i := 3) sc_l_full.nd rfl (Or.inl rfl))
      (pss_one (ps_expr (pe_met T.cl G.row (hr.mono (by decide)) (passE takes0) (pv 5) (pa_cons pe_str (pa_cons (pe_op op_add pe_int (pv 3)) (pa_cons (pv 2) (pa_cons pe_str (pa_cons pe_int (pa_cons pe_int pa_nil))))))))))
    (pss_one (ps_ret (pe_and (pe_cmpR (op_eqD hr.units) (pe_cal G.law_done (hr.mono (by decide)) pass0 (pa_cons pe_int (pa_cons (pv 5) (pa_cons (pe_tup (pa_cons pe_str (pa_cons pe_int pa_nil))) pa_nil)))) (pe_tup (pa_cons pe_str (pa_cons pe_int pa_nil))) (nomark _)) (pe_one (pe_cmpR op_eq (pe_callB (call_lenI Fl hl1 hl2 hl3 pass0 (hr.mono (by decide))) (by rfl) B.len (by decide +kernel) (pa_cons (pe_fld (pv 5) rfl) pa_nil)) pe_int (nomark _))))))))))))))), ?_⟩
    obtain ⟨z, t0, rest, rfl⟩ : ∃ z t0 rest, L = (z, t0) :: rest := by
      cases L with
      | nil => exact absurd LL.some_ (by decide)
      | cons p rest => exact ⟨p.1, p.2, rest, rfl⟩
    have hz : (((z, t0) :: rest).lookup z) = some t0 := by rw [List.lookup_cons, beq_self_eq_true]
    have ht : 0 ≤ t0 := LL.lo (z, t0) List.mem_cons_self
    have nz : IsNm z := LL.nm (z, t0) List.mem_cons_self
    have nA : IsNm "a" := (nmB_iff _).mp (by decide +kernel)
    refine ⟨_, rfl, dl, _, rfl, .of hdl, fun l nl => ⟨_, _, _, .str z, rfl, rfl, SqL.of upd_same, atI_zero (.str z) _, ?_⟩⟩
    have s1 : Same H (upd H l (.lst ((LK ((z, t0) :: rest)).map fun kv => kV kv.1))) := sameAt (Same.refl _) nl
    generalize (upd H l (.lst ((LK ((z, t0) :: rest)).map fun kv => kV kv.1))) = H1 at s1 ⊢
    refine ⟨_, rfl, (by decide), (by decide), fun a1 ha1 => lc_range (n := (398 : Int).toNat) (fun i H2 => ∃ us, H2 a1 = some (.lst us) ∧ Ents H2 us ((rws z 1 0 0 398).take i) ∧ Same H1 H2) ⟨[], upd_same, ⟨rfl, fun i v x a b => by simp at a⟩, sameAt (Same.refl H1) ha1⟩ ?_ ?_⟩
    · rintro i H2 hi ⟨us, g1, gE, s2⟩
      have hi : i < 398 := hi
      have hx := rws_at z 1 398 i 0 0 hi
      have ll : us.length = i := by rw [gE.1, List.length_take, rws_len]; omega
      refine ⟨rfl, _, rfl, _, rfl, _, rfl, _, rfl, (by show 7 ≤ sizeLine; decide), fun e he => ?_⟩
      have se : Same H2 (upd H2 e (.tup [.str "row", .int (0 + i), .str z, .str "a", .int (0 + i), .int 0, .int (0 + i)])) := sameAt (Same.refl _) he
      have h2 : (upd H2 e (.tup [.str "row", .int (0 + i), .str z, .str "a", .int (0 + i), .int 0, .int (0 + i)])) e = some (.tup (Ent.row (0 + i) z "a" (0 + 1 * i) 0 (0 + 1 * i)).vs) := by
        rw [upd_same, Int.one_mul]
        rfl
      generalize (upd H2 e (.tup [.str "row", .int (0 + i), .str z, .str "a", .int (0 + i), .int 0, .int (0 + i)])) = H3 at se h2 ⊢
      have g3 := se _ _ g1
      refine ⟨us, g3, small1000 (by omega), us ++ [.ref e], upd_same, ?_, sameAt (s2.trans se) ha1⟩
      rw [list_take' hx]
      refine ((gE.same se).setL g3).snoc (show upd H3 a1 _ e = _ from ?_) ⟨by show (0 : Int) ≤ 0 + i; omega, fun _ _ _ _ _ _ e => by cases e; exact ⟨nz, nA⟩⟩
      rw [upd_ne (fun z => by rw [z, g3] at h2; cases h2)]
      exact h2
    rintro H2 ⟨us, hq1, hE, s2⟩
    rw [show (rws z 1 0 0 398).take (398 : Int).toNat = rws z 1 0 0 398 from List.take_of_length_le (by rw [rws_len]; decide)] at hE
    have gd := rws_good hz ht
    have g0 : Good ((z, t0) :: rest) (rws z 1 0 0 398) := by
      have := gd 0
      rw [show rws z 0 500 400 0 = [] from rfl, List.append_nil] at this
      exact this
    obtain ⟨S0, hw9⟩ := g0.eq
    have s12 := s1.trans s2
    have hB2 := hB.same s12
    have l398 : (rws z 1 0 0 398).length = 398 := rws_len z 1 398 0 0
    refine ⟨_, rfl, _, rfl, _, rfl, fun j dx' nx ndx nex => mkJN hB2 hq1 hE (by omega) hw9 nx ndx nex fun HJ sJ hJ => ?_⟩
    intro o dxo no ndo neo
    have sO : Same HJ (upd (upd HJ dxo (.own o)) o (.ins c.CO dxo [])) := (sameAt (Same.refl _) ndo).trans (sameAt (Same.refl _) (by rw [upd_ne (Ne.symm neo)]; exact no))
    have hoI : (upd (upd HJ dxo (.own o)) o (.ins c.CO dxo [])) o = some (.ins c.CO dxo []) := upd_same
    have cO : Same HJ (cutH (fun x => x = o) (upd (upd HJ dxo (.own o)) o (.ins c.CO dxo []))) := fun q u h => cut_at (fun z => by rw [z, no] at h; cases h) (sO _ _ h)
    refine ⟨fun x => x = o, o, dxo, b, j, b, _, us, rws z 1 0 0 398, rfl, hoI, rfl, fun x hx => ⟨.ins c.CO dxo [], by rw [show x = o from hx]; exact hoI, rfl⟩, (hB2.same sJ).same cO, hJ.same cO, by rw [hE.1]; omega, fun oa A' HO eo ej eb ebj kO gO MO => ⟨rfl, ?_⟩⟩
    have R0 : RI c HJ (uni (fun x => x = o) A') A' HO oa (newOS ((z, t0) :: rest) (rws z 1 0 0 398) us) := ⟨MO, (fun q u h => kO _ _ (sO _ _ h) fun z => by rw [z, no] at h; cases h), fun q z => (gO q z).elim (fun z => by rw [z]; exact no) fun h => no_of sO h⟩
    clear hoI cO MO kO gO sO
    generalize (uni (fun x => x = o) A') = B0 at R0
    subst eo
    have hcb : ∀ b ∈ (newOS ((z, t0) :: rest) (rws z 1 0 0 398) us).cb, b ≤ (newOS ((z, t0) :: rest) (rws z 1 0 0 398) us).cl := fun b hb => by
      rw [(List.mem_replicate.mp (show b ∈ List.replicate (rws z 1 0 0 398).length (0 : Int) from hb)).2]
      exact Int.le_refl _
    refine ⟨_, rfl, oa.o, oa.dx, _, rfl, R0.M.o, rfl, _, _, oa, newOS ((z, t0) :: rest) (rws z 1 0 0 398) us, .str "full", rfl, R0.M, str_ok (by decide), (by show (0 : Nat) < 900; decide), fun z1 t l A2 H3 ez hn en fr iff M1 => ?_, fun d x2 H3 ed => ?_, fun x2 H3 hn => by cases hn⟩
    rotate_left
    · have ed : (newOS ((z, t0) :: rest) (rws z 1 0 0 398) us).find "full" = some d := ed
      cases ed
    cases ez
    have R1 : RI c HJ _ _ H3 oa (mkW (newOS ((z, t0) :: rest) (rws z 1 0 0 398) us) "full" t l (W3 z 0)) := R0.office fr M1
    clear R0 fr M1
    refine ⟨_, rfl, (by decide), (by decide), for_range (n := (3 : Int).toNat) (fun i σ H4 => ∃ (B3 A3 : Addr → Prop), (∃ x3, σ = [some (.ref dl), some (.ref b), some (.str z), x3, some (.ref a1), some (.ref oa.o)]) ∧ RI c HJ B3 A3 H4 oa (mkW (newOS ((z, t0) :: rest) (rws z 1 0 0 398) us) "full" t l (W3 z i))) ⟨_, _, ⟨_, rfl⟩, R1⟩ ?_ ?_⟩
    · rintro i σ H4 hi ⟨B3, A3, ⟨x3, rfl⟩, R3⟩
      have hi : i < 3 := hi
      have okr : (Ent.row (500 + (0 + (i : Int))) z "a" 400 0 0).ok := ⟨by show (0 : Int) ≤ 500 + (0 + i); omega, fun _ _ _ _ _ _ e => by cases e; exact ⟨nz, nA⟩⟩
      refine ⟨_, rfl, oa.o, oa.dx, _, rfl, R3.M.o, rfl, _, rfl, _, _, rfl, rfl, _, rfl, B3, A3, oa, _, .str "full", 500 + (0 + (i : Int)), z, "a", 400, 0, rfl, R3.M, str_ok (by decide), okr, fun d H5 ed h20 hin fr M5 => ?_, fun d e' H5 ed hb => ?_, fun e' H5 en => ?_⟩
      · have ed : (mkW (newOS ((z, t0) :: rest) (rws z 1 0 0 398) us) "full" t l (W3 z i)).find "full" = some d := ed
        rw [mkW_find] at ed
        cases ed
        rw [mkW_put, Int.zero_add, ← W3_snoc z (by omega)] at M5
        exact ⟨_, _, ⟨_, rfl⟩, R3.office fr M5⟩
      · have ed : (mkW (newOS ((z, t0) :: rest) (rws z 1 0 0 398) us) "full" t l (W3 z i)).find "full" = some d := ed
        rw [mkW_find] at ed
        cases ed
        rcases hb with hb | hb
        · have hb : (W3 z i).length = 20 := hb
          rw [W3_len z (by omega)] at hb
          omega
        · exact absurd (fun id s k m a r e => by cases e; rw [show (mkW (newOS ((z, t0) :: rest) (rws z 1 0 0 398) us) "full" t l (W3 z i)).L = (z, t0) :: rest from rfl, hz]; rfl) hb
      · have en : (mkW (newOS ((z, t0) :: rest) (rws z 1 0 0 398) us) "full" t l (W3 z i)).find "full" = none := en
        rw [mkW_find] at en
        cases en
    rintro σ H4 ⟨B3, A3, ⟨x3, rfl⟩, R3⟩
    rw [show ((3 : Int).toNat) = 3 from rfl] at R3
    have fnd : ∀ {d : Dr}, wfind (mkW (newOS ((z, t0) :: rest) (rws z 1 0 0 398) us) "full" t l (W3 z 3)) (.str "full") = some d → (⟨"full", t, l, (newOS ((z, t0) :: rest) (rws z 1 0 0 398) us).cl, W3 z 3⟩ : Dr) = d := fun {d} ed => by
      have ed : (mkW (newOS ((z, t0) :: rest) (rws z 1 0 0 398) us) "full" t l (W3 z 3)).find "full" = some d := ed
      rw [mkW_find] at ed
      exact Option.some.inj ed
    have nost : stale (mkW (newOS ((z, t0) :: rest) (rws z 1 0 0 398) us) "full" t l (W3 z 3)) ⟨"full", t, l, (newOS ((z, t0) :: rest) (rws z 1 0 0 398) us).cl, W3 z 3⟩ = none := no_stale hcb
    refine ⟨_, rfl, two, fun g ng => ?_⟩
    have R4 := R3.same (sameAt (o := .tup [.str "full", .int 400]) (Same.refl H4) ng)
    have hg4 : (upd H4 g (.tup [.str "full", .int 400])) g = some (.tup [.str "full", .int 400]) := upd_same
    generalize (upd H4 g (.tup [.str "full", .int 400])) = H5 at R4 hg4 ⊢
    refine ⟨oa, _, 6, g, [.str "full", .int 400], rfl, R4.M.o, hg4, .inr (.inr (.inr (.inr (.inr (.inr (.inl ⟨rfl, .str "full", .int 400, rfl, B3, A3, oa, _, .str "full", .int 400, rfl, R4.M, str_ok (by decide), .inl ⟨_, rfl⟩, Nat.zero_le _, fun x2 H6 en => ?_, fun d x2 H6 ed ni => absurd (int_is ni) id, fun d n m x2 H6 ed er hs => ?_, fun d n k x2 H6 ed er hs hj s6 hx => ?_, fun d n us' j' H6 ed er hs hg6 hl6 fr6 M6 => ?_⟩))))))⟩
    · have en : (mkW (newOS ((z, t0) :: rest) (rws z 1 0 0 398) us) "full" t l (W3 z 3)).find "full" = none := en
      rw [mkW_find] at en
      cases en
    · have e1 := fnd ed
      subst e1
      rw [nost] at hs; cases hs
    rotate_left
    · have e1 := fnd ed
      subst e1
      have hl6 : (rws z 1 0 0 398).length + (W3 z 3).length ≤ 400 := hl6
      rw [l398, W3_len z (Nat.le_refl 3)] at hl6
      omega
    have e1 := fnd ed
    subst e1
    cases er
    have hj : JBad ((z, t0) :: rest) (rws z 1 0 0 398) ((W3 z 3).map (·.at_ 400)) k := hj
    rw [W3_at z (Nat.le_refl 3)] at hj
    have k2 : k = 2 := by
      obtain ⟨j1, j2, j3, j4⟩ := hj
      have j1 : k < 3 := j1
      rcases j4 with j4 | j4
      · omega
      · by_cases h : k = 2
        · exact h
        · refine absurd ?_ j4
          have h3 := good_pre (gd 3) (k + 1)
          exact h3
    subst k2
    refine .inl ⟨e.CE, "entry", "at", x2, .int ((2 : Nat) : Int), List.mem_cons_of_mem _ (List.mem_cons_of_mem _ (List.mem_cons_of_mem _ List.mem_cons_self)), rfl, rfl, hx, fun t8 n8 => ?_⟩
    have R7 := R4.same (s6.trans (sameAt (o := .tup [.str "entry", .int ((2 : Nat) : Int)]) (Same.refl H6) n8))
    have ht7 : (upd H6 t8 (.tup [.str "entry", .int ((2 : Nat) : Int)])) t8 = some (.tup [.str "entry", .int ((2 : Nat) : Int)]) := upd_same
    generalize (upd H6 t8 (.tup [.str "entry", .int ((2 : Nat) : Int)])) = H7 at R7 ht7 ⊢
    refine ⟨two, fun t9 n9 => ?_⟩
    have R8 := R7.same (sameAt (o := .tup [.str "entry", .int 2]) (Same.refl H7) n9)
    have ht8 := (sameAt (o := .tup [.str "entry", .int 2]) (Same.refl H7) n9) _ _ ht7
    refine Tl.ne (.int _ _ ht8 ok_entry') (.int _ _ upd_same ok_entry') ⟨_, rfl, iteF ?_⟩
    generalize (upd H7 t9 (.tup [.str "entry", .int 2])) = H8 at R8 ht8 ⊢
    clear R7 R4 R3 ht7 ht8 hg4
    have J8 := R8.M.jr.same (cut_same _ _)
    obtain ⟨jd, jt, jk, j1, jrest⟩ := id J8
    refine ⟨_, rfl, oa.o, c.CO, oa.dx, _, _, rfl, R8.M.o, T.cl, T.nJ, rfl, oa.j, jd, _, rfl, j1, oa.j, _, _, _, _, rfl, J8, ?_⟩
    refine ⟨us.length, rfl, (by rw [hE.1, l398]; decide), ?_⟩
    rw [show us.length = 398 by rw [hE.1]; exact l398]
    refine ⟨rfl, _, rfl, iteF ?_⟩
    refine ⟨_, rfl, oa.o, oa.dx, _, rfl, R8.M.o, rfl, _, _, oa, _, .str "full", rfl, R8.M, str_ok (by decide), fun d H9 ed fr M9 => ?_, fun e H9 en => ?_⟩
    rotate_left
    · have en : (mkW (newOS ((z, t0) :: rest) (rws z 1 0 0 398) us) "full" t l (W3 z 3)).find "full" = none := en
      rw [mkW_find] at en
      cases en
    have e1 := fnd ed
    subst e1
    have R9 : RI c HJ _ _ H9 oa (newOS ((z, t0) :: rest) (rws z 1 0 0 398) us) := R8.office fr (by rw [mkW_drop] at M9; exact M9)
    clear R8 fr M9 J8 j1 jrest fnd nost ed
    refine ⟨_, rfl, oa.o, oa.dx, _, rfl, R9.M.o, rfl, _, _, oa, newOS ((z, t0) :: rest) (rws z 1 0 0 398) us, .str "full", rfl, R9.M, str_ok (by decide), (by show (0 : Nat) < 900; decide), fun z1 t2 l2 A2 H3 ez hn en fr iff M1 => ?_, fun d x2 H3 ed => ?_, fun x2 H3 hn => by cases hn⟩
    rotate_left
    · have ed : (newOS ((z, t0) :: rest) (rws z 1 0 0 398) us).find "full" = some d := ed
      cases ed
    cases ez
    have R1 : RI c HJ _ _ H3 oa (mkW (newOS ((z, t0) :: rest) (rws z 1 0 0 398) us) "full" t2 l2 (W3 z 0)) := R9.office fr M1
    clear R9 fr M1
    refine ⟨_, rfl, (by decide), (by decide), for_range (n := (2 : Int).toNat) (fun i σ H4 => ∃ (B3 A3 : Addr → Prop), (∃ x3, σ = [some (.ref dl), some (.ref b), some (.str z), x3, some (.ref a1), some (.ref oa.o)]) ∧ RI c HJ B3 A3 H4 oa (mkW (newOS ((z, t0) :: rest) (rws z 1 0 0 398) us) "full" t2 l2 (W3 z i))) ⟨_, _, ⟨_, rfl⟩, R1⟩ ?_ ?_⟩
    · rintro i σ H4 hi ⟨B3, A3, ⟨x3, rfl⟩, R3⟩
      have hi : i < 2 := hi
      have okr : (Ent.row (500 + (0 + (i : Int))) z "a" 400 0 0).ok := ⟨by show (0 : Int) ≤ 500 + (0 + i); omega, fun _ _ _ _ _ _ e => by cases e; exact ⟨nz, nA⟩⟩
      refine ⟨_, rfl, oa.o, oa.dx, _, rfl, R3.M.o, rfl, _, rfl, _, _, rfl, rfl, _, rfl, B3, A3, oa, _, .str "full", 500 + (0 + (i : Int)), z, "a", 400, 0, rfl, R3.M, str_ok (by decide), okr, fun d H5 ed h20 hin fr M5 => ?_, fun d e' H5 ed hb => ?_, fun e' H5 en => ?_⟩
      · have ed : (mkW (newOS ((z, t0) :: rest) (rws z 1 0 0 398) us) "full" t2 l2 (W3 z i)).find "full" = some d := ed
        rw [mkW_find] at ed
        cases ed
        rw [mkW_put, Int.zero_add, ← W3_snoc z (by omega)] at M5
        exact ⟨_, _, ⟨_, rfl⟩, R3.office fr M5⟩
      · have ed : (mkW (newOS ((z, t0) :: rest) (rws z 1 0 0 398) us) "full" t2 l2 (W3 z i)).find "full" = some d := ed
        rw [mkW_find] at ed
        cases ed
        rcases hb with hb | hb
        · have hb : (W3 z i).length = 20 := hb
          rw [W3_len z (by omega)] at hb
          omega
        · exact absurd (fun id s k m a r e => by cases e; rw [show (mkW (newOS ((z, t0) :: rest) (rws z 1 0 0 398) us) "full" t2 l2 (W3 z i)).L = (z, t0) :: rest from rfl, hz]; rfl) hb
      · have en : (mkW (newOS ((z, t0) :: rest) (rws z 1 0 0 398) us) "full" t2 l2 (W3 z i)).find "full" = none := en
        rw [mkW_find] at en
        cases en
    rintro σ H4 ⟨B3, A3, ⟨x3, rfl⟩, R3⟩
    rw [show ((2 : Int).toNat) = 2 from rfl] at R3
    have fnd : ∀ {d : Dr}, wfind (mkW (newOS ((z, t0) :: rest) (rws z 1 0 0 398) us) "full" t2 l2 (W3 z 2)) (.str "full") = some d → (⟨"full", t2, l2, (newOS ((z, t0) :: rest) (rws z 1 0 0 398) us).cl, W3 z 2⟩ : Dr) = d := fun {d} ed => by
      have ed : (mkW (newOS ((z, t0) :: rest) (rws z 1 0 0 398) us) "full" t2 l2 (W3 z 2)).find "full" = some d := ed
      rw [mkW_find] at ed
      exact Option.some.inj ed
    have nost : stale (mkW (newOS ((z, t0) :: rest) (rws z 1 0 0 398) us) "full" t2 l2 (W3 z 2)) ⟨"full", t2, l2, (newOS ((z, t0) :: rest) (rws z 1 0 0 398) us).cl, W3 z 2⟩ = none := no_stale hcb
    refine ⟨_, rfl, two, fun g ng => ?_⟩
    have R4 := R3.same (sameAt (o := .tup [.str "full", .int 400]) (Same.refl H4) ng)
    have hg4 : (upd H4 g (.tup [.str "full", .int 400])) g = some (.tup [.str "full", .int 400]) := upd_same
    generalize (upd H4 g (.tup [.str "full", .int 400])) = H5 at R4 hg4 ⊢
    refine ⟨oa, _, 6, g, [.str "full", .int 400], rfl, R4.M.o, hg4, .inr (.inr (.inr (.inr (.inr (.inr (.inl ⟨rfl, .str "full", .int 400, rfl, B3, A3, oa, _, .str "full", .int 400, rfl, R4.M, str_ok (by decide), .inl ⟨_, rfl⟩, Nat.zero_le _, fun x2 H6 en => ?_, fun d x2 H6 ed ni => absurd (int_is ni) id, fun d n m x2 H6 ed er hs => ?_, fun d n k x2 H6 ed er hs hj s6 hx => ?_, fun d n us' j' H6 ed er hs hg6 hl6 fr6 M6 => ?_⟩))))))⟩
    · have en : (mkW (newOS ((z, t0) :: rest) (rws z 1 0 0 398) us) "full" t2 l2 (W3 z 2)).find "full" = none := en
      rw [mkW_find] at en
      cases en
    · have e1 := fnd ed
      subst e1
      rw [nost] at hs; cases hs
    · have e1 := fnd ed
      subst e1
      cases er
      have hj : JBad ((z, t0) :: rest) (rws z 1 0 0 398) ((W3 z 2).map (·.at_ 400)) k := hj
      rw [W3_at z (by decide)] at hj
      obtain ⟨j1, j2, j3, j4⟩ := hj
      have j1 : k < 2 := j1
      rcases j4 with j4 | j4
      · omega
      · exact absurd (good_pre (gd 2) (k + 1)) j4
    have e1 := fnd ed
    subst e1
    cases er
    have R6 := R4.office fr6 M6
    intro t8 n8
    have R7 := R6.same (sameAt (o := .tup [.str "told", .int ((W3 z 2).length : Int)]) (Same.refl H6) n8)
    have ht7 : (upd H6 t8 (.tup [.str "told", .int ((W3 z 2).length : Int)])) t8 = some (.tup [.str "told", .int ((W3 z 2).length : Int)]) := upd_same
    generalize (upd H6 t8 (.tup [.str "told", .int ((W3 z 2).length : Int)])) = H7 at R7 ht7 ⊢
    rw [W3_len z (by decide)] at ht7
    refine ⟨two, fun t9 n9 => ?_⟩
    have R8 := R7.same (sameAt (o := .tup [.str "told", .int 2]) (Same.refl H7) n9)
    have ht8 := (sameAt (o := .tup [.str "told", .int 2]) (Same.refl H7) n9) _ _ ht7
    refine Tl.eq (.int _ _ ht8 ok_told) (.int _ _ upd_same ok_told) ⟨_, rfl, iteT ?_⟩
    generalize (upd H7 t9 (.tup [.str "told", .int 2])) = H8 at R8 ht8 ⊢
    clear R7 R6 R4 R3 ht7 ht8 hg4
    have J8 := R8.M.jr.same (cut_same _ _)
    have l8 := J8.ents.1
    have l9 : ((newOS ((z, t0) :: rest) (rws z 1 0 0 398) us).xs ++ (W3 z 2).map (·.at_ 400)).length = 400 := by
      rw [List.length_append, List.length_map, W3_len z (by decide)]
      show (rws z 1 0 0 398).length + 2 = 400
      rw [l398]
    have l8 := l8.trans l9
    obtain ⟨jd, jt, jk, j1, jrest⟩ := id J8
    refine ⟨_, rfl, oa.o, c.CO, oa.dx, _, _, rfl, R8.M.o, T.cl, T.nJ, rfl, j', jd, _, rfl, j1, j', _, _, _, _, rfl, J8, _, rfl, (by rw [l8]; decide), ?_⟩
    rw [l8]
    exact ⟨rfl, q _⟩
end
end Ash

set_option Elab.async false
set_option linter.all false
set_option maxRecDepth 100000
set_option maxHeartbeats 4000000
set_option pp.maxSteps 60
namespace Ash
open PySem PySem.Spec PyProof.Rows L2
open C8 (pss_cut)
/-! ### the law -/
theorem up {B : Addr → Prop} {H : Hp} {p : Addr} {u : HO} (h : cutH B H p = some u) : H p = some u := cut_same _ _ _ _ h
theorem Ents.cutW {B : Addr → Prop} {H : Hp} {us : List V} {xs : List Ent} (h : Ents H us xs) (k : ∀ q ys, H q = some (.tup ys) → ¬ B q) : Ents (cutH B H) us xs := ⟨h.1, fun i v x a b => by
  obtain ⟨e, h1, h2, h3⟩ := h.2 i v x a b
  exact ⟨e, h1, cut_at (k _ _ h2) h2, h3⟩⟩
theorem NotInt.same {K : PySem.W.Frag} {H H' : Hp} {v : V} (h : NotInt K H v) (s : Same H H') : NotInt K H' v := by
  obtain ⟨t, bi, bb, ty, k⟩ := h
  exact ⟨t, bi, bb, tyx_same ty s, k⟩
theorem odd_at {K : PySem.W.Frag} {H : Hp} {e0 e1 e2 : Addr} {d : Int} (h0 : H e0 = some (.tup [])) (h1 : H e1 = some (.lst [.int 1])) (h2 : H e2 = some (.dK [])) (d0 : 0 ≤ d) (d1 : d < 7) : ∃ v, atI [V.non, .bl true, .str "", .ref e0, .ref e1, .ref e2, .str "0"] d = some v ∧ NotInt K H v ∧ SameV v v := by
  obtain ⟨n, rfl⟩ := Int.eq_ofNat_of_zero_le d0
  have hn : n < [V.non, .bl true, .str "", .ref e0, .ref e1, .ref e2, .str "0"].length := by show n < 7; omega
  rw [atI_natC hn]
  have hn : n < 7 := hn
  match n, hn with
  | 0, _ => exact ⟨_, rfl, ⟨.type "NoneType", false, false, .base .non, kit_ty (by decide +kernel), kit_ty (by decide +kernel), rfl⟩, .inl ⟨rfl, rfl, by simp [eqV]⟩⟩
  | 1, _ => exact ⟨_, rfl, ⟨.type "bool", true, true, .base (.bl _), kit_ty (by decide +kernel), kit_ty (by decide +kernel), rfl⟩, .inl ⟨rfl, rfl, by simp [eqV]⟩⟩
  | 2, _ => exact ⟨_, rfl, ⟨.type "str", false, false, .base (.str _), kit_ty (by decide +kernel), kit_ty (by decide +kernel), rfl⟩, .inl ⟨rfl, rfl, by simp [eqV]⟩⟩
  | 3, _ => exact ⟨_, rfl, ⟨.type "tuple", false, false, .base (.tup h0), kit_ty (by decide +kernel), kit_ty (by decide +kernel), rfl⟩, .inr ⟨rfl, _, rfl⟩⟩
  | 4, _ => exact ⟨_, rfl, ⟨.type "list", false, false, .base (.lst h1), kit_ty (by decide +kernel), kit_ty (by decide +kernel), rfl⟩, .inr ⟨rfl, _, rfl⟩⟩
  | 5, _ => exact ⟨_, rfl, ⟨.type "dict", false, false, .base (.dK h2), kit_ty (by decide +kernel), kit_ty (by decide +kernel), rfl⟩, .inr ⟨rfl, _, rfl⟩⟩
  | 6, _ => exact ⟨_, rfl, ⟨.type "str", false, false, .base (.str _), kit_ty (by decide +kernel), kit_ty (by decide +kernel), rfl⟩, .inl ⟨rfl, rfl, by simp [eqV]⟩⟩
theorem seqsV {K : PySem.W.Frag} {H : Hp} {a b : Addr} {x y : V} (ha : H a = some (.tup [x, y])) (hb : H b = some (.tup [x, y])) (fx : SameV x x) (fy : SameV y y) : SeqS K H (.ref a) (.ref b) :=
  ⟨a, b, [x, y], [x, y], rfl, rfl, SqT.of ha, SqT.of hb, rfl, fun i u v hu hv => by
    rw [hu] at hv
    cases hv
    match i, hu with
    | 0, hu => cases hu; exact fx
    | 1, hu => cases hu; exact fy⟩
theorem mkW_no (S : OS) {z y : Str} (n : z ≠ y) (t l : Addr) (es : List Ent) : (mkW S z t l es).find y = none := by
  unfold mkW OS.find
  simp [n]
theorem listN_shaped {xs : List Ent} (h : ∀ x ∈ xs, x.ok) : SeqAt.shaped (.list (xs.map Ent.dataN)) = true := by
  obtain ⟨h1, h2⟩ := entsN_lay h
  unfold SeqAt.shaped
  simp [PyData.canLay0, PyData.depth, h1]
  omega
theorem neD_N {K : PySem.W.Frag} {H : Hp} {l d : Addr} {us1 us2 : List V} {es : List Ent} {Q : VK} (hl : H l = some (.lst us1)) (E1 : WithN H us1 es .non) (hd : H d = some (.lst us2)) (E2 : WithN H us2 es .non) (q : Q (.bl false) H) : rNeD K (.ref l) (.ref d) H Q := by
  refine ⟨.list (es.map Ent.dataN), .list (es.map Ent.dataN), .lst (SqL.of hl) E1.dp, .lst (SqL.of hd) E2.dp, listN_shaped E1.ok, listN_shaped E1.ok, ?_⟩
  rw [SeqAt.eqv_refl _ (SeqAt.canLay_of_shaped (listN_shaped E1.ok))]
  exact q
structure Sit (c : Cls6) (B : Addr → Prop) (H : Hp) (dl dk q1 b : Addr) (L : List (Str × Int)) (ks : List Str) (us : List V) (xs : List Ent) : Prop where
  dl : cutH B H dl = some (.dK (LK L))
  dk : cutH B H dk = some (.lst (ks.map V.str))
  q1 : cutH B H q1 = some (.lst us)
  E : Ents (cutH B H) us xs
  bk : BookAt c.CB (cutH B H) b L
theorem Sit.go {c : Cls6} {B B' : Addr → Prop} {H H' : Hp} {dl dk q1 b : Addr} {L : List (Str × Int)} {ks : List Str} {us : List V} {xs : List Ent} (h : Sit c B H dl dk q1 b L ks us xs) (s : Same (cutH B H) (cutH B' H')) : Sit c B' H' dl dk q1 b L ks us xs :=
  ⟨s _ _ h.dl, s _ _ h.dk, s _ _ h.q1, h.E.same s, h.bk.same s⟩
/-- the law's own list of the draft -/
structure Own1 (L : List (Str × Int)) (B A : Addr → Prop) (H : Hp) (p s0 q0 : Addr) (ud : List V) (es : List Ent) : Prop where
  h : H q0 = some (.lst ud)
  D : DEnts (cutH B H) ud es
  ok : ∀ x ∈ es, DOk L x
  b : B q0
  a : ¬ A q0
  p : q0 ≠ p
  s : q0 ≠ s0
theorem Own1.lst {L : List (Str × Int)} {B A B' A' : Addr → Prop} {H H' : Hp} {p s0 q0 : Addr} {ud : List V} {es : List Ent} (h : Own1 L B A H p s0 q0 ud es) (k : Lst p B A H B' A' H') : Own1 L B' A' H' p s0 q0 ud es :=
  ⟨k.k _ _ h.h h.a h.p, h.D.same k.cut, h.ok, k.sub _ h.b, fun z => (k.gA _ z).elim h.a fun e => (by rw [h.h] at e; cases e), h.p, h.s⟩
structure LI (c : Cls6) (p s0 dl dk q1 b o q0 : Addr) (L : List (Str × Int)) (ks : List Str) (us : List V) (xs : List Ent) (B A : Addr → Prop) (H : Hp) (a : OA) (S : OS) (ud : List V) (es : List Ent) : Prop where
  W : LW c B A H a S p s0
  t : Sit c B H dl dk q1 b L ks us xs
  d : Own1 L B A H p s0 q0 ud es
  ao : a.o = o
section
variable {c : Cls6} {p s0 dl dk q1 b o q0 : Addr} {L : List (Str × Int)} {ks : List Str} {us ud : List V} {xs es : List Ent} {B A : Addr → Prop} {H : Hp} {a : OA} {S : OS}
theorem LI.lst {B' A' : Addr → Prop} {H' : Hp} {a' : OA} {S' : OS} (I : LI c p s0 dl dk q1 b o q0 L ks us xs B A H a S ud es) (W : LW c B' A' H' a' S' p s0) (l : Lst p B A H B' A' H') (e : a'.o = a.o) : LI c p s0 dl dk q1 b o q0 L ks us xs B' A' H' a' S' ud es :=
  ⟨W, I.t.go l.cut, I.d.lst l, e.trans I.ao⟩
theorem LI.draw {H' : Hp} (I : LI c p s0 dl dk q1 b o q0 L ks us xs B A H a S ud es) (P : Pl H H' p s0) : LI c p s0 dl dk q1 b o q0 L ks us xs B A H' a S ud es := I.lst (I.W.draw P).1 (I.W.draw P).2 rfl
theorem LI.same {H' : Hp} (I : LI c p s0 dl dk q1 b o q0 L ks us xs B A H a S ud es) (e : Same H H') : LI c p s0 dl dk q1 b o q0 L ks us xs B A H' a S ud es := I.lst (I.W.same e).1 (I.W.same e).2 rfl
theorem LI.office {A' : Addr → Prop} {H' : Hp} {a' : OA} {S' : OS} (I : LI c p s0 dl dk q1 b o q0 L ks us xs B A H a S ud es) (f : Fr A H A' H') (M : OfM c (uni B A') A' H' a' S') (e : a'.o = a.o) : LI c p s0 dl dk q1 b o q0 L ks us xs (uni B A') A' H' a' S' ud es := I.lst (I.W.office f M).1 (I.W.office f M).2 e
theorem LI.add (I : LI c p s0 dl dk q1 b o q0 L ks us xs B A H a S ud es) {en : Addr} {y : Ent} (hd : H en = some (.tup y.vs.dropLast)) (ok : DOk L y) : LI c p s0 dl dk q1 b o q0 L ks us xs B A (upd H q0 (.lst (ud ++ [.ref en]))) a S (ud ++ [.ref en]) (es ++ [y.at_ 0]) := by
  obtain ⟨W2, c2⟩ := I.W.set (q := q0) (o := .lst (ud ++ [.ref en])) I.d.b I.d.a I.d.p I.d.s trivial
  refine ⟨W2, I.t.go c2, ⟨upd_same, (I.d.D.same c2).snoc ?_ (ok.at0 0).1, fun w hw => ?_, I.d.b, I.d.a, I.d.p, I.d.s⟩, I.ao⟩
  · exact DAt.at0 (show DAt _ en y from c2 _ _ (I.W.tup hd))
  · rcases List.mem_append.mp hw with hw | hw
    · exact I.d.ok w hw
    · rw [List.mem_singleton.mp hw]; exact ok.at0 0
end
section
variable {P : Program} {w : World} {mg : Str → Option Value} {base : Heap} {c : Cls6} {e : Errs}
structure GL (P : Program) (w : World) (mg : Str → Option Value) (base : Heap) (c : Cls6) (e : Errs) : Prop extends G3 P w c.K mg base where
  law_pool : Cal P w c.K mg base CX0 "_law_pool" 1 ["_law_script"] (spPool c.K)
  law_entries : Cal P w c.K mg base CX0 "_law_entries" 4 ["_law_pool_here", "_law_lates_here", "_law_keys", "_law_states_here", "_law_number", "_law_arrival", "_law_many"] spEntries
  law_drafted : Cal P w c.K mg base CX0 "_law_drafted" 4 ["_law_pool_here", "_law_lates_here", "_law_keys", "_law_entries_here", "_law_number", "_law_now"] spDrafted
  law_put_in : Cal P w c.K mg base CX0 "_law_put_in" 14 ["_law_office", "_law_writer", "_law_entry_here"] (spPutIn c e)
  law_done : Cal P w c.K mg base CX0 "_law_done" 13 ["_law_which", "_law_office", "_law_given"] (spDone c e)
  law_due : Cal P w c.K mg base CX0 "_law_due" 3 ["_law_lates_here", "_law_entries_here", "_law_drafted_here", "_law_arrival"] spDue
  law_full : Cal P w c.K mg base CX0 "_law_full" 15 ["_law_lates_here", "_law_book"] (spFull c)
  begin_ : Met P w c.K mg base (L2.CX P w) c.CO "begin" 3 ["self", "writer"] (spBeginO c e.CN e.CY)
  tell : Met P w c.K mg base (L2.CX P w) c.CO "draft" 3 ["self", "writer"] (spTellO c e.CI)
  writers : Met P w c.K mg base CX0 c.CO "writers" 1 ["self"] (spWritersO c)
  Book : Mak P w c.K mg base CX0 "Book" c.CB 4 ["self", "lates"] (spBookInit c.CB)
  Journal : Mak P w c.K mg base (L2.CX P w) "Journal" c.CJ 7 ["self", "book", "entries"] (spJInit c.K c.aT c.CJ c.CB e.CE)
  Office : Mak P w c.K mg base (L2.CX P w) "Office" c.CO 4 ["self", "book", "journal"] (spOfInit c)
  T : Co c.K mg c.CO
  TJ : Cj P c.K mg c.CJ c.CB
abbrev s_law : Stmt := topS 60
theorem sc_law : FnScope ["_law_script", "_law_pool_here", "_law_lates_here", "_law_keys", "_law_book", "_law_entries_here", "_law_office", "_law_now", "_law_drafted_here", "_law_k", "_law_entry_here", "_law_virtual", "_law_odd", "_law_arrival", "_law_due_here"] ["_law_script"] (defScope s_law) := ⟨rfl, rfl, rfl, by decide +kernel, rfl, by decide +kernel, by decide +kernel⟩
theorem ok_law {f : Addr} {fd : FuncData} (F : Fun c.K "law" "law" s_law f fd) (B : Blt mg) (G : GL P w mg base c e) : FnOk P w c.K mg base CX0 17 f fd ["_law_script"] (spLawN c.K) := by
  have T := G.T
  have TJ := G.TJ
  refine F.ok sc_law (fun vs H Q E h => ?_) (fun cdv A0 outer s H vs Q E hr h => ?_)
  · obtain ⟨a, ns, rfl, _⟩ := h
    rfl
  · obtain ⟨a, ns, rfl, hS, hns, q⟩ := h
    have hu := hu_of hr
    have hu0 : (A0.deeper (envOfC "law" (defScope s_law) s.heap.objs.size f cdv)).units < cLine := by omega
    refine ⟨_, (pss_cons (ps_set (i := 1) sc_law.nd rfl (Or.inl rfl) (pe_cal G.law_pool (hr.mono (by decide)) pass0 (pa_cons (pv 0) pa_nil)))
    (pss_cons (ps_set (i := 2) sc_law.nd rfl (Or.inl rfl) (pe_cal G.law_lates (hr.mono (by decide)) pass0 (pa_cons (pv 1) pa_nil)))
    (pss_cons (ps_set (i := 3) sc_law.nd rfl (Or.inl rfl) (pe_cal G.law_names (hr.mono (by decide)) pass0 (pa_cons (pv 1) (pa_cons (pe_op op_add pe_int (pe_cal G.law_draw (hr.mono (by decide)) pass0 (pa_cons (pv 1) (pa_cons pe_int pa_nil)))) pa_nil))))
    (pss_cons (ps_set (i := 4) sc_law.nd rfl (Or.inl rfl) (pe_mak G.Book (hr.mono (by decide)) pass0 (pa_cons (pv 2) pa_nil)))
    (pss_cons (ps_set (i := 5) sc_law.nd rfl (Or.inl rfl) (pe_cal G.law_entries (hr.mono (by decide)) pass0 (pa_cons (pv 1) (pa_cons (pv 2) (pa_cons (pv 3) (pa_cons pe_dnewK (pa_cons pe_int (pa_cons (pe_cal G.law_draw (hr.mono (by decide)) pass0 (pa_cons (pv 1) (pa_cons pe_int pa_nil))) (pa_cons (pe_cal G.law_draw (hr.mono (by decide)) pass0 (pa_cons (pv 1) (pa_cons pe_int pa_nil))) pa_nil)))))))))
    (pss_cons (ps_set (i := 6) sc_law.nd rfl (Or.inl rfl) (pe_mak G.Office (hr.mono (by decide)) (passE takes0) (pa_cons (pv 4) (pa_cons (pe_mak G.Journal (hr.mono (by decide)) (passE takes0) (pa_cons (pv 4) (pa_cons (pv 5) pa_nil))) pa_nil))))
    (pss_cons (ps_set (i := 7) sc_law.nd rfl (Or.inr rfl) (pe_cal G.law_draw (hr.mono (by decide)) pass0 (pa_cons (pv 1) (pa_cons pe_int pa_nil))))
    (pss_cut (ps_if (pt_cmpR op_gt (pe_callB call_len_seq (by rfl) B.len (by decide +kernel) (pa_cons (pv 5) pa_nil)) pe_int (nomark _))
      (pss_one (ps_set (i := 7) sc_law.nd rfl (Or.inr rfl) (pe_ix ix_tup (pe_ix ix_list (pv 5) (pe_op op_sub (pe_callB call_len_seq (by rfl) B.len (by decide +kernel) (pa_cons (pv 5) pa_nil)) pe_int) (fun _ _ => rfl)) (pe_op op_sub (pe_callB call_len_seq (by rfl) B.len (by decide +kernel) (pa_cons (pe_ix ix_list (pv 5) (pe_op op_sub (pe_callB call_len_seq (by rfl) B.len (by decide +kernel) (pa_cons (pv 5) pa_nil)) pe_int) (fun _ _ => rfl)) pa_nil)) pe_int) (fun _ _ => rfl))))
      pss_nil)
    (pss_cons (ps_expr (pe_met T.cl G.begin_ (hr.mono (by decide)) (passE takes0) (pv 6) (pa_cons pe_str pa_nil)))
    (pss_cons (ps_set (i := 8) sc_law.nd rfl (Or.inl rfl) (pe_lst pa_nil))
    (pss_cons (ps_for PassesOwn.never rfl (pi_range1 (by rfl) B.range (pa_cons (pe_ix ix_list (pe_lst (pa_cons (pe_cal G.law_draw (hr.mono (by decide)) pass0 (pa_cons (pv 1) (pa_cons pe_int pa_nil))) (pa_cons (pe_op op_add pe_int (pe_cal G.law_draw (hr.mono (by decide)) pass0 (pa_cons (pv 1) (pa_cons pe_int pa_nil)))) pa_nil))) (pe_callTy call_int1 (by rfl) B.int (by decide +kernel) (pa_cons (pe_cmpR op_eq (pe_cal G.law_draw (hr.mono (by decide)) pass0 (pa_cons (pv 1) (pa_cons pe_int pa_nil))) pe_int (nomark _)) pa_nil)) (fun _ _ => rfl)) pa_nil)) (pg_name (i := 9) sc_law.nd rfl (Or.inl rfl))
      (pss_cons (ps_set (i := 11) sc_law.nd rfl (Or.inl rfl) (pe_op op_cat (pv 5) (pe_lc (own := [("_law_entry_here", 10)]) (g := gName 10) (by rfl) sc_law.nd (pi_list (pv 8)) (blkOk_by (own := [("_law_entry_here", 10)]) (N := ["_law_script", "_law_pool_here", "_law_lates_here", "_law_keys", "_law_book", "_law_entries_here", "_law_office", "_law_now", "_law_drafted_here", "_law_k", "_law_entry_here", "_law_virtual", "_law_odd", "_law_arrival", "_law_due_here"]) (sc := defScope s_law) (by decide +kernel)) (fun _ _ _ _ _ => (pg_name (i := 10) sc_law.nd rfl (Or.inl rfl))) (fun _ _ _ _ _ => pts_one (PW.pt (pw_and (pt_cmpR op_eq (pe_ix (show IxR _ (rIxT c.K) from ix_tup) (pv 10) pe_int (fun _ _ => rfl)) pe_str (nomark _)) (pw_and1 (pt_cmpR op_ge (pe_ix (show IxR _ (rIxT c.K) from ix_tup) (pv 10) pe_int (fun _ _ => rfl)) pe_int (nomark _)))))) (fun _ _ _ _ _ => (pe_op (show OpR _ _ (rCatT c.K) from op_catT) (pv 10) (pe_tup (pa_cons (pv 7) pa_nil)))))))
      (pss_cons (ps_set (i := 10) sc_law.nd rfl (Or.inl rfl) (pe_cal G.law_drafted (hr.mono (by decide)) pass0 (pa_cons (pv 1) (pa_cons (pv 2) (pa_cons (pv 3) (pa_cons (pv 11) (pa_cons (pe_op op_add pe_int (pv 9)) (pa_cons (pv 7) pa_nil))))))))
      (pss_cons (ps_if (pt_cmpR (op_neD hr.units) (pe_cal G.law_put_in (hr.mono (by decide)) pass0 (pa_cons (pv 6) (pa_cons pe_str (pa_cons (pv 10) pa_nil)))) (pe_tup (pa_cons pe_str (pa_cons pe_non pa_nil))) (nomark _))
        (pss_one (ps_ret pe_bl))
        pss_nil)
      (pss_one (ps_expr (pe_bm PySem.F.plainAttrs_list PySem.F.slot_list_append PySem.F.type_list_append mt_append (pv 8) (pa_cons (pv 10) pa_nil))))))))
    (pss_cons (ps_set (i := 12) sc_law.nd rfl (Or.inl rfl) (pe_ix ix_list (pe_lst (pa_cons pe_non (pa_cons pe_bl (pa_cons pe_str (pa_cons (pe_tup pa_nil) (pa_cons (pe_lst (pa_cons pe_int pa_nil)) (pa_cons pe_dnewK (pa_cons pe_str pa_nil)))))))) (pe_cal G.law_draw (hr.mono (by decide)) pass0 (pa_cons (pv 1) (pa_cons pe_int pa_nil))) (fun _ _ => rfl)))
    (pss_cons (ps_if (PW.pt (pw_or (pt_cmpR (op_neS hu0) (pe_cal G.law_done (hr.mono (by decide)) pass0 (pa_cons pe_int (pa_cons (pv 6) (pa_cons (pe_tup (pa_cons pe_str (pa_cons (pv 12) pa_nil))) pa_nil)))) (pe_tup (pa_cons pe_str (pa_cons (pv 12) pa_nil))) (nomark _)) (pw_or1 (pt_cmpR (op_neD hr.units) (pe_cal G.law_done (hr.mono (by decide)) pass0 (pa_cons pe_int (pa_cons (pv 6) (pa_cons (pe_tup (pa_cons pe_str (pa_cons (pv 12) pa_nil))) pa_nil)))) (pe_tup (pa_cons pe_str (pa_cons pe_str pa_nil))) (nomark _)))))
      (pss_one (ps_ret pe_bl))
      pss_nil)
    (pss_cut (ps_for PassesOwn.never rfl (pi_list (pe_lst (pa_cons (pe_op op_add (pe_op op_sub (pv 7) pe_int) (pe_cal G.law_draw (hr.mono (by decide)) pass0 (pa_cons (pv 1) (pa_cons pe_int pa_nil)))) (pa_cons (pe_op op_add (pv 7) (pe_cal G.law_draw (hr.mono (by decide)) pass0 (pa_cons (pv 1) (pa_cons pe_int pa_nil)))) (pa_cons (pv 7) pa_nil))))) (pg_name (i := 13) sc_law.nd rfl (Or.inr rfl))
      (pss_cons (ps_set (i := 14) sc_law.nd rfl (Or.inl rfl) (pe_cal G.law_due (hr.mono (by decide)) pass0 (pa_cons (pv 2) (pa_cons (pv 5) (pa_cons (pv 8) (pa_cons (pv 13) pa_nil))))))
      (pss_cons (ps_if (pt_cmpR (op_neD hr.units) (pe_cal G.law_done (hr.mono (by decide)) pass0 (pa_cons pe_int (pa_cons (pv 6) (pa_cons (pe_tup (pa_cons pe_str (pa_cons (pv 13) pa_nil))) pa_nil)))) (pv 14) (nomark _))
        (pss_one (ps_ret pe_bl))
        pss_nil)
      (pss_cons (ps_if (pt_cmpR op_eq (pe_ix ix_tup (pv 14) pe_int (fun _ _ => rfl)) pe_str (nomark _))
        (pss_cons (ps_set (i := 5) sc_law.nd rfl (Or.inl rfl) (pe_op op_cat (pv 5) (pe_lc (own := [("_law_entry_here", 10)]) (g := gName 10) (tt := tYes) (by rfl) sc_law.nd (pi_list (pv 8)) (blkOk_by (own := [("_law_entry_here", 10)]) (N := ["_law_script", "_law_pool_here", "_law_lates_here", "_law_keys", "_law_book", "_law_entries_here", "_law_office", "_law_now", "_law_drafted_here", "_law_k", "_law_entry_here", "_law_virtual", "_law_odd", "_law_arrival", "_law_due_here"]) (sc := defScope s_law) (by decide +kernel)) (fun _ _ _ _ _ => (pg_name (i := 10) sc_law.nd rfl (Or.inl rfl))) (fun _ _ _ _ _ => pts_nil) (fun _ _ _ _ _ => (pe_op (show OpR _ _ (rCatT c.K) from op_catT) (pv 10) (pe_tup (pa_cons (pv 13) pa_nil)))))))
        (pss_cons (ps_if (PW.pt (pw_or (pt_cmpR (op_neD hr.units) (pe_callTy call_list_of (by rfl) B.list (by decide +kernel) (pa_cons (pe_fld (pe_fld (pv 6) rfl) rfl) pa_nil)) (pv 5) (nomark _)) (pw_or1 (pt_cmpR (op_neD hr.units) (pe_met0 T.cl G.writers (hr.mono (by decide)) pass0 (pv 6)) (pe_lst pa_nil) (nomark _)))))
          (pss_one (ps_ret pe_bl))
          pss_nil)
        (pss_cons (ps_if (pt_cmpR (op_neD hr.units) (pe_cal G.law_done (hr.mono (by decide)) pass0 (pa_cons pe_int (pa_cons (pv 6) (pa_cons (pe_tup (pa_cons pe_str (pa_cons (pv 13) pa_nil))) pa_nil)))) (pe_tup (pa_cons pe_str (pa_cons pe_str pa_nil))) (nomark _))
          (pss_one (ps_ret pe_bl))
          pss_nil)
        (pss_one ps_break))))
        pss_nil)
      (pss_one (ps_if (PW.pt (pw_or (pt_cmpR (op_neD hr.units) (pe_met T.cl G.tell (hr.mono (by decide)) (passE takes0) (pv 6) (pa_cons pe_str pa_nil)) (pe_lc (own := [("_law_entry_here", 10)]) (g := gName 10) (tt := tYes) (by rfl) sc_law.nd (pi_list (pv 8)) (blkOk_by (own := [("_law_entry_here", 10)]) (N := ["_law_script", "_law_pool_here", "_law_lates_here", "_law_keys", "_law_book", "_law_entries_here", "_law_office", "_law_now", "_law_drafted_here", "_law_k", "_law_entry_here", "_law_virtual", "_law_odd", "_law_arrival", "_law_due_here"]) (sc := defScope s_law) (by decide +kernel)) (fun _ _ _ _ _ => (pg_name (i := 10) sc_law.nd rfl (Or.inl rfl))) (fun _ _ _ _ _ => pts_nil) (fun _ _ _ _ _ => (pe_op (show OpR _ _ (rCatT c.K) from op_catT) (pv 10) (pe_tup (pa_cons pe_non pa_nil))))) (nomark _)) (pw_or1 (pt_cmpR (op_neD hr.units) (pe_callTy call_list_of (by rfl) B.list (by decide +kernel) (pa_cons (pe_fld (pe_fld (pv 6) rfl) rfl) pa_nil)) (pv 5) (nomark _)))))
        (pss_one (ps_ret pe_bl))
        pss_nil))))))
    (pss_one (ps_ret (pe_or (pe_cmpR op_gt (pe_cal G.law_draw (hr.mono (by decide)) pass0 (pa_cons (pv 1) (pa_cons pe_int pa_nil))) pe_int (nomark _)) (pe_one (pe_cal G.law_full (hr.mono (by decide)) pass0 (pa_cons (pv 2) (pa_cons (pv 4) pa_nil))))))))))))))))))))), ?_⟩
    have two : (2 : Nat) ≤ sizeLine := by decide
    have one : (1 : Nat) ≤ sizeLine := by decide
    refine ⟨_, rfl, a, ns, rfl, hS, fun p s0 H1 hp hP1 s1 => ?_⟩
    refine ⟨_, rfl, p, s0, rfl, hP1, fun dl L H2 hdl0 hdl LL P2 => ?_⟩
    refine ⟨_, rfl, _, rfl, p, s0, 2, rfl, P2.now, (by decide), (by decide), fun d H3 d0 d1 P3 => ⟨_, _, rfl, rfl, p, s0, _, rfl, P3.now, (by omega), (by omega), fun dk ks H4 hdk0 hdk hkl knd knm P4 => ?_⟩⟩
    have P24 : Pl H2 H4 p s0 := P3.trans P4
    have hdl4 := P24.dk P2.now hdl
    refine ⟨_, rfl, fun b dxb nb ndb neb => ⟨b, dxb, dl, L, rfl, upd_same, ?_, LL, fun H5 hB kB => ⟨rfl, ?_⟩⟩⟩
    · exact (mk_same nb ndb (fun c o h n => h)) _ _ hdl4
    have s45 : Same H4 H5 := mk_same nb ndb kB
    have P5 : PoolAt H5 p s0 := P4.now.same s45
    have hdl5 := s45 _ _ hdl4
    have hdk5 := s45 _ _ hdk
    have P15 : Pl H1 H5 p s0 := (P2.trans P24).same s45
    have dkp : dk ≠ p := fun z => P3.now.ne.1 (z ▸ hdk0)
    refine ⟨_, rfl, _, rfl, _, rfl, fun ds hds => ⟨_, rfl, p, s0, 20, rfl, ((Pl.refl P5).new hds).now, (by decide), (by decide), fun begin_ H8a n0 n1 P8a => ⟨_, rfl, p, s0, 9, rfl, P8a.now, (by decide), (by decide), fun many H8 m0 m1 P8b => ?_⟩⟩⟩
    have P8 := P8a.trans P8b
    have P58 : Pl H5 H8 p s0 := ((Pl.refl P5).new hds).trans P8
    have hds8 : H8 ds = some (.dK []) := P8.dk ((Pl.refl P5).new hds).now upd_same
    have st : ∀ n, StAt H8 ds (fun _ => none) n := fun n => ⟨[], hds8, Nat.zero_le _, (fun _ h => nomatch h), fun id => True.intro⟩
    have hdl8 := P58.dk P5 hdl5
    have hdk8 := P58.keep hdk5 dkp
    refine ⟨p, s0, dl, dk, ds, L, ks, fun _ => none, 0, 0, begin_, many, rfl, ⟨P58.now, hdl8, LL, hdk8, by omega, by omega, knm, st _, (fun _ _ _ _ _ e => by cases e), fun id h => absurd rfl h⟩, st _, by omega, by omega, by omega, by omega, (fun id h => absurd rfl h), (fun z => by rw [z, hdl5] at hds; cases hds), fun q1 us xs S1 H9 hq10 hq1 hE hlen hwk harr hst hkn5 hids PD => ?_⟩
    have P59 : Pl H5 H9 p s0 := ⟨PD.now, P5.ne.1, P5.ne.2, fun c o hc n => PD.but c o (P58.keep hc n) n (fun z => by rw [z, hds] at hc; cases hc)⟩
    have hdl9 := P59.dk P5 hdl5
    have hdk9 := P59.keep hdk5 dkp
    have hB9 := hB.pl P5 P59
    have hw9 := hwk none (fun _ z => nomatch z) 0
    have q1p : q1 ≠ p := fun z => P58.now.ne.1 (z ▸ hq10)
    have P19 : Pl H1 H9 p s0 := P15.trans P59
    have PQ9 := P59.now
    clear hwk harr hst hids st hds8 hkn5 PD P58 P59 P8 hq10 hdl8 hdk8 hdl5 hdk5 hB hds P15 P8a P8b hdl4 hdk P24 P4 P3 P2
    refine ⟨_, rfl, _, rfl, _, rfl, fun j dx' nx ndx nex => mkJN hB9 hq1 hE (by omega) hw9 nx ndx nex fun HJ sJ hJ => ?_⟩
    intro o dxo no ndo neo
    have sO : Same HJ (upd (upd HJ dxo (.own o)) o (.ins c.CO dxo [])) := (sameAt (Same.refl _) ndo).trans (sameAt (Same.refl _) (by rw [upd_ne (Ne.symm neo)]; exact no))
    have hoI : (upd (upd HJ dxo (.own o)) o (.ins c.CO dxo [])) o = some (.ins c.CO dxo []) := upd_same
    have PJ := PQ9.same sJ
    obtain ⟨xsp, hxp⟩ : ∃ xs, HJ p = some (.lst xs) := by
      obtain ⟨_, _, _, _, _, e, _⟩ := PJ
      exact ⟨_, e⟩
    have Lp : ∀ x, x = p → ∃ xs, HJ x = some (.lst xs) := fun x z => ⟨xsp, by rw [z]; exact hxp⟩
    have cO : Same (cutH (fun x => x = p) HJ) (cutH (fun x => x = p ∨ x = o) (upd (upd HJ dxo (.own o)) o (.ins c.CO dxo []))) := cut_step (fun q u h _ => sO _ _ h) fun q h => h.imp id fun z => by rw [z]; exact no
    have hBc := (hB9.same sJ).cutL (B := fun x => x = p) Lp
    have hJc := hJ.cutL (B := fun x => x = p) Lp
    have hEc := (hE.same sJ).cutL (B := fun x => x = p) Lp
    have hdlc : cutH (fun x => x = p) HJ dl = some (.dK (LK L)) := nl_cut Lp (sJ _ _ hdl9) fun xs z => nomatch z
    have hdkc : cutH (fun x => x = p) HJ dk = some (.lst (ks.map V.str)) := cut_at dkp (sJ _ _ hdk9)
    have hq1c : cutH (fun x => x = p) HJ q1 = some (.lst us) := cut_at q1p (sJ _ _ hq1)
    have POI := PJ.same sO
    have nop : o ≠ p := fun z => PJ.ne.1 (z ▸ no)
    have nos : o ≠ s0 := fun z => PJ.ne.2 (z ▸ no)
    have aSqc : SqL c.K (cutH (fun x => x = p) HJ) a (ns.map V.int) := by
      rcases hS with (h | ⟨o, h⟩) | h
      · have n : a ≠ p := fun z => by rw [z, hp] at h; cases h
        exact .inl (.inl (cut_at n (sJ _ _ (P19.keep (s1 _ _ h) n))))
      · have n : a ≠ p := fun z => by rw [z, hp] at h; cases h
        exact .inl (.inr ⟨o, cut_at n (sJ _ _ (P19.keep (s1 _ _ h) n))⟩)
      · exact .inr h
    refine ⟨fun x => x = p ∨ x = o, o, dxo, b, j, b, L, us, xs, rfl, hoI, .inr rfl, fun x hx => ?_, hBc.same cO, hJc.same cO, by rw [hE.1]; omega, fun oa A' HO eo ej eb ebj kO gO MO => ⟨rfl, ?_⟩⟩
    · rcases hx with rfl | rfl
      · exact ⟨_, sO _ _ hxp, trivial⟩
      · exact ⟨_, hoI, rfl⟩
    have cOO : Same (cutH (fun x => x = p) HJ) (cutH (uni (fun x => x = p ∨ x = o) A') HO) := cO.trans (cut_step (fun q u h n => kO q u h fun z => n (.inr z)) fun q h => h.elim .inl fun z => (gO q z).imp .inr id)
    have W0 : LW c (uni (fun x => x = p ∨ x = o) A') A' HO oa (newOS L xs us) p s0 := by
      obtain ⟨ns', i', c', k', n', e1, e2, e3, e4⟩ := POI
      refine ⟨MO, ⟨ns', i', c', k', n', kO _ _ e1 nop.symm, kO _ _ e2 nos.symm, e3, e4⟩, .inl (.inl rfl), fun z => ?_, fun z => ?_⟩
      · rcases gO _ z with h | h
        · exact nop h.symm
        · rw [e1] at h; cases h
      · rcases gO _ z with h | h
        · exact nos h.symm
        · rw [e2] at h; cases h
    have F0dl := cOO _ _ hdlc
    have F0dk := cOO _ _ hdkc
    have F0de := cOO _ _ hq1c
    have F0E := hEc.same cOO
    have F0B := hBc.same cOO
    have F0J := hJc.same cOO
    have hgood : Good L xs := by unfold Good; rw [hw9]
    have a0 := sqL_same aSqc cOO
    clear hBc hJc hEc hdlc hdkc hq1c aSqc cOO MO kO gO POI cO hoI sO Lp hxp PJ hJ sJ hB9 hq1 hdl9 hdk9 P19 PQ9
    have hlx : xs.length ≤ 8 := by omega
    subst eo
    generalize (uni (fun x => x = p ∨ x = oa.o) A') = B0 at W0 F0dl F0dk F0de F0E F0B F0J a0
    have t0 : Sit c B0 HO dl dk q1 b L ks us xs := ⟨F0dl, F0dk, F0de, F0E, F0B⟩
    clear F0dl F0dk F0de F0E F0B F0J a0
    refine ⟨_, rfl, p, s0, 30, rfl, W0.pool, (by decide), (by decide), fun now0 Hn n30 n31 Pn => ?_⟩
    obtain ⟨W1, l1⟩ := W0.draw Pn
    have t1 := t0.go l1.cut
    clear W0 t0 l1 Pn
    refine ⟨fun σ H' => H' = Hn ∧ ∃ (now : Int) (x8 x9 x10 x11 x12 x13 x14 : Option V), σ = [some (.ref a), some (.ref p), some (.ref dl), some (.ref dk), some (.ref b), some (.ref q1), some (.ref oa.o), some (.int now), x8, x9, x10, x11, x12, x13, x14], ?_, ?_⟩
    · have hd := up t1.q1
      have hEl := t1.E.1
      refine ⟨_, rfl, q1, us, rfl, .inl (SqL.of hd), _, _, rfl, rfl, _, rfl, ?_⟩
      refine ite2 (fun c => ?_) (fun c => ?_)
      · have c := of_decide_eq_true c
        obtain ⟨x, hx⟩ : ∃ x, xs[us.length - 1]? = some x := ⟨_, List.getElem?_eq_getElem (by omega)⟩
        obtain ⟨v, hv⟩ : ∃ v, us[us.length - 1]? = some v := ⟨_, List.getElem?_eq_getElem (by omega)⟩
        obtain ⟨e1, rfl, he0, ok⟩ := t1.E.2 _ v x hv hx
        have he := up he0
        have hI : atI us ((us.length : Int) - 1) = some (.ref e1) := by
          rw [show ((us.length : Int) - 1) = ((us.length - 1 : Nat) : Int) by omega]
          rw [atI_natC (by omega)]
          rw [List.getElem?_eq_getElem (by omega)] at hv
          exact hv
        exact ⟨_, rfl, _, rfl, q1, us, rfl, .inl (SqL.of hd), _, _, rfl, rfl, q1, us, _, _, rfl, rfl, SqL.of hd, hI, _, rfl, _, rfl, q1, us, rfl, .inl (SqL.of hd), _, _, rfl, rfl, q1, us, _, _, rfl, rfl, SqL.of hd, hI, e1, x.vs, rfl, .inr (SqT.of he), _, _, rfl, rfl, e1, x.vs, _, _, rfl, rfl, SqT.of he, ent_arr x, rfl, _, _, _, _, _, _, _, _, rfl⟩
      · exact ⟨rfl, _, _, _, _, _, _, _, _, rfl⟩
    rintro σ H' ⟨rfl, now, x8, x9, x10, x11, x12, x13, x14, rfl⟩
    refine ⟨_, rfl, oa.o, oa.dx, _, rfl, W1.M.o, rfl, _, _, oa, _, .str "one", rfl, W1.M, str_ok (by decide), (by show (0 : Nat) < 900; decide), fun z1 t l A2 H3 ez hn en fr iff M1 => ?_, fun d x2 H3 ed => ?_, fun x2 H3 hn => by cases hn⟩
    rotate_left
    · have ed : (newOS L xs us).find "one" = some d := ed
      cases ed
    cases ez
    have M1 : OfM c (uni B0 A2) A2 H3 oa (mkW (newOS L xs us) "one" t l []) := M1
    obtain ⟨W2, l2⟩ := W1.office fr M1
    have t2 := t1.go l2.cut
    clear W1 t1 l2 fr M1
    refine ⟨(by show 0 ≤ sizeLine; decide), fun q0 nq => ?_⟩
    obtain ⟨W3, l3⟩ := W2.own (o := .lst []) nq trivial
    have I3 : LI c p s0 dl dk q1 b oa.o q0 L ks us xs _ A2 _ oa (mkW (newOS L xs us) "one" t l []) [] [] := ⟨W3, t2.go l3.cut, ⟨upd_same, ⟨rfl, fun _ _ _ e => nomatch e⟩, (fun _ h => nomatch h), .inr rfl, fun z => (W2.M.free nq) (W2.M.AB _ z), fun z => W2.pool.ne.1 (z ▸ nq), fun z => W2.pool.ne.2 (z ▸ nq)⟩, rfl⟩
    clear W2 W3 t2 l3
    generalize (upd H3 q0 (.lst [])) = H4 at I3 ⊢
    generalize (fun x => uni B0 A2 x ∨ x = q0) = B3 at I3
    refine ⟨_, rfl, p, s0, 6, rfl, I3.W.pool, (by decide), (by decide), fun d6 H5 d60 d61 P5 => ?_⟩
    have I5 := I3.draw P5
    refine ⟨_, rfl, p, s0, 15, rfl, I5.W.pool, (by decide), (by decide), fun d15 H6 d150 d151 P6 => ⟨_, _, rfl, rfl, two, fun lp nlp => ?_⟩⟩
    have I6 := I5.draw P6
    have I7 := I6.same (sameAt (o := .lst [.int d6, .int (6 + d15)]) (Same.refl H6) nlp)
    have hlp : (upd H6 lp (.lst [.int d6, .int (6 + d15)])) lp = some (.lst [.int d6, .int (6 + d15)]) := upd_same
    have lpp : lp ≠ p := fun z => I6.W.pool.ne.1 (z ▸ nlp)
    generalize (upd H6 lp (.lst [.int d6, .int (6 + d15)])) = H7 at I7 hlp ⊢
    refine ⟨_, rfl, p, s0, 8, rfl, I7.W.pool, (by decide), (by decide), fun d8 H8 d80 d81 P8 => ⟨rfl, .inr ⟨_, rfl, ?_⟩⟩⟩
    have I8 := I7.draw P8
    have hlp8 := P8.keep hlp lpp
    obtain ⟨m, hm, hm0, hm20⟩ : ∃ m : Int, atI [V.int d6, .int (6 + d15)] (if decide (V.int d8 = V.int 0) = true then 1 else 0) = some (.int m) ∧ 0 ≤ m ∧ m ≤ 20 := by
      by_cases c8 : d8 = 0
      · subst c8
        exact ⟨6 + d15, rfl, by omega, by omega⟩
      · rw [decide_eq_false (show ¬ (V.int d8 = V.int 0) from fun z => c8 (V.int.inj z))]
        exact ⟨d6, rfl, by omega, by omega⟩
    refine ⟨_, _, _, .int m, rfl, rfl, SqL.of hlp8, hm, m, rfl, by omega, by omega, ?_⟩
    clear I3 I5 I6 I7 hlp hlp8 P8 P6 P5
    have gS := hgood.eq
    obtain ⟨SX, hSX⟩ := gS
    refine for_range (n := m.toNat) (fun i σ H9 => ∃ (B A : Addr → Prop) (ud : List V) (es : List Ent), (∃ x9 x10 x11 x12 x13 x14, σ = [some (.ref a), some (.ref p), some (.ref dl), some (.ref dk), some (.ref b), some (.ref q1), some (.ref oa.o), some (.int now), some (.ref q0), x9, x10, x11, x12, x13, x14]) ∧ LI c p s0 dl dk q1 b oa.o q0 L ks us xs B A H9 oa (mkW (newOS L xs us) "one" t l es) ud es ∧ es.length = i) ⟨_, _, _, _, ⟨_, _, _, _, _, _, rfl⟩, I8, rfl⟩ ?_ ?_
    · rintro i σ H9 hi ⟨B, A, ud, es, ⟨x9, x10, x11, x12, x13, x14, rfl⟩, I, hlen⟩
      clear I8
      have hdl2 := I.d.D.1
      have D3 := I.d.D.same (cut_same _ _)
      refine ⟨_, rfl, _, rfl, q0, rfl, ⟨_, SqL.of I.d.h⟩, fun D4 hD40 => ?_⟩
      refine lc_list (a := q0) (xs := ud) (fun j H4 => ∃ us' ys, H4 D4 = some (.lst us') ∧ Ents H4 us' ys ∧ ys.length ≤ j ∧ (∀ y ∈ ys, ∃ id s k m a r, y = Ent.row id s k m a r) ∧ Same H9 H4) ⟨[], [], upd_same, ⟨rfl, fun _ _ _ e => nomatch e⟩, Nat.le_refl _, (fun _ h => nomatch h), sameAt (Same.refl _) hD40⟩ (fun i H4 _ hv => by obtain ⟨_, _, _, _, _, _, h⟩ := hv; exact SqL.of (h _ _ I.d.h)) ?_ ?_
      · rintro j v H5 hvj ⟨us', ys, hD5, hW, hyl, hyr, s5⟩
        have hil := (List.getElem?_eq_some_iff.mp hvj).1
        obtain ⟨x, hx⟩ : ∃ x, es[j]? = some x := ⟨_, List.getElem?_eq_getElem (by rw [← hdl2]; exact hil)⟩
        obtain ⟨e1, rfl, he, ok⟩ := D3.2 j v x hvj hx
        have he5 : H5 e1 = some (.tup x.vs.dropLast) := s5 _ _ he
        cases x with
        | fix id m a r => exact ⟨rfl, _, rfl, _, _, _, _, rfl, rfl, SqT.of he5, rfl, rfl, _, rfl, iteF ⟨us', ys, hD5, hW, Nat.le_succ_of_le hyl, hyr, s5⟩⟩
        | gone id r => exact ⟨rfl, _, rfl, _, _, _, _, rfl, rfl, SqT.of he5, rfl, rfl, _, rfl, iteF ⟨us', ys, hD5, hW, Nat.le_succ_of_le hyl, hyr, s5⟩⟩
        | row id z k m a r =>
          refine ⟨rfl, _, rfl, _, _, _, _, rfl, rfl, SqT.of he5, rfl, rfl, _, rfl, iteT ⟨_, rfl, _, _, _, _, rfl, rfl, SqT.of he5, rfl, _, _, rfl, rfl, _, rfl, ite2 (fun c1 => ?_) (fun c1 => ⟨us', ys, hD5, hW, Nat.le_succ_of_le hyl, hyr, s5⟩)⟩⟩
          refine ⟨_, rfl, _, rfl, one, fun t1 nt1 => ?_⟩
          have s6 : Same H5 (upd H5 t1 (.tup [.int now])) := sameAt (Same.refl _) nt1
          refine ⟨e1, t1, _, _, rfl, rfl, SqT.of (s6 _ _ he5), SqT.of upd_same, (fun z => nomatch z), (by show 6 + 1 ≤ sizeLine; decide), (fun z => nomatch z), fun _ t2 nt2 => ?_⟩
          have s57 := s6.trans (sameAt (o := .tup ((Ent.row id z k m a r).vs.dropLast ++ [.int now])) (Same.refl _) nt2)
          have h2 : (upd (upd H5 t1 (.tup [.int now])) t2 (.tup ((Ent.row id z k m a r).vs.dropLast ++ [.int now]))) t2 = some (.tup (Ent.row id z k m a now).vs) := upd_same
          generalize (upd (upd H5 t1 (.tup [.int now])) t2 (.tup ((Ent.row id z k m a r).vs.dropLast ++ [.int now]))) = H7 at s57 h2 ⊢
          have hD7 := s57 _ _ hD5
          have hwl := hW.1
          refine ⟨us', hD7, small1000 (by omega), us' ++ [.ref t2], ys ++ [.row id z k m a now], upd_same, ((hW.same s57).setL hD7).snoc (show upd H7 D4 _ t2 = _ from ?_) (at_ok ok now), by rw [List.length_append]; exact Nat.succ_le_succ hyl, fun y hy => ?_, sameAt (s5.trans s57) hD40⟩
          · rw [upd_ne (fun z => by rw [z, hD7] at h2; cases h2)]
            exact h2
          · rcases List.mem_append.mp hy with hy | hy
            · exact hyr y hy
            · rw [List.mem_singleton.mp hy]; exact ⟨_, _, _, _, _, _, rfl⟩
      rintro H5 ⟨us', ys, hD5, hW, hyl, hyr, s5⟩
      have hwl := hW.1
      have hul := I.t.E.1
      refine ⟨q1, D4, _, _, rfl, rfl, s5 _ _ (up I.t.q1), hD5, Nat.le_of_lt (small1000 (by omega)), fun wp nwp => ?_⟩
      have s6 : Same H5 (upd H5 wp (.lst (us ++ us'))) := sameAt (Same.refl _) nwp
      have I6 := I.same (s5.trans s6)
      have hwp : (upd H5 wp (.lst (us ++ us'))) wp = some (.lst (us ++ us')) := upd_same
      have EW : Ents (upd H5 wp (.lst (us ++ us'))) (us ++ us') (xs ++ ys) := (I6.t.E.same (cut_same _ _)).append (hW.same s6)
      clear I hW hD5 D3
      generalize (upd H5 wp (.lst (us ++ us'))) = H6 at I6 hwp EW ⊢
      obtain ⟨SK, hSK⟩ := sts_rows (S := SX) hyr
      have hsts : sts (xs ++ ys) (fun _ => none) = some SK := by rw [sts_app, sts_wk hSX]; exact hSK
      refine ⟨_, rfl, _, rfl, _, rfl, _, rfl, _, rfl, _, _, rfl, rfl, _, rfl, p, s0, dl, dk, wp, L, ks, us ++ us', xs ++ ys, SK, 100 + (0 + (i : Int)), now, rfl, I6.W.pool, up I6.t.dl, LL, up I6.t.dk, by omega, by omega, knm, hwp, EW, by rw [List.length_append]; omega, hsts, sts_pos hsts EW.ok (fun id h => absurd rfl h), by omega, fun en y H7 hdat oky hid P7 => ?_⟩
      have I7 := I6.draw P7
      clear I6 EW hwp
      have ok0 := oky.at0 0
      refine ⟨_, rfl, _, rfl, oa, _, .str "one", en, y, (by rw [I7.ao]; rfl), I7.W.M.o, hdat, fun H8 s8 => ?_⟩
      have I8 := I7.same s8
      have hd8 : H8 en = some (.tup y.vs.dropLast) := s8 _ _ hdat
      clear I7 hdat
      refine called_put I8.W.M (str_ok (by decide)) ok0.1 ⟨fun d' H9 ed h20 hin fr M9 => ?_, fun d' e' H9 ed hb => ?_, fun e' H9 en => ?_⟩
      · have ed : (mkW (newOS L xs us) "one" t l es).find "one" = some d' := ed
        rw [mkW_find] at ed
        cases ed
        rw [mkW_put] at M9
        have I9 := I8.office fr M9 rfl
        have hd9 := fr.k _ _ hd8 fun z => I8.W.M.tup hd8 (I8.W.M.AB _ z)
        intro t8 n8
        have I10 := I9.same (sameAt (o := .tup [.str "told", .non]) (Same.refl H9) n8)
        have ht10 : (upd H9 t8 (.tup [.str "told", .non])) t8 = some (.tup [.str "told", .non]) := upd_same
        have hd10 := (sameAt (o := .tup [.str "told", .non]) (Same.refl H9) n8) _ _ hd9
        clear I9 I8 hd8 hd9
        generalize (upd H9 t8 (.tup [.str "told", .non])) = H10 at I10 ht10 hd10 ⊢
        refine ⟨two, fun t9 n9 => ?_⟩
        have I11 := I10.same (sameAt (o := .tup [.str "told", .non]) (Same.refl H10) n9)
        have hd11 := (sameAt (o := .tup [.str "told", .non]) (Same.refl H10) n9) _ _ hd10
        refine Tl.ne (.non _ ((sameAt (o := .tup [.str "told", .non]) (Same.refl H10) n9) _ _ ht10) ok_told) (.non _ upd_same ok_told) ⟨_, rfl, iteF ?_⟩
        generalize (upd H10 t9 (.tup [.str "told", .non])) = H11 at I11 hd11 ⊢
        have hul2 := I11.d.D.1
        exact ⟨_, rfl, .inl ⟨rfl, _, SqL.of I11.d.h⟩, _, rfl, q0, _, _, rfl, rfl, I11.d.h, small1000 (by omega), _, _, _, _, ⟨_, _, _, _, _, _, rfl⟩, I11.add hd11 oky, by rw [List.length_append, hlen]; rfl⟩
      · have ed : (mkW (newOS L xs us) "one" t l es).find "one" = some d' := ed
        rw [mkW_find] at ed
        cases ed
        rcases hb with hb | hb
        · have hb : es.length = 20 := hb
          omega
        · exact absurd ok0.inB hb
      · have en : (mkW (newOS L xs us) "one" t l es).find "one" = none := en
        rw [mkW_find] at en
        cases en
    rintro σ H9 ⟨B, A, ud, es, ⟨x9, x10, x11, x12, x13, x14, rfl⟩, I, hlen⟩
    clear I8
    have hlen : es.length ≤ 20 := by omega
    -- an odd arrival
    refine ⟨(by show 0 ≤ sizeLine; decide), fun e0 n0 => ⟨one, fun e1 n1 => fun e2 n2 => ⟨(by show 7 ≤ sizeLine; decide), fun lo nlo => ?_⟩⟩⟩
    have I1 := I.same (sameAt (o := .tup []) (Same.refl H9) n0)
    have f0 : cutH B (upd H9 e0 (.tup [])) e0 = some (.tup []) := cut_at (I.W.M.free n0) upd_same
    generalize (upd H9 e0 (.tup [])) = H10 at I1 f0 n1 n2 nlo ⊢
    have I2 := I1.same (sameAt (o := .lst [.int 1]) (Same.refl H10) n1)
    have f1 : cutH B (upd H10 e1 (.lst [.int 1])) e1 = some (.lst [.int 1]) := cut_at (I1.W.M.free n1) upd_same
    have f0 := (I1.W.same (sameAt (o := .lst [.int 1]) (Same.refl H10) n1)).2.cut _ _ f0
    generalize (upd H10 e1 (.lst [.int 1])) = H11 at I2 f0 f1 n2 nlo ⊢
    have I3 := I2.same (sameAt (o := .dK []) (Same.refl H11) n2)
    have f2 : cutH B (upd H11 e2 (.dK [])) e2 = some (.dK []) := cut_at (I2.W.M.free n2) upd_same
    have f0 := (I2.W.same (sameAt (o := .dK []) (Same.refl H11) n2)).2.cut _ _ f0
    have f1 := (I2.W.same (sameAt (o := .dK []) (Same.refl H11) n2)).2.cut _ _ f1
    generalize (upd H11 e2 (.dK [])) = H12 at I3 f0 f1 f2 nlo ⊢
    have s4 := sameAt (o := .lst [.non, .bl true, .str "", .ref e0, .ref e1, .ref e2, .str "0"]) (Same.refl H12) nlo
    have I4 := I3.same s4
    have fo : cutH B (upd H12 lo (.lst [.non, .bl true, .str "", .ref e0, .ref e1, .ref e2, .str "0"])) lo = some (.lst [.non, .bl true, .str "", .ref e0, .ref e1, .ref e2, .str "0"]) := cut_at (I3.W.M.free nlo) upd_same
    have f0 := (I3.W.same s4).2.cut _ _ f0
    have f1 := (I3.W.same s4).2.cut _ _ f1
    have f2 := (I3.W.same s4).2.cut _ _ f2
    generalize (upd H12 lo (.lst [.non, .bl true, .str "", .ref e0, .ref e1, .ref e2, .str "0"])) = H13 at I4 fo f0 f1 f2 ⊢
    clear I I1 I2 I3 s4 n0 n1 n2 nlo
    refine ⟨_, rfl, p, s0, 7, rfl, I4.W.pool, (by decide), (by decide), fun d7 H14 d70 d71 P14 => ?_⟩
    have I5 := I4.draw P14
    have k5 := (I4.W.draw P14).2.cut
    obtain ⟨odd, hodd, nI, sv⟩ := odd_at (k5 _ _ f0) (k5 _ _ f1) (k5 _ _ f2) d70 d71 (K := c.K)
    refine ⟨_, _, _, odd, rfl, rfl, SqL.of (up (k5 _ _ fo)), hodd, ?_⟩
    clear I4 P14 k5 fo f0 f1 f2 hodd
    have fnd : ∀ {d : Dr}, wfind (mkW (newOS L xs us) "one" t l es) (.str "one") = some d → (⟨"one", t, l, (newOS L xs us).cl, es⟩ : Dr) = d := fun {d} ed => by
      have ed : (mkW (newOS L xs us) "one" t l es).find "one" = some d := ed
      rw [mkW_find] at ed
      exact Option.some.inj ed
    have fno : wfind (mkW (newOS L xs us) "one" t l es) (.str "one") ≠ none := fun en => by
      have en : (mkW (newOS L xs us) "one" t l es).find "one" = none := en
      rw [mkW_find] at en
      cases en
    have hcb : ∀ b ∈ (newOS L xs us).cb, b ≤ (newOS L xs us).cl := fun b hb => by
      rw [(List.mem_replicate.mp (show b ∈ List.replicate xs.length (0 : Int) from hb)).2]
      exact Int.le_refl _
    have nost : stale (mkW (newOS L xs us) "one" t l es) ⟨"one", t, l, (newOS L xs us).cl, es⟩ = none := no_stale hcb
    refine ⟨_, rfl, _, rfl, two, fun g ng => ?_⟩
    have I6 := I5.same (sameAt (o := .tup [.str "one", odd]) (Same.refl H14) ng)
    have hg6 : (upd H14 g (.tup [.str "one", odd])) g = some (.tup [.str "one", odd]) := upd_same
    have nI := nI.same (I5.W.same (sameAt (o := .tup [.str "one", odd]) (Same.refl H14) ng)).2.cut
    clear I5
    generalize (upd H14 g (.tup [.str "one", odd])) = H15 at I6 hg6 nI ⊢
    have nI6 := nI.same (cut_same _ _)
    refine ⟨oa, _, 6, g, [.str "one", odd], (by rw [I6.ao]; rfl), I6.W.M.o, hg6, .inr (.inr (.inr (.inr (.inr (.inr (.inl ⟨rfl, .str "one", odd, rfl, B, A, oa, _, .str "one", odd, rfl, I6.W.M, str_ok (by decide), .inr nI6, Nat.zero_le _, fun x2 H16 en => absurd en fno, fun d x2 H16 ed ni s16 hx => ?_, fun d n m x2 H16 ed er hs => (int_is (er ▸ nI6)).elim, fun d n k x2 H16 ed er hs hj => (int_is (er ▸ nI6)).elim, fun d n us' j' H16 ed er hs => (int_is (er ▸ nI6)).elim⟩))))))⟩
    refine .inl ⟨e.CM, "moment", "value", x2, odd, List.mem_cons_of_mem _ (List.mem_cons_of_mem _ (List.mem_cons_of_mem _ (List.mem_cons_of_mem _ List.mem_cons_self))), rfl, rfl, hx, fun t8 n8 => ?_⟩
    have nI7 := nI6.same (s16.trans (sameAt (o := .tup [.str "moment", odd]) (Same.refl H16) n8))
    have I7 := I6.same (s16.trans (sameAt (o := .tup [.str "moment", odd]) (Same.refl H16) n8))
    have ht7 : (upd H16 t8 (.tup [.str "moment", odd])) t8 = some (.tup [.str "moment", odd]) := upd_same
    generalize (upd H16 t8 (.tup [.str "moment", odd])) = H17 at I7 ht7 nI7 ⊢
    clear I6 hg6 nI6 nI
    refine ⟨_, rfl, two, fun t9 n9 => ?_⟩
    have nI8 := nI7.same (sameAt (o := .tup [.str "moment", odd]) (Same.refl H17) n9)
    have I8 := I7.same (sameAt (o := .tup [.str "moment", odd]) (Same.refl H17) n9)
    have ht8 := (sameAt (o := .tup [.str "moment", odd]) (Same.refl H17) n9) _ _ ht7
    have ht9 : (upd H17 t9 (.tup [.str "moment", odd])) t9 = some (.tup [.str "moment", odd]) := upd_same
    generalize (upd H17 t9 (.tup [.str "moment", odd])) = H18 at I8 ht8 ht9 nI8 ⊢
    clear I7 ht7
    refine ⟨seqsV ht8 ht9 (.inl ⟨(fl_str _).1, (fl_str _).1, (fl_str _).2⟩) sv, _, rfl, iteF ?_⟩
    clear ht8 ht9
    refine ⟨_, rfl, _, rfl, two, fun g2 ng2 => ?_⟩
    have I9 := I8.same (sameAt (o := .tup [.str "two", odd]) (Same.refl H18) ng2)
    have hg9 : (upd H18 g2 (.tup [.str "two", odd])) g2 = some (.tup [.str "two", odd]) := upd_same
    clear I8
    have nI9 : (∃ n, odd = .int n) ∨ NotInt c.K (upd H18 g2 (.tup [.str "two", odd])) odd := .inr (nI8.same (sameAt (o := .tup [.str "two", odd]) (Same.refl H18) ng2))
    generalize (upd H18 g2 (.tup [.str "two", odd])) = H19 at I9 hg9 nI9 ⊢
    have e2 : wfind (mkW (newOS L xs us) "one" t l es) (.str "two") = none := mkW_no _ (by decide) t l es
    refine ⟨oa, _, 6, g2, [.str "two", odd], (by rw [I9.ao]; rfl), I9.W.M.o, hg9, .inr (.inr (.inr (.inr (.inr (.inr (.inl ⟨rfl, .str "two", odd, rfl, B, A, oa, _, .str "two", odd, rfl, I9.W.M, str_ok (by decide), nI9, Nat.zero_le _, fun x2 H20 en s20 hx => ?_, fun d x2 H16 ed => absurd (e2.symm.trans ed) (fun z => nomatch z), fun d n m x2 H16 ed => absurd (e2.symm.trans ed) (fun z => nomatch z), fun d n k x2 H16 ed => absurd (e2.symm.trans ed) (fun z => nomatch z), fun d n us' j' H16 ed => absurd (e2.symm.trans ed) (fun z => nomatch z)⟩))))))⟩
    refine .inl ⟨e.CI, "idle", "writer", x2, .str "two", List.mem_cons_self, rfl, rfl, hx, fun t8 n8 => ?_⟩
    have I10 := I9.same (s20.trans (sameAt (o := .tup [.str "idle", .str "two"]) (Same.refl H20) n8))
    have ht10 : (upd H20 t8 (.tup [.str "idle", .str "two"])) t8 = some (.tup [.str "idle", .str "two"]) := upd_same
    clear I9 hg9 nI9
    generalize (upd H20 t8 (.tup [.str "idle", .str "two"])) = H21 at I10 ht10 ⊢
    refine ⟨two, fun t9 n9 => ?_⟩
    have I11 := I10.same (sameAt (o := .tup [.str "idle", .str "two"]) (Same.refl H21) n9)
    have okT : PyData.strOk "two" = true := by decide +kernel
    have okO : PyData.strOk "one" = true := by decide +kernel
    refine Tl.ne (.str _ _ ((sameAt (o := .tup [.str "idle", .str "two"]) (Same.refl H21) n9) _ _ ht10) ok_idle okT) (.str _ _ upd_same ok_idle okT) ⟨_, rfl, iteF ?_⟩
    generalize (upd H21 t9 (.tup [.str "idle", .str "two"])) = H22 at I11 ⊢
    clear I10 ht10
    -- the closes
    refine ⟨fun σ H' => ∃ (B A : Addr → Prop) (a' : OA) (S : OS), (∃ x0 x3 x5 x6 x7 x8 x9 x10 x11 x12 x13 x14, σ = [x0, some (.ref p), some (.ref dl), x3, some (.ref b), x5, x6, x7, x8, x9, x10, x11, x12, x13, x14]) ∧ LW c B A H' a' S p s0 ∧ cutH B H' dl = some (.dK (LK L)) ∧ BookAt c.CB (cutH B H') b L, ?_, ?_⟩
    rotate_left
    · rintro σ H' ⟨B, A, a', S, ⟨x0, x3, x5, x6, x7, x8, x9, x10, x11, x12, x13, x14, rfl⟩, W, hdl, hbk⟩
      refine ⟨_, rfl, p, s0, 16, rfl, W.pool, (by decide), (by decide), fun d16 H24 d160 d161 P24 => ?_⟩
      obtain ⟨W24, l24⟩ := W.draw P24
      refine ⟨_, _, rfl, rfl, ?_⟩
      exact ⟨_, rfl, ite2 (fun c1 => q _) (fun c1 => ⟨_, rfl, _, rfl, dl, b, L, rfl, up (l24.cut _ _ hdl), LL, (hbk.same l24.cut).same (cut_same _ _), q⟩)⟩
    refine ⟨_, rfl, _, _, rfl, rfl, _, rfl, p, s0, 4, rfl, I11.W.pool, (by decide), (by decide), fun d4 H23 d40 d41 P23 => ⟨_, _, rfl, rfl, ?_⟩⟩
    have I12 := I11.draw P23
    refine ⟨_, rfl, _, rfl, p, s0, 3, rfl, I12.W.pool, (by decide), (by decide), fun d3 H24 d30 d31 P24 => ⟨_, _, rfl, rfl, _, rfl, (by show 3 ≤ sizeLine; decide), fun la nla => ?_⟩⟩
    have I13 := I12.draw P24
    have I14 := I13.same (sameAt (o := .lst [.int (now - 1 + d4), .int (now + d3), .int now]) (Same.refl H24) nla)
    have hla : cutH B (upd H24 la (.lst [.int (now - 1 + d4), .int (now + d3), .int now])) la = some (.lst [.int (now - 1 + d4), .int (now + d3), .int now]) := cut_at (I13.W.M.free nla) upd_same
    generalize (upd H24 la (.lst [.int (now - 1 + d4), .int (now + d3), .int now])) = H25 at I14 hla ⊢
    clear I11 I12 I13 P23 P24
    refine ⟨la, rfl, ⟨_, SqL.of (up hla)⟩, ?_⟩
    refine for_list (a := la) (xs := [.int (now - 1 + d4), .int (now + d3), .int now]) (fun i σ H26 => ∃ (B A : Addr → Prop), (∃ x9 x10 x11 x12 x13 x14, σ = [some (.ref a), some (.ref p), some (.ref dl), some (.ref dk), some (.ref b), some (.ref q1), some (.ref oa.o), some (.int now), some (.ref q0), x9, x10, x11, x12, x13, x14]) ∧ LI c p s0 dl dk q1 b oa.o q0 L ks us xs B A H26 oa (mkW (newOS L xs us) "one" t l es) ud es ∧ cutH B H26 la = some (.lst [.int (now - 1 + d4), .int (now + d3), .int now])) ⟨_, _, ⟨_, _, _, _, _, _, rfl⟩, I14, hla⟩ (fun i σ H26 _ hv => by obtain ⟨_, _, _, _, h⟩ := hv; exact SqL.of (up h)) ?_ ?_
    rotate_left
    · rintro σ H26 ⟨B, A, ⟨x9, x10, x11, x12, x13, x14, rfl⟩, I, hla⟩
      exact ⟨B, A, oa, _, ⟨_, _, _, _, _, _, _, _, _, _, _, _, rfl⟩, I.W, I.t.dl, I.t.bk⟩
    rintro i v σ H25 hvi ⟨B, A, ⟨x9, x10, x11, x12, x13, x14, rfl⟩, I25, hla25⟩
    clear I14 hla
    obtain ⟨ar, rfl⟩ : ∃ ar, v = .int ar := by
      have hm := List.mem_of_getElem? hvi
      simp only [List.mem_cons, List.not_mem_nil, or_false] at hm
      rcases hm with h | h | h <;> exact ⟨_, h⟩
    have hul := I25.t.E.1
    have hdl0 := I25.d.D.1
    refine ⟨_, rfl, _, rfl, _, rfl, _, rfl, dl, q1, q0, L, us, ud, xs, es, ar, rfl, up I25.t.dl, up I25.t.q1, I25.t.E.same (cut_same _ _), hgood, I25.d.h, I25.d.D.same (cut_same _ _), I25.d.ok, by omega, hlen, fun t8 H26 s26 ht26 => ?_⟩
    have I26 := I25.same s26
    have hla26 := (I25.W.same s26).2.cut _ _ hla25
    clear I25 hla25
    unfold dueT at ht26
    refine ⟨_, rfl, _, rfl, two, fun g ng => ?_⟩
    have I27 := I26.same (sameAt (o := .tup [.str "one", .int ar]) (Same.refl H26) ng)
    have hg27 : (upd H26 g (.tup [.str "one", .int ar])) g = some (.tup [.str "one", .int ar]) := upd_same
    have ht27 := (sameAt (o := .tup [.str "one", .int ar]) (Same.refl H26) ng) _ _ ht26
    have hla27 := (I26.W.same (sameAt (o := .tup [.str "one", .int ar]) (Same.refl H26) ng)).2.cut _ _ hla26
    generalize (upd H26 g (.tup [.str "one", .int ar])) = H27 at I27 hg27 ht27 hla27 ⊢
    clear I26 ht26 hla26
    cases hw : (wk L ((xs ++ es.map (·.at_ ar)).map some) 0 (fun _ => none) none).1 with
    | none =>
      rw [hw] at ht27
      have ht27 : H27 t8 = some (.tup [.str "told", .int es.length]) := ht27
      refine ⟨oa, _, 6, g, [.str "one", .int ar], (by rw [I27.ao]; rfl), I27.W.M.o, hg27, .inr (.inr (.inr (.inr (.inr (.inr (.inl ⟨rfl, .str "one", .int ar, rfl, B, A, oa, _, .str "one", .int ar, rfl, I27.W.M, str_ok (by decide), .inl ⟨_, rfl⟩, Nat.zero_le _, fun x2 H28 en => absurd en fno, fun d x2 H28 ed ni => absurd (int_is ni) id, fun d n m x2 H28 ed er hs => ?_, fun d n k x2 H28 ed er hs hj => ?_, fun d n us9 j' H28 ed er hs hg6 hl6 fr M28 => ?_⟩))))))⟩
      · have e1 := fnd ed
        subst e1
        rw [nost] at hs; cases hs
      · have e1 := fnd ed
        subst e1
        cases er
        have hj : JBad L xs (es.map (·.at_ ar)) k := hj
        have h := jb_bad hj (by rw [List.length_map]; omega)
        rw [hw] at h; cases h
      have e1 := fnd ed
      subst e1
      cases er
      have I28 := I27.office fr M28 rfl
      have ht28 := fr.k _ _ ht27 fun z => I27.W.M.tup ht27 (I27.W.M.AB _ z)
      intro t9 n9
      have I29 := I28.same (sameAt (o := .tup [.str "told", .int (es.length : Int)]) (Same.refl H28) n9)
      have ht29 := (sameAt (o := .tup [.str "told", .int (es.length : Int)]) (Same.refl H28) n9) _ _ ht28
      have ht9 : (upd H28 t9 (.tup [.str "told", .int (es.length : Int)])) t9 = some (.tup [.str "told", .int (es.length : Int)]) := upd_same
      clear I27 I28 hg27 ht27 ht28 hla27 fr M28
      generalize (upd H28 t9 (.tup [.str "told", .int (es.length : Int)])) = H29 at I29 ht29 ht9 ⊢
      have jrx : JAt c.K c.aT c.CJ c.CB (cutH _ H29) j' oa.bj L _ (xs ++ es.map (·.at_ ar)) := I29.W.M.jr
      refine ⟨_, rfl, Tl.ne (.int _ _ ht9 ok_told) (.int _ _ ht29 ok_told) ⟨_, rfl, iteF ?_⟩⟩
      refine ⟨_, rfl, _, _, _, _, rfl, rfl, SqT.of ht29, rfl, rfl, _, rfl, iteT ?_⟩
      have D3 := I29.d.D.same (cut_same _ _)
      refine ⟨_, rfl, _, rfl, q0, rfl, ⟨_, SqL.of I29.d.h⟩, fun D4 hD40 => ?_⟩
      refine lc_list (a := q0) (xs := ud) (fun i H4 => ∃ us', H4 D4 = some (.lst us') ∧ WithN H4 us' (es.take i) (.int ar) ∧ Same H29 H4) ⟨[], upd_same, ⟨rfl, fun _ _ _ e => nomatch e⟩, sameAt (Same.refl _) hD40⟩ (fun i H4 _ hv => by obtain ⟨_, _, _, h⟩ := hv; exact SqL.of (h _ _ I29.d.h)) ?_ ?_
      · rintro i v H5 hvi ⟨us', hD5, hW, s5⟩
        have hil := (List.getElem?_eq_some_iff.mp hvi).1
        obtain ⟨x, hx⟩ : ∃ x, es[i]? = some x := ⟨_, List.getElem?_eq_getElem (by rw [← (D3).1]; exact hil)⟩
        obtain ⟨e1, rfl, he, ok⟩ := (D3).2 i v x hvi hx
        have he5 : H5 e1 = some (.tup x.vs.dropLast) := s5 _ _ he
        refine ⟨rfl, _, rfl, _, rfl, one, fun t1 nt1 => ?_⟩
        have s6 : Same H5 (upd H5 t1 (.tup [(.int ar)])) := sameAt (Same.refl _) nt1
        have ne1 : x.vs.dropLast ≠ [] := by cases x <;> exact fun z => nomatch z
        refine ⟨e1, t1, _, _, rfl, rfl, SqT.of (s6 _ _ he5), SqT.of upd_same, ne1, (by have := vs_lenW x (.int ar); rw [List.length_append] at this; exact this), (fun z => nomatch z), fun _ t2 nt2 => ?_⟩
        have s57 := s6.trans (sameAt (o := .tup (x.vs.dropLast ++ [(.int ar)])) (Same.refl _) nt2)
        have hul : us'.length ≤ 20 := by
          have := hW.1
          rw [List.length_take] at this
          omega
        have h2 : (upd (upd H5 t1 (.tup [(.int ar)])) t2 (.tup (x.vs.dropLast ++ [(.int ar)]))) t2 = some (.tup (x.vs.dropLast ++ [(.int ar)])) := upd_same
        generalize (upd (upd H5 t1 (.tup [(.int ar)])) t2 (.tup (x.vs.dropLast ++ [(.int ar)]))) = H7 at s57 h2 ⊢
        have hD7 := s57 _ _ hD5
        refine ⟨us', hD7, small1000 (by omega), us' ++ [.ref t2], upd_same, ?_, sameAt (s5.trans s57) hD40⟩
        rw [list_take' hx]
        have s8 : ∀ (k : Addr) (xs : List V), H7 k = some (.tup xs) → (upd H7 D4 (.lst (us' ++ [V.ref t2]))) k = some (.tup xs) := fun k xs h => by
          rw [upd_ne (fun z => by rw [z, hD7] at h; cases h)]
          exact h
        refine WithN.snoc ⟨hW.1, fun k v y a b => ?_⟩ (s8 _ _ h2) ok
        obtain ⟨e', h1, h2, h3⟩ := hW.2 k v y a b
        exact ⟨e', h1, s8 _ _ (s57 _ _ h2), h3⟩
      rintro H5 ⟨us', hD5, hW, s5⟩
      rw [List.take_of_length_le (by rw [hdl0]; exact Nat.le_refl _)] at hW
      have hul2 : us'.length = es.length := hW.1
      refine ⟨q1, D4, _, _, rfl, rfl, s5 _ _ (up I29.t.q1), hD5, Nat.le_of_lt (small1000 (by omega)), fun wp nwp => ?_⟩
      have s6 : Same H5 (upd H5 wp (.lst (us ++ us'))) := sameAt (Same.refl _) nwp
      have I30 := I29.same (s5.trans s6)
      have jr30 := jrx.same (I29.W.same (s5.trans s6)).2.cut
      have EW : Ents (upd H5 wp (.lst (us ++ us'))) (us ++ us') (xs ++ es.map (·.at_ ar)) := (I30.t.E.same (cut_same _ _)).append (hW.ents.same s6)
      have hwp : (upd H5 wp (.lst (us ++ us'))) wp = some (.lst (us ++ us')) := upd_same
      clear I29 jrx hW hD5 D3
      generalize (upd H5 wp (.lst (us ++ us'))) = H30 at I30 jr30 EW hwp ⊢
      have eps : ((mkW (newOS L xs us) "one" t l es).closed ⟨"one", t, l, (newOS L xs us).cl, es⟩ ar us9).ps = [] := by
        show ((mkW (newOS L xs us) "one" t l es).dropd "one").ps = []
        rw [mkW_drop]
      have p9 : ((mkW (newOS L xs us) "one" t l es).closed ⟨"one", t, l, (newOS L xs us).cl, es⟩ ar us9).past.length ≤ 900 := by
        show (([] : List Nat) ++ [xs.length]).length ≤ 900
        simp
      generalize ((mkW (newOS L xs us) "one" t l es).closed ⟨"one", t, l, (newOS L xs us).cl, es⟩ ar us9) = S9 at I30 jr30 eps p9
      have Jx := jr30.same (cut_same _ _)
      have JE := Jx.ents
      obtain ⟨jx, jt, jk, j1, j2, j3, j4, j5, j6, j7⟩ := id Jx
      refine ⟨_, rfl, oa.o, c.CO, oa.dx, _, _, rfl, I30.W.M.o, T.cl, T.nJ, rfl, j', c.CJ, jx, _, _, rfl, j1, TJ.cl, TJ.nE, jf_e _ _ _, jt, _, rfl, .inr j3, fun lq nlq => ?_⟩
      have s31 : Same H30 (upd H30 lq (.lst S9.us)) := sameAt (Same.refl _) nlq
      have I31 := I30.same s31
      have JE31 := JE.same s31
      have EW31 := EW.same s31
      have hw31 := s31 _ _ hwp
      have hl31 : (upd H30 lq (.lst S9.us)) lq = some (.lst S9.us) := upd_same
      clear I30 j1 j2 j3 j4 j5 j6 j7 Jx JE EW hwp jr30
      generalize (upd H30 lq (.lst S9.us)) = H31 at I31 JE31 EW31 hw31 hl31 ⊢
      refine ⟨_, rfl, neD_ents hl31 JE31 hw31 EW31 ⟨_, rfl, iteF ?_⟩⟩
      refine ⟨_, rfl, oa.o, oa.dx, _, rfl, I31.W.M.o, rfl, _, _, { oa with j := j' }, S9, rfl, I31.W.M, (by rw [eps]; decide), fun ys l3 H32 pm so s32 n3 hl3 => ?_⟩
      have ey : ys = [] := by
        rw [eps] at pm
        exact pm.eq_nil
      subst ey
      refine ⟨(by show 0 ≤ sizeLine; decide), fun l4 n4 => neD_strs (zs := []) (sameAt (o := .lst []) (Same.refl H32) n4 _ _ hl3) upd_same (fun _ h => nomatch h) ⟨_, rfl, iteF ?_⟩⟩
      have I33 := I31.same (s32.trans (sameAt (o := .lst []) (Same.refl H32) n4))
      clear I31 JE31 EW31 hw31 hl31
      generalize (upd H32 l4 (.lst [])) = H33 at I33 ⊢
      refine ⟨_, rfl, _, rfl, two, fun g2 ng2 => ?_⟩
      have I34 := I33.same (sameAt (o := .tup [.str "one", .int ar]) (Same.refl H33) ng2)
      have hg34 : (upd H33 g2 (.tup [.str "one", .int ar])) g2 = some (.tup [.str "one", .int ar]) := upd_same
      clear I33
      generalize (upd H33 g2 (.tup [.str "one", .int ar])) = H34 at I34 hg34 ⊢
      have e9 : wfind S9 (.str "one") = none := by
        show S9.find "one" = none
        unfold OS.find
        rw [eps]
        rfl
      refine ⟨{ oa with j := j' }, _, 6, g2, [.str "one", .int ar], rfl, I34.W.M.o, hg34, .inr (.inr (.inr (.inr (.inr (.inr (.inl ⟨rfl, .str "one", .int ar, rfl, _, _, { oa with j := j' }, S9, .str "one", .int ar, rfl, I34.W.M, str_ok (by decide), .inl ⟨_, rfl⟩, p9, fun x2 H35 en s35 hx => ?_, fun d x2 H16 ed => absurd (e9.symm.trans ed) (fun z => nomatch z), fun d n m x2 H16 ed => absurd (e9.symm.trans ed) (fun z => nomatch z), fun d n k x2 H16 ed => absurd (e9.symm.trans ed) (fun z => nomatch z), fun d n us' j' H16 ed => absurd (e9.symm.trans ed) (fun z => nomatch z)⟩))))))⟩
      refine .inl ⟨e.CI, "idle", "writer", x2, .str "one", List.mem_cons_self, rfl, rfl, hx, fun t10 n10 => ?_⟩
      have I36 := I34.same (s35.trans (sameAt (o := .tup [.str "idle", .str "one"]) (Same.refl H35) n10))
      have ht36 : (upd H35 t10 (.tup [.str "idle", .str "one"])) t10 = some (.tup [.str "idle", .str "one"]) := upd_same
      clear I34 hg34
      generalize (upd H35 t10 (.tup [.str "idle", .str "one"])) = H36 at I36 ht36 ⊢
      refine ⟨two, fun t11 n11 => ?_⟩
      have I37 := I36.same (sameAt (o := .tup [.str "idle", .str "one"]) (Same.refl H36) n11)
      refine Tl.ne (.str _ _ ((sameAt (o := .tup [.str "idle", .str "one"]) (Same.refl H36) n11) _ _ ht36) ok_idle okO) (.str _ _ upd_same ok_idle okO) ⟨_, rfl, iteF ?_⟩
      exact ⟨_, _, _, _, ⟨_, _, _, _, _, _, _, _, _, _, _, _, rfl⟩, I37.W, I37.t.dl, I37.t.bk⟩
    | some k =>
      rw [hw] at ht27
      have ht27 : H27 t8 = some (.tup [.str "entry", .int ((k : Int) - (xs.length : Int))]) := ht27
      refine ⟨oa, _, 6, g, [.str "one", .int ar], (by rw [I27.ao]; rfl), I27.W.M.o, hg27, .inr (.inr (.inr (.inr (.inr (.inr (.inl ⟨rfl, .str "one", .int ar, rfl, B, A, oa, _, .str "one", .int ar, rfl, I27.W.M, str_ok (by decide), .inl ⟨_, rfl⟩, Nat.zero_le _, fun x2 H28 en => absurd en fno, fun d x2 H28 ed ni => absurd (int_is ni) id, fun d n m x2 H28 ed er hs => ?_, fun d n k' x2 H28 ed er hs hj s28 hx => ?_, fun d n us9 j' H28 ed er hs hg6 hl6 fr M28 => ?_⟩))))))⟩
      · have e1 := fnd ed
        subst e1
        rw [nost] at hs; cases hs
      rotate_left
      · have e1 := fnd ed
        subst e1
        cases er
        have hg6 : (wk L ((xs ++ es.map (·.at_ ar)).map some) 0 (fun _ => none) none).1 = none := hg6
        rw [hw] at hg6; cases hg6
      have e1 := fnd ed
      subst e1
      cases er
      have hj : JBad L xs (es.map (·.at_ ar)) k' := hj
      have h := jb_bad hj (by rw [List.length_map]; omega)
      rw [hw] at h
      obtain rfl : k = xs.length + k' := Option.some.inj h
      rw [show (((xs.length + k' : Nat) : Int) - (xs.length : Int)) = (k' : Int) by omega] at ht27
      refine .inl ⟨e.CE, "entry", "at", x2, .int (k' : Int), List.mem_cons_of_mem _ (List.mem_cons_of_mem _ (List.mem_cons_of_mem _ List.mem_cons_self)), rfl, rfl, hx, fun t9 n9 => ?_⟩
      have s29 := s28.trans (sameAt (o := .tup [.str "entry", .int (k' : Int)]) (Same.refl H28) n9)
      have I29 := I27.same s29
      have ht29 := s29 _ _ ht27
      have hla29 := (I27.W.same s29).2.cut _ _ hla27
      have ht9 : (upd H28 t9 (.tup [.str "entry", .int (k' : Int)])) t9 = some (.tup [.str "entry", .int (k' : Int)]) := upd_same
      clear I27 hg27 ht27 hla27 s28 s29
      generalize (upd H28 t9 (.tup [.str "entry", .int (k' : Int)])) = H29 at I29 ht29 ht9 hla29 ⊢
      refine ⟨_, rfl, Tl.ne (.int _ _ ht9 ok_entry') (.int _ _ ht29 ok_entry') ⟨_, rfl, iteF ?_⟩⟩
      refine ⟨_, rfl, _, _, _, _, rfl, rfl, SqT.of ht29, rfl, rfl, _, rfl, iteF ?_⟩
      refine ⟨_, rfl, oa.o, oa.dx, _, rfl, I29.W.M.o, rfl, _, _, oa, _, .str "one", rfl, I29.W.M, str_ok (by decide), fun d l2 us2 H30 ed s30 n2 hl2 hW2 => ?_, fun e' H30 en => absurd en fno⟩
      have e1 := fnd ed
      subst e1
      have hW2 : WithN H30 us2 es .non := hW2
      have I30 := I29.same s30
      have hla30 := (I29.W.same s30).2.cut _ _ hla29
      clear I29 hla29 ht29 ht9
      have D3 := I30.d.D.same (cut_same _ _)
      refine ⟨_, rfl, q0, rfl, ⟨_, SqL.of I30.d.h⟩, fun D4 hD40 => ?_⟩
      refine lc_list (a := q0) (xs := ud) (fun i H4 => ∃ us', H4 D4 = some (.lst us') ∧ WithN H4 us' (es.take i) .non ∧ Same H30 H4) ⟨[], upd_same, ⟨rfl, fun _ _ _ e => nomatch e⟩, sameAt (Same.refl _) hD40⟩ (fun i H4 _ hv => by obtain ⟨_, _, _, h⟩ := hv; exact SqL.of (h _ _ I30.d.h)) ?_ ?_
      · rintro i v H5 hvi ⟨us', hD5, hW, s5⟩
        have hil := (List.getElem?_eq_some_iff.mp hvi).1
        obtain ⟨x, hx⟩ : ∃ x, es[i]? = some x := ⟨_, List.getElem?_eq_getElem (by rw [← (D3).1]; exact hil)⟩
        obtain ⟨e1, rfl, he, ok⟩ := (D3).2 i v x hvi hx
        have he5 : H5 e1 = some (.tup x.vs.dropLast) := s5 _ _ he
        refine ⟨rfl, _, rfl, one, fun t1 nt1 => ?_⟩
        have s6 : Same H5 (upd H5 t1 (.tup [.non])) := sameAt (Same.refl _) nt1
        have ne1 : x.vs.dropLast ≠ [] := by cases x <;> exact fun z => nomatch z
        refine ⟨e1, t1, _, _, rfl, rfl, SqT.of (s6 _ _ he5), SqT.of upd_same, ne1, (by have := vs_lenW x .non; rw [List.length_append] at this; exact this), (fun z => nomatch z), fun _ t2 nt2 => ?_⟩
        have s57 := s6.trans (sameAt (o := .tup (x.vs.dropLast ++ [.non])) (Same.refl _) nt2)
        have hul : us'.length ≤ 20 := by
          have := hW.1
          rw [List.length_take] at this
          omega
        have h2 : (upd (upd H5 t1 (.tup [.non])) t2 (.tup (x.vs.dropLast ++ [.non]))) t2 = some (.tup (x.vs.dropLast ++ [.non])) := upd_same
        generalize (upd (upd H5 t1 (.tup [.non])) t2 (.tup (x.vs.dropLast ++ [.non]))) = H7 at s57 h2 ⊢
        have hD7 := s57 _ _ hD5
        refine ⟨us', hD7, small1000 (by omega), us' ++ [.ref t2], upd_same, ?_, sameAt (s5.trans s57) hD40⟩
        rw [list_take' hx]
        have s8 : ∀ (k : Addr) (xs : List V), H7 k = some (.tup xs) → (upd H7 D4 (.lst (us' ++ [V.ref t2]))) k = some (.tup xs) := fun k xs h => by
          rw [upd_ne (fun z => by rw [z, hD7] at h; cases h)]
          exact h
        refine WithN.snoc ⟨hW.1, fun k v y a b => ?_⟩ (s8 _ _ h2) ok
        obtain ⟨e', h1, h2, h3⟩ := hW.2 k v y a b
        exact ⟨e', h1, s8 _ _ (s57 _ _ h2), h3⟩
      rintro H5 ⟨us', hD5, hW, s5⟩
      rw [List.take_of_length_le (by rw [hdl0]; exact Nat.le_refl _)] at hW
      refine neD_N (s5 _ _ hl2) (hW2.same s5) hD5 hW ⟨_, rfl, iteF ?_⟩
      have I31 := I30.same s5
      have hla31 := (I30.W.same s5).2.cut _ _ hla30
      clear I30 hla30 hW hW2 hD5 hl2 D3
      have Jx : JAt c.K c.aT c.CJ c.CB H5 oa.j oa.bj L us xs := I31.W.M.jr.same (cut_same _ _)
      have JE := Jx.ents
      obtain ⟨jx, jt, jk, j1, j2, j3, j4, j5, j6, j7⟩ := id Jx
      refine ⟨_, rfl, oa.o, c.CO, oa.dx, _, _, rfl, I31.W.M.o, T.cl, T.nJ, rfl, oa.j, c.CJ, jx, _, _, rfl, j1, TJ.cl, TJ.nE, jf_e _ _ _, jt, _, rfl, .inr j3, fun lq nlq => ?_⟩
      have s32 : Same H5 (upd H5 lq (.lst us)) := sameAt (Same.refl _) nlq
      have I32 := I31.same s32
      exact ⟨_, rfl, neD_ents upd_same (JE.same s32) (up I32.t.q1) (I32.t.E.same (cut_same _ _)) ⟨_, rfl, iteF ⟨_, _, ⟨_, _, _, _, _, _, rfl⟩, I32, (I31.W.same s32).2.cut _ _ hla31⟩⟩⟩
end
end Ash

set_option Elab.async false
set_option linter.all false
set_option maxRecDepth 100000
set_option maxHeartbeats 4000000
namespace Ash
open PySem PySem.Spec PyProof.Rows L2
/-! ### what the top has written -/
/-- a def of the top -/
structure D1 (K : PySem.W.Frag) (mg : Str → Option Value) (x : Str) (st : Stmt) : Prop where
  ex : ∃ (f : Addr) (fd : FuncData), mg x = some (.ref f) ∧ Fun K x x st f fd
/-- a method -/
structure DM (K : PySem.W.Frag) (C : Addr) (m qual : Str) (st : Stmt) : Prop where
  ex : ∃ (f : Addr) (fd : FuncData), Meth K C m f ∧ Fun K m qual st f fd
/-- a method at a known place -/
structure DQ (K : PySem.W.Frag) (C f : Addr) (m qual : Str) (st : Stmt) : Prop where
  ex : ∃ fd : FuncData, Meth K C m f ∧ Fun K m qual st f fd
/-- an __init__ with the default None -/
structure DN (K : PySem.W.Frag) (C : Addr) (qual : Str) (st : Stmt) : Prop where
  ex : ∃ (f : Addr) (fd : FuncData), Mk K C f ∧ FunD K "__init__" qual (defArgs st) (defBody st) (defScope st) [.non] [] f fd
/-- an __init__ with one default -/
structure DD (K : PySem.W.Frag) (C a : Addr) (qual : Str) (st : Stmt) : Prop where
  ex : ∃ (f : Addr) (fd : FuncData), Mk K C f ∧ FunD K "__init__" qual (defArgs st) (defBody st) (defScope st) [.ref a] [] f fd
section
variable {K : PySem.W.Frag} {h : Heap} {mg : Str → Option Value} {x qual : Str} {st : Stmt} {f C : Addr} {oc kV dc pm cdv ct : Value} {od an : Option Addr} {sl : Array (Option Value)}
theorem d1 (X : K.In h) (G : h.Ns mainGlobals mg) (a : PySem.W.nsIn K mainGlobals x = some (some (.ref f))) (l : K.lookup f = some ⟨oc, od, .func (PySem.W.fnOf x x (defArgs st) (defBody st) (defScope st) .none kV dc pm an cdv ct), sl⟩) (c : PySem.W.codeIn K cdv x = true) (k : PySem.W.keepIn K (.ref f) = true) : D1 K mg x st :=
  ⟨f, _, PySem.W.mg_of X G a, fun_mk l c k⟩
theorem dm (a : PySem.W.findIn K (.ref C) x = some (some (.ref f))) (i : PySem.W.isFn K (.ref f) = true) (l : K.lookup f = some ⟨oc, od, .func (PySem.W.fnOf x qual (defArgs st) (defBody st) (defScope st) .none kV dc pm an cdv ct), sl⟩) (c : PySem.W.codeIn K cdv qual = true) (k : PySem.W.keepIn K (.ref f) = true) : DM K C x qual st :=
  ⟨f, _, ⟨a, i, k⟩, fun_mk l c k⟩
theorem dq (a : PySem.W.findIn K (.ref C) x = some (some (.ref f))) (i : PySem.W.isFn K (.ref f) = true) (l : K.lookup f = some ⟨oc, od, .func (PySem.W.fnOf x qual (defArgs st) (defBody st) (defScope st) .none kV dc pm an cdv ct), sl⟩) (c : PySem.W.codeIn K cdv qual = true) (k : PySem.W.keepIn K (.ref f) = true) : DQ K C f x qual st :=
  ⟨_, ⟨a, i, k⟩, fun_mk l c k⟩
theorem dd {a T : Addr} {oT : Value} {dT : Option Addr} {slT : Array (Option Value)} {n : Nat} (m1 : PySem.W.makesIn K C = true) (m2 : PySem.W.findIn K (.ref C) "__init__" = some (some (.ref f))) (m3 : PySem.W.isFn K (.ref f) = true) (m4 : PySem.W.keepIn K (.ref C) = true)
    (l : K.lookup f = some ⟨oc, od, .func (PySem.W.fnOf "__init__" qual (defArgs st) (defBody st) (defScope st) (.ref T) kV dc pm an cdv ct), sl⟩) (lT : K.lookup T = some ⟨oT, dT, .seq #[.ref a] n, slT⟩) (c : PySem.W.codeIn K cdv qual = true) (k : PySem.W.keepIn K (.ref f) = true) : DD K C a qual st :=
  ⟨f, _, ⟨m1, m2, m3, m4⟩, ⟨⟨oc, od, .ref T, kV, dc, pm, an, cdv, ct, sl, rfl, l, c, .inr ⟨by simp, T, _, [.ref a], n, rfl, lT, rfl, .cons rfl .nil⟩, .inl rfl⟩, k⟩⟩
theorem dnn {T : Addr} {oT : Value} {dT : Option Addr} {slT : Array (Option Value)} {n : Nat} (m1 : PySem.W.makesIn K C = true) (m2 : PySem.W.findIn K (.ref C) "__init__" = some (some (.ref f))) (m3 : PySem.W.isFn K (.ref f) = true) (m4 : PySem.W.keepIn K (.ref C) = true)
    (l : K.lookup f = some ⟨oc, od, .func (PySem.W.fnOf "__init__" qual (defArgs st) (defBody st) (defScope st) (.ref T) kV dc pm an cdv ct), sl⟩) (lT : K.lookup T = some ⟨oT, dT, .seq #[.none] n, slT⟩) (c : PySem.W.codeIn K cdv qual = true) (k : PySem.W.keepIn K (.ref f) = true) : DN K C qual st :=
  ⟨f, _, ⟨m1, m2, m3, m4⟩, ⟨⟨oc, od, .ref T, kV, dc, pm, an, cdv, ct, sl, rfl, l, c, .inr ⟨by simp, T, _, [.none], n, rfl, lT, rfl, .cons rfl .nil⟩, .inl rfl⟩, k⟩⟩
theorem sq_of {a : Addr} {d : Option Addr} {n : Nat} (l : K.lookup a = some ⟨.type "tuple", d, .seq #[] n, sl⟩) (H : Hp) : SqT K H a [] := .inr ⟨_, #[], n, l, rfl, rfl, Nat.zero_le _, .nil⟩
theorem tt_mk {a : Addr} {d : Option Addr} {n : Nat} (l : K.lookup a = some ⟨.type "tuple", d, .seq #[] n, sl⟩) : ∃ (o : Obj) (n : Nat), K.lookup a = some o ∧ o.cls = .type "tuple" ∧ o.data = .seq #[] n := ⟨_, n, l, rfl, rfl⟩
end
section
variable {P : Program} {w : World} {K : PySem.W.Frag} {mg : Str → Option Value} {base : Heap} {CX : CXT} {x : Str} {st : Stmt} {ps : List Str} {k : Nat} {sp : Sp}
theorem cal_of (D : D1 K mg x st) (hb : ∀ (kV doc pm : Value) (an : Option Addr) (cdv ct : Value) (us : List Value), us.length = ps.length → bindArgs (PySem.W.fnOf x x (defArgs st) (defBody st) (defScope st) .none kV doc pm an cdv ct) ⟨us, []⟩ = pure (ps.zip us))
    (ok : ∀ f fd, Fun K x x st f fd → FnOk P w K mg base CX k f fd ps sp) : Cal P w K mg base CX x k ps sp := by
  obtain ⟨f, fd, hm, F⟩ := D.ex
  exact ⟨f, fd, hm, F.kp, F.binds hb, ok f fd F⟩
end
/-- a class is what its instances are -/
structure BkI (K : PySem.W.Frag) (CB : Addr) : Prop where
  ha : PySem.W.findIn K (.ref CB) "__class__" = some (some (.builtin "object.__class__"))
  hn : PySem.W.specialIn K (.builtin "object.__class__") "__get__" = some (some (.builtin "getset_descriptor.__get__"))
  ht : PySem.W.takesIn K (.builtin "object.__class__") = some true
  hm : PySem.W.mroIn K CB (.type "object") = some true
theorem ne_mk {K : PySem.W.Frag} {C f N : Addr} {nm q : Str} {bs : List Value} {hd ab : Bool} {sn : List Str} {sub : List Value} {col : Option Bool} {dd : Option Addr} {k0 k1 k2 k3 k5 : Option Value} {nid : String} {fo : Obj} (h1 : K.lookup C = some (excClassObj nm q C N bs [.type "object"] hd sn sub ab col dd k0 k1 k2 k3 k5 nid)) {oN : Value} {dN : Option Addr} {es : Array DictEntry} {nn : Nat} {slN : Array (Option Value)} (h2 : K.lookup N = some ⟨oN, dN, .dict es nn, slN⟩) (h7 : (es.toList.all fun e => match e.key with | .str _ _ => true | _ => false) = true) (h3 : PySem.W.nsIn K N "__eq__" = some (some (.ref f))) (h4 : PySem.W.nsIn K N "__ne__" = some none) (h5 : K.lookup f = some fo) (h6 : fo.cls = .type "function") : NeC K C f :=
  ⟨⟨nm, q, N, bs, hd, sn, sub, ab, col, dd, k0, k1, k2, k3, k5, nid, fo, h1, by unfold PySem.W.nsOkIn; rw [h2]; exact (Array.all_toList ..).symm.trans h7, h3, h4, h5, h6⟩⟩
theorem kit_ref {K : PySem.W.Frag} {C : Addr} {T : String} {b : Bool} (hm : PySem.W.kitMeta T = true) (h : PySem.W.subIn K (.ref C) (.type T) = some b) : PySem.W.kitOne K (.ref C) (.type T) = some b := by
  have e : (Value.ref C == Value.type T) = false := rfl
  unfold PySem.W.kitOne PySem.W.kitCls
  rw [e, if_neg Bool.false_ne_true]
  show (if PySem.W.kitMeta T = true then _ else _) = _
  rw [if_pos hm]
  exact h
theorem exm_me {K : PySem.W.Frag} {C : Addr} (h1 : PySem.W.subIn K (.ref C) (.type "BaseException") = some true) (h2 : PySem.W.isClsIn K C = true) (h3 : PySem.W.typeIn K (.ref C) = some (.type "type")) (h4 : PySem.W.subIn K (.ref C) (.ref C) = some true) : PySem.W.exmOne K (.ref C) (.ref C) = some true := by
  have h2' : (PySem.W.clsIn K C).isSome = true := h2
  simp [PySem.W.exmOne, PySem.W.kitCls, h1, h2', h3, h4]
theorem exm_no {K : PySem.W.Frag} {C D : Addr} (h1 : PySem.W.subIn K (.ref D) (.type "BaseException") = some true) (h2 : PySem.W.isClsIn K D = true) (h3 : PySem.W.typeIn K (.ref D) = some (.type "type")) (h4 : PySem.W.subIn K (.ref C) (.ref D) = some false) : PySem.W.exmOne K (.ref C) (.ref D) = some false := by
  have h2' : (PySem.W.clsIn K D).isSome = true := h2
  simp [PySem.W.exmOne, PySem.W.kitCls, h1, h2', h3, h4]
open PySem.W PySem.Calls PySem.HandSPX in
/-- the facts of an own error's class -/
theorem txt_mk {P : Program} {K : PySem.W.Frag} {h : Heap} {mg : Str → Option Value} {par fl : Str} {C fI N cda cc : Addr} {nm q qual tx file : Str} {bs bm sub : List Value} {sn : List Str} {ab : Bool} {col : Option Bool} {dd : Option Addr} {m0 m1 m2 m3 m5 : Option Value}
    {oc doc pm ct ccl cl : Value} {od an cdd cld : Option Addr} {osl ccs csl : Array (Option Value)} {vs : Array Value} {pa : Arguments} {p0 p1 p2 p3 p4 p5 p6 p7 p8 p9 : Pos} {j : Nat} {a0 : Arg} {tf : Nat} (X : K.In h) (G : h.Ns mainGlobals mg)
    (cls : K.lookup C = some (excClassObj nm q C N bs bm true sn sub ab col dd m0 m1 m2 m3 m5 "ValueError.__new__")) (ref : PySem.HandSPX.refsVE bm = true)
    (sa : PySem.W.findIn K (.ref C) "__setattr__" = some (some (.builtin "object.__setattr__"))) (ga : PySem.W.findIn K (.ref C) "__getattribute__" = some (some (.builtin "BaseException.__getattribute__"))) (gg : PySem.W.findIn K (.ref C) "__getattr__" = some none) (noN : PySem.W.findIn K (.ref C) fl = some none)
    (iC : PySem.W.findIn K (.ref C) "__init__" = some (some (.ref fI))) (tC : PySem.W.typeIn K (.ref fI) = some (.type "function")) (kC : PySem.W.keepIn K (.ref C) = true) (exC : PySem.W.subIn K (.ref C) (.type "BaseException") = some true) (veC : PySem.W.subIn K (.ref C) (.type "ValueError") = some true)
    (slf : PySem.W.mroIn K C (.ref C) = some true) (tyC : PySem.W.typeIn K (.ref C) = some (.type "type")) (hdC : PySem.W.hasDictIn K C = true) (isC : PySem.W.isClsIn K C = true) (sC : PySem.W.subIn K (.ref C) (.ref C) = some true)
    (along : PySem.W.ks_superIn K C C "__init__" = some (some (.builtin "ValueError.__init__"))) (opq : PySem.W.nsIn K cStatics "thirdparty.any" = some none) (sup : PySem.W.nsIn K mainGlobals "super" = some none) (top : (P.main.scope.names.lookup ("super" : Str)).isSome = false)
    (lf : K.lookup fI = some ⟨oc, od, .func (PySem.W.ksFn "__init__" qual pa (PySem.BadX.shape tx par fl p0 p1 p2 p3 p4 p5 p6 p7 p8 p9 j) (PySem.BadX.sco par) .none .none doc pm an (.ref cda) ct cc), osl⟩) (cd : PySem.W.codeIn K (.ref cda) qual = true) (ha0 : (pa.posonlyargs ++ pa.args).head? = some a0) (ha1 : a0.arg = "self")
    (bd : ∀ (s : Shared) (u v : Value), BindsTo s (PySem.W.ksFn "__init__" qual pa (PySem.BadX.shape tx par fl p0 p1 p2 p3 p4 p5 p6 p7 p8 p9 j) (PySem.BadX.sco par) .none .none doc pm an (.ref cda) ct cc) ⟨[u, v], []⟩ [("self", u), (par, v)])
    (lc : K.lookup cda = some ⟨ccl, cdd, .fields vs, ccs⟩) (hvs : vs[2]? = some (.str file tf)) (hfile : ((P.main.file : Str) == file) = true) (hpe : (p2.endLine == p4.line) = true) (lcc : K.lookup cc = some ⟨cl, cld, .cell (some (.ref C)), csl⟩) : PySem.BadX.Txt P K mg par fl C fI :=
  { cls := ⟨nm, q, N, bs, bm, sn, sub, ab, col, dd, m0, m1, m2, m3, m5, cls, ref⟩, sa := sa, ga := ga, gg := gg, noN := noN, iC := iC, tC := tC, kC := kC, exC := exC, veC := veC, slf := slf, tyC := tyC, hdC := hdC, te := exm_me exC isC tyC sC, along := along, opq := opq, sup := PySem.W.mg_none_of X G sup, top := top,
    fn := ⟨oc, od, qual, tx, doc, pm, an, cda, cc, ct, osl, pa, p0, p1, p2, p3, p4, p5, p6, p7, p8, p9, j, a0, lf, cd, ha0, ha1, bd, ⟨ccl, cdd, vs, ccs, file, tf, lc, hvs, hfile⟩, hpe, ⟨cl, cld, csl, lcc⟩⟩ }
theorem ex_int {K : PySem.W.Frag} {h : Heap} {mg : Str → Option Value} {x : Str} {n : Int} {t : Tok} (X : K.In h) (G : h.Ns mainGlobals mg) (a : PySem.W.nsIn K mainGlobals x = some (some (.int n t))) : ∃ t, mg x = some (.int n t) := ⟨_, PySem.W.mg_of X G a⟩
theorem ex_str {K : PySem.W.Frag} {h : Heap} {mg : Str → Option Value} {x z : Str} {t : Tok} (X : K.In h) (G : h.Ns mainGlobals mg) (a : PySem.W.nsIn K mainGlobals x = some (some (.str z t))) : ∃ t, mg x = some (.str z t) := ⟨_, PySem.W.mg_of X G a⟩
/-- an own error without an __init__, beneath another one -/
theorem exc_mk {K : PySem.W.Frag} {C D N N2 : Addr} {nm q nm2 q2 : Str} {bs bs2 sub sub2 : List Value} {hd ab hd2 ab2 : Bool} {sn sn2 : List Str} {col col2 : Option Bool} {dd dd2 : Option Addr} {k0 k1 k2 k3 k5 l0 l1 l2 l3 l5 : Option Value} {nid2 : String}
    {oN oM : Value} {dN dM : Option Addr} {es es2 : Array DictEntry} {nn nn2 : Nat} {slN slM : Array (Option Value)}
    (h1 : K.lookup C = some (excClassObj nm q C N bs (.ref D :: veB) hd sn sub ab col dd k0 k1 k2 k3 k5 "ValueError.__new__")) (h2 : K.lookup N = some ⟨oN, dN, .dict es nn, slN⟩) (h3 : (es.toList.all fun e => match e.key with | .str _ _ => true | _ => false) = true) (h4 : PySem.W.nsIn K N "__init__" = some none)
    (h5 : K.lookup D = some (excClassObj nm2 q2 D N2 bs2 veB hd2 sn2 sub2 ab2 col2 dd2 l0 l1 l2 l3 l5 nid2)) (h6 : K.lookup N2 = some ⟨oM, dM, .dict es2 nn2, slM⟩) (h7 : (es2.toList.all fun e => match e.key with | .str _ _ => true | _ => false) = true) (h8 : PySem.W.nsIn K N2 "__init__" = some none) :
    PySem.W.excIn K C veB "ValueError.__new__" = true := by
  have n1 : PySem.W.nsOkIn K N = true := by unfold PySem.W.nsOkIn; rw [h2]; exact (Array.all_toList ..).symm.trans h3
  have n2 : PySem.W.nsOkIn K N2 = true := by unfold PySem.W.nsOkIn; rw [h6]; exact (Array.all_toList ..).symm.trans h7
  have t0 : PySem.W.tailIn K veB veB = true := by unfold PySem.W.tailIn; rfl
  have t : PySem.W.tailIn K veB (.ref D :: veB) = true := by
    unfold PySem.W.tailIn
    dsimp only
    rw [h5]
    simp [excClassObj, n2, h8, t0]
  unfold PySem.W.excIn
  rw [h1]
  simp [excClassObj, t, n1, h4]
end Ash

set_option Elab.async false
set_option linter.all false
set_option maxRecDepth 100000
set_option maxHeartbeats 4000000
namespace Ash
open PySem PySem.Spec PyProof.Rows L2
section
variable {P : Program} {w : World} {K : PySem.W.Frag} {mg : Str → Option Value} {base : Heap}
theorem all_ok {CB CJ CE CO CD CI CY CS CM CN CT fE fI fY fS fM fN aT aE fBeq : Addr}
    (B : Blt mg)
    (Cs : Cst mg)
    (TB : Cb K mg CB)
    (T : Cj P K mg CJ CB)
    (Tt : Tb K mg aT)
    (cE : mg "BadEntry" = some (.ref CE))
    (TE : PySem.BadX.Txt P K mg "at" "at" CE fE)
    (bi : BkI K CB)
    (ji : BkI K CJ)
    (mkB : PySem.W.makesIn K CB = true)
    (kB : PySem.W.keepIn K (.ref CB) = true)
    (C2 : Cst2 mg)
    (C3 : Cst3 mg)
    (TO : Co K mg CO)
    (TD : Cd K mg CD)
    (cI : mg "Idle" = some (.ref CI))
    (cY : mg "Busy" = some (.ref CY))
    (cS : mg "Stale" = some (.ref CS))
    (cM : mg "BadMoment" = some (.ref CM))
    (cN : mg "BadName" = some (.ref CN))
    (cT : mg "NothingDone" = some (.ref CT))
    (TI : PySem.BadX.Txt P K mg "writer" "writer" CI fI)
    (TY : PySem.BadX.Txt P K mg "writer" "writer" CY fY)
    (TS : PySem.BadX.Txt P K mg "number" "id" CS fS)
    (TM : PySem.BadX.Txt P K mg "value" "value" CM fM)
    (TN : PySem.BadX.Txt P K mg "value" "value" CN fN)
    (xT : PySem.W.excIn K CT veB "ValueError.__new__" = true)
    (kT : PySem.W.keepIn K (.ref CT) = true)
    (bT : PySem.W.subIn K (.ref CT) (.type "BaseException") = some true)
    (tT : PySem.W.typeIn K (.ref CT) = some (.type "type"))
    (nTT : PySem.W.exmOne K (.ref CT) (.ref CT) = some true)
    (nYI : PySem.W.exmOne K (.ref CY) (.ref CI) = some false)
    (nSI : PySem.W.exmOne K (.ref CS) (.ref CI) = some false)
    (nSY : PySem.W.exmOne K (.ref CS) (.ref CY) = some false)
    (nEI : PySem.W.exmOne K (.ref CE) (.ref CI) = some false)
    (nEY : PySem.W.exmOne K (.ref CE) (.ref CY) = some false)
    (nES : PySem.W.exmOne K (.ref CE) (.ref CS) = some false)
    (nMI : PySem.W.exmOne K (.ref CM) (.ref CI) = some false)
    (nMY : PySem.W.exmOne K (.ref CM) (.ref CY) = some false)
    (nMS : PySem.W.exmOne K (.ref CM) (.ref CS) = some false)
    (nME : PySem.W.exmOne K (.ref CM) (.ref CE) = some false)
    (nNI : PySem.W.exmOne K (.ref CN) (.ref CI) = some false)
    (nNY : PySem.W.exmOne K (.ref CN) (.ref CY) = some false)
    (nNS : PySem.W.exmOne K (.ref CN) (.ref CS) = some false)
    (nNE : PySem.W.exmOne K (.ref CN) (.ref CE) = some false)
    (nNM : PySem.W.exmOne K (.ref CN) (.ref CM) = some false)
    (nTI : PySem.W.exmOne K (.ref CT) (.ref CI) = some false)
    (nTY : PySem.W.exmOne K (.ref CT) (.ref CY) = some false)
    (nTS : PySem.W.exmOne K (.ref CT) (.ref CS) = some false)
    (nTE : PySem.W.exmOne K (.ref CT) (.ref CE) = some false)
    (nTM : PySem.W.exmOne K (.ref CT) (.ref CM) = some false)
    (nTN : PySem.W.exmOne K (.ref CT) (.ref CN) = some false)
    (mkD : PySem.W.makesIn K CD = true)
    (kD : PySem.W.keepIn K (.ref CD) = true)
    (m_OI : DN K CO "Office.__init__" s_Office_init)
    (d_is_integer : D1 K mg "is_integer" s_is_integer)
    (d_is_natural : D1 K mg "is_natural" s_is_natural)
    (d_is_name : D1 K mg "is_name" s_is_name)
    (d_are_integers : D1 K mg "are_integers" s_are_integers)
    (d_is_late : D1 K mg "is_late" s_is_late)
    (d_is_lates : D1 K mg "is_lates" s_is_lates)
    (d_is_entry : D1 K mg "is_entry" s_is_entry)
    (d_arrival_of : D1 K mg "arrival_of" s_arrival_of)
    (d_placed : D1 K mg "placed" s_placed)
    (d_row_behind : D1 K mg "row_behind" s_row_behind)
    (d_walked : D1 K mg "walked" s_walked)
    (d_is_row : D1 K mg "is_row" s_is_row)
    (m_Init : DM K CB "__init__" "Book.__init__" s_Book_init)
    (m_Has : DM K CB "has" "Book.has" s_Book_has)
    (m_Late : DM K CB "late" "Book.late" s_Book_late)
    (m_J : DD K CJ aE "Journal.__init__" s_Journal_init)
    (m_Then : DM K CJ "then" "Journal.then" s_Journal_then)
    (m_Len : DM K CJ "__len__" "Journal.__len__" s_Journal_len)
    (m_Beq : DQ K CB fBeq "__eq__" "Book.__eq__" s_Book_eq)
    (bne : NeC K CB fBeq)
    (m_DInit : DM K CD "__init__" "Draft.__init__" s_Draft_init)
    (m_DraftOf : DM K CO "_draft_of" "Office._draft_of" s_Officedraft_of)
    (m_Begin : DM K CO "begin" "Office.begin" s_Office_begin)
    (m_Put : DM K CO "_put" "Office._put" s_Officeput)
    (m_Row : DM K CO "row" "Office.row" s_Office_row)
    (m_Fix : DM K CO "fix" "Office.fix" s_Office_fix)
    (m_Gone : DM K CO "gone" "Office.gone" s_Office_gone)
    (m_Drop : DM K CO "drop" "Office.drop" s_Office_drop)
    (m_Tell : DM K CO "draft" "Office.draft" s_Office_draft)
    (m_Writers : DM K CO "writers" "Office.writers" s_Office_writers)
    (m_Fresh : DM K CO "_check_fresh" "Office._check_fresh" s_Officecheck_fresh)
    (m_Behind : DM K CO "_journal_behind" "Office._journal_behind" s_Officejournal_behind)
    (m_Close : DM K CO "close" "Office.close" s_Office_close)
    (m_Undo : DM K CO "undo" "Office.undo" s_Office_undo)
    (d__law_called : D1 K mg "_law_called" s_l_called)
    (d__law_done : D1 K mg "_law_done" s_l_done)
    (d__law_put_in : D1 K mg "_law_put_in" s_l_put_in)
    (d__law_pool : D1 K mg "_law_pool" s_l_pool)
    (d__law_draw : D1 K mg "_law_draw" s_l_draw)
    (d__law_names : D1 K mg "_law_names" s_l_names)
    (d__law_lates : D1 K mg "_law_lates" s_l_lates)
    (d__law_amount : D1 K mg "_law_amount" s_l_amount)
    (d__law_entry : D1 K mg "_law_entry" s_l_entry)
    (d__law_put : D1 K mg "_law_put" s_l_put)
    (d__law_entries : D1 K mg "_law_entries" s_l_entries)
    (d__law_states : D1 K mg "_law_states" s_l_states)
    (d__law_drafted : D1 K mg "_law_drafted" s_l_drafted)
    (d__law_is_good : D1 K mg "_law_is_good" s_l_is_good)
    (d__law_bad_from : D1 K mg "_law_bad_from" s_l_bad_from)
    (d__law_due : D1 K mg "_law_due" s_l_due)
    (d__law_full : D1 K mg "_law_full" s_l_full)
    {f : Addr} {fd : FuncData} (F_law : Fun K "law" "law" s_law f fd) : FnOk P w K mg base CX0 17 f fd ["_law_script"] (spLawN K) := by
  have bk : ∀ H b dx fs, H b = some (.ins CB dx fs) → TyX K H (.ref b) (.ref CB) := fun H b dx fs h => .base (.ins h TB.cl bi.ha bi.hn bi.ht bi.hm)
  have jk : ∀ H b dx fs, H b = some (.ins CJ dx fs) → TyX K H (.ref b) (.ref CJ) := fun H b dx fs h => .base (.ins h T.cl ji.ha ji.hn ji.ht ji.hm)
  have c_is_integer := cal_of (P := P) (w := w) (base := base) (ps := ["thing"]) d_is_integer (fun _ _ _ _ _ _ us hl => match us, hl with | [_], _ => rfl) fun f fd F => ok_is_integer F B
  have k1 : K1 P w K mg base := ⟨c_is_integer⟩
  have c_is_natural := cal_of (P := P) (w := w) (base := base) (ps := ["thing"]) d_is_natural (fun _ _ _ _ _ _ us hl => match us, hl with | [_], _ => rfl) fun f fd F => ok_is_natural F B k1
  have c_is_name := cal_of (P := P) (w := w) (base := base) (ps := ["thing"]) d_is_name (fun _ _ _ _ _ _ us hl => match us, hl with | [_], _ => rfl) fun f fd F => ok_is_name F B Cs
  have k2 : K2 P w K mg base := ⟨k1, c_is_natural, c_is_name⟩
  have c_are_integers := cal_of (P := P) (w := w) (base := base) (ps := ["things"]) d_are_integers (fun _ _ _ _ _ _ us hl => match us, hl with | [_], _ => rfl) fun f fd F => ok_are_integers F B k2
  have c_is_late := cal_of (P := P) (w := w) (base := base) (ps := ["thing"]) d_is_late (fun _ _ _ _ _ _ us hl => match us, hl with | [_], _ => rfl) fun f fd F => ok_is_late F B Cs k2
  have k3 : K3 P w K mg base := ⟨k2, c_are_integers, c_is_late⟩
  have c_is_lates := cal_of (P := P) (w := w) (base := base) (ps := ["thing"]) d_is_lates (fun _ _ _ _ _ _ us hl => match us, hl with | [_], _ => rfl) fun f fd F => ok_is_lates F B Cs k3
  have k4 : K4 P w K mg base := ⟨k3, c_is_lates⟩
  obtain ⟨fInit, fdInit, mInit, FInit⟩ := m_Init.ex
  have bInit : Binds K fdInit ["self", "lates"] [] := FInit.binds (ps := ["self", "lates"]) fun _ _ _ _ _ _ us hl => match us, hl with | [_, _], _ => rfl
  have oInit := ok_book_init (P := P) (w := w) (base := base) FInit B TB k4
  obtain ⟨fHas, fdHas, mHas, FHas⟩ := m_Has.ex
  have bHas : Binds K fdHas ["self", "stream"] [] := FHas.binds (ps := ["self", "stream"]) fun _ _ _ _ _ _ us hl => match us, hl with | [_, _], _ => rfl
  have oHas := ok_book_has (P := P) (w := w) (base := base) FHas B TB k4
  obtain ⟨fLate, fdLate, mLate, FLate⟩ := m_Late.ex
  have bLate : Binds K fdLate ["self", "stream"] [] := FLate.binds (ps := ["self", "stream"]) fun _ _ _ _ _ _ us hl => match us, hl with | [_, _], _ => rfl
  have oLate := ok_book_late (P := P) (w := w) (base := base) FLate B TB mHas bHas oHas
  have c_is_entry := cal_of (P := P) (w := w) (base := base) (ps := ["thing"]) d_is_entry (fun _ _ _ _ _ _ us hl => match us, hl with | [_], _ => rfl) fun f fd F => ok_is_entry F B k4.toK3
  have c_arrival_of := cal_of (P := P) (w := w) (base := base) (ps := ["entry"]) d_arrival_of (fun _ _ _ _ _ _ us hl => match us, hl with | [_], _ => rfl) fun f fd F => ok_arrival_of F B
  have c_placed := cal_of (P := P) (w := w) (base := base) (ps := ["book", "row", "arrival"]) d_placed (fun _ _ _ _ _ _ us hl => match us, hl with | [_, _, _], _ => rfl) fun f fd F => ok_placed F B TB mLate bLate oLate
  have k5 : K5 P w K mg base CB := ⟨k4, c_is_entry, c_arrival_of, c_placed⟩
  have c_row_behind := cal_of (P := P) (w := w) (base := base) (ps := ["book", "entry", "old"]) d_row_behind (fun _ _ _ _ _ _ us hl => match us, hl with | [_, _, _], _ => rfl) fun f fd F => ok_row_behind F B TB Tt k5 mHas bHas oHas mLate bLate oLate
  have k6 : K6 P w K mg base CB aT := ⟨k5, c_row_behind⟩
  have c_walked := cal_of (P := P) (w := w) (base := base) (ps := ["book", "things"]) d_walked (fun _ _ _ _ _ _ us hl => match us, hl with | [_, _], _ => rfl) fun f fd F => ok_walked F B k6
  have c_is_row := cal_of (P := P) (w := w) (base := base) (ps := ["thing"]) d_is_row (fun _ _ _ _ _ _ us hl => match us, hl with | [_], _ => rfl) fun f fd F => ok_is_row F B
  have k7 : K7 P w K mg base CB aT := ⟨k6, c_walked, c_is_row⟩
  obtain ⟨fJ, fdJ, mJ, FJ⟩ := m_J.ex
  have oJ := ok_j_initN (P := P) (w := w) (base := base) FJ B Cs T TB TE cE bk k7
  obtain ⟨ds3, v3, bJ3⟩ := FJ.binds1 (ps := ["self", "book", "entries"]) 3 1 (by simp) rfl fun T kV doc pm an cdv ct us its h1 h2 => match us, its, h1, h2 with | [_, _, _], [_], _, _ => ⟨_, rfl, rfl⟩
  cases v3
  have k8n : K8N P w K mg base CB aT CJ CE := ⟨k7, ⟨fJ, fdJ, mJ, T.c, bJ3, oJ⟩⟩
  obtain ⟨fDInit, fdDInit, mDInit, FDInit⟩ := m_DInit.ex
  have bDInit : Binds K fdDInit ["self", "begun"] [] := FDInit.binds (ps := ["self", "begun"]) fun _ _ _ _ _ _ us hl => match us, hl with | [_, _], _ => rfl
  have oDInit := ok_draft_init (P := P) (w := w) (base := base) FDInit TD
  have go : GO P w mg base (⟨K, aT, CJ, CB, CO, CD⟩ : Cls6) CE CI CN CY fE fI fN fY := { toK8N := k8n, T := TO, TB := TB, TJ := T, TD := TD, TE := TE, TI := TI, TN := TN, TY := TY, c_BadEntry := cE, c_Idle := cI, c_BadName := cN, c_Busy := cY, Draft := ⟨fDInit, fdDInit, ⟨mkD, mDInit.at_, mDInit.fn, kD⟩, TD.c, bDInit, oDInit⟩, has := ⟨fHas, fdHas, mHas, bHas, oHas⟩, C1 := Cs, C2 := C2 }
  obtain ⟨fDraftOf, fdDraftOf, mDraftOf, FDraftOf⟩ := m_DraftOf.ex
  have bDraftOf : Binds K fdDraftOf ["self", "writer"] [] := FDraftOf.binds (ps := ["self", "writer"]) fun _ _ _ _ _ _ us hl => match us, hl with | [_, _], _ => rfl
  have oDraftOf := ok_draftO (P := P) (w := w) (base := base) (c := ⟨K, aT, CJ, CB, CO, CD⟩) FDraftOf go
  have go2 : GO2 P w mg base (⟨K, aT, CJ, CB, CO, CD⟩ : Cls6) CE CI CN CY fE fI fN fY := ⟨go, ⟨fDraftOf, fdDraftOf, mDraftOf, bDraftOf, oDraftOf⟩⟩
  obtain ⟨fBegin, fdBegin, mBegin, FBegin⟩ := m_Begin.ex
  have bBegin : Binds K fdBegin ["self", "writer"] [] := FBegin.binds (ps := ["self", "writer"]) fun _ _ _ _ _ _ us hl => match us, hl with | [_, _], _ => rfl
  have oBegin := ok_beginO (P := P) (w := w) (base := base) (c := ⟨K, aT, CJ, CB, CO, CD⟩) FBegin go
  obtain ⟨fPut, fdPut, mPut, FPut⟩ := m_Put.ex
  have bPut : Binds K fdPut ["self", "writer", "entry"] [] := FPut.binds (ps := ["self", "writer", "entry"]) fun _ _ _ _ _ _ us hl => match us, hl with | [_, _, _], _ => rfl
  have oPut := ok_putO (P := P) (w := w) (base := base) (c := ⟨K, aT, CJ, CB, CO, CD⟩) FPut B go2
  have go3 : GO3 P w mg base (⟨K, aT, CJ, CB, CO, CD⟩ : Cls6) CE CI CN CY fE fI fN fY := ⟨go2, ⟨fPut, fdPut, mPut, bPut, oPut⟩⟩
  obtain ⟨fRow, fdRow, mRow, FRow⟩ := m_Row.ex
  have bRow : Binds K fdRow ["self", "writer", "number", "stream", "key", "moment", "amount"] [] := FRow.binds (ps := ["self", "writer", "number", "stream", "key", "moment", "amount"]) fun _ _ _ _ _ _ us hl => match us, hl with | [_, _, _, _, _, _, _], _ => rfl
  have oRow := ok_rowO (P := P) (w := w) (base := base) (c := ⟨K, aT, CJ, CB, CO, CD⟩) FRow go3
  obtain ⟨fFix, fdFix, mFix, FFix⟩ := m_Fix.ex
  have bFix : Binds K fdFix ["self", "writer", "number", "moment", "amount"] [] := FFix.binds (ps := ["self", "writer", "number", "moment", "amount"]) fun _ _ _ _ _ _ us hl => match us, hl with | [_, _, _, _, _], _ => rfl
  have oFix := ok_fixO (P := P) (w := w) (base := base) (c := ⟨K, aT, CJ, CB, CO, CD⟩) FFix go3
  obtain ⟨fGone, fdGone, mGone, FGone⟩ := m_Gone.ex
  have bGone : Binds K fdGone ["self", "writer", "number"] [] := FGone.binds (ps := ["self", "writer", "number"]) fun _ _ _ _ _ _ us hl => match us, hl with | [_, _, _], _ => rfl
  have oGone := ok_goneO (P := P) (w := w) (base := base) (c := ⟨K, aT, CJ, CB, CO, CD⟩) FGone go3
  obtain ⟨fDrop, fdDrop, mDrop, FDrop⟩ := m_Drop.ex
  have bDrop : Binds K fdDrop ["self", "writer"] [] := FDrop.binds (ps := ["self", "writer"]) fun _ _ _ _ _ _ us hl => match us, hl with | [_, _], _ => rfl
  have oDrop := ok_dropO (P := P) (w := w) (base := base) (c := ⟨K, aT, CJ, CB, CO, CD⟩) FDrop go2
  obtain ⟨fTell, fdTell, mTell, FTell⟩ := m_Tell.ex
  have bTell : Binds K fdTell ["self", "writer"] [] := FTell.binds (ps := ["self", "writer"]) fun _ _ _ _ _ _ us hl => match us, hl with | [_, _], _ => rfl
  have oTell := ok_tellO (P := P) (w := w) (base := base) (c := ⟨K, aT, CJ, CB, CO, CD⟩) FTell go2
  obtain ⟨fWriters, fdWriters, mWriters, FWriters⟩ := m_Writers.ex
  have bWriters : Binds K fdWriters ["self"] [] := FWriters.binds (ps := ["self"]) fun _ _ _ _ _ _ us hl => match us, hl with | [_], _ => rfl
  have oWriters := ok_writersO (P := P) (w := w) (base := base) (c := ⟨K, aT, CJ, CB, CO, CD⟩) FWriters B TO
  obtain ⟨fFresh, fdFresh, mFresh, FFresh⟩ := m_Fresh.ex
  have bFresh : Binds K fdFresh ["self", "draft"] [] := FFresh.binds (ps := ["self", "draft"]) fun _ _ _ _ _ _ us hl => match us, hl with | [_, _], _ => rfl
  have oFresh := ok_freshO (P := P) (w := w) (base := base) (c := ⟨K, aT, CJ, CB, CO, CD⟩) FFresh C3 TO TD T TS (⟨by decide, by decide +kernel, by decide +kernel, by decide +kernel, by decide +kernel⟩ : PySem.BadX.Par "number") cS
  obtain ⟨fThen, fdThen, mThen, FThen⟩ := m_Then.ex
  have bThen : Binds K fdThen ["self", "entry"] [] := FThen.binds (ps := ["self", "entry"]) fun _ _ _ _ _ _ us hl => match us, hl with | [_, _], _ => rfl
  have oThen := ok_thenN (P := P) (w := w) (base := base) FThen B Cs T TE cE k8n
  have go4 : GO4 P w mg base (⟨K, aT, CJ, CB, CO, CD⟩ : Cls6) CE fE := ⟨TO, T, TE, cE, ⟨fThen, fdThen, mThen, bThen, oThen⟩⟩
  obtain ⟨fBehind, fdBehind, mBehind, FBehind⟩ := m_Behind.ex
  have bBehind : Binds K fdBehind ["self", "entries"] [] := FBehind.binds (ps := ["self", "entries"]) fun _ _ _ _ _ _ us hl => match us, hl with | [_, _], _ => rfl
  have oBehind := ok_behindO (P := P) (w := w) (base := base) (c := ⟨K, aT, CJ, CB, CO, CD⟩) FBehind B go4
  obtain ⟨fLen, fdLen, mLen, FLen⟩ := m_Len.ex
  have bLen : Binds K fdLen ["self"] [] := FLen.binds (ps := ["self"]) fun _ _ _ _ _ _ us hl => match us, hl with | [_], _ => rfl
  have oLen := ok_jlen (P := P) (w := w) (base := base) (aT := aT) FLen B T
  have go5 : GO5 P w mg base (⟨K, aT, CJ, CB, CO, CD⟩ : Cls6) CI CM CS CE fM := ⟨TO, T, TD, TM, cM, c_is_integer, ⟨fDraftOf, fdDraftOf, mDraftOf, bDraftOf, oDraftOf⟩, ⟨fFresh, fdFresh, mFresh, bFresh, oFresh⟩, ⟨fBehind, fdBehind, mBehind, bBehind, oBehind⟩⟩
  obtain ⟨fClose, fdClose, mClose, FClose⟩ := m_Close.ex
  have bClose : Binds K fdClose ["self", "writer", "arrival"] [] := FClose.binds (ps := ["self", "writer", "arrival"]) fun _ _ _ _ _ _ us hl => match us, hl with | [_, _, _], _ => rfl
  have oClose := ok_closeO (P := P) (w := w) (base := base) (c := ⟨K, aT, CJ, CB, CO, CD⟩) FClose B go5 oLen mLen.at_ mLen.fn bLen
  have go6 : GO6 P w mg base (⟨K, aT, CJ, CB, CO, CD⟩ : Cls6) CT CE := { toK8N := k8n, T := TO, TJ := T, xT := xT, gT := cT, kT := kT, bT := bT, tT := tT }
  obtain ⟨fUndo, fdUndo, mUndo, FUndo⟩ := m_Undo.ex
  have bUndo : Binds K fdUndo ["self"] [] := FUndo.binds (ps := ["self"]) fun _ _ _ _ _ _ us hl => match us, hl with | [_], _ => rfl
  have oUndo := ok_undoO (P := P) (w := w) (base := base) (c := ⟨K, aT, CJ, CB, CO, CD⟩) FUndo B go6
  obtain ⟨fdBeq, mBeq, FBeq⟩ := m_Beq.ex
  have bBeq : Binds K fdBeq ["self", "other"] [] := FBeq.binds (ps := ["self", "other"]) fun _ _ _ _ _ _ us hl => match us, hl with | [_, _], _ => rfl
  have oBeq := ok_book_eqV (P := P) (w := w) (base := base) FBeq B TB bk
  obtain ⟨fOI, fdOI, mOI, FOI⟩ := m_OI.ex
  have oOI := ok_ofInit (P := P) (w := w) (base := base) (c := ⟨K, aT, CJ, CB, CO, CD⟩) FOI B TO TB T bk jk oLen mLen.at_ mLen.fn bLen bne bBeq oBeq
  obtain ⟨ds4, v4, bOI⟩ := FOI.binds1 (ps := ["self", "book", "journal"]) 3 1 (by simp) rfl fun T kV doc pm an cdv ct us its h1 h2 => match us, its, h1, h2 with | [_, _, _], [_], _, _ => ⟨_, rfl, rfl⟩
  cases v4
  have gc : GC P w mg base (⟨K, aT, CJ, CB, CO, CD⟩ : Cls6) (⟨CI, CY, CS, CE, CM, CN, CT⟩ : Errs) := ⟨TO, ⟨fBegin, fdBegin, mBegin, bBegin, oBegin⟩, ⟨fRow, fdRow, mRow, bRow, oRow⟩, ⟨fFix, fdFix, mFix, bFix, oFix⟩, ⟨fGone, fdGone, mGone, bGone, oGone⟩, ⟨fDrop, fdDrop, mDrop, bDrop, oDrop⟩, ⟨fUndo, fdUndo, mUndo, bUndo, oUndo⟩, ⟨fClose, fdClose, mClose, bClose, oClose⟩, ⟨fTell, fdTell, mTell, bTell, oTell⟩⟩
  have c__law_called := cal_of (P := P) (w := w) (base := base) (ps := ["_law_which", "_law_office", "_law_given"]) d__law_called (fun _ _ _ _ _ _ us hl => match us, hl with | [_, _, _], _ => rfl) fun f fd F => ok_called (c := ⟨K, aT, CJ, CB, CO, CD⟩) (e := ⟨CI, CY, CS, CE, CM, CN, CT⟩) F gc
  have ge : GE P K mg (⟨CI, CY, CS, CE, CM, CN, CT⟩ : Errs) fI fY fS fE fM fN := ⟨TI, TY, TS, TE, TM, TN, cI, cY, cS, cE, cM, cN, cT, nYI, nSI, nSY, nEI, nEY, nES, nMI, nMY, nMS, nME, nNI, nNY, nNS, nNE, nNM, nTI, nTY, nTS, nTE, nTM, nTN, nTT⟩
  have c__law_done := cal_of (P := P) (w := w) (base := base) (ps := ["_law_which", "_law_office", "_law_given"]) d__law_done (fun _ _ _ _ _ _ us hl => match us, hl with | [_, _, _], _ => rfl) fun f fd F => ok_done (c := ⟨K, aT, CJ, CB, CO, CD⟩) (e := ⟨CI, CY, CS, CE, CM, CN, CT⟩) F c__law_called ge
  have gpi : GP P w mg base (⟨K, aT, CJ, CB, CO, CD⟩ : Cls6) (⟨CI, CY, CS, CE, CM, CN, CT⟩ : Errs) := ⟨c__law_done⟩
  have c__law_put_in := cal_of (P := P) (w := w) (base := base) (ps := ["_law_office", "_law_writer", "_law_entry_here"]) d__law_put_in (fun _ _ _ _ _ _ us hl => match us, hl with | [_, _, _], _ => rfl) fun f fd F => ok_putIn (c := ⟨K, aT, CJ, CB, CO, CD⟩) (e := ⟨CI, CY, CS, CE, CM, CN, CT⟩) F gpi
  have c__law_pool := cal_of (P := P) (w := w) (base := base) (ps := ["_law_script"]) d__law_pool (fun _ _ _ _ _ _ us hl => match us, hl with | [_], _ => rfl) fun f fd F => ok_pool F B
  have c__law_draw := cal_of (P := P) (w := w) (base := base) (ps := ["_law_pool_here", "_law_many"]) d__law_draw (fun _ _ _ _ _ _ us hl => match us, hl with | [_, _], _ => rfl) fun f fd F => ok_draw F B
  have g1 : G1 P w K mg base := ⟨c__law_draw⟩
  have c__law_names := cal_of (P := P) (w := w) (base := base) (ps := ["_law_pool_here", "_law_many"]) d__law_names (fun _ _ _ _ _ _ us hl => match us, hl with | [_, _], _ => rfl) fun f fd F => ok_names F B g1
  have g2 : G2 P w K mg base := ⟨g1, c__law_names⟩
  have c__law_lates := cal_of (P := P) (w := w) (base := base) (ps := ["_law_pool_here"]) d__law_lates (fun _ _ _ _ _ _ us hl => match us, hl with | [_], _ => rfl) fun f fd F => ok_lates F B g2
  have c__law_amount := cal_of (P := P) (w := w) (base := base) (ps := ["_law_pool_here"]) d__law_amount (fun _ _ _ _ _ _ us hl => match us, hl with | [_], _ => rfl) fun f fd F => ok_amount F B g2
  have g3 : G3 P w K mg base := ⟨g2, c__law_lates, c__law_amount⟩
  have c__law_entry := cal_of (P := P) (w := w) (base := base) (ps := ["_law_pool_here", "_law_lates_here", "_law_keys", "_law_states_here", "_law_number", "_law_arrival"]) d__law_entry (fun _ _ _ _ _ _ us hl => match us, hl with | [_, _, _, _, _, _], _ => rfl) fun f fd F => ok_entry F B g3
  have c__law_put := cal_of (P := P) (w := w) (base := base) (ps := ["_law_states_here", "_law_entry_here"]) d__law_put (fun _ _ _ _ _ _ us hl => match us, hl with | [_, _], _ => rfl) fun f fd F => ok_put F B
  have g4 : G4 P w K mg base := ⟨g3, c__law_entry, c__law_put⟩
  have c__law_entries := cal_of (P := P) (w := w) (base := base) (ps := ["_law_pool_here", "_law_lates_here", "_law_keys", "_law_states_here", "_law_number", "_law_arrival", "_law_many"]) d__law_entries (fun _ _ _ _ _ _ us hl => match us, hl with | [_, _, _, _, _, _, _], _ => rfl) fun f fd F => ok_entries F B g4
  have c_putk := cal_of (P := P) (w := w) (base := base) (ps := ["_law_states_here", "_law_entry_here"]) d__law_put (fun _ _ _ _ _ _ us hl => match us, hl with | [_, _], _ => rfl) fun f fd F => ok_putk F B
  have g4k : G4k P w K mg base := ⟨c_putk⟩
  have c_putS := cal_of (P := P) (w := w) (base := base) (ps := ["_law_states_here", "_law_entry_here"]) d__law_put (fun _ _ _ _ _ _ us hl => match us, hl with | [_, _], _ => rfl) fun f fd F => ok_putS F B
  have g4S : G4S P w K mg base := ⟨c_putS⟩
  have c__law_states := cal_of (P := P) (w := w) (base := base) (ps := ["_law_entries_here"]) d__law_states (fun _ _ _ _ _ _ us hl => match us, hl with | [_], _ => rfl) fun f fd F => ok_statesS F B g4S
  have g6d : G6d P w K mg base := ⟨g3, c__law_states⟩
  have c__law_drafted := cal_of (P := P) (w := w) (base := base) (ps := ["_law_pool_here", "_law_lates_here", "_law_keys", "_law_entries_here", "_law_number", "_law_now"]) d__law_drafted (fun _ _ _ _ _ _ us hl => match us, hl with | [_, _, _, _, _, _], _ => rfl) fun f fd F => ok_drafted F B g6d
  have c__law_is_good := cal_of (P := P) (w := w) (base := base) (ps := ["_law_lates_here", "_law_states_here", "_law_last", "_law_entry_here"]) d__law_is_good (fun _ _ _ _ _ _ us hl => match us, hl with | [_, _, _, _], _ => rfl) fun f fd F => ok_good F B
  have g7d : G7d P w K mg base := ⟨c_putk, c__law_is_good⟩
  have c__law_bad_from := cal_of (P := P) (w := w) (base := base) (ps := ["_law_lates_here", "_law_entries_here", "_law_begin_here"]) d__law_bad_from (fun _ _ _ _ _ _ us hl => match us, hl with | [_, _, _], _ => rfl) fun f fd F => ok_bad F B g7d
  have gdu : GD P w K mg base := ⟨c__law_bad_from⟩
  have c__law_due := cal_of (P := P) (w := w) (base := base) (ps := ["_law_lates_here", "_law_entries_here", "_law_drafted_here", "_law_arrival"]) d__law_due (fun _ _ _ _ _ _ us hl => match us, hl with | [_, _, _, _], _ => rfl) fun f fd F => ok_due F B gdu
  have gfl : GFl P w mg base (⟨K, aT, CJ, CB, CO, CD⟩ : Cls6) (⟨CI, CY, CS, CE, CM, CN, CT⟩ : Errs) := ⟨TO, ⟨fBegin, fdBegin, mBegin, bBegin, oBegin⟩, ⟨fRow, fdRow, mRow, bRow, oRow⟩, ⟨fDrop, fdDrop, mDrop, bDrop, oDrop⟩, c__law_done, makN k8n.Journal, ⟨fOI, fdOI, mOI, TO.c, bOI, oOI⟩⟩
  have c__law_full := cal_of (P := P) (w := w) (base := base) (ps := ["_law_lates_here", "_law_book"]) d__law_full (fun _ _ _ _ _ _ us hl => match us, hl with | [_, _], _ => rfl) fun f fd F => ok_full (c := ⟨K, aT, CJ, CB, CO, CD⟩) (e := ⟨CI, CY, CS, CE, CM, CN, CT⟩) F B gfl oLen mLen.at_ mLen.fn bLen
  have gl : GL P w mg base (⟨K, aT, CJ, CB, CO, CD⟩ : Cls6) (⟨CI, CY, CS, CE, CM, CN, CT⟩ : Errs) := { toG3 := g3, law_pool := c__law_pool, law_entries := c__law_entries, law_drafted := c__law_drafted, law_put_in := c__law_put_in, law_done := c__law_done, law_due := c__law_due, law_full := c__law_full, begin_ := ⟨fBegin, fdBegin, mBegin, bBegin, oBegin⟩, tell := ⟨fTell, fdTell, mTell, bTell, oTell⟩, writers := ⟨fWriters, fdWriters, mWriters, bWriters, oWriters⟩, Book := ⟨fInit, fdInit, ⟨mkB, mInit.at_, mInit.fn, kB⟩, TB.c, bInit, oInit⟩, Journal := makN k8n.Journal, Office := ⟨fOI, fdOI, mOI, TO.c, bOI, oOI⟩, T := TO, TJ := T }
  exact ok_law (c := ⟨K, aT, CJ, CB, CO, CD⟩) (e := ⟨CI, CY, CS, CE, CM, CN, CT⟩) F_law B gl
end
theorem all_mk {P : Program} {w : World} {K : PySem.W.Frag} {h : Heap} {mg : Str → Option Value} {fa CB CJ CE CO CD CI CY CS CM CN CT fE fI fY fS fM fN aT aE fBeq f4 : Addr} {oc4 kV4 dc4 pm4 cd4 ct4 : Value} {od4 an4 : Option Addr} {sl4 : Array (Option Value)} (X : K.In h) (G : h.Ns mainGlobals mg) (hfa : mg "law" = some (.ref fa))
    (a4 : PySem.W.nsIn K mainGlobals "law" = some (some (.ref f4))) (l4 : K.lookup f4 = some ⟨oc4, od4, .func (PySem.W.fnOf "law" "law" (defArgs s_law) (defBody s_law) (defScope s_law) .none kV4 dc4 pm4 an4 cd4 ct4), sl4⟩) (c4 : PySem.W.codeIn K cd4 "law" = true) (k4 : PySem.W.keepIn K (.ref f4) = true)
    (B : Blt mg)
    (Cs : Cst mg)
    (TB : Cb K mg CB)
    (T : Cj P K mg CJ CB)
    (Tt : Tb K mg aT)
    (cE : mg "BadEntry" = some (.ref CE))
    (TE : PySem.BadX.Txt P K mg "at" "at" CE fE)
    (bi : BkI K CB)
    (ji : BkI K CJ)
    (mkB : PySem.W.makesIn K CB = true)
    (kB : PySem.W.keepIn K (.ref CB) = true)
    (C2 : Cst2 mg)
    (C3 : Cst3 mg)
    (TO : Co K mg CO)
    (TD : Cd K mg CD)
    (cI : mg "Idle" = some (.ref CI))
    (cY : mg "Busy" = some (.ref CY))
    (cS : mg "Stale" = some (.ref CS))
    (cM : mg "BadMoment" = some (.ref CM))
    (cN : mg "BadName" = some (.ref CN))
    (cT : mg "NothingDone" = some (.ref CT))
    (TI : PySem.BadX.Txt P K mg "writer" "writer" CI fI)
    (TY : PySem.BadX.Txt P K mg "writer" "writer" CY fY)
    (TS : PySem.BadX.Txt P K mg "number" "id" CS fS)
    (TM : PySem.BadX.Txt P K mg "value" "value" CM fM)
    (TN : PySem.BadX.Txt P K mg "value" "value" CN fN)
    (xT : PySem.W.excIn K CT veB "ValueError.__new__" = true)
    (kT : PySem.W.keepIn K (.ref CT) = true)
    (bT : PySem.W.subIn K (.ref CT) (.type "BaseException") = some true)
    (tT : PySem.W.typeIn K (.ref CT) = some (.type "type"))
    (nTT : PySem.W.exmOne K (.ref CT) (.ref CT) = some true)
    (nYI : PySem.W.exmOne K (.ref CY) (.ref CI) = some false)
    (nSI : PySem.W.exmOne K (.ref CS) (.ref CI) = some false)
    (nSY : PySem.W.exmOne K (.ref CS) (.ref CY) = some false)
    (nEI : PySem.W.exmOne K (.ref CE) (.ref CI) = some false)
    (nEY : PySem.W.exmOne K (.ref CE) (.ref CY) = some false)
    (nES : PySem.W.exmOne K (.ref CE) (.ref CS) = some false)
    (nMI : PySem.W.exmOne K (.ref CM) (.ref CI) = some false)
    (nMY : PySem.W.exmOne K (.ref CM) (.ref CY) = some false)
    (nMS : PySem.W.exmOne K (.ref CM) (.ref CS) = some false)
    (nME : PySem.W.exmOne K (.ref CM) (.ref CE) = some false)
    (nNI : PySem.W.exmOne K (.ref CN) (.ref CI) = some false)
    (nNY : PySem.W.exmOne K (.ref CN) (.ref CY) = some false)
    (nNS : PySem.W.exmOne K (.ref CN) (.ref CS) = some false)
    (nNE : PySem.W.exmOne K (.ref CN) (.ref CE) = some false)
    (nNM : PySem.W.exmOne K (.ref CN) (.ref CM) = some false)
    (nTI : PySem.W.exmOne K (.ref CT) (.ref CI) = some false)
    (nTY : PySem.W.exmOne K (.ref CT) (.ref CY) = some false)
    (nTS : PySem.W.exmOne K (.ref CT) (.ref CS) = some false)
    (nTE : PySem.W.exmOne K (.ref CT) (.ref CE) = some false)
    (nTM : PySem.W.exmOne K (.ref CT) (.ref CM) = some false)
    (nTN : PySem.W.exmOne K (.ref CT) (.ref CN) = some false)
    (mkD : PySem.W.makesIn K CD = true)
    (kD : PySem.W.keepIn K (.ref CD) = true)
    (m_OI : DN K CO "Office.__init__" s_Office_init)
    (d_is_integer : D1 K mg "is_integer" s_is_integer)
    (d_is_natural : D1 K mg "is_natural" s_is_natural)
    (d_is_name : D1 K mg "is_name" s_is_name)
    (d_are_integers : D1 K mg "are_integers" s_are_integers)
    (d_is_late : D1 K mg "is_late" s_is_late)
    (d_is_lates : D1 K mg "is_lates" s_is_lates)
    (d_is_entry : D1 K mg "is_entry" s_is_entry)
    (d_arrival_of : D1 K mg "arrival_of" s_arrival_of)
    (d_placed : D1 K mg "placed" s_placed)
    (d_row_behind : D1 K mg "row_behind" s_row_behind)
    (d_walked : D1 K mg "walked" s_walked)
    (d_is_row : D1 K mg "is_row" s_is_row)
    (m_Init : DM K CB "__init__" "Book.__init__" s_Book_init)
    (m_Has : DM K CB "has" "Book.has" s_Book_has)
    (m_Late : DM K CB "late" "Book.late" s_Book_late)
    (m_J : DD K CJ aE "Journal.__init__" s_Journal_init)
    (m_Then : DM K CJ "then" "Journal.then" s_Journal_then)
    (m_Len : DM K CJ "__len__" "Journal.__len__" s_Journal_len)
    (m_Beq : DQ K CB fBeq "__eq__" "Book.__eq__" s_Book_eq)
    (bne : NeC K CB fBeq)
    (m_DInit : DM K CD "__init__" "Draft.__init__" s_Draft_init)
    (m_DraftOf : DM K CO "_draft_of" "Office._draft_of" s_Officedraft_of)
    (m_Begin : DM K CO "begin" "Office.begin" s_Office_begin)
    (m_Put : DM K CO "_put" "Office._put" s_Officeput)
    (m_Row : DM K CO "row" "Office.row" s_Office_row)
    (m_Fix : DM K CO "fix" "Office.fix" s_Office_fix)
    (m_Gone : DM K CO "gone" "Office.gone" s_Office_gone)
    (m_Drop : DM K CO "drop" "Office.drop" s_Office_drop)
    (m_Tell : DM K CO "draft" "Office.draft" s_Office_draft)
    (m_Writers : DM K CO "writers" "Office.writers" s_Office_writers)
    (m_Fresh : DM K CO "_check_fresh" "Office._check_fresh" s_Officecheck_fresh)
    (m_Behind : DM K CO "_journal_behind" "Office._journal_behind" s_Officejournal_behind)
    (m_Close : DM K CO "close" "Office.close" s_Office_close)
    (m_Undo : DM K CO "undo" "Office.undo" s_Office_undo)
    (d__law_called : D1 K mg "_law_called" s_l_called)
    (d__law_done : D1 K mg "_law_done" s_l_done)
    (d__law_put_in : D1 K mg "_law_put_in" s_l_put_in)
    (d__law_pool : D1 K mg "_law_pool" s_l_pool)
    (d__law_draw : D1 K mg "_law_draw" s_l_draw)
    (d__law_names : D1 K mg "_law_names" s_l_names)
    (d__law_lates : D1 K mg "_law_lates" s_l_lates)
    (d__law_amount : D1 K mg "_law_amount" s_l_amount)
    (d__law_entry : D1 K mg "_law_entry" s_l_entry)
    (d__law_put : D1 K mg "_law_put" s_l_put)
    (d__law_entries : D1 K mg "_law_entries" s_l_entries)
    (d__law_states : D1 K mg "_law_states" s_l_states)
    (d__law_drafted : D1 K mg "_law_drafted" s_l_drafted)
    (d__law_is_good : D1 K mg "_law_is_good" s_l_is_good)
    (d__law_bad_from : D1 K mg "_law_bad_from" s_l_bad_from)
    (d__law_due : D1 K mg "_law_due" s_l_due)
    (d__law_full : D1 K mg "_law_full" s_l_full)
    : ∃ fd : FuncData, (∀ (s : Shared) (v : Value), BindsTo s fd ⟨[v], []⟩ [("_law_script", v)]) ∧ ∀ base : Heap, K.In base → base.Ns mainGlobals mg → FnOk P w K mg base CX0 17 fa fd ["_law_script"] (spLawN K) := by
  have e := hfa.symm.trans (PySem.W.mg_of X G a4)
  cases e
  exact ⟨PySem.W.fnOf "law" "law" (defArgs s_law) (defBody s_law) (defScope s_law) .none kV4 dc4 pm4 an4 cd4 ct4, fun s v => .of_eq rfl, fun base _ _ => all_ok B Cs TB T Tt cE TE bi ji mkB kB C2 C3 TO TD cI cY cS cM cN cT TI TY TS TM TN xT kT bT tT nTT nYI nSI nSY nEI nEY nES nMI nMY nMS nME nNI nNY nNS nNE nNM nTI nTY nTS nTE nTM nTN mkD kD m_OI d_is_integer d_is_natural d_is_name d_are_integers d_is_late d_is_lates d_is_entry d_arrival_of d_placed d_row_behind d_walked d_is_row m_Init m_Has m_Late m_J m_Then m_Len m_Beq bne m_DInit m_DraftOf m_Begin m_Put m_Row m_Fix m_Gone m_Drop m_Tell m_Writers m_Fresh m_Behind m_Close m_Undo d__law_called d__law_done d__law_put_in d__law_pool d__law_draw d__law_names d__law_lates d__law_amount d__law_entry d__law_put d__law_entries d__law_states d__law_drafted d__law_is_good d__law_bad_from d__law_due d__law_full (fun_mk l4 c4 k4)⟩
theorem walk {l : PySem.W.OpenLaw} {q : Program} {loose : List Str} {XP : (Str → Option Value) → Heap → Prop} {YP : World → Heap → Prop} {d : DefRec} {K : Params → PySem.W.Frag} (hn : l.most = some 63) (hdf : d.params.defaults = [])
    (hY : ∀ (w : World) (h : Heap), YP w h → (K w.params).In h)
    (F : ∀ (w : World) (mg : Str → Option Value) (fa : Addr) (h : Heap), (K w.params).In h → h.Ns mainGlobals mg → mg d.name = some (.ref fa) →
      ∃ fd : FuncData, (∀ (s : Shared) (u : Value), BindsTo s fd ⟨[u], []⟩ [("_law_script", u)]) ∧ ∀ base : Heap, (K w.params).In base → base.Ns mainGlobals mg → FnOk l.prog w (K w.params) mg base CX0 17 fa fd ["_law_script"] (spLawN (K w.params))) :
    PySem.W.WalkO q loose XP YP l.row.toRowW d [] (fun f vs => PySem.call f vs) :=
  L2.walk_of (n := 63) (k := 17) (x := "_law_script") (CX := fun _ => CX0) (sp := fun w => spLawN (K w.params)) hn (by decide) hdf ⟨rfl, by decide, by decide⟩ hY F (fun _ _ a ns hl _ hS => ⟨a, ns, rfl, hS, hl, fun _ => rfl⟩) fun _ _ _ _ _ z => z
end Ash

set_option Elab.async false
open PySem PySem.W PyProof.Rows
/-! names that are taken: the head makes no twins of these parts of the heap -/
theorem PySem.W.Fast.tw4061606901417167565 : True := trivial
theorem PySem.W.Fast.tw6804580167141382128 : True := trivial
theorem PySem.W.Fast.tw6441020698902563738 : True := trivial
theorem PySem.W.Fast.tw3984812378373013494 : True := trivial
theorem PySem.W.Fast.tw4468040042892015699 : True := trivial
theorem PySem.W.Fast.tw8155145054257442447 : True := trivial
theorem PySem.W.Fast.tw12926258687322466722 : True := trivial
theorem PySem.W.Fast.tw1267171590204298431 : True := trivial
theorem PySem.W.Fast.tw9491297875235810587 : True := trivial
theorem PySem.W.Fast.tw13900350293706948998 : True := trivial
theorem PySem.W.Fast.tw5261067761205576562 : True := trivial
theorem PySem.W.Fast.tw9111450439242467999 : True := trivial
theorem PySem.W.Fast.tw7189083945835940843 : True := trivial
theorem PySem.W.Fast.tw14578028608646149102 : True := trivial
theorem PySem.W.Fast.tw8245669893249544037 : True := trivial
theorem PySem.W.Fast.tw15576554508088635607 : True := trivial
theorem PySem.W.Fast.tw11565392650791468210 : True := trivial
theorem PySem.W.Fast.tw6435206062741289236 : True := trivial
theorem PySem.W.Fast.tw11297782006479602650 : True := trivial
theorem PySem.W.Fast.tw4410672270667282055 : True := trivial
theorem PySem.W.Fast.tw4835166479926788135 : True := trivial
theorem PySem.W.Fast.tw7936698143765074233 : True := trivial
theorem PySem.W.Fast.tw1978113735912359872 : True := trivial
theorem PySem.W.Fast.tw8254536096836826329 : True := trivial
theorem PySem.W.Fast.tw9171254085520846902 : True := trivial
theorem PySem.W.Fast.tw5185758136281688604 : True := trivial
theorem PySem.W.Fast.tw11383653645527562244 : True := trivial
theorem PySem.W.Fast.tw6444440881320692186 : True := trivial
theorem PySem.W.Fast.tw9983189977477216294 : True := trivial
theorem PySem.W.Fast.tw6849020892035010844 : True := trivial
theorem PySem.W.Fast.tw7368870033914153578 : True := trivial
theorem PySem.W.Fast.tw493132847420003491 : True := trivial
theorem PySem.W.Fast.tw10832760001049365227 : True := trivial
theorem PySem.W.Fast.tw10176876918037999796 : True := trivial
theorem PySem.W.Fast.tw8250844255260714244 : True := trivial
theorem PySem.W.Fast.tw18031561226843589973 : True := trivial
theorem PySem.W.Fast.tw5922323172339614882 : True := trivial
theorem PySem.W.Fast.tw56533564994887285 : True := trivial
theorem PySem.W.Fast.tw15389696619632852570 : True := trivial
theorem PySem.W.Fast.tw9811412778270269534 : True := trivial
theorem PySem.W.Fast.tw12463329969335107015 : True := trivial
theorem PySem.W.Fast.tw8999887270411760432 : True := trivial
theorem PySem.W.Fast.tw12903782362027419295 : True := trivial
theorem PySem.W.Fast.tw6792975871594971172 : True := trivial
theorem PySem.W.Fast.tw9575050180776407538 : True := trivial
theorem PySem.W.Fast.tw16895672706246534071 : True := trivial
theorem PySem.W.Fast.tw1067955641704779014 : True := trivial
theorem PySem.W.Fast.tw10846887544035326987 : True := trivial
theorem PySem.W.Fast.tw16943762377316764183 : True := trivial
theorem PySem.W.Fast.tw9262466407368225791 : True := trivial
theorem PySem.W.Fast.tw5463368488202321425 : True := trivial
theorem PySem.W.Fast.tw16023764100104665564 : True := trivial
theorem PySem.W.Fast.tw10216456777768519131 : True := trivial
theorem PySem.W.Fast.tw8152658634126702798 : True := trivial
theorem PySem.W.Fast.tw18030936460949295939 : True := trivial
theorem PySem.W.Fast.tw161959216113964185 : True := trivial
theorem PySem.W.Fast.tw1156723694341507778 : True := trivial
theorem PySem.W.Fast.tw9237024952474429887 : True := trivial
theorem PySem.W.Fast.tw15031847860472248501 : True := trivial
theorem PySem.W.Fast.tw16715737156673061340 : True := trivial
theorem PySem.W.Fast.tw8986678936913198857 : True := trivial
theorem PySem.W.Fast.tw10795163244453366734 : True := trivial
theorem PySem.W.Fast.tw10288032345991701808 : True := trivial
theorem PySem.W.Fast.tw15844811409634950557 : True := trivial
theorem PySem.W.Fast.tw13063254295184669356 : True := trivial
theorem PySem.W.Fast.tw12768672327279165189 : True := trivial
theorem PySem.W.Fast.tw10886909886041845325 : True := trivial
theorem PySem.W.Fast.tw14661362602038378039 : True := trivial
theorem PySem.W.Fast.tw7805555986266193119 : True := trivial
theorem PySem.W.Fast.tw11371467889864148627 : True := trivial
theorem PySem.W.Fast.tw10380414058698883714 : True := trivial
theorem PySem.W.Fast.tw12721998452199376628 : True := trivial
theorem PySem.W.Fast.tw5327988638218599556 : True := trivial
theorem PySem.W.Fast.tw13697554317062912890 : True := trivial
theorem PySem.W.Fast.tw17548967752399707395 : True := trivial
theorem PySem.W.Fast.tw16839700222396221151 : True := trivial
theorem PySem.W.Fast.tw4890474494400035081 : True := trivial
theorem PySem.W.Fast.tw11857067422427120970 : True := trivial
theorem PySem.W.Fast.tw1384839712023076783 : True := trivial
theorem PySem.W.Fast.tw12598911638092474974 : True := trivial
theorem PySem.W.Fast.tw11967345790625930477 : True := trivial
theorem PySem.W.Fast.tw17402037828521035472 : True := trivial
theorem PySem.W.Fast.tw5805602976387304197 : True := trivial
theorem PySem.W.Fast.tw13384288875731923294 : True := trivial
theorem PySem.W.Fast.tw8032101725039167730 : True := trivial
theorem PySem.W.Fast.tw16796896986950030344 : True := trivial
theorem PySem.W.Fast.tw235388907728560836 : True := trivial
theorem PySem.W.Fast.tw15194880512036569598 : True := trivial
theorem PySem.W.Fast.tw400024190366756811 : True := trivial
theorem PySem.W.Fast.tw8451638951343765888 : True := trivial
theorem PySem.W.Fast.tw14830056854314138718 : True := trivial
theorem PySem.W.Fast.tw13959169769627089363 : True := trivial
theorem PySem.W.Fast.tw13567599334535479013 : True := trivial
theorem PySem.W.Fast.tw9336795473021936619 : True := trivial
theorem PySem.W.Fast.tw6558395430402339675 : True := trivial
theorem PySem.W.Fast.tw18092607419960878543 : True := trivial
theorem PySem.W.Fast.tw6905562885564348438 : True := trivial
theorem PySem.W.Fast.tw3308777273907911698 : True := trivial
theorem PySem.W.Fast.tw18050014351120017470 : True := trivial
theorem PySem.W.Fast.tw12499525157944367562 : True := trivial
theorem PySem.W.Fast.tw8653904367848938847 : True := trivial
theorem PySem.W.Fast.tw17723723099360367791 : True := trivial
theorem PySem.W.Fast.tw2071603324518613432 : True := trivial
theorem PySem.W.Fast.tw6178102963162208298 : True := trivial
theorem PySem.W.Fast.tw362855431962557990 : True := trivial
theorem PySem.W.Fast.tw17284861911348179587 : True := trivial
theorem PySem.W.Fast.tw162938620015930148 : True := trivial
theorem PySem.W.Fast.tw160297248371516542 : True := trivial
theorem PySem.W.Fast.tw16035074160626072484 : True := trivial
theorem PySem.W.Fast.tw7287427875011755203 : True := trivial
theorem PySem.W.Fast.tw3965956744123355004 : True := trivial
theorem PySem.W.Fast.tw6637414374360587024 : True := trivial
theorem PySem.W.Fast.tw2565498700402649806 : True := trivial
theorem PySem.W.Fast.tw18012189147062849070 : True := trivial
theorem PySem.W.Fast.tw18046255172171589035 : True := trivial
theorem PySem.W.Fast.tw17561366396993518354 : True := trivial
theorem PySem.W.Fast.tw7665044549576474293 : True := trivial
theorem PySem.W.Fast.tw18126633465435678695 : True := trivial
theorem PySem.W.Fast.tw6003629313233887619 : True := trivial
theorem PySem.W.Fast.tw14305654293780993190 : True := trivial
theorem PySem.W.Fast.tw3140176528824529007 : True := trivial
theorem PySem.W.Fast.tw1309790567097646886 : True := trivial
theorem PySem.W.Fast.tw5388178893238606300 : True := trivial
theorem PySem.W.Fast.tw11843474489830606387 : True := trivial
theorem PySem.W.Fast.tw5256910305361671647 : True := trivial
theorem PySem.W.Fast.tw1553012705977270575 : True := trivial
theorem PySem.W.Fast.tw90914303319892290 : True := trivial
theorem PySem.W.Fast.tw17378696223304393154 : True := trivial
theorem PySem.W.Fast.tw17041919056361907845 : True := trivial
theorem PySem.W.Fast.tw9077390990622595333 : True := trivial
theorem PySem.W.Fast.tw17025405036749392784 : True := trivial
theorem PySem.W.Fast.tw9653760268318123187 : True := trivial
theorem PySem.W.Fast.tw16493370430657797034 : True := trivial
theorem PySem.W.Fast.tw12073520344365342565 : True := trivial
theorem PySem.W.Fast.tw1413738498979632785 : True := trivial
theorem PySem.W.Fast.tw11432620669489837017 : True := trivial
theorem PySem.W.Fast.tw16937810569305886212 : True := trivial
theorem PySem.W.Fast.tw2178954911880220398 : True := trivial
theorem PySem.W.Fast.tw9912921679771267750 : True := trivial
theorem PySem.W.Fast.tw15516858601257188460 : True := trivial
theorem PySem.W.Fast.tw17240581683215107214 : True := trivial
theorem PySem.W.Fast.tw5402083816498189159 : True := trivial
theorem PySem.W.Fast.tw11891444776217676508 : True := trivial
theorem PySem.W.Fast.tw7572745266724600133 : True := trivial
theorem PySem.W.Fast.tw3421002906430154468 : True := trivial
theorem PySem.W.Fast.tw9225004071274929654 : True := trivial
theorem PySem.W.Fast.tw11869156539550865422 : True := trivial
theorem PySem.W.Fast.tw11403863077301644834 : True := trivial
theorem PySem.W.Fast.tw12619624247331477658 : True := trivial
theorem PySem.W.Fast.tw6420063419923314648 : True := trivial
theorem PySem.W.Fast.tw133379092371299640 : True := trivial
theorem PySem.W.Fast.tw15681237693543342159 : True := trivial
theorem PySem.W.Fast.tw17684764303915989147 : True := trivial
theorem PySem.W.Fast.tw6656629544719832222 : True := trivial
theorem PySem.W.Fast.tw6355800311927175658 : True := trivial
theorem PySem.W.Fast.tw873613343657958289 : True := trivial
theorem PySem.W.Fast.tw301356503543213323 : True := trivial
theorem PySem.W.Fast.tw12040485324633022732 : True := trivial
theorem PySem.W.Fast.tw5464479114448834659 : True := trivial
theorem PySem.W.Fast.tw3405972680350992082 : True := trivial
theorem PySem.W.Fast.tw14092957493133478165 : True := trivial
theorem PySem.W.Fast.tw8206752349122569885 : True := trivial
theorem PySem.W.Fast.tw16528153144989524941 : True := trivial
theorem PySem.W.Fast.tw10682320155572240451 : True := trivial
theorem PySem.W.Fast.tw9422894338794109681 : True := trivial
theorem PySem.W.Fast.tw862731522750302782 : True := trivial
theorem PySem.W.Fast.tw3498829445106926605 : True := trivial
theorem PySem.W.Fast.tw4170974616687318497 : True := trivial
theorem PySem.W.Fast.tw13232646518303956953 : True := trivial
theorem PySem.W.Fast.tw4952831222485459859 : True := trivial
theorem PySem.W.Fast.tw12819998983105105508 : True := trivial
theorem PySem.W.Fast.tw11197301342252694947 : True := trivial
theorem PySem.W.Fast.tw5114546807246031524 : True := trivial
theorem PySem.W.Fast.tw14806898173903704672 : True := trivial
theorem PySem.W.Fast.tw2365948912832043814 : True := trivial
theorem PySem.W.Fast.tw15048963716688342084 : True := trivial
theorem PySem.W.Fast.tw18218442410962689639 : True := trivial
theorem PySem.W.Fast.tw18320071077243207507 : True := trivial
theorem PySem.W.Fast.tw15748288117623394215 : True := trivial
theorem PySem.W.Fast.tw11643940249431949277 : True := trivial
theorem PySem.W.Fast.tw2752622339113702653 : True := trivial
theorem PySem.W.Fast.tw15844484361758216450 : True := trivial
theorem PySem.W.Fast.tw1230790069898259921 : True := trivial
theorem PySem.W.Fast.tw10836939864719974502 : True := trivial
theorem PySem.W.Fast.tw1987572335548271100 : True := trivial
theorem PySem.W.Fast.tw16258179039032926705 : True := trivial
theorem PySem.W.Fast.tw16341292663946103988 : True := trivial
theorem PySem.W.Fast.tw12399059034319144586 : True := trivial
theorem PySem.W.Fast.tw8621403998590289958 : True := trivial
theorem PySem.W.Fast.tw2710072259518708620 : True := trivial
theorem PySem.W.Fast.tw2895756706927281617 : True := trivial
theorem PySem.W.Fast.tw6803039364416027757 : True := trivial
theorem PySem.W.Fast.tw12608194264680621517 : True := trivial
theorem PySem.W.Fast.tw2640300680517430140 : True := trivial
theorem PySem.W.Fast.tw5730778885840182083 : True := trivial
theorem PySem.W.Fast.tw5450616764093514575 : True := trivial
theorem PySem.W.Fast.tw12965532781895305981 : True := trivial
theorem PySem.W.Fast.tw1042161541242765741 : True := trivial
theorem PySem.W.Fast.tw11042984375032563595 : True := trivial
theorem PySem.W.Fast.tw9181236468453874849 : True := trivial
theorem PySem.W.Fast.tw18108948737189682511 : True := trivial
theorem PySem.W.Fast.tw8287042712111751346 : True := trivial
theorem PySem.W.Fast.tw5473545987123541582 : True := trivial
theorem PySem.W.Fast.tw3456982432457516 : True := trivial
theorem PySem.W.Fast.tw9111104331137615872 : True := trivial
theorem PySem.W.Fast.tw11349454563825787832 : True := trivial
theorem PySem.W.Fast.tw15908153403224775078 : True := trivial
theorem PySem.W.Fast.tw6975569046131645968 : True := trivial
theorem PySem.W.Fast.tw4637529344475516566 : True := trivial
theorem PySem.W.Fast.tw453879801642108375 : True := trivial
theorem PySem.W.Fast.tw745938488672068986 : True := trivial
theorem PySem.W.Fast.tw1913290771921975794 : True := trivial
theorem PySem.W.Fast.tw8910493002993297039 : True := trivial
theorem PySem.W.Fast.tw11638943473944133435 : True := trivial
theorem PySem.W.Fast.tw2319089207255570476 : True := trivial
theorem PySem.W.Fast.tw5228252161289217341 : True := trivial
theorem PySem.W.Fast.tw7128510740189778377 : True := trivial
theorem PySem.W.Fast.tw5674346817049606545 : True := trivial
theorem PySem.W.Fast.tw4667582125639113085 : True := trivial
theorem PySem.W.Fast.tw1468708761144932116 : True := trivial
theorem PySem.W.Fast.tw13494416636513320401 : True := trivial
theorem PySem.W.Fast.tw17732825329126736759 : True := trivial
theorem PySem.W.Fast.tw9093099794835144643 : True := trivial
theorem PySem.W.Fast.tw1768264731857337848 : True := trivial
theorem PySem.W.Fast.tw12393787990385901762 : True := trivial
theorem PySem.W.Fast.tw8638506898072597581 : True := trivial
theorem PySem.W.Fast.tw12838555958121517193 : True := trivial
theorem PySem.W.Fast.tw15263066000432166654 : True := trivial
theorem PySem.W.Fast.tw13424088255268744247 : True := trivial
theorem PySem.W.Fast.tw5547676040579291136 : True := trivial
theorem PySem.W.Fast.tw3473202516954713890 : True := trivial
theorem PySem.W.Fast.tw17460627881005439960 : True := trivial
theorem PySem.W.Fast.tw477386392170756120 : True := trivial
theorem PySem.W.Fast.tw7433107039052196687 : True := trivial
theorem PySem.W.Fast.tw9042889817763914790 : True := trivial
theorem PySem.W.Fast.tw5959965619520809767 : True := trivial
theorem PySem.W.Fast.tw12201065486182056373 : True := trivial
theorem PySem.W.Fast.tw7154393541623420237 : True := trivial
theorem PySem.W.Fast.tw7084007710253825010 : True := trivial
theorem PySem.W.Fast.tw7381525474835020369 : True := trivial
theorem PySem.W.Fast.tw13840699534386281322 : True := trivial
theorem PySem.W.Fast.tw1882795607372199575 : True := trivial
theorem PySem.W.Fast.tw11937447025385422375 : True := trivial
theorem PySem.W.Fast.tw5132855753931655375 : True := trivial
theorem PySem.W.Fast.tw2162316604331043595 : True := trivial
theorem PySem.W.Fast.tw16186995307937749113 : True := trivial
theorem PySem.W.Fast.tw11393020677766508125 : True := trivial
theorem PySem.W.Fast.tw16560663394293887521 : True := trivial
theorem PySem.W.Fast.tw1279965456339821894 : True := trivial
theorem PySem.W.Fast.tw18176098511219142872 : True := trivial
theorem PySem.W.Fast.tw12896960440925328270 : True := trivial
theorem PySem.W.Fast.tw15132624135013872872 : True := trivial
theorem PySem.W.Fast.tw3833052083494698942 : True := trivial
theorem PySem.W.Fast.tw7784479401243920548 : True := trivial
theorem PySem.W.Fast.tw7108622844229126587 : True := trivial
theorem PySem.W.Fast.tw6539306545379864375 : True := trivial
theorem PySem.W.Fast.tw17402268666346979367 : True := trivial
theorem PySem.W.Fast.tw15803025452930229760 : True := trivial
theorem PySem.W.Fast.tw2998221144371971858 : True := trivial
theorem PySem.W.Fast.tw11932073062947330318 : True := trivial
theorem PySem.W.Fast.tw16966305184211832094 : True := trivial
theorem PySem.W.Fast.tw13738117031748909571 : True := trivial
theorem PySem.W.Fast.tw17615140444623983247 : True := trivial
theorem PySem.W.Fast.tw15389073728695431005 : True := trivial
theorem PySem.W.Fast.tw4920612050985882235 : True := trivial
theorem PySem.W.Fast.tw7550699207323821306 : True := trivial
theorem PySem.W.Fast.tw2341107219936962375 : True := trivial
theorem PySem.W.Fast.tw1390950397695930253 : True := trivial
theorem PySem.W.Fast.tw2659889345793678989 : True := trivial
theorem PySem.W.Fast.tw9724531195331242855 : True := trivial
theorem PySem.W.Fast.tw3421954243720711466 : True := trivial
theorem PySem.W.Fast.tw13701433076168501578 : True := trivial
theorem PySem.W.Fast.tw6096561995874531778 : True := trivial
theorem PySem.W.Fast.tw15213852994383416938 : True := trivial
theorem PySem.W.Fast.tw8892781776549513278 : True := trivial
theorem PySem.W.Fast.tw9314018564534605375 : True := trivial
theorem PySem.W.Fast.tw8939776993959724936 : True := trivial
theorem PySem.W.Fast.tw6101585171665163188 : True := trivial
theorem PySem.W.Fast.tw6971470435873511928 : True := trivial
theorem PySem.W.Fast.tw15099107632598390834 : True := trivial
theorem PySem.W.Fast.tw670258591015647789 : True := trivial
theorem PySem.W.Fast.tw16678736385260971443 : True := trivial
theorem PySem.W.Fast.tw5199700627097473043 : True := trivial
theorem PySem.W.Fast.tw4738030984533053935 : True := trivial
theorem PySem.W.Fast.tw11806895689034417766 : True := trivial
theorem PySem.W.Fast.tw18327313005284167181 : True := trivial
theorem PySem.W.Fast.tw11826877978004320934 : True := trivial
theorem PySem.W.Fast.tw13853387986677364644 : True := trivial
theorem PySem.W.Fast.tw9451360510137349311 : True := trivial
theorem PySem.W.Fast.tw17709843659472844138 : True := trivial
theorem PySem.W.Fast.tw16712845547172537716 : True := trivial
theorem PySem.W.Fast.tw9956843368677124643 : True := trivial
theorem PySem.W.Fast.tw3200555382344241313 : True := trivial
theorem PySem.W.Fast.tw1498429131964320727 : True := trivial
theorem PySem.W.Fast.tw4337875255145521458 : True := trivial
theorem PySem.W.Fast.tw12150349305688263892 : True := trivial
theorem PySem.W.Fast.tw6715007674985655437 : True := trivial
theorem PySem.W.Fast.tw16739902817210311382 : True := trivial
theorem PySem.W.Fast.tw10287010511225963706 : True := trivial
theorem PySem.W.Fast.tw8941269914871227211 : True := trivial
theorem PySem.W.Fast.tw3563343799119413319 : True := trivial
theorem PySem.W.Fast.tw18391163498763728396 : True := trivial
theorem PySem.W.Fast.tw8834764502775508141 : True := trivial
theorem PySem.W.Fast.tw11846710329209998784 : True := trivial
theorem PySem.W.Fast.tw12075886082671990811 : True := trivial
theorem PySem.W.Fast.tw10309858403951205865 : True := trivial
theorem PySem.W.Fast.tw7913399168099076554 : True := trivial
theorem PySem.W.Fast.tw2347652379393616793 : True := trivial
theorem PySem.W.Fast.tw3445620971526731455 : True := trivial
theorem PySem.W.Fast.tw12989584208816171877 : True := trivial
theorem PySem.W.Fast.tw9965023197449868338 : True := trivial
theorem PySem.W.Fast.tw15617867912251907317 : True := trivial
theorem PySem.W.Fast.tw15899711054424468420 : True := trivial
theorem PySem.W.Fast.tw11858788289176395812 : True := trivial
theorem PySem.W.Fast.tw7830049027253933089 : True := trivial
theorem PySem.W.Fast.tw4539871561637025421 : True := trivial
theorem PySem.W.Fast.tw6948049543083895138 : True := trivial
theorem PySem.W.Fast.tw14215024118192921005 : True := trivial
theorem PySem.W.Fast.tw15639556352934839414 : True := trivial
theorem PySem.W.Fast.tw14428788205287574340 : True := trivial
theorem PySem.W.Fast.tw17614688200293182228 : True := trivial
theorem PySem.W.Fast.tw8310777348009540890 : True := trivial
theorem PySem.W.Fast.tw359473239858574041 : True := trivial
theorem PySem.W.Fast.tw15897069952344561920 : True := trivial
theorem PySem.W.Fast.tw6786558075350724699 : True := trivial
theorem PySem.W.Fast.tw7621735635940257998 : True := trivial
theorem PySem.W.Fast.tw11064829143880455612 : True := trivial
theorem PySem.W.Fast.tw8794961505923957433 : True := trivial
theorem PySem.W.Fast.tw9401821875635499671 : True := trivial
theorem PySem.W.Fast.tw8158946236851057004 : True := trivial
theorem PySem.W.Fast.tw16661464803323206458 : True := trivial
theorem PySem.W.Fast.tw5651889314501044864 : True := trivial
theorem PySem.W.Fast.tw10640933991852839325 : True := trivial
theorem PySem.W.Fast.tw6354448690387117384 : True := trivial
theorem PySem.W.Fast.tw10991776511375073456 : True := trivial
theorem PySem.W.Fast.tw16004824485354999304 : True := trivial
theorem PySem.W.Fast.tw15541338012083657173 : True := trivial
theorem PySem.W.Fast.tw2374120574688691416 : True := trivial
theorem PySem.W.Fast.tw6695306664810459484 : True := trivial
theorem PySem.W.Fast.tw18432181861330218066 : True := trivial
theorem PySem.W.Fast.tw1264872856529233489 : True := trivial
theorem PySem.W.Fast.tw12437139855197305692 : True := trivial
theorem PySem.W.Fast.tw11200511722914031682 : True := trivial
theorem PySem.W.Fast.tw1421950836618573991 : True := trivial
theorem PySem.W.Fast.tw752974534783862211 : True := trivial
theorem PySem.W.Fast.tw4966554881093722646 : True := trivial
theorem PySem.W.Fast.tw16914211963926337871 : True := trivial
theorem PySem.W.Fast.tw9302994015896750373 : True := trivial
theorem PySem.W.Fast.tw13202526155431589913 : True := trivial
theorem PySem.W.Fast.tw5716713911213589964 : True := trivial
theorem PySem.W.Fast.tw9295645445415707812 : True := trivial
theorem PySem.W.Fast.tw15716990384639744224 : True := trivial
theorem PySem.W.Fast.tw3758950866031582240 : True := trivial
theorem PySem.W.Fast.tw16296812181912608244 : True := trivial
theorem PySem.W.Fast.tw12290685843483098174 : True := trivial
theorem PySem.W.Fast.tw14282232425840949738 : True := trivial
theorem PySem.W.Fast.tw5157615883327924086 : True := trivial
theorem PySem.W.Fast.tw6552964238437100851 : True := trivial
theorem PySem.W.Fast.tw5031639441428116552 : True := trivial
theorem PySem.W.Fast.tw17945711779147740928 : True := trivial
theorem PySem.W.Fast.tw10770289767353403498 : True := trivial
theorem PySem.W.Fast.tw9900573731849513334 : True := trivial
theorem PySem.W.Fast.tw8026611724803409071 : True := trivial
theorem PySem.W.Fast.tw7745571699813784283 : True := trivial
theorem PySem.W.Fast.tw1844644756495031375 : True := trivial
theorem PySem.W.Fast.tw12624030654581205175 : True := trivial
theorem PySem.W.Fast.tw11598181073745416515 : True := trivial
theorem PySem.W.Fast.tw9675043634029012467 : True := trivial
theorem PySem.W.Fast.tw8948817274117733388 : True := trivial
theorem PySem.W.Fast.tw2428159992495955869 : True := trivial
theorem PySem.W.Fast.tw11289987430178871834 : True := trivial
theorem PySem.W.Fast.tw11436204794976721179 : True := trivial
theorem PySem.W.Fast.tw3454740750533430755 : True := trivial
theorem PySem.W.Fast.tw17245034144369188497 : True := trivial
theorem PySem.W.Fast.tw5043204376845750397 : True := trivial
theorem PySem.W.Fast.tw6958333994959855214 : True := trivial
theorem PySem.W.Fast.tw10633059563522329328 : True := trivial
theorem PySem.W.Fast.tw6227995147521302833 : True := trivial
theorem PySem.W.Fast.tw917214085420697421 : True := trivial
theorem PySem.W.Fast.tw7185320854156842772 : True := trivial
theorem PySem.W.Fast.tw888134427996415129 : True := trivial
theorem PySem.W.Fast.tw13959685675332407251 : True := trivial
theorem PySem.W.Fast.tw8925844433514467089 : True := trivial
theorem PySem.W.Fast.tw7450986268235640895 : True := trivial
theorem PySem.W.Fast.tw16402431619498241460 : True := trivial
theorem PySem.W.Fast.tw4177440699852175596 : True := trivial
theorem PySem.W.Fast.tw11913154858915524671 : True := trivial
theorem PySem.W.Fast.tw1538288484575333864 : True := trivial
theorem PySem.W.Fast.tw15288799811710298525 : True := trivial
theorem PySem.W.Fast.tw8824503883292178336 : True := trivial
theorem PySem.W.Fast.tw18387304761094651803 : True := trivial
theorem PySem.W.Fast.tw4682515688634855990 : True := trivial
theorem PySem.W.Fast.tw800386153789743626 : True := trivial
theorem PySem.W.Fast.tw13699685375714159945 : True := trivial
theorem PySem.W.Fast.tw7375388414814287527 : True := trivial
theorem PySem.W.Fast.tw11141496130986148174 : True := trivial
theorem PySem.W.Fast.tw7040963072156910838 : True := trivial
theorem PySem.W.Fast.tw1438210869756745262 : True := trivial
theorem PySem.W.Fast.tw17114782114319986187 : True := trivial
theorem PySem.W.Fast.tw11970968132833923456 : True := trivial
theorem PySem.W.Fast.tw12082769362064262143 : True := trivial
theorem PySem.W.Fast.tw2614196024358623002 : True := trivial
theorem PySem.W.Fast.tw1814882003159739411 : True := trivial
theorem PySem.W.Fast.tw6014267364199798091 : True := trivial
theorem PySem.W.Fast.tw7568962856127114007 : True := trivial
theorem PySem.W.Fast.tw1920321927273645462 : True := trivial
theorem PySem.W.Fast.tw9205394664643018479 : True := trivial
theorem PySem.W.Fast.tw17710000841205598208 : True := trivial
theorem PySem.W.Fast.tw13258519139222564123 : True := trivial
theorem PySem.W.Fast.tw16590361553225925151 : True := trivial
theorem PySem.W.Fast.tw16352696680774046215 : True := trivial
theorem PySem.W.Fast.tw4731022539485881448 : True := trivial
theorem PySem.W.Fast.tw5209064737342417862 : True := trivial
theorem PySem.W.Fast.tw3187958245655133187 : True := trivial
theorem PySem.W.Fast.tw8115704605161712964 : True := trivial
theorem PySem.W.Fast.tw2853245158857389912 : True := trivial
theorem PySem.W.Fast.tw4698153330245706028 : True := trivial
theorem PySem.W.Fast.tw6465381164354768052 : True := trivial
theorem PySem.W.Fast.tw16324811922707022669 : True := trivial
theorem PySem.W.Fast.tw10353760047564131274 : True := trivial
theorem PySem.W.Fast.tw7427892935248564467 : True := trivial
theorem PySem.W.Fast.tw9223306234211053002 : True := trivial
theorem PySem.W.Fast.tw17187337151828967861 : True := trivial
theorem PySem.W.Fast.tw7097786629465087841 : True := trivial
theorem PySem.W.Fast.tw2992568686973903530 : True := trivial
theorem PySem.W.Fast.tw10957264158794114489 : True := trivial
theorem PySem.W.Fast.tw1934592838414698238 : True := trivial
theorem PySem.W.Fast.tw9345977776901313460 : True := trivial
theorem PySem.W.Fast.tw5714773020821167557 : True := trivial
theorem PySem.W.Fast.tw3207450338328943041 : True := trivial
theorem PySem.W.Fast.tw5423239144533630892 : True := trivial
theorem PySem.W.Fast.tw493408967977833223 : True := trivial
theorem PySem.W.Fast.tw14318505486262210969 : True := trivial
theorem PySem.W.Fast.tw5838930933701346117 : True := trivial
theorem PySem.W.Fast.tw13599408993182435287 : True := trivial
theorem PySem.W.Fast.tw2943544212193055254 : True := trivial
theorem PySem.W.Fast.tw16662948561105257851 : True := trivial
theorem PySem.W.Fast.tw13889920681803111615 : True := trivial
theorem PySem.W.Fast.tw15296655384441073310 : True := trivial
theorem PySem.W.Fast.tw10602215114493827346 : True := trivial
theorem PySem.W.Fast.tw16690541547106192335 : True := trivial
theorem PySem.W.Fast.tw6868512326116197230 : True := trivial
theorem PySem.W.Fast.tw12158323408119634733 : True := trivial
theorem PySem.W.Fast.tw2511579469389069114 : True := trivial
theorem PySem.W.Fast.tw11092024976752313594 : True := trivial
theorem PySem.W.Fast.tw1412395202029352209 : True := trivial
theorem PySem.W.Fast.tw5369924752829665095 : True := trivial
theorem PySem.W.Fast.tw15864918336718438670 : True := trivial
theorem PySem.W.Fast.tw3450128237420452520 : True := trivial
theorem PySem.W.Fast.tw11178863639073408560 : True := trivial
theorem PySem.W.Fast.tw7785139633936006171 : True := trivial
theorem PySem.W.Fast.tw4768760998799841446 : True := trivial
theorem PySem.W.Fast.tw6287879320606805157 : True := trivial
theorem PySem.W.Fast.tw5432496711301437739 : True := trivial
theorem PySem.W.Fast.tw8968879469585890905 : True := trivial
theorem PySem.W.Fast.tw1476473215638121540 : True := trivial
theorem PySem.W.Fast.tw600089508797458190 : True := trivial
theorem PySem.W.Fast.tw4919253092119769523 : True := trivial
theorem PySem.W.Fast.tw1913768450817223354 : True := trivial
theorem PySem.W.Fast.tw9430019562628009811 : True := trivial
theorem PySem.W.Fast.tw4012016573853503752 : True := trivial
theorem PySem.W.Fast.tw2896197168271781353 : True := trivial
theorem PySem.W.Fast.tw4409501875664688404 : True := trivial
theorem PySem.W.Fast.tw17898926562420056245 : True := trivial
theorem PySem.W.Fast.tw227825046186548034 : True := trivial
theorem PySem.W.Fast.tw4645618881918705064 : True := trivial
theorem PySem.W.Fast.tw6273935834073936406 : True := trivial
theorem PySem.W.Fast.tw4566652104878397219 : True := trivial
theorem PySem.W.Fast.tw6018943305560868227 : True := trivial
theorem PySem.W.Fast.tw2195941271420535459 : True := trivial
theorem PySem.W.Fast.tw6860408182356724981 : True := trivial
theorem PySem.W.Fast.tw6097538285978957887 : True := trivial
theorem PySem.W.Fast.tw13120177467685647904 : True := trivial
theorem PySem.W.Fast.tw4553263050561078046 : True := trivial
theorem PySem.W.Fast.tw9415345259356186872 : True := trivial
theorem PySem.W.Fast.tw10016365471884324746 : True := trivial
theorem PySem.W.Fast.tw15050357949296487084 : True := trivial
theorem PySem.W.Fast.tw6722217055666557251 : True := trivial
theorem PySem.W.Fast.tw1777645722206606078 : True := trivial
theorem PySem.W.Fast.tw2277655055715184224 : True := trivial
theorem PySem.W.Fast.tw2618465379458971166 : True := trivial
theorem PySem.W.Fast.tw7392301192602908983 : True := trivial
theorem PySem.W.Fast.tw2685823962943786683 : True := trivial
theorem PySem.W.Fast.tw13540396775517635946 : True := trivial
theorem PySem.W.Fast.tw1770964091101950415 : True := trivial
theorem PySem.W.Fast.tw2943337350773281068 : True := trivial
theorem PySem.W.Fast.tw13636664950378187357 : True := trivial
theorem PySem.W.Fast.tw6596370890038422119 : True := trivial
theorem PySem.W.Fast.tw3256826116190439801 : True := trivial
theorem PySem.W.Fast.tw3912114948314248760 : True := trivial
theorem PySem.W.Fast.tw6662655413616468137 : True := trivial
theorem PySem.W.Fast.tw18226951659404761636 : True := trivial
theorem PySem.W.Fast.tw16009471896526783487 : True := trivial
theorem PySem.W.Fast.tw8190916367703247301 : True := trivial
theorem PySem.W.Fast.tw780587638960072779 : True := trivial
theorem PySem.W.Fast.tw6233583260772957036 : True := trivial
theorem PySem.W.Fast.tw15626139831574966736 : True := trivial
theorem PySem.W.Fast.tw10022976734103540874 : True := trivial
theorem PySem.W.Fast.tw10334624852047535339 : True := trivial
theorem PySem.W.Fast.tw3153743980477305630 : True := trivial
theorem PySem.W.Fast.tw4767099894982159294 : True := trivial
theorem PySem.W.Fast.tw3684076217241771093 : True := trivial
theorem PySem.W.Fast.tw14315430387206270580 : True := trivial
theorem PySem.W.Fast.tw13618263672759639302 : True := trivial
theorem PySem.W.Fast.tw5589969632561252495 : True := trivial
theorem PySem.W.Fast.tw16555495225996365308 : True := trivial
theorem PySem.W.Fast.tw11190382314723409089 : True := trivial
theorem PySem.W.Fast.tw4602017220710998841 : True := trivial
theorem PySem.W.Fast.tw9066744891409441289 : True := trivial
theorem PySem.W.Fast.tw4248861786674010832 : True := trivial
theorem PySem.W.Fast.tw9666924700191989444 : True := trivial
theorem PySem.W.Fast.tw13678117449142926782 : True := trivial
theorem PySem.W.Fast.tw1060569537084092314 : True := trivial
theorem PySem.W.Fast.tw8282308380474625597 : True := trivial
theorem PySem.W.Fast.tw10202210502775522081 : True := trivial
theorem PySem.W.Fast.tw17946008397245406977 : True := trivial
theorem PySem.W.Fast.tw10609669684574050176 : True := trivial
theorem PySem.W.Fast.tw8903082045905350897 : True := trivial
theorem PySem.W.Fast.tw128899258048151025 : True := trivial
theorem PySem.W.Fast.tw1480112774713746789 : True := trivial
theorem PySem.W.Fast.tw10539830923882907431 : True := trivial
theorem PySem.W.Fast.tw3213160795123290253 : True := trivial
theorem PySem.W.Fast.tw11170996488273152033 : True := trivial
theorem PySem.W.Fast.tw624279287456248 : True := trivial
theorem PySem.W.Fast.tw7824107286561165849 : True := trivial
theorem PySem.W.Fast.tw15451290096241930861 : True := trivial
theorem PySem.W.Fast.tw17149635655264279008 : True := trivial
theorem PySem.W.Fast.tw14444408980470313299 : True := trivial
theorem PySem.W.Fast.tw8188401267749936503 : True := trivial
theorem PySem.W.Fast.tw9445368202971505881 : True := trivial
theorem PySem.W.Fast.tw2930847095863804692 : True := trivial
theorem PySem.W.Fast.tw13037715646495582230 : True := trivial
theorem PySem.W.Fast.tw7671586630727643706 : True := trivial
theorem PySem.W.Fast.tw8484437477165486232 : True := trivial
theorem PySem.W.Fast.tw5668234358182500229 : True := trivial
theorem PySem.W.Fast.tw2844630439235755277 : True := trivial
theorem PySem.W.Fast.tw15755372745753486401 : True := trivial
theorem PySem.W.Fast.tw13690923072223101831 : True := trivial
theorem PySem.W.Fast.tw6972778757238914099 : True := trivial
theorem PySem.W.Fast.tw16766478022526907524 : True := trivial
theorem PySem.W.Fast.tw16947024622613023108 : True := trivial
theorem PySem.W.Fast.tw4917763208649874112 : True := trivial
theorem PySem.W.Fast.tw2030156106471795453 : True := trivial
theorem PySem.W.Fast.tw2211797254370795712 : True := trivial
theorem PySem.W.Fast.tw14185025932562852028 : True := trivial
theorem PySem.W.Fast.tw10036691869077644618 : True := trivial
theorem PySem.W.Fast.tw447037474377271652 : True := trivial
theorem PySem.W.Fast.tw16860125476076677179 : True := trivial
theorem PySem.W.Fast.tw14515952204461500061 : True := trivial
theorem PySem.W.Fast.tw3684897072990994903 : True := trivial
theorem PySem.W.Fast.tw11971033046701884725 : True := trivial
theorem PySem.W.Fast.tw5945717044298714749 : True := trivial
theorem PySem.W.Fast.tw1900820582907105127 : True := trivial
theorem PySem.W.Fast.tw3908082522381632961 : True := trivial
theorem PySem.W.Fast.tw12673700355054364723 : True := trivial
theorem PySem.W.Fast.tw1177416036967505818 : True := trivial
theorem PySem.W.Fast.tw18407724217805938810 : True := trivial
theorem PySem.W.Fast.tw17208147635096682408 : True := trivial
theorem PySem.W.Fast.tw1433363897490231612 : True := trivial
theorem PySem.W.Fast.tw8750417527183599769 : True := trivial
theorem PySem.W.Fast.tw14096736732657461040 : True := trivial
theorem PySem.W.Fast.tw8573941058832360487 : True := trivial
theorem PySem.W.Fast.tw10210291887983965034 : True := trivial
theorem PySem.W.Fast.tw7664710827339412781 : True := trivial
theorem PySem.W.Fast.tw5773878648929710666 : True := trivial
theorem PySem.W.Fast.tw6688190338021467084 : True := trivial
theorem PySem.W.Fast.tw11646892161296126523 : True := trivial
theorem PySem.W.Fast.tw12418178420319654109 : True := trivial
theorem PySem.W.Fast.tw10554340955387042069 : True := trivial
theorem PySem.W.Fast.tw5214637330106255446 : True := trivial
theorem PySem.W.Fast.tw7956643197512114961 : True := trivial
theorem PySem.W.Fast.tw6722017720420468218 : True := trivial
theorem PySem.W.Fast.tw5244557202066696968 : True := trivial
theorem PySem.W.Fast.tw2169808746040768872 : True := trivial
theorem PySem.W.Fast.tw391898960908012267 : True := trivial
theorem PySem.W.Fast.tw15786023245549362810 : True := trivial
theorem PySem.W.Fast.tw10699731756023292904 : True := trivial
theorem PySem.W.Fast.tw8355159782059512736 : True := trivial
theorem PySem.W.Fast.tw9148661313943789477 : True := trivial
theorem PySem.W.Fast.tw12945010743057437525 : True := trivial
theorem PySem.W.Fast.tw17318619813424612312 : True := trivial
theorem PySem.W.Fast.tw2119844015245074068 : True := trivial
theorem PySem.W.Fast.tw3168257405717229126 : True := trivial
theorem PySem.W.Fast.tw10412839321036235732 : True := trivial
theorem PySem.W.Fast.tw6074090056154762880 : True := trivial
theorem PySem.W.Fast.tw2329279863998095745 : True := trivial
theorem PySem.W.Fast.tw2157575775782335129 : True := trivial
theorem PySem.W.Fast.tw8021880127855813931 : True := trivial
theorem PySem.W.Fast.tw11750394650961020253 : True := trivial
theorem PySem.W.Fast.tw9136441358452948854 : True := trivial
theorem PySem.W.Fast.tw6374166738842994058 : True := trivial
theorem PySem.W.Fast.tw10458188458933205966 : True := trivial
theorem PySem.W.Fast.tw18126054500386941906 : True := trivial
theorem PySem.W.Fast.tw14120381118150018323 : True := trivial
theorem PySem.W.Fast.tw6060779584424850789 : True := trivial
theorem PySem.W.Fast.tw7930199064621090252 : True := trivial
theorem PySem.W.Fast.tw6525482810618677051 : True := trivial
theorem PySem.W.Fast.tw10298670343330763486 : True := trivial
theorem PySem.W.Fast.tw15855639083750883336 : True := trivial
theorem PySem.W.Fast.tw14282325523230294843 : True := trivial
theorem PySem.W.Fast.tw1489484673800270407 : True := trivial
theorem PySem.W.Fast.tw4200581940454377316 : True := trivial
theorem PySem.W.Fast.tw15965597923814983894 : True := trivial
theorem PySem.W.Fast.tw3964735407536557795 : True := trivial
theorem PySem.W.Fast.tw17894993531185879252 : True := trivial
theorem PySem.W.Fast.tw5193191689990798158 : True := trivial
theorem PySem.W.Fast.tw11403503814984043335 : True := trivial
theorem PySem.W.Fast.tw11429860232832723568 : True := trivial
theorem PySem.W.Fast.tw14678778248331997426 : True := trivial
theorem PySem.W.Fast.tw17113299895236107249 : True := trivial
theorem PySem.W.Fast.tw9259231322622223447 : True := trivial
theorem PySem.W.Fast.tw10279815105116298973 : True := trivial
theorem PySem.W.Fast.tw10605642569221396073 : True := trivial
theorem PySem.W.Fast.tw5496521378203147779 : True := trivial
theorem PySem.W.Fast.tw1531870502063499394 : True := trivial
theorem PySem.W.Fast.tw6102318309220724232 : True := trivial
theorem PySem.W.Fast.tw8338063407701391074 : True := trivial
theorem PySem.W.Fast.tw7176606051227906310 : True := trivial
theorem PySem.W.Fast.tw828663396935480384 : True := trivial
theorem PySem.W.Fast.tw9424494757079531041 : True := trivial
theorem PySem.W.Fast.tw4905138622133588488 : True := trivial
theorem PySem.W.Fast.tw17562269361138915400 : True := trivial
theorem PySem.W.Fast.tw7676191468597881552 : True := trivial
theorem PySem.W.Fast.tw4051691894169539697 : True := trivial
theorem PySem.W.Fast.tw14808611753694266485 : True := trivial
theorem PySem.W.Fast.tw13748806545259585084 : True := trivial
theorem PySem.W.Fast.tw1918508510742866847 : True := trivial
theorem PySem.W.Fast.tw11392048862149515042 : True := trivial
theorem PySem.W.Fast.tw17592938939114894677 : True := trivial
theorem PySem.W.Fast.tw5987606789151077262 : True := trivial
theorem PySem.W.Fast.tw1577179029559917939 : True := trivial
theorem PySem.W.Fast.tw14318324309560469218 : True := trivial
theorem PySem.W.Fast.tw16742048606859957129 : True := trivial
theorem PySem.W.Fast.tw9371499413124342598 : True := trivial
theorem PySem.W.Fast.tw12789445540251186361 : True := trivial
theorem PySem.W.Fast.tw14880227366459123963 : True := trivial
theorem PySem.W.Fast.tw17035181869411413519 : True := trivial
theorem PySem.W.Fast.tw5373265168147770120 : True := trivial
theorem PySem.W.Fast.tw2489492071820193287 : True := trivial
theorem PySem.W.Fast.tw17913299369743635465 : True := trivial
theorem PySem.W.Fast.tw4607946511725033398 : True := trivial
theorem PySem.W.Fast.tw10329062010474561693 : True := trivial
theorem PySem.W.Fast.tw7464189082479534749 : True := trivial
theorem PySem.W.Fast.tw7174221110231935501 : True := trivial
theorem PySem.W.Fast.tw10370505944735605140 : True := trivial
theorem PySem.W.Fast.tw9708446426614131364 : True := trivial
theorem PySem.W.Fast.tw12619277339382939404 : True := trivial
theorem PySem.W.Fast.tw18036752315996519452 : True := trivial
theorem PySem.W.Fast.tw6571736342479477308 : True := trivial
theorem PySem.W.Fast.tw17418192586790723984 : True := trivial
theorem PySem.W.Fast.tw16996487763660664484 : True := trivial
theorem PySem.W.Fast.tw275684992097524245 : True := trivial
theorem PySem.W.Fast.tw14117350537702652801 : True := trivial
theorem PySem.W.Fast.tw3598212911149508874 : True := trivial
theorem PySem.W.Fast.tw10240970817152671211 : True := trivial
theorem PySem.W.Fast.tw10137095203952208763 : True := trivial
theorem PySem.W.Fast.tw13877684669369255390 : True := trivial
theorem PySem.W.Fast.tw233451742260216125 : True := trivial
theorem PySem.W.Fast.tw5444463308216082356 : True := trivial
theorem PySem.W.Fast.tw9307601849473984270 : True := trivial
theorem PySem.W.Fast.tw13022985775922814457 : True := trivial
theorem PySem.W.Fast.tw7745570146006638950 : True := trivial
theorem PySem.W.Fast.tw11993492592788519239 : True := trivial
theorem PySem.W.Fast.tw3221321303576882668 : True := trivial
theorem PySem.W.Fast.tw11223437012843707118 : True := trivial
theorem PySem.W.Fast.tw3221065647262274963 : True := trivial
theorem PySem.W.Fast.tw1519943537870978547 : True := trivial
theorem PySem.W.Fast.tw8854851165501928966 : True := trivial
theorem PySem.W.Fast.tw8794465585734098245 : True := trivial
theorem PySem.W.Fast.tw9220346974614814924 : True := trivial
theorem PySem.W.Fast.tw12594635161486058854 : True := trivial
theorem PySem.W.Fast.tw16142653431052179193 : True := trivial
theorem PySem.W.Fast.tw17009235650985524658 : True := trivial
theorem PySem.W.Fast.tw15998890979695346725 : True := trivial
theorem PySem.W.Fast.tw5455935604361945312 : True := trivial
theorem PySem.W.Fast.tw10230925766897204636 : True := trivial
theorem PySem.W.Fast.tw452882140590909991 : True := trivial
theorem PySem.W.Fast.tw13361416705240630141 : True := trivial
theorem PySem.W.Fast.tw4119647879861088295 : True := trivial
theorem PySem.W.Fast.tw10546212029696047273 : True := trivial
theorem PySem.W.Fast.tw10089364017637393491 : True := trivial
theorem PySem.W.Fast.tw7832007894296008225 : True := trivial
theorem PySem.W.Fast.tw15455359202957858302 : True := trivial
theorem PySem.W.Fast.tw6055449582582562699 : True := trivial
theorem PySem.W.Fast.tw9268453059743559161 : True := trivial
theorem PySem.W.Fast.tw9495885913195481236 : True := trivial
theorem PySem.W.Fast.tw12041917750269768201 : True := trivial
theorem PySem.W.Fast.tw4142844461858074934 : True := trivial
theorem PySem.W.Fast.tw7335326381447843823 : True := trivial
theorem PySem.W.Fast.tw7720720702814952773 : True := trivial
theorem PySem.W.Fast.tw12673430681181621782 : True := trivial
theorem PySem.W.Fast.tw17009574417346639053 : True := trivial
theorem PySem.W.Fast.tw3571171510369701077 : True := trivial
theorem PySem.W.Fast.tw4958834402540824584 : True := trivial
theorem PySem.W.Fast.tw1791055161648135413 : True := trivial
theorem PySem.W.Fast.tw14722531864021070328 : True := trivial
theorem PySem.W.Fast.tw9154531282238309410 : True := trivial
theorem PySem.W.Fast.tw6922848348962580692 : True := trivial
theorem PySem.W.Fast.tw17475720362581857273 : True := trivial
theorem PySem.W.Fast.tw3607989330631768097 : True := trivial
theorem PySem.W.Fast.tw15907895972653299583 : True := trivial
theorem PySem.W.Fast.tw4342188311334237062 : True := trivial
theorem PySem.W.Fast.tw289604598573052256 : True := trivial
theorem PySem.W.Fast.tw8116193594391159367 : True := trivial
theorem PySem.W.Fast.tw1121334783539104180 : True := trivial
theorem PySem.W.Fast.tw3195386748791025857 : True := trivial
theorem PySem.W.Fast.tw5781152519322257303 : True := trivial
theorem PySem.W.Fast.tw14350727225678861561 : True := trivial
theorem PySem.W.Fast.tw13010427839386389800 : True := trivial
theorem PySem.W.Fast.tw8471800582515492000 : True := trivial
theorem PySem.W.Fast.tw2519700426098360171 : True := trivial
theorem PySem.W.Fast.tw6577640272630175543 : True := trivial
theorem PySem.W.Fast.tw508691305137791437 : True := trivial
theorem PySem.W.Fast.tw1327452948606004074 : True := trivial
theorem PySem.W.Fast.tw7351821783886927803 : True := trivial
theorem PySem.W.Fast.tw12410488319952414965 : True := trivial
theorem PySem.W.Fast.tw16911445449514169480 : True := trivial
theorem PySem.W.Fast.tw4190593029704355355 : True := trivial
theorem PySem.W.Fast.tw14124043358369775015 : True := trivial
theorem PySem.W.Fast.tw4738693690603036043 : True := trivial
theorem PySem.W.Fast.tw2489764648516791748 : True := trivial
theorem PySem.W.Fast.tw5891303367856497851 : True := trivial
theorem PySem.W.Fast.tw57201371151079393 : True := trivial
theorem PySem.W.Fast.tw4455769681268058906 : True := trivial
theorem PySem.W.Fast.tw14310213305821646817 : True := trivial
theorem PySem.W.Fast.tw17382159718658144618 : True := trivial
theorem PySem.W.Fast.tw15503310949382712953 : True := trivial
theorem PySem.W.Fast.tw11376384923651581990 : True := trivial
theorem PySem.W.Fast.tw13028652899090131130 : True := trivial
theorem PySem.W.Fast.tw7150491094011709673 : True := trivial
theorem PySem.W.Fast.tw16943555511273603185 : True := trivial
theorem PySem.W.Fast.tw10494010657492424852 : True := trivial
theorem PySem.W.Fast.tw8898016258601934450 : True := trivial
theorem PySem.W.Fast.tw2524208612859211274 : True := trivial
theorem PySem.W.Fast.tw5309510124786860176 : True := trivial
theorem PySem.W.Fast.tw12368348094686656314 : True := trivial
theorem PySem.W.Fast.tw4031070173056036746 : True := trivial
theorem PySem.W.Fast.tw12520064021398783414 : True := trivial
theorem PySem.W.Fast.tw15934118976490276874 : True := trivial
theorem PySem.W.Fast.tw11975151746276924038 : True := trivial
theorem PySem.W.Fast.tw12105451272650341528 : True := trivial
theorem PySem.W.Fast.tw5195046830512944004 : True := trivial
theorem PySem.W.Fast.tw16832201853415486833 : True := trivial
theorem PySem.W.Fast.tw7453101610947164072 : True := trivial
theorem PySem.W.Fast.tw18340156035835459387 : True := trivial
theorem PySem.W.Fast.tw14506504348324150111 : True := trivial
theorem PySem.W.Fast.tw11420660057747285688 : True := trivial
theorem PySem.W.Fast.tw5025976536196356140 : True := trivial
theorem PySem.W.Fast.tw1672496623359233387 : True := trivial
theorem PySem.W.Fast.tw430280665971753708 : True := trivial
theorem PySem.W.Fast.tw6621882433895085936 : True := trivial
theorem PySem.W.Fast.tw4273431332123398917 : True := trivial
theorem PySem.W.Fast.tw18424270679501766800 : True := trivial
theorem PySem.W.Fast.tw10614248035580061466 : True := trivial
theorem PySem.W.Fast.tw17227194810736005081 : True := trivial
theorem PySem.W.Fast.tw8341784101593918222 : True := trivial
theorem PySem.W.Fast.tw10819356607501082576 : True := trivial
theorem PySem.W.Fast.tw10981559302664302446 : True := trivial
theorem PySem.W.Fast.tw7318666264273719367 : True := trivial
theorem PySem.W.Fast.tw5601518258960358376 : True := trivial
theorem PySem.W.Fast.tw1899558506836787620 : True := trivial
theorem PySem.W.Fast.tw7913162982788316496 : True := trivial
theorem PySem.W.Fast.tw12269955820323697822 : True := trivial
theorem PySem.W.Fast.tw7667987364159657156 : True := trivial
theorem PySem.W.Fast.tw13482103725805143806 : True := trivial
theorem PySem.W.Fast.tw14354081001911106267 : True := trivial
theorem PySem.W.Fast.tw8101981252623189746 : True := trivial
theorem PySem.W.Fast.tw17210178072120638153 : True := trivial
theorem PySem.W.Fast.tw17325017143703693677 : True := trivial
theorem PySem.W.Fast.tw6386133332562134524 : True := trivial
theorem PySem.W.Fast.tw8619232195420681706 : True := trivial
theorem PySem.W.Fast.tw8019942593867700615 : True := trivial
theorem PySem.W.Fast.tw1571448346751286232 : True := trivial
theorem PySem.W.Fast.tw14864526704620878418 : True := trivial
theorem PySem.W.Fast.tw9216549075025563707 : True := trivial
theorem PySem.W.Fast.tw17165564743967616627 : True := trivial
theorem PySem.W.Fast.tw14384577743915354370 : True := trivial
theorem PySem.W.Fast.tw2743331047615927092 : True := trivial
theorem PySem.W.Fast.tw6971300357731788764 : True := trivial
theorem PySem.W.Fast.tw11505705812505363502 : True := trivial
theorem PySem.W.Fast.tw10594015766826531432 : True := trivial
theorem PySem.W.Fast.tw5092949980170823461 : True := trivial
theorem PySem.W.Fast.tw952558660103631481 : True := trivial
theorem PySem.W.Fast.tw8910681716721987163 : True := trivial
theorem PySem.W.Fast.tw12619447331800654637 : True := trivial
theorem PySem.W.Fast.tw15582140842092687659 : True := trivial
theorem PySem.W.Fast.tw16634250245410685616 : True := trivial
theorem PySem.W.Fast.tw10129987269606827033 : True := trivial
theorem PySem.W.Fast.tw14680193253728877689 : True := trivial
theorem PySem.W.Fast.tw1945866236717393564 : True := trivial
theorem PySem.W.Fast.tw14632107328246816604 : True := trivial
theorem PySem.W.Fast.tw6835340206642889989 : True := trivial
theorem PySem.W.Fast.tw2304058088724133388 : True := trivial
theorem PySem.W.Fast.tw3354985971510197829 : True := trivial
theorem PySem.W.Fast.tw13586533063615489987 : True := trivial
theorem PySem.W.Fast.tw14561573513429724091 : True := trivial
theorem PySem.W.Fast.tw14272275858026114565 : True := trivial
theorem PySem.W.Fast.tw17765075398342144050 : True := trivial
theorem PySem.W.Fast.tw13957531789368881344 : True := trivial
theorem PySem.W.Fast.tw3456293841627921961 : True := trivial
theorem PySem.W.Fast.tw12755942781840833492 : True := trivial
theorem PySem.W.Fast.tw1203991562610716569 : True := trivial
theorem PySem.W.Fast.tw18252556170578246909 : True := trivial
theorem PySem.W.Fast.tw17423571103679438504 : True := trivial
theorem PySem.W.Fast.tw10728845081709165132 : True := trivial
theorem PySem.W.Fast.tw15153754348857673499 : True := trivial
theorem PySem.W.Fast.tw12472429823955234227 : True := trivial
theorem PySem.W.Fast.tw5264083254518934202 : True := trivial
theorem PySem.W.Fast.tw2679150953044209813 : True := trivial
theorem PySem.W.Fast.tw2820070335183597308 : True := trivial
theorem PySem.W.Fast.tw79293570947844210 : True := trivial
theorem PySem.W.Fast.tw5909553171110022551 : True := trivial
theorem PySem.W.Fast.tw8046947879376977514 : True := trivial
theorem PySem.W.Fast.tw11703784947750798534 : True := trivial
theorem PySem.W.Fast.tw5037254324540617544 : True := trivial
theorem PySem.W.Fast.tw9867604314090473653 : True := trivial
theorem PySem.W.Fast.tw16956642163430290364 : True := trivial
theorem PySem.W.Fast.tw9438120702003357354 : True := trivial
theorem PySem.W.Fast.tw15155576802336005997 : True := trivial
theorem PySem.W.Fast.tw16467820542942154506 : True := trivial
theorem PySem.W.Fast.tw1642034016852895038 : True := trivial
theorem PySem.W.Fast.tw4286100252279762549 : True := trivial
theorem PySem.W.Fast.tw4775433353430922617 : True := trivial
theorem PySem.W.Fast.tw2429960304300802917 : True := trivial
theorem PySem.W.Fast.tw3223252457586584890 : True := trivial
theorem PySem.W.Fast.tw13097073323977009866 : True := trivial
theorem PySem.W.Fast.tw6012233671134959473 : True := trivial
theorem PySem.W.Fast.tw1160121192506630452 : True := trivial
theorem PySem.W.Fast.tw3040908944118773577 : True := trivial
theorem PySem.W.Fast.tw12049579360221894713 : True := trivial
theorem PySem.W.Fast.tw4446939876718000427 : True := trivial
theorem PySem.W.Fast.tw8926488090788861915 : True := trivial
theorem PySem.W.Fast.tw1265874536421172408 : True := trivial
theorem PySem.W.Fast.tw495689216774573292 : True := trivial
theorem PySem.W.Fast.tw3619787324536272881 : True := trivial
theorem PySem.W.Fast.tw3077205405608933659 : True := trivial
theorem PySem.W.Fast.tw16182426647131779842 : True := trivial
theorem PySem.W.Fast.tw3453876705414039789 : True := trivial
theorem PySem.W.Fast.tw8123581233724922533 : True := trivial
theorem PySem.W.Fast.tw8777948775866735035 : True := trivial
theorem PySem.W.Fast.tw4369012008797258282 : True := trivial
theorem PySem.W.Fast.tw9370026862798187149 : True := trivial
theorem PySem.W.Fast.tw1349711146847110244 : True := trivial
theorem PySem.W.Fast.tw16284448910615834486 : True := trivial
theorem PySem.W.Fast.tw3355264497877153028 : True := trivial
theorem PySem.W.Fast.tw2441782883785094490 : True := trivial
theorem PySem.W.Fast.tw14063332816632858023 : True := trivial
theorem PySem.W.Fast.tw3695496423230062031 : True := trivial
theorem PySem.W.Fast.tw14099537434873493137 : True := trivial
theorem PySem.W.Fast.tw16243003318910430477 : True := trivial
theorem PySem.W.Fast.tw12921449449369635423 : True := trivial
theorem PySem.W.Fast.tw3858603435439713217 : True := trivial
theorem PySem.W.Fast.tw15135232130831369698 : True := trivial
theorem PySem.W.Fast.tw1971414555092486388 : True := trivial
theorem PySem.W.Fast.tw15536850114448127511 : True := trivial
theorem PySem.W.Fast.tw3408781953923059693 : True := trivial
theorem PySem.W.Fast.tw2304450585966110301 : True := trivial
theorem PySem.W.Fast.tw11307006496687716448 : True := trivial
theorem PySem.W.Fast.tw9691649036580706153 : True := trivial
theorem PySem.W.Fast.tw2025753050891444639 : True := trivial
theorem PySem.W.Fast.tw7436545804838494018 : True := trivial
theorem PySem.W.Fast.tw13432907214245869799 : True := trivial
theorem PySem.W.Fast.tw8729241550901914036 : True := trivial
theorem PySem.W.Fast.tw8354437339446348945 : True := trivial
theorem PySem.W.Fast.tw12275321158881512018 : True := trivial
theorem PySem.W.Fast.tw16456661703502193107 : True := trivial
theorem PySem.W.Fast.tw2776195413367393282 : True := trivial
theorem PySem.W.Fast.tw12762624956312643078 : True := trivial
theorem PySem.W.Fast.tw9622218481397966743 : True := trivial
theorem PySem.W.Fast.tw4491206156163661055 : True := trivial
theorem PySem.W.Fast.tw9222349804724637592 : True := trivial
theorem PySem.W.Fast.tw9295342591229280368 : True := trivial
theorem PySem.W.Fast.tw12384004203814038637 : True := trivial
theorem PySem.W.Fast.tw13905884533020695375 : True := trivial
theorem PySem.W.Fast.tw5776642207350115998 : True := trivial
theorem PySem.W.Fast.tw16773392224507074025 : True := trivial
theorem PySem.W.Fast.tw3975353260656072421 : True := trivial
theorem PySem.W.Fast.tw13463454219064914156 : True := trivial
theorem PySem.W.Fast.tw6184276378180835297 : True := trivial
theorem PySem.W.Fast.tw2096837054244585386 : True := trivial
theorem PySem.W.Fast.tw16431448379178855236 : True := trivial
theorem PySem.W.Fast.tw11973067855221815883 : True := trivial
theorem PySem.W.Fast.tw15375945972055430171 : True := trivial
theorem PySem.W.Fast.tw3819548752056146561 : True := trivial
theorem PySem.W.Fast.tw11099022114513176854 : True := trivial
theorem PySem.W.Fast.tw3913830589256723857 : True := trivial
theorem PySem.W.Fast.tw12198290411613002691 : True := trivial
theorem PySem.W.Fast.tw4041124443035654824 : True := trivial
theorem PySem.W.Fast.tw4327115769662975621 : True := trivial
theorem PySem.W.Fast.tw8137338081841045233 : True := trivial
theorem PySem.W.Fast.tw10974840681391791328 : True := trivial
theorem PySem.W.Fast.tw242985850286361988 : True := trivial
theorem PySem.W.Fast.tw5813097384987193642 : True := trivial
theorem PySem.W.Fast.tw1507542731291015416 : True := trivial
theorem PySem.W.Fast.tw11783937022339708092 : True := trivial
theorem PySem.W.Fast.tw4080099473856455802 : True := trivial
theorem PySem.W.Fast.tw9695448899648088831 : True := trivial
theorem PySem.W.Fast.tw13665741386381048258 : True := trivial
theorem PySem.W.Fast.tw6955503901175677772 : True := trivial
theorem PySem.W.Fast.tw4730227105658360890 : True := trivial
theorem PySem.W.Fast.tw7556096517413628204 : True := trivial
theorem PySem.W.Fast.tw4024556540046334778 : True := trivial
theorem PySem.W.Fast.tw13674054017995950011 : True := trivial
theorem PySem.W.Fast.tw5742430465159286849 : True := trivial
theorem PySem.W.Fast.tw15578544286344519587 : True := trivial
theorem PySem.W.Fast.tw16356508147176187370 : True := trivial
theorem PySem.W.Fast.tw4062300661327178838 : True := trivial
theorem PySem.W.Fast.tw18181821997813235263 : True := trivial
theorem PySem.W.Fast.tw5932438030563881265 : True := trivial
theorem PySem.W.Fast.tw4288241734106586407 : True := trivial
theorem PySem.W.Fast.tw2056482556043280761 : True := trivial
theorem PySem.W.Fast.tw6368379374911076144 : True := trivial
theorem PySem.W.Fast.tw718707306862586528 : True := trivial
theorem PySem.W.Fast.tw14193543731792965234 : True := trivial
theorem PySem.W.Fast.tw3874030711335390417 : True := trivial
theorem PySem.W.Fast.tw121377044949814328 : True := trivial
theorem PySem.W.Fast.tw4935564262068727258 : True := trivial
theorem PySem.W.Fast.tw8574779034481961179 : True := trivial
theorem PySem.W.Fast.tw9218814854114862798 : True := trivial
theorem PySem.W.Fast.tw9703772253689774955 : True := trivial
theorem PySem.W.Fast.tw16546448839862690235 : True := trivial
theorem PySem.W.Fast.tw8978215221554021658 : True := trivial
theorem PySem.W.Fast.tw1736266731532623924 : True := trivial
theorem PySem.W.Fast.tw8156740105842553798 : True := trivial
theorem PySem.W.Fast.tw17269928046775815635 : True := trivial
theorem PySem.W.Fast.tw6514446119993142536 : True := trivial
theorem PySem.W.Fast.tw740566886960269080 : True := trivial
theorem PySem.W.Fast.tw1118187977437227323 : True := trivial
theorem PySem.W.Fast.tw11065846291114368894 : True := trivial
theorem PySem.W.Fast.tw1574574816839623924 : True := trivial
theorem PySem.W.Fast.tw7319654080762829883 : True := trivial
theorem PySem.W.Fast.tw11018417692282328042 : True := trivial
theorem PySem.W.Fast.tw10083732551157881370 : True := trivial
theorem PySem.W.Fast.tw365478471879453857 : True := trivial
theorem PySem.W.Fast.tw2839241977994949557 : True := trivial
theorem PySem.W.Fast.tw6547721506121335551 : True := trivial
theorem PySem.W.Fast.tw12728682743976759461 : True := trivial
theorem PySem.W.Fast.tw5526094815299813181 : True := trivial
theorem PySem.W.Fast.tw8980143303969584242 : True := trivial
theorem PySem.W.Fast.tw13111135155578534117 : True := trivial
theorem PySem.W.Fast.tw5640544350530550888 : True := trivial
theorem PySem.W.Fast.tw6934132825456361536 : True := trivial
theorem PySem.W.Fast.tw7242271762568439835 : True := trivial
theorem PySem.W.Fast.tw3482657744240725549 : True := trivial
theorem PySem.W.Fast.tw2906481342142547395 : True := trivial
theorem PySem.W.Fast.tw2786725899776759951 : True := trivial
theorem PySem.W.Fast.tw2169229186297065199 : True := trivial
theorem PySem.W.Fast.tw16549050100816430957 : True := trivial
theorem PySem.W.Fast.tw10763611352569649397 : True := trivial
theorem PySem.W.Fast.tw16180475697102438810 : True := trivial
theorem PySem.W.Fast.tw5829043423478812932 : True := trivial
theorem PySem.W.Fast.tw6194576486986067814 : True := trivial
theorem PySem.W.Fast.tw10688661859395272870 : True := trivial
theorem PySem.W.Fast.tw5979030537613731606 : True := trivial
theorem PySem.W.Fast.tw12933201014309952712 : True := trivial
theorem PySem.W.Fast.tw9075665469006206343 : True := trivial
theorem PySem.W.Fast.tw9841111098772475542 : True := trivial
theorem PySem.W.Fast.tw5535587482813679258 : True := trivial
theorem PySem.W.Fast.tw15924761509370880239 : True := trivial
theorem PySem.W.Fast.tw8293714290226156835 : True := trivial
theorem PySem.W.Fast.tw7128024137055969650 : True := trivial
theorem PySem.W.Fast.tw15510502201134129138 : True := trivial
theorem PySem.W.Fast.tw17684060661775708368 : True := trivial
theorem PySem.W.Fast.tw283434283412011986 : True := trivial
theorem PySem.W.Fast.tw7023078963593354739 : True := trivial
theorem PySem.W.Fast.tw8135270522610386158 : True := trivial
theorem PySem.W.Fast.tw5408789362395800909 : True := trivial
theorem PySem.W.Fast.tw3895136856712023684 : True := trivial
theorem PySem.W.Fast.tw11641007252046822822 : True := trivial
theorem PySem.W.Fast.tw5824488190617632706 : True := trivial
theorem PySem.W.Fast.tw1188591898550757966 : True := trivial
theorem PySem.W.Fast.tw12173022245865876192 : True := trivial
theorem PySem.W.Fast.tw10688566679108394381 : True := trivial
theorem PySem.W.Fast.tw8389292812003930759 : True := trivial
theorem PySem.W.Fast.tw9385195145011679235 : True := trivial
theorem PySem.W.Fast.tw14571436060094367281 : True := trivial
theorem PySem.W.Fast.tw10475154000814891137 : True := trivial
theorem PySem.W.Fast.tw2834869198908974440 : True := trivial
theorem PySem.W.Fast.tw1541914204962955906 : True := trivial
theorem PySem.W.Fast.tw13877842786261374922 : True := trivial
theorem PySem.W.Fast.tw17653895142449186602 : True := trivial
theorem PySem.W.Fast.tw9068801006804080580 : True := trivial
theorem PySem.W.Fast.tw11546442673157517630 : True := trivial
theorem PySem.W.Fast.tw15083338820558942776 : True := trivial
theorem PySem.W.Fast.tw4691949820250407811 : True := trivial
theorem PySem.W.Fast.tw5845238034114133193 : True := trivial
theorem PySem.W.Fast.tw17089079585891113109 : True := trivial
theorem PySem.W.Fast.tw6233114709951986256 : True := trivial
theorem PySem.W.Fast.tw5697913995219573455 : True := trivial
theorem PySem.W.Fast.tw10694710440067434786 : True := trivial
theorem PySem.W.Fast.tw17165210745082529846 : True := trivial
theorem PySem.W.Fast.tw5492241476436815916 : True := trivial
theorem PySem.W.Fast.tw8931773344211847484 : True := trivial
theorem PySem.W.Fast.tw3796721060147681319 : True := trivial
theorem PySem.W.Fast.tw11573375011892030220 : True := trivial
theorem PySem.W.Fast.tw17161715528483488064 : True := trivial
theorem PySem.W.Fast.tw9377105878046727017 : True := trivial
theorem PySem.W.Fast.tw4799178052473797338 : True := trivial
theorem PySem.W.Fast.tw12315488009184509976 : True := trivial
theorem PySem.W.Fast.tw10883418943971927730 : True := trivial
theorem PySem.W.Fast.tw11230421356098226545 : True := trivial
theorem PySem.W.Fast.tw18436876401572962012 : True := trivial
theorem PySem.W.Fast.tw13758995128949573416 : True := trivial
theorem PySem.W.Fast.tw17633738680750001076 : True := trivial
theorem PySem.W.Fast.tw17681139030863374593 : True := trivial
theorem PySem.W.Fast.tw957054182467052071 : True := trivial
theorem PySem.W.Fast.tw17097177135670458672 : True := trivial
theorem PySem.W.Fast.tw1336425332122665253 : True := trivial
theorem PySem.W.Fast.tw1771584257367772617 : True := trivial
theorem PySem.W.Fast.tw2143041576299870314 : True := trivial
theorem PySem.W.Fast.tw9107076856260261527 : True := trivial
theorem PySem.W.Fast.tw18365713353996508207 : True := trivial
theorem PySem.W.Fast.tw5779182206817903604 : True := trivial
theorem PySem.W.Fast.tw5737873381282518753 : True := trivial
theorem PySem.W.Fast.tw14514343355038310630 : True := trivial
theorem PySem.W.Fast.tw13779100508229848223 : True := trivial
theorem PySem.W.Fast.tw3673146006094221687 : True := trivial
theorem PySem.W.Fast.tw8302613423176267302 : True := trivial
theorem PySem.W.Fast.tw3458293429340638877 : True := trivial
theorem PySem.W.Fast.tw7896810023513686399 : True := trivial
theorem PySem.W.Fast.tw1619357140333130379 : True := trivial
theorem PySem.W.Fast.tw6378550530111457149 : True := trivial
theorem PySem.W.Fast.tw13270141203278350133 : True := trivial
theorem PySem.W.Fast.tw11143993633884903578 : True := trivial
theorem PySem.W.Fast.tw12538638181194008162 : True := trivial
theorem PySem.W.Fast.tw15770625942272983449 : True := trivial
theorem PySem.W.Fast.tw1614606195242976793 : True := trivial
theorem PySem.W.Fast.tw6758511994573163519 : True := trivial
theorem PySem.W.Fast.tw8502152771132565470 : True := trivial
theorem PySem.W.Fast.tw16257119699994149048 : True := trivial
theorem PySem.W.Fast.tw16478920251735264827 : True := trivial
theorem PySem.W.Fast.tw2847340568704060287 : True := trivial
theorem PySem.W.Fast.tw6535835921662548749 : True := trivial
theorem PySem.W.Fast.tw1820788469164685866 : True := trivial
theorem PySem.W.Fast.tw14234241009036997589 : True := trivial
theorem PySem.W.Fast.tw9061498410584768682 : True := trivial
theorem PySem.W.Fast.tw44222628441428028 : True := trivial
theorem PySem.W.Fast.tw1568335422707456272 : True := trivial
theorem PySem.W.Fast.tw8624930384720322786 : True := trivial
theorem PySem.W.Fast.tw6848219600852386908 : True := trivial
theorem PySem.W.Fast.tw18062764734035852604 : True := trivial
theorem PySem.W.Fast.tw6550829667886629287 : True := trivial
theorem PySem.W.Fast.tw4029822594119487342 : True := trivial
theorem PySem.W.Fast.tw9593737393121167546 : True := trivial
theorem PySem.W.Fast.tw13790073537979240185 : True := trivial
theorem PySem.W.Fast.tw4966904094436817132 : True := trivial
theorem PySem.W.Fast.tw5189275887070141208 : True := trivial
theorem PySem.W.Fast.tw6713862779884132962 : True := trivial
theorem PySem.W.Fast.tw9360627141155910009 : True := trivial
theorem PySem.W.Fast.tw12080383555133365865 : True := trivial
theorem PySem.W.Fast.tw1677498280094901026 : True := trivial
theorem PySem.W.Fast.tw810476823383932734 : True := trivial
theorem PySem.W.Fast.tw4657760044208675732 : True := trivial
theorem PySem.W.Fast.tw14546300097538797261 : True := trivial
theorem PySem.W.Fast.tw15671316091035068979 : True := trivial
theorem PySem.W.Fast.tw6382521183884106177 : True := trivial
theorem PySem.W.Fast.tw11681810975449736864 : True := trivial
theorem PySem.W.Fast.tw10446494062037330463 : True := trivial
theorem PySem.W.Fast.tw7765602216761009481 : True := trivial
theorem PySem.W.Fast.tw17643633870697985153 : True := trivial
theorem PySem.W.Fast.tw3838887189508029675 : True := trivial
theorem PySem.W.Fast.tw16347608879928547748 : True := trivial
theorem PySem.W.Fast.tw18195510464106325865 : True := trivial
theorem PySem.W.Fast.tw13007530908699432113 : True := trivial
theorem PySem.W.Fast.tw17878061409380000222 : True := trivial
theorem PySem.W.Fast.tw13090894410227486355 : True := trivial
theorem PySem.W.Fast.tw4013849350084622410 : True := trivial
theorem PySem.W.Fast.tw2139809005658248727 : True := trivial
theorem PySem.W.Fast.tw3404758324684235563 : True := trivial
theorem PySem.W.Fast.tw11049868186829354277 : True := trivial
theorem PySem.W.Fast.tw8760436667718218080 : True := trivial
theorem PySem.W.Fast.tw16711066164803633130 : True := trivial
theorem PySem.W.Fast.tw15012287363236039645 : True := trivial
theorem PySem.W.Fast.tw15625966232754344301 : True := trivial
theorem PySem.W.Fast.tw16749667216505246811 : True := trivial
theorem PySem.W.Fast.tw17386448728773906128 : True := trivial
theorem PySem.W.Fast.tw8878626234204801361 : True := trivial
theorem PySem.W.Fast.tw15664042939870968848 : True := trivial
theorem PySem.W.Fast.tw1709678272786646174 : True := trivial
theorem PySem.W.Fast.tw577753148729684295 : True := trivial
theorem PySem.W.Fast.tw6975791321642066594 : True := trivial
theorem PySem.W.Fast.tw11915407779087737718 : True := trivial
theorem PySem.W.Fast.tw16929206254827860326 : True := trivial
theorem PySem.W.Fast.tw1170004341003438775 : True := trivial
theorem PySem.W.Fast.tw6422685306923933025 : True := trivial
theorem PySem.W.Fast.tw10981987306440284399 : True := trivial
theorem PySem.W.Fast.tw15715236232649584293 : True := trivial
theorem PySem.W.Fast.tw3979872851586351779 : True := trivial
theorem PySem.W.Fast.tw8178094729310998997 : True := trivial
theorem PySem.W.Fast.tw11715865478176592050 : True := trivial
theorem PySem.W.Fast.tw12483561036068075202 : True := trivial
theorem PySem.W.Fast.tw17620197654349387015 : True := trivial
theorem PySem.W.Fast.tw13191501209539809886 : True := trivial
theorem PySem.W.Fast.tw10462438043425697513 : True := trivial
theorem PySem.W.Fast.tw16424705116135803042 : True := trivial
theorem PySem.W.Fast.tw2975443849064423472 : True := trivial
theorem PySem.W.Fast.tw3838849768889951081 : True := trivial
theorem PySem.W.Fast.tw3258798530165640443 : True := trivial
theorem PySem.W.Fast.tw5033176256137486525 : True := trivial
theorem PySem.W.Fast.tw15594459756429906574 : True := trivial
theorem PySem.W.Fast.tw2415391579152807332 : True := trivial
theorem PySem.W.Fast.tw3605288750548290635 : True := trivial
theorem PySem.W.Fast.tw8554953340955152793 : True := trivial
theorem PySem.W.Fast.tw11215049500127931744 : True := trivial
theorem PySem.W.Fast.tw6054941557421016456 : True := trivial
theorem PySem.W.Fast.tw5027413963449196499 : True := trivial
theorem PySem.W.Fast.tw11797544738109055116 : True := trivial
theorem PySem.W.Fast.tw516246369390975811 : True := trivial
theorem PySem.W.Fast.tw7337681297719630138 : True := trivial
theorem PySem.W.Fast.tw4055508763448371304 : True := trivial
theorem PySem.W.Fast.tw14476461673273091461 : True := trivial
theorem PySem.W.Fast.tw11889982919762571797 : True := trivial
theorem PySem.W.Fast.tw13536756195587649175 : True := trivial
theorem PySem.W.Fast.tw15127872303463939930 : True := trivial
theorem PySem.W.Fast.tw9134387201694984062 : True := trivial
theorem PySem.W.Fast.tw7858185818353440454 : True := trivial
theorem PySem.W.Fast.tw7378659964703057434 : True := trivial
theorem PySem.W.Fast.tw18409549033507341654 : True := trivial
theorem PySem.W.Fast.tw11876704516948501442 : True := trivial
theorem PySem.W.Fast.tw15240490440638444147 : True := trivial
theorem PySem.W.Fast.tw16678120890187949686 : True := trivial
theorem PySem.W.Fast.tw16278046618352040640 : True := trivial
theorem PySem.W.Fast.tw18230671770039721938 : True := trivial
theorem PySem.W.Fast.tw8694318360801859906 : True := trivial
theorem PySem.W.Fast.tw3015862147503670746 : True := trivial
theorem PySem.W.Fast.tw5235331239672405708 : True := trivial
theorem PySem.W.Fast.tw16281588938531435837 : True := trivial
theorem PySem.W.Fast.tw18181740657435364065 : True := trivial
theorem PySem.W.Fast.tw9147033522428890503 : True := trivial
theorem PySem.W.Fast.tw9898245905124711643 : True := trivial
theorem PySem.W.Fast.tw10872221258072962042 : True := trivial
theorem PySem.W.Fast.tw13189691145651696153 : True := trivial
theorem PySem.W.Fast.tw17533258986388149095 : True := trivial
theorem PySem.W.Fast.tw17867769654399947492 : True := trivial
theorem PySem.W.Fast.tw2266337988182965740 : True := trivial
theorem PySem.W.Fast.tw8482794266127946554 : True := trivial
theorem PySem.W.Fast.tw1733253077950754757 : True := trivial
theorem PySem.W.Fast.tw5362727541029471866 : True := trivial
theorem PySem.W.Fast.tw4622251727713321430 : True := trivial
theorem PySem.W.Fast.tw17993363987706936223 : True := trivial
theorem PySem.W.Fast.tw16866237502980612527 : True := trivial
theorem PySem.W.Fast.tw8449752831634458018 : True := trivial
theorem PySem.W.Fast.tw4794805963526949039 : True := trivial
theorem PySem.W.Fast.tw7455430158877533265 : True := trivial
theorem PySem.W.Fast.tw15851714072772140674 : True := trivial
theorem PySem.W.Fast.tw11727101648053530935 : True := trivial
theorem PySem.W.Fast.tw2749949456572637861 : True := trivial
theorem PySem.W.Fast.tw7340494008057668619 : True := trivial
theorem PySem.W.Fast.tw11676736570853733936 : True := trivial
theorem PySem.W.Fast.tw18363986060210684862 : True := trivial
theorem PySem.W.Fast.tw1668883179315257991 : True := trivial
theorem PySem.W.Fast.tw10405205475183618383 : True := trivial
theorem PySem.W.Fast.tw13929253807865224494 : True := trivial
theorem PySem.W.Fast.tw9481126406316700923 : True := trivial
theorem PySem.W.Fast.tw9992137365474611966 : True := trivial
theorem PySem.W.Fast.tw12861997663045507115 : True := trivial
theorem PySem.W.Fast.tw5694343157020725161 : True := trivial
theorem PySem.W.Fast.tw11699537055163924312 : True := trivial
theorem PySem.W.Fast.tw4888340363877145239 : True := trivial
theorem PySem.W.Fast.tw10233327675437086687 : True := trivial
theorem PySem.W.Fast.tw7390019697026001746 : True := trivial
theorem PySem.W.Fast.tw7731228052075568047 : True := trivial
theorem PySem.W.Fast.tw10990214983477774130 : True := trivial
theorem PySem.W.Fast.tw8938838312560375134 : True := trivial
theorem PySem.W.Fast.tw759757011986182589 : True := trivial
theorem PySem.W.Fast.tw1828401959936413109 : True := trivial
theorem PySem.W.Fast.tw6393021526254061430 : True := trivial
theorem PySem.W.Fast.tw18178474696911641000 : True := trivial
theorem PySem.W.Fast.tw17241555182460243520 : True := trivial
theorem PySem.W.Fast.tw10499874378442254478 : True := trivial
theorem PySem.W.Fast.tw7373024774194169037 : True := trivial
theorem PySem.W.Fast.tw1689364699042185269 : True := trivial
theorem PySem.W.Fast.tw14924604118394061903 : True := trivial
theorem PySem.W.Fast.tw3216591383569524334 : True := trivial
theorem PySem.W.Fast.tw3824767726719779436 : True := trivial
theorem PySem.W.Fast.tw564861551729366160 : True := trivial
theorem PySem.W.Fast.tw2491663674544443743 : True := trivial
theorem PySem.W.Fast.tw6834222780286392347 : True := trivial
theorem PySem.W.Fast.tw5093680283079831145 : True := trivial
theorem PySem.W.Fast.tw13845163017057681452 : True := trivial
theorem PySem.W.Fast.tw2459391229089583759 : True := trivial
theorem PySem.W.Fast.tw13822122749929197818 : True := trivial
theorem PySem.W.Fast.tw4859951419633400754 : True := trivial
theorem PySem.W.Fast.tw13812598803850977185 : True := trivial
theorem PySem.W.Fast.tw12574844894857806897 : True := trivial
theorem PySem.W.Fast.tw4696418973239538087 : True := trivial
theorem PySem.W.Fast.tw8453259221372353482 : True := trivial
theorem PySem.W.Fast.tw16525754891961972014 : True := trivial
theorem PySem.W.Fast.tw15908323167987986229 : True := trivial
theorem PySem.W.Fast.tw1236348834049845567 : True := trivial
theorem PySem.W.Fast.tw11816624558595872725 : True := trivial
theorem PySem.W.Fast.tw6166353960482400013 : True := trivial
theorem PySem.W.Fast.tw17973534428710868114 : True := trivial
theorem PySem.W.Fast.tw2336486703111904853 : True := trivial
theorem PySem.W.Fast.tw10862788731117732415 : True := trivial
theorem PySem.W.Fast.tw13406791369674273641 : True := trivial
theorem PySem.W.Fast.tw7426669412366045771 : True := trivial
theorem PySem.W.Fast.tw5018928401430193922 : True := trivial
theorem PySem.W.Fast.tw6257198928592636322 : True := trivial
theorem PySem.W.Fast.tw9309001465568843361 : True := trivial
theorem PySem.W.Fast.tw8853363750855136230 : True := trivial
theorem PySem.W.Fast.tw14969305455292807635 : True := trivial
theorem PySem.W.Fast.tw5856743471931035832 : True := trivial
theorem PySem.W.Fast.tw12725884363563785700 : True := trivial
theorem PySem.W.Fast.tw809709357370167810 : True := trivial
theorem PySem.W.Fast.tw3792287128245119640 : True := trivial
theorem PySem.W.Fast.tw4161134196377961204 : True := trivial
theorem PySem.W.Fast.tw15222792792295553401 : True := trivial
theorem PySem.W.Fast.tw8635148352798008514 : True := trivial
theorem PySem.W.Fast.tw13455718990355238489 : True := trivial
theorem PySem.W.Fast.tw17217813884083370680 : True := trivial
theorem PySem.W.Fast.tw16522922144446974112 : True := trivial
theorem PySem.W.Fast.tw12920349177846501475 : True := trivial
theorem PySem.W.Fast.tw18354824528048939463 : True := trivial
theorem PySem.W.Fast.tw12783364781338823534 : True := trivial
theorem PySem.W.Fast.tw5273413516094219005 : True := trivial
theorem PySem.W.Fast.tw14140632083653924954 : True := trivial
theorem PySem.W.Fast.tw12646354208194936370 : True := trivial
theorem PySem.W.Fast.tw1376485206252760007 : True := trivial
theorem PySem.W.Fast.tw5248385341185336973 : True := trivial
theorem PySem.W.Fast.tw15882330765843545042 : True := trivial
theorem PySem.W.Fast.tw13133361216273598598 : True := trivial
theorem PySem.W.Fast.tw2387799185448391819 : True := trivial
theorem PySem.W.Fast.tw10191177106237337442 : True := trivial
theorem PySem.W.Fast.tw9097733566480405027 : True := trivial
theorem PySem.W.Fast.tw10552593072611585095 : True := trivial
theorem PySem.W.Fast.tw7941800926893190864 : True := trivial
theorem PySem.W.Fast.tw17161197757407373819 : True := trivial
theorem PySem.W.Fast.tw2196388974027487611 : True := trivial
theorem PySem.W.Fast.tw14891925874597420929 : True := trivial
theorem PySem.W.Fast.tw1793893123165342028 : True := trivial
theorem PySem.W.Fast.tw8782200863879467931 : True := trivial
theorem PySem.W.Fast.tw628597455789844352 : True := trivial
theorem PySem.W.Fast.tw12343392858446005416 : True := trivial
theorem PySem.W.Fast.tw7724002462186942610 : True := trivial
theorem PySem.W.Fast.tw1049698883007553694 : True := trivial
theorem PySem.W.Fast.tw3809512872528140545 : True := trivial
theorem PySem.W.Fast.tw10404273222534659888 : True := trivial
theorem PySem.W.Fast.tw10513872651302548135 : True := trivial
theorem PySem.W.Fast.tw4928496261491372724 : True := trivial
theorem PySem.W.Fast.tw10560794789373740045 : True := trivial
theorem PySem.W.Fast.tw12972983522151647535 : True := trivial
theorem PySem.W.Fast.tw2773116708219635171 : True := trivial
theorem PySem.W.Fast.tw11552022506999714354 : True := trivial
theorem PySem.W.Fast.tw7046393120634140174 : True := trivial
theorem PySem.W.Fast.tw1300956931193018181 : True := trivial
theorem PySem.W.Fast.tw4244860866448105465 : True := trivial
theorem PySem.W.Fast.tw12377958786595148550 : True := trivial
theorem PySem.W.Fast.tw14217390363128684027 : True := trivial
theorem PySem.W.Fast.tw3945565585100738184 : True := trivial
theorem PySem.W.Fast.tw8381498988364847381 : True := trivial
theorem PySem.W.Fast.tw12253368494236309347 : True := trivial
theorem PySem.W.Fast.tw771831758391987413 : True := trivial
theorem PySem.W.Fast.tw16138057410372746434 : True := trivial
theorem PySem.W.Fast.tw14282006650895619206 : True := trivial
theorem PySem.W.Fast.tw18347439958701617483 : True := trivial
theorem PySem.W.Fast.tw2742695350004947637 : True := trivial
theorem PySem.W.Fast.tw12707512877318774986 : True := trivial
theorem PySem.W.Fast.tw16502522566900527731 : True := trivial
theorem PySem.W.Fast.tw3399719747291740288 : True := trivial
theorem PySem.W.Fast.tw4262889860726336702 : True := trivial
theorem PySem.W.Fast.tw2403747758600008533 : True := trivial
theorem PySem.W.Fast.tw29133191081536058 : True := trivial
theorem PySem.W.Fast.tw3092038957107131835 : True := trivial
theorem PySem.W.Fast.tw11373136597840543259 : True := trivial
theorem PySem.W.Fast.tw15896552096128721358 : True := trivial
theorem PySem.W.Fast.tw2464711994407599331 : True := trivial
theorem PySem.W.Fast.tw1731256956054845514 : True := trivial
theorem PySem.W.Fast.tw15126927553963681678 : True := trivial
theorem PySem.W.Fast.tw10097658176954853427 : True := trivial
theorem PySem.W.Fast.tw9133031745444637786 : True := trivial
theorem PySem.W.Fast.tw10893868410630108033 : True := trivial
theorem PySem.W.Fast.tw16857233031869460043 : True := trivial
theorem PySem.W.Fast.tw7025685654478229559 : True := trivial
theorem PySem.W.Fast.tw14918418005546605256 : True := trivial
theorem PySem.W.Fast.tw8713076595882073924 : True := trivial
theorem PySem.W.Fast.tw9805864831732795656 : True := trivial
theorem PySem.W.Fast.tw1876519343725995509 : True := trivial
theorem PySem.W.Fast.tw18381828329900263216 : True := trivial
theorem PySem.W.Fast.tw8548665722643434321 : True := trivial
theorem PySem.W.Fast.tw7134992649644133862 : True := trivial
theorem PySem.W.Fast.tw4007789895983545851 : True := trivial
theorem PySem.W.Fast.tw1369751532829277314 : True := trivial
theorem PySem.W.Fast.tw1825163039247828919 : True := trivial
theorem PySem.W.Fast.tw244285187869860638 : True := trivial
theorem PySem.W.Fast.tw1947933624289733311 : True := trivial
theorem PySem.W.Fast.tw10783896167125272376 : True := trivial
theorem PySem.W.Fast.tw112001202169279913 : True := trivial
theorem PySem.W.Fast.tw3480799463672737645 : True := trivial
theorem PySem.W.Fast.tw6423422865892617861 : True := trivial
theorem PySem.W.Fast.tw187987433002178854 : True := trivial
theorem PySem.W.Fast.tw8738204281824782698 : True := trivial
theorem PySem.W.Fast.tw11273210457761008745 : True := trivial
theorem PySem.W.Fast.tw1940103899481368590 : True := trivial
theorem PySem.W.Fast.tw1423925151705046536 : True := trivial
theorem PySem.W.Fast.tw5756757013405252712 : True := trivial
theorem PySem.W.Fast.tw18092524410824902452 : True := trivial
theorem PySem.W.Fast.tw4258109619509480716 : True := trivial
theorem PySem.W.Fast.tw16523151578105531133 : True := trivial
theorem PySem.W.Fast.tw85169917115337492 : True := trivial
theorem PySem.W.Fast.tw12182299974456693924 : True := trivial
theorem PySem.W.Fast.tw5824513025516344676 : True := trivial
theorem PySem.W.Fast.tw9078236699125703700 : True := trivial
theorem PySem.W.Fast.tw3508189478750043633 : True := trivial
theorem PySem.W.Fast.tw16645883658440732657 : True := trivial
theorem PySem.W.Fast.tw15699270634285967885 : True := trivial
theorem PySem.W.Fast.tw5384758652655074977 : True := trivial
theorem PySem.W.Fast.tw10178550722006254006 : True := trivial
theorem PySem.W.Fast.tw9179461350144382011 : True := trivial
theorem PySem.W.Fast.tw780286312350682030 : True := trivial
theorem PySem.W.Fast.tw9194207003852412797 : True := trivial
theorem PySem.W.Fast.tw17979361852132172087 : True := trivial
theorem PySem.W.Fast.tw6102779829811221608 : True := trivial
theorem PySem.W.Fast.tw341813970724028498 : True := trivial
theorem PySem.W.Fast.tw9061998292586737535 : True := trivial
theorem PySem.W.Fast.tw11162076846934830970 : True := trivial
theorem PySem.W.Fast.tw2955466483052415599 : True := trivial
theorem PySem.W.Fast.tw6518705955480644539 : True := trivial
theorem PySem.W.Fast.tw1809216837135989952 : True := trivial
theorem PySem.W.Fast.tw10062106360130385921 : True := trivial
theorem PySem.W.Fast.tw8217071535128419871 : True := trivial
theorem PySem.W.Fast.tw1176983117800772464 : True := trivial
theorem PySem.W.Fast.tw11795910223765577768 : True := trivial
theorem PySem.W.Fast.tw8610462646043850073 : True := trivial
theorem PySem.W.Fast.tw14900054781317787785 : True := trivial
theorem PySem.W.Fast.tw11422930597910517280 : True := trivial
theorem PySem.W.Fast.tw2620268659343486214 : True := trivial
theorem PySem.W.Fast.tw12742000078890040860 : True := trivial
theorem PySem.W.Fast.tw7996696622435077502 : True := trivial
theorem PySem.W.Fast.tw1236940476627449968 : True := trivial
theorem PySem.W.Fast.tw8718289429303794355 : True := trivial
theorem PySem.W.Fast.tw15763560949004065275 : True := trivial
theorem PySem.W.Fast.tw14178204579556188400 : True := trivial
theorem PySem.W.Fast.tw10538230665297781997 : True := trivial
theorem PySem.W.Fast.tw3394333744208024210 : True := trivial
theorem PySem.W.Fast.tw7099153126646753380 : True := trivial
theorem PySem.W.Fast.tw18235500165215204004 : True := trivial
theorem PySem.W.Fast.tw10230953622807331932 : True := trivial
theorem PySem.W.Fast.tw12370695353633103618 : True := trivial
theorem PySem.W.Fast.tw12018224090662836582 : True := trivial
theorem PySem.W.Fast.tw1668457189887388621 : True := trivial
theorem PySem.W.Fast.tw17507273560680061346 : True := trivial
theorem PySem.W.Fast.tw12246232992004808935 : True := trivial
theorem PySem.W.Fast.tw661753820018178017 : True := trivial
theorem PySem.W.Fast.tw4613905819562340788 : True := trivial
theorem PySem.W.Fast.tw4033337627361663293 : True := trivial
theorem PySem.W.Fast.tw4587950665752652859 : True := trivial
theorem PySem.W.Fast.tw5425343371514572157 : True := trivial
theorem PySem.W.Fast.tw98335577201339098 : True := trivial
theorem PySem.W.Fast.tw8939491920398016622 : True := trivial
theorem PySem.W.Fast.tw15601071235630944587 : True := trivial
theorem PySem.W.Fast.tw2124803699993022060 : True := trivial
theorem PySem.W.Fast.tw6555928477268046950 : True := trivial
theorem PySem.W.Fast.tw1373752513415778484 : True := trivial
theorem PySem.W.Fast.tw4684113213838758119 : True := trivial
theorem PySem.W.Fast.tw11544861494290381677 : True := trivial
theorem PySem.W.Fast.tw16292238095721501912 : True := trivial
theorem PySem.W.Fast.tw12450524763341053424 : True := trivial
theorem PySem.W.Fast.tw15880518439430926490 : True := trivial
theorem PySem.W.Fast.tw3606266964459193580 : True := trivial
theorem PySem.W.Fast.tw17424852841920336955 : True := trivial
theorem PySem.W.Fast.tw9378352846398261721 : True := trivial
theorem PySem.W.Fast.tw8802307860112266376 : True := trivial
theorem PySem.W.Fast.tw16429109773305367631 : True := trivial
theorem PySem.W.Fast.tw17882351619797662502 : True := trivial
theorem PySem.W.Fast.tw156755412297761319 : True := trivial
theorem PySem.W.Fast.tw15946114192821561297 : True := trivial
theorem PySem.W.Fast.tw9136451653996543657 : True := trivial
theorem PySem.W.Fast.tw7168288394973346118 : True := trivial
theorem PySem.W.Fast.tw14927141494635144172 : True := trivial
theorem PySem.W.Fast.tw5510396088984292767 : True := trivial
theorem PySem.W.Fast.tw11548618537711778100 : True := trivial
theorem PySem.W.Fast.tw6837533915333678027 : True := trivial
theorem PySem.W.Fast.tw13518173654742806704 : True := trivial
theorem PySem.W.Fast.tw18164721405209734987 : True := trivial
theorem PySem.W.Fast.tw6851509531926676146 : True := trivial
theorem PySem.W.Fast.tw13539047414221093796 : True := trivial
theorem PySem.W.Fast.tw8972075182829373258 : True := trivial
theorem PySem.W.Fast.tw14970960330121893602 : True := trivial
theorem PySem.W.Fast.tw6750090871797965393 : True := trivial
theorem PySem.W.Fast.tw9782056310924321631 : True := trivial
theorem PySem.W.Fast.tw1840692979559431272 : True := trivial
theorem PySem.W.Fast.tw6902572180270808400 : True := trivial
theorem PySem.W.Fast.tw9974858301398483749 : True := trivial
theorem PySem.W.Fast.tw15568810588623521426 : True := trivial
theorem PySem.W.Fast.tw5498459159783027771 : True := trivial
theorem PySem.W.Fast.tw17843545879715019982 : True := trivial
theorem PySem.W.Fast.tw634283632637876696 : True := trivial
theorem PySem.W.Fast.tw886802338729604313 : True := trivial
theorem PySem.W.Fast.tw2058438311493377611 : True := trivial
theorem PySem.W.Fast.tw9765783610087559784 : True := trivial
theorem PySem.W.Fast.tw11601894577752042587 : True := trivial
theorem PySem.W.Fast.tw10879461400124660872 : True := trivial
theorem PySem.W.Fast.tw17613622067833613607 : True := trivial
theorem PySem.W.Fast.tw7371129774339434167 : True := trivial
theorem PySem.W.Fast.tw8335000435423021597 : True := trivial
theorem PySem.W.Fast.tw8439724876962487674 : True := trivial
theorem PySem.W.Fast.tw9369561045460712241 : True := trivial
theorem PySem.W.Fast.tw12052734380115690528 : True := trivial
theorem PySem.W.Fast.tw15558444977292276674 : True := trivial
theorem PySem.W.Fast.tw2308944152154694235 : True := trivial
theorem PySem.W.Fast.tw9255001807394279989 : True := trivial
theorem PySem.W.Fast.tw9943254816460590324 : True := trivial
theorem PySem.W.Fast.tw1179390751809329297 : True := trivial
theorem PySem.W.Fast.tw17679810152060643281 : True := trivial
theorem PySem.W.Fast.tw2982236001909199501 : True := trivial
theorem PySem.W.Fast.tw11964156120325194147 : True := trivial
theorem PySem.W.Fast.tw12294974406147942518 : True := trivial
theorem PySem.W.Fast.tw16566027368541737441 : True := trivial
theorem PySem.W.Fast.tw2105253499812871042 : True := trivial
theorem PySem.W.Fast.tw11388548398535085046 : True := trivial
theorem PySem.W.Fast.tw7206925197178370336 : True := trivial
theorem PySem.W.Fast.tw18363807267836994273 : True := trivial
theorem PySem.W.Fast.tw9147727769397506838 : True := trivial
theorem PySem.W.Fast.tw11359275859150890689 : True := trivial
theorem PySem.W.Fast.tw8932617845161877026 : True := trivial
theorem PySem.W.Fast.tw8220491735267200526 : True := trivial
theorem PySem.W.Fast.tw17651283773846289761 : True := trivial
theorem PySem.W.Fast.tw1407145558011120078 : True := trivial
theorem PySem.W.Fast.tw11449852104118579758 : True := trivial
theorem PySem.W.Fast.tw7722047795342931643 : True := trivial
theorem PySem.W.Fast.tw15065227107601848119 : True := trivial
theorem PySem.W.Fast.tw6463574048720046123 : True := trivial
theorem PySem.W.Fast.tw12396867013116674977 : True := trivial
theorem PySem.W.Fast.tw484813936357673001 : True := trivial
theorem PySem.W.Fast.tw7454625583992889498 : True := trivial
theorem PySem.W.Fast.tw3979070165542664111 : True := trivial
theorem PySem.W.Fast.tw5138934421831438735 : True := trivial
theorem PySem.W.Fast.tw5698889033784497169 : True := trivial
theorem PySem.W.Fast.tw14338235280055221695 : True := trivial
theorem PySem.W.Fast.tw10603291114198875508 : True := trivial
theorem PySem.W.Fast.tw5155195258917321403 : True := trivial
theorem PySem.W.Fast.tw16663562754799870990 : True := trivial
theorem PySem.W.Fast.tw17076796073074287964 : True := trivial
theorem PySem.W.Fast.tw15515820351194211507 : True := trivial
theorem PySem.W.Fast.tw5308452736769271180 : True := trivial
theorem PySem.W.Fast.tw4221360936174120138 : True := trivial
theorem PySem.W.Fast.tw6007588880324734360 : True := trivial
theorem PySem.W.Fast.tw16266542789431564051 : True := trivial
theorem PySem.W.Fast.tw15164715792651873237 : True := trivial
theorem PySem.W.Fast.tw3363860369377902495 : True := trivial
theorem PySem.W.Fast.tw8502559863218709373 : True := trivial
theorem PySem.W.Fast.tw2126541844331977123 : True := trivial
theorem PySem.W.Fast.tw4859974737402807605 : True := trivial
theorem PySem.W.Fast.tw14170963761125366328 : True := trivial
theorem PySem.W.Fast.tw14257266444904175578 : True := trivial
theorem PySem.W.Fast.tw7278821047886001356 : True := trivial
theorem PySem.W.Fast.tw18241996453296105682 : True := trivial
theorem PySem.W.Fast.tw5173898014704469763 : True := trivial
theorem PySem.W.Fast.tw14706722786738234006 : True := trivial
theorem PySem.W.Fast.tw11755204323812570804 : True := trivial
theorem PySem.W.Fast.tw1853078554793384461 : True := trivial
theorem PySem.W.Fast.tw10567407233100188076 : True := trivial
theorem PySem.W.Fast.tw11342319693257522499 : True := trivial
theorem PySem.W.Fast.tw18246842129888064647 : True := trivial
theorem PySem.W.Fast.tw4715661862780911579 : True := trivial
theorem PySem.W.Fast.tw16306854658453778272 : True := trivial
theorem PySem.W.Fast.tw3869054331648797657 : True := trivial
theorem PySem.W.Fast.tw12255107608628071285 : True := trivial
theorem PySem.W.Fast.tw17224758685210334342 : True := trivial
theorem PySem.W.Fast.tw11733578166616722497 : True := trivial
theorem PySem.W.Fast.tw8247490305741506488 : True := trivial
theorem PySem.W.Fast.tw732223942753571111 : True := trivial
theorem PySem.W.Fast.tw11671121986342433796 : True := trivial
theorem PySem.W.Fast.tw11394862249938365370 : True := trivial
theorem PySem.W.Fast.tw8983469449870841271 : True := trivial
theorem PySem.W.Fast.tw5857704476210711272 : True := trivial
theorem PySem.W.Fast.tw1878851973506064147 : True := trivial
theorem PySem.W.Fast.tw7922208679942976347 : True := trivial
theorem PySem.W.Fast.tw6125046705800591431 : True := trivial
theorem PySem.W.Fast.tw12793673635509763049 : True := trivial
theorem PySem.W.Fast.tw8426373204021783770 : True := trivial
theorem PySem.W.Fast.tw3221481793320748080 : True := trivial
theorem PySem.W.Fast.tw2988511449918358278 : True := trivial
theorem PySem.W.Fast.tw1987088765450348611 : True := trivial
theorem PySem.W.Fast.tw9972949712260411726 : True := trivial
theorem PySem.W.Fast.tw5839916927478566146 : True := trivial
theorem PySem.W.Fast.tw2959500876081646478 : True := trivial
theorem PySem.W.Fast.tw2626433547884085236 : True := trivial
theorem PySem.W.Fast.tw10881106190008976006 : True := trivial
theorem PySem.W.Fast.tw17517060033751882958 : True := trivial
theorem PySem.W.Fast.tw4236856546875801898 : True := trivial
theorem PySem.W.Fast.tw14221836437140190326 : True := trivial
theorem PySem.W.Fast.tw17939327549978149884 : True := trivial
theorem PySem.W.Fast.tw15531664979908352656 : True := trivial
theorem PySem.W.Fast.tw13269206575991780932 : True := trivial
theorem PySem.W.Fast.tw3968670911248526095 : True := trivial
theorem PySem.W.Fast.tw9540908097630367274 : True := trivial
theorem PySem.W.Fast.tw10617380602496451696 : True := trivial
theorem PySem.W.Fast.tw8954497772460817009 : True := trivial
theorem PySem.W.Fast.tw6370703825181919093 : True := trivial
theorem PySem.W.Fast.tw16103547953650532074 : True := trivial
theorem PySem.W.Fast.tw8697454373563578753 : True := trivial
theorem PySem.W.Fast.tw6415387605120971545 : True := trivial
theorem PySem.W.Fast.tw5717555349472554692 : True := trivial
theorem PySem.W.Fast.tw2049800133572962278 : True := trivial
theorem PySem.W.Fast.tw13262020630727292303 : True := trivial
theorem PySem.W.Fast.tw10922711904188912950 : True := trivial
theorem PySem.W.Fast.tw17589699876083517560 : True := trivial
theorem PySem.W.Fast.tw12059651272622813578 : True := trivial
theorem PySem.W.Fast.tw15226589817790679795 : True := trivial
theorem PySem.W.Fast.tw13607952283939543678 : True := trivial
theorem PySem.W.Fast.tw17704152614760516309 : True := trivial
theorem PySem.W.Fast.tw10088226848510358150 : True := trivial
theorem PySem.W.Fast.tw1038889901740738257 : True := trivial
theorem PySem.W.Fast.tw7573068572410843143 : True := trivial
theorem PySem.W.Fast.tw14691869502079586954 : True := trivial
theorem PySem.W.Fast.tw1797184915881449372 : True := trivial
theorem PySem.W.Fast.tw9318384811981060465 : True := trivial
theorem PySem.W.Fast.tw16014565698474742513 : True := trivial
theorem PySem.W.Fast.tw16228751218067077981 : True := trivial
theorem PySem.W.Fast.tw17903881562146442157 : True := trivial
theorem PySem.W.Fast.tw9874258561898565528 : True := trivial
theorem PySem.W.Fast.tw7389354019992138526 : True := trivial
theorem PySem.W.Fast.tw15750838289208569830 : True := trivial
theorem PySem.W.Fast.tw14607131936480172331 : True := trivial
theorem PySem.W.Fast.tw17587863454660021610 : True := trivial
theorem PySem.W.Fast.tw2200200369572164280 : True := trivial
theorem PySem.W.Fast.tw6311711111045383846 : True := trivial
theorem PySem.W.Fast.tw8845546264933947352 : True := trivial
theorem PySem.W.Fast.tw4337650343261097784 : True := trivial
theorem PySem.W.Fast.tw12279127342966624355 : True := trivial
theorem PySem.W.Fast.tw7301742105697334839 : True := trivial
theorem PySem.W.Fast.tw7736103862603733988 : True := trivial
theorem PySem.W.Fast.tw12735049593753294722 : True := trivial
theorem PySem.W.Fast.tw3974359794769901398 : True := trivial
theorem PySem.W.Fast.tw2644863072700127990 : True := trivial
theorem PySem.W.Fast.tw12278634665570245554 : True := trivial
theorem PySem.W.Fast.tw9094732210950081864 : True := trivial
theorem PySem.W.Fast.tw7203063673764068152 : True := trivial
theorem PySem.W.Fast.tw7094429930354636304 : True := trivial
theorem PySem.W.Fast.tw4794451884237254235 : True := trivial
theorem PySem.W.Fast.tw5864179290598640399 : True := trivial
theorem PySem.W.Fast.tw3289105773363287736 : True := trivial
theorem PySem.W.Fast.tw2847885353309599906 : True := trivial
theorem PySem.W.Fast.tw3338219926298614689 : True := trivial
theorem PySem.W.Fast.tw8895745039362264591 : True := trivial
theorem PySem.W.Fast.tw18251476679650691134 : True := trivial
theorem PySem.W.Fast.tw17670407126555618802 : True := trivial
theorem PySem.W.Fast.tw6686415718754525734 : True := trivial
theorem PySem.W.Fast.tw16012559893265774602 : True := trivial
theorem PySem.W.Fast.tw7468831689606242273 : True := trivial
theorem PySem.W.Fast.tw14772917466607527346 : True := trivial
theorem PySem.W.Fast.tw14757675893108337187 : True := trivial
theorem PySem.W.Fast.tw7743667559121991663 : True := trivial
theorem PySem.W.Fast.tw13923491652874397525 : True := trivial
theorem PySem.W.Fast.tw8227457713184795291 : True := trivial
theorem PySem.W.Fast.tw15897348811049622350 : True := trivial
theorem PySem.W.Fast.tw6149341711648562493 : True := trivial
theorem PySem.W.Fast.tw5479831591363345848 : True := trivial
theorem PySem.W.Fast.tw14749278446473896738 : True := trivial
theorem PySem.W.Fast.tw11091325854223869383 : True := trivial
theorem PySem.W.Fast.tw16744400327674187773 : True := trivial
theorem PySem.W.Fast.tw13966371975454303084 : True := trivial
theorem PySem.W.Fast.tw7016798659118512419 : True := trivial
theorem PySem.W.Fast.tw7145412084795835795 : True := trivial
theorem PySem.W.Fast.tw4712117819055640765 : True := trivial
theorem PySem.W.Fast.tw5781395229458077342 : True := trivial
theorem PySem.W.Fast.tw8837400848970624930 : True := trivial
theorem PySem.W.Fast.tw3384350066066043332 : True := trivial
theorem PySem.W.Fast.tw16180403815967540563 : True := trivial
theorem PySem.W.Fast.tw13564148517668470588 : True := trivial
theorem PySem.W.Fast.tw11919121582786734853 : True := trivial
theorem PySem.W.Fast.tw11199559348510617784 : True := trivial
theorem PySem.W.Fast.tw3450784707164327546 : True := trivial
theorem PySem.W.Fast.tw15242443775048822522 : True := trivial
theorem PySem.W.Fast.tw5141672564303369116 : True := trivial
theorem PySem.W.Fast.tw14456727510148245670 : True := trivial
theorem PySem.W.Fast.tw15854278601590476414 : True := trivial
theorem PySem.W.Fast.tw5498012135272155268 : True := trivial
theorem PySem.W.Fast.tw11484759403013409831 : True := trivial
theorem PySem.W.Fast.tw4106343263706566964 : True := trivial
theorem PySem.W.Fast.tw7298424482415385797 : True := trivial
theorem PySem.W.Fast.tw15004313497432914382 : True := trivial
theorem PySem.W.Fast.tw8518042605237164737 : True := trivial
theorem PySem.W.Fast.tw15679543319976460898 : True := trivial
theorem PySem.W.Fast.tw8059367405360627343 : True := trivial
theorem PySem.W.Fast.tw12889226592992133323 : True := trivial
theorem PySem.W.Fast.tw8562011413537288716 : True := trivial
theorem PySem.W.Fast.tw15614048369941779761 : True := trivial
theorem PySem.W.Fast.tw7544711129541738902 : True := trivial
theorem PySem.W.Fast.tw14317683178677185647 : True := trivial
theorem PySem.W.Fast.tw8317106493095312784 : True := trivial
theorem PySem.W.Fast.tw2794422403295351860 : True := trivial
theorem PySem.W.Fast.tw9140821345873468821 : True := trivial
theorem PySem.W.Fast.tw404795246567645419 : True := trivial
theorem PySem.W.Fast.tw13076960390542626239 : True := trivial
theorem PySem.W.Fast.tw17290405821708016068 : True := trivial
theorem PySem.W.Fast.tw13838123774154283250 : True := trivial
theorem PySem.W.Fast.tw8927126628122296295 : True := trivial
theorem PySem.W.Fast.tw9490201958123377469 : True := trivial
theorem PySem.W.Fast.tw3991769172988742049 : True := trivial
theorem PySem.W.Fast.tw16026599080242583231 : True := trivial
theorem PySem.W.Fast.tw5255519054475930943 : True := trivial
theorem PySem.W.Fast.tw251334832765095608 : True := trivial
theorem PySem.W.Fast.tw13388190451128124498 : True := trivial
theorem PySem.W.Fast.tw2038340357576545645 : True := trivial
theorem PySem.W.Fast.tw11143104421069984351 : True := trivial
theorem PySem.W.Fast.tw8971155142503962083 : True := trivial
theorem PySem.W.Fast.tw5441650198696685171 : True := trivial
theorem PySem.W.Fast.tw14054715663723443816 : True := trivial
theorem PySem.W.Fast.tw8847397496641149747 : True := trivial
theorem PySem.W.Fast.tw15848516353657556206 : True := trivial
theorem PySem.W.Fast.tw10654627719143886855 : True := trivial
theorem PySem.W.Fast.tw1665615891438041387 : True := trivial
theorem PySem.W.Fast.tw12891239498558567783 : True := trivial
theorem PySem.W.Fast.tw11039830014892847087 : True := trivial
theorem PySem.W.Fast.tw2612588350091663405 : True := trivial
theorem PySem.W.Fast.tw12661968862147209539 : True := trivial
theorem PySem.W.Fast.tw17475628331003427631 : True := trivial
theorem PySem.W.Fast.tw8818850926416803253 : True := trivial
theorem PySem.W.Fast.tw10107260863649886329 : True := trivial
theorem PySem.W.Fast.tw5947008946538172957 : True := trivial
theorem PySem.W.Fast.tw14911647874276196964 : True := trivial
theorem PySem.W.Fast.tw585155258087630034 : True := trivial
theorem PySem.W.Fast.tw4246653917475106899 : True := trivial
theorem PySem.W.Fast.tw4994982758835707737 : True := trivial
theorem PySem.W.Fast.tw2304963651997514781 : True := trivial
theorem PySem.W.Fast.tw13244054805161064776 : True := trivial
theorem PySem.W.Fast.tw15757121142656562004 : True := trivial
theorem PySem.W.Fast.tw1419020173307238004 : True := trivial
theorem PySem.W.Fast.tw11604077362780357979 : True := trivial
theorem PySem.W.Fast.tw11063780090576110507 : True := trivial
theorem PySem.W.Fast.tw1623455844407955005 : True := trivial
theorem PySem.W.Fast.tw18034883871071667976 : True := trivial
theorem PySem.W.Fast.tw2569381623046986706 : True := trivial
theorem PySem.W.Fast.tw4051568091817069873 : True := trivial
theorem PySem.W.Fast.tw7335948868537349763 : True := trivial
theorem PySem.W.Fast.tw10649609790732910844 : True := trivial
theorem PySem.W.Fast.tw11257104082023085543 : True := trivial
theorem PySem.W.Fast.tw507879609150262117 : True := trivial
theorem PySem.W.Fast.tw10360248213950002898 : True := trivial
theorem PySem.W.Fast.tw11960917005719055888 : True := trivial
theorem PySem.W.Fast.tw4371413059003614392 : True := trivial
theorem PySem.W.Fast.tw3162384708485191085 : True := trivial
theorem PySem.W.Fast.tw824858817233499916 : True := trivial
theorem PySem.W.Fast.tw269489425279801370 : True := trivial
theorem PySem.W.Fast.tw13007504503492515069 : True := trivial
theorem PySem.W.Fast.tw4901497116178624217 : True := trivial
theorem PySem.W.Fast.tw2335620523682142000 : True := trivial
theorem PySem.W.Fast.tw3335153144099164390 : True := trivial
theorem PySem.W.Fast.tw10935405295281030455 : True := trivial
theorem PySem.W.Fast.tw5279488420689123250 : True := trivial
theorem PySem.W.Fast.tw9104320763206939155 : True := trivial
theorem PySem.W.Fast.tw3420854501330252915 : True := trivial
theorem PySem.W.Fast.tw14955269313606187201 : True := trivial
theorem PySem.W.Fast.tw11949069065939721998 : True := trivial
theorem PySem.W.Fast.tw5187980623519453875 : True := trivial
theorem PySem.W.Fast.tw10881635337964311210 : True := trivial
theorem PySem.W.Fast.tw13372591172992497308 : True := trivial
theorem PySem.W.Fast.tw8662600461104734936 : True := trivial
theorem PySem.W.Fast.tw6281764262725617804 : True := trivial
theorem PySem.W.Fast.tw14874222004979305489 : True := trivial
theorem PySem.W.Fast.tw10266930488342342258 : True := trivial
theorem PySem.W.Fast.tw16751956224314162059 : True := trivial
theorem PySem.W.Fast.tw10268343079409744961 : True := trivial
theorem PySem.W.Fast.tw6562567412217602270 : True := trivial
theorem PySem.W.Fast.tw3012198418409031141 : True := trivial
theorem PySem.W.Fast.tw7958514696221564545 : True := trivial
theorem PySem.W.Fast.tw12958391557971514320 : True := trivial
theorem PySem.W.Fast.tw1451562305102947610 : True := trivial
theorem PySem.W.Fast.tw15875351471071779101 : True := trivial
theorem PySem.W.Fast.tw13644613759837041830 : True := trivial
theorem PySem.W.Fast.tw16168666948377193253 : True := trivial
theorem PySem.W.Fast.tw11060107443953396335 : True := trivial
theorem PySem.W.Fast.tw7272306315046946896 : True := trivial
theorem PySem.W.Fast.tw6650323529991317840 : True := trivial
theorem PySem.W.Fast.tw8075179388442974093 : True := trivial
theorem PySem.W.Fast.tw4525468843409951132 : True := trivial
theorem PySem.W.Fast.tw8184305815722386035 : True := trivial
theorem PySem.W.Fast.tw10958992212444937346 : True := trivial
theorem PySem.W.Fast.tw9848525925170880963 : True := trivial
theorem PySem.W.Fast.tw11697751413200114889 : True := trivial
theorem PySem.W.Fast.tw13103193867353215364 : True := trivial
theorem PySem.W.Fast.tw63189261743306106 : True := trivial
theorem PySem.W.Fast.tw1366603923565330088 : True := trivial
theorem PySem.W.Fast.tw13932161467396297100 : True := trivial
theorem PySem.W.Fast.tw4754445170643170295 : True := trivial
theorem PySem.W.Fast.tw4964442748082918719 : True := trivial
theorem PySem.W.Fast.tw8493193645462023716 : True := trivial
theorem PySem.W.Fast.tw16439869398355861922 : True := trivial
theorem PySem.W.Fast.tw18026746924777835593 : True := trivial
theorem PySem.W.Fast.tw17730993018914553229 : True := trivial
theorem PySem.W.Fast.tw11715760777918420300 : True := trivial
theorem PySem.W.Fast.tw16825315007122806234 : True := trivial
theorem PySem.W.Fast.tw17371983184058079286 : True := trivial
theorem PySem.W.Fast.tw1805847661175469337 : True := trivial
theorem PySem.W.Fast.tw8829476677381742170 : True := trivial
theorem PySem.W.Fast.tw1201083460005081559 : True := trivial
theorem PySem.W.Fast.tw14741202971879135253 : True := trivial
theorem PySem.W.Fast.tw5115812592612672548 : True := trivial
theorem PySem.W.Fast.tw8683406610914212217 : True := trivial
theorem PySem.W.Fast.tw16489299731364428792 : True := trivial
theorem PySem.W.Fast.tw9243784821524133151 : True := trivial
theorem PySem.W.Fast.tw13777487716189257162 : True := trivial
theorem PySem.W.Fast.tw14380112862246982426 : True := trivial
theorem PySem.W.Fast.tw1981139240729288707 : True := trivial
theorem PySem.W.Fast.tw177150450193094211 : True := trivial
theorem PySem.W.Fast.tw14103546626677947743 : True := trivial
theorem PySem.W.Fast.tw1598208039461686371 : True := trivial
theorem PySem.W.Fast.tw1220275575099710801 : True := trivial
theorem PySem.W.Fast.tw15554809485789020337 : True := trivial
theorem PySem.W.Fast.tw898929316984932370 : True := trivial
theorem PySem.W.Fast.tw16391746154654071588 : True := trivial
theorem PySem.W.Fast.tw1203173167424687715 : True := trivial
theorem PySem.W.Fast.tw7615526345788702459 : True := trivial
theorem PySem.W.Fast.tw11787115606571205467 : True := trivial
theorem PySem.W.Fast.tw593074396154632143 : True := trivial
theorem PySem.W.Fast.tw9120396919422048883 : True := trivial
theorem PySem.W.Fast.tw9046672013201694492 : True := trivial
theorem PySem.W.Fast.tw10203217859643504404 : True := trivial
theorem PySem.W.Fast.tw9779654134733606146 : True := trivial
theorem PySem.W.Fast.tw6292977711951717895 : True := trivial
theorem PySem.W.Fast.tw1501945658456889630 : True := trivial
theorem PySem.W.Fast.tw555319219853338518 : True := trivial
theorem PySem.W.Fast.tw10183771503948253733 : True := trivial
theorem PySem.W.Fast.tw10370540498200681968 : True := trivial
theorem PySem.W.Fast.tw5823151769951262869 : True := trivial
theorem PySem.W.Fast.tw8548520776075113386 : True := trivial
theorem PySem.W.Fast.tw3007138889801827476 : True := trivial
theorem PySem.W.Fast.tw15994137353316771505 : True := trivial
theorem PySem.W.Fast.tw4023325970273672472 : True := trivial
theorem PySem.W.Fast.tw4746135244817230183 : True := trivial
theorem PySem.W.Fast.tw16668268223201562176 : True := trivial
theorem PySem.W.Fast.tw1644930558831571300 : True := trivial
theorem PySem.W.Fast.tw9778387864279055733 : True := trivial
theorem PySem.W.Fast.tw7558247336735027338 : True := trivial
theorem PySem.W.Fast.tw14766332473824616277 : True := trivial
theorem PySem.W.Fast.tw3946535356338641040 : True := trivial
theorem PySem.W.Fast.tw6977565012284353969 : True := trivial
theorem PySem.W.Fast.tw10291670104134721291 : True := trivial
theorem PySem.W.Fast.tw5760231406097684305 : True := trivial
theorem PySem.W.Fast.tw1410465041032167174 : True := trivial
theorem PySem.W.Fast.tw2497833747194980466 : True := trivial
theorem PySem.W.Fast.tw3579042797384506710 : True := trivial
theorem PySem.W.Fast.tw7814536186028060533 : True := trivial
theorem PySem.W.Fast.tw15366527540253652646 : True := trivial
theorem PySem.W.Fast.tw17056211707456143001 : True := trivial
theorem PySem.W.Fast.tw10404125609500065245 : True := trivial
theorem PySem.W.Fast.tw7292175262042195442 : True := trivial
theorem PySem.W.Fast.tw3875909274087414141 : True := trivial
theorem PySem.W.Fast.tw1556157754552767915 : True := trivial
theorem PySem.W.Fast.tw14393268384536771057 : True := trivial
theorem PySem.W.Fast.tw10509861869148488320 : True := trivial
theorem PySem.W.Fast.tw10207625679807227380 : True := trivial
theorem PySem.W.Fast.tw13781678040706010755 : True := trivial
theorem PySem.W.Fast.tw8034538480324263812 : True := trivial
theorem PySem.W.Fast.tw3845345470140359154 : True := trivial
theorem PySem.W.Fast.tw160935524559714820 : True := trivial
theorem PySem.W.Fast.tw4649462880505182108 : True := trivial
theorem PySem.W.Fast.tw1912720055584975245 : True := trivial
theorem PySem.W.Fast.tw6122093795925702546 : True := trivial
theorem PySem.W.Fast.tw12511851538557359518 : True := trivial
theorem PySem.W.Fast.tw17054532723682265553 : True := trivial
theorem PySem.W.Fast.tw2065824991017506130 : True := trivial
theorem PySem.W.Fast.tw5975566667402306527 : True := trivial
theorem PySem.W.Fast.tw3348561022508323288 : True := trivial
theorem PySem.W.Fast.tw11391216787184618284 : True := trivial
theorem PySem.W.Fast.tw11478163512102487241 : True := trivial
theorem PySem.W.Fast.tw240632419706476734 : True := trivial
theorem PySem.W.Fast.tw2426766377749479089 : True := trivial
theorem PySem.W.Fast.tw13234734655791419275 : True := trivial
theorem PySem.W.Fast.tw3288122874703599563 : True := trivial
theorem PySem.W.Fast.tw8512969254936277656 : True := trivial
theorem PySem.W.Fast.tw4565785468589057977 : True := trivial
theorem PySem.W.Fast.tw2226135208398776173 : True := trivial
theorem PySem.W.Fast.tw10635438581153630927 : True := trivial
theorem PySem.W.Fast.tw3089714346836648152 : True := trivial
theorem PySem.W.Fast.tw294461711963634169 : True := trivial
theorem PySem.W.Fast.tw8098213715071793846 : True := trivial
theorem PySem.W.Fast.tw7379376054989759518 : True := trivial
theorem PySem.W.Fast.tw3621859737681578568 : True := trivial
theorem PySem.W.Fast.tw2890785594347821247 : True := trivial
theorem PySem.W.Fast.tw6812023380756518086 : True := trivial
theorem PySem.W.Fast.tw205473501338515504 : True := trivial
theorem PySem.W.Fast.tw13161543230279204307 : True := trivial
theorem PySem.W.Fast.tw8590252617576759954 : True := trivial
theorem PySem.W.Fast.tw15283961574907336361 : True := trivial
theorem PySem.W.Fast.tw559254618148790456 : True := trivial
theorem PySem.W.Fast.tw1863235979701072524 : True := trivial
theorem PySem.W.Fast.tw6452994308647848855 : True := trivial
theorem PySem.W.Fast.tw4712888006219038929 : True := trivial
theorem PySem.W.Fast.tw1312653170386584788 : True := trivial
theorem PySem.W.Fast.tw8989067640148822864 : True := trivial
theorem PySem.W.Fast.tw12946039668168017521 : True := trivial
theorem PySem.W.Fast.tw12905956994453240540 : True := trivial
theorem PySem.W.Fast.tw1494336164005930830 : True := trivial
theorem PySem.W.Fast.tw15648793724234643044 : True := trivial
theorem PySem.W.Fast.tw15442732247516585685 : True := trivial
theorem PySem.W.Fast.tw13052143668429705557 : True := trivial
theorem PySem.W.Fast.tw13698660091482700157 : True := trivial
theorem PySem.W.Fast.tw13388822470482774961 : True := trivial
theorem PySem.W.Fast.tw15826733983248905764 : True := trivial
theorem PySem.W.Fast.tw15552389552020406473 : True := trivial
theorem PySem.W.Fast.tw1245166119004427644 : True := trivial
theorem PySem.W.Fast.tw11679111761793523573 : True := trivial
theorem PySem.W.Fast.tw12717842264682850653 : True := trivial
theorem PySem.W.Fast.tw222556960305589573 : True := trivial
theorem PySem.W.Fast.tw12764073940918788056 : True := trivial
theorem PySem.W.Fast.tw10687964051494871701 : True := trivial
theorem PySem.W.Fast.tw5456038652432551291 : True := trivial
theorem PySem.W.Fast.tw8052536081181160905 : True := trivial
theorem PySem.W.Fast.tw12011471621821476024 : True := trivial
theorem PySem.W.Fast.tw4555598197436276965 : True := trivial
theorem PySem.W.Fast.tw16660564878619948081 : True := trivial
theorem PySem.W.Fast.tw16285489466450773125 : True := trivial
theorem PySem.W.Fast.tw1047679002094609623 : True := trivial
theorem PySem.W.Fast.tw967560223260978548 : True := trivial
theorem PySem.W.Fast.tw13265254344641725037 : True := trivial
theorem PySem.W.Fast.tw17746486302806454655 : True := trivial
theorem PySem.W.Fast.tw7838943593433653405 : True := trivial
theorem PySem.W.Fast.tw2093593941229396075 : True := trivial
theorem PySem.W.Fast.tw1056284637539294259 : True := trivial
theorem PySem.W.Fast.tw1970582796806700362 : True := trivial
theorem PySem.W.Fast.tw3173785872656617943 : True := trivial
theorem PySem.W.Fast.tw7974331932260834040 : True := trivial
theorem PySem.W.Fast.tw8626526150744742233 : True := trivial
theorem PySem.W.Fast.tw873278614132117995 : True := trivial
theorem PySem.W.Fast.tw5090440282639107352 : True := trivial
theorem PySem.W.Fast.tw17508180952660834029 : True := trivial
theorem PySem.W.Fast.tw13253066713976267978 : True := trivial
theorem PySem.W.Fast.tw12049067217845112783 : True := trivial
theorem PySem.W.Fast.tw5931066434148183060 : True := trivial
theorem PySem.W.Fast.tw9815212784675645286 : True := trivial
theorem PySem.W.Fast.tw5955558856418613695 : True := trivial
theorem PySem.W.Fast.tw2964513789126054418 : True := trivial
theorem PySem.W.Fast.tw172258271328334751 : True := trivial
theorem PySem.W.Fast.tw7826083584285448681 : True := trivial
theorem PySem.W.Fast.tw18074259462262813538 : True := trivial
theorem PySem.W.Fast.tw17516726534361941768 : True := trivial
theorem PySem.W.Fast.tw12290460378689954561 : True := trivial
theorem PySem.W.Fast.tw13893321800097390924 : True := trivial
theorem PySem.W.Fast.tw16377512139488071584 : True := trivial
theorem PySem.W.Fast.tw16943423195308460524 : True := trivial
theorem PySem.W.Fast.tw12446090874608913513 : True := trivial
theorem PySem.W.Fast.tw6252573301965942561 : True := trivial
theorem PySem.W.Fast.tw13505026585707895058 : True := trivial
theorem PySem.W.Fast.tw16490180021453107965 : True := trivial
theorem PySem.W.Fast.tw15758739285412352927 : True := trivial
theorem PySem.W.Fast.tw25399970389155789 : True := trivial
theorem PySem.W.Fast.tw18015505704789614102 : True := trivial
theorem PySem.W.Fast.tw17480994206168151657 : True := trivial
theorem PySem.W.Fast.tw3111592623346132962 : True := trivial
theorem PySem.W.Fast.tw5146316730761433730 : True := trivial
theorem PySem.W.Fast.tw11005330679795691695 : True := trivial
theorem PySem.W.Fast.tw13780379770634736561 : True := trivial
theorem PySem.W.Fast.tw8859929435561904848 : True := trivial
theorem PySem.W.Fast.tw848596782745853870 : True := trivial
theorem PySem.W.Fast.tw8706443983751893469 : True := trivial
theorem PySem.W.Fast.tw12414543755410209227 : True := trivial
theorem PySem.W.Fast.tw6043446352883129259 : True := trivial
theorem PySem.W.Fast.tw16711880464936193288 : True := trivial
theorem PySem.W.Fast.tw1192471711062165159 : True := trivial
theorem PySem.W.Fast.tw6456013631162741843 : True := trivial
theorem PySem.W.Fast.tw12626649338082844468 : True := trivial
theorem PySem.W.Fast.tw2092664330278887807 : True := trivial
theorem PySem.W.Fast.tw8512955204240179944 : True := trivial
theorem PySem.W.Fast.tw16140000724681380912 : True := trivial
theorem PySem.W.Fast.tw13412523901479942869 : True := trivial
theorem PySem.W.Fast.tw11669869026387107173 : True := trivial
theorem PySem.W.Fast.tw9727670330263618086 : True := trivial
theorem PySem.W.Fast.tw7314809660108317876 : True := trivial
theorem PySem.W.Fast.tw10443986564936623964 : True := trivial
theorem PySem.W.Fast.tw10256791493309765001 : True := trivial
theorem PySem.W.Fast.tw18378605218514238908 : True := trivial
theorem PySem.W.Fast.tw18081016984395893924 : True := trivial
theorem PySem.W.Fast.tw8268731069304021718 : True := trivial
theorem PySem.W.Fast.tw8146102277157097010 : True := trivial
theorem PySem.W.Fast.tw1961907249201456983 : True := trivial
theorem PySem.W.Fast.tw6276833735132281843 : True := trivial
theorem PySem.W.Fast.tw12420263076265385596 : True := trivial
theorem PySem.W.Fast.tw11728573743862143822 : True := trivial
theorem PySem.W.Fast.tw10323454252105727063 : True := trivial
theorem PySem.W.Fast.tw16740493141169012792 : True := trivial
theorem PySem.W.Fast.tw8769815992866317802 : True := trivial
theorem PySem.W.Fast.tw3653473854554461284 : True := trivial
theorem PySem.W.Fast.tw7960974420566538726 : True := trivial
theorem PySem.W.Fast.tw823144803460412715 : True := trivial
theorem PySem.W.Fast.tw15150077398583295308 : True := trivial
theorem PySem.W.Fast.tw12761611374968917623 : True := trivial
theorem PySem.W.Fast.tw9159852454864479999 : True := trivial
theorem PySem.W.Fast.tw9981051998588839110 : True := trivial
theorem PySem.W.Fast.tw14994690729067827264 : True := trivial
theorem PySem.W.Fast.tw15694154480390908728 : True := trivial
theorem PySem.W.Fast.tw12043733442485584334 : True := trivial
theorem PySem.W.Fast.tw519159407365140298 : True := trivial
theorem PySem.W.Fast.tw10676471141375534509 : True := trivial
theorem PySem.W.Fast.tw13993927040172951555 : True := trivial
theorem PySem.W.Fast.tw90072586356380033 : True := trivial
theorem PySem.W.Fast.tw11386602741853450499 : True := trivial
theorem PySem.W.Fast.tw9852604663704705838 : True := trivial
theorem PySem.W.Fast.tw10618425388408150114 : True := trivial
theorem PySem.W.Fast.tw15241128266608926499 : True := trivial
theorem PySem.W.Fast.tw2238389491606413430 : True := trivial
theorem PySem.W.Fast.tw11400415258186735383 : True := trivial
theorem PySem.W.Fast.tw1941429691123579245 : True := trivial
theorem PySem.W.Fast.tw6479633718402739519 : True := trivial
theorem PySem.W.Fast.tw12195233385997978325 : True := trivial
theorem PySem.W.Fast.tw2199515497823076716 : True := trivial
theorem PySem.W.Fast.tw8240639296086442424 : True := trivial
theorem PySem.W.Fast.tw15887079624154878275 : True := trivial
theorem PySem.W.Fast.tw1570427117591802816 : True := trivial
theorem PySem.W.Fast.tw15548056966967710004 : True := trivial
theorem PySem.W.Fast.tw542695064769802079 : True := trivial
theorem PySem.W.Fast.tw12301347121874509418 : True := trivial
theorem PySem.W.Fast.tw16890382563466902450 : True := trivial
theorem PySem.W.Fast.tw3199149549778093214 : True := trivial
theorem PySem.W.Fast.tw12139346196628655218 : True := trivial
theorem PySem.W.Fast.tw6977428839853173510 : True := trivial
theorem PySem.W.Fast.tw14290389837714421831 : True := trivial
theorem PySem.W.Fast.tw15791051461001031975 : True := trivial
theorem PySem.W.Fast.tw12907525432872646461 : True := trivial
theorem PySem.W.Fast.tw11979263885627785369 : True := trivial
theorem PySem.W.Fast.tw2052722897281335138 : True := trivial
theorem PySem.W.Fast.tw18095240798283152551 : True := trivial
theorem PySem.W.Fast.tw18218105583855952516 : True := trivial
theorem PySem.W.Fast.tw306754966534869139 : True := trivial
theorem PySem.W.Fast.tw9273287755262207352 : True := trivial
theorem PySem.W.Fast.tw16684053736696407589 : True := trivial
theorem PySem.W.Fast.tw5302265647144011513 : True := trivial
theorem PySem.W.Fast.tw17007552139825249307 : True := trivial
theorem PySem.W.Fast.tw16578749365891236921 : True := trivial
theorem PySem.W.Fast.tw9881000094921967978 : True := trivial
theorem PySem.W.Fast.tw13693460793252637982 : True := trivial
theorem PySem.W.Fast.tw134849667448800902 : True := trivial
theorem PySem.W.Fast.tw3198469153431171658 : True := trivial
theorem PySem.W.Fast.tw1233867342575067321 : True := trivial
theorem PySem.W.Fast.tw17607344396701894504 : True := trivial
theorem PySem.W.Fast.tw17728499922908655536 : True := trivial
theorem PySem.W.Fast.tw3101241718194767821 : True := trivial
theorem PySem.W.Fast.tw9297947834833395291 : True := trivial
theorem PySem.W.Fast.tw11491460121398025736 : True := trivial
theorem PySem.W.Fast.tw8231259817956696912 : True := trivial
theorem PySem.W.Fast.tw7453986152509292379 : True := trivial
theorem PySem.W.Fast.tw15605408096762666667 : True := trivial
theorem PySem.W.Fast.tw5418097830534418149 : True := trivial
theorem PySem.W.Fast.tw6376348435819600341 : True := trivial
theorem PySem.W.Fast.tw10369268759219202479 : True := trivial
theorem PySem.W.Fast.tw5984085647294126237 : True := trivial
theorem PySem.W.Fast.tw7698287603308441660 : True := trivial
theorem PySem.W.Fast.tw8749421803317513774 : True := trivial
theorem PySem.W.Fast.tw4259290604570146671 : True := trivial
theorem PySem.W.Fast.tw6546488716921538885 : True := trivial
theorem PySem.W.Fast.tw8056437100794277854 : True := trivial
theorem PySem.W.Fast.tw14778730252652684614 : True := trivial
theorem PySem.W.Fast.tw465179888695816921 : True := trivial
theorem PySem.W.Fast.tw15807656268187496621 : True := trivial
theorem PySem.W.Fast.tw15470196533951019748 : True := trivial
theorem PySem.W.Fast.tw10550777391531962208 : True := trivial
theorem PySem.W.Fast.tw6852188966817798210 : True := trivial
theorem PySem.W.Fast.tw5690807498238351381 : True := trivial
theorem PySem.W.Fast.tw2546930557330957482 : True := trivial
theorem PySem.W.Fast.tw499031566470357004 : True := trivial
theorem PySem.W.Fast.tw15918458159914792161 : True := trivial
theorem PySem.W.Fast.tw5293678077257023069 : True := trivial
theorem PySem.W.Fast.tw1912548663406311826 : True := trivial
theorem PySem.W.Fast.tw14383833130493729679 : True := trivial
theorem PySem.W.Fast.tw8553984998028810949 : True := trivial
theorem PySem.W.Fast.tw7638588435856469496 : True := trivial
theorem PySem.W.Fast.tw11288148075408059690 : True := trivial
theorem PySem.W.Fast.tw17029698805655089239 : True := trivial
theorem PySem.W.Fast.tw4011703815682231815 : True := trivial
theorem PySem.W.Fast.tw11905013573772688155 : True := trivial
theorem PySem.W.Fast.tw13915432719349233239 : True := trivial
theorem PySem.W.Fast.tw16064163538589979453 : True := trivial
theorem PySem.W.Fast.tw12731331687178614550 : True := trivial
theorem PySem.W.Fast.tw13424650176447549269 : True := trivial
theorem PySem.W.Fast.tw9908515341951176645 : True := trivial
theorem PySem.W.Fast.tw15577710887604966934 : True := trivial
theorem PySem.W.Fast.tw2649060651860560359 : True := trivial
theorem PySem.W.Fast.tw11933609837460411385 : True := trivial
theorem PySem.W.Fast.tw12571497994110603447 : True := trivial
theorem PySem.W.Fast.tw18127488329579238486 : True := trivial
theorem PySem.W.Fast.tw4904031726858447164 : True := trivial
theorem PySem.W.Fast.tw8675024929671273452 : True := trivial
theorem PySem.W.Fast.tw2081413762104052785 : True := trivial
theorem PySem.W.Fast.tw4167800159936064121 : True := trivial
theorem PySem.W.Fast.tw16093709609229452416 : True := trivial
theorem PySem.W.Fast.tw10426875815163999154 : True := trivial
theorem PySem.W.Fast.tw4115197525474071762 : True := trivial
theorem PySem.W.Fast.tw15261515648077181388 : True := trivial
theorem PySem.W.Fast.tw7435919499994320910 : True := trivial
theorem PySem.W.Fast.tw10657179917946583324 : True := trivial
theorem PySem.W.Fast.tw1438591104614940288 : True := trivial
theorem PySem.W.Fast.tw11844218536334161810 : True := trivial
theorem PySem.W.Fast.tw15371428886911446906 : True := trivial
theorem PySem.W.Fast.tw5973416813470439700 : True := trivial
theorem PySem.W.Fast.tw8907087918776239265 : True := trivial
theorem PySem.W.Fast.tw6951578536717273041 : True := trivial
theorem PySem.W.Fast.tw1885284297083092404 : True := trivial
theorem PySem.W.Fast.tw3279817737811657150 : True := trivial
theorem PySem.W.Fast.tw17498469531264657923 : True := trivial
theorem PySem.W.Fast.tw9778862749245871193 : True := trivial
theorem PySem.W.Fast.tw16310759206666512957 : True := trivial
theorem PySem.W.Fast.tw6407988322672058308 : True := trivial
theorem PySem.W.Fast.tw9294046464241152353 : True := trivial
theorem PySem.W.Fast.tw1437202474700005222 : True := trivial
theorem PySem.W.Fast.tw971754774394027211 : True := trivial
theorem PySem.W.Fast.tw12892415316337683683 : True := trivial
theorem PySem.W.Fast.tw1612517501111296200 : True := trivial
theorem PySem.W.Fast.tw8661581190126174294 : True := trivial
theorem PySem.W.Fast.tw4347577992622304464 : True := trivial
theorem PySem.W.Fast.tw1514667434388929169 : True := trivial
theorem PySem.W.Fast.tw8808991123664067151 : True := trivial
theorem PySem.W.Fast.tw1164313574379863420 : True := trivial
theorem PySem.W.Fast.tw13505657139506411547 : True := trivial
theorem PySem.W.Fast.tw913742288057895426 : True := trivial
theorem PySem.W.Fast.tw4532518215881748562 : True := trivial
theorem PySem.W.Fast.tw2422309004020511480 : True := trivial
theorem PySem.W.Fast.tw4482176520916254559 : True := trivial
theorem PySem.W.Fast.tw12160378853320688961 : True := trivial
theorem PySem.W.Fast.tw14806889178591144517 : True := trivial
theorem PySem.W.Fast.tw1320698252322844490 : True := trivial
theorem PySem.W.Fast.tw715819896999453684 : True := trivial
theorem PySem.W.Fast.tw8251816122972651905 : True := trivial
theorem PySem.W.Fast.tw9667428957536057074 : True := trivial
theorem PySem.W.Fast.tw10706621633244401080 : True := trivial
theorem PySem.W.Fast.tw12922847638807092981 : True := trivial
theorem PySem.W.Fast.tw14598434574732880311 : True := trivial
theorem PySem.W.Fast.tw13438976265927538111 : True := trivial
theorem PySem.W.Fast.tw1028543202275573198 : True := trivial
theorem PySem.W.Fast.tw14381106490200703522 : True := trivial
theorem PySem.W.Fast.tw15666810381029524609 : True := trivial
theorem PySem.W.Fast.tw2385228809142471252 : True := trivial
theorem PySem.W.Fast.tw14583644962441751325 : True := trivial
theorem PySem.W.Fast.tw12105237497625587695 : True := trivial
theorem PySem.W.Fast.tw11424760274511290817 : True := trivial
theorem PySem.W.Fast.tw14204472846348826455 : True := trivial
theorem PySem.W.Fast.tw9689719643919587962 : True := trivial
theorem PySem.W.Fast.tw15217019857182968400 : True := trivial
theorem PySem.W.Fast.tw16296836948940332643 : True := trivial
theorem PySem.W.Fast.tw7301406790029586103 : True := trivial
theorem PySem.W.Fast.tw6518129562487669274 : True := trivial
theorem PySem.W.Fast.tw10363686453205862791 : True := trivial
theorem PySem.W.Fast.tw9585190455739022583 : True := trivial
theorem PySem.W.Fast.tw16643411567735725708 : True := trivial
theorem PySem.W.Fast.tw17610722768190227176 : True := trivial
theorem PySem.W.Fast.tw698363673137834735 : True := trivial
theorem PySem.W.Fast.tw16449577629799816117 : True := trivial
theorem PySem.W.Fast.tw5081876889406675076 : True := trivial
theorem PySem.W.Fast.tw4782733365318685437 : True := trivial
theorem PySem.W.Fast.tw5095327595438829549 : True := trivial
theorem PySem.W.Fast.tw11817833467224523533 : True := trivial
theorem PySem.W.Fast.tw5768578695147400280 : True := trivial
theorem PySem.W.Fast.tw2897598298437927811 : True := trivial
theorem PySem.W.Fast.tw17328084447226293724 : True := trivial
theorem PySem.W.Fast.tw8383887719668944084 : True := trivial
theorem PySem.W.Fast.tw11353805588393226456 : True := trivial
theorem PySem.W.Fast.tw18011166385097463289 : True := trivial
theorem PySem.W.Fast.tw17833110158790108999 : True := trivial
theorem PySem.W.Fast.tw6080248564208187889 : True := trivial
theorem PySem.W.Fast.tw2874789803870562091 : True := trivial
theorem PySem.W.Fast.tw15564254187435899693 : True := trivial
theorem PySem.W.Fast.tw10079762551704956118 : True := trivial
theorem PySem.W.Fast.tw8307346909662702922 : True := trivial
theorem PySem.W.Fast.tw7789157107384735446 : True := trivial
theorem PySem.W.Fast.tw7177438130702641749 : True := trivial
theorem PySem.W.Fast.tw11148198001845098099 : True := trivial
theorem PySem.W.Fast.tw10849000221511200463 : True := trivial
theorem PySem.W.Fast.tw6317982739294006582 : True := trivial
theorem PySem.W.Fast.tw10200278483873452781 : True := trivial
theorem PySem.W.Fast.tw15483696646540796235 : True := trivial
theorem PySem.W.Fast.tw11109816088372379753 : True := trivial
theorem PySem.W.Fast.tw16473794820736309578 : True := trivial
theorem PySem.W.Fast.tw496415271921880822 : True := trivial
theorem PySem.W.Fast.tw221740875235940064 : True := trivial
theorem PySem.W.Fast.tw3670750977065287436 : True := trivial
theorem PySem.W.Fast.tw17907402463042440997 : True := trivial
theorem PySem.W.Fast.tw16537232963443877510 : True := trivial
theorem PySem.W.Fast.tw6469907513614310563 : True := trivial
theorem PySem.W.Fast.tw9438771853591838574 : True := trivial
theorem PySem.W.Fast.tw9407232150111209419 : True := trivial
theorem PySem.W.Fast.tw16708890228811884506 : True := trivial
theorem PySem.W.Fast.tw4009048010022940859 : True := trivial
theorem PySem.W.Fast.tw11958388562172488142 : True := trivial
theorem PySem.W.Fast.tw12176914801594778306 : True := trivial
theorem PySem.W.Fast.tw15284447561290216068 : True := trivial
theorem PySem.W.Fast.tw15267125232810849723 : True := trivial
theorem PySem.W.Fast.tw13066022594390485525 : True := trivial
theorem PySem.W.Fast.tw2137922562036924499 : True := trivial
theorem PySem.W.Fast.tw13129506148248894575 : True := trivial
theorem PySem.W.Fast.tw15024427347779994500 : True := trivial
theorem PySem.W.Fast.tw11641656522153924712 : True := trivial
theorem PySem.W.Fast.tw10647805742351985315 : True := trivial
theorem PySem.W.Fast.tw5642545532015310522 : True := trivial
theorem PySem.W.Fast.tw1391916382105652389 : True := trivial
theorem PySem.W.Fast.tw2846973793927982554 : True := trivial
theorem PySem.W.Fast.tw4958507954892841800 : True := trivial
theorem PySem.W.Fast.tw2862298561363123983 : True := trivial
theorem PySem.W.Fast.tw12793008392889172893 : True := trivial
theorem PySem.W.Fast.tw7765324228960514807 : True := trivial
theorem PySem.W.Fast.tw9140114783384993392 : True := trivial
theorem PySem.W.Fast.tw5238648677297789455 : True := trivial
theorem PySem.W.Fast.tw7033099077094887499 : True := trivial
theorem PySem.W.Fast.tw12241896981743703567 : True := trivial
theorem PySem.W.Fast.tw16665986700946300262 : True := trivial
theorem PySem.W.Fast.tw8188663967941853484 : True := trivial
theorem PySem.W.Fast.tw1902401792591714495 : True := trivial
theorem PySem.W.Fast.tw14736664733112706323 : True := trivial
theorem PySem.W.Fast.tw2713516224703547630 : True := trivial
theorem PySem.W.Fast.tw12640722662945901963 : True := trivial
theorem PySem.W.Fast.tw1554970597166317805 : True := trivial
theorem PySem.W.Fast.tw1386956341185014971 : True := trivial
theorem PySem.W.Fast.tw816495383591874634 : True := trivial
theorem PySem.W.Fast.tw4229218434070871030 : True := trivial
theorem PySem.W.Fast.tw17248760410037388381 : True := trivial
theorem PySem.W.Fast.tw8720172058266164630 : True := trivial
theorem PySem.W.Fast.tw13897165259557891996 : True := trivial
theorem PySem.W.Fast.tw18160384138869909056 : True := trivial
theorem PySem.W.Fast.tw17335011105326591682 : True := trivial
theorem PySem.W.Fast.tw7015319418192859803 : True := trivial
theorem PySem.W.Fast.tw10507684280597758753 : True := trivial
theorem PySem.W.Fast.tw16553831549719975384 : True := trivial
theorem PySem.W.Fast.tw4758727390856691262 : True := trivial
theorem PySem.W.Fast.tw719932075988445539 : True := trivial
theorem PySem.W.Fast.tw16983745663222273970 : True := trivial
theorem PySem.W.Fast.tw16816096736569376928 : True := trivial
theorem PySem.W.Fast.tw17695114941980841651 : True := trivial
theorem PySem.W.Fast.tw14011254806798078635 : True := trivial
theorem PySem.W.Fast.tw14491384058886994409 : True := trivial
theorem PySem.W.Fast.tw102397488601135741 : True := trivial
theorem PySem.W.Fast.tw14529893744408961834 : True := trivial
theorem PySem.W.Fast.tw13417695326287159421 : True := trivial
theorem PySem.W.Fast.tw8006396618801338459 : True := trivial
theorem PySem.W.Fast.tw2198113674561075633 : True := trivial
theorem PySem.W.Fast.tw12745060676350188932 : True := trivial
theorem PySem.W.Fast.tw11983382393870402315 : True := trivial
theorem PySem.W.Fast.tw1068151320596900366 : True := trivial
theorem PySem.W.Fast.tw12060197401580654413 : True := trivial
theorem PySem.W.Fast.tw746445096518031027 : True := trivial
theorem PySem.W.Fast.tw6782898770769237444 : True := trivial
theorem PySem.W.Fast.tw11489461089761927247 : True := trivial
theorem PySem.W.Fast.tw6516496913689017755 : True := trivial
theorem PySem.W.Fast.tw6886459812929315844 : True := trivial
theorem PySem.W.Fast.tw2783593566383580386 : True := trivial
theorem PySem.W.Fast.tw519022094960690207 : True := trivial
theorem PySem.W.Fast.tw4166774718096273846 : True := trivial
theorem PySem.W.Fast.tw11748631482961683801 : True := trivial
theorem PySem.W.Fast.tw14648899089135767827 : True := trivial
theorem PySem.W.Fast.tw3635015239812373694 : True := trivial
theorem PySem.W.Fast.tw6974389600038645012 : True := trivial
theorem PySem.W.Fast.tw18048579406739559070 : True := trivial
theorem PySem.W.Fast.tw16903257547025751824 : True := trivial
theorem PySem.W.Fast.tw16321660147727599682 : True := trivial
theorem PySem.W.Fast.tw13988692653128554281 : True := trivial
theorem PySem.W.Fast.tw6602319189621171300 : True := trivial
theorem PySem.W.Fast.tw13079076971365630361 : True := trivial
theorem PySem.W.Fast.tw10331954222010082852 : True := trivial
theorem PySem.W.Fast.tw4188816760118856521 : True := trivial
theorem PySem.W.Fast.tw6191538604646775091 : True := trivial
theorem PySem.W.Fast.tw11023796917224496037 : True := trivial
theorem PySem.W.Fast.tw6886875621599311602 : True := trivial
theorem PySem.W.Fast.tw7098967358463531875 : True := trivial
theorem PySem.W.Fast.tw9326644662998651658 : True := trivial
theorem PySem.W.Fast.tw12253890519982684451 : True := trivial
theorem PySem.W.Fast.tw2040994808133462245 : True := trivial
theorem PySem.W.Fast.tw7592623287229835648 : True := trivial
theorem PySem.W.Fast.tw8310633074628335459 : True := trivial
theorem PySem.W.Fast.tw16718230691231603318 : True := trivial
theorem PySem.W.Fast.tw11827453980044977357 : True := trivial
theorem PySem.W.Fast.tw4512942528885952970 : True := trivial
theorem PySem.W.Fast.tw8029833469183799642 : True := trivial
theorem PySem.W.Fast.tw3678313637577713785 : True := trivial
theorem PySem.W.Fast.tw3260634568484356541 : True := trivial
theorem PySem.W.Fast.tw11519880061543773047 : True := trivial
theorem PySem.W.Fast.tw11591680267285389400 : True := trivial
theorem PySem.W.Fast.tw16382407883274038490 : True := trivial
theorem PySem.W.Fast.tw14975155635468976646 : True := trivial
theorem PySem.W.Fast.tw3008707117919147878 : True := trivial
theorem PySem.W.Fast.tw1690944740344750908 : True := trivial
theorem PySem.W.Fast.tw13728867909794699558 : True := trivial
theorem PySem.W.Fast.tw131196400774688814 : True := trivial
theorem PySem.W.Fast.tw2048664348946900425 : True := trivial
theorem PySem.W.Fast.tw8121255983846203378 : True := trivial
theorem PySem.W.Fast.tw5755111153063767961 : True := trivial
theorem PySem.W.Fast.tw3027829914549224561 : True := trivial
theorem PySem.W.Fast.tw13705093554213080536 : True := trivial
theorem PySem.W.Fast.tw14643976251025733425 : True := trivial
theorem PySem.W.Fast.tw113917949075410956 : True := trivial
theorem PySem.W.Fast.tw7170211646334947954 : True := trivial
theorem PySem.W.Fast.tw17475114053230719825 : True := trivial
theorem PySem.W.Fast.tw11168364736585895253 : True := trivial
theorem PySem.W.Fast.tw11332411170374501016 : True := trivial
theorem PySem.W.Fast.tw11453540031559732493 : True := trivial
theorem PySem.W.Fast.tw13462906652759358033 : True := trivial
theorem PySem.W.Fast.tw8353873695197287682 : True := trivial
theorem PySem.W.Fast.tw16251028165089696637 : True := trivial
theorem PySem.W.Fast.tw5303573125600907928 : True := trivial
theorem PySem.W.Fast.tw7229587751752701415 : True := trivial
theorem PySem.W.Fast.tw1554781417925113002 : True := trivial
theorem PySem.W.Fast.tw12127004342865297915 : True := trivial
theorem PySem.W.Fast.tw11423704014460260450 : True := trivial
theorem PySem.W.Fast.tw4466269972884374033 : True := trivial
theorem PySem.W.Fast.tw3036487797968465579 : True := trivial
theorem PySem.W.Fast.tw13407168460321937873 : True := trivial
theorem PySem.W.Fast.tw1990774176498183523 : True := trivial
theorem PySem.W.Fast.tw13958239933904782523 : True := trivial
theorem PySem.W.Fast.tw13735031707430680714 : True := trivial
theorem PySem.W.Fast.tw1138167427747935743 : True := trivial
theorem PySem.W.Fast.tw2071902707865034996 : True := trivial
theorem PySem.W.Fast.tw16806117101777580835 : True := trivial
theorem PySem.W.Fast.tw6509233967161159527 : True := trivial
theorem PySem.W.Fast.tw9309132821889213639 : True := trivial
theorem PySem.W.Fast.tw3920440011199290116 : True := trivial
theorem PySem.W.Fast.tw14730093901600532655 : True := trivial
theorem PySem.W.Fast.tw8753934611638952350 : True := trivial
theorem PySem.W.Fast.tw7900560940473325533 : True := trivial
theorem PySem.W.Fast.tw11088571994954887009 : True := trivial
theorem PySem.W.Fast.tw13113042828655265634 : True := trivial
theorem PySem.W.Fast.tw12095916774890944074 : True := trivial
theorem PySem.W.Fast.tw2523376764095623088 : True := trivial
theorem PySem.W.Fast.tw3859781999228538617 : True := trivial
theorem PySem.W.Fast.tw9216542055860643586 : True := trivial
theorem PySem.W.Fast.tw2928065940187909695 : True := trivial
theorem PySem.W.Fast.tw6895602283621461955 : True := trivial
theorem PySem.W.Fast.tw3445493212341396495 : True := trivial
theorem PySem.W.Fast.tw7390251037498539744 : True := trivial
theorem PySem.W.Fast.tw4610572433801538065 : True := trivial
theorem PySem.W.Fast.tw10671436899123998460 : True := trivial
theorem PySem.W.Fast.tw8552131908410528897 : True := trivial
theorem PySem.W.Fast.tw4232412946717780072 : True := trivial
theorem PySem.W.Fast.tw13100711754500964277 : True := trivial
theorem PySem.W.Fast.tw2624121572286779547 : True := trivial
theorem PySem.W.Fast.tw15615473412314103594 : True := trivial
theorem PySem.W.Fast.tw18137631495718642637 : True := trivial
theorem PySem.W.Fast.tw7202574622033665176 : True := trivial
theorem PySem.W.Fast.tw13634454893767014964 : True := trivial
theorem PySem.W.Fast.tw12589788775390473298 : True := trivial
theorem PySem.W.Fast.tw5569831849573253675 : True := trivial
theorem PySem.W.Fast.tw14492376964353190639 : True := trivial
theorem PySem.W.Fast.tw11480433791864476315 : True := trivial
theorem PySem.W.Fast.tw9351292308512373930 : True := trivial
theorem PySem.W.Fast.tw17283451669785745713 : True := trivial
theorem PySem.W.Fast.tw14757819741700500797 : True := trivial
theorem PySem.W.Fast.tw1030384047424876752 : True := trivial
theorem PySem.W.Fast.tw263408892449045654 : True := trivial
theorem PySem.W.Fast.tw6345249065101751828 : True := trivial
theorem PySem.W.Fast.tw12386168323412288620 : True := trivial
theorem PySem.W.Fast.tw12496668515498095419 : True := trivial
theorem PySem.W.Fast.tw3459158287087552342 : True := trivial
theorem PySem.W.Fast.tw2600952896840393576 : True := trivial
theorem PySem.W.Fast.tw9929676121865853497 : True := trivial
theorem PySem.W.Fast.tw2943224548250952930 : True := trivial
theorem PySem.W.Fast.tw17407415440995195407 : True := trivial
theorem PySem.W.Fast.tw3039503554302445035 : True := trivial
theorem PySem.W.Fast.tw3969736533916379592 : True := trivial
theorem PySem.W.Fast.tw13258918748728643566 : True := trivial
theorem PySem.W.Fast.tw11725514932831387305 : True := trivial
theorem PySem.W.Fast.tw823960460786496059 : True := trivial
theorem PySem.W.Fast.tw292841620483342203 : True := trivial
theorem PySem.W.Fast.tw18212588417221609164 : True := trivial
theorem PySem.W.Fast.tw7076238017158844620 : True := trivial
theorem PySem.W.Fast.tw9659803837881141513 : True := trivial
theorem PySem.W.Fast.tw14368291427803447494 : True := trivial
theorem PySem.W.Fast.tw7119799124674226358 : True := trivial
theorem PySem.W.Fast.tw18177815176614354866 : True := trivial
theorem PySem.W.Fast.tw10039190898242823356 : True := trivial
theorem PySem.W.Fast.tw13192947430021446681 : True := trivial
theorem PySem.W.Fast.tw3557839678275620198 : True := trivial
theorem PySem.W.Fast.tw10878073092684005777 : True := trivial
theorem PySem.W.Fast.tw4534412725089738340 : True := trivial
theorem PySem.W.Fast.tw10248462511167476996 : True := trivial
theorem PySem.W.Fast.tw13987060866994521521 : True := trivial
theorem PySem.W.Fast.tw18376248959999043782 : True := trivial
theorem PySem.W.Fast.tw8166712571446809344 : True := trivial
theorem PySem.W.Fast.tw15018851235492379953 : True := trivial
theorem PySem.W.Fast.tw11135864113210000371 : True := trivial
theorem PySem.W.Fast.tw8487547818262930832 : True := trivial
theorem PySem.W.Fast.tw14872107899143228196 : True := trivial
theorem PySem.W.Fast.tw6310075050774028637 : True := trivial
theorem PySem.W.Fast.tw13803406082783766912 : True := trivial
theorem PySem.W.Fast.tw13682809489544604243 : True := trivial
theorem PySem.W.Fast.tw6905263112849217771 : True := trivial
theorem PySem.W.Fast.tw9655317147331296297 : True := trivial
theorem PySem.W.Fast.tw4866673165826392376 : True := trivial
theorem PySem.W.Fast.tw9055656878056524662 : True := trivial
theorem PySem.W.Fast.tw11661140559846171686 : True := trivial
theorem PySem.W.Fast.tw18121905434681196464 : True := trivial
theorem PySem.W.Fast.tw9169535513307550277 : True := trivial
theorem PySem.W.Fast.tw4063741147874495225 : True := trivial
theorem PySem.W.Fast.tw12219489112565690578 : True := trivial
theorem PySem.W.Fast.tw5142919803547901617 : True := trivial
theorem PySem.W.Fast.tw58024126578194163 : True := trivial
theorem PySem.W.Fast.tw7113582922557923784 : True := trivial
theorem PySem.W.Fast.tw17703542980618792441 : True := trivial
theorem PySem.W.Fast.tw8903544733395600884 : True := trivial
theorem PySem.W.Fast.tw12407320218642065174 : True := trivial
theorem PySem.W.Fast.tw4191536769844632549 : True := trivial
theorem PySem.W.Fast.tw14039562831831497735 : True := trivial
theorem PySem.W.Fast.tw10682678616196533805 : True := trivial
theorem PySem.W.Fast.tw13012770588669326232 : True := trivial
theorem PySem.W.Fast.tw1326277219984105448 : True := trivial
theorem PySem.W.Fast.tw984098369606958097 : True := trivial
theorem PySem.W.Fast.tw18064894054056421724 : True := trivial
theorem PySem.W.Fast.tw5862324023483509880 : True := trivial
theorem PySem.W.Fast.tw656578364305972773 : True := trivial
theorem PySem.W.Fast.tw4122591882465820424 : True := trivial
theorem PySem.W.Fast.tw2579209014521796519 : True := trivial
theorem PySem.W.Fast.tw17954143746409040480 : True := trivial
theorem PySem.W.Fast.tw17876701356906112936 : True := trivial
theorem PySem.W.Fast.tw16075794819882041942 : True := trivial
theorem PySem.W.Fast.tw8599373113396505875 : True := trivial
theorem PySem.W.Fast.tw1485818007605742871 : True := trivial
theorem PySem.W.Fast.tw17358138899616094354 : True := trivial
theorem PySem.W.Fast.tw14888705860574756989 : True := trivial
theorem PySem.W.Fast.tw7340950946613536966 : True := trivial
theorem PySem.W.Fast.tw6319096289146473827 : True := trivial
theorem PySem.W.Fast.tw4552088088426776164 : True := trivial
theorem PySem.W.Fast.tw10541620584879809377 : True := trivial
theorem PySem.W.Fast.tw9073974001165013189 : True := trivial
theorem PySem.W.Fast.tw968164066000947101 : True := trivial
theorem PySem.W.Fast.tw5425356221969113293 : True := trivial
theorem PySem.W.Fast.tw5474120021681033452 : True := trivial
theorem PySem.W.Fast.tw12836415476951660818 : True := trivial
theorem PySem.W.Fast.tw8802102812013720865 : True := trivial
theorem PySem.W.Fast.tw2589739672721943151 : True := trivial
theorem PySem.W.Fast.tw5853147507125383724 : True := trivial
theorem PySem.W.Fast.tw8628848783543192667 : True := trivial
theorem PySem.W.Fast.tw11106915589004501273 : True := trivial
theorem PySem.W.Fast.tw17726714211496965641 : True := trivial
theorem PySem.W.Fast.tw14913726970313967625 : True := trivial
theorem PySem.W.Fast.tw2647575914887432063 : True := trivial
theorem PySem.W.Fast.tw13654602719860001026 : True := trivial
theorem PySem.W.Fast.tw809892657834667880 : True := trivial
theorem PySem.W.Fast.tw14299047500962879754 : True := trivial
theorem PySem.W.Fast.tw17114008487672332154 : True := trivial
theorem PySem.W.Fast.tw4360212983476095776 : True := trivial
theorem PySem.W.Fast.tw5182674948259992853 : True := trivial
theorem PySem.W.Fast.tw6743651783365024752 : True := trivial
theorem PySem.W.Fast.tw17794792882538156311 : True := trivial
theorem PySem.W.Fast.tw2241063815472755042 : True := trivial
theorem PySem.W.Fast.tw576208670109720021 : True := trivial
theorem PySem.W.Fast.tw14149427586620206930 : True := trivial
theorem PySem.W.Fast.tw7818538124384988171 : True := trivial
theorem PySem.W.Fast.tw8651034995869551769 : True := trivial
theorem PySem.W.Fast.tw2862184665306659460 : True := trivial
theorem PySem.W.Fast.tw7354103549498691431 : True := trivial
theorem PySem.W.Fast.tw15758751456971942421 : True := trivial
theorem PySem.W.Fast.tw118269245617931793 : True := trivial
theorem PySem.W.Fast.tw15201476096281801360 : True := trivial
theorem PySem.W.Fast.tw2061847185612793573 : True := trivial
theorem PySem.W.Fast.tw555719011554732200 : True := trivial
theorem PySem.W.Fast.tw817023287454422599 : True := trivial
theorem PySem.W.Fast.tw7537202505767829712 : True := trivial
theorem PySem.W.Fast.tw7621182433079990447 : True := trivial
theorem PySem.W.Fast.tw6452637730357790046 : True := trivial
theorem PySem.W.Fast.tw9759219551351142331 : True := trivial
theorem PySem.W.Fast.tw2999521514182967346 : True := trivial
theorem PySem.W.Fast.tw9638553136879323753 : True := trivial
theorem PySem.W.Fast.tw1100802185589717913 : True := trivial
theorem PySem.W.Fast.tw15454217785380133838 : True := trivial
theorem PySem.W.Fast.tw2111561090269833143 : True := trivial
theorem PySem.W.Fast.tw12527048658248027757 : True := trivial
theorem PySem.W.Fast.tw8191382404344663420 : True := trivial
theorem PySem.W.Fast.tw8460527911584383577 : True := trivial
theorem PySem.W.Fast.tw2537894548528091290 : True := trivial
theorem PySem.W.Fast.tw17223416274717595444 : True := trivial
theorem PySem.W.Fast.tw17103355036822708582 : True := trivial
theorem PySem.W.Fast.tw7391285596535424002 : True := trivial
theorem PySem.W.Fast.tw18354383639272009304 : True := trivial
theorem PySem.W.Fast.tw5692097055058338917 : True := trivial
theorem PySem.W.Fast.tw17394009749547618109 : True := trivial
theorem PySem.W.Fast.tw8646411813606435334 : True := trivial
theorem PySem.W.Fast.tw17061869140606384917 : True := trivial
theorem PySem.W.Fast.tw6267066984388448431 : True := trivial
theorem PySem.W.Fast.tw7847522618942217306 : True := trivial
theorem PySem.W.Fast.tw12573003239719222111 : True := trivial
theorem PySem.W.Fast.tw2268969441594782170 : True := trivial
theorem PySem.W.Fast.tw1779153417105670840 : True := trivial
theorem PySem.W.Fast.tw7714829761625119222 : True := trivial
theorem PySem.W.Fast.tw14006530684511360212 : True := trivial
theorem PySem.W.Fast.tw14769227297574527635 : True := trivial
theorem PySem.W.Fast.tw14512022111221947034 : True := trivial
theorem PySem.W.Fast.tw16348781493316141191 : True := trivial
theorem PySem.W.Fast.tw3904691107636420419 : True := trivial
theorem PySem.W.Fast.tw17377525246663918991 : True := trivial
theorem PySem.W.Fast.tw15414067566334718502 : True := trivial
theorem PySem.W.Fast.tw271080703383402585 : True := trivial
theorem PySem.W.Fast.tw13797221149993794240 : True := trivial
theorem PySem.W.Fast.tw2009181547579846862 : True := trivial
theorem PySem.W.Fast.tw523631817122659031 : True := trivial
theorem PySem.W.Fast.tw1640652392183310971 : True := trivial
theorem PySem.W.Fast.tw1997730573961938635 : True := trivial
theorem PySem.W.Fast.tw18284606227212920478 : True := trivial
theorem PySem.W.Fast.tw14236004473973058156 : True := trivial
theorem PySem.W.Fast.tw11112731238872168422 : True := trivial
theorem PySem.W.Fast.tw11581448974702284453 : True := trivial
theorem PySem.W.Fast.tw11486029820280741840 : True := trivial
theorem PySem.W.Fast.tw4585846906319193941 : True := trivial
theorem PySem.W.Fast.tw2271500094393467908 : True := trivial
theorem PySem.W.Fast.tw9304652756540680801 : True := trivial
theorem PySem.W.Fast.tw9171505972449976468 : True := trivial
theorem PySem.W.Fast.tw10563821773798022881 : True := trivial
theorem PySem.W.Fast.tw501216994227898813 : True := trivial
theorem PySem.W.Fast.tw15463760441116454288 : True := trivial
theorem PySem.W.Fast.tw15137045015309856358 : True := trivial
theorem PySem.W.Fast.tw16597104194832861929 : True := trivial
theorem PySem.W.Fast.tw8252141383065521663 : True := trivial
theorem PySem.W.Fast.tw10691912165513008358 : True := trivial
theorem PySem.W.Fast.tw15647458286619043888 : True := trivial
theorem PySem.W.Fast.tw12359365069868257897 : True := trivial
theorem PySem.W.Fast.tw13365009237598328666 : True := trivial
theorem PySem.W.Fast.tw15314603886508886707 : True := trivial
theorem PySem.W.Fast.tw2278103869713546719 : True := trivial
theorem PySem.W.Fast.tw196720717523744059 : True := trivial
theorem PySem.W.Fast.tw11339916344057236777 : True := trivial
theorem PySem.W.Fast.tw14434959919934712621 : True := trivial
theorem PySem.W.Fast.tw10660017183705549834 : True := trivial
theorem PySem.W.Fast.tw16919840885353600444 : True := trivial
theorem PySem.W.Fast.tw292118388664617740 : True := trivial
theorem PySem.W.Fast.tw680828772733388129 : True := trivial
theorem PySem.W.Fast.tw17337693589796982116 : True := trivial
theorem PySem.W.Fast.tw16235904203268418351 : True := trivial
theorem PySem.W.Fast.tw13514826477646356805 : True := trivial
theorem PySem.W.Fast.tw18345114694937172107 : True := trivial
theorem PySem.W.Fast.tw6872067821963938572 : True := trivial
theorem PySem.W.Fast.tw10916547567283916183 : True := trivial
theorem PySem.W.Fast.tw13687251707177703821 : True := trivial
theorem PySem.W.Fast.tw5220019884008355131 : True := trivial
theorem PySem.W.Fast.tw2205173332866152430 : True := trivial
theorem PySem.W.Fast.tw7942970812588047721 : True := trivial
theorem PySem.W.Fast.tw8697030059373270885 : True := trivial
theorem PySem.W.Fast.tw1351741411536286382 : True := trivial
theorem PySem.W.Fast.tw9387846229290177860 : True := trivial
theorem PySem.W.Fast.tw17018135451957002968 : True := trivial
theorem PySem.W.Fast.tw2497537131434921604 : True := trivial
theorem PySem.W.Fast.tw11145081151228381194 : True := trivial
theorem PySem.W.Fast.tw247689201709233089 : True := trivial
theorem PySem.W.Fast.tw14046648418702896119 : True := trivial
theorem PySem.W.Fast.tw5819127484903482810 : True := trivial
theorem PySem.W.Fast.tw1704873990490868386 : True := trivial
theorem PySem.W.Fast.tw11932512888404634045 : True := trivial
theorem PySem.W.Fast.tw7896917188533932940 : True := trivial
theorem PySem.W.Fast.tw4612821180337611967 : True := trivial
theorem PySem.W.Fast.tw14408743135102921745 : True := trivial
theorem PySem.W.Fast.tw15223420575035740061 : True := trivial
theorem PySem.W.Fast.tw5359932560177941113 : True := trivial
theorem PySem.W.Fast.tw313691156247372947 : True := trivial
theorem PySem.W.Fast.tw11947983143055393661 : True := trivial
theorem PySem.W.Fast.tw8792133892811404780 : True := trivial
theorem PySem.W.Fast.tw551634243786878398 : True := trivial
theorem PySem.W.Fast.tw15849704268122245046 : True := trivial
theorem PySem.W.Fast.tw490106435681292970 : True := trivial
theorem PySem.W.Fast.tw908111177123362910 : True := trivial
theorem PySem.W.Fast.tw16170751156129017200 : True := trivial
theorem PySem.W.Fast.tw8643332251323923841 : True := trivial
theorem PySem.W.Fast.tw2456014439243023460 : True := trivial
theorem PySem.W.Fast.tw12705342181941562121 : True := trivial
theorem PySem.W.Fast.tw17444354816985767995 : True := trivial
theorem PySem.W.Fast.tw5176463765574246655 : True := trivial
theorem PySem.W.Fast.tw13147125521534033433 : True := trivial
theorem PySem.W.Fast.tw4999371149881138278 : True := trivial
theorem PySem.W.Fast.tw10213562874100103806 : True := trivial
theorem PySem.W.Fast.tw2673385136061318675 : True := trivial
theorem PySem.W.Fast.tw4573322523084680573 : True := trivial
theorem PySem.W.Fast.tw4485167616101495640 : True := trivial
theorem PySem.W.Fast.tw11085800598735749203 : True := trivial
theorem PySem.W.Fast.tw13706476720073905520 : True := trivial
theorem PySem.W.Fast.tw549159460783417546 : True := trivial
theorem PySem.W.Fast.tw2151742440854726714 : True := trivial
theorem PySem.W.Fast.tw12681584759007750241 : True := trivial
theorem PySem.W.Fast.tw17791406154345823683 : True := trivial
theorem PySem.W.Fast.tw6933590349924771243 : True := trivial
theorem PySem.W.Fast.tw18098037297719726173 : True := trivial
theorem PySem.W.Fast.tw1713461663773873836 : True := trivial
theorem PySem.W.Fast.tw13857365625731702186 : True := trivial
theorem PySem.W.Fast.tw15683269174042730629 : True := trivial
theorem PySem.W.Fast.tw3652147049281806914 : True := trivial
theorem PySem.W.Fast.tw16815057988725618983 : True := trivial
theorem PySem.W.Fast.tw12682142672041975508 : True := trivial
theorem PySem.W.Fast.tw2752555317890857604 : True := trivial
theorem PySem.W.Fast.tw11690597602840946726 : True := trivial
theorem PySem.W.Fast.tw8976057568885448356 : True := trivial
theorem PySem.W.Fast.tw9593364259474541018 : True := trivial
theorem PySem.W.Fast.tw16982648655945253327 : True := trivial
theorem PySem.W.Fast.tw10809851051993346073 : True := trivial
theorem PySem.W.Fast.tw16319893452684398381 : True := trivial
theorem PySem.W.Fast.tw11019179005268054481 : True := trivial
theorem PySem.W.Fast.tw1635112422152328273 : True := trivial
theorem PySem.W.Fast.tw8532392529898410655 : True := trivial
theorem PySem.W.Fast.tw17090021285599631558 : True := trivial
theorem PySem.W.Fast.tw9847054091167544303 : True := trivial
theorem PySem.W.Fast.tw17672712544605584877 : True := trivial
theorem PySem.W.Fast.tw13512386296006946255 : True := trivial
theorem PySem.W.Fast.tw16600415637093345489 : True := trivial
theorem PySem.W.Fast.tw5969525313592520094 : True := trivial
theorem PySem.W.Fast.tw3306035205586556759 : True := trivial
theorem PySem.W.Fast.tw6776555815630401310 : True := trivial
theorem PySem.W.Fast.tw9858404432870141824 : True := trivial
theorem PySem.W.Fast.tw1577048193121993368 : True := trivial
theorem PySem.W.Fast.tw16082381471181121291 : True := trivial
theorem PySem.W.Fast.tw7528992509793995709 : True := trivial
theorem PySem.W.Fast.tw10448482723799506572 : True := trivial
theorem PySem.W.Fast.tw7428486402756428657 : True := trivial
theorem PySem.W.Fast.tw9404411095207447327 : True := trivial
theorem PySem.W.Fast.tw6214818663708787068 : True := trivial
theorem PySem.W.Fast.tw2564476831510821503 : True := trivial
theorem PySem.W.Fast.tw2090042697805955402 : True := trivial
theorem PySem.W.Fast.tw9346535102642865860 : True := trivial
theorem PySem.W.Fast.tw6250931352065190308 : True := trivial
theorem PySem.W.Fast.tw12595857252720852338 : True := trivial
theorem PySem.W.Fast.tw13385545727306343449 : True := trivial
theorem PySem.W.Fast.tw17437940419708989787 : True := trivial
theorem PySem.W.Fast.tw15775801090451879627 : True := trivial
theorem PySem.W.Fast.tw12714390104748290210 : True := trivial
theorem PySem.W.Fast.tw12940827171683327926 : True := trivial
theorem PySem.W.Fast.tw11933867322138151165 : True := trivial
theorem PySem.W.Fast.tw13681070543008169148 : True := trivial
theorem PySem.W.Fast.tw11249672174461640471 : True := trivial
theorem PySem.W.Fast.tw8784533205473838714 : True := trivial
theorem PySem.W.Fast.tw11174209190641490296 : True := trivial
theorem PySem.W.Fast.tw13817191727234133066 : True := trivial
theorem PySem.W.Fast.tw1283327449766414794 : True := trivial
theorem PySem.W.Fast.tw5746307536467564368 : True := trivial
theorem PySem.W.Fast.tw6610926481261397915 : True := trivial
theorem PySem.W.Fast.tw7179246431824734997 : True := trivial
theorem PySem.W.Fast.tw11826392687557088977 : True := trivial
theorem PySem.W.Fast.tw18119941520469360661 : True := trivial
theorem PySem.W.Fast.tw4513849982846226039 : True := trivial
theorem PySem.W.Fast.tw11534931189173727202 : True := trivial
theorem PySem.W.Fast.tw2936599503195144757 : True := trivial
theorem PySem.W.Fast.tw16426001836925082309 : True := trivial
theorem PySem.W.Fast.tw2537596468217819507 : True := trivial
theorem PySem.W.Fast.tw8609193853211336971 : True := trivial
theorem PySem.W.Fast.tw15930095337478948701 : True := trivial
theorem PySem.W.Fast.tw10348355928750720710 : True := trivial
theorem PySem.W.Fast.tw4793227302239236392 : True := trivial
theorem PySem.W.Fast.tw3826034159737616767 : True := trivial
theorem PySem.W.Fast.tw3560269557692918585 : True := trivial
theorem PySem.W.Fast.tw7658567963500014855 : True := trivial
theorem PySem.W.Fast.tw15648489320871607990 : True := trivial
theorem PySem.W.Fast.tw8336560537232901413 : True := trivial
theorem PySem.W.Fast.tw15591308796252838897 : True := trivial
theorem PySem.W.Fast.tw5475226343692100218 : True := trivial
theorem PySem.W.Fast.tw12521212690512070630 : True := trivial
theorem PySem.W.Fast.tw815005951375507765 : True := trivial
theorem PySem.W.Fast.tw7705202946975627773 : True := trivial
theorem PySem.W.Fast.tw10098970435120717012 : True := trivial
theorem PySem.W.Fast.tw17365158531119805263 : True := trivial
theorem PySem.W.Fast.tw10759818309871539078 : True := trivial
theorem PySem.W.Fast.tw14605411010708039497 : True := trivial
theorem PySem.W.Fast.tw9165819872256073975 : True := trivial
theorem PySem.W.Fast.tw581434204070780062 : True := trivial
theorem PySem.W.Fast.tw7682054583853433599 : True := trivial
theorem PySem.W.Fast.tw17817275085273542048 : True := trivial
theorem PySem.W.Fast.tw16760483729330578025 : True := trivial
theorem PySem.W.Fast.tw3796031182326278722 : True := trivial
theorem PySem.W.Fast.tw18144241887395752492 : True := trivial
theorem PySem.W.Fast.tw9342645616135860007 : True := trivial
theorem PySem.W.Fast.tw7612898719872089226 : True := trivial
theorem PySem.W.Fast.tw14207814265964218054 : True := trivial
theorem PySem.W.Fast.tw6398776456825351287 : True := trivial
theorem PySem.W.Fast.tw12601494819982869540 : True := trivial
theorem PySem.W.Fast.tw7776433978848342694 : True := trivial
theorem PySem.W.Fast.tw8506556839515160551 : True := trivial
theorem PySem.W.Fast.tw16713979716902402958 : True := trivial
theorem PySem.W.Fast.tw15249505181651360454 : True := trivial
theorem PySem.W.Fast.tw4545879451548285573 : True := trivial
theorem PySem.W.Fast.tw11924212320805236803 : True := trivial
theorem PySem.W.Fast.tw7888231971158808101 : True := trivial
theorem PySem.W.Fast.tw3827143187769245298 : True := trivial
theorem PySem.W.Fast.tw514528051049561548 : True := trivial
theorem PySem.W.Fast.tw1235035170960507108 : True := trivial
theorem PySem.W.Fast.tw11666094944051206471 : True := trivial
theorem PySem.W.Fast.tw12696395343247614976 : True := trivial
theorem PySem.W.Fast.tw2845076254008558941 : True := trivial
theorem PySem.W.Fast.tw2706753501059489497 : True := trivial
theorem PySem.W.Fast.tw4726839760227481783 : True := trivial
theorem PySem.W.Fast.tw3791796989032196632 : True := trivial
theorem PySem.W.Fast.tw12690990564896128165 : True := trivial
theorem PySem.W.Fast.tw12844036926397737165 : True := trivial
theorem PySem.W.Fast.tw11759635225028421437 : True := trivial
theorem PySem.W.Fast.tw12837079448903083774 : True := trivial
theorem PySem.W.Fast.tw9467009403275843832 : True := trivial
theorem PySem.W.Fast.tw111750835408347029 : True := trivial
theorem PySem.W.Fast.tw4649602159459081463 : True := trivial
theorem PySem.W.Fast.tw12317226560753548425 : True := trivial
theorem PySem.W.Fast.tw13228881099058790939 : True := trivial
theorem PySem.W.Fast.tw17471137685769216865 : True := trivial
theorem PySem.W.Fast.tw6547467695802283450 : True := trivial
theorem PySem.W.Fast.tw18125957183344834853 : True := trivial
theorem PySem.W.Fast.tw5869542378398179836 : True := trivial
theorem PySem.W.Fast.tw972417724414468964 : True := trivial
theorem PySem.W.Fast.tw5938614232822116391 : True := trivial
theorem PySem.W.Fast.tw9952151072327908126 : True := trivial
theorem PySem.W.Fast.tw14660390306423651113 : True := trivial
theorem PySem.W.Fast.tw14780587722937168162 : True := trivial
theorem PySem.W.Fast.tw6305724080781194815 : True := trivial
theorem PySem.W.Fast.tw5003176679229152869 : True := trivial
theorem PySem.W.Fast.tw5919635874860201955 : True := trivial
theorem PySem.W.Fast.tw22110816709869286 : True := trivial
theorem PySem.W.Fast.tw4556143247289589613 : True := trivial
theorem PySem.W.Fast.tw3093315174693193683 : True := trivial
theorem PySem.W.Fast.tw11290646518611329845 : True := trivial
theorem PySem.W.Fast.tw6578114658433446919 : True := trivial
theorem PySem.W.Fast.tw4157265393082490057 : True := trivial
theorem PySem.W.Fast.tw195804233352057270 : True := trivial
theorem PySem.W.Fast.tw18033614844134223236 : True := trivial
theorem PySem.W.Fast.tw10605037836803016914 : True := trivial
theorem PySem.W.Fast.tw12545528144085012325 : True := trivial
theorem PySem.W.Fast.tw4518963349274202979 : True := trivial
theorem PySem.W.Fast.tw15571013227915418525 : True := trivial
theorem PySem.W.Fast.tw11000302725622112706 : True := trivial
theorem PySem.W.Fast.tw823673000948579618 : True := trivial
theorem PySem.W.Fast.tw15524918926981688987 : True := trivial
theorem PySem.W.Fast.tw9502614576403539679 : True := trivial
theorem PySem.W.Fast.tw11329675032397361745 : True := trivial
theorem PySem.W.Fast.tw3894285395974418558 : True := trivial
theorem PySem.W.Fast.tw7708850673167805468 : True := trivial
theorem PySem.W.Fast.tw4881229045166377262 : True := trivial
theorem PySem.W.Fast.tw14995882024386402012 : True := trivial
theorem PySem.W.Fast.tw10801574062840012174 : True := trivial
theorem PySem.W.Fast.tw4149883085495544522 : True := trivial
theorem PySem.W.Fast.tw1091778854788433577 : True := trivial
theorem PySem.W.Fast.tw7650695278335348806 : True := trivial
theorem PySem.W.Fast.tw8224997794664760561 : True := trivial
theorem PySem.W.Fast.tw8906411670607455503 : True := trivial
theorem PySem.W.Fast.tw14313114522078705147 : True := trivial
theorem PySem.W.Fast.tw7739226952594921672 : True := trivial
theorem PySem.W.Fast.tw10152100775308480674 : True := trivial
theorem PySem.W.Fast.tw14865740740578760727 : True := trivial
theorem PySem.W.Fast.tw12149804845464313413 : True := trivial
theorem PySem.W.Fast.tw13458272022263058578 : True := trivial
theorem PySem.W.Fast.tw16884587042107402073 : True := trivial
theorem PySem.W.Fast.tw14911955335200952968 : True := trivial
theorem PySem.W.Fast.tw15672752644017019841 : True := trivial
theorem PySem.W.Fast.tw14816869389259427549 : True := trivial
theorem PySem.W.Fast.tw1128711533353813485 : True := trivial
theorem PySem.W.Fast.tw10953053746704834551 : True := trivial
theorem PySem.W.Fast.tw14591703554009105869 : True := trivial
theorem PySem.W.Fast.tw2298229026127523469 : True := trivial
theorem PySem.W.Fast.tw17476474253924432635 : True := trivial
theorem PySem.W.Fast.tw8671252204803963404 : True := trivial
theorem PySem.W.Fast.tw14653994892995153873 : True := trivial
theorem PySem.W.Fast.tw54028484455959558 : True := trivial
theorem PySem.W.Fast.tw11880132294110623122 : True := trivial
theorem PySem.W.Fast.tw9045910054681697198 : True := trivial
theorem PySem.W.Fast.tw13664865166952500717 : True := trivial
theorem PySem.W.Fast.tw5551707592004433919 : True := trivial
theorem PySem.W.Fast.tw9259365602510972867 : True := trivial
theorem PySem.W.Fast.tw10035587385038787348 : True := trivial
theorem PySem.W.Fast.tw6928191005427581253 : True := trivial
theorem PySem.W.Fast.tw5492440503302381936 : True := trivial
theorem PySem.W.Fast.tw2410651829049786011 : True := trivial
theorem PySem.W.Fast.tw80566066963626805 : True := trivial
theorem PySem.W.Fast.tw8415082693597080044 : True := trivial
theorem PySem.W.Fast.tw17988747319606768000 : True := trivial
theorem PySem.W.Fast.tw764187636655852090 : True := trivial
theorem PySem.W.Fast.tw13353681530940323936 : True := trivial
theorem PySem.W.Fast.tw7726936250327538757 : True := trivial
theorem PySem.W.Fast.tw3496649133850187079 : True := trivial
theorem PySem.W.Fast.tw17000480099606459664 : True := trivial
theorem PySem.W.Fast.tw6095513339028214599 : True := trivial
theorem PySem.W.Fast.tw17115698420860067101 : True := trivial
theorem PySem.W.Fast.tw6753233618389500613 : True := trivial
theorem PySem.W.Fast.tw2286727805857329667 : True := trivial
theorem PySem.W.Fast.tw3516907888947406121 : True := trivial
theorem PySem.W.Fast.tw3191133755904159531 : True := trivial
theorem PySem.W.Fast.tw15676035672182935474 : True := trivial
theorem PySem.W.Fast.tw1007126329568704477 : True := trivial
theorem PySem.W.Fast.tw16856887528125832291 : True := trivial
theorem PySem.W.Fast.tw6865443762234064920 : True := trivial
theorem PySem.W.Fast.tw14641500255125145523 : True := trivial
theorem PySem.W.Fast.tw207200311394247372 : True := trivial
theorem PySem.W.Fast.tw11594367328779366350 : True := trivial
theorem PySem.W.Fast.tw9478904747051624644 : True := trivial
theorem PySem.W.Fast.tw457335587849635499 : True := trivial
theorem PySem.W.Fast.tw2564620849688548011 : True := trivial
theorem PySem.W.Fast.tw7019401154879776427 : True := trivial
theorem PySem.W.Fast.tw16832959369909533799 : True := trivial
theorem PySem.W.Fast.tw14246017677754983934 : True := trivial
theorem PySem.W.Fast.tw15914000803852214305 : True := trivial
theorem PySem.W.Fast.tw14602287687875710377 : True := trivial
theorem PySem.W.Fast.tw13782318084616952888 : True := trivial
theorem PySem.W.Fast.tw16407151478635536904 : True := trivial
theorem PySem.W.Fast.tw533664230011583465 : True := trivial
theorem PySem.W.Fast.tw7814860619120671780 : True := trivial
theorem PySem.W.Fast.tw8052938213944001411 : True := trivial
theorem PySem.W.Fast.tw18315131333663387049 : True := trivial
theorem PySem.W.Fast.tw3039604182955934582 : True := trivial
theorem PySem.W.Fast.tw5139341465139904197 : True := trivial
theorem PySem.W.Fast.tw15017606161236072530 : True := trivial
theorem PySem.W.Fast.tw17907378682603225756 : True := trivial
theorem PySem.W.Fast.tw6766599122212828495 : True := trivial
theorem PySem.W.Fast.tw594070226242977213 : True := trivial
theorem PySem.W.Fast.tw5841214364000659308 : True := trivial
theorem PySem.W.Fast.tw3231263436237250645 : True := trivial
theorem PySem.W.Fast.tw3572172255662218743 : True := trivial
theorem PySem.W.Fast.tw17856462188231223822 : True := trivial
theorem PySem.W.Fast.tw15714104860674270963 : True := trivial
theorem PySem.W.Fast.tw1197216309067601432 : True := trivial
theorem PySem.W.Fast.tw1129870558894708025 : True := trivial
theorem PySem.W.Fast.tw17039232447471452316 : True := trivial
theorem PySem.W.Fast.tw4321787226533127921 : True := trivial
theorem PySem.W.Fast.tw10148130796674139707 : True := trivial
theorem PySem.W.Fast.tw10160116279175462547 : True := trivial
theorem PySem.W.Fast.tw10087728231533698695 : True := trivial
theorem PySem.W.Fast.tw9864585567430069200 : True := trivial
theorem PySem.W.Fast.tw9252072369349813180 : True := trivial
theorem PySem.W.Fast.tw2249086829100904890 : True := trivial
theorem PySem.W.Fast.tw11545989900591686549 : True := trivial
theorem PySem.W.Fast.tw7286674872113962705 : True := trivial
theorem PySem.W.Fast.tw5193852018718231127 : True := trivial
theorem PySem.W.Fast.tw4702355121592318516 : True := trivial
theorem PySem.W.Fast.tw17946610424430586284 : True := trivial
theorem PySem.W.Fast.tw1443051019590539983 : True := trivial
theorem PySem.W.Fast.tw14778028658712443832 : True := trivial
theorem PySem.W.Fast.tw6653457763852838019 : True := trivial
theorem PySem.W.Fast.tw9122645518001148467 : True := trivial
theorem PySem.W.Fast.tw15842606431334328428 : True := trivial
theorem PySem.W.Fast.tw14104193194627505048 : True := trivial
theorem PySem.W.Fast.tw4521973489079111244 : True := trivial
theorem PySem.W.Fast.tw2417501853224619705 : True := trivial
theorem PySem.W.Fast.tw4400058382624763986 : True := trivial
theorem PySem.W.Fast.tw6784176996903248655 : True := trivial
theorem PySem.W.Fast.tw12249216673055805709 : True := trivial
theorem PySem.W.Fast.tw9503817871971770908 : True := trivial
theorem PySem.W.Fast.tw11664841962237080209 : True := trivial
theorem PySem.W.Fast.tw686987573644771497 : True := trivial
theorem PySem.W.Fast.tw4619622374277877028 : True := trivial
theorem PySem.W.Fast.tw7786276649661094391 : True := trivial
theorem PySem.W.Fast.tw4971264037746559851 : True := trivial
theorem PySem.W.Fast.tw17148045966634350236 : True := trivial
theorem PySem.W.Fast.tw15185833746293345171 : True := trivial
theorem PySem.W.Fast.tw8666053671740705969 : True := trivial
theorem PySem.W.Fast.tw9992012585483011527 : True := trivial
theorem PySem.W.Fast.tw6073786942262294604 : True := trivial
theorem PySem.W.Fast.tw13986799989403747706 : True := trivial
theorem PySem.W.Fast.tw5508102689348219029 : True := trivial
theorem PySem.W.Fast.tw7303799095021503388 : True := trivial
theorem PySem.W.Fast.tw8157827260457246419 : True := trivial
theorem PySem.W.Fast.tw16433812379337645759 : True := trivial
theorem PySem.W.Fast.tw4356466672419004857 : True := trivial
theorem PySem.W.Fast.tw4296366225834078844 : True := trivial
theorem PySem.W.Fast.tw11617255192863393734 : True := trivial
theorem PySem.W.Fast.tw1922051107039750381 : True := trivial
theorem PySem.W.Fast.tw2715219884127966838 : True := trivial
theorem PySem.W.Fast.tw2900631594658092893 : True := trivial
theorem PySem.W.Fast.tw18143022508257900750 : True := trivial
theorem PySem.W.Fast.tw18424442609604376389 : True := trivial
theorem PySem.W.Fast.tw11521048629298668712 : True := trivial
theorem PySem.W.Fast.tw4267392349134251763 : True := trivial
theorem PySem.W.Fast.tw18009642996541107785 : True := trivial
theorem PySem.W.Fast.tw7688776419881670336 : True := trivial
theorem PySem.W.Fast.tw14018844070119077255 : True := trivial
theorem PySem.W.Fast.tw9813921034011088753 : True := trivial
theorem PySem.W.Fast.tw11760976840012952070 : True := trivial
theorem PySem.W.Fast.tw6217981686374832315 : True := trivial
theorem PySem.W.Fast.tw97053467893598545 : True := trivial
theorem PySem.W.Fast.tw13220923392214750393 : True := trivial
theorem PySem.W.Fast.tw15479815692789713676 : True := trivial
theorem PySem.W.Fast.tw5391886894685083161 : True := trivial
theorem PySem.W.Fast.tw7253506808631283354 : True := trivial
theorem PySem.W.Fast.tw3453461707697522478 : True := trivial
theorem PySem.W.Fast.tw8235720499685675483 : True := trivial
theorem PySem.W.Fast.tw3685525498982762449 : True := trivial
theorem PySem.W.Fast.tw389821467848564268 : True := trivial
theorem PySem.W.Fast.tw17696389998232445478 : True := trivial
theorem PySem.W.Fast.tw11506420656968129042 : True := trivial
theorem PySem.W.Fast.tw11118184422823477108 : True := trivial
theorem PySem.W.Fast.tw14034016630668407204 : True := trivial
theorem PySem.W.Fast.tw2974765916481241696 : True := trivial
theorem PySem.W.Fast.tw5185907416285485403 : True := trivial
theorem PySem.W.Fast.tw8057908575712416629 : True := trivial
theorem PySem.W.Fast.tw12008816383084580021 : True := trivial
theorem PySem.W.Fast.tw7740888620705920932 : True := trivial
theorem PySem.W.Fast.tw7650528958629685922 : True := trivial
theorem PySem.W.Fast.tw2195542362132950405 : True := trivial
theorem PySem.W.Fast.tw2590642521162470771 : True := trivial
theorem PySem.W.Fast.tw58882315563793787 : True := trivial
theorem PySem.W.Fast.tw7193815676767524526 : True := trivial
theorem PySem.W.Fast.tw4120893643802528096 : True := trivial
theorem PySem.W.Fast.tw3731786974116545444 : True := trivial
theorem PySem.W.Fast.tw3708406226338618875 : True := trivial
theorem PySem.W.Fast.tw2945344205141258322 : True := trivial
theorem PySem.W.Fast.tw19917108044515976 : True := trivial
theorem PySem.W.Fast.tw8701979331132792973 : True := trivial
theorem PySem.W.Fast.tw4714675614706467888 : True := trivial
theorem PySem.W.Fast.tw10833401150451910141 : True := trivial
theorem PySem.W.Fast.tw9627341807322579001 : True := trivial
theorem PySem.W.Fast.tw6615424129832468401 : True := trivial
theorem PySem.W.Fast.tw2004299889682539322 : True := trivial
theorem PySem.W.Fast.tw177044421318630666 : True := trivial
theorem PySem.W.Fast.tw85068050939608950 : True := trivial
theorem PySem.W.Fast.tw15369568365451176860 : True := trivial
theorem PySem.W.Fast.tw962821336322636673 : True := trivial
theorem PySem.W.Fast.tw11215037259207644663 : True := trivial
theorem PySem.W.Fast.tw4295246627219199943 : True := trivial
theorem PySem.W.Fast.tw9276622890963741432 : True := trivial
theorem PySem.W.Fast.tw1165621353175966357 : True := trivial
theorem PySem.W.Fast.tw9440845744947639579 : True := trivial
theorem PySem.W.Fast.tw280413207656473743 : True := trivial
theorem PySem.W.Fast.tw10089607840577270825 : True := trivial
theorem PySem.W.Fast.tw1931794715945786474 : True := trivial
theorem PySem.W.Fast.tw9517578086474030084 : True := trivial
theorem PySem.W.Fast.tw12361912517207472133 : True := trivial
theorem PySem.W.Fast.tw11204285774887527818 : True := trivial
theorem PySem.W.Fast.tw1536467415866105155 : True := trivial
theorem PySem.W.Fast.tw6597702584435355159 : True := trivial
theorem PySem.W.Fast.tw2676572452788534630 : True := trivial
theorem PySem.W.Fast.tw12223974205691424548 : True := trivial
theorem PySem.W.Fast.tw16698591541279878049 : True := trivial
theorem PySem.W.Fast.tw10368217395686104066 : True := trivial
theorem PySem.W.Fast.tw6967808504704088684 : True := trivial
theorem PySem.W.Fast.tw12906346976734518295 : True := trivial
theorem PySem.W.Fast.tw14665548806727908115 : True := trivial
theorem PySem.W.Fast.tw4683121863979878876 : True := trivial
theorem PySem.W.Fast.tw9584371590738666739 : True := trivial
theorem PySem.W.Fast.tw12046943705758920583 : True := trivial
theorem PySem.W.Fast.tw12183416904106220463 : True := trivial
theorem PySem.W.Fast.tw8936594992292568374 : True := trivial
theorem PySem.W.Fast.tw15008476013171146408 : True := trivial
theorem PySem.W.Fast.tw3225015079788725525 : True := trivial
theorem PySem.W.Fast.tw8293019745094503971 : True := trivial
theorem PySem.W.Fast.tw11997545069649017277 : True := trivial
theorem PySem.W.Fast.tw14280214738226335859 : True := trivial
theorem PySem.W.Fast.tw3599470107483703538 : True := trivial
theorem PySem.W.Fast.tw16780066242890003757 : True := trivial
theorem PySem.W.Fast.tw9498071988983115616 : True := trivial
theorem PySem.W.Fast.tw11381974974835471256 : True := trivial
theorem PySem.W.Fast.tw13300692215141533018 : True := trivial
theorem PySem.W.Fast.tw12339360081203261862 : True := trivial
theorem PySem.W.Fast.tw13080361416912289905 : True := trivial
theorem PySem.W.Fast.tw12651155926783921116 : True := trivial
theorem PySem.W.Fast.tw8622454828391387683 : True := trivial
theorem PySem.W.Fast.tw11165263067983395659 : True := trivial
theorem PySem.W.Fast.tw7911108382786535384 : True := trivial
theorem PySem.W.Fast.tw9458233713235320062 : True := trivial
theorem PySem.W.Fast.tw16928753364847557254 : True := trivial
theorem PySem.W.Fast.tw5990925077016628162 : True := trivial
theorem PySem.W.Fast.tw13352453464075376919 : True := trivial
theorem PySem.W.Fast.tw12579458800575298891 : True := trivial
theorem PySem.W.Fast.tw13003436606545579535 : True := trivial
theorem PySem.W.Fast.tw2370280510799153780 : True := trivial
theorem PySem.W.Fast.tw10346824741259735562 : True := trivial
theorem PySem.W.Fast.tw12736709113628430052 : True := trivial
theorem PySem.W.Fast.tw1705977905069282616 : True := trivial
theorem PySem.W.Fast.tw463940324564065342 : True := trivial
theorem PySem.W.Fast.tw15555434378563968446 : True := trivial
theorem PySem.W.Fast.tw18351929713085963541 : True := trivial
theorem PySem.W.Fast.tw1510860517881344740 : True := trivial
theorem PySem.W.Fast.tw6068766908310196372 : True := trivial
theorem PySem.W.Fast.tw15536347007369594161 : True := trivial
theorem PySem.W.Fast.tw16823671199322371926 : True := trivial
theorem PySem.W.Fast.tw9737594001171962390 : True := trivial
theorem PySem.W.Fast.tw14469006125420284366 : True := trivial
theorem PySem.W.Fast.tw1302610195418827177 : True := trivial
theorem PySem.W.Fast.tw13164104784740788066 : True := trivial
theorem PySem.W.Fast.tw710962498022501307 : True := trivial
theorem PySem.W.Fast.tw14932371055034605667 : True := trivial
theorem PySem.W.Fast.tw2591711973180708760 : True := trivial
theorem PySem.W.Fast.tw13345418574426336377 : True := trivial
theorem PySem.W.Fast.tw11838397924592533363 : True := trivial
theorem PySem.W.Fast.tw16091388495555680117 : True := trivial
theorem PySem.W.Fast.tw14313651450232195792 : True := trivial
theorem PySem.W.Fast.tw9767585067786764497 : True := trivial
theorem PySem.W.Fast.tw15431219916269230464 : True := trivial
theorem PySem.W.Fast.tw17805018602740272246 : True := trivial
theorem PySem.W.Fast.tw6694112587592024065 : True := trivial
theorem PySem.W.Fast.tw2995408790332337299 : True := trivial
theorem PySem.W.Fast.tw11232894181952131195 : True := trivial
theorem PySem.W.Fast.tw4222405748600918641 : True := trivial
theorem PySem.W.Fast.tw4609701695388182349 : True := trivial
theorem PySem.W.Fast.tw15333677909714214934 : True := trivial
theorem PySem.W.Fast.tw1885313476017456225 : True := trivial
theorem PySem.W.Fast.tw10748884074792994076 : True := trivial
theorem PySem.W.Fast.tw15784790641476861435 : True := trivial
theorem PySem.W.Fast.tw3695989300106104420 : True := trivial
theorem PySem.W.Fast.tw13679488354450247005 : True := trivial
theorem PySem.W.Fast.tw15331553568307871288 : True := trivial
theorem PySem.W.Fast.tw17761733001696330986 : True := trivial
theorem PySem.W.Fast.tw11583044626519321988 : True := trivial
theorem PySem.W.Fast.tw12472817290688087275 : True := trivial
theorem PySem.W.Fast.tw1018037533984186598 : True := trivial
theorem PySem.W.Fast.tw6133067447742467942 : True := trivial
theorem PySem.W.Fast.tw10287262052724374576 : True := trivial
theorem PySem.W.Fast.tw2391769136569496101 : True := trivial
theorem PySem.W.Fast.tw4413021604747224638 : True := trivial
theorem PySem.W.Fast.tw13621068715225077379 : True := trivial
theorem PySem.W.Fast.tw7409283812983507848 : True := trivial
theorem PySem.W.Fast.tw5760825937561150926 : True := trivial
theorem PySem.W.Fast.tw17762444652727253997 : True := trivial
theorem PySem.W.Fast.tw5265417194895124182 : True := trivial
theorem PySem.W.Fast.tw12587546479522137649 : True := trivial
theorem PySem.W.Fast.tw13754082437435741452 : True := trivial
theorem PySem.W.Fast.tw3664469990078450921 : True := trivial
theorem PySem.W.Fast.tw9310692938249869575 : True := trivial
theorem PySem.W.Fast.tw10885896465041430013 : True := trivial
theorem PySem.W.Fast.tw3894071971628688335 : True := trivial
theorem PySem.W.Fast.tw5824504959432644828 : True := trivial
theorem PySem.W.Fast.tw4899781685381077862 : True := trivial
theorem PySem.W.Fast.tw1443225862677698149 : True := trivial
theorem PySem.W.Fast.tw4801953748287372450 : True := trivial
theorem PySem.W.Fast.tw14910096848056740865 : True := trivial
theorem PySem.W.Fast.tw975576026468588769 : True := trivial
theorem PySem.W.Fast.tw14394341428619444889 : True := trivial
theorem PySem.W.Fast.tw14724864121882312770 : True := trivial
theorem PySem.W.Fast.tw15600155706835842811 : True := trivial
theorem PySem.W.Fast.tw11812059707528966419 : True := trivial
theorem PySem.W.Fast.tw1847058386658682671 : True := trivial
theorem PySem.W.Fast.tw6599178381146458916 : True := trivial
theorem PySem.W.Fast.tw15956802561432261135 : True := trivial
theorem PySem.W.Fast.tw4761481212160419166 : True := trivial
theorem PySem.W.Fast.tw2198091310359702733 : True := trivial
theorem PySem.W.Fast.tw6596106317783737483 : True := trivial
theorem PySem.W.Fast.tw10866288070301618188 : True := trivial
theorem PySem.W.Fast.tw12188705059834031450 : True := trivial
theorem PySem.W.Fast.tw1644564319505269524 : True := trivial
theorem PySem.W.Fast.tw16744391207612675795 : True := trivial
theorem PySem.W.Fast.tw14034548025462483422 : True := trivial
theorem PySem.W.Fast.tw9914642071113976456 : True := trivial
theorem PySem.W.Fast.tw18202431714361982631 : True := trivial
theorem PySem.W.Fast.tw8099697668153235517 : True := trivial
theorem PySem.W.Fast.tw2427767366126736137 : True := trivial
theorem PySem.W.Fast.tw14765223954922527164 : True := trivial
theorem PySem.W.Fast.tw17930174110618583021 : True := trivial
theorem PySem.W.Fast.tw14603492126867251717 : True := trivial
theorem PySem.W.Fast.tw4056078981281295835 : True := trivial
theorem PySem.W.Fast.tw4480848011148671722 : True := trivial
theorem PySem.W.Fast.tw6921399921783160689 : True := trivial
theorem PySem.W.Fast.tw5151704452108822185 : True := trivial
theorem PySem.W.Fast.tw10636304567800688196 : True := trivial
theorem PySem.W.Fast.tw1906957864841636882 : True := trivial
theorem PySem.W.Fast.tw4863115304533895235 : True := trivial
theorem PySem.W.Fast.tw16279510971370458196 : True := trivial
theorem PySem.W.Fast.tw6166945714855864263 : True := trivial
theorem PySem.W.Fast.tw9037119734205243764 : True := trivial
theorem PySem.W.Fast.tw15803455605351619368 : True := trivial
theorem PySem.W.Fast.tw13185959211997486696 : True := trivial
theorem PySem.W.Fast.tw10574197155974192600 : True := trivial
theorem PySem.W.Fast.tw3098709266869809272 : True := trivial
theorem PySem.W.Fast.tw3730342736288615073 : True := trivial
theorem PySem.W.Fast.tw11670442518824781027 : True := trivial
theorem PySem.W.Fast.tw3503572137134261573 : True := trivial
theorem PySem.W.Fast.tw2204369326875009766 : True := trivial
theorem PySem.W.Fast.tw3657820324659142624 : True := trivial
theorem PySem.W.Fast.tw18224461664849949192 : True := trivial
theorem PySem.W.Fast.tw9244552428493903523 : True := trivial
theorem PySem.W.Fast.tw2265312924940611910 : True := trivial
theorem PySem.W.Fast.tw9153915002908666757 : True := trivial
theorem PySem.W.Fast.tw2678733694308795472 : True := trivial
theorem PySem.W.Fast.tw9648808834393864660 : True := trivial
theorem PySem.W.Fast.tw12682882921755764713 : True := trivial
theorem PySem.W.Fast.tw6681021054856890950 : True := trivial
theorem PySem.W.Fast.tw15364079240701227423 : True := trivial
theorem PySem.W.Fast.tw4324611481749921162 : True := trivial
theorem PySem.W.Fast.tw11000943395913937620 : True := trivial
theorem PySem.W.Fast.tw14402819940362290585 : True := trivial
theorem PySem.W.Fast.tw3460863228335484347 : True := trivial
theorem PySem.W.Fast.tw3911101070451512135 : True := trivial
theorem PySem.W.Fast.tw2458144546817504857 : True := trivial
theorem PySem.W.Fast.tw7625685942177595235 : True := trivial
theorem PySem.W.Fast.tw12072648749021679233 : True := trivial
theorem PySem.W.Fast.tw13117054382147806783 : True := trivial
theorem PySem.W.Fast.tw2942699699904904226 : True := trivial
theorem PySem.W.Fast.tw80703294721138813 : True := trivial
theorem PySem.W.Fast.tw8014167512298455032 : True := trivial
theorem PySem.W.Fast.tw6683591929336489387 : True := trivial
theorem PySem.W.Fast.tw16818990455302902744 : True := trivial
theorem PySem.W.Fast.tw986415811613451593 : True := trivial
theorem PySem.W.Fast.tw16456038741052874804 : True := trivial
theorem PySem.W.Fast.tw14833393007328412568 : True := trivial
theorem PySem.W.Fast.tw5691681585578491309 : True := trivial
theorem PySem.W.Fast.tw12273685964228056469 : True := trivial
theorem PySem.W.Fast.tw6461101322456645732 : True := trivial
theorem PySem.W.Fast.tw13323648914678925106 : True := trivial
theorem PySem.W.Fast.tw31626877329280865 : True := trivial
theorem PySem.W.Fast.tw13658072720634999173 : True := trivial
theorem PySem.W.Fast.tw5485879936785223504 : True := trivial
theorem PySem.W.Fast.tw12211587641896724519 : True := trivial
theorem PySem.W.Fast.tw6318677092609034448 : True := trivial
theorem PySem.W.Fast.tw8324488071364590050 : True := trivial
theorem PySem.W.Fast.tw6495071078516415935 : True := trivial
theorem PySem.W.Fast.tw16472304683759215353 : True := trivial
theorem PySem.W.Fast.tw785533295197165808 : True := trivial
theorem PySem.W.Fast.tw18373797438958462148 : True := trivial
theorem PySem.W.Fast.tw2816247497613270235 : True := trivial
theorem PySem.W.Fast.tw16731573571098260019 : True := trivial
theorem PySem.W.Fast.tw10569478800659304264 : True := trivial
theorem PySem.W.Fast.tw5427702907905181573 : True := trivial
theorem PySem.W.Fast.tw10259471185336614888 : True := trivial
theorem PySem.W.Fast.tw17513754063828457842 : True := trivial
theorem PySem.W.Fast.tw3729737316218177212 : True := trivial
theorem PySem.W.Fast.tw1803707003275047799 : True := trivial
theorem PySem.W.Fast.tw8448610069452461619 : True := trivial
theorem PySem.W.Fast.tw14090790695557972593 : True := trivial
theorem PySem.W.Fast.tw5365699827913924592 : True := trivial
theorem PySem.W.Fast.tw6760973765089999591 : True := trivial
theorem PySem.W.Fast.tw15923734172216144395 : True := trivial
theorem PySem.W.Fast.tw4324354768468192236 : True := trivial
theorem PySem.W.Fast.tw14536833010218256345 : True := trivial
theorem PySem.W.Fast.tw13122884560811539705 : True := trivial
theorem PySem.W.Fast.tw13842257763810993397 : True := trivial
theorem PySem.W.Fast.tw8531538097203649115 : True := trivial
theorem PySem.W.Fast.tw10162299838174969903 : True := trivial
theorem PySem.W.Fast.tw11523106567511030548 : True := trivial
theorem PySem.W.Fast.tw3114701842938480940 : True := trivial
theorem PySem.W.Fast.tw4973100029791296821 : True := trivial
theorem PySem.W.Fast.tw17303877882472792335 : True := trivial
theorem PySem.W.Fast.tw710417920200677504 : True := trivial
theorem PySem.W.Fast.tw12267071344618768145 : True := trivial
theorem PySem.W.Fast.tw9266777017355296911 : True := trivial
theorem PySem.W.Fast.tw8030335125174210987 : True := trivial
theorem PySem.W.Fast.tw11383168479108479308 : True := trivial
theorem PySem.W.Fast.tw16639187035892988268 : True := trivial
theorem PySem.W.Fast.tw4178922175952775205 : True := trivial
theorem PySem.W.Fast.tw1796504058257845434 : True := trivial
theorem PySem.W.Fast.tw3747558300422891707 : True := trivial
theorem PySem.W.Fast.tw9457963351840071574 : True := trivial
theorem PySem.W.Fast.tw2495950537062268347 : True := trivial
theorem PySem.W.Fast.tw7087075094240549614 : True := trivial
theorem PySem.W.Fast.tw5924462380882860876 : True := trivial
theorem PySem.W.Fast.tw1695616141476602279 : True := trivial
theorem PySem.W.Fast.tw525502952364440148 : True := trivial
theorem PySem.W.Fast.tw1063052403051716791 : True := trivial
theorem PySem.W.Fast.tw1709350355768202205 : True := trivial
theorem PySem.W.Fast.tw8899081828808191220 : True := trivial
theorem PySem.W.Fast.tw4505107498602321498 : True := trivial
theorem PySem.W.Fast.tw5826197339703811495 : True := trivial
theorem PySem.W.Fast.tw17410962075921700567 : True := trivial
theorem PySem.W.Fast.tw18341086961771588878 : True := trivial
theorem PySem.W.Fast.tw4314944147015176813 : True := trivial
theorem PySem.W.Fast.tw2135617304016574869 : True := trivial
theorem PySem.W.Fast.tw11395820678010086175 : True := trivial
theorem PySem.W.Fast.tw9515474521951024302 : True := trivial
theorem PySem.W.Fast.tw4879817906098059036 : True := trivial
theorem PySem.W.Fast.tw15300079277672610331 : True := trivial
theorem PySem.W.Fast.tw6321993827569708861 : True := trivial
theorem PySem.W.Fast.tw1308669812669878696 : True := trivial
theorem PySem.W.Fast.tw16840795384521095847 : True := trivial
theorem PySem.W.Fast.tw4262059428309642878 : True := trivial
theorem PySem.W.Fast.tw8971119178090514809 : True := trivial
theorem PySem.W.Fast.tw3174226853049059802 : True := trivial
theorem PySem.W.Fast.tw18229312370077567892 : True := trivial
theorem PySem.W.Fast.tw16355217331325083633 : True := trivial
theorem PySem.W.Fast.tw5447761468584721821 : True := trivial
theorem PySem.W.Fast.tw1978206335955531977 : True := trivial
theorem PySem.W.Fast.tw8661800199022263326 : True := trivial
theorem PySem.W.Fast.tw5124275494509837635 : True := trivial
theorem PySem.W.Fast.tw9936167765245940083 : True := trivial
theorem PySem.W.Fast.tw3491219559071636918 : True := trivial
theorem PySem.W.Fast.tw3948623829293484964 : True := trivial
theorem PySem.W.Fast.tw8341883523131945341 : True := trivial
theorem PySem.W.Fast.tw2889565149147240129 : True := trivial
theorem PySem.W.Fast.tw1031290943234094638 : True := trivial
theorem PySem.W.Fast.tw2973133715949701228 : True := trivial
theorem PySem.W.Fast.tw17440346543901068804 : True := trivial
theorem PySem.W.Fast.tw10622660544372828483 : True := trivial
theorem PySem.W.Fast.tw16148152777699911 : True := trivial
theorem PySem.W.Fast.tw17926936697547375655 : True := trivial
theorem PySem.W.Fast.tw2467074628843524776 : True := trivial
theorem PySem.W.Fast.tw8526650073640292393 : True := trivial
theorem PySem.W.Fast.tw13623236337522260586 : True := trivial
theorem PySem.W.Fast.tw15884216957030490897 : True := trivial
theorem PySem.W.Fast.tw590460485659873698 : True := trivial
theorem PySem.W.Fast.tw17914848074181535597 : True := trivial
theorem PySem.W.Fast.tw379940638022215993 : True := trivial
theorem PySem.W.Fast.tw5711471661298589513 : True := trivial
theorem PySem.W.Fast.tw14938167456692555729 : True := trivial
theorem PySem.W.Fast.tw5289509812033945341 : True := trivial
theorem PySem.W.Fast.tw493221826896943276 : True := trivial
theorem PySem.W.Fast.tw14282468656681787105 : True := trivial
theorem PySem.W.Fast.tw2370496463315449126 : True := trivial
theorem PySem.W.Fast.tw10079908577704725972 : True := trivial
theorem PySem.W.Fast.tw18435486061412734223 : True := trivial
theorem PySem.W.Fast.tw14787547218455690340 : True := trivial
theorem PySem.W.Fast.tw7151277743417168051 : True := trivial
theorem PySem.W.Fast.tw3553843241699549215 : True := trivial
theorem PySem.W.Fast.tw14327326775725886857 : True := trivial
theorem PySem.W.Fast.tw14144808021167535276 : True := trivial
theorem PySem.W.Fast.tw14148369145677048372 : True := trivial
theorem PySem.W.Fast.tw14851516834215423173 : True := trivial
theorem PySem.W.Fast.tw2702178043271505998 : True := trivial
theorem PySem.W.Fast.tw11819326360075989155 : True := trivial
theorem PySem.W.Fast.tw1984459429271366583 : True := trivial
theorem PySem.W.Fast.tw14853099059051587861 : True := trivial
theorem PySem.W.Fast.tw10089735926481738595 : True := trivial
theorem PySem.W.Fast.tw4783676743802856571 : True := trivial
theorem PySem.W.Fast.tw11610018271891192367 : True := trivial
theorem PySem.W.Fast.tw13681503474612005711 : True := trivial
theorem PySem.W.Fast.tw9323840136895226707 : True := trivial
theorem PySem.W.Fast.tw10459574920158783654 : True := trivial
theorem PySem.W.Fast.tw799486556980287966 : True := trivial
theorem PySem.W.Fast.tw2644675386802522953 : True := trivial
theorem PySem.W.Fast.tw5197833319929663930 : True := trivial
theorem PySem.W.Fast.tw2317522958136799570 : True := trivial
theorem PySem.W.Fast.tw14674060691705237761 : True := trivial
theorem PySem.W.Fast.tw6487205412206729072 : True := trivial
theorem PySem.W.Fast.tw10971682344493891400 : True := trivial
theorem PySem.W.Fast.tw5849006775391854341 : True := trivial
theorem PySem.W.Fast.tw13151592085042747794 : True := trivial
theorem PySem.W.Fast.tw11581693596090378261 : True := trivial
theorem PySem.W.Fast.tw12981103762851032607 : True := trivial
theorem PySem.W.Fast.tw11729830341337290716 : True := trivial
theorem PySem.W.Fast.tw3695758507472541879 : True := trivial
theorem PySem.W.Fast.tw11486960043079695327 : True := trivial
theorem PySem.W.Fast.tw5327504893798344154 : True := trivial
theorem PySem.W.Fast.tw15035023057461671509 : True := trivial
theorem PySem.W.Fast.tw4873904922416670268 : True := trivial
theorem PySem.W.Fast.tw2012064226347441170 : True := trivial
theorem PySem.W.Fast.tw5246676564399316025 : True := trivial
theorem PySem.W.Fast.tw8365676961622058170 : True := trivial
theorem PySem.W.Fast.tw4871384798094077244 : True := trivial
theorem PySem.W.Fast.tw14472577740224342376 : True := trivial
theorem PySem.W.Fast.tw16077223498570139456 : True := trivial
theorem PySem.W.Fast.tw13132889252733830500 : True := trivial
theorem PySem.W.Fast.tw11040887297811510983 : True := trivial
theorem PySem.W.Fast.tw16460232327303532705 : True := trivial
theorem PySem.W.Fast.tw12679254830274047110 : True := trivial
theorem PySem.W.Fast.tw12081089900324920558 : True := trivial
theorem PySem.W.Fast.tw10272021181996186652 : True := trivial
theorem PySem.W.Fast.tw8931501104313076532 : True := trivial
theorem PySem.W.Fast.tw11979505557634934770 : True := trivial
theorem PySem.W.Fast.tw5770932794009777931 : True := trivial
theorem PySem.W.Fast.tw5777884956552368177 : True := trivial
theorem PySem.W.Fast.tw18347078375881793451 : True := trivial
theorem PySem.W.Fast.tw1310041041756879873 : True := trivial
theorem PySem.W.Fast.tw5459125288264291350 : True := trivial
theorem PySem.W.Fast.tw13636075820531883355 : True := trivial
theorem PySem.W.Fast.tw6673598023426146251 : True := trivial
theorem PySem.W.Fast.tw1422157528844010962 : True := trivial
theorem PySem.W.Fast.tw16044844559295816697 : True := trivial
theorem PySem.W.Fast.tw10615881385623340669 : True := trivial
theorem PySem.W.Fast.tw12047567885136659592 : True := trivial
theorem PySem.W.Fast.tw14046236613181732786 : True := trivial
theorem PySem.W.Fast.tw10190578498644322813 : True := trivial
theorem PySem.W.Fast.tw16544411747879470891 : True := trivial
theorem PySem.W.Fast.tw13382056914901532286 : True := trivial
theorem PySem.W.Fast.tw15731161796995759741 : True := trivial
theorem PySem.W.Fast.tw13268261195179852188 : True := trivial
theorem PySem.W.Fast.tw3320371692406410577 : True := trivial
theorem PySem.W.Fast.tw5010460137144736944 : True := trivial
theorem PySem.W.Fast.tw2504364016793816624 : True := trivial
theorem PySem.W.Fast.tw7521007069584156290 : True := trivial
theorem PySem.W.Fast.tw7033519133774302817 : True := trivial
theorem PySem.W.Fast.tw1733039930768295261 : True := trivial
theorem PySem.W.Fast.tw8809589416936172719 : True := trivial
theorem PySem.W.Fast.tw1526941258742169740 : True := trivial
theorem PySem.W.Fast.tw10771348877290074827 : True := trivial
theorem PySem.W.Fast.tw7787234035080698808 : True := trivial
theorem PySem.W.Fast.tw6021245233298106238 : True := trivial
theorem PySem.W.Fast.tw4899980725241403462 : True := trivial
theorem PySem.W.Fast.tw13048752471661995726 : True := trivial
theorem PySem.W.Fast.tw11796198615915099340 : True := trivial
theorem PySem.W.Fast.tw18394067528501737007 : True := trivial
theorem PySem.W.Fast.tw16615977391021039648 : True := trivial
theorem PySem.W.Fast.tw3222695113646371110 : True := trivial
theorem PySem.W.Fast.tw5287074125024990733 : True := trivial
theorem PySem.W.Fast.tw1276818170489443283 : True := trivial
theorem PySem.W.Fast.tw11746134590463753654 : True := trivial
theorem PySem.W.Fast.tw3719563122648963933 : True := trivial
theorem PySem.W.Fast.tw3503735252283664043 : True := trivial
theorem PySem.W.Fast.tw2039145562389288938 : True := trivial
theorem PySem.W.Fast.tw9063551225982514037 : True := trivial
theorem PySem.W.Fast.tw2092763794145613422 : True := trivial
theorem PySem.W.Fast.tw3751271264923823599 : True := trivial
theorem PySem.W.Fast.tw15377829894150451302 : True := trivial
theorem PySem.W.Fast.tw12000666832104036317 : True := trivial
theorem PySem.W.Fast.tw12991286825675069274 : True := trivial
theorem PySem.W.Fast.tw7423788637296016688 : True := trivial
theorem PySem.W.Fast.tw7544563687861082210 : True := trivial
theorem PySem.W.Fast.tw16209006661795140183 : True := trivial
theorem PySem.W.Fast.tw18002299165372538309 : True := trivial
theorem PySem.W.Fast.tw773812501040882345 : True := trivial
theorem PySem.W.Fast.tw9083402394755934038 : True := trivial
theorem PySem.W.Fast.tw14639874236649988876 : True := trivial
theorem PySem.W.Fast.tw10635690398488458532 : True := trivial
theorem PySem.W.Fast.tw3141999538444952978 : True := trivial
theorem PySem.W.Fast.tw4466210768631552531 : True := trivial
theorem PySem.W.Fast.tw13141543172040180312 : True := trivial
theorem PySem.W.Fast.tw2577475640322685179 : True := trivial
theorem PySem.W.Fast.tw1807095552423463760 : True := trivial
theorem PySem.W.Fast.tw1700594920011185609 : True := trivial
theorem PySem.W.Fast.tw9742067809617102837 : True := trivial
theorem PySem.W.Fast.tw16715837146452316123 : True := trivial
theorem PySem.W.Fast.tw6542828901770709290 : True := trivial
theorem PySem.W.Fast.tw447026176255077918 : True := trivial
theorem PySem.W.Fast.tw17246992159924653113 : True := trivial
theorem PySem.W.Fast.tw13120872763246367107 : True := trivial
theorem PySem.W.Fast.tw14088697391056670970 : True := trivial
theorem PySem.W.Fast.tw3058951800050426802 : True := trivial
theorem PySem.W.Fast.tw13073931505341824402 : True := trivial
theorem PySem.W.Fast.tw2260723034017902996 : True := trivial
theorem PySem.W.Fast.tw16960236552759342546 : True := trivial
theorem PySem.W.Fast.tw9591415633505070185 : True := trivial
theorem PySem.W.Fast.tw14679023632946582493 : True := trivial
theorem PySem.W.Fast.tw13495885171472313343 : True := trivial
theorem PySem.W.Fast.tw6950095304379154889 : True := trivial
theorem PySem.W.Fast.tw4392525776364621700 : True := trivial
theorem PySem.W.Fast.tw5912592479188540591 : True := trivial
theorem PySem.W.Fast.tw9093675516810322419 : True := trivial
theorem PySem.W.Fast.tw8638838944770274693 : True := trivial
theorem PySem.W.Fast.tw10914138468090339492 : True := trivial
theorem PySem.W.Fast.tw5458467352325143277 : True := trivial
theorem PySem.W.Fast.tw8689832204403569984 : True := trivial
theorem PySem.W.Fast.tw6233627400712942240 : True := trivial
theorem PySem.W.Fast.tw1361916257646994715 : True := trivial
theorem PySem.W.Fast.tw18284697954937486192 : True := trivial
theorem PySem.W.Fast.tw5922170844747527412 : True := trivial
theorem PySem.W.Fast.tw14771569280365337202 : True := trivial
theorem PySem.W.Fast.tw4800707477029972770 : True := trivial
theorem PySem.W.Fast.tw10491303927458285410 : True := trivial
theorem PySem.W.Fast.tw13268962537792276564 : True := trivial
theorem PySem.W.Fast.tw11852268342650442138 : True := trivial
theorem PySem.W.Fast.tw1251444392450864216 : True := trivial
theorem PySem.W.Fast.tw17384154215386749049 : True := trivial
theorem PySem.W.Fast.tw11467834097537074439 : True := trivial
theorem PySem.W.Fast.tw546601023273979390 : True := trivial
theorem PySem.W.Fast.tw16188182607920208709 : True := trivial
theorem PySem.W.Fast.tw6317641068821270904 : True := trivial
theorem PySem.W.Fast.tw4831593253806675321 : True := trivial
theorem PySem.W.Fast.tw14645437512381064441 : True := trivial
theorem PySem.W.Fast.tw5806370458921241229 : True := trivial
theorem PySem.W.Fast.tw14987679035028432848 : True := trivial
theorem PySem.W.Fast.tw2500305264531906855 : True := trivial
theorem PySem.W.Fast.tw6016927129255898745 : True := trivial
theorem PySem.W.Fast.tw3288784335011086559 : True := trivial
theorem PySem.W.Fast.tw6803688232796797681 : True := trivial
theorem PySem.W.Fast.tw15811576370408598017 : True := trivial
theorem PySem.W.Fast.tw3627032787816951733 : True := trivial
theorem PySem.W.Fast.tw2616348028804990041 : True := trivial
theorem PySem.W.Fast.tw761013515181456698 : True := trivial
theorem PySem.W.Fast.tw14781637883868240015 : True := trivial
theorem PySem.W.Fast.tw1787460820210091773 : True := trivial
theorem PySem.W.Fast.tw1789196649846367259 : True := trivial
theorem PySem.W.Fast.tw10718837325766644278 : True := trivial
theorem PySem.W.Fast.tw13381617693724146831 : True := trivial
theorem PySem.W.Fast.tw11259518938905042216 : True := trivial
theorem PySem.W.Fast.tw18370496853480381716 : True := trivial
theorem PySem.W.Fast.tw9615021790937384831 : True := trivial
theorem PySem.W.Fast.tw16887549462270418367 : True := trivial
theorem PySem.W.Fast.tw3048335298670062954 : True := trivial
theorem PySem.W.Fast.tw4191020593166333397 : True := trivial
theorem PySem.W.Fast.tw5217668929187772666 : True := trivial
theorem PySem.W.Fast.tw8702873562938215289 : True := trivial
theorem PySem.W.Fast.tw3884536732472581757 : True := trivial
theorem PySem.W.Fast.tw10241027564076593849 : True := trivial
theorem PySem.W.Fast.tw215555161205024814 : True := trivial
theorem PySem.W.Fast.tw12860064991074703147 : True := trivial
theorem PySem.W.Fast.tw15447339579361524428 : True := trivial
theorem PySem.W.Fast.tw8605863705915619373 : True := trivial
theorem PySem.W.Fast.tw8544565792401129582 : True := trivial
theorem PySem.W.Fast.tw151311932939145095 : True := trivial
theorem PySem.W.Fast.tw15132152588307734437 : True := trivial
theorem PySem.W.Fast.tw12843455257726951963 : True := trivial
theorem PySem.W.Fast.tw746091173659879176 : True := trivial
theorem PySem.W.Fast.tw6187902662405932451 : True := trivial
theorem PySem.W.Fast.tw17212403249993120772 : True := trivial
theorem PySem.W.Fast.tw8678471377339820247 : True := trivial
theorem PySem.W.Fast.tw4476722042055484371 : True := trivial
theorem PySem.W.Fast.tw3606024519824326802 : True := trivial
theorem PySem.W.Fast.tw5548177481567530406 : True := trivial
theorem PySem.W.Fast.tw136378791552146944 : True := trivial
theorem PySem.W.Fast.tw9913573016733029939 : True := trivial
theorem PySem.W.Fast.tw13555360290104549427 : True := trivial
theorem PySem.W.Fast.tw1980945771918370610 : True := trivial
theorem PySem.W.Fast.tw6672856225997435562 : True := trivial
theorem PySem.W.Fast.tw11174707073481002107 : True := trivial
theorem PySem.W.Fast.tw4647116835700558982 : True := trivial
theorem PySem.W.Fast.tw6221277829606127046 : True := trivial
theorem PySem.W.Fast.tw8970837590722906089 : True := trivial
theorem PySem.W.Fast.tw12872922934472009885 : True := trivial
theorem PySem.W.Fast.tw8852679178094486512 : True := trivial
theorem PySem.W.Fast.tw11021393479029072769 : True := trivial
theorem PySem.W.Fast.tw8531628295944426201 : True := trivial
theorem PySem.W.Fast.tw3834881384044380868 : True := trivial
theorem PySem.W.Fast.tw8287345165157788445 : True := trivial
theorem PySem.W.Fast.tw4637523349041302148 : True := trivial
theorem PySem.W.Fast.tw8237252316103367940 : True := trivial
theorem PySem.W.Fast.tw9425649397672032741 : True := trivial
theorem PySem.W.Fast.tw199866743275309946 : True := trivial
theorem PySem.W.Fast.tw3000055603452721379 : True := trivial
theorem PySem.W.Fast.tw13348534744001966318 : True := trivial
theorem PySem.W.Fast.tw14035928395547984132 : True := trivial
theorem PySem.W.Fast.tw5868720841535806347 : True := trivial
theorem PySem.W.Fast.tw18006152735914856333 : True := trivial
theorem PySem.W.Fast.tw990468924709538497 : True := trivial
theorem PySem.W.Fast.tw8180466665518635899 : True := trivial
theorem PySem.W.Fast.tw126912531258675860 : True := trivial
theorem PySem.W.Fast.tw18081984770569165832 : True := trivial
theorem PySem.W.Fast.tw7746559906352551444 : True := trivial
theorem PySem.W.Fast.tw2242756162671769477 : True := trivial
theorem PySem.W.Fast.tw4008857869993524578 : True := trivial
theorem PySem.W.Fast.tw8617350260550787141 : True := trivial
theorem PySem.W.Fast.tw18250931045668337182 : True := trivial
theorem PySem.W.Fast.tw4346647634110321367 : True := trivial
theorem PySem.W.Fast.tw12904742930940380386 : True := trivial
theorem PySem.W.Fast.tw1532429020609147384 : True := trivial
theorem PySem.W.Fast.tw7813417863627187824 : True := trivial
theorem PySem.W.Fast.tw3834466117010957092 : True := trivial
theorem PySem.W.Fast.tw14586551200935207637 : True := trivial
theorem PySem.W.Fast.tw13101470199431743862 : True := trivial
theorem PySem.W.Fast.tw485491040616070484 : True := trivial
theorem PySem.W.Fast.tw810260412649037624 : True := trivial
theorem PySem.W.Fast.tw8055053378553994685 : True := trivial
theorem PySem.W.Fast.tw5802748396923738437 : True := trivial
theorem PySem.W.Fast.tw6203186785400692123 : True := trivial
theorem PySem.W.Fast.tw11224835952688538427 : True := trivial
theorem PySem.W.Fast.tw15930624565486777477 : True := trivial
theorem PySem.W.Fast.tw14232468827491572206 : True := trivial
theorem PySem.W.Fast.tw8494337457643055016 : True := trivial
theorem PySem.W.Fast.tw13679253953927338584 : True := trivial
theorem PySem.W.Fast.tw1416088093841274407 : True := trivial
theorem PySem.W.Fast.tw7631658421199648640 : True := trivial
theorem PySem.W.Fast.tw17969228934311245058 : True := trivial
theorem PySem.W.Fast.tw18227555076190964671 : True := trivial
theorem PySem.W.Fast.tw14870125290374678367 : True := trivial
theorem PySem.W.Fast.tw7561314541530589668 : True := trivial
theorem PySem.W.Fast.tw15918254910330412506 : True := trivial
theorem PySem.W.Fast.tw15803905181980990484 : True := trivial
theorem PySem.W.Fast.tw8463382091142241328 : True := trivial
theorem PySem.W.Fast.tw16312952053309553250 : True := trivial
theorem PySem.W.Fast.tw16966447896527810633 : True := trivial
theorem PySem.W.Fast.tw5911867535379258993 : True := trivial
theorem PySem.W.Fast.tw14315498699072054849 : True := trivial
theorem PySem.W.Fast.tw17036424118399955592 : True := trivial
theorem PySem.W.Fast.tw15337104893855612613 : True := trivial
theorem PySem.W.Fast.tw15284644641496063265 : True := trivial
theorem PySem.W.Fast.tw15520673188996244728 : True := trivial
theorem PySem.W.Fast.tw2608918978565795609 : True := trivial
theorem PySem.W.Fast.tw1284314602924831434 : True := trivial
theorem PySem.W.Fast.tw16027455972266164543 : True := trivial
theorem PySem.W.Fast.tw9186003450064879202 : True := trivial
theorem PySem.W.Fast.tw13270920868013496819 : True := trivial
theorem PySem.W.Fast.tw8356317935887549850 : True := trivial
theorem PySem.W.Fast.tw6878205460138420052 : True := trivial
theorem PySem.W.Fast.tw6396215637664997421 : True := trivial
theorem PySem.W.Fast.tw5915127326232044504 : True := trivial
theorem PySem.W.Fast.tw14394227092593311098 : True := trivial
theorem PySem.W.Fast.tw16850050827532948433 : True := trivial
theorem PySem.W.Fast.tw9765476075944340696 : True := trivial
theorem PySem.W.Fast.tw971846049762809047 : True := trivial
theorem PySem.W.Fast.tw15020649307087064235 : True := trivial
theorem PySem.W.Fast.tw12169438102881450817 : True := trivial
theorem PySem.W.Fast.tw4049354722905658528 : True := trivial
theorem PySem.W.Fast.tw3490669940552845835 : True := trivial
theorem PySem.W.Fast.tw15283487161309855738 : True := trivial
theorem PySem.W.Fast.tw16316167732457322776 : True := trivial
theorem PySem.W.Fast.tw4498264809069078339 : True := trivial
theorem PySem.W.Fast.tw3367157793992612653 : True := trivial
theorem PySem.W.Fast.tw7880242479216182652 : True := trivial
theorem PySem.W.Fast.tw14837927511332098303 : True := trivial
theorem PySem.W.Fast.tw7356923589423590706 : True := trivial
theorem PySem.W.Fast.tw16420889187105857819 : True := trivial
theorem PySem.W.Fast.tw11277132495858445406 : True := trivial
theorem PySem.W.Fast.tw15154138515817925530 : True := trivial
theorem PySem.W.Fast.tw1469270838232422060 : True := trivial
theorem PySem.W.Fast.tw18269312385708993505 : True := trivial
theorem PySem.W.Fast.tw7284361970735878461 : True := trivial
theorem PySem.W.Fast.tw8683828207134065347 : True := trivial
theorem PySem.W.Fast.tw9267196134912059561 : True := trivial
theorem PySem.W.Fast.tw8262292092622452627 : True := trivial
theorem PySem.W.Fast.tw5674029000143184198 : True := trivial
theorem PySem.W.Fast.tw15854919113646033512 : True := trivial
theorem PySem.W.Fast.tw9770279892142010994 : True := trivial
theorem PySem.W.Fast.tw9592147070002445830 : True := trivial
theorem PySem.W.Fast.tw17263336342490104859 : True := trivial
theorem PySem.W.Fast.tw10040074420528067280 : True := trivial
theorem PySem.W.Fast.tw11741184025652572113 : True := trivial
theorem PySem.W.Fast.tw11626484751488980072 : True := trivial
theorem PySem.W.Fast.tw7184627796286662861 : True := trivial
theorem PySem.W.Fast.tw8908619289675012934 : True := trivial
theorem PySem.W.Fast.tw9419662994826233642 : True := trivial
theorem PySem.W.Fast.tw14042327357654645830 : True := trivial
theorem PySem.W.Fast.tw16300270994342911010 : True := trivial
theorem PySem.W.Fast.tw10272136096208852987 : True := trivial
theorem PySem.W.Fast.tw6885148912273262899 : True := trivial
theorem PySem.W.Fast.tw17428197473422351300 : True := trivial
theorem PySem.W.Fast.tw17060066271442716714 : True := trivial
theorem PySem.W.Fast.tw4348190188330379978 : True := trivial
theorem PySem.W.Fast.tw16627368294007291396 : True := trivial
theorem PySem.W.Fast.tw12888753497971699004 : True := trivial
theorem PySem.W.Fast.tw14515367925882803591 : True := trivial
theorem PySem.W.Fast.tw12977005361116305315 : True := trivial
theorem PySem.W.Fast.tw3638348779833437776 : True := trivial
theorem PySem.W.Fast.tw17546759872460806748 : True := trivial
theorem PySem.W.Fast.tw13514637192829157299 : True := trivial
theorem PySem.W.Fast.tw14226437903967273167 : True := trivial
theorem PySem.W.Fast.tw3131891159869902118 : True := trivial
theorem PySem.W.Fast.tw13798876370805124699 : True := trivial
theorem PySem.W.Fast.tw5661905135265844463 : True := trivial
theorem PySem.W.Fast.tw11711521088868660342 : True := trivial
theorem PySem.W.Fast.tw10719405261843368795 : True := trivial
theorem PySem.W.Fast.tw7920059718164697761 : True := trivial
theorem PySem.W.Fast.tw839965540340342858 : True := trivial
theorem PySem.W.Fast.tw8113102517642095668 : True := trivial
theorem PySem.W.Fast.tw17314137211956771029 : True := trivial
theorem PySem.W.Fast.tw596262203273377221 : True := trivial
theorem PySem.W.Fast.tw4084083824248191654 : True := trivial
theorem PySem.W.Fast.tw15384874556479035760 : True := trivial
theorem PySem.W.Fast.tw1739531137051955050 : True := trivial
theorem PySem.W.Fast.tw9214054443833738364 : True := trivial
theorem PySem.W.Fast.tw11999955133351135056 : True := trivial
theorem PySem.W.Fast.tw18070140171176497597 : True := trivial
theorem PySem.W.Fast.tw15624584393730177390 : True := trivial
theorem PySem.W.Fast.tw4925886861415371014 : True := trivial
theorem PySem.W.Fast.tw15644655012440096297 : True := trivial
theorem PySem.W.Fast.tw14732278229105435035 : True := trivial
theorem PySem.W.Fast.tw18082246201737322912 : True := trivial
theorem PySem.W.Fast.tw13301428499665774389 : True := trivial
theorem PySem.W.Fast.tw1105377676148972547 : True := trivial
theorem PySem.W.Fast.tw7832049233521207408 : True := trivial
theorem PySem.W.Fast.tw13894479440995472365 : True := trivial
theorem PySem.W.Fast.tw14542563182198743764 : True := trivial
theorem PySem.W.Fast.tw13942676313897688015 : True := trivial
theorem PySem.W.Fast.tw11616991207304555637 : True := trivial
theorem PySem.W.Fast.tw10868519060542663092 : True := trivial
theorem PySem.W.Fast.tw11854108881669989617 : True := trivial
theorem PySem.W.Fast.tw7046529588033796913 : True := trivial
theorem PySem.W.Fast.tw10530056807557169678 : True := trivial
theorem PySem.W.Fast.tw14077000176812137976 : True := trivial
theorem PySem.W.Fast.tw4325851122650158800 : True := trivial
theorem PySem.W.Fast.tw770814110037646755 : True := trivial
theorem PySem.W.Fast.tw4201441554176472046 : True := trivial
theorem PySem.W.Fast.tw8679549688240452055 : True := trivial
theorem PySem.W.Fast.tw9416438904247950801 : True := trivial
theorem PySem.W.Fast.tw13868192735832758218 : True := trivial
theorem PySem.W.Fast.tw13397977541145712622 : True := trivial
theorem PySem.W.Fast.tw1135489551167234245 : True := trivial
theorem PySem.W.Fast.tw3274324210725643093 : True := trivial
theorem PySem.W.Fast.tw1011089960584107918 : True := trivial
theorem PySem.W.Fast.tw13021003847085082383 : True := trivial
theorem PySem.W.Fast.tw9645458623956245148 : True := trivial
theorem PySem.W.Fast.tw4896511959343317182 : True := trivial
theorem PySem.W.Fast.tw9874148314071971073 : True := trivial
theorem PySem.W.Fast.tw730724015673468942 : True := trivial
theorem PySem.W.Fast.tw5845035200426598549 : True := trivial
theorem PySem.W.Fast.tw3150419117619002096 : True := trivial
theorem PySem.W.Fast.tw15576516438339463652 : True := trivial
theorem PySem.W.Fast.tw15062892068609520676 : True := trivial
theorem PySem.W.Fast.tw11635830834945624812 : True := trivial
theorem PySem.W.Fast.tw703600966068201551 : True := trivial
theorem PySem.W.Fast.tw8063189181826550610 : True := trivial
theorem PySem.W.Fast.tw5070519795823216574 : True := trivial
theorem PySem.W.Fast.tw18193033797217998352 : True := trivial
theorem PySem.W.Fast.tw16892205298339875980 : True := trivial
theorem PySem.W.Fast.tw13743295953898998669 : True := trivial
theorem PySem.W.Fast.tw17008259451217835069 : True := trivial
theorem PySem.W.Fast.tw8588383561411222587 : True := trivial
theorem PySem.W.Fast.tw16504462231803811232 : True := trivial
theorem PySem.W.Fast.tw6997488704361792412 : True := trivial
theorem PySem.W.Fast.tw11780538467991055311 : True := trivial
theorem PySem.W.Fast.tw3182742319516232841 : True := trivial
theorem PySem.W.Fast.tw4801355848197014362 : True := trivial
theorem PySem.W.Fast.tw14318843277777596171 : True := trivial
theorem PySem.W.Fast.tw549319266391755079 : True := trivial
theorem PySem.W.Fast.tw10395348296931900850 : True := trivial
theorem PySem.W.Fast.tw15997146959304029675 : True := trivial
theorem PySem.W.Fast.tw15776273380511087587 : True := trivial
theorem PySem.W.Fast.tw17462802891134070533 : True := trivial
theorem PySem.W.Fast.tw10602790844490389888 : True := trivial
theorem PySem.W.Fast.tw17225802492468550898 : True := trivial
theorem PySem.W.Fast.tw6908782135649873856 : True := trivial
theorem PySem.W.Fast.tw9056168393744448620 : True := trivial
theorem PySem.W.Fast.tw10270944512319344299 : True := trivial
theorem PySem.W.Fast.tw5576410623652256783 : True := trivial
theorem PySem.W.Fast.tw5250455509037851773 : True := trivial
theorem PySem.W.Fast.tw17669341725005252331 : True := trivial
theorem PySem.W.Fast.tw6031723786116856363 : True := trivial
theorem PySem.W.Fast.tw6390972867602056750 : True := trivial
theorem PySem.W.Fast.tw6230308409864721528 : True := trivial
theorem PySem.W.Fast.tw9715715467303292768 : True := trivial
theorem PySem.W.Fast.tw17874245261270493407 : True := trivial
theorem PySem.W.Fast.tw8547149673998576259 : True := trivial
theorem PySem.W.Fast.tw15851087391612633067 : True := trivial
theorem PySem.W.Fast.tw17186255990099919018 : True := trivial
theorem PySem.W.Fast.tw6774152272873067090 : True := trivial
theorem PySem.W.Fast.tw1308891777712553358 : True := trivial
theorem PySem.W.Fast.tw13720666204455717142 : True := trivial
theorem PySem.W.Fast.tw4087137189293632281 : True := trivial
theorem PySem.W.Fast.tw15600865676364680471 : True := trivial
theorem PySem.W.Fast.tw8519411554057828431 : True := trivial
theorem PySem.W.Fast.tw17916172401494786266 : True := trivial
theorem PySem.W.Fast.tw17588381778309576537 : True := trivial
theorem PySem.W.Fast.tw9428127968840415082 : True := trivial
theorem PySem.W.Fast.tw12367576526245644041 : True := trivial
theorem PySem.W.Fast.tw16965475408777097584 : True := trivial
theorem PySem.W.Fast.tw15474133889979065638 : True := trivial
theorem PySem.W.Fast.tw4760654867396799186 : True := trivial
theorem PySem.W.Fast.tw4752817369813473745 : True := trivial
theorem PySem.W.Fast.tw10457101835027599087 : True := trivial
theorem PySem.W.Fast.tw14084408257620994989 : True := trivial
theorem PySem.W.Fast.tw13913372857516717494 : True := trivial
theorem PySem.W.Fast.tw1455377732638679351 : True := trivial
theorem PySem.W.Fast.tw3868007823465971466 : True := trivial
theorem PySem.W.Fast.tw14398932653544095731 : True := trivial
theorem PySem.W.Fast.tw1307603855482844020 : True := trivial
theorem PySem.W.Fast.tw12616636568003182056 : True := trivial
theorem PySem.W.Fast.tw9915280593882901761 : True := trivial
theorem PySem.W.Fast.tw10867491625552382407 : True := trivial
theorem PySem.W.Fast.tw3804975399426207541 : True := trivial
theorem PySem.W.Fast.tw16738688903196192254 : True := trivial
theorem PySem.W.Fast.tw17563640865976789267 : True := trivial
theorem PySem.W.Fast.tw14821086467338847174 : True := trivial
theorem PySem.W.Fast.tw15164989900852094062 : True := trivial
theorem PySem.W.Fast.tw8541272157423867104 : True := trivial
theorem PySem.W.Fast.tw17304158733332244905 : True := trivial
theorem PySem.W.Fast.tw13415656549059783297 : True := trivial
theorem PySem.W.Fast.tw4210085781899484235 : True := trivial
theorem PySem.W.Fast.tw4398189335579734112 : True := trivial
theorem PySem.W.Fast.tw3270291418450250591 : True := trivial
theorem PySem.W.Fast.tw17699284270154633306 : True := trivial
theorem PySem.W.Fast.tw3303608439584119215 : True := trivial
theorem PySem.W.Fast.tw6607646469345512297 : True := trivial
theorem PySem.W.Fast.tw9139131342388680734 : True := trivial
theorem PySem.W.Fast.tw12796988545866983679 : True := trivial
theorem PySem.W.Fast.tw4451429035597121762 : True := trivial
theorem PySem.W.Fast.tw15155971694265082465 : True := trivial
theorem PySem.W.Fast.tw14764842886328062792 : True := trivial
theorem PySem.W.Fast.tw8073542473216854410 : True := trivial
theorem PySem.W.Fast.tw7030428464679315436 : True := trivial
theorem PySem.W.Fast.tw3700212558324610411 : True := trivial
theorem PySem.W.Fast.tw10319478631489369061 : True := trivial
theorem PySem.W.Fast.tw14227592401412386698 : True := trivial
theorem PySem.W.Fast.tw14849228377707197861 : True := trivial
theorem PySem.W.Fast.tw117713110246877255 : True := trivial
theorem PySem.W.Fast.tw13465892228411340750 : True := trivial
theorem PySem.W.Fast.tw1106781604430679071 : True := trivial
theorem PySem.W.Fast.tw17351245827915808749 : True := trivial
theorem PySem.W.Fast.tw3219988115593423915 : True := trivial
theorem PySem.W.Fast.tw17795666186187782243 : True := trivial
theorem PySem.W.Fast.tw7485151200874674347 : True := trivial
theorem PySem.W.Fast.tw713178842372060837 : True := trivial
theorem PySem.W.Fast.tw1078569619754508779 : True := trivial
theorem PySem.W.Fast.tw1446378363201466183 : True := trivial
theorem PySem.W.Fast.tw11670603507685058938 : True := trivial
theorem PySem.W.Fast.tw5309294906909944915 : True := trivial
theorem PySem.W.Fast.tw5027092051248839029 : True := trivial
theorem PySem.W.Fast.tw16790743509477882562 : True := trivial
theorem PySem.W.Fast.tw18347331429140136785 : True := trivial
theorem PySem.W.Fast.tw2316218297804020716 : True := trivial
theorem PySem.W.Fast.tw7267722276058818003 : True := trivial
theorem PySem.W.Fast.tw10015735114383933384 : True := trivial
theorem PySem.W.Fast.tw1594404600675336473 : True := trivial
theorem PySem.W.Fast.tw14922350929284403798 : True := trivial
theorem PySem.W.Fast.tw733776033962102359 : True := trivial
theorem PySem.W.Fast.tw16656543565243121922 : True := trivial
theorem PySem.W.Fast.tw9735151967972187431 : True := trivial
theorem PySem.W.Fast.tw11871069671648011295 : True := trivial
theorem PySem.W.Fast.tw4197502633849654003 : True := trivial
theorem PySem.W.Fast.tw6067370738708772091 : True := trivial
theorem PySem.W.Fast.tw15112619824840684898 : True := trivial
theorem PySem.W.Fast.tw16584864263152767029 : True := trivial
theorem PySem.W.Fast.tw17800991265559653358 : True := trivial
theorem PySem.W.Fast.tw10879379975801364420 : True := trivial
theorem PySem.W.Fast.tw6519440076827207019 : True := trivial
theorem PySem.W.Fast.tw13427567617430905220 : True := trivial
theorem PySem.W.Fast.tw9879040944863571243 : True := trivial
theorem PySem.W.Fast.tw14771977405788410156 : True := trivial
theorem PySem.W.Fast.tw5367540558607069904 : True := trivial
theorem PySem.W.Fast.tw7438275961418647539 : True := trivial
theorem PySem.W.Fast.tw6454142903951295528 : True := trivial
theorem PySem.W.Fast.tw17991941919761909318 : True := trivial
theorem PySem.W.Fast.tw14825249003632106526 : True := trivial
theorem PySem.W.Fast.tw188614585439660920 : True := trivial
theorem PySem.W.Fast.tw6944166762083900154 : True := trivial
theorem PySem.W.Fast.tw4622706919126329878 : True := trivial
theorem PySem.W.Fast.tw2379721321315026399 : True := trivial
theorem PySem.W.Fast.tw7506759371468467114 : True := trivial
theorem PySem.W.Fast.tw3940185993701678884 : True := trivial
theorem PySem.W.Fast.tw9613250625210915099 : True := trivial
theorem PySem.W.Fast.tw8302645040215947750 : True := trivial
theorem PySem.W.Fast.tw14550881428384632707 : True := trivial
theorem PySem.W.Fast.tw11252583445493960914 : True := trivial
theorem PySem.W.Fast.tw16311554060473555817 : True := trivial
theorem PySem.W.Fast.tw1165635396375573077 : True := trivial
theorem PySem.W.Fast.tw6263188328748589116 : True := trivial
theorem PySem.W.Fast.tw5063329882061379810 : True := trivial
theorem PySem.W.Fast.tw8854737374642559048 : True := trivial
theorem PySem.W.Fast.tw955058352231399913 : True := trivial
theorem PySem.W.Fast.tw6037373742113368686 : True := trivial
theorem PySem.W.Fast.tw3100666107228095211 : True := trivial
theorem PySem.W.Fast.tw16988759135038402686 : True := trivial
theorem PySem.W.Fast.tw7586111252088029177 : True := trivial
theorem PySem.W.Fast.tw5573136818732176447 : True := trivial
theorem PySem.W.Fast.tw6587475100709981138 : True := trivial
theorem PySem.W.Fast.tw5875817335805296731 : True := trivial
theorem PySem.W.Fast.tw2794266256244033450 : True := trivial
theorem PySem.W.Fast.tw14407327005772006347 : True := trivial
theorem PySem.W.Fast.tw10831798681362700733 : True := trivial
theorem PySem.W.Fast.tw18030862485764687994 : True := trivial
theorem PySem.W.Fast.tw7834412564813816367 : True := trivial
theorem PySem.W.Fast.tw6231115924991008701 : True := trivial
theorem PySem.W.Fast.tw2423026561661760854 : True := trivial
theorem PySem.W.Fast.tw11314817357107137083 : True := trivial
theorem PySem.W.Fast.tw15395707715623787523 : True := trivial
theorem PySem.W.Fast.tw17245217517469539712 : True := trivial
theorem PySem.W.Fast.tw12985029019082735881 : True := trivial
theorem PySem.W.Fast.tw16217002368373102304 : True := trivial
theorem PySem.W.Fast.tw18315029035180860094 : True := trivial
theorem PySem.W.Fast.tw12932139469760276540 : True := trivial
theorem PySem.W.Fast.tw12809650541470679138 : True := trivial
theorem PySem.W.Fast.tw3942639565302804843 : True := trivial
theorem PySem.W.Fast.tw14981585302477954624 : True := trivial
theorem PySem.W.Fast.tw17422676770038937179 : True := trivial
theorem PySem.W.Fast.tw1801363992631499836 : True := trivial
theorem PySem.W.Fast.tw10081928960064632021 : True := trivial
theorem PySem.W.Fast.tw3417619772986747788 : True := trivial
theorem PySem.W.Fast.tw2206622522677438867 : True := trivial
theorem PySem.W.Fast.tw13075487273533212350 : True := trivial
theorem PySem.W.Fast.tw16998324640190802497 : True := trivial
theorem PySem.W.Fast.tw8384319517391730626 : True := trivial
theorem PySem.W.Fast.tw14783139444959786756 : True := trivial
theorem PySem.W.Fast.tw6854438771675703352 : True := trivial
theorem PySem.W.Fast.tw4004493247005434054 : True := trivial
theorem PySem.W.Fast.tw7601061305250252748 : True := trivial
theorem PySem.W.Fast.tw14230234679215217483 : True := trivial
theorem PySem.W.Fast.tw16615177137060333223 : True := trivial
theorem PySem.W.Fast.tw4523713010922803876 : True := trivial
theorem PySem.W.Fast.tw475199298483522842 : True := trivial
theorem PySem.W.Fast.tw1964113981706834606 : True := trivial
theorem PySem.W.Fast.tw3960074198976585834 : True := trivial
theorem PySem.W.Fast.tw9174386903072473562 : True := trivial
theorem PySem.W.Fast.tw773925602013576227 : True := trivial
theorem PySem.W.Fast.tw18007796833596920717 : True := trivial
theorem PySem.W.Fast.tw1824149006844971088 : True := trivial
theorem PySem.W.Fast.tw11237494636116078929 : True := trivial
theorem PySem.W.Fast.tw15523041293216880377 : True := trivial
theorem PySem.W.Fast.tw17058936952366683618 : True := trivial
theorem PySem.W.Fast.tw1499778327674911505 : True := trivial
theorem PySem.W.Fast.tw836160251401156184 : True := trivial
theorem PySem.W.Fast.tw14719341173748614482 : True := trivial
theorem PySem.W.Fast.tw9423882006059871522 : True := trivial
theorem PySem.W.Fast.tw10241386990057221408 : True := trivial
theorem PySem.W.Fast.tw17205824827154247473 : True := trivial
theorem PySem.W.Fast.tw18229655269245295967 : True := trivial
theorem PySem.W.Fast.tw14846607231683489147 : True := trivial
theorem PySem.W.Fast.tw18110880181025114987 : True := trivial
theorem PySem.W.Fast.tw11029451881514942728 : True := trivial
theorem PySem.W.Fast.tw5128371918536785730 : True := trivial
theorem PySem.W.Fast.tw7166471569943500187 : True := trivial
theorem PySem.W.Fast.tw14456380048967979504 : True := trivial
theorem PySem.W.Fast.tw17039953496746668062 : True := trivial
theorem PySem.W.Fast.tw10464504091505781334 : True := trivial
theorem PySem.W.Fast.tw7265655320402278820 : True := trivial
theorem PySem.W.Fast.tw7076367352087405074 : True := trivial
theorem PySem.W.Fast.tw1079658659296285279 : True := trivial
theorem PySem.W.Fast.tw2458140173702093950 : True := trivial
theorem PySem.W.Fast.tw6650802934884563449 : True := trivial
theorem PySem.W.Fast.tw17523260076234246486 : True := trivial
theorem PySem.W.Fast.tw1538056583393353688 : True := trivial
theorem PySem.W.Fast.tw9429625627848539245 : True := trivial
theorem PySem.W.Fast.tw16973630745704066469 : True := trivial
theorem PySem.W.Fast.tw8050931316942043579 : True := trivial
theorem PySem.W.Fast.tw3999144936628206612 : True := trivial
theorem PySem.W.Fast.tw7971453279925939242 : True := trivial
theorem PySem.W.Fast.tw16949174170297157498 : True := trivial
theorem PySem.W.Fast.tw8771061103382203831 : True := trivial
theorem PySem.W.Fast.tw636130969096413631 : True := trivial
theorem PySem.W.Fast.tw16388667738147815589 : True := trivial
theorem PySem.W.Fast.tw2889229283044477878 : True := trivial
theorem PySem.W.Fast.tw15733197485079190028 : True := trivial
theorem PySem.W.Fast.tw17844884475215900344 : True := trivial
theorem PySem.W.Fast.tw5207838431410434473 : True := trivial
theorem PySem.W.Fast.tw6033782277517744423 : True := trivial
theorem PySem.W.Fast.tw4475973838133038389 : True := trivial
theorem PySem.W.Fast.tw8004737466533933422 : True := trivial
theorem PySem.W.Fast.tw7603105123990732947 : True := trivial
theorem PySem.W.Fast.tw2378471235454932111 : True := trivial
theorem PySem.W.Fast.tw10660731288026605035 : True := trivial
theorem PySem.W.Fast.tw10317842596850598941 : True := trivial
theorem PySem.W.Fast.tw12832087190793922357 : True := trivial
theorem PySem.W.Fast.tw16274916898852272379 : True := trivial
theorem PySem.W.Fast.tw18276599887054503475 : True := trivial
theorem PySem.W.Fast.tw407265981223182196 : True := trivial
theorem PySem.W.Fast.tw14886312093407513739 : True := trivial
theorem PySem.W.Fast.tw13390382468407043829 : True := trivial
theorem PySem.W.Fast.tw6453200688243042436 : True := trivial
theorem PySem.W.Fast.tw2326936448896646476 : True := trivial
theorem PySem.W.Fast.tw11235603724078734073 : True := trivial
theorem PySem.W.Fast.tw16657186168147084179 : True := trivial
theorem PySem.W.Fast.tw10407060688828851581 : True := trivial
theorem PySem.W.Fast.tw1043316329019966330 : True := trivial
theorem PySem.W.Fast.tw17337848847697129212 : True := trivial
theorem PySem.W.Fast.tw12331954607100493790 : True := trivial
theorem PySem.W.Fast.tw16688821971423440993 : True := trivial
theorem PySem.W.Fast.tw10201113378351325554 : True := trivial
theorem PySem.W.Fast.tw26841922950482012 : True := trivial
theorem PySem.W.Fast.tw7124886339681738909 : True := trivial
theorem PySem.W.Fast.tw5682272180311945891 : True := trivial
theorem PySem.W.Fast.tw5767230374511078653 : True := trivial
theorem PySem.W.Fast.tw185946838622032682 : True := trivial
theorem PySem.W.Fast.tw3614276454815621290 : True := trivial
theorem PySem.W.Fast.tw11227578079549990018 : True := trivial
theorem PySem.W.Fast.tw14623915825942734220 : True := trivial
theorem PySem.W.Fast.tw15465770745491477870 : True := trivial
theorem PySem.W.Fast.tw6884689965745839231 : True := trivial
theorem PySem.W.Fast.tw17818774794638306241 : True := trivial
theorem PySem.W.Fast.tw12919072435775372532 : True := trivial
theorem PySem.W.Fast.tw11212826240979589100 : True := trivial
theorem PySem.W.Fast.tw14409646002665129930 : True := trivial
theorem PySem.W.Fast.tw13052544521057510062 : True := trivial
theorem PySem.W.Fast.tw11122735068774575670 : True := trivial
theorem PySem.W.Fast.tw14280112812403787749 : True := trivial
theorem PySem.W.Fast.tw1014315234942140433 : True := trivial
theorem PySem.W.Fast.tw3041448167390384254 : True := trivial
theorem PySem.W.Fast.tw2059719635297699777 : True := trivial
theorem PySem.W.Fast.tw9278282853705380083 : True := trivial
theorem PySem.W.Fast.tw18193214395588295558 : True := trivial
theorem PySem.W.Fast.tw8540818408852229742 : True := trivial
theorem PySem.W.Fast.tw908206690836095634 : True := trivial
theorem PySem.W.Fast.tw4230134219061956156 : True := trivial
theorem PySem.W.Fast.tw17868107615111235478 : True := trivial
theorem PySem.W.Fast.tw17798876211799876663 : True := trivial
theorem PySem.W.Fast.tw9402455874312122093 : True := trivial
theorem PySem.W.Fast.tw16454049748506838055 : True := trivial
theorem PySem.W.Fast.tw4298170623172345800 : True := trivial
theorem PySem.W.Fast.tw15796697641822163735 : True := trivial
theorem PySem.W.Fast.tw14599561244880353464 : True := trivial
theorem PySem.W.Fast.tw16506732773251345673 : True := trivial
theorem PySem.W.Fast.tw17209544719744929049 : True := trivial
theorem PySem.W.Fast.tw11599413703981067262 : True := trivial
theorem PySem.W.Fast.tw10719899595737814489 : True := trivial
theorem PySem.W.Fast.tw10597593384258866771 : True := trivial
theorem PySem.W.Fast.tw7480350584198687591 : True := trivial
theorem PySem.W.Fast.tw14745008969834709667 : True := trivial
theorem PySem.W.Fast.tw15573046646951419518 : True := trivial
theorem PySem.W.Fast.tw2150499315688990685 : True := trivial
theorem PySem.W.Fast.tw619425326704640199 : True := trivial
theorem PySem.W.Fast.tw16772739219131624803 : True := trivial
theorem PySem.W.Fast.tw15901856348309546024 : True := trivial
theorem PySem.W.Fast.tw5753208844722081291 : True := trivial
theorem PySem.W.Fast.tw15373845329537964030 : True := trivial
theorem PySem.W.Fast.tw13972269519415433114 : True := trivial
theorem PySem.W.Fast.tw1986568984501274052 : True := trivial
theorem PySem.W.Fast.tw15031229279828191970 : True := trivial
theorem PySem.W.Fast.tw2626774541198146415 : True := trivial
theorem PySem.W.Fast.tw11602072217394253298 : True := trivial
theorem PySem.W.Fast.tw6472820687015992616 : True := trivial
theorem PySem.W.Fast.tw1119511830106829173 : True := trivial
theorem PySem.W.Fast.tw17219414294299468779 : True := trivial
theorem PySem.W.Fast.tw5615757938087173455 : True := trivial
theorem PySem.W.Fast.tw2973113012965604682 : True := trivial
theorem PySem.W.Fast.tw14916159142297129005 : True := trivial
theorem PySem.W.Fast.tw8298886904438699620 : True := trivial
theorem PySem.W.Fast.tw3155845927180181346 : True := trivial
theorem PySem.W.Fast.tw2047625656474253323 : True := trivial
theorem PySem.W.Fast.tw11473664916214554803 : True := trivial
theorem PySem.W.Fast.tw7239065143227171877 : True := trivial
theorem PySem.W.Fast.tw17976064323481270882 : True := trivial
theorem PySem.W.Fast.tw9757492059543457032 : True := trivial
theorem PySem.W.Fast.tw5479902366190343452 : True := trivial
theorem PySem.W.Fast.tw7295205257267399843 : True := trivial
theorem PySem.W.Fast.tw4409444532468713663 : True := trivial
theorem PySem.W.Fast.tw10956771215524469545 : True := trivial
theorem PySem.W.Fast.tw11459542778573591175 : True := trivial
theorem PySem.W.Fast.tw463051518682591422 : True := trivial
theorem PySem.W.Fast.tw2277203230092352463 : True := trivial
theorem PySem.W.Fast.tw6985627439270810001 : True := trivial
theorem PySem.W.Fast.tw6149613029403119029 : True := trivial
theorem PySem.W.Fast.tw4466941329720023213 : True := trivial
theorem PySem.W.Fast.tw3905376662372080257 : True := trivial
theorem PySem.W.Fast.tw9666686447408499148 : True := trivial
theorem PySem.W.Fast.tw15197905732506181129 : True := trivial
theorem PySem.W.Fast.tw18058765802634997360 : True := trivial
theorem PySem.W.Fast.tw411765709390304368 : True := trivial
theorem PySem.W.Fast.tw17371146913006106091 : True := trivial
theorem PySem.W.Fast.tw6651250434368546738 : True := trivial
theorem PySem.W.Fast.tw17668108784214889421 : True := trivial
theorem PySem.W.Fast.tw18358277237151892461 : True := trivial
theorem PySem.W.Fast.tw4641153059827848931 : True := trivial
theorem PySem.W.Fast.tw939375703436643678 : True := trivial
theorem PySem.W.Fast.tw11025994274071183899 : True := trivial
theorem PySem.W.Fast.tw15297583161528852509 : True := trivial
theorem PySem.W.Fast.tw11074098831271538919 : True := trivial
theorem PySem.W.Fast.tw2681068896759333063 : True := trivial
theorem PySem.W.Fast.tw9818189561249725624 : True := trivial
theorem PySem.W.Fast.tw16359102691445086700 : True := trivial
theorem PySem.W.Fast.tw16402673618994816316 : True := trivial
theorem PySem.W.Fast.tw6882800109127922336 : True := trivial
theorem PySem.W.Fast.tw15004930365737658527 : True := trivial
theorem PySem.W.Fast.tw13663059145713977994 : True := trivial
theorem PySem.W.Fast.tw6721263617850620216 : True := trivial
theorem PySem.W.Fast.tw6300858027403579935 : True := trivial
theorem PySem.W.Fast.tw6333090997195331928 : True := trivial
theorem PySem.W.Fast.tw2222293831667312102 : True := trivial
theorem PySem.W.Fast.tw17479451436899914840 : True := trivial
theorem PySem.W.Fast.tw10983323831032070192 : True := trivial
theorem PySem.W.Fast.tw4002432098436772665 : True := trivial
theorem PySem.W.Fast.tw1718037094169342580 : True := trivial
theorem PySem.W.Fast.tw14929354344500171039 : True := trivial
theorem PySem.W.Fast.tw11517403868501539468 : True := trivial
theorem PySem.W.Fast.tw10457662853849895921 : True := trivial
theorem PySem.W.Fast.tw5074607663377638565 : True := trivial
theorem PySem.W.Fast.tw4167826510510977222 : True := trivial
theorem PySem.W.Fast.tw2013697948148304331 : True := trivial
theorem PySem.W.Fast.tw13186181948774052992 : True := trivial
theorem PySem.W.Fast.tw12477097531292560429 : True := trivial
theorem PySem.W.Fast.tw2160809628687223669 : True := trivial
theorem PySem.W.Fast.tw358520451541866043 : True := trivial
theorem PySem.W.Fast.tw14139717085901954815 : True := trivial
theorem PySem.W.Fast.tw378470456371685268 : True := trivial
theorem PySem.W.Fast.tw2011693707505707877 : True := trivial
theorem PySem.W.Fast.tw113198712561776846 : True := trivial
theorem PySem.W.Fast.tw11104511309526621808 : True := trivial
theorem PySem.W.Fast.tw14662248145760870204 : True := trivial
theorem PySem.W.Fast.tw5704094417685198001 : True := trivial
theorem PySem.W.Fast.tw10154260111333181848 : True := trivial
theorem PySem.W.Fast.tw14567279791617019894 : True := trivial
theorem PySem.W.Fast.tw5719144710985665214 : True := trivial
theorem PySem.W.Fast.tw6926794039464864600 : True := trivial
theorem PySem.W.Fast.tw9166639855628437890 : True := trivial
theorem PySem.W.Fast.tw13428200696969677376 : True := trivial
theorem PySem.W.Fast.tw17100602669784745517 : True := trivial
theorem PySem.W.Fast.tw6288772071490419934 : True := trivial
theorem PySem.W.Fast.tw14223873737076000731 : True := trivial
theorem PySem.W.Fast.tw17344280643821656832 : True := trivial
theorem PySem.W.Fast.tw5599045151253054970 : True := trivial
theorem PySem.W.Fast.tw9888613179219384126 : True := trivial
theorem PySem.W.Fast.tw245642871006910678 : True := trivial
theorem PySem.W.Fast.tw2572024419476450743 : True := trivial
theorem PySem.W.Fast.tw6779703625778506618 : True := trivial
theorem PySem.W.Fast.tw17414657952002698575 : True := trivial
theorem PySem.W.Fast.tw16307752223837614979 : True := trivial
theorem PySem.W.Fast.tw13589437187746632679 : True := trivial
theorem PySem.W.Fast.tw11267518498273008030 : True := trivial
theorem PySem.W.Fast.tw3283043341927317570 : True := trivial
theorem PySem.W.Fast.tw8391703259428278484 : True := trivial
theorem PySem.W.Fast.tw3751166005325237530 : True := trivial
theorem PySem.W.Fast.tw8021336125628383089 : True := trivial
theorem PySem.W.Fast.tw2703049592501095264 : True := trivial
theorem PySem.W.Fast.tw3500028973506726752 : True := trivial
theorem PySem.W.Fast.tw12880385418420096167 : True := trivial
theorem PySem.W.Fast.tw1071658102135674261 : True := trivial
theorem PySem.W.Fast.tw5969249191880861193 : True := trivial
theorem PySem.W.Fast.tw16921504191618886925 : True := trivial
theorem PySem.W.Fast.tw12184799150567207813 : True := trivial
theorem PySem.W.Fast.tw4731245273766806065 : True := trivial
theorem PySem.W.Fast.tw17004041846890433059 : True := trivial
theorem PySem.W.Fast.tw13550950070478102362 : True := trivial
theorem PySem.W.Fast.tw17284624873723167219 : True := trivial
theorem PySem.W.Fast.tw16045522413082147263 : True := trivial
theorem PySem.W.Fast.tw12395904802653114736 : True := trivial
theorem PySem.W.Fast.tw10881209140475327023 : True := trivial
theorem PySem.W.Fast.tw607539733999670603 : True := trivial
theorem PySem.W.Fast.tw16471422862023355741 : True := trivial
theorem PySem.W.Fast.tw11496831899035568732 : True := trivial
theorem PySem.W.Fast.tw14100008366661111748 : True := trivial
theorem PySem.W.Fast.tw18139127577717935222 : True := trivial
theorem PySem.W.Fast.tw17400940041553525384 : True := trivial
theorem PySem.W.Fast.tw17862388924748263176 : True := trivial
theorem PySem.W.Fast.tw17230535380534980516 : True := trivial
theorem PySem.W.Fast.tw13881312658782642137 : True := trivial
theorem PySem.W.Fast.tw4050980573263833511 : True := trivial
theorem PySem.W.Fast.tw555914560076501628 : True := trivial
theorem PySem.W.Fast.tw9979712051427199005 : True := trivial
theorem PySem.W.Fast.tw17869430120949436084 : True := trivial
theorem PySem.W.Fast.tw956879336163620139 : True := trivial
theorem PySem.W.Fast.tw9851251347256927778 : True := trivial
theorem PySem.W.Fast.tw6460715092658477811 : True := trivial
theorem PySem.W.Fast.tw2224439888908852824 : True := trivial
theorem PySem.W.Fast.tw9198561268137592763 : True := trivial
theorem PySem.W.Fast.tw7011558417529724533 : True := trivial
theorem PySem.W.Fast.tw6533933114843683850 : True := trivial
theorem PySem.W.Fast.tw8110717365549356074 : True := trivial
theorem PySem.W.Fast.tw12296549108527495618 : True := trivial
theorem PySem.W.Fast.tw4217813140202498764 : True := trivial
theorem PySem.W.Fast.tw6049072342492018632 : True := trivial
theorem PySem.W.Fast.tw7853737423090804373 : True := trivial
theorem PySem.W.Fast.tw5981109351531609717 : True := trivial
theorem PySem.W.Fast.tw164829920591144253 : True := trivial
theorem PySem.W.Fast.tw6482024398225307122 : True := trivial
theorem PySem.W.Fast.tw4649520046480865146 : True := trivial
theorem PySem.W.Fast.tw16047898248494444020 : True := trivial
theorem PySem.W.Fast.tw9084006805537726155 : True := trivial
theorem PySem.W.Fast.tw15581258006096972901 : True := trivial
theorem PySem.W.Fast.tw18005314466982668478 : True := trivial
theorem PySem.W.Fast.tw15020732655513767566 : True := trivial
theorem PySem.W.Fast.tw17541740208053900041 : True := trivial
theorem PySem.W.Fast.tw18236898721020857665 : True := trivial
theorem PySem.W.Fast.tw10036670030872810789 : True := trivial
theorem PySem.W.Fast.tw2776201124653374749 : True := trivial
theorem PySem.W.Fast.tw15558772439599075573 : True := trivial
theorem PySem.W.Fast.tw1783295152918300544 : True := trivial
theorem PySem.W.Fast.tw11215340797067577414 : True := trivial
theorem PySem.W.Fast.tw18123122215926030122 : True := trivial
theorem PySem.W.Fast.tw5953830263114166628 : True := trivial
theorem PySem.W.Fast.tw4394028714353003341 : True := trivial
theorem PySem.W.Fast.tw624713599966064935 : True := trivial
theorem PySem.W.Fast.tw16996980923474927748 : True := trivial
theorem PySem.W.Fast.tw9962606092218093196 : True := trivial
theorem PySem.W.Fast.tw2694571007083637789 : True := trivial
theorem PySem.W.Fast.tw17108661904790257961 : True := trivial
theorem PySem.W.Fast.tw1979238894037627124 : True := trivial
theorem PySem.W.Fast.tw5608117653727189552 : True := trivial
theorem PySem.W.Fast.tw12972449411082344388 : True := trivial
theorem PySem.W.Fast.tw18071939119990579463 : True := trivial
theorem PySem.W.Fast.tw15017488551194652059 : True := trivial
theorem PySem.W.Fast.tw15571422988896392152 : True := trivial
theorem PySem.W.Fast.tw11511766877717744250 : True := trivial
theorem PySem.W.Fast.tw11098139150931292301 : True := trivial
theorem PySem.W.Fast.tw12722810563397009692 : True := trivial
theorem PySem.W.Fast.tw2609633730327957414 : True := trivial
theorem PySem.W.Fast.tw3583795742242562376 : True := trivial
theorem PySem.W.Fast.tw10159630015254569258 : True := trivial
theorem PySem.W.Fast.tw11557200456618427762 : True := trivial
theorem PySem.W.Fast.tw9110545103758709362 : True := trivial
theorem PySem.W.Fast.tw15526500440761086695 : True := trivial
theorem PySem.W.Fast.tw4648396043122292108 : True := trivial
theorem PySem.W.Fast.tw8594905345232164916 : True := trivial
set_option maxRecDepth 100000 in
set_option maxHeartbeats 0 in
theorem PySem.Challenge.cw_asofhall_k70_drafts_closed_holds : PySem.Challenge.rw_asofhall_k70_drafts_closed.Holds := by
  w_on; o_law; k_head; (case hw => w_witness2)
  k_fill
  refine Ash.walk (l := PySem.Challenge.rw_asofhall_k70_drafts_closed) rfl rfl (fun w h Y => PySem.W.kIn_of Y) ?F
  case F =>
    intro w mg fa h KX G hmg
    refine' Ash.all_mk KX G hmg ?law0 ?law1 ?law2 ?law3
      { len := (PySem.W.mg_none_of KX G ?h_B_len), int := (PySem.W.mg_none_of KX G ?h_B_int), bool := (PySem.W.mg_none_of KX G ?h_B_bool), str := (PySem.W.mg_none_of KX G ?h_B_str), list := (PySem.W.mg_none_of KX G ?h_B_list), tuple := (PySem.W.mg_none_of KX G ?h_B_tuple), dict := (PySem.W.mg_none_of KX G ?h_B_dict), isinstance := (PySem.W.mg_none_of KX G ?h_B_isinstance), all := (PySem.W.mg_none_of KX G ?h_B_all), range := (PySem.W.mg_none_of KX G ?h_B_range), enumerate := (PySem.W.mg_none_of KX G ?h_B_enumerate), sorted := (PySem.W.mg_none_of KX G ?h_B_sorted), min := (PySem.W.mg_none_of KX G ?h_B_min), max := (PySem.W.mg_none_of KX G ?h_B_max), set := (PySem.W.mg_none_of KX G ?h_B_set) }
      ⟨(Ash.ex_str KX G ?h_Cs_0), (Ash.ex_int KX G ?h_Cs_1), (Ash.ex_int KX G ?h_Cs_2), (Ash.ex_int KX G ?h_Cs_3), (Ash.ex_int KX G ?h_Cs_4)⟩
      ⟨⟨?h_TB_0_0, ?h_TB_0_1, ?h_TB_0_2, ?h_TB_0_3⟩, ?h_TB_1, (PySem.W.mg_of KX G ?h_TB_2)⟩
      ⟨⟨?h_T_0_0, ?h_T_0_1, ?h_T_0_2, ?h_T_0_3⟩, ?h_T_1, ?h_T_2, ?h_T_3, (PySem.W.mg_of KX G ?h_T_4)⟩
      ⟨(PySem.W.mg_of KX G ?h_Tt_0), (Ash.tt_mk ?h_Tt_1_0)⟩
      (PySem.W.mg_of KX G ?h_cE)
      (Ash.txt_mk KX G ?h_TE_0 ?h_TE_1 ?h_TE_2 ?h_TE_3 ?h_TE_4 ?h_TE_5 ?h_TE_6 ?h_TE_7 ?h_TE_8 ?h_TE_9 ?h_TE_10 ?h_TE_11 ?h_TE_12 ?h_TE_13 ?h_TE_14 ?h_TE_15 ?h_TE_16 ?h_TE_17 ?h_TE_18 ?h_TE_19 ?h_TE_20 ?h_TE_21 ?h_TE_22 ?h_TE_23 ?h_TE_24 ?h_TE_25 ?h_TE_26 ?h_TE_27 ?h_TE_28 ?h_TE_29)
      ⟨?h_bi_0, ?h_bi_1, ?h_bi_2, ?h_bi_3⟩
      ⟨?h_ji_0, ?h_ji_1, ?h_ji_2, ?h_ji_3⟩
      ?h_mkB
      ?h_kB
      ⟨(Ash.ex_int KX G ?h_C2_0)⟩
      ⟨(PySem.W.mg_none_of KX G ?h_C3_0)⟩
      ⟨⟨?h_TO_0_0, ?h_TO_0_1, ?h_TO_0_2, ?h_TO_0_3⟩, ?h_TO_1, ?h_TO_2, ?h_TO_3, ?h_TO_4, ?h_TO_5, ?h_TO_6, (PySem.W.mg_of KX G ?h_TO_7)⟩
      ⟨⟨?h_TD_0_0, ?h_TD_0_1, ?h_TD_0_2, ?h_TD_0_3⟩, ?h_TD_1, ?h_TD_2, (PySem.W.mg_of KX G ?h_TD_3)⟩
      (PySem.W.mg_of KX G ?h_cI)
      (PySem.W.mg_of KX G ?h_cY)
      (PySem.W.mg_of KX G ?h_cS)
      (PySem.W.mg_of KX G ?h_cM)
      (PySem.W.mg_of KX G ?h_cN)
      (PySem.W.mg_of KX G ?h_cT)
      (Ash.txt_mk KX G ?h_TI_0 ?h_TI_1 ?h_TI_2 ?h_TI_3 ?h_TI_4 ?h_TI_5 ?h_TI_6 ?h_TI_7 ?h_TI_8 ?h_TI_9 ?h_TI_10 ?h_TI_11 ?h_TI_12 ?h_TI_13 ?h_TI_14 ?h_TI_15 ?h_TI_16 ?h_TI_17 ?h_TI_18 ?h_TI_19 ?h_TI_20 ?h_TI_21 ?h_TI_22 ?h_TI_23 ?h_TI_24 ?h_TI_25 ?h_TI_26 ?h_TI_27 ?h_TI_28 ?h_TI_29)
      (Ash.txt_mk KX G ?h_TY_0 ?h_TY_1 ?h_TY_2 ?h_TY_3 ?h_TY_4 ?h_TY_5 ?h_TY_6 ?h_TY_7 ?h_TY_8 ?h_TY_9 ?h_TY_10 ?h_TY_11 ?h_TY_12 ?h_TY_13 ?h_TY_14 ?h_TY_15 ?h_TY_16 ?h_TY_17 ?h_TY_18 ?h_TY_19 ?h_TY_20 ?h_TY_21 ?h_TY_22 ?h_TY_23 ?h_TY_24 ?h_TY_25 ?h_TY_26 ?h_TY_27 ?h_TY_28 ?h_TY_29)
      (Ash.txt_mk KX G ?h_TS_0 ?h_TS_1 ?h_TS_2 ?h_TS_3 ?h_TS_4 ?h_TS_5 ?h_TS_6 ?h_TS_7 ?h_TS_8 ?h_TS_9 ?h_TS_10 ?h_TS_11 ?h_TS_12 ?h_TS_13 ?h_TS_14 ?h_TS_15 ?h_TS_16 ?h_TS_17 ?h_TS_18 ?h_TS_19 ?h_TS_20 ?h_TS_21 ?h_TS_22 ?h_TS_23 ?h_TS_24 ?h_TS_25 ?h_TS_26 ?h_TS_27 ?h_TS_28 ?h_TS_29)
      (Ash.txt_mk KX G ?h_TM_0 ?h_TM_1 ?h_TM_2 ?h_TM_3 ?h_TM_4 ?h_TM_5 ?h_TM_6 ?h_TM_7 ?h_TM_8 ?h_TM_9 ?h_TM_10 ?h_TM_11 ?h_TM_12 ?h_TM_13 ?h_TM_14 ?h_TM_15 ?h_TM_16 ?h_TM_17 ?h_TM_18 ?h_TM_19 ?h_TM_20 ?h_TM_21 ?h_TM_22 ?h_TM_23 ?h_TM_24 ?h_TM_25 ?h_TM_26 ?h_TM_27 ?h_TM_28 ?h_TM_29)
      (Ash.txt_mk KX G ?h_TN_0 ?h_TN_1 ?h_TN_2 ?h_TN_3 ?h_TN_4 ?h_TN_5 ?h_TN_6 ?h_TN_7 ?h_TN_8 ?h_TN_9 ?h_TN_10 ?h_TN_11 ?h_TN_12 ?h_TN_13 ?h_TN_14 ?h_TN_15 ?h_TN_16 ?h_TN_17 ?h_TN_18 ?h_TN_19 ?h_TN_20 ?h_TN_21 ?h_TN_22 ?h_TN_23 ?h_TN_24 ?h_TN_25 ?h_TN_26 ?h_TN_27 ?h_TN_28 ?h_TN_29)
      (Ash.exc_mk ?h_xT_0 ?h_xT_1 ?h_xT_2 ?h_xT_3 ?h_xT_4 ?h_xT_5 ?h_xT_6 ?h_xT_7)
      ?h_kT
      ?h_bT
      ?h_tT
      (Ash.exm_me ?h_nTT_0 ?h_nTT_1 ?h_nTT_2 ?h_nTT_3)
      (Ash.exm_no ?h_nYI_0 ?h_nYI_1 ?h_nYI_2 ?h_nYI_3)
      (Ash.exm_no ?h_nSI_0 ?h_nSI_1 ?h_nSI_2 ?h_nSI_3)
      (Ash.exm_no ?h_nSY_0 ?h_nSY_1 ?h_nSY_2 ?h_nSY_3)
      (Ash.exm_no ?h_nEI_0 ?h_nEI_1 ?h_nEI_2 ?h_nEI_3)
      (Ash.exm_no ?h_nEY_0 ?h_nEY_1 ?h_nEY_2 ?h_nEY_3)
      (Ash.exm_no ?h_nES_0 ?h_nES_1 ?h_nES_2 ?h_nES_3)
      (Ash.exm_no ?h_nMI_0 ?h_nMI_1 ?h_nMI_2 ?h_nMI_3)
      (Ash.exm_no ?h_nMY_0 ?h_nMY_1 ?h_nMY_2 ?h_nMY_3)
      (Ash.exm_no ?h_nMS_0 ?h_nMS_1 ?h_nMS_2 ?h_nMS_3)
      (Ash.exm_no ?h_nME_0 ?h_nME_1 ?h_nME_2 ?h_nME_3)
      (Ash.exm_no ?h_nNI_0 ?h_nNI_1 ?h_nNI_2 ?h_nNI_3)
      (Ash.exm_no ?h_nNY_0 ?h_nNY_1 ?h_nNY_2 ?h_nNY_3)
      (Ash.exm_no ?h_nNS_0 ?h_nNS_1 ?h_nNS_2 ?h_nNS_3)
      (Ash.exm_no ?h_nNE_0 ?h_nNE_1 ?h_nNE_2 ?h_nNE_3)
      (Ash.exm_no ?h_nNM_0 ?h_nNM_1 ?h_nNM_2 ?h_nNM_3)
      (Ash.exm_no ?h_nTI_0 ?h_nTI_1 ?h_nTI_2 ?h_nTI_3)
      (Ash.exm_no ?h_nTY_0 ?h_nTY_1 ?h_nTY_2 ?h_nTY_3)
      (Ash.exm_no ?h_nTS_0 ?h_nTS_1 ?h_nTS_2 ?h_nTS_3)
      (Ash.exm_no ?h_nTE_0 ?h_nTE_1 ?h_nTE_2 ?h_nTE_3)
      (Ash.exm_no ?h_nTM_0 ?h_nTM_1 ?h_nTM_2 ?h_nTM_3)
      (Ash.exm_no ?h_nTN_0 ?h_nTN_1 ?h_nTN_2 ?h_nTN_3)
      ?h_mkD
      ?h_kD
      (Ash.dnn ?h_m_OI_0 ?h_m_OI_1 ?h_m_OI_2 ?h_m_OI_3 ?h_m_OI_4 ?h_m_OI_5 ?h_m_OI_6 ?h_m_OI_7)
      (Ash.d1 KX G ?h_d_is_integer_0 ?h_d_is_integer_1 ?h_d_is_integer_2 ?h_d_is_integer_3)
      (Ash.d1 KX G ?h_d_is_natural_0 ?h_d_is_natural_1 ?h_d_is_natural_2 ?h_d_is_natural_3)
      (Ash.d1 KX G ?h_d_is_name_0 ?h_d_is_name_1 ?h_d_is_name_2 ?h_d_is_name_3)
      (Ash.d1 KX G ?h_d_are_integers_0 ?h_d_are_integers_1 ?h_d_are_integers_2 ?h_d_are_integers_3)
      (Ash.d1 KX G ?h_d_is_late_0 ?h_d_is_late_1 ?h_d_is_late_2 ?h_d_is_late_3)
      (Ash.d1 KX G ?h_d_is_lates_0 ?h_d_is_lates_1 ?h_d_is_lates_2 ?h_d_is_lates_3)
      (Ash.d1 KX G ?h_d_is_entry_0 ?h_d_is_entry_1 ?h_d_is_entry_2 ?h_d_is_entry_3)
      (Ash.d1 KX G ?h_d_arrival_of_0 ?h_d_arrival_of_1 ?h_d_arrival_of_2 ?h_d_arrival_of_3)
      (Ash.d1 KX G ?h_d_placed_0 ?h_d_placed_1 ?h_d_placed_2 ?h_d_placed_3)
      (Ash.d1 KX G ?h_d_row_behind_0 ?h_d_row_behind_1 ?h_d_row_behind_2 ?h_d_row_behind_3)
      (Ash.d1 KX G ?h_d_walked_0 ?h_d_walked_1 ?h_d_walked_2 ?h_d_walked_3)
      (Ash.d1 KX G ?h_d_is_row_0 ?h_d_is_row_1 ?h_d_is_row_2 ?h_d_is_row_3)
      (Ash.dm ?h_m_Init_0 ?h_m_Init_1 ?h_m_Init_2 ?h_m_Init_3 ?h_m_Init_4)
      (Ash.dm ?h_m_Has_0 ?h_m_Has_1 ?h_m_Has_2 ?h_m_Has_3 ?h_m_Has_4)
      (Ash.dm ?h_m_Late_0 ?h_m_Late_1 ?h_m_Late_2 ?h_m_Late_3 ?h_m_Late_4)
      (Ash.dd ?h_m_J_0 ?h_m_J_1 ?h_m_J_2 ?h_m_J_3 ?h_m_J_4 ?h_m_J_5 ?h_m_J_6 ?h_m_J_7)
      (Ash.dm ?h_m_Then_0 ?h_m_Then_1 ?h_m_Then_2 ?h_m_Then_3 ?h_m_Then_4)
      (Ash.dm ?h_m_Len_0 ?h_m_Len_1 ?h_m_Len_2 ?h_m_Len_3 ?h_m_Len_4)
      (Ash.dq ?h_m_Beq_0 ?h_m_Beq_1 ?h_m_Beq_2 ?h_m_Beq_3 ?h_m_Beq_4)
      (Ash.ne_mk ?h_bne_0 ?h_bne_1 ?h_bne_2 ?h_bne_3 ?h_bne_4 ?h_bne_5 ?h_bne_6)
      (Ash.dm ?h_m_DInit_0 ?h_m_DInit_1 ?h_m_DInit_2 ?h_m_DInit_3 ?h_m_DInit_4)
      (Ash.dm ?h_m_DraftOf_0 ?h_m_DraftOf_1 ?h_m_DraftOf_2 ?h_m_DraftOf_3 ?h_m_DraftOf_4)
      (Ash.dm ?h_m_Begin_0 ?h_m_Begin_1 ?h_m_Begin_2 ?h_m_Begin_3 ?h_m_Begin_4)
      (Ash.dm ?h_m_Put_0 ?h_m_Put_1 ?h_m_Put_2 ?h_m_Put_3 ?h_m_Put_4)
      (Ash.dm ?h_m_Row_0 ?h_m_Row_1 ?h_m_Row_2 ?h_m_Row_3 ?h_m_Row_4)
      (Ash.dm ?h_m_Fix_0 ?h_m_Fix_1 ?h_m_Fix_2 ?h_m_Fix_3 ?h_m_Fix_4)
      (Ash.dm ?h_m_Gone_0 ?h_m_Gone_1 ?h_m_Gone_2 ?h_m_Gone_3 ?h_m_Gone_4)
      (Ash.dm ?h_m_Drop_0 ?h_m_Drop_1 ?h_m_Drop_2 ?h_m_Drop_3 ?h_m_Drop_4)
      (Ash.dm ?h_m_Tell_0 ?h_m_Tell_1 ?h_m_Tell_2 ?h_m_Tell_3 ?h_m_Tell_4)
      (Ash.dm ?h_m_Writers_0 ?h_m_Writers_1 ?h_m_Writers_2 ?h_m_Writers_3 ?h_m_Writers_4)
      (Ash.dm ?h_m_Fresh_0 ?h_m_Fresh_1 ?h_m_Fresh_2 ?h_m_Fresh_3 ?h_m_Fresh_4)
      (Ash.dm ?h_m_Behind_0 ?h_m_Behind_1 ?h_m_Behind_2 ?h_m_Behind_3 ?h_m_Behind_4)
      (Ash.dm ?h_m_Close_0 ?h_m_Close_1 ?h_m_Close_2 ?h_m_Close_3 ?h_m_Close_4)
      (Ash.dm ?h_m_Undo_0 ?h_m_Undo_1 ?h_m_Undo_2 ?h_m_Undo_3 ?h_m_Undo_4)
      (Ash.d1 KX G ?h_d__law_called_0 ?h_d__law_called_1 ?h_d__law_called_2 ?h_d__law_called_3)
      (Ash.d1 KX G ?h_d__law_done_0 ?h_d__law_done_1 ?h_d__law_done_2 ?h_d__law_done_3)
      (Ash.d1 KX G ?h_d__law_put_in_0 ?h_d__law_put_in_1 ?h_d__law_put_in_2 ?h_d__law_put_in_3)
      (Ash.d1 KX G ?h_d__law_pool_0 ?h_d__law_pool_1 ?h_d__law_pool_2 ?h_d__law_pool_3)
      (Ash.d1 KX G ?h_d__law_draw_0 ?h_d__law_draw_1 ?h_d__law_draw_2 ?h_d__law_draw_3)
      (Ash.d1 KX G ?h_d__law_names_0 ?h_d__law_names_1 ?h_d__law_names_2 ?h_d__law_names_3)
      (Ash.d1 KX G ?h_d__law_lates_0 ?h_d__law_lates_1 ?h_d__law_lates_2 ?h_d__law_lates_3)
      (Ash.d1 KX G ?h_d__law_amount_0 ?h_d__law_amount_1 ?h_d__law_amount_2 ?h_d__law_amount_3)
      (Ash.d1 KX G ?h_d__law_entry_0 ?h_d__law_entry_1 ?h_d__law_entry_2 ?h_d__law_entry_3)
      (Ash.d1 KX G ?h_d__law_put_0 ?h_d__law_put_1 ?h_d__law_put_2 ?h_d__law_put_3)
      (Ash.d1 KX G ?h_d__law_entries_0 ?h_d__law_entries_1 ?h_d__law_entries_2 ?h_d__law_entries_3)
      (Ash.d1 KX G ?h_d__law_states_0 ?h_d__law_states_1 ?h_d__law_states_2 ?h_d__law_states_3)
      (Ash.d1 KX G ?h_d__law_drafted_0 ?h_d__law_drafted_1 ?h_d__law_drafted_2 ?h_d__law_drafted_3)
      (Ash.d1 KX G ?h_d__law_is_good_0 ?h_d__law_is_good_1 ?h_d__law_is_good_2 ?h_d__law_is_good_3)
      (Ash.d1 KX G ?h_d__law_bad_from_0 ?h_d__law_bad_from_1 ?h_d__law_bad_from_2 ?h_d__law_bad_from_3)
      (Ash.d1 KX G ?h_d__law_due_0 ?h_d__law_due_1 ?h_d__law_due_2 ?h_d__law_due_3)
      (Ash.d1 KX G ?h_d__law_full_0 ?h_d__law_full_1 ?h_d__law_full_2 ?h_d__law_full_3)
    (case h_Cs_0 => k_is)
    (case h_Cs_1 => k_is)
    (case h_Cs_2 => k_is)
    (case h_Cs_3 => k_is)
    (case h_Cs_4 => k_is)
    (case h_TB_2 => k_is)
    (case h_T_4 => k_is)
    (case h_Tt_0 => k_is)
    (case h_cE => k_is)
    (case h_C2_0 => k_is)
    (case h_TO_7 => k_is)
    (case h_TD_3 => k_is)
    (case h_cI => k_is)
    (case h_cY => k_is)
    (case h_cS => k_is)
    (case h_cM => k_is)
    (case h_cN => k_is)
    (case h_cT => k_is)
    (case law0 => k_is)
    (case law1 => k_is)
    (case law2 => k_is)
    (case law3 => k_is)
    (case h_B_len => k_is)
    (case h_B_int => k_is)
    (case h_B_bool => k_is)
    (case h_B_str => k_is)
    (case h_B_list => k_is)
    (case h_B_tuple => k_is)
    (case h_B_dict => k_is)
    (case h_B_isinstance => k_is)
    (case h_B_all => k_is)
    (case h_B_range => k_is)
    (case h_B_enumerate => k_is)
    (case h_B_sorted => k_is)
    (case h_B_min => k_is)
    (case h_B_max => k_is)
    (case h_B_set => k_is)
    (case h_TB_0_0 => k_is)
    (case h_TB_0_1 => k_is)
    (case h_TB_0_2 => k_is)
    (case h_TB_0_3 => k_is)
    (case h_TB_1 => delta L2.NoAttr; k_is)
    (case h_T_0_0 => k_is)
    (case h_T_0_1 => k_is)
    (case h_T_0_2 => k_is)
    (case h_T_0_3 => k_is)
    (case h_T_1 => delta L2.NoAttr; k_is)
    (case h_T_2 => delta L2.NoAttr; k_is)
    (case h_T_3 => delta L2.NoAttr; k_is)
    (case h_Tt_1_0 => k_is)
    (case h_TE_0 => k_is)
    (case h_TE_2 => k_is)
    (case h_TE_3 => k_is)
    (case h_TE_4 => k_is)
    (case h_TE_5 => k_is)
    (case h_TE_6 => k_is)
    (case h_TE_7 => k_is)
    (case h_TE_8 => k_is)
    (case h_TE_9 => k_is)
    (case h_TE_10 => k_is)
    (case h_TE_11 => k_is)
    (case h_TE_12 => k_is)
    (case h_TE_13 => k_is)
    (case h_TE_14 => k_is)
    (case h_TE_15 => k_is)
    (case h_TE_17 => k_is)
    (case h_TE_18 => k_is)
    (case h_TE_20 => k_is)
    (case h_TE_21 => k_is)
    (case h_TE_25 => k_is)
    (case h_TE_29 => k_is)
    (case h_bi_0 => k_is)
    (case h_bi_1 => k_is)
    (case h_bi_2 => k_is)
    (case h_bi_3 => k_is)
    (case h_ji_0 => k_is)
    (case h_ji_1 => k_is)
    (case h_ji_2 => k_is)
    (case h_ji_3 => k_is)
    (case h_mkB => k_is)
    (case h_kB => k_is)
    (case h_C3_0 => k_is)
    (case h_TO_0_0 => k_is)
    (case h_TO_0_1 => k_is)
    (case h_TO_0_2 => k_is)
    (case h_TO_0_3 => k_is)
    (case h_TO_1 => delta L2.NoAttr; k_is)
    (case h_TO_2 => delta L2.NoAttr; k_is)
    (case h_TO_3 => delta L2.NoAttr; k_is)
    (case h_TO_4 => delta L2.NoAttr; k_is)
    (case h_TO_5 => delta L2.NoAttr; k_is)
    (case h_TO_6 => delta L2.NoAttr; k_is)
    (case h_TD_0_0 => k_is)
    (case h_TD_0_1 => k_is)
    (case h_TD_0_2 => k_is)
    (case h_TD_0_3 => k_is)
    (case h_TD_1 => delta L2.NoAttr; k_is)
    (case h_TD_2 => delta L2.NoAttr; k_is)
    (case h_TI_0 => k_is)
    (case h_TI_2 => k_is)
    (case h_TI_3 => k_is)
    (case h_TI_4 => k_is)
    (case h_TI_5 => k_is)
    (case h_TI_6 => k_is)
    (case h_TI_7 => k_is)
    (case h_TI_8 => k_is)
    (case h_TI_9 => k_is)
    (case h_TI_10 => k_is)
    (case h_TI_11 => k_is)
    (case h_TI_12 => k_is)
    (case h_TI_13 => k_is)
    (case h_TI_14 => k_is)
    (case h_TI_15 => k_is)
    (case h_TI_17 => k_is)
    (case h_TI_18 => k_is)
    (case h_TI_20 => k_is)
    (case h_TI_21 => k_is)
    (case h_TI_25 => k_is)
    (case h_TI_29 => k_is)
    (case h_TY_0 => k_is)
    (case h_TY_2 => k_is)
    (case h_TY_3 => k_is)
    (case h_TY_4 => k_is)
    (case h_TY_5 => k_is)
    (case h_TY_6 => k_is)
    (case h_TY_7 => k_is)
    (case h_TY_8 => k_is)
    (case h_TY_9 => k_is)
    (case h_TY_10 => k_is)
    (case h_TY_11 => k_is)
    (case h_TY_12 => k_is)
    (case h_TY_13 => k_is)
    (case h_TY_14 => k_is)
    (case h_TY_15 => k_is)
    (case h_TY_17 => k_is)
    (case h_TY_18 => k_is)
    (case h_TY_20 => k_is)
    (case h_TY_21 => k_is)
    (case h_TY_25 => k_is)
    (case h_TY_29 => k_is)
    (case h_TS_0 => k_is)
    (case h_TS_2 => k_is)
    (case h_TS_3 => k_is)
    (case h_TS_4 => k_is)
    (case h_TS_5 => k_is)
    (case h_TS_6 => k_is)
    (case h_TS_7 => k_is)
    (case h_TS_8 => k_is)
    (case h_TS_9 => k_is)
    (case h_TS_10 => k_is)
    (case h_TS_11 => k_is)
    (case h_TS_12 => k_is)
    (case h_TS_13 => k_is)
    (case h_TS_14 => k_is)
    (case h_TS_15 => k_is)
    (case h_TS_17 => k_is)
    (case h_TS_18 => k_is)
    (case h_TS_20 => k_is)
    (case h_TS_21 => k_is)
    (case h_TS_25 => k_is)
    (case h_TS_29 => k_is)
    (case h_TM_0 => k_is)
    (case h_TM_2 => k_is)
    (case h_TM_3 => k_is)
    (case h_TM_4 => k_is)
    (case h_TM_5 => k_is)
    (case h_TM_6 => k_is)
    (case h_TM_7 => k_is)
    (case h_TM_8 => k_is)
    (case h_TM_9 => k_is)
    (case h_TM_10 => k_is)
    (case h_TM_11 => k_is)
    (case h_TM_12 => k_is)
    (case h_TM_13 => k_is)
    (case h_TM_14 => k_is)
    (case h_TM_15 => k_is)
    (case h_TM_17 => k_is)
    (case h_TM_18 => k_is)
    (case h_TM_20 => k_is)
    (case h_TM_21 => k_is)
    (case h_TM_25 => k_is)
    (case h_TM_29 => k_is)
    (case h_TN_0 => k_is)
    (case h_TN_2 => k_is)
    (case h_TN_3 => k_is)
    (case h_TN_4 => k_is)
    (case h_TN_5 => k_is)
    (case h_TN_6 => k_is)
    (case h_TN_7 => k_is)
    (case h_TN_8 => k_is)
    (case h_TN_9 => k_is)
    (case h_TN_10 => k_is)
    (case h_TN_11 => k_is)
    (case h_TN_12 => k_is)
    (case h_TN_13 => k_is)
    (case h_TN_14 => k_is)
    (case h_TN_15 => k_is)
    (case h_TN_17 => k_is)
    (case h_TN_18 => k_is)
    (case h_TN_20 => k_is)
    (case h_TN_21 => k_is)
    (case h_TN_25 => k_is)
    (case h_TN_29 => k_is)
    (case h_xT_0 => k_is)
    (case h_xT_1 => k_is)
    (case h_xT_3 => k_is)
    (case h_xT_4 => k_is)
    (case h_xT_5 => k_is)
    (case h_xT_7 => k_is)
    (case h_kT => k_is)
    (case h_bT => k_is)
    (case h_tT => k_is)
    (case h_nTT_0 => k_is)
    (case h_nTT_1 => k_is)
    (case h_nTT_2 => k_is)
    (case h_nTT_3 => k_is)
    (case h_nYI_0 => k_is)
    (case h_nYI_1 => k_is)
    (case h_nYI_2 => k_is)
    (case h_nYI_3 => k_is)
    (case h_nSI_0 => k_is)
    (case h_nSI_1 => k_is)
    (case h_nSI_2 => k_is)
    (case h_nSI_3 => k_is)
    (case h_nSY_0 => k_is)
    (case h_nSY_1 => k_is)
    (case h_nSY_2 => k_is)
    (case h_nSY_3 => k_is)
    (case h_nEI_0 => k_is)
    (case h_nEI_1 => k_is)
    (case h_nEI_2 => k_is)
    (case h_nEI_3 => k_is)
    (case h_nEY_0 => k_is)
    (case h_nEY_1 => k_is)
    (case h_nEY_2 => k_is)
    (case h_nEY_3 => k_is)
    (case h_nES_0 => k_is)
    (case h_nES_1 => k_is)
    (case h_nES_2 => k_is)
    (case h_nES_3 => k_is)
    (case h_nMI_0 => k_is)
    (case h_nMI_1 => k_is)
    (case h_nMI_2 => k_is)
    (case h_nMI_3 => k_is)
    (case h_nMY_0 => k_is)
    (case h_nMY_1 => k_is)
    (case h_nMY_2 => k_is)
    (case h_nMY_3 => k_is)
    (case h_nMS_0 => k_is)
    (case h_nMS_1 => k_is)
    (case h_nMS_2 => k_is)
    (case h_nMS_3 => k_is)
    (case h_nME_0 => k_is)
    (case h_nME_1 => k_is)
    (case h_nME_2 => k_is)
    (case h_nME_3 => k_is)
    (case h_nNI_0 => k_is)
    (case h_nNI_1 => k_is)
    (case h_nNI_2 => k_is)
    (case h_nNI_3 => k_is)
    (case h_nNY_0 => k_is)
    (case h_nNY_1 => k_is)
    (case h_nNY_2 => k_is)
    (case h_nNY_3 => k_is)
    (case h_nNS_0 => k_is)
    (case h_nNS_1 => k_is)
    (case h_nNS_2 => k_is)
    (case h_nNS_3 => k_is)
    (case h_nNE_0 => k_is)
    (case h_nNE_1 => k_is)
    (case h_nNE_2 => k_is)
    (case h_nNE_3 => k_is)
    (case h_nNM_0 => k_is)
    (case h_nNM_1 => k_is)
    (case h_nNM_2 => k_is)
    (case h_nNM_3 => k_is)
    (case h_nTI_0 => k_is)
    (case h_nTI_1 => k_is)
    (case h_nTI_2 => k_is)
    (case h_nTI_3 => k_is)
    (case h_nTY_0 => k_is)
    (case h_nTY_1 => k_is)
    (case h_nTY_2 => k_is)
    (case h_nTY_3 => k_is)
    (case h_nTS_0 => k_is)
    (case h_nTS_1 => k_is)
    (case h_nTS_2 => k_is)
    (case h_nTS_3 => k_is)
    (case h_nTE_0 => k_is)
    (case h_nTE_1 => k_is)
    (case h_nTE_2 => k_is)
    (case h_nTE_3 => k_is)
    (case h_nTM_0 => k_is)
    (case h_nTM_1 => k_is)
    (case h_nTM_2 => k_is)
    (case h_nTM_3 => k_is)
    (case h_nTN_0 => k_is)
    (case h_nTN_1 => k_is)
    (case h_nTN_2 => k_is)
    (case h_nTN_3 => k_is)
    (case h_mkD => k_is)
    (case h_kD => k_is)
    (case h_m_OI_0 => k_is)
    (case h_m_OI_1 => k_is)
    (case h_m_OI_2 => k_is)
    (case h_m_OI_3 => k_is)
    (case h_m_OI_4 => k_is)
    (case h_m_OI_5 => k_is)
    (case h_m_OI_6 => k_is)
    (case h_m_OI_7 => k_is)
    (case h_d_is_integer_0 => k_is)
    (case h_d_is_integer_1 => k_is)
    (case h_d_is_integer_2 => k_is)
    (case h_d_is_integer_3 => k_is)
    (case h_d_is_natural_0 => k_is)
    (case h_d_is_natural_1 => k_is)
    (case h_d_is_natural_2 => k_is)
    (case h_d_is_natural_3 => k_is)
    (case h_d_is_name_0 => k_is)
    (case h_d_is_name_1 => k_is)
    (case h_d_is_name_2 => k_is)
    (case h_d_is_name_3 => k_is)
    (case h_d_are_integers_0 => k_is)
    (case h_d_are_integers_1 => k_is)
    (case h_d_are_integers_2 => k_is)
    (case h_d_are_integers_3 => k_is)
    (case h_d_is_late_0 => k_is)
    (case h_d_is_late_1 => k_is)
    (case h_d_is_late_2 => k_is)
    (case h_d_is_late_3 => k_is)
    (case h_d_is_lates_0 => k_is)
    (case h_d_is_lates_1 => k_is)
    (case h_d_is_lates_2 => k_is)
    (case h_d_is_lates_3 => k_is)
    (case h_d_is_entry_0 => k_is)
    (case h_d_is_entry_1 => k_is)
    (case h_d_is_entry_2 => k_is)
    (case h_d_is_entry_3 => k_is)
    (case h_d_arrival_of_0 => k_is)
    (case h_d_arrival_of_1 => k_is)
    (case h_d_arrival_of_2 => k_is)
    (case h_d_arrival_of_3 => k_is)
    (case h_d_placed_0 => k_is)
    (case h_d_placed_1 => k_is)
    (case h_d_placed_2 => k_is)
    (case h_d_placed_3 => k_is)
    (case h_d_row_behind_0 => k_is)
    (case h_d_row_behind_1 => k_is)
    (case h_d_row_behind_2 => k_is)
    (case h_d_row_behind_3 => k_is)
    (case h_d_walked_0 => k_is)
    (case h_d_walked_1 => k_is)
    (case h_d_walked_2 => k_is)
    (case h_d_walked_3 => k_is)
    (case h_d_is_row_0 => k_is)
    (case h_d_is_row_1 => k_is)
    (case h_d_is_row_2 => k_is)
    (case h_d_is_row_3 => k_is)
    (case h_m_Init_0 => k_is)
    (case h_m_Init_1 => k_is)
    (case h_m_Init_2 => k_is)
    (case h_m_Init_3 => k_is)
    (case h_m_Init_4 => k_is)
    (case h_m_Has_0 => k_is)
    (case h_m_Has_1 => k_is)
    (case h_m_Has_2 => k_is)
    (case h_m_Has_3 => k_is)
    (case h_m_Has_4 => k_is)
    (case h_m_Late_0 => k_is)
    (case h_m_Late_1 => k_is)
    (case h_m_Late_2 => k_is)
    (case h_m_Late_3 => k_is)
    (case h_m_Late_4 => k_is)
    (case h_m_J_0 => k_is)
    (case h_m_J_1 => k_is)
    (case h_m_J_2 => k_is)
    (case h_m_J_3 => k_is)
    (case h_m_J_4 => k_is)
    (case h_m_J_5 => k_is)
    (case h_m_J_6 => k_is)
    (case h_m_J_7 => k_is)
    (case h_m_Then_0 => k_is)
    (case h_m_Then_1 => k_is)
    (case h_m_Then_2 => k_is)
    (case h_m_Then_3 => k_is)
    (case h_m_Then_4 => k_is)
    (case h_m_Len_0 => k_is)
    (case h_m_Len_1 => k_is)
    (case h_m_Len_2 => k_is)
    (case h_m_Len_3 => k_is)
    (case h_m_Len_4 => k_is)
    (case h_m_Beq_0 => k_is)
    (case h_m_Beq_1 => k_is)
    (case h_m_Beq_2 => k_is)
    (case h_m_Beq_3 => k_is)
    (case h_m_Beq_4 => k_is)
    (case h_bne_0 => k_is)
    (case h_bne_1 => k_is)
    (case h_bne_3 => k_is)
    (case h_bne_4 => k_is)
    (case h_bne_5 => k_is)
    (case h_m_DInit_0 => k_is)
    (case h_m_DInit_1 => k_is)
    (case h_m_DInit_2 => k_is)
    (case h_m_DInit_3 => k_is)
    (case h_m_DInit_4 => k_is)
    (case h_m_DraftOf_0 => k_is)
    (case h_m_DraftOf_1 => k_is)
    (case h_m_DraftOf_2 => k_is)
    (case h_m_DraftOf_3 => k_is)
    (case h_m_DraftOf_4 => k_is)
    (case h_m_Begin_0 => k_is)
    (case h_m_Begin_1 => k_is)
    (case h_m_Begin_2 => k_is)
    (case h_m_Begin_3 => k_is)
    (case h_m_Begin_4 => k_is)
    (case h_m_Put_0 => k_is)
    (case h_m_Put_1 => k_is)
    (case h_m_Put_2 => k_is)
    (case h_m_Put_3 => k_is)
    (case h_m_Put_4 => k_is)
    (case h_m_Row_0 => k_is)
    (case h_m_Row_1 => k_is)
    (case h_m_Row_2 => k_is)
    (case h_m_Row_3 => k_is)
    (case h_m_Row_4 => k_is)
    (case h_m_Fix_0 => k_is)
    (case h_m_Fix_1 => k_is)
    (case h_m_Fix_2 => k_is)
    (case h_m_Fix_3 => k_is)
    (case h_m_Fix_4 => k_is)
    (case h_m_Gone_0 => k_is)
    (case h_m_Gone_1 => k_is)
    (case h_m_Gone_2 => k_is)
    (case h_m_Gone_3 => k_is)
    (case h_m_Gone_4 => k_is)
    (case h_m_Drop_0 => k_is)
    (case h_m_Drop_1 => k_is)
    (case h_m_Drop_2 => k_is)
    (case h_m_Drop_3 => k_is)
    (case h_m_Drop_4 => k_is)
    (case h_m_Tell_0 => k_is)
    (case h_m_Tell_1 => k_is)
    (case h_m_Tell_2 => k_is)
    (case h_m_Tell_3 => k_is)
    (case h_m_Tell_4 => k_is)
    (case h_m_Writers_0 => k_is)
    (case h_m_Writers_1 => k_is)
    (case h_m_Writers_2 => k_is)
    (case h_m_Writers_3 => k_is)
    (case h_m_Writers_4 => k_is)
    (case h_m_Fresh_0 => k_is)
    (case h_m_Fresh_1 => k_is)
    (case h_m_Fresh_2 => k_is)
    (case h_m_Fresh_3 => k_is)
    (case h_m_Fresh_4 => k_is)
    (case h_m_Behind_0 => k_is)
    (case h_m_Behind_1 => k_is)
    (case h_m_Behind_2 => k_is)
    (case h_m_Behind_3 => k_is)
    (case h_m_Behind_4 => k_is)
    (case h_m_Close_0 => k_is)
    (case h_m_Close_1 => k_is)
    (case h_m_Close_2 => k_is)
    (case h_m_Close_3 => k_is)
    (case h_m_Close_4 => k_is)
    (case h_m_Undo_0 => k_is)
    (case h_m_Undo_1 => k_is)
    (case h_m_Undo_2 => k_is)
    (case h_m_Undo_3 => k_is)
    (case h_m_Undo_4 => k_is)
    (case h_d__law_called_0 => k_is)
    (case h_d__law_called_1 => k_is)
    (case h_d__law_called_2 => k_is)
    (case h_d__law_called_3 => k_is)
    (case h_d__law_done_0 => k_is)
    (case h_d__law_done_1 => k_is)
    (case h_d__law_done_2 => k_is)
    (case h_d__law_done_3 => k_is)
    (case h_d__law_put_in_0 => k_is)
    (case h_d__law_put_in_1 => k_is)
    (case h_d__law_put_in_2 => k_is)
    (case h_d__law_put_in_3 => k_is)
    (case h_d__law_pool_0 => k_is)
    (case h_d__law_pool_1 => k_is)
    (case h_d__law_pool_2 => k_is)
    (case h_d__law_pool_3 => k_is)
    (case h_d__law_draw_0 => k_is)
    (case h_d__law_draw_1 => k_is)
    (case h_d__law_draw_2 => k_is)
    (case h_d__law_draw_3 => k_is)
    (case h_d__law_names_0 => k_is)
    (case h_d__law_names_1 => k_is)
    (case h_d__law_names_2 => k_is)
    (case h_d__law_names_3 => k_is)
    (case h_d__law_lates_0 => k_is)
    (case h_d__law_lates_1 => k_is)
    (case h_d__law_lates_2 => k_is)
    (case h_d__law_lates_3 => k_is)
    (case h_d__law_amount_0 => k_is)
    (case h_d__law_amount_1 => k_is)
    (case h_d__law_amount_2 => k_is)
    (case h_d__law_amount_3 => k_is)
    (case h_d__law_entry_0 => k_is)
    (case h_d__law_entry_1 => k_is)
    (case h_d__law_entry_2 => k_is)
    (case h_d__law_entry_3 => k_is)
    (case h_d__law_put_0 => k_is)
    (case h_d__law_put_1 => k_is)
    (case h_d__law_put_2 => k_is)
    (case h_d__law_put_3 => k_is)
    (case h_d__law_entries_0 => k_is)
    (case h_d__law_entries_1 => k_is)
    (case h_d__law_entries_2 => k_is)
    (case h_d__law_entries_3 => k_is)
    (case h_d__law_states_0 => k_is)
    (case h_d__law_states_1 => k_is)
    (case h_d__law_states_2 => k_is)
    (case h_d__law_states_3 => k_is)
    (case h_d__law_drafted_0 => k_is)
    (case h_d__law_drafted_1 => k_is)
    (case h_d__law_drafted_2 => k_is)
    (case h_d__law_drafted_3 => k_is)
    (case h_d__law_is_good_0 => k_is)
    (case h_d__law_is_good_1 => k_is)
    (case h_d__law_is_good_2 => k_is)
    (case h_d__law_is_good_3 => k_is)
    (case h_d__law_bad_from_0 => k_is)
    (case h_d__law_bad_from_1 => k_is)
    (case h_d__law_bad_from_2 => k_is)
    (case h_d__law_bad_from_3 => k_is)
    (case h_d__law_due_0 => k_is)
    (case h_d__law_due_1 => k_is)
    (case h_d__law_due_2 => k_is)
    (case h_d__law_due_3 => k_is)
    (case h_d__law_full_0 => k_is)
    (case h_d__law_full_1 => k_is)
    (case h_d__law_full_2 => k_is)
    (case h_d__law_full_3 => k_is)
    (case h_TE_1 => decide +kernel)
    (case h_TE_16 => ks_is)
    (case h_TE_19 => decide +kernel)
    (case h_TE_22 => exact rfl)
    (case h_TE_23 => exact rfl)
    (case h_TE_24 => exact fun s u v => .of_eq rfl)
    (case h_TE_26 => exact rfl)
    (case h_TE_27 => decide +kernel)
    (case h_TE_28 => decide +kernel)
    (case h_TI_1 => decide +kernel)
    (case h_TI_16 => ks_is)
    (case h_TI_19 => decide +kernel)
    (case h_TI_22 => exact rfl)
    (case h_TI_23 => exact rfl)
    (case h_TI_24 => exact fun s u v => .of_eq rfl)
    (case h_TI_26 => exact rfl)
    (case h_TI_27 => decide +kernel)
    (case h_TI_28 => decide +kernel)
    (case h_TY_1 => decide +kernel)
    (case h_TY_16 => ks_is)
    (case h_TY_19 => decide +kernel)
    (case h_TY_22 => exact rfl)
    (case h_TY_23 => exact rfl)
    (case h_TY_24 => exact fun s u v => .of_eq rfl)
    (case h_TY_26 => exact rfl)
    (case h_TY_27 => decide +kernel)
    (case h_TY_28 => decide +kernel)
    (case h_TS_1 => decide +kernel)
    (case h_TS_16 => ks_is)
    (case h_TS_19 => decide +kernel)
    (case h_TS_22 => exact rfl)
    (case h_TS_23 => exact rfl)
    (case h_TS_24 => exact fun s u v => .of_eq rfl)
    (case h_TS_26 => exact rfl)
    (case h_TS_27 => decide +kernel)
    (case h_TS_28 => decide +kernel)
    (case h_TM_1 => decide +kernel)
    (case h_TM_16 => ks_is)
    (case h_TM_19 => decide +kernel)
    (case h_TM_22 => exact rfl)
    (case h_TM_23 => exact rfl)
    (case h_TM_24 => exact fun s u v => .of_eq rfl)
    (case h_TM_26 => exact rfl)
    (case h_TM_27 => decide +kernel)
    (case h_TM_28 => decide +kernel)
    (case h_TN_1 => decide +kernel)
    (case h_TN_16 => ks_is)
    (case h_TN_19 => decide +kernel)
    (case h_TN_22 => exact rfl)
    (case h_TN_23 => exact rfl)
    (case h_TN_24 => exact fun s u v => .of_eq rfl)
    (case h_TN_26 => exact rfl)
    (case h_TN_27 => decide +kernel)
    (case h_TN_28 => decide +kernel)
    (case h_xT_2 => first | rfl | decide +kernel)
    (case h_xT_6 => first | rfl | decide +kernel)
    (case h_bne_2 => first | rfl | decide +kernel)
    (case h_bne_6 => rfl)

