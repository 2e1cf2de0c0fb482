import PyProof.Rows.All
import Wide.All
import OpenK.AllK
import Wide.FinOn
import PyProof.EqAt
import PyProof.EqKinds
import PyProof.TupleCall
import KE.KExcSuper
import HandS.ForMost
import HandS.ForExc
import HandS.ExcInit
import HandS.IsInst
import HandS.Wide
import HandS.Star
import HandS.CallSlots
import HandS.DictComp
import HandS.OwnEq
import HandS.Codes
import HandS.Defaults
import HandS.Walk
import PySem.Challenge.RW_asofhall_k72_closes_taken_back
import HandS.More
import KE.GoesMore
import HandS.ExcCtx
import HandS.HotCalls
import HandS.SuiteRaise
import HandS.RaiseFrom
import PyProof.NeKinds
import HandS.Zip
import HandS.Deep
import PyProof.InstNe
import OpenK.KOwn
import OpenK.KOps
import HandS.Sort
import PyProof.DelItemList
import HandS.Flow
import HandS.Small
import HandS.ExcOwn
import HandS.TupAny
import HandS.Exc
import HandS.TryMany
set_option Elab.async false
set_option linter.all false
set_option maxRecDepth 100000
set_option maxHeartbeats 4000000
namespace PySem
namespace BadX
open PySem.W PySem.Calls PyProof.Rows PySem.HandSPX
/-- super().__init__(text); self.fl = par -/
def shape (tx par fl : Str) (p0 p1 p2 p3 p4 p5 p6 p7 p8 p9 : Pos) (j : Nat) : List Stmt :=
  [.Expr (.Call (.Attribute (.Call (.Name "super" p0) [] [] p1) "__init__" p2) [.Constant (.str tx) j p3] [] p4) p5,
   .Assign [.Attribute (.Name "self" p6) fl p7] (.Name par p8) p9]
def sco (par : Str) : Scope := { kind := .function, names := [(PySem.Str.ofString "self", .local), (par, .local), (PySem.Str.ofString "__class__", .free), (PySem.Str.ofString "super", .globalImplicit)], isGenerator := false, isCoroutine := false, more := [] }
/-- what the written part says of an own error's class at C, its __init__ at fI, whose one field is fl -/
structure Txt (P : Program) (K : Frag) (mg : Str → Option Value) (par fl : Str) (C fI : Addr) : Prop where
  cls : ∃ nm q N bs bm sn sub ab col dd k0 k1 k2 k3 k5, K.lookup C = some (excClassObj nm q C N bs bm true sn sub ab col dd k0 k1 k2 k3 k5 "ValueError.__new__") ∧ refsVE bm = true
  sa : findIn K (.ref C) "__setattr__" = some (some (.builtin "object.__setattr__"))
  ga : findIn K (.ref C) "__getattribute__" = some (some (.builtin "BaseException.__getattribute__"))
  gg : findIn K (.ref C) "__getattr__" = some none
  noN : findIn K (.ref C) fl = some none
  iC : findIn K (.ref C) "__init__" = some (some (.ref fI))
  tC : typeIn K (.ref fI) = some (.type "function")
  kC : keepIn K (.ref C) = true
  exC : subIn K (.ref C) (.type "BaseException") = some true
  veC : subIn K (.ref C) (.type "ValueError") = some true
  slf : mroIn K C (.ref C) = some true
  tyC : typeIn K (.ref C) = some (.type "type")
  hdC : hasDictIn K C = true
  te : exmOne K (.ref C) (.ref C) = some true
  along : ks_superIn K C C "__init__" = some (some (.builtin "ValueError.__init__"))
  opq : nsIn K cStatics "thirdparty.any" = some none
  sup : mg "super" = none
  top : (P.main.scope.names.lookup ("super" : Str)).isSome = false
  fn : ∃ (oc : Value) (od : Option Addr) (qual tx : Str) (doc pm : Value) (an : Option Addr) (cda cc : Addr) (ct : Value) (osl : Array (Option Value)) (pa : Arguments) (p0 p1 p2 p3 p4 p5 p6 p7 p8 p9 : Pos) (j : Nat) (a0 : Arg),
    K.lookup fI = some ⟨oc, od, .func (ksFn "__init__" qual pa (shape tx par fl p0 p1 p2 p3 p4 p5 p6 p7 p8 p9 j) (sco par) .none .none doc pm an (.ref cda) ct cc), osl⟩ ∧ codeIn K (.ref cda) qual = true ∧
    (pa.posonlyargs ++ pa.args).head? = some a0 ∧ a0.arg = "self" ∧
    (∀ (s : Shared) (u v : Value), BindsTo s (ksFn "__init__" qual pa (shape tx par fl p0 p1 p2 p3 p4 p5 p6 p7 p8 p9 j) (sco par) .none .none doc pm an (.ref cda) ct cc) ⟨[u, v], []⟩ [("self", u), (par, v)]) ∧
    (∃ ccl cdd vs ccs file tf, K.lookup cda = some ⟨ccl, cdd, .fields vs, ccs⟩ ∧ vs[2]? = some (.str file tf) ∧ ((P.main.file : Str) == file) = true) ∧
    (p2.endLine == p4.line) = true ∧
    (∃ cl cld csl, K.lookup cc = some ⟨cl, cld, .cell (some (.ref C)), csl⟩)
/-- what __init__ leaves of a fresh exception at x -/
structure Left (fl : Str) (h h' : Heap) (x C dx t1 : Addr) (v : Value) : Prop where
  keep : ∀ b o, b ≠ x → h.get? b = some o → h'.get? b = some o
  obj : h'.get? x = some { cls := .ref C, dict := some dx, data := .fields #[.ref t1, .none, .none, .none, .bool false, .none] }
  dbig : h.objs.size ≤ dx
  dne : dx ≠ x
  ns : h'.Ns1 dx (fun y => if y = fl then some v else none)
section
variable {prog : Program} {w : World} {A : Around} {E : Value → Shared → Prop} {R : Result → Shared → Prop} {s : Shared} {K : Frag} {mg mb : Str → Option Value} {C fI : Addr} {par fl : Str}
/-- the wrapper of ValueError.__init__, bound to x, called -/
theorem call_bound {h : Heap} {g : Array GenState} {d : Drawn} {t : Nat} {os : OsState} {u x t0 : Addr} {rest : List Value} {Q : Value → Shared → Prop} {nm q : Str} {N : Addr} {bs bm : List Value} {sn : List Str} {sub : List Value} {ab : Bool} {col : Option Bool} {dd : Option Addr} {k0 k1 k2 k3 k5 : Option Value}
    (hC : h.get? C = some (excClassObj nm q C N bs bm true sn sub ab col dd k0 k1 k2 k3 k5 "ValueError.__new__")) (hx : h.get? x = some (excO C t0)) (hu : h.get? u = some (kxs_mw "ValueError.__init__" x)) (hr : rest.length ≤ sizeLine)
    (hq : ∀ h', (∀ b o, b ≠ x → h.get? b = some o → h'.get? b = some o) → h'.get? x = some (excO C h.objs.size) → Q .none ⟨h', g, d, t, os⟩) :
    wpAny (model prog w) A (call (.ref u) rest) Q E ⟨h, g, d, t, os⟩ := by
  have FB := F.excBase_ValueError
  refine wpAny_call (codeAny_of_tree ?_)
  show wpAny _ A.in1 (callAny (.ref u) ⟨rest, []⟩) _ _ _
  simp only [callAny]
  refine wpAny_bind (wpAny_load hu ?_)
  have c1 : (Value.type "method-wrapper" == Value.type "method" || Value.type "method-wrapper" == Value.type "builtin_function_or_method" || Value.type "method-wrapper" == Value.type "method-wrapper") = true := by decide
  simp only [kxs_mw, c1, if_true]
  refine KFB.if_so (by decide) (wpAny_bind (check_bound_init FB.toExcCallFacts hC hx rfl (wpAny_bind (wpAny_pure (wpAny_pure ⟨plainId_quiet FB.init.plain _, codeAny_builtin FB.initEntry ?_⟩)))))
  exact exc_init_tree (cls := .ref C) (t0 := t0) (dv := none) (c2 := .none) (c3 := .none) (b4 := .bool false) hx hr fun h' k e' _ => hq h' k e'
theorem init_ok {x t0 : Addr} {v : Value} (T : Txt prog K mg par fl C fI) (X : K.In s.heap) (G : s.heap.Ns mainGlobals mg) (B : s.heap.Ns builtinsNs mb) (hb : mb "super" = some (.type "super")) (hlim : s.heap.NoLimit)
    (hx : s.heap.get? x = some (excO C t0)) (hnx : K.lookup x = none) (hroom : A.depth < recursionLimit) (hp1 : (par == ("__debug__" : Str)) = false) (hp2 : ¬ par = "self")
    (hloc : (sco par).names.lookup par = some .local) (hks : (sco par).names.lookup ("super" : Str) = some .globalImplicit) (hkc : (sco par).names.lookup ("__class__" : Str) = some .free)
    (hq : ∀ h' tk t1 dx, Left fl s.heap h' x C dx t1 v → R (.ok (.ret .none)) { s with heap := h', toks := tk }) :
    codeAny (model prog w) A (.call (.ref fI) ⟨[.ref x, v], []⟩) R s := by
  obtain ⟨oc, od, qual, tx, doc, pm, an, cda, cc, ct, osl, pa, p0, p1, p2, p3, p4, p5, p6, p7, p8, p9, j, a0, ho, hcd, ha0, ha1, hbd, ⟨ccl, cdd, vs, ccs, file, tf, hcode, hvs, hfile⟩, hpe, ⟨cl, cld, csl, hcell⟩⟩ := T.fn
  obtain ⟨nm, q, N, bs, bm, sn, sub, ab, col, dd, k0, k1, k2, k3, k5, hC, hbm⟩ := T.cls
  have hcl : clsIn K C = some { name := nm, bases := bs, mro := .ref C :: bm, ns := N, qualname := q, hasDict := true, slotNames := sn, subclasses := sub, abstract := ab, collection := col, hasDel := false } := by unfold clsIn; rw [hC] <;> rfl
  refine ks_codeAny_call_defAt (binds := [("self", .ref x), (par, v)]) hroom (X _ _ ho) rfl hlim (codeRec_of X hcd) rfl (hbd s (.ref x) v) ?_ ?_ (fun h₁ hns hk₁ => ?_)
  · intro y hy
    have : y ∈ [(PySem.Str.ofString "self", NameKind.local), (par, .local), (PySem.Str.ofString "__class__", .free), (PySem.Str.ofString "super", .globalImplicit)] := hy
    simp only [List.mem_cons, List.not_mem_nil, or_false] at this
    rcases this with rfl | rfl | rfl | rfl <;> (intro z; cases z)
  · intro y hy
    simp only [List.mem_cons, List.not_mem_nil, or_false] at hy
    rcases hy with rfl | rfl
    · exact (by rfl : (sco par).names.lookup ("self" : Str) = some .local)
    · exact hloc
  have hself : ([(("self" : Str), Value.ref x), (par, v)] : List (Str × Value)).reverse.lookup ("self" : Str) = some (Value.ref x) := by
    show List.lookup ("self" : Str) [(par, v), (("self" : Str), Value.ref x)] = _
    have e1 : (("self" : Str) == par) = false := by simpa using fun z => hp2 z.symm
    simp [List.lookup, e1]
  have hpar : ([(("self" : Str), Value.ref x), (par, v)] : List (Str × Value)).reverse.lookup par = some v := by
    show List.lookup par [(par, v), (("self" : Str), Value.ref x)] = _
    simp [List.lookup]
  have X₁ : K.In h₁ := X.keeps hk₁
  have hx₁ := hk₁ _ _ hx
  refine ks_wpAt_execs_cons (ks_wpAt_Expr_any (ks_wpAt_MethodCall (pl := ?pl) ?_ ?he))
  case he =>
    rw [arm_eval_Call]
    unfold methodCall methodCallPos
    rw [hpe]
    with_unfolding_all rfl
  refine ks_wpAt_super_base (hks := hks) (hkc := hkc) (by decide +kernel) rfl (X₁ _ _ ho) rfl ha0 rfl (X₁ _ _ hcode) rfl hvs hfile T.top ?_
  refine ks_loadName_global rfl hks (loadGlobal_builtin (G.keeps hk₁) T.sup (B.keeps hk₁) hb ⟨rfl, ?_⟩)
  refine wpAny_loadName_free rfl hkc rfl ⟨_, X₁ _ _ hcell, rfl⟩ ?_
  rw [ha1]
  refine wpAny_loadName_local rfl rfl hns hself ?_
  refine ks_wpAny_isType_cls (X₁ _ _ hC) rfl ⟨rfl, ?_⟩
  refine ks_wpAny_call_super (X₁ _ _ hC) rfl hx₁ rfl (fun c e => by cases e) (looks_mroIn X₁ T.slf) (fun h₂ e₂ k₂ => ?_)
  have X₂ : K.In h₂ := X₁.keeps k₂
  have hx₂ := k₂ _ _ hx₁
  have I₂ : InstAt h₂ x (excO C t0) C none := ⟨hx₂, rfl, rfl, trivial⟩
  have hal := T.along
  unfold ks_superIn at hal
  rw [hcl] at hal
  refine kxs_getMethod kxs_ValueError e₂ (looks_opaque X₂ T.opq) (l₀ := .ref C :: bm) ?_ rfl X₂ hal (I₂.type.andThen (looks_subIn X₂ T.veC)) (ks_ne X₂ I₂ hcl) (by decide +kernel) ?_
  · exact fun A Q E s k q => wpAny_bind ((looks_clsIn X₂ hcl) A _ E s k (wpAny_pure q))
  have hu : (h₂.push (kxs_mw "ValueError.__init__" x)).get? h₂.objs.size = some (kxs_mw "ValueError.__init__" x) := Heap.get?_push_at rfl rfl
  have k₃ : ∀ b o, h₂.get? b = some o → (h₂.push (kxs_mw "ValueError.__init__" x)).get? b = some o := fun b o e => Heap.get?_push_of_some _ e
  let H₃ := h₂.push (kxs_mw "ValueError.__init__" x)
  refine kxs_callWith1 (i := "ValueError.__init__") (x := x) (u := h₂.objs.size) (h₀ := Att.noObjs H₃) (L := h₂.objs.size + 7) (news := [(h₂.objs.size, kxs_mw "ValueError.__init__" x)]) (fun q hq => ?_) (List.Mem.head _) ?_
  · rcases List.mem_cons.mp hq with rfl | hq
    · exact ⟨hu, by show h₂.objs.size ≠ h₂.objs.size + 7; omega, Att.noObjs_get _ _⟩
    · cases hq
  refine wpAny_items_cons (Constant_str ?_)
  refine wpAny_items_nil ⟨hu, ?_⟩
  have X₃ : K.In (h₂.push (kxs_mw "ValueError.__init__" x)) := X₂.keeps k₃
  refine call_bound (X₃ _ _ hC) (k₃ _ _ hx₂) hu (by rw [sizeLine_eq]; exact (by decide : 1 ≤ 16777216)) fun h₄ k₄ e₄ => ?_
  -- self.fl = par
  have k14 : ∀ b o, b ≠ x → h₁.get? b = some o → h₄.get? b = some o := fun b o hb e => k₄ b o hb (k₃ b o (k₂ b o e))
  have xL : s.heap.objs.size ≠ x := Nat.ne_of_gt (Heap.lt_size hx)
  obtain ⟨oL, es, ep, hL, hr⟩ := hns
  have hns₄ : h₄.Ns s.heap.objs.size (fun y => ([(("self" : Str), Value.ref x), (par, v)] : List (Str × Value)).reverse.lookup y) := ⟨oL, es, ep, k14 _ _ xL hL, hr⟩
  have X₄ : K.In h₄ := fun a o e => k₄ a o (fun z => by rw [z, hnx] at e; cases e) (X₃ a o e)
  refine wpAt_of_wpAny (wpAny_execs_cons (plainObj_wpAny_Assign_Attribute ?_))
  refine wpAny_Name (wpAny_loadName_local rfl hloc hns₄ hpar ?_) hp1
  refine wpAny_Name (wpAny_loadName_local rfl rfl hns₄ hself ?_) (by decide)
  refine set_plain X₄ (ox := excO C h₂.objs.size.succ) (od := none) ⟨?_, rfl, rfl, trivial⟩ T.sa ?_
  · show h₄.get? x = some (excO C h₂.objs.size.succ)
    rw [e₄, Heap.size_push]
  have e₄' : h₄.get? x = some (excO C h₂.objs.size.succ) := by
    rw [e₄, Heap.size_push]
  refine exc_osa X₄ e₄' hcl (show refsVE (.ref C :: bm) = true from hbm) rfl T.noN (fun h₅ tk₅ dx k₅ dn dne hx₅ hn₅ => ?_)
  have z1 : s.heap.objs.size < h₄.objs.size := Heap.lt_size (k14 _ _ xL hL)
  refine wpAny_execs_nil (hq h₅ tk₅ _ dx ⟨fun b o hb e => k₅ b o hb (k14 b o hb (hk₁ b o e)), hx₅, Nat.le_of_lt (Nat.lt_of_lt_of_le z1 dn), dne, hn₅⟩)
theorem one_le (v : Value) : [v].length ≤ sizeLine := by
  rw [sizeLine_eq]
  exact (by decide : 1 ≤ 16777216)
/-- a made error -/
structure Made (fl : Str) (h h' : Heap) (e C d : Addr) (v : Value) : Prop where
  keep : ∀ b o, h.get? b = some o → h'.get? b = some o
  new : h.objs.size ≤ e
  obj : ∃ oe vs, h'.get? e = some oe ∧ oe.cls = .ref C ∧ oe.dict = some d ∧ oe.data = .fields vs ∧ vs[1]? = some .none ∧ vs[2]? = some .none ∧ 4 < vs.size
  dbig : h.objs.size ≤ d
  dne : d ≠ e
  ns : h'.Ns1 d (fun y => if y = fl then some v else none)
/-- the names of such an __init__ -/
structure Par (par : Str) : Prop where
  p1 : (par == ("__debug__" : Str)) = false
  p2 : ¬ par = "self"
  p3 : (sco par).names.lookup par = some .local
  p4 : (sco par).names.lookup ("super" : Str) = some .globalImplicit
  p5 : (sco par).names.lookup ("__class__" : Str) = some .free
theorem made_ok {v : Value} (T : Txt prog K mg par fl C fI) (p : Par par) (X : K.In s.heap) (G : s.heap.Ns mainGlobals mg) (B : s.heap.Ns builtinsNs mb) (hb : mb "super" = some (.type "super")) (hlim : s.heap.NoLimit) (hroom : A.depth + 1 < recursionLimit)
    (hq : ∀ h' tk e d, Made fl s.heap h' e C d v → R (.ok (.ret (.ref e))) { s with heap := h', toks := tk }) :
    codeAny (model prog w) A (.call (.ref C) ⟨[v], []⟩) R s := by
  obtain ⟨nm, q, N, bs, bm, sn, sub, ab, col, dd, k0, k1, k2, k3, k5, hC, hbm⟩ := T.cls
  obtain ⟨hp, g, dr, tk, os⟩ := s
  let hp2 := (hp.push (kdv_tup [v])).push (excO C hp.objs.size)
  have k : ∀ b o, hp.get? b = some o → hp2.get? b = some o := fun b o e => Heap.get?_push_of_some _ (Heap.get?_push_of_some _ e)
  have hget : hp2.get? (hp.objs.size + 1) = some (excO C hp.objs.size) := by
    show ((hp.push (kdv_tup [v])).push (excO C hp.objs.size)).get? (hp.objs.size + 1) = _
    heap_get
  have hsz : hp2.objs.size = hp.objs.size + 2 := by
    show ((hp.push (kdv_tup [v])).push (excO C hp.objs.size)).objs.size = _
    rw [Heap.size_push, Heap.size_push]
  have hnx : K.lookup (hp.objs.size + 1) = none := by
    cases e : K.lookup (hp.objs.size + 1) with
    | none => rfl
    | some o => exact absurd (Nat.lt_of_succ_lt (Heap.lt_size (show hp.get? _ = some o from X _ _ e))) (Nat.lt_irrefl _)
  refine call_own F.excBase_ValueError (fun Y => refsVE_contains Y bm hbm) (X _ _ hC) (looks_findIn X T.iC) (fun self => bind_fn X self T.tC) (one_le v) ?_
  refine init_ok (s := ⟨hp2, g, dr, tk, os⟩) T (X.keeps k) (G.keeps k) (B.keeps k) hb (hlim.keeps k) hget hnx (show A.depth + 1 < recursionLimit from hroom) p.p1 p.p2 p.p3 p.p4 p.p5 fun h' tk' t1 dx ⟨k', hx, dn, dne, hns⟩ => ?_
  have old : ∀ b o, hp.get? b = some o → h'.get? b = some o := fun b o e => k' b o (Nat.ne_of_lt (Nat.lt_succ_of_lt (Heap.lt_size e))) (k b o e)
  have dn' : hp2.objs.size ≤ dx := dn
  rw [hsz] at dn'
  exact ⟨rfl, hq h' tk' (hp.objs.size + 1) dx ⟨old, Nat.le_succ _, ⟨_, _, hx, rfl, rfl, rfl, rfl, rfl, (show 4 < 6 by decide)⟩, (by show hp.objs.size ≤ dx; omega), dne, hns⟩⟩
end
end BadX
end PySem
namespace L2
open PySem PySem.Spec PyProof.Rows
theorem relO_one {v : V} {v' : Value} (r : RelV v v') (fl f : Str) : RelO (List.lookup f [(fl, v)]) (if f = fl then some v' else none) := by
  by_cases hw : f = fl
  · subst hw
    rw [if_pos rfl]
    have q : List.lookup f [(f, v)] = some v := by simp [List.lookup]
    rw [q]
    exact r
  · rw [if_neg hw]
    have qw : (f == fl) = false := by simpa using hw
    have q2 : List.lookup f [(fl, v)] = none := by simp [List.lookup, qw]
    rw [q2]
    trivial
section
variable {X : Cx} {C fI : Addr}
/-- Cls(e), an own error with the one field fl -/
def tMkB (fl : Str) (C : Addr) (ta : TA) : St → Hp → XK → Prop := fun σ H Q => ta σ H fun vs H1 => ∃ v, vs = [v] ∧ ∀ d, H1 d = none → Q (.ref C) (some d) (upd H1 d (.xd [(fl, v)]))
theorem pmk_bad {x par fl : Str} {a : Expr} {ta : TA} {p pos : Pos} {k : Nat} (T : PySem.BadX.Txt X.prog X.K X.mg par fl C fI) (pr : PySem.BadX.Par par) (hm : X.mg x = some (.ref C)) (hr : Room k X.A) (ha : PA X [a] ta) (hg : Gl X x)
    (hdb : (x == ("__debug__" : Str)) = false := by decide)
    (he : starEach (a :: []) X.env = (false, eval a X.env) :: starEach [] X.env := by rfl) (hpl : (backTo pos (starEach [] X.env)).any (·.1) = false := by rfl) :
    PMk X (.Call (.Name x p) [a] [] pos) (tMkB fl C ta) := by
  intro pins s σ H Q I h
  refine wpAny_Call_Name_kw (ld_glob I hg hm ?_ hdb)
  refine PySem.W.callWith_K (h₀ := X.base) I.ok.mod.kin T.kC (thn (ha.run pos pins s σ H _ I h) fun us s1 hh => ?_) he hpl
  obtain ⟨vs, H1, I1, r1, v, ev, q1⟩ := hh
  subst ev
  refine ⟨I1.kIn, ?_⟩
  cases r1 with
  | cons rv rn =>
    rename_i v' us'
    cases rn
    show wpAny _ _ (call (.ref C) [v']) _ _ _
    have hlim := I1.nolimit
    obtain ⟨mb, hb1, hb2⟩ := I1.mod.blt
    have Gn : s1.heap.Ns mainGlobals X.mg := I1.mod.glob.keeps I1.bk
    have Bn : s1.heap.Ns builtinsNs mb := hb1.keeps I1.bk
    have hbs : mb "super" = some (.type "super") := (hb2 _ (by decide +kernel)).trans (by first | boot_by_name | rfl | kernel_rfl)
    obtain ⟨hp, g, dr, tk, os⟩ := s1
    refine wpAny_call (PySem.BadX.made_ok T pr I1.kIn Gn Bn hbs hlim (by have := hr.dp; omega) fun h' tk' e d M => ?_)
    show MkP X pins σ Q (.ref e) ⟨h', g, dr, tk', os⟩
    obtain ⟨oe, fv, hoe, hc, hd, hdat, h1, _⟩ := M.obj
    have hns := M.ns
    obtain ⟨G', g1, g2⟩ := restrict h' fun b => decide (b ≠ e)
    have gk : ∀ b, b ≠ e → G'.get? b = h'.get? b := fun b hb => g1 b (decide_eq_true hb)
    have ge : G'.get? e = none := g2 e (by simp)
    have old : ∀ b o, hp.get? b = some o → G'.get? b = some o := fun b o q => (gk b (Nat.ne_of_lt (Nat.lt_of_lt_of_le (Heap.lt_size q) M.new))).trans (M.keep b o q)
    have ob : ObjOk X.prog X.w (upd H1 d (.xd [(fl, v)])) G' d (.xd [(fl, v)]) :=
      ⟨_, hns.at (fun o q => (gk d M.dne).trans q), fun f => relO_one rv fl f⟩
    have J : Inv X pins σ (upd H1 d (.xd [(fl, v)])) ⟨G', g, dr, tk', os⟩ := I1.laid (t' := tk') old M.dbig ob
    refine ⟨e, oe, fv, ⟨G', g, dr, tk', os⟩, _, .ref C, some d, rfl, J, fun b o q => ?_, ge, hoe, ⟨hc, hd⟩, hdat, h1, ?_, rfl, I1.bare, raises_own T.exC T.tyC, q1 d (I1.hok.fresh M.dbig)⟩
    · by_cases hb : b = e
      · have q' : G'.get? b = some o := q
        rw [hb, ge] at q'; cases q'
      · exact (gk b hb).symm.trans q
    · rw [upd_ne (Ne.symm M.dne)]
      exact I1.hok.fresh M.new
/-- raise Cls(e) -/
def tRaiseB (fl : Str) (C : Addr) (W : WX) (ta : TA) : TS := fun _ σ H => tMkB fl C ta σ H fun cls d H' => W cls d σ H'
theorem ps_raiseB {x par fl : Str} {a : Expr} {ta : TA} {W : WX} {p pos pos2 : Pos} {k : Nat} (hc : X.calm = true) (T : PySem.BadX.Txt X.prog X.K X.mg par fl C fI) (pr : PySem.BadX.Par par) (hm : X.mg x = some (.ref C)) (hr : Room k X.A) (tk : Takes X W) (ha : PA X [a] ta) (hg : Gl X x)
    (hdb : (x == ("__debug__" : Str)) = false := by decide)
    (he : starEach (a :: []) X.env = (false, eval a X.env) :: starEach [] X.env := by rfl) (hpl : (backTo pos (starEach [] X.env)).any (·.1) = false := by rfl) :
    PS X (.Raise (some (.Call (.Name x p) [a] [] pos)) none pos2) (tRaiseB fl C W ta) := ps_raise hc tk (pmk_bad T pr hm hr ha hg hdb he hpl)
end
end L2

set_option Elab.async false
set_option linter.all false
set_option maxRecDepth 100000
set_option maxHeartbeats 4000000
namespace Ash
open PySem PySem.Spec PyProof.Rows L2
abbrev topS (i : Nat) : Stmt := PySem.Challenge.pw_asofhall_k72_closes_taken_back.main.body.getD i (.Pass ⟨0, 0, 0, 0⟩)
/-- a def of the top by its name, with its promise -/
structure Cal (P : Program) (w : World) (K : PySem.W.Frag) (mg : Str → Option Value) (base : Heap) (CX : CXT) (x : Str) (k : Nat) (ps : List Str) (sp : Sp) : Prop where
  ex : ∃ f fd, mg x = some (.ref f) ∧ PySem.W.keepIn K (.ref f) = true ∧ Binds K fd ps [] ∧ FnOk P w K mg base CX k f fd ps sp
section
variable {X : Cx} {CX : CXT} {k j : Nat} {ps : List Str} {sp : Sp} {E : XK} {x : Str} {p pos : Pos} {e : Expr} {es : List Expr} {t : TA}
theorem pe_cal (G : Cal X.prog X.w X.K X.mg X.base CX x k ps sp) (hr : Room k X.A) (hx : Passes CX X E) (ha : PA X (e :: es) t) (hg : Gl X x := by rfl)
    (hdb : (x == ("__debug__" : Str)) = false := by decide) (he : starEach (e :: es) X.env = (false, eval e X.env) :: starEach es X.env := by rfl) (hpl : (backTo pos (starEach es X.env)).any (·.1) = false := by rfl) :
    PE X (.Call (.Name x p) (e :: es) [] pos) (tCall sp [] E t) := by
  obtain ⟨f, fd, hm, hk, hb, F⟩ := G.ex
  exact pe_call F hr hg hm hk hb .nil hx ha hdb he hpl
theorem pe_calS {E : L2.St → XK} (G : Cal X.prog X.w X.K X.mg X.base CX x k ps sp) (hr : Room k X.A) (hx : ∀ σ, PassesAt CX X σ (E σ)) (ha : PA X (e :: es) t) (hg : Gl X x := by rfl)
    (hdb : (x == ("__debug__" : Str)) = false := by decide) (he : starEach (e :: es) X.env = (false, eval e X.env) :: starEach es X.env := by rfl) (hpl : (backTo pos (starEach es X.env)).any (·.1) = false := by rfl) :
    PE X (.Call (.Name x p) (e :: es) [] pos) (tCallSD sp [] E t) := by
  obtain ⟨f, fd, hm, hk, hb, F⟩ := G.ex
  exact pe_callSD F hr hg hm hk hb .nil hx ha hdb he hpl
/-- a class by its name, with its __init__'s promise -/
structure Mak (P : Program) (w : World) (K : PySem.W.Frag) (mg : Str → Option Value) (base : Heap) (CX : CXT) (x : Str) (C : Addr) (k : Nat) (ps : List Str) (sp : Sp) : Prop where
  ex : ∃ f fd, Mk K C f ∧ mg x = some (.ref C) ∧ Binds K fd ps [] ∧ FnOk P w K mg base CX k f fd ps sp
theorem pe_mak {C : Addr} (G : Mak X.prog X.w X.K X.mg X.base CX x C k ps sp) (hr : Room (k + 1) X.A) (hx : Passes CX X E) (ha : PA X (e :: es) t) (hg : Gl X x := by rfl)
    (hdb : (x == ("__debug__" : Str)) = false := by decide) (he : starEach (e :: es) X.env = (false, eval e X.env) :: starEach es X.env := by rfl) (hpl : (backTo pos (starEach es X.env)).any (·.1) = false := by rfl) :
    PE X (.Call (.Name x p) (e :: es) [] pos) (tMake C sp [] E t) := by
  obtain ⟨f, fd, M, hm, hb, F⟩ := G.ex
  exact pe_make M F hr hg hm hb .nil hx ha hdb he hpl
/-- int(n) of an int -/
theorem call_intI : CallR X (.type "int") (fun xs H Q => ∃ i, xs = [.int i] ∧ Q (.int i) H) := by
  intro pins s σ H xs us Q I r h
  exact call_int1 pins s σ H xs us Q I r (.inl h)
end
/-- what is wanted of an exception at any slots of the def -/
def WEl (X : Cx) (W : WX) : XK := fun cls d H => ∀ σ : L2.St, σ.length = X.N.length → W cls d σ H
theorem passW {X : Cx} {W : WX} (tk : Takes X W) : Passes (L2.CX X.prog X.w) X (WEl X W) := fun _ σ _ _ e s' I c => tk e s' (XE.of_call I (fun cls d H' h => h σ I.len) c)
theorem passE {X : Cx} {E : XK} (tk : Takes X (fun cls d _ H => E cls d H)) : Passes (L2.CX X.prog X.w) X E := passes_call tk fun _ _ _ _ h => h
/-- a method of a class, with its promise -/
structure Met (P : Program) (w : World) (K : PySem.W.Frag) (mg : Str → Option Value) (base : Heap) (CX : CXT) (C : Addr) (m : Str) (k : Nat) (ps : List Str) (sp : Sp) : Prop where
  ex : ∃ f fd, Meth K C m f ∧ Binds K fd ps [] ∧ FnOk P w K mg base CX k f fd ps sp
/-- a dict comprehension over a walk: as lc_it -/
theorem dc_it {J : It} {n : Nat} {W0 : Hp → Prop} {Y : Nat → Hp → V → Hp → Prop} (wk : Walk J n W0 Y) {g : TG} {tt : TT} {tk tv : TE} {vs : List Nat} {σ : L2.St} {H1 : Hp} {D : Addr} {Qd : Hp → Prop} (Pv : Nat → Hp → Prop) (h0 : Pv 0 (upd H1 D (.dK []))) (hG : ∀ i H, i ≤ n → Pv i H → W0 H)
    (hs : ∀ i x H H', i < n → Pv i H → Y i H x H' → g x (wipe σ vs) H' fun σ2 H2 => wipe σ2 vs = wipe σ vs ∧ tt σ2 H2 fun b H3 =>
      if b = true then tk σ2 H3 fun y H4 => tv σ2 H4 fun z H5 => ∃ kvs k, y = kV k ∧ H5 D = some (.dK kvs) ∧ kvs.length < sizeLine ∧ Pv (i + 1) (upd H5 D (.dK (putK kvs k z))) else Pv (i + 1) H3) (hd : ∀ H, Pv n H → Qd H) :
    ∃ W : Nat → Nat → Hp → Prop, (∃ m, W 0 m (upd H1 D (.dK []))) ∧ ∀ i m H, W i m H →
      (J.stop i H ∧ Qd H) ∨ (J.go i H ∧ ∃ Nx : Hp → Prop, (∀ H', Nx H' → ∃ m', m' < m ∧ W (i + 1) m' H') ∧ ∀ x H', J.yld i H x H' → g x (wipe σ vs) H' fun σ2 H2 => wipe σ2 vs = wipe σ vs ∧ tt σ2 H2 fun b H3 =>
        if b = true then tk σ2 H3 fun y H4 => tv σ2 H4 fun z H5 => ∃ kvs k, y = kV k ∧ H5 D = some (.dK kvs) ∧ kvs.length < sizeLine ∧ Nx (upd H5 D (.dK (putK kvs k z))) else Nx H3) := by
  refine ⟨fun i m H => (m + i = n) ∧ Pv i H, ⟨n, rfl, h0⟩, ?_⟩
  rintro i m H ⟨hm, pv⟩
  by_cases c : i < n
  · refine .inr ⟨wk.goes i H c (hG i H (by omega) pv), Pv (i + 1), fun H' pv' => ⟨m - 1, by omega, by omega, pv'⟩, fun x H' y => ?_⟩
    exact hs i x H H' c pv (wk.yields i H x H' c (hG i H (by omega) pv) y)
  · have : i = n := by omega
    subst this
    exact .inl ⟨wk.stops H (hG _ H (Nat.le_refl _) pv), hd H pv⟩
/-- the built-in names that the top leaves alone -/
structure Blt (mg : Str → Option Value) : Prop where
  len : mg "len" = none
  int : mg "int" = none
  bool : mg "bool" = none
  str : mg "str" = none
  list : mg "list" = none
  tuple : mg "tuple" = none
  dict : mg "dict" = none
  isinstance : mg "isinstance" = none
  all : mg "all" = none
  range : mg "range" = none
  enumerate : mg "enumerate" = none
  sorted : mg "sorted" = none
  min : mg "min" = none
  max : mg "max" = none
  set : mg "set" = none
/-- data without depth -/
def flatD : PyData → Bool
  | .none => true
  | .bool _ => true
  | .int _ => true
  | .str x => PyData.strOk x
  | _ => false
theorem flat_lay : ∀ {ds : List PyData}, ds.all flatD = true → PyData.canLayAll0 ds = true ∧ PyData.depthAll ds ≤ 1
  | [], _ => by simp [PyData.canLayAll0, PyData.depthAll]
  | d :: ds, h => by
    rw [List.all_cons, Bool.and_eq_true] at h
    obtain ⟨h1, h2⟩ := flat_lay h.2
    cases d with
    | none => simp [PyData.canLayAll0, PyData.depthAll, PyData.canLay0, PyData.depth, h1, h2]
    | bool b => simp [PyData.canLayAll0, PyData.depthAll, PyData.canLay0, PyData.depth, h1, h2]
    | int b => simp [PyData.canLayAll0, PyData.depthAll, PyData.canLay0, PyData.depth, h1, h2]
    | str b =>
      have hb : PyData.strOk b = true := h.1
      simp [PyData.canLayAll0, PyData.depthAll, PyData.canLay0, PyData.depth, h1, h2, hb]
    | _ => exact absurd h.1 (by simp [flatD])
theorem shaped_flat {ds : List PyData} (h : ds.all flatD = true) : SeqAt.shaped (.tuple ds) = true := by
  obtain ⟨h1, h2⟩ := flat_lay h
  unfold SeqAt.shaped
  simp [PyData.canLay0, PyData.depth, h1]
  omega
/-- all but p stands -/
def But (p : Addr) (H H' : Hp) : Prop := ∀ b o, H b = some o → b ≠ p → H' b = some o
theorem But.refl (p : Addr) (H : Hp) : But p H H := fun _ _ h _ => h
theorem But.trans {p : Addr} {H H1 H2 : Hp} (a : But p H H1) (b : But p H1 H2) : But p H H2 := fun c o h n => b c o (a c o h n) n
theorem But.upd {p : Addr} {H H' : Hp} {o : HO} (a : But p H H') : But p H (L2.upd H' p o) := fun c u h n => by rw [upd_ne n]; exact a c u h n
theorem But.new {p q : Addr} {H H' : Hp} {o : HO} (a : But p H H') (h : H' q = none) (hp : H q = none ∨ q ≠ p := by first | exact .inl ‹_› | exact .inr ‹_›) : But p H (L2.upd H' q o) := fun c u hc n => by
  rw [upd_ne]
  · exact a c u hc n
  · intro z
    subst z
    rw [a c u hc n] at h
    cases h
theorem But.at {p q : Addr} {H H' : Hp} {o : HO} (a : But p H H') (h : H q = none) : But p H (L2.upd H' q o) := fun c u hc n => by
  rw [upd_ne (ne_of_none hc h)]
  exact a c u hc n
theorem sameAt {q : Addr} {H H' : Hp} {o : HO} (a : Same H H') (h : H q = none) : Same H (L2.upd H' q o) := fun c u hc => by
  rw [upd_ne (ne_of_none hc h)]
  exact a c u hc
theorem But.same {p : Addr} {H H' : Hp} (a : Same H H') : But p H H' := fun c o h _ => a c o h
theorem Same.new {q : Addr} {H H' : Hp} {o : HO} (a : Same H H') (h : H' q = none) : Same H (upd H' q o) := fun c u hc => by
  rw [upd_ne (ne_of_none (a c u hc) h)]
  exact a c u hc
theorem But.seq {K : PySem.W.Frag} {p a : Addr} {H H' : Hp} {xs : List V} (e : But p H H') (hn : ∀ o, H p = some o → ∀ ys, o ≠ .lst ys → True) (h : H a = some (.lst xs)) (n : a ≠ p) : SqL K H' a xs := .of (e _ _ h n)
end Ash

set_option Elab.async false
set_option linter.all false
set_option maxRecDepth 100000
set_option maxHeartbeats 4000000
namespace Ash
open PySem PySem.Spec PyProof.Rows L2
open C8 (pss_cut)
/-- the pool of drawn numbers at p, the script's copy at s -/
def PoolAt (H : Hp) (p s : Addr) : Prop := ∃ (ns : List Int) (i c k n : Int), H p = some (.lst [.ref s, .int i, .int c, .int k, .int n]) ∧ H s = some (.lst (ns.map V.int)) ∧ 0 ≤ i ∧ s ≠ p
theorem PoolAt.same {H H' : Hp} {p s : Addr} (h : PoolAt H p s) (e : Same H H') : PoolAt H' p s := by
  obtain ⟨ns, i, c, k, n, h1, h2, h3, h4⟩ := h
  exact ⟨ns, i, c, k, n, e _ _ h1, e _ _ h2, h3, h4⟩
theorem PoolAt.off {H : Hp} {p s q : Addr} {o : HO} (h : PoolAt H p s) (hp : q ≠ p) (hs : q ≠ s) : PoolAt (L2.upd H q o) p s := by
  obtain ⟨ns, i, c, k, n, h1, h2, h3, h4⟩ := h
  exact ⟨ns, i, c, k, n, by rw [upd_ne hp.symm]; exact h1, by rw [upd_ne hs.symm]; exact h2, h3, h4⟩
/-- from H0 to H nothing that was tracked has changed but the pool -/
structure Pl (H0 H : Hp) (p s : Addr) : Prop where
  now : PoolAt H p s
  op : H0 p ≠ none
  os : H0 s ≠ none
  but : But p H0 H
section
variable {H0 H H1 : Hp} {p s q : Addr} {o : HO}
theorem PoolAt.ne (h : PoolAt H p s) : H p ≠ none ∧ H s ≠ none := by
  obtain ⟨ns, i, c, k, n, h1, h2, h3, h4⟩ := h
  rw [h1, h2]
  exact ⟨Option.some_ne_none _, Option.some_ne_none _⟩
theorem Pl.refl (h : PoolAt H p s) : Pl H H p s := ⟨h, h.ne.1, h.ne.2, But.refl p H⟩
theorem Pl.at (h : Pl H0 H p s) (hq : H0 q = none) : Pl H0 (L2.upd H q o) p s :=
  ⟨h.now.off (fun z => h.op (z ▸ hq)) (fun z => h.os (z ▸ hq)), h.op, h.os, h.but.at hq⟩
theorem Pl.keep (h : Pl H0 H p s) {b : Addr} {u : HO} (e : H0 b = some u) (n : b ≠ p) : H b = some u := h.but b u e n
theorem Pl.free (h : Pl H0 H p s) (hq : H q = none) : H0 q = none := by
  cases e : H0 q with
  | none => rfl
  | some u =>
    by_cases hp : q = p
    · exact absurd (hp ▸ hq) h.now.ne.1
    · rw [h.but q u e hp] at hq
      cases hq
theorem Pl.trans (a : Pl H0 H p s) (b : Pl H H1 p s) : Pl H0 H1 p s := ⟨b.now, a.op, a.os, a.but.trans b.but⟩
/-- a new thing -/
theorem Pl.new (h : Pl H0 H p s) (hq : H q = none) : Pl H0 (L2.upd H q o) p s := h.at (h.free hq)
theorem Pl.same (h : Pl H0 H p s) (e : Same H H1) : Pl H0 H1 p s := ⟨h.now.same e, h.op, h.os, fun b u hb n => e b u (h.but b u hb n)⟩
end
def spPool (K : PySem.W.Frag) : Sp := fun vs H Q _ => ∃ (a : Addr) (ns : List Int), vs = [.ref a] ∧ SqL K H a (ns.map V.int) ∧ ∀ p s H', H p = none → PoolAt H' p s → Same H H' → Q (.ref p) H'
def spDraw : Sp := fun vs H Q _ => ∃ (p s : Addr) (many : Int), vs = [.ref p, .int many] ∧ PoolAt H p s ∧ 0 < many ∧ many < 2 ^ 200 ∧ ∀ (d : Int) H', 0 ≤ d → d < many → Pl H H' p s → Q (.int d) H'
section
variable {P : Program} {w : World} {K : PySem.W.Frag} {mg : Str → Option Value} {base : Heap}
abbrev s_l_pool : Stmt := topS 41
theorem sc_l_pool : FnScope ["_law_script"] ["_law_script"] (defScope s_l_pool) := ⟨rfl, rfl, rfl, by decide +kernel, rfl, by decide +kernel, by decide +kernel⟩
theorem ok_pool {f : Addr} {fd : FuncData} (F : Fun K "_law_pool" "_law_pool" s_l_pool f fd) (B : Blt mg) : FnOk P w K mg base CX0 1 f fd ["_law_script"] (spPool K) := by
  refine F.ok sc_l_pool (fun vs H Q E h => ?_) (fun cdv A outer s H vs Q E hr h => ?_)
  · obtain ⟨a, ns, rfl, _⟩ := h
    rfl
  · obtain ⟨a, ns, rfl, hS, k⟩ := h
    refine ⟨_, (pss_one (ps_ret (pe_lst (pa_cons (pe_callTy call_list_of (by rfl) B.list (by decide +kernel) (pa_cons (pv 0) pa_nil)) (pa_cons pe_int (pa_cons pe_int (pa_cons pe_int (pa_cons pe_int pa_nil)))))))), ?_⟩
    refine ⟨_, rfl, _, _, rfl, .inl hS, fun l hl => ⟨(by show 5 ≤ sizeLine; decide), fun p hp => ?_⟩⟩
    have hpl : l ≠ p := fun z => by rw [z, upd_same] at hp; cases hp
    have hp0 : H p = none := by rw [upd_ne (Ne.symm hpl)] at hp; exact hp
    refine k p l _ hp0 ⟨ns, _, _, _, _, upd_same, (by rw [upd_ne hpl, upd_same]), (by decide), hpl⟩ ?_
    exact Same.new (Same.new (Same.refl H) hl) hp
abbrev s_l_draw : Stmt := topS 42
theorem sc_l_draw : FnScope ["_law_pool_here", "_law_many", "_law_cell", "_law_digit", "_law_number"] ["_law_pool_here", "_law_many"] (defScope s_l_draw) := ⟨rfl, rfl, rfl, by decide +kernel, rfl, by decide +kernel, by decide +kernel⟩
theorem ok_draw {f : Addr} {fd : FuncData} (F : Fun K "_law_draw" "_law_draw" s_l_draw f fd) (B : Blt mg) : FnOk P w K mg base CX0 1 f fd ["_law_pool_here", "_law_many"] spDraw := by
  refine F.ok sc_l_draw (fun vs H Q E h => ?_) (fun cdv A outer s H vs Q E hr h => ?_)
  · obtain ⟨p, _, many, rfl, _⟩ := h
    rfl
  · obtain ⟨p, s, many, rfl, hPP, hm, hm2, kk⟩ := h
    obtain ⟨ns, i, c, k, n, hp, hs, hi, hsp⟩ := id hPP
    refine ⟨_, (pss_cons (ps_asg (pe_op op_add (pe_ix ix_list (pv 0) pe_int (fun _ _ => rfl)) pe_int) (pg_sub (pv 0) pe_int set_list))
    (pss_cut (ps_if (PW.pt (pw_and (pt_cmpR op_eq (pe_ix ix_list (pv 0) pe_int (fun _ _ => rfl)) pe_int (nomark _)) (pw_and1 (pt_cmpR op_lt (pe_ix ix_list (pv 0) pe_int (fun _ _ => rfl)) (pe_callB call_len_seq (by rfl) B.len (by decide +kernel) (pa_cons (pe_ix ix_list (pv 0) pe_int (fun _ _ => rfl)) pa_nil)) (nomark _)))))
      (pss_cons (ps_set (i := 2) sc_l_draw.nd rfl (Or.inl rfl) (pe_callTy call_intI (by rfl) B.int (by decide +kernel) (pa_cons (pe_ix ix_list (pe_ix ix_list (pv 0) pe_int (fun _ _ => rfl)) (pe_ix ix_list (pv 0) pe_int (fun _ _ => rfl)) (fun _ _ => rfl)) pa_nil)))
      (pss_cons (ps_asg (pe_op op_add (pe_ix ix_list (pv 0) pe_int (fun _ _ => rfl)) pe_int) (pg_sub (pv 0) pe_int set_list))
      (pss_one (ps_if (pt_cmpR op_ge (pv 2) (pe_op op_pow pe_int pe_int) (nomark _))
        (pss_one (ps_asg (pv 2) (pg_sub (pv 0) pe_int set_list)))
        (pss_one (ps_asg (pe_op op_mod (pe_callTy call_intI (by rfl) B.int (by decide +kernel) (pa_cons (pe_op op_add (pe_op op_add (pe_op op_mul (pe_ix ix_list (pv 0) pe_int (fun _ _ => rfl)) pe_int) (pe_op op_mul (pv 2) pe_int)) pe_int) pa_nil)) pe_int) (pg_sub (pv 0) pe_int set_list)))))))
      pss_nil)
    (pss_cons (ps_if (pt_cmpR op_gt (pe_ix ix_list (pv 0) pe_int (fun _ _ => rfl)) pe_int (nomark _))
      (pss_cons (ps_set (i := 3) sc_l_draw.nd rfl (Or.inl rfl) (pe_op op_mod (pe_callTy call_intI (by rfl) B.int (by decide +kernel) (pa_cons (pe_ix ix_list (pv 0) pe_int (fun _ _ => rfl)) pa_nil)) (pv 1)))
      (pss_cons (ps_asg (pe_op op_fdivW (pe_callTy call_intI (by rfl) B.int (by decide +kernel) (pa_cons (pe_ix ix_list (pv 0) pe_int (fun _ _ => rfl)) pa_nil)) (pv 1)) (pg_sub (pv 0) pe_int set_list))
      (pss_one (ps_ret (pv 3)))))
      pss_nil)
    (pss_cons (ps_set (i := 4) sc_l_draw.nd rfl (Or.inl rfl) (pe_op op_mod (pe_callTy call_intI (by rfl) B.int (by decide +kernel) (pa_cons (pe_op op_add (pe_op op_add (pe_ix ix_list (pv 0) pe_int (fun _ _ => rfl)) (pe_op op_mul (pe_ix ix_list (pv 0) pe_int (fun _ _ => rfl)) pe_int)) pe_int) pa_nil)) pe_int))
    (pss_cons (ps_set (i := 4) sc_l_draw.nd rfl (Or.inl rfl) (pe_op op_mod (pe_callTy call_intI (by rfl) B.int (by decide +kernel) (pa_cons (pe_op op_mul (pv 4) (pe_op op_add (pe_op op_fdiv (pv 4) pe_int) pe_int)) pa_nil)) pe_int))
    (pss_cons (ps_set (i := 4) sc_l_draw.nd rfl (Or.inl rfl) (pe_op op_mod (pe_callTy call_intI (by rfl) B.int (by decide +kernel) (pa_cons (pe_op op_mul (pv 4) (pe_op op_add (pe_op op_fdiv (pv 4) pe_int) pe_int)) pa_nil)) pe_int))
    (pss_cons (ps_asg (pv 4) (pg_sub (pv 0) pe_int set_list))
    (pss_one (ps_ret (pe_op op_mod (pe_callTy call_intI (by rfl) B.int (by decide +kernel) (pa_cons (pe_op op_fdiv (pv 4) pe_int) pa_nil)) (pv 1))))))))))), ?_⟩
    -- pool[3] = pool[3] + 1
    refine ⟨_, rfl, _, _, _, _, rfl, rfl, SqL.of hp, rfl, _, _, rfl, rfl, _, rfl, _, _, _, _, rfl, rfl, hp, rfl, ?_⟩
    -- the first if
    refine ⟨fun σ H1 => (∃ cell, σ = [some (.ref p), some (.int many), cell, none, none]) ∧ ∃ (i c k n : Int), H1 p = some (.lst [.ref s, .int i, .int c, .int k, .int n]) ∧ H1 s = some (.lst (ns.map V.int)) ∧ 0 ≤ i ∧ But p H H1, ?_, ?_⟩
    · generalize eH : upd H p (.lst _) = H1
      have hp1 : H1 p = some (.lst [.ref s, .int i, .int c, .int (k + 1), .int n]) := by rw [← eH]; exact upd_same
      have hs1 : H1 s = some (.lst (ns.map V.int)) := by rw [← eH, upd_ne hsp]; exact hs
      have hb1 : But p H H1 := by rw [← eH]; exact (But.refl p H).upd
      clear eH
      refine ⟨_, rfl, _, _, _, _, rfl, rfl, SqL.of hp1, rfl, rfl, _, rfl, ?_⟩
      refine ite2 (fun c2 => ?_) (fun c2 => ?_)
      · refine ⟨_, rfl, _, _, _, _, rfl, rfl, SqL.of hp1, rfl, _, rfl, _, _, _, _, rfl, rfl, SqL.of hp1, rfl, _, _, rfl, .inl (SqL.of hs1), _, _, rfl, rfl, _, rfl, ?_⟩
        refine ite2 (fun c3 => ?_) (fun c3 => ?_)
        · have c3' : i < (ns.map V.int).length := of_decide_eq_true c3
          obtain ⟨j, rfl⟩ : ∃ j : Nat, i = (j : Int) := ⟨i.toNat, by omega⟩
          have hj : j < ns.length := by rw [List.length_map] at c3'; omega
          -- cell = int(pool[0][pool[1]])
          refine ⟨_, rfl, _, _, _, _, rfl, rfl, SqL.of hp1, rfl, _, rfl, _, _, _, _, rfl, rfl, SqL.of hp1, rfl, _, _, _, V.int ns[j], rfl, rfl, SqL.of hs1, atI_nat (by rw [List.getElem?_map, List.getElem?_eq_getElem hj]; rfl), _, rfl, ?_⟩
          refine ⟨_, rfl, _, _, _, _, rfl, rfl, SqL.of hp1, rfl, _, _, rfl, rfl, _, rfl, _, _, _, _, rfl, rfl, hp1, rfl, ?_⟩
          refine ⟨_, rfl, _, _, rfl, rfl, ⟨by decide, by decide, by decide⟩, _, _, rfl, rfl, _, rfl, ?_⟩
          refine ite2 (fun c4 => ?_) (fun c4 => ?_)
          · refine ⟨_, rfl, _, rfl, _, _, _, _, rfl, rfl, upd_same, rfl, ⟨_, rfl⟩, _, _, _, _, upd_same, (by rw [upd_ne hsp, upd_ne hsp]; exact hs1), (by omega), hb1.upd.upd⟩
          · refine ⟨_, rfl, _, _, _, _, rfl, rfl, SqL.of upd_same, rfl, _, _, rfl, rfl, .inr ⟨by decide, by decide⟩, _, rfl, _, _, rfl, rfl, .inr ⟨by decide, by decide⟩, _, _, rfl, rfl, _, _, rfl, rfl, _, rfl, _, _, rfl, rfl, (by show (0 : Int) < 2147483647; decide), _, rfl, _, _, _, _, rfl, rfl, upd_same, rfl, ⟨_, rfl⟩, _, _, _, _, upd_same, (by rw [upd_ne hsp, upd_ne hsp]; exact hs1), (by omega), hb1.upd.upd⟩
        · exact ⟨⟨_, rfl⟩, _, _, _, _, hp1, hs1, hi, hb1⟩
      · exact ⟨⟨_, rfl⟩, _, _, _, _, hp1, hs1, hi, hb1⟩
    · rintro σ' H1 ⟨⟨cell, rfl⟩, i, c, k, n, hp1, hs1, hi, hb1⟩
      refine ⟨_, rfl, _, _, _, _, rfl, rfl, SqL.of hp1, rfl, _, _, rfl, rfl, _, rfl, ?_⟩
      refine ite2 (fun c2 => ?_) (fun c2 => ?_)
      · refine ⟨_, rfl, _, _, _, _, rfl, rfl, SqL.of hp1, rfl, _, rfl, _, rfl, _, _, rfl, rfl, hm, _, rfl, _, _, _, _, rfl, rfl, SqL.of hp1, rfl, _, rfl, _, rfl, _, _, rfl, rfl, wide_div (b := 200) hm (by omega) (by decide) (by decide), _, rfl, _, _, _, _, rfl, rfl, hp1, rfl, _, rfl, ?_⟩
        refine kk _ _ (Int.emod_nonneg _ (by omega)) (Int.emod_lt_of_pos _ hm) ⟨⟨ns, _, _, _, _, upd_same, (by rw [upd_ne hsp]; exact hs1), hi, hsp⟩, hPP.ne.1, hPP.ne.2, hb1.upd⟩
      · refine ⟨_, rfl, _, _, _, _, rfl, rfl, SqL.of hp1, rfl, _, rfl, _, _, _, _, rfl, rfl, SqL.of hp1, rfl, _, _, rfl, rfl, .inr ⟨by decide, by decide⟩, _, _, rfl, rfl, _, _, rfl, rfl, _, rfl, _, _, rfl, rfl, (by show (0 : Int) < 2147483647; decide), ?_⟩
        generalize ea : (n + k * 104729 + 1) % 2147483647 = a
        have a0 : 0 ≤ a := by rw [← ea]; exact Int.emod_nonneg _ (by decide)
        have a1 : a < 2147483647 := by rw [← ea]; exact Int.emod_lt_of_pos _ (by decide)
        refine ⟨_, rfl, _, rfl, _, _, rfl, rfl, ⟨by decide, by decide⟩, _, _, rfl, rfl, _, _, rfl, rfl, .inl ⟨by omega, by omega⟩, _, rfl, _, _, rfl, rfl, (by show (0 : Int) < 2147483647; decide), ?_⟩
        generalize eb : a * (a / 1009 + 69621) % 2147483647 = b
        have b0 : 0 ≤ b := by rw [← eb]; exact Int.emod_nonneg _ (by decide)
        have b1 : b < 2147483647 := by rw [← eb]; exact Int.emod_lt_of_pos _ (by decide)
        refine ⟨_, rfl, _, rfl, _, _, rfl, rfl, ⟨by decide, by decide⟩, _, _, rfl, rfl, _, _, rfl, rfl, .inl ⟨by omega, by omega⟩, _, rfl, _, _, rfl, rfl, (by show (0 : Int) < 2147483399; decide), ?_⟩
        refine ⟨_, rfl, _, rfl, _, _, _, _, rfl, rfl, hp1, rfl, _, rfl, _, _, rfl, rfl, ⟨by decide, by decide⟩, _, rfl, _, rfl, _, _, rfl, rfl, hm, ?_⟩
        refine kk _ _ (Int.emod_nonneg _ (by omega)) (Int.emod_lt_of_pos _ hm) ⟨⟨ns, _, _, _, _, upd_same, (by rw [upd_ne hsp]; exact hs1), hi, hsp⟩, hPP.ne.1, hPP.ne.2, hb1.upd⟩
end
end Ash

set_option Elab.async false
set_option linter.all false
set_option maxRecDepth 100000
set_option maxHeartbeats 4000000
namespace Ash
open PySem PySem.Spec PyProof.Rows L2
open C8 (pss_cut)
/-! ### names -/
def LET : List Nat := [97, 98, 99, 100, 101, 102, 103, 104, 105, 106, 107, 108, 109, 110, 111, 112, 113, 114, 115, 116, 117, 118, 119, 120, 121, 122]
abbrev abc : Str := "abcdefghijklmnopqrstuvwxyz"
theorem abc_let : abc.cps.toList = LET := by decide +kernel
theorem abc_size : abc.cps.size = 26 := by decide +kernel
/-- a name: 1 to 8 letters -/
def IsNm (z : Str) : Prop := 1 ≤ z.length ∧ z.length ≤ 8 ∧ ∀ c ∈ z.cps.toList, c ∈ LET
theorem let_small : ∀ c ∈ LET, c < 0x110000 := by decide
theorem nm_ok {z : Str} (h : IsNm z) : PyData.strOk z = true := by
  unfold PyData.strOk
  rw [← Array.all_toList, List.all_eq_true]
  exact fun c hc => decide_eq_true (let_small c (h.2.2 c hc))
theorem append_length (a b : Str) : (a ++ b).length = a.length + b.length := by
  show (a.cps ++ b.cps).size = a.cps.size + b.cps.size
  rw [Array.size_append]
theorem append_list (a b : Str) : (a ++ b).cps.toList = a.cps.toList ++ b.cps.toList := by
  show (a.cps ++ b.cps).toList = _
  rw [Array.toList_append]
theorem one_nm {c : Nat} (h : c ∈ LET) : IsNm ⟨#[c]⟩ := ⟨Nat.le_refl 1, (by show 1 ≤ 8; decide), fun d hd => by
  have e : d = c := by simpa using hd
  rw [e]
  exact h⟩
theorem inV_str {z : Str} : ∀ {l : List Str}, inV (.str z) (l.map V.str) = decide (z ∈ l)
  | [] => by simp [inV]
  | a :: l => by
    have ih := inV_str (z := z) (l := l)
    unfold inV at ih ⊢
    rw [List.map_cons, List.any_cons, ih]
    show ((a == z) || decide (z ∈ l)) = decide (z ∈ a :: l)
    by_cases h : a = z
    · subst h
      simp
    · have h' : ¬ z = a := fun q => h q.symm
      by_cases h2 : z ∈ l <;> simp [h, h', h2]
theorem flat_strs (l : List Str) : (l.map V.str).all flatV = true := by
  induction l with
  | nil => rfl
  | cons a l ih =>
    rw [List.map_cons, List.all_cons, ih]
    rfl
theorem sub_len {α : Type} [DecidableEq α] : ∀ {l m : List α}, l.Nodup → (∀ x ∈ l, x ∈ m) → l.length ≤ m.length
  | [], m, _, _ => Nat.zero_le _
  | a :: l, m, hn, h => by
    obtain ⟨h1, h2⟩ := List.nodup_cons.mp hn
    have ha : a ∈ m := h a List.mem_cons_self
    have ih := sub_len (l := l) (m := m.erase a) h2 fun x hx => (List.mem_erase_of_ne (fun z => h1 (by rw [← z]; exact hx))).mpr (h x (List.mem_cons_of_mem _ hx))
    rw [List.length_erase_of_mem ha] at ih
    have : 0 < m.length := List.length_pos_of_mem ha
    rw [List.length_cons]
    omega
theorem atI_natC {α : Type} {xs : List α} {j : Nat} (h : j < xs.length) : atI xs (j : Int) = some xs[j] := by
  unfold atI ixN
  rw [if_pos (by omega), if_pos (by omega), Option.bind_some, Int.toNat_natCast]
  exact List.getElem?_eq_getElem h
theorem let_strs : (LET.map fun c => (⟨#[c]⟩ : Str)).Nodup := by decide +kernel
theorem not_all {l : List Str} (hl : l.length ≤ 25) (h : ∀ c ∈ LET, (⟨#[c]⟩ : Str) ∈ l) : False := by
  have := sub_len let_strs (m := l) fun x hx => by
    obtain ⟨c, hc, rfl⟩ := List.mem_map.mp hx
    exact h c hc
  have e : (LET.map fun c => (⟨#[c]⟩ : Str)).length = 26 := by decide +kernel
  omega
def spNames : Sp := fun vs H Q _ => ∃ (p s : Addr) (many : Int), vs = [.ref p, .int many] ∧ PoolAt H p s ∧ 0 ≤ many ∧ many ≤ 25 ∧
  ∀ (q : Addr) (l : List Str) H', H q = none → H' q = some (.lst (l.map V.str)) → l.length = many.toNat → l.Nodup → (∀ z ∈ l, IsNm z) → Pl H H' p s → Q (.ref q) H'
section
variable {P : Program} {w : World} {K : PySem.W.Frag} {mg : Str → Option Value} {base : Heap}
abbrev CDraw (P : Program) (w : World) (K : PySem.W.Frag) (mg : Str → Option Value) (base : Heap) : Prop := Cal P w K mg base CX0 "_law_draw" 1 ["_law_pool_here", "_law_many"] spDraw
structure G1 (P : Program) (w : World) (K : PySem.W.Frag) (mg : Str → Option Value) (base : Heap) : Prop where
  law_draw : CDraw P w K mg base
abbrev s_l_names : Stmt := topS 43
theorem sc_l_names : FnScope ["_law_pool_here", "_law_many", "_law_letters", "_law_names_here", "_law_k", "_law_length", "_law_name", "_law_at", "_law_letter"] ["_law_pool_here", "_law_many"] (defScope s_l_names) := ⟨rfl, rfl, rfl, by decide +kernel, rfl, by decide +kernel, by decide +kernel⟩
theorem ok_names {f : Addr} {fd : FuncData} (F : Fun K "_law_names" "_law_names" s_l_names f fd) (B : Blt mg) (G : G1 P w K mg base) : FnOk P w K mg base CX0 2 f fd ["_law_pool_here", "_law_many"] spNames := by
  refine F.ok sc_l_names (fun vs H Q E h => ?_) (fun cdv A outer s H vs Q E hr h => ?_)
  · obtain ⟨p, _, many, rfl, _⟩ := h
    rfl
  · obtain ⟨p, s0, many, rfl, hP, hm, hm2, kk⟩ := h
    refine ⟨_, (pss_cons (ps_set (i := 2) sc_l_names.nd rfl (Or.inl rfl) pe_str)
    (pss_cons (ps_set (i := 3) sc_l_names.nd rfl (Or.inl rfl) (pe_lst pa_nil))
    (pss_cons (ps_for PassesOwn.never rfl (pi_range1 (by rfl) B.range (pa_cons (pv 1) pa_nil)) (pg_name (i := 4) sc_l_names.nd rfl (Or.inl rfl))
      (pss_cons (ps_set (i := 5) sc_l_names.nd rfl (Or.inl rfl) pe_int)
      (pss_cut (ps_if (pt_cmpR op_eq (pe_cal G.law_draw (hr.mono (by decide)) pass0 (pa_cons (pv 0) (pa_cons pe_int pa_nil))) pe_int (nomark _))
        (pss_one (ps_set (i := 5) sc_l_names.nd rfl (Or.inl rfl) (pe_op op_add pe_int (pe_cal G.law_draw (hr.mono (by decide)) pass0 (pa_cons (pv 0) (pa_cons pe_int pa_nil))))))
        pss_nil)
      (pss_cons (ps_set (i := 6) sc_l_names.nd rfl (Or.inl rfl) pe_str)
      (pss_cut (ps_for PassesOwn.never rfl (pi_range1 (by rfl) B.range (pa_cons (pv 5) pa_nil)) (pg_name (i := 7) sc_l_names.nd rfl (Or.inl rfl))
        (pss_one (ps_set (i := 6) sc_l_names.nd rfl (Or.inl rfl) (pe_op op_add_str (pv 6) (pe_ix ix_str (pv 2) (pe_cal G.law_draw (hr.mono (by decide)) pass0 (pa_cons (pv 0) (pa_cons pe_int pa_nil))) (fun _ _ => rfl))))))
      (pss_cut (ps_for PassesOwn.never rfl (pi_str (pv 2)) (pg_name (i := 8) sc_l_names.nd rfl (Or.inl rfl))
        (pss_one (ps_if (PW.pt (pw_and (pt_cmpR op_in_seq (pv 6) (pv 3) rfl) (pw_and1 (pt_cmpR op_notIn_seq (pv 8) (pv 3) rfl))))
          (pss_one (ps_set (i := 6) sc_l_names.nd rfl (Or.inl rfl) (pv 8)))
          pss_nil)))
      (pss_one (ps_expr (pe_bm PySem.F.plainAttrs_list PySem.F.slot_list_append PySem.F.type_list_append mt_append (pv 3) (pa_cons (pv 6) pa_nil))))))))))
    (pss_one (ps_ret (pv 3)))))), ?_⟩
    refine ⟨(by show 0 ≤ sizeLine; decide), fun q hq => ?_⟩
    have hr1 : Room 1 _ := hr.mono (by decide)
    refine ⟨_, rfl, _, rfl, (by omega), (by omega), for_range (n := many.toNat) (fun i σ H1 => (∃ a b c d e, σ = [some (.ref p), some (.int many), some (.str abc), some (.ref q), a, b, c, d, e]) ∧ ∃ l : List Str, H1 q = some (.lst (l.map V.str)) ∧ l.length = i ∧ l.Nodup ∧ (∀ z ∈ l, IsNm z) ∧ Pl H H1 p s0) ?_ ?_ ?_⟩
    · exact ⟨⟨_, _, _, _, _, rfl⟩, [], upd_same, rfl, List.nodup_nil, (fun z hz => nomatch hz), (Pl.refl hP).at hq⟩
    · rintro i σ H1 hi ⟨⟨a, b, c, d, e, rfl⟩, l, hl, hlen, hnd, hnm, PL⟩
      have hqp : q ≠ p := fun z => hP.ne.1 (z ▸ hq)
      -- length
      refine ⟨fun σ H2 => (∃ k len c d e, σ = [some (.ref p), some (.int many), some (.str abc), some (.ref q), k, some (.int len), c, d, e] ∧ 1 ≤ len ∧ len ≤ 8) ∧ Pl H1 H2 p s0, ?_, ?_⟩
      · refine ⟨_, rfl, p, s0, 3, rfl, PL.now, (by decide), (by decide), fun x H2 h0 h3 P2 => ⟨rfl, _, rfl, ?_⟩⟩
        refine ite2 (fun c2 => ?_) (fun c2 => ?_)
        · refine ⟨_, rfl, p, s0, 8, rfl, P2.now, (by decide), (by decide), fun y H3 y0 y8 P3 => ?_⟩
          exact ⟨_, _, rfl, rfl, ⟨_, _, _, _, _, rfl, by omega, by omega⟩, P2.trans P3⟩
        · exact ⟨⟨_, _, _, _, _, rfl, by omega, by omega⟩, P2⟩
      rintro σ H2 ⟨⟨k, len, c, d, e, rfl, hlo, hhi⟩, P2⟩
      -- name
      refine ⟨fun σ H3 => (∃ k len nm d e, σ = [some (.ref p), some (.int many), some (.str abc), some (.ref q), k, len, some (.str nm), d, e] ∧ IsNm nm) ∧ Pl H1 H3 p s0, ?_, ?_⟩
      · refine ⟨_, rfl, _, rfl, (by omega), (by omega), for_range (n := len.toNat) (fun j σ H3 => (∃ d nm, σ = [some (.ref p), some (.int many), some (.str abc), some (.ref q), k, some (.int len), some (.str nm), d, e] ∧ nm.length = j ∧ ∀ c ∈ nm.cps.toList, c ∈ LET) ∧ Pl H1 H3 p s0) ?_ ?_ ?_⟩
        · exact ⟨⟨_, _, rfl, rfl, fun c hc => by cases hc⟩, P2⟩
        · rintro j σ H3 hj ⟨⟨d, nm, rfl, hnl, hnc⟩, P3⟩
          refine ⟨_, rfl, _, rfl, _, rfl, p, s0, 26, rfl, P3.now, (by decide), (by decide), fun x H4 x0 x26 P4 => ?_⟩
          obtain ⟨g, rfl⟩ : ∃ g : Nat, x = (g : Int) := ⟨x.toNat, by omega⟩
          have hg : g < LET.length := by show g < 26; omega
          refine ⟨_, _, LET[g], rfl, rfl, (by show abc.cps.size ≤ sizeLine; rw [abc_size]; decide), (by rw [abc_let]; exact atI_natC hg), _, _, rfl, rfl, ?_, ?_⟩
          · show nm.length + 1 ≤ sizeLine
            rw [sizeLine_eq]
            omega
          · refine ⟨⟨_, _, rfl, ?_, ?_⟩, P3.trans P4⟩
            · rw [append_length, hnl]
              rfl
            · intro c hc
              rw [append_list] at hc
              rcases List.mem_append.mp hc with hc | hc
              · exact hnc c hc
              · have e : c = LET[g] := by simpa using hc
                rw [e]
                exact List.getElem_mem hg
        · rintro σ H3 ⟨⟨d, nm, rfl, hnl, hnc⟩, P3⟩
          exact ⟨⟨_, _, _, _, _, rfl, by omega, by omega, hnc⟩, P3⟩
      rintro σ H3 ⟨⟨k, len, nm, d, e, rfl, hN⟩, P3⟩
      -- another name
      have hq3 : H3 q = some (.lst (l.map V.str)) := P3.keep hl hqp
      refine ⟨fun σ H4 => (∃ k len nm d e, σ = [some (.ref p), some (.int many), some (.str abc), some (.ref q), k, len, some (.str nm), d, e] ∧ IsNm nm ∧ nm ∉ l) ∧ H4 = H3, ?_, ?_⟩
      · refine ⟨_, rfl, _, rfl, for_it (walk_str (z := abc)) (fun j σ H4 => (∃ nm e, σ = [some (.ref p), some (.int many), some (.str abc), some (.ref q), k, len, some (.str nm), d, e] ∧ IsNm nm ∧ (nm ∈ l → ∀ (i : Nat) (x : Nat), i < j → LET[i]? = some x → (⟨#[x]⟩ : Str) ∈ l)) ∧ H4 = H3) ?_ (fun _ _ _ _ _ => trivial) ?_ ?_⟩
        · exact ⟨⟨_, _, rfl, hN, fun _ i x hi => by omega⟩, rfl⟩
        · rintro j x σ H4 H5 hj ⟨⟨nm, e, rfl, hN, hall⟩, rfl⟩ ⟨rfl, c, hc, rfl⟩
          have hc' : LET[j]? = some c := by
            rw [← abc_let, Array.getElem?_toList]
            exact hc
          have hcm : c ∈ LET := List.mem_of_getElem? hc'
          refine ⟨_, rfl, _, rfl, _, _, rfl, .inl (SqL.of hq3), rfl, flat_strs l, _, rfl, ?_⟩
          rw [if_neg (by decide), inV_str]
          refine ite2 (fun c2 => ?_) (fun c2 => ?_)
          · have c2 : nm ∈ l := of_decide_eq_true c2
            refine ⟨_, rfl, _, rfl, _, _, rfl, .inl (SqL.of hq3), rfl, flat_strs l, _, rfl, ?_⟩
            rw [if_pos rfl, inV_str]
            refine ite2 (fun c3 => ?_) (fun c3 => ?_)
            · have c3 : ¬ (⟨#[c]⟩ : Str) ∈ l := by simpa using c3
              exact ⟨_, rfl, ⟨_, _, rfl, one_nm hcm, fun z => absurd z c3⟩, rfl⟩
            · have c3 : (⟨#[c]⟩ : Str) ∈ l := by simpa using c3
              refine ⟨⟨_, _, rfl, hN, fun _ i x hi hx => ?_⟩, rfl⟩
              by_cases hij : i < j
              · exact hall c2 i x hij hx
              · have : i = j := by omega
                subst this
                rw [hc'] at hx
                cases hx
                exact c3
          · have c2 : ¬ nm ∈ l := by simpa using c2
            exact ⟨⟨_, _, rfl, hN, fun z => absurd z c2⟩, rfl⟩
        · rintro σ H4 ⟨⟨nm, e, rfl, hN, hall⟩, rfl⟩
          refine ⟨⟨_, _, _, _, _, rfl, hN, fun z => ?_⟩, rfl⟩
          refine not_all (l := l) (by omega) fun c hc => ?_
          obtain ⟨i, hi, e2⟩ := List.getElem_of_mem hc
          exact hall z i c (by rw [abc_size]; exact hi) (by rw [List.getElem?_eq_getElem hi, e2])
      rintro σ H4 ⟨⟨k, len, nm, d, e, rfl, hN, hnl⟩, rfl⟩
      refine ⟨_, rfl, .inl ⟨rfl, _, SqL.of hq3⟩, _, rfl, q, _, _, rfl, rfl, hq3, (by rw [List.length_map]; exact small1000 (by omega)), ?_⟩
      refine ⟨⟨_, _, _, _, _, rfl⟩, l ++ [nm], ?_, ?_, nd_snoc hnd hnl, ?_, (PL.trans P3).at hq⟩
      · rw [upd_same, List.map_append]
        rfl
      · rw [List.length_append, hlen]
        rfl
      · intro z hz
        rcases List.mem_append.mp hz with hz | hz
        · exact hnm z hz
        · rw [List.mem_singleton.mp hz]
          exact hN
    · rintro σ H1 ⟨⟨a, b, c, d, e, rfl⟩, l, hl, hlen, hnd, hnm, PL⟩
      exact ⟨_, rfl, kk q l H1 hq hl hlen hnd hnm PL⟩
end
end Ash

set_option Elab.async false
set_option linter.all false
set_option maxRecDepth 100000
set_option maxHeartbeats 4000000
namespace Ash
open PySem PySem.Spec PyProof.Rows L2
open C8 (pss_cut)
/-- a book's lates as a dict's pairs -/
def LK (L : List (Str × Int)) : List (Key × V) := L.map fun x => (Sum.inr x.1, V.int x.2)
structure Lates (L : List (Str × Int)) : Prop where
  some_ : 1 ≤ L.length
  few : L.length ≤ 8
  nd : (L.map (·.1)).Nodup
  nm : ∀ x ∈ L, IsNm x.1
  lo : ∀ x ∈ L, 0 ≤ x.2
  hi : ∀ x ∈ L, x.2 ≤ 1000000
theorem LK_len (L : List (Str × Int)) : (LK L).length = L.length := List.length_map _
theorem LK_val : ∀ (L : List (Str × Int)) (z : Str), valV (LK L) (Sum.inr z : Key) = (L.lookup z).map V.int
  | [], z => rfl
  | a :: L, z => by
    have ih := LK_val L z
    by_cases h : a.1 = z
    · have h' : (z == a.1) = true := by simpa using h.symm
      show valV ((Sum.inr a.1, V.int a.2) :: LK L) (Sum.inr z : Key) = _
      rw [valV_pos (by rw [h])]
      obtain ⟨a1, a2⟩ := a
      simp only [List.lookup, h', Option.map_some]
    · have h' : (z == a.1) = false := by simpa using fun q => h q.symm
      show valV ((Sum.inr a.1, V.int a.2) :: LK L) (Sum.inr z : Key) = _
      rw [valV_neg (fun q => h (Sum.inr.inj q)), ih]
      obtain ⟨a1, a2⟩ := a
      simp only [List.lookup, h']
theorem lookup_none : ∀ {L : List (Str × Int)} {z : Str}, z ∉ L.map (·.1) → L.lookup z = none
  | [], _, _ => rfl
  | (a1, a2) :: L, z, h => by
    have h1 : ¬ z = a1 := fun q => h (by rw [q]; exact List.mem_cons_self)
    have h' : (z == a1) = false := by simpa using h1
    simp only [List.lookup, h']
    exact lookup_none fun q => h (List.mem_cons_of_mem _ q)
def spLates : Sp := fun vs H Q _ => ∃ (p s : Addr), vs = [.ref p] ∧ PoolAt H p s ∧
  ∀ (d : Addr) (L : List (Str × Int)) H', H d = none → H' d = some (.dK (LK L)) → Lates L → Pl H H' p s → Q (.ref d) H'
section
variable {P : Program} {w : World} {K : PySem.W.Frag} {mg : Str → Option Value} {base : Heap}
structure G2 (P : Program) (w : World) (K : PySem.W.Frag) (mg : Str → Option Value) (base : Heap) : Prop extends G1 P w K mg base where
  law_names : Cal P w K mg base CX0 "_law_names" 2 ["_law_pool_here", "_law_many"] spNames
abbrev s_l_lates : Stmt := topS 44
theorem sc_l_lates : FnScope ["_law_pool_here", "_law_many", "_law_lates_here", "_law_name", "_law_kind"] ["_law_pool_here"] (defScope s_l_lates) := ⟨rfl, rfl, rfl, by decide +kernel, rfl, by decide +kernel, by decide +kernel⟩
theorem ok_lates {f : Addr} {fd : FuncData} (F : Fun K "_law_lates" "_law_lates" s_l_lates f fd) (B : Blt mg) (G : G2 P w K mg base) : FnOk P w K mg base CX0 3 f fd ["_law_pool_here"] spLates := by
  refine F.ok sc_l_lates (fun vs H Q E h => ?_) (fun cdv A outer s H vs Q E hr h => ?_)
  · obtain ⟨p, _, rfl, _⟩ := h
    rfl
  · obtain ⟨p, s0, rfl, hP, kk⟩ := h
    have hu := hu_of hr
    refine ⟨_, (pss_cons (ps_set (i := 1) sc_l_lates.nd rfl (Or.inl rfl) (pe_op op_add pe_int (pe_cal G.law_draw (hr.mono (by decide)) pass0 (pa_cons (pv 0) (pa_cons pe_int pa_nil)))))
    (pss_cut (ps_if (pt_cmpR op_eq (pe_cal G.law_draw (hr.mono (by decide)) pass0 (pa_cons (pv 0) (pa_cons pe_int pa_nil))) pe_int (nomark _))
      (pss_one (ps_set (i := 1) sc_l_lates.nd rfl (Or.inl rfl) (pe_op op_add pe_int (pe_cal G.law_draw (hr.mono (by decide)) pass0 (pa_cons (pv 0) (pa_cons pe_int pa_nil))))))
      pss_nil)
    (pss_cons (ps_set (i := 2) sc_l_lates.nd rfl (Or.inl rfl) pe_dnewK)
    (pss_cons (ps_for PassesOwn.never rfl (pi_list (pe_cal G.law_names (hr.mono (by decide)) pass0 (pa_cons (pv 0) (pa_cons (pv 1) pa_nil)))) (pg_name (i := 3) sc_l_lates.nd rfl (Or.inl rfl))
      (pss_cons (ps_set (i := 4) sc_l_lates.nd rfl (Or.inl rfl) (pe_cal G.law_draw (hr.mono (by decide)) pass0 (pa_cons (pv 0) (pa_cons pe_int pa_nil))))
      (pss_one (ps_dput hu (pv 2) (pv 3) (pe_ix ix_list (pe_lst (pa_cons pe_int (pa_cons (pe_cal G.law_draw (hr.mono (by decide)) pass0 (pa_cons (pv 0) (pa_cons pe_int pa_nil))) (pa_cons (pe_cal G.law_draw (hr.mono (by decide)) pass0 (pa_cons (pv 0) (pa_cons pe_int pa_nil))) (pa_cons (pe_cal G.law_draw (hr.mono (by decide)) pass0 (pa_cons (pv 0) (pa_cons (pe_op op_add (pe_op op_pow pe_int pe_int) pe_int) pa_nil))) pa_nil))))) (pv 4) (fun _ _ => rfl)) rfl))))
    (pss_one (ps_ret (pv 2))))))), ?_⟩
    -- many
    refine ⟨_, rfl, p, s0, 3, rfl, hP, (by decide), (by decide), fun x H1 x0 x3 P1 => ⟨_, _, rfl, rfl, ?_⟩⟩
    refine ⟨fun σ H2 => (∃ many b c d, σ = [some (.ref p), some (.int many), b, c, d] ∧ 1 ≤ many ∧ many ≤ 8) ∧ Pl H H2 p s0, ?_, ?_⟩
    · refine ⟨_, rfl, p, s0, 12, rfl, P1.now, (by decide), (by decide), fun y H2 y0 y3 P2 => ⟨rfl, _, rfl, ?_⟩⟩
      refine ite2 (fun c2 => ?_) (fun c2 => ?_)
      · exact ⟨_, rfl, p, s0, 8, rfl, P2.now, (by decide), (by decide), fun z H3 z0 z3 P3 => ⟨_, _, rfl, rfl, ⟨_, _, _, _, rfl, by omega, by omega⟩, (P1.trans P2).trans P3⟩⟩
      · exact ⟨⟨_, _, _, _, rfl, by omega, by omega⟩, P1.trans P2⟩
    rintro σ H2 ⟨⟨many, b, c, e, rfl, m1, m8⟩, P2⟩
    intro d hd
    have hd0 := P2.free hd
    have P3 : Pl H (upd H2 d (.dK [])) p s0 := P2.at hd0
    refine ⟨_, rfl, _, rfl, p, s0, many, rfl, P3.now, (by omega), (by omega), fun q l H4 hq hl hlen hnd hnm P4 => ?_⟩
    have hdp : d ≠ p := fun z => by rw [z] at hd; exact P2.now.ne.1 hd
    have hd4 : H4 d = some (.dK []) := P4.keep upd_same hdp
    have hdq : q ≠ d := fun z => by rw [z, upd_same] at hq; cases hq
    have hqp : q ≠ p := fun z => by rw [z] at hq; exact P3.now.ne.1 hq
    have hq0 : H q = none := P3.free hq
    refine ⟨q, rfl, ⟨_, SqL.of hl⟩, for_list (K := K) (a := q) (xs := l.map V.str) (fun i σ H5 => (∃ a b, σ = [some (.ref p), some (.int many), some (.ref d), a, b]) ∧ H5 q = some (.lst (l.map V.str)) ∧ (∃ L : List (Str × Int), H5 d = some (.dK (LK L)) ∧ L.map (·.1) = l.take i ∧ ∀ x ∈ L, 0 ≤ x.2 ∧ x.2 ≤ 1000000) ∧ Pl H H5 p s0) ?_ (fun i σ H5 _ hv => SqL.of hv.2.1) ?_ ?_⟩
    · exact ⟨⟨_, _, rfl⟩, hl, ⟨[], hd4, rfl, fun x hx => nomatch hx⟩, P3.trans P4⟩
    · rintro i y σ H5 hi ⟨⟨a, b, rfl⟩, hq5, ⟨L, hd5, hL, hLb⟩, P5⟩
      obtain ⟨nm, hn, rfl⟩ : ∃ nm, l[i]? = some nm ∧ y = V.str nm := by
        rw [List.getElem?_map] at hi
        cases e : l[i]? with
        | none => rw [e] at hi; cases hi
        | some z => rw [e] at hi; exact ⟨z, rfl, (Option.some.inj hi).symm⟩
      have hil : i < l.length := (List.getElem?_eq_some_iff.mp hn).1
      have hnL : nm ∉ L.map (·.1) := by
        rw [hL]
        intro hm
        obtain ⟨j, hj, e⟩ := List.getElem_of_mem hm
        rw [List.length_take] at hj
        rw [List.getElem_take] at e
        have := nd_ix hnd (List.getElem?_eq_some_iff.mpr ⟨by omega, e⟩) hn
        omega
      have hLl : L.length = i := by
        have := congrArg List.length hL
        rw [List.length_map, List.length_take] at this
        omega
      refine ⟨_, rfl, p, s0, 4, rfl, P5.now, (by decide), (by decide), fun kind H6 k0 k4 P6 => ?_⟩
      refine ⟨_, rfl, p, s0, 4, rfl, P6.now, (by decide), (by decide), fun v1 H7 a0 a1 P7 => ?_⟩
      refine ⟨_, rfl, p, s0, 8, rfl, P7.now, (by decide), (by decide), fun v2 H8 b0 b1 P8 => ?_⟩
      refine ⟨_, rfl, _, _, rfl, rfl, ⟨by decide, by decide, by decide⟩, _, _, rfl, rfl, p, s0, _, rfl, P8.now, (by decide), (by decide), fun v3 H9 c0 c1 P9 => ⟨(by show 4 ≤ sizeLine; decide), fun u hu9 => ?_⟩⟩
      have c1 : v3 < 1000001 := c1
      have P59 : Pl H5 H9 p s0 := ((P6.trans P7).trans P8).trans P9
      have hdu : d ≠ u := fun z => by rw [← z, P59.keep hd5 hdp] at hu9; cases hu9
      have hqu : q ≠ u := fun z => by rw [← z, P59.keep hq5 hqp] at hu9; cases hu9
      obtain ⟨v, hv, vge, vle⟩ : ∃ v : Int, atI ([V.int 0, V.int v1, V.int v2, V.int v3]) kind = some (V.int v) ∧ 0 ≤ v ∧ v ≤ 1000000 := by
        have : kind = 0 ∨ kind = 1 ∨ kind = 2 ∨ kind = 3 := by omega
        rcases this with rfl | rfl | rfl | rfl
        · exact ⟨0, rfl, by omega, by omega⟩
        · exact ⟨v1, rfl, by omega, by omega⟩
        · exact ⟨v2, rfl, by omega, by omega⟩
        · exact ⟨v3, rfl, by omega, by omega⟩
      have hdX : (upd H9 u (.lst [V.int 0, V.int v1, V.int v2, V.int v3])) d = some (.dK (LK L)) := by rw [upd_ne hdu]; exact P59.keep hd5 hdp
      refine ⟨_, rfl, _, _, _, _, rfl, rfl, SqL.of upd_same, hv, _, rfl, _, rfl, d, _, rfl, DPut.k (k := Sum.inr nm) hdX (by rw [LK_len]; exact small1000 (by omega)), ?_⟩
      have hput : putK (LK L) (Sum.inr nm : Key) (V.int v) = LK (L ++ [(nm, v)]) := by
        rw [putK_new _ (by rw [LK_val, lookup_none hnL]; rfl)]
        unfold LK
        rw [List.map_append]
        rfl
      rw [hput]
      refine ⟨⟨_, _, rfl⟩, ?_, ⟨L ++ [(nm, v)], upd_same, ?_, ?_⟩, ?_⟩
      · rw [upd_ne hdq, upd_ne hqu]
        exact P59.keep hq5 hqp
      · rw [List.map_append, hL, List.take_add_one, hn]
        rfl
      · intro x hx
        rcases List.mem_append.mp hx with hx | hx
        · exact hLb x hx
        · rw [List.mem_singleton.mp hx]
          exact ⟨vge, vle⟩
      · exact (((P5.trans P59).new hu9).at hd0)
    · rintro σ H5 ⟨⟨a, b, rfl⟩, hq5, ⟨L, hd5, hL, hLb⟩, P5⟩
      rw [List.length_map, List.take_length] at hL
      have hLl : L.length = l.length := by rw [← hL, List.length_map]
      refine ⟨_, rfl, kk d L H5 hd0 hd5 ⟨by omega, by omega, by rw [hL]; exact hnd, fun x hx => hnm _ (by rw [← hL]; exact List.mem_map_of_mem hx), fun x hx => (hLb x hx).1, fun x hx => (hLb x hx).2⟩ P5⟩
end
end Ash

set_option Elab.async false
set_option linter.all false
set_option maxRecDepth 100000
set_option maxHeartbeats 4000000
namespace Ash
open PySem PySem.Spec PyProof.Rows L2
open C8 (pss_cut)
/-! ### kinds of values -/
def NotInt (K : PySem.W.Frag) (H : Hp) (v : V) : Prop := ∃ t bi bb, TyX K H v t ∧ PySem.W.kitOne K t (.type "int") = some bi ∧ PySem.W.kitOne K t (.type "bool") = some bb ∧ (bi && !bb) = false
def NotStr (K : PySem.W.Frag) (H : Hp) (v : V) : Prop := ∃ t, TyX K H v t ∧ PySem.W.kitOne K t (.type "str") = some false
def NotTup (K : PySem.W.Frag) (H : Hp) (v : V) : Prop := ∃ t, TyX K H v t ∧ PySem.W.kitOne K t (.type "tuple") = some false
def spIsInt (K : PySem.W.Frag) : Sp := fun vs H Q _ => ∃ v, vs = [v] ∧ ((∃ n, v = .int n ∧ Q (.bl true) H) ∨ (NotInt K H v ∧ Q (.bl false) H))
def spIsNat (K : PySem.W.Frag) : Sp := fun vs H Q _ => ∃ v, vs = [v] ∧ ((∃ n, v = .int n ∧ Q (.bl (decide (0 ≤ n))) H) ∨ (NotInt K H v ∧ Q (.bl false) H))
/-- the test of names -/
def nmB (z : Str) : Bool := decide (1 ≤ z.length ∧ z.length ≤ 8) && z.cps.toList.all fun c => decide (c ∈ LET)
theorem nmB_iff (z : Str) : nmB z = true ↔ IsNm z := by
  unfold nmB IsNm
  simp only [Bool.and_eq_true, decide_eq_true_eq, List.all_eq_true]
  exact ⟨fun ⟨⟨a, b⟩, c⟩ => ⟨a, b, c⟩, fun ⟨a, b, c⟩ => ⟨⟨a, b⟩, c⟩⟩
def spIsName (K : PySem.W.Frag) : Sp := fun vs H Q _ => ∃ v, vs = [v] ∧ ((∃ z, v = .str z ∧ z.length ≤ sizeLine ∧ ∀ H', Same H H' → Q (.bl (nmB z)) H') ∨ (NotStr K H v ∧ Q (.bl false) H))
def spAreInts (K : PySem.W.Frag) : Sp := fun vs H Q _ => ∃ (a : Addr) (ns : List Int), vs = [.ref a] ∧ SqT K H a (ns.map V.int) ∧ ns.length ≤ 100 ∧ ∀ H', Same H H' → Q (.bl true) H'
def spIsLate (K : PySem.W.Frag) : Sp := fun vs H Q _ => ∃ n : Int, vs = [.int n] ∧ Q (.bl (decide (0 ≤ n ∧ n ≤ 1000000))) H
def spIsLates (K : PySem.W.Frag) : Sp := fun vs H Q _ => ∃ (d : Addr) (L : List (Str × Int)), vs = [.ref d] ∧ H d = some (.dK (LK L)) ∧ Lates L ∧ ∀ H', Same H H' → Q (.bl true) H'
theorem list_take {α : Type} {l : List α} {i : Nat} {x : α} (h : l[i]? = some x) : l.take (i + 1) = l.take i ++ [x] := by
  rw [List.take_add_one, h]
  rfl
theorem list_lit (l : List Nat) : ∀ i x, l[i]? = some x → l.take (i + 1) = l.take i ++ [x] := fun i x h => by
  rw [List.take_add_one, h]
  rfl
structure Cst (mg : Str → Option Value) : Prop where
  k_LETTERS : ∃ t, mg "LETTERS" = some (.str abc t)
  k_LONGEST_NAME : ∃ t, mg "LONGEST_NAME" = some (.int 8 t)
  k_MOST_STREAMS : ∃ t, mg "MOST_STREAMS" = some (.int 8 t)
  k_MOST_LATE : ∃ t, mg "MOST_LATE" = some (.int 1000000 t)
  k_MOST_ENTRIES : ∃ t, mg "MOST_ENTRIES" = some (.int 400 t)
section
variable {P : Program} {w : World} {K : PySem.W.Frag} {mg : Str → Option Value} {base : Heap}
structure K1 (P : Program) (w : World) (K : PySem.W.Frag) (mg : Str → Option Value) (base : Heap) : Prop where
  is_integer : Cal P w K mg base CX0 "is_integer" 1 ["thing"] (spIsInt K)
abbrev s_is_integer : Stmt := topS 15
theorem sc_is_integer : FnScope ["thing"] ["thing"] (defScope s_is_integer) := ⟨rfl, rfl, rfl, by decide +kernel, rfl, by decide +kernel, by decide +kernel⟩
theorem ok_is_integer {f : Addr} {fd : FuncData} (F : Fun K "is_integer" "is_integer" s_is_integer f fd) (B : Blt mg) : FnOk P w K mg base CX0 1 f fd ["thing"] (spIsInt K) := by
  refine F.ok sc_is_integer (fun vs H Q E h => ?_) (fun cdv A outer s H vs Q E hr h => ?_)
  · obtain ⟨v, rfl, _⟩ := h
    rfl
  · obtain ⟨v, rfl, hv⟩ := h
    refine ⟨_, (pss_one (ps_ret (pe_and (pe_callB call_isi (by rfl) B.isinstance (by decide +kernel) (pa_cons (pv 0) (pa_cons (pe_bltn (v := .ty "int") (by rfl) B.int (by decide +kernel) rfl) pa_nil))) (pe_one (pe_not (pe_callB call_isi (by rfl) B.isinstance (by decide +kernel) (pa_cons (pv 0) (pa_cons (pe_bltn (v := .ty "bool") (by rfl) B.bool (by decide +kernel) rfl) pa_nil)))))))), ?_⟩
    rcases hv with ⟨n, rfl, q⟩ | ⟨⟨t, bi, bb, ty, e1, e2, e3⟩, q⟩
    · refine ⟨_, rfl, _, _, _, _, true, rfl, ClsV.ty _, .base (.int n), kit_ty (by decide +kernel), _, rfl, iteT ?_⟩
      refine ⟨_, rfl, _, _, _, _, false, rfl, ClsV.ty _, .base (.int n), kit_ty (by decide +kernel), _, rfl, q⟩
    · refine ⟨_, rfl, _, _, _, _, bi, rfl, ClsV.ty _, ty, e1, _, rfl, ?_⟩
      cases bi with
      | false => exact iteF q
      | true =>
        refine iteT ⟨_, rfl, _, _, _, _, bb, rfl, ClsV.ty _, ty, e2, _, rfl, ?_⟩
        have e3 : (!bb) = false := e3
        rw [e3]
        exact q
abbrev s_is_natural : Stmt := topS 16
theorem sc_is_natural : FnScope ["thing"] ["thing"] (defScope s_is_natural) := ⟨rfl, rfl, rfl, by decide +kernel, rfl, by decide +kernel, by decide +kernel⟩
theorem ok_is_natural {f : Addr} {fd : FuncData} (F : Fun K "is_natural" "is_natural" s_is_natural f fd) (B : Blt mg) (G : K1 P w K mg base) : FnOk P w K mg base CX0 2 f fd ["thing"] (spIsNat K) := by
  refine F.ok sc_is_natural (fun vs H Q E h => ?_) (fun cdv A outer s H vs Q E hr h => ?_)
  · obtain ⟨v, rfl, _⟩ := h
    rfl
  · obtain ⟨v, rfl, hv⟩ := h
    refine ⟨_, (pss_one (ps_ret (pe_and (pe_cal G.is_integer (hr.mono (by decide)) pass0 (pa_cons (pv 0) pa_nil)) (pe_one (pe_cmpR op_ge (pv 0) pe_int (nomark _)))))), ?_⟩
    rcases hv with ⟨n, rfl, q⟩ | ⟨ni, q⟩
    · exact ⟨_, rfl, _, rfl, .inl ⟨n, rfl, _, rfl, iteT ⟨_, rfl, _, _, rfl, rfl, q⟩⟩⟩
    · exact ⟨_, rfl, _, rfl, .inr ⟨ni, _, rfl, iteF q⟩⟩
abbrev s_is_name : Stmt := topS 17
theorem sc_is_name : FnScope ["thing", "letter"] ["thing"] (defScope s_is_name) := ⟨rfl, rfl, rfl, by decide +kernel, rfl, by decide +kernel, by decide +kernel⟩
theorem ok_is_name {f : Addr} {fd : FuncData} (F : Fun K "is_name" "is_name" s_is_name f fd) (B : Blt mg) (Cs : Cst mg) : FnOk P w K mg base CX0 1 f fd ["thing"] (spIsName K) := by
  obtain ⟨t1, g_LETTERS⟩ := Cs.k_LETTERS
  obtain ⟨t2, g_LONGEST_NAME⟩ := Cs.k_LONGEST_NAME
  refine F.ok sc_is_name (fun vs H Q E h => ?_) (fun cdv A outer s H vs Q E hr h => ?_)
  · obtain ⟨v, rfl, _⟩ := h
    rfl
  · obtain ⟨v, rfl, hv⟩ := h
    refine ⟨_, (pss_cons (ps_if (PW.pt (pw_or (pt_not (pt_val (pe_callB call_isi (by rfl) B.isinstance (by decide +kernel) (pa_cons (pv 0) (pa_cons (pe_bltn (v := .ty "str") (by rfl) B.str (by decide +kernel) rfl) pa_nil))))) (pw_or1 (pt_not (pt_chain op_le op_le pe_int (pe_callB call_len_str (by rfl) B.len (by decide +kernel) (pa_cons (pv 0) pa_nil)) (pe_glob (v := .int 8) (by rfl) g_LONGEST_NAME ⟨_, rfl⟩))))))
      (pss_one (ps_ret pe_bl))
      pss_nil)
    (pss_one (ps_ret (pe_callB (cr_all rfl) (by rfl) B.all (by decide +kernel) (pa_cons (pe_lc (own := [("letter", 1)]) (g := gName 1) (tt := tYes) (by rfl) sc_is_name.nd (pi_str (pv 0)) (blkOk_by (own := [("letter", 1)]) (N := ["thing", "letter"]) (sc := defScope s_is_name) (by decide +kernel)) (fun _ _ _ _ _ => (pg_name (i := 1) sc_is_name.nd rfl (Or.inl rfl))) (fun _ _ _ _ _ => pts_nil) (fun _ _ _ _ _ => (pe_cmpR op_in_sign (pv 1) (pe_glob (v := .str "abcdefghijklmnopqrstuvwxyz") (by rfl) g_LETTERS ⟨_, rfl⟩) rfl))) pa_nil))))), ?_⟩
    rcases hv with ⟨z, rfl, hz, q⟩ | ⟨⟨t, ty, e1⟩, q⟩
    · refine ⟨_, rfl, _, _, _, _, true, rfl, ClsV.ty _, .base (.str z), kit_ty (by decide +kernel), _, rfl, iteF ?_⟩
      refine ⟨_, rfl, _, rfl, hz, _, _, rfl, rfl, _, rfl, ?_⟩
      refine ite2 (fun c1 => ?_) (fun c1 => ?_)
      · have c1 : (1 : Int) ≤ z.length := of_decide_eq_true c1
        refine ⟨_, _, rfl, rfl, _, rfl, ?_⟩
        by_cases c8 : (z.length : Int) ≤ 8
        · refine iteNS c8 ?_
          refine ⟨_, rfl, z, rfl, fun D hD => lc_it (walk_str (z := z)) (fun i H1 => H1 D = some (.lst (((z.cps.toList.take i).map fun c => decide (c ∈ LET)).map V.bl)) ∧ Same H H1) ⟨upd_same, sameAt (Same.refl H) hD⟩ (fun _ _ _ _ => trivial) ?_ ?_⟩
          · rintro i x H1 H2 hi ⟨hD1, hs⟩ ⟨rfl, c, hc, rfl⟩
            have hc' : z.cps.toList[i]? = some c := by rw [Array.getElem?_toList]; exact hc
            have hlen : (z.cps.toList.take i).length ≤ 8 := by
              have : i < z.length := hi
              rw [List.length_take]
              omega
            refine ⟨rfl, _, rfl, c, abc, rfl, rfl, _, hD1, (by rw [List.length_map, List.length_map]; exact small1000 (by omega)), ?_, sameAt hs hD⟩
            rw [upd_same, list_lit _ _ _ hc', abc_let, List.map_append, List.map_append]
            rfl
          · rintro H1 ⟨hD1, hs⟩
            have e : z.cps.toList.take z.cps.size = z.cps.toList := by rw [← Array.length_toList, List.take_length]
            rw [e] at hD1
            refine ⟨D, _, rfl, SqL.of hD1, ?_⟩
            have e2 : ((z.cps.toList.map fun c => decide (c ∈ LET)).all id) = nmB z := by
              unfold nmB
              rw [decide_eq_true (show 1 ≤ z.length ∧ z.length ≤ 8 by omega), Bool.true_and, List.all_map]
              rfl
            rw [e2]
            exact q _ hs
        · rw [decide_eq_false c8]
          refine iteT ?_
          have e2 : nmB z = false := by
            unfold nmB
            rw [decide_eq_false (show ¬ (1 ≤ z.length ∧ z.length ≤ 8) by omega), Bool.false_and]
          have := q H (Same.refl H)
          rw [e2] at this
          exact this
      · have c1 : ¬ (1 : Int) ≤ z.length := by simpa using c1
        refine ⟨_, rfl, iteT ?_⟩
        have e2 : nmB z = false := by
          unfold nmB
          rw [decide_eq_false (show ¬ (1 ≤ z.length ∧ z.length ≤ 8) by omega), Bool.false_and]
        have := q H (Same.refl H)
        rw [e2] at this
        exact this
    · refine ⟨_, rfl, _, _, _, _, false, rfl, ClsV.ty _, ty, e1, _, rfl, iteT q⟩
structure K2 (P : Program) (w : World) (K : PySem.W.Frag) (mg : Str → Option Value) (base : Heap) : Prop extends K1 P w K mg base where
  is_natural : Cal P w K mg base CX0 "is_natural" 2 ["thing"] (spIsNat K)
  is_name : Cal P w K mg base CX0 "is_name" 1 ["thing"] (spIsName K)
abbrev s_are_integers : Stmt := topS 19
theorem sc_are_integers : FnScope ["things", "thing"] ["things"] (defScope s_are_integers) := ⟨rfl, rfl, rfl, by decide +kernel, rfl, by decide +kernel, by decide +kernel⟩
theorem ok_are_integers {f : Addr} {fd : FuncData} (F : Fun K "are_integers" "are_integers" s_are_integers f fd) (B : Blt mg) (G : K2 P w K mg base) : FnOk P w K mg base CX0 2 f fd ["things"] (spAreInts K) := by
  refine F.ok sc_are_integers (fun vs H Q E h => ?_) (fun cdv A outer s H vs Q E hr h => ?_)
  · obtain ⟨a, ns, rfl, _⟩ := h
    rfl
  · obtain ⟨a, ns, rfl, hS, hn, q⟩ := h
    refine ⟨_, (pss_one (ps_ret (pe_callB (cr_all rfl) (by rfl) B.all (by decide +kernel) (pa_cons (pe_lc (own := [("thing", 1)]) (g := gName 1) (tt := tYes) (by rfl) sc_are_integers.nd (pi_tup (pv 0)) (blkOk_by (own := [("thing", 1)]) (N := ["things", "thing"]) (sc := defScope s_are_integers) (by decide +kernel)) (fun _ _ _ _ _ => (pg_name (i := 1) sc_are_integers.nd rfl (Or.inl rfl))) (fun _ _ _ _ _ => pts_nil) (fun _ _ _ _ _ => (pe_cal G.is_integer (hr.mono (by decide)) pass0 (pa_cons (pv 1) pa_nil)))) pa_nil)))), ?_⟩
    refine ⟨_, rfl, a, rfl, ⟨_, hS⟩, fun D hD => lc_it (walk_tup (xs := ns.map V.int)) (fun i H1 => H1 D = some (.lst ((List.replicate i true).map V.bl)) ∧ Same H H1) ⟨upd_same, sameAt (Same.refl H) hD⟩ (fun i H1 _ hv => ?_) ?_ ?_⟩
    · rcases hS with (h | ⟨o, h⟩) | h
      · exact .inl (.inl (hv.2 _ _ h))
      · exact .inl (.inr ⟨o, hv.2 _ _ h⟩)
      · exact .inr h
    · rintro i x H1 H2 hi ⟨hD1, hs⟩ ⟨rfl, hx⟩
      obtain ⟨z, rfl⟩ : ∃ z, x = V.int z := by
        rw [List.getElem?_map] at hx
        cases e : ns[i]? with
        | none => rw [e] at hx; cases hx
        | some z => rw [e] at hx; exact ⟨z, (Option.some.inj hx).symm⟩
      rw [List.length_map] at hi
      refine ⟨rfl, _, rfl, _, rfl, .inl ⟨z, rfl, _, hD1, (by rw [List.length_map, List.length_replicate]; exact small1000 (by omega)), ?_, sameAt hs hD⟩⟩
      rw [upd_same, List.replicate_succ', List.map_append]
      rfl
    · rintro H1 ⟨hD1, hs⟩
      refine ⟨D, _, rfl, SqL.of hD1, ?_⟩
      rw [List.length_map] at hD1 ⊢
      have e2 : ((List.replicate ns.length true).all id) = true := by simp
      rw [e2]
      exact q _ hs
abbrev s_is_late : Stmt := topS 25
theorem sc_is_late : FnScope ["thing"] ["thing"] (defScope s_is_late) := ⟨rfl, rfl, rfl, by decide +kernel, rfl, by decide +kernel, by decide +kernel⟩
theorem ok_is_late {f : Addr} {fd : FuncData} (F : Fun K "is_late" "is_late" s_is_late f fd) (B : Blt mg) (Cs : Cst mg) (G : K2 P w K mg base) : FnOk P w K mg base CX0 2 f fd ["thing"] (spIsLate K) := by
  obtain ⟨t1, g_MOST_LATE⟩ := Cs.k_MOST_LATE
  refine F.ok sc_is_late (fun vs H Q E h => ?_) (fun cdv A outer s H vs Q E hr h => ?_)
  · obtain ⟨n, rfl, _⟩ := h
    rfl
  · obtain ⟨n, rfl, q⟩ := h
    refine ⟨_, (pss_one (ps_ret (pe_and (pe_cal G.is_integer (hr.mono (by decide)) pass0 (pa_cons (pv 0) pa_nil)) (pe_one (pe_chain op_le op_le pe_int (pv 0) (pe_glob (v := .int 1000000) (by rfl) g_MOST_LATE ⟨_, rfl⟩)))))), ?_⟩
    refine ⟨_, rfl, _, rfl, .inl ⟨n, rfl, _, rfl, iteT ⟨_, rfl, _, _, rfl, rfl, _, rfl, ?_⟩⟩⟩
    refine ite2 (fun c1 => ?_) (fun c1 => ?_)
    · have c1 : 0 ≤ n := of_decide_eq_true c1
      refine ⟨_, _, rfl, rfl, ?_⟩
      have e : decide (0 ≤ n ∧ n ≤ 1000000) = decide (n ≤ 1000000) := by simp [c1]
      rw [e] at q
      exact q
    · have c1 : ¬ 0 ≤ n := by simpa using c1
      have e : decide (0 ≤ n ∧ n ≤ 1000000) = false := by simp [c1]
      rw [e] at q
      exact q
structure K3 (P : Program) (w : World) (K : PySem.W.Frag) (mg : Str → Option Value) (base : Heap) : Prop extends K2 P w K mg base where
  are_integers : Cal P w K mg base CX0 "are_integers" 2 ["things"] (spAreInts K)
  is_late : Cal P w K mg base CX0 "is_late" 2 ["thing"] (spIsLate K)
abbrev s_is_lates : Stmt := topS 24
theorem sc_is_lates : FnScope ["thing", "stream", "late"] ["thing"] (defScope s_is_lates) := ⟨rfl, rfl, rfl, by decide +kernel, rfl, by decide +kernel, by decide +kernel⟩
theorem ok_is_lates {f : Addr} {fd : FuncData} (F : Fun K "is_lates" "is_lates" s_is_lates f fd) (B : Blt mg) (Cs : Cst mg) (G : K3 P w K mg base) : FnOk P w K mg base CX0 3 f fd ["thing"] (spIsLates K) := by
  obtain ⟨t1, g_MOST_STREAMS⟩ := Cs.k_MOST_STREAMS
  refine F.ok sc_is_lates (fun vs H Q E h => ?_) (fun cdv A outer s H vs Q E hr h => ?_)
  · obtain ⟨d, L, rfl, _⟩ := h
    rfl
  · obtain ⟨d, L, rfl, hd, LL, q⟩ := h
    refine ⟨_, (pss_cons (ps_if (PW.pt (pw_or (pt_not (pt_val (pe_callB call_isi (by rfl) B.isinstance (by decide +kernel) (pa_cons (pv 0) (pa_cons (pe_bltn (v := .ty "dict") (by rfl) B.dict (by decide +kernel) rfl) pa_nil))))) (pw_or1 (pt_not (pt_chain op_le op_le pe_int (pe_callB call_lenD (by rfl) B.len (by decide +kernel) (pa_cons (pv 0) pa_nil)) (pe_glob (v := .int 8) (by rfl) g_MOST_STREAMS ⟨_, rfl⟩))))))
      (pss_one (ps_ret pe_bl))
      pss_nil)
    (pss_one (ps_ret (pe_callB (cr_all rfl) (by rfl) B.all (by decide +kernel) (pa_cons (pe_lock (pe_lc (own := [("stream", 1), ("late", 2)]) (g := gTup K 2 (gCons (gName 1) (gCons (gName 2) gNil))) (tt := tYes) (by rfl) sc_is_lates.nd (pi_items (pv 0)) (blkOk_by (own := [("stream", 1), ("late", 2)]) (N := ["thing", "stream", "late"]) (sc := defScope s_is_lates) (by decide +kernel)) (fun _ _ _ _ _ => (pg_tup (by rfl) (pgs_cons (pg_name (i := 1) sc_is_lates.nd rfl (Or.inl rfl)) (pgs_cons (pg_name (i := 2) sc_is_lates.nd rfl (Or.inl rfl)) pgs_nil)))) (fun _ _ _ _ _ => pts_nil) (fun _ _ _ _ _ => (pe_and (pe_cal G.is_name (hr.mono (by decide)) pass0 (pa_cons (pv 1) pa_nil)) (pe_one (pe_cal G.is_late (hr.mono (by decide)) pass0 (pa_cons (pv 2) pa_nil))))))) pa_nil))))), ?_⟩
    refine ⟨_, rfl, _, _, _, _, true, rfl, ClsV.ty _, .base (.dK hd), kit_ty (by decide +kernel), _, rfl, iteF ?_⟩
    refine ⟨_, rfl, d, _, rfl, hd, _, _, rfl, rfl, _, rfl, ?_⟩
    rw [LK_len]
    have l1 := LL.some_
    have l2 := LL.few
    rw [decide_eq_true (show (1 : Int) ≤ (L.length : Int) by omega)]
    refine iteT ⟨_, _, rfl, rfl, _, rfl, iteNS (by omega) ?_⟩
    refine ⟨d, _, hd, trivial, fun od => ?_⟩
    have hDd : ∀ {D : Addr}, (upd H d (.frz od (.dK (LK L)))) D = none → D ≠ d := fun h z => by rw [z, upd_same] at h; cases h
    refine ⟨_, rfl, d, od, _, rfl, upd_same, fun D hD => lc_it (walk_items (kvs := LK L)) (fun i H1 => H1 D = some (.lst ((List.replicate i true).map V.bl)) ∧ Same (upd H d (.frz od (.dK (LK L)))) H1) ⟨upd_same, sameAt (Same.refl _) hD⟩ (fun i H1 _ hv => hv.2 _ _ upd_same) ?_ ?_⟩
    · rintro i x H1 H2 hi ⟨hD1, hs⟩ ⟨T, x1, x2, rfl, hT, rfl, h1, h2⟩
      rw [LK_len] at hi
      have hx : (LK L)[i]? = some (Sum.inr L[i].1, V.int L[i].2) := by
        unfold LK
        rw [List.getElem?_map, List.getElem?_eq_getElem hi]
        rfl
      simp only [hx, Option.map_some] at h1 h2
      cases h1
      cases h2
      have hm : L[i] ∈ L := List.getElem_mem hi
      have hDT : D ≠ T := fun z => by rw [← z, hD1] at hT; cases hT
      have nmz : nmB L[i].1 = true := (nmB_iff _).mpr (LL.nm _ hm)
      have lz : decide (0 ≤ L[i].2 ∧ L[i].2 ≤ 1000000) = true := decide_eq_true ⟨LL.lo _ hm, LL.hi _ hm⟩
      refine ⟨T, _, rfl, SqT.of upd_same, rfl, _, _, rfl, _, _, rfl, rfl, rfl, ?_⟩
      refine ⟨_, rfl, _, rfl, .inl ⟨L[i].1, rfl, (by have := (LL.nm _ hm).2.1; rw [sizeLine_eq]; omega), fun H3 s3 => ⟨_, rfl, ?_⟩⟩⟩
      rw [nmz]
      refine iteT ⟨_, rfl, L[i].2, rfl, ?_⟩
      rw [lz]
      refine ⟨_, s3 _ _ (by rw [upd_ne hDT]; exact hD1), (by rw [List.length_map, List.length_replicate]; exact small1000 (by omega)), ?_, fun b o hb => ?_⟩
      · rw [upd_same, List.replicate_succ', List.map_append]
        rfl
      · rw [upd_ne (ne_of_none hb hD)]
        refine s3 _ _ ?_
        rw [upd_ne (ne_of_none (hs _ _ hb) hT)]
        exact hs _ _ hb
    · rintro H1 ⟨hD1, hs⟩
      refine ⟨hs _ _ upd_same, D, _, rfl, SqL.of (by rw [upd_ne (hDd hD)]; exact hD1), ?_⟩
      have e2 : ((List.replicate (LK L).length true).all id) = true := by simp
      rw [e2]
      refine q _ fun b o hb => ?_
      by_cases e : b = d
      · rw [e, hd] at hb
        cases hb
        rw [e, upd_same]
      · rw [upd_ne e]
        exact hs _ _ (by rw [upd_ne e]; exact hb)
end
end Ash

set_option Elab.async false
set_option linter.all false
set_option maxRecDepth 100000
set_option maxHeartbeats 4000000
namespace Ash
open PySem PySem.Spec PyProof.Rows L2
open C8 (pss_cut)
/-! ### books -/
def BookAt (CB : Addr) (H : Hp) (b : Addr) (L : List (Str × Int)) : Prop := ∃ dx d L', H b = some (.ins CB dx [("_lates", .ref d)]) ∧ H d = some (.dK (LK L')) ∧ (∀ z, L'.lookup z = L.lookup z) ∧ (L'.map (·.1)).Nodup
theorem BookAt.same {CB : Addr} {H H' : Hp} {b : Addr} {L : List (Str × Int)} (h : BookAt CB H b L) (s : Same H H') : BookAt CB H' b L := by
  obtain ⟨dx, d, L', h1, h2, h3⟩ := h
  exact ⟨dx, d, L', s _ _ h1, s _ _ h2, h3⟩
theorem BookAt.pl {CB : Addr} {H H' : Hp} {b p s : Addr} {L : List (Str × Int)} (h : BookAt CB H b L) (P0 : PoolAt H p s) (P : Pl H H' p s) : BookAt CB H' b L := by
  obtain ⟨dx, d, L', h1, h2, h3⟩ := h
  obtain ⟨ns, i, c, k, n, hp, _⟩ := P0
  exact ⟨dx, d, L', P.keep h1 (ne_of h1 hp (by intro z; cases z)), P.keep h2 (ne_of h2 hp (by intro z; cases z)), h3⟩
theorem lookup_perm {L : List (Str × Int)} (hn : (L.map (·.1)).Nodup) {ys : List Str} (hp : ys.Perm (L.map (·.1))) (f : Str → Int) (hf : ∀ x ∈ L, f x.1 = x.2) (z : Str) : (ys.map fun y => (y, f y)).lookup z = L.lookup z := by
  by_cases hz : z ∈ L.map (·.1)
  · have hy : z ∈ ys := hp.mem_iff.mpr hz
    have a1 : ∀ (l : List Str), z ∈ l → (l.map fun y => (y, f y)).lookup z = some (f z) := fun l => by
      induction l with
      | nil => intro h; cases h
      | cons a l ih =>
        intro h
        by_cases e : z = a
        · subst e
          simp [List.lookup]
        · have h' : (z == a) = false := by simpa using e
          show List.lookup z ((a, f a) :: l.map fun y => (y, f y)) = _
          simp only [List.lookup, h']
          exact ih ((List.mem_cons.mp h).resolve_left e)
    have a2 : ∀ (l : List (Str × Int)), (∀ x ∈ l, f x.1 = x.2) → z ∈ l.map (·.1) → l.lookup z = some (f z) := fun l => by
      induction l with
      | nil => intro _ h; cases h
      | cons a l ih =>
        intro hf h
        obtain ⟨a1, a2⟩ := a
        by_cases e : z = a1
        · subst e
          have := hf _ List.mem_cons_self
          simp only [List.lookup, beq_self_eq_true]
          exact congrArg some this.symm
        · have h' : (z == a1) = false := by simpa using e
          simp only [List.lookup, h']
          exact ih (fun x hx => hf x (List.mem_cons_of_mem _ hx)) ((List.mem_cons.mp h).resolve_left e)
    rw [a1 ys hy, a2 L hf hz]
  · rw [lookup_none hz, lookup_none (L := ys.map fun y => (y, f y))]
    rw [List.map_map]
    show z ∉ ys.map fun y => y
    rw [List.map_id']
    exact fun h => hz (hp.mem_iff.mp h)
theorem lookup_mem : ∀ {L : List (Str × Int)} {x : Str × Int}, (L.map (·.1)).Nodup → x ∈ L → L.lookup x.1 = some x.2
  | [], x, _, h => nomatch h
  | (a1, a2) :: L, x, hn, h => by
    obtain ⟨h1, h2⟩ := List.nodup_cons.mp (show (a1 :: L.map (·.1)).Nodup from hn)
    rcases List.mem_cons.mp h with rfl | h
    · simp [List.lookup]
    · have e : ¬ x.1 = a1 := fun z => h1 (by rw [← z]; exact List.mem_map_of_mem h)
      have h' : (x.1 == a1) = false := by simpa using e
      simp only [List.lookup, h']
      exact lookup_mem h2 h
def spBookInit (CB : Addr) : Sp := fun vs H Q _ => ∃ (b dx d : Addr) (L : List (Str × Int)), vs = [.ref b, .ref d] ∧ H b = some (.ins CB dx []) ∧ H d = some (.dK (LK L)) ∧ Lates L ∧
  ∀ H', BookAt CB H' b L → (∀ c o, H c = some o → c ≠ b → H' c = some o) → Q .non H'
/-- has(stream) of a text -/
def spHas (CB : Addr) : Sp := fun vs H Q _ => ∃ (b : Addr) (L : List (Str × Int)) (z : Str), vs = [.ref b, .str z] ∧ BookAt CB H b L ∧ IsNm z ∧ ∀ H', Same H H' → Q (.bl (L.lookup z).isSome) H'
def spLate (CB : Addr) : Sp := fun vs H Q _ => ∃ (b : Addr) (L : List (Str × Int)) (z : Str) (n : Int), vs = [.ref b, .str z] ∧ BookAt CB H b L ∧ IsNm z ∧ L.lookup z = some n ∧ ∀ H', Same H H' → Q (.int n) H'
structure Cb (K : PySem.W.Frag) (mg : Str → Option Value) (CB : Addr) : Prop where
  cl : Cls K CB
  nL : NoAttr K CB "_lates"
  c : mg "Book" = some (.ref CB)
section
variable {P : Program} {w : World} {K : PySem.W.Frag} {mg : Str → Option Value} {base : Heap}
structure K4 (P : Program) (w : World) (K : PySem.W.Frag) (mg : Str → Option Value) (base : Heap) : Prop extends K3 P w K mg base where
  is_lates : Cal P w K mg base CX0 "is_lates" 3 ["thing"] (spIsLates K)
abbrev s_Book_init : Stmt := inClass (topS 23) 0
theorem sc_Book_init : FnScope ["self", "lates", "stream"] ["self", "lates"] (defScope s_Book_init) := ⟨rfl, rfl, rfl, by decide +kernel, rfl, by decide +kernel, by decide +kernel⟩
theorem ok_book_init {f CB : Addr} {fd : FuncData} (F : Fun K "__init__" "Book.__init__" s_Book_init f fd) (B : Blt mg) (T : Cb K mg CB) (G : K4 P w K mg base) : FnOk P w K mg base CX0 4 f fd ["self", "lates"] (spBookInit CB) := by
  refine F.ok sc_Book_init (fun vs H Q E h => ?_) (fun cdv A outer s H vs Q E hr h => ?_)
  · obtain ⟨b, dx, d, L, rfl, _⟩ := h
    rfl
  · obtain ⟨b, dx, d, L, rfl, hb, hd, LL, q⟩ := h
    have hu := hu_of hr
    refine ⟨_, (pss_cons (ps_if (pt_not (pt_val (pe_cal G.is_lates (hr.mono (by decide)) pass0 (pa_cons (pv 1) pa_nil))))
      (pss_one ps_never)
      pss_nil)
    (pss_one (ps_fld (pv 0) (pe_dc (own := [("stream", 2)]) (g := gName 2) (tt := tYes) (by rfl) sc_Book_init.nd (pi_list (pe_callB cr_sortedS (by rfl) B.sorted (by decide +kernel) (pa_cons (pe_callTy (call_listD (by rfl)) (by rfl) B.list (by decide +kernel) (pa_cons (pv 1) pa_nil)) pa_nil))) (blkOk_by (own := [("stream", 2)]) (N := ["self", "lates", "stream"]) (sc := defScope s_Book_init) (by decide +kernel)) (fun _ _ _ _ _ => (pg_name (i := 2) sc_Book_init.nd rfl (Or.inl rfl))) (fun _ _ _ _ _ => pts_nil) (fun _ _ _ _ _ => (pv 2)) (fun _ _ _ _ _ => (pe_dget hu (pv 1) (pv 2) (fun _ _ => rfl)))) rfl))), ?_⟩
    refine ⟨_, rfl, d, L, rfl, hd, LL, fun H1 s1 => ⟨_, rfl, iteF ?_⟩⟩
    refine ⟨_, rfl, d, _, rfl, .of (s1 _ _ hd), fun l hl => ?_⟩
    have e1 : (LK L).map (fun kv => kV kv.1) = (L.map (·.1)).map V.str := by
      unfold LK
      rw [List.map_map, List.map_map]
      rfl
    rw [e1]
    have l8 := LL.few
    refine ⟨l, _, rfl, SqL.of upd_same, (by rw [List.length_map]; omega), fun ys q1 hperm hsort hq1 => ?_⟩
    have hln : l ≠ q1 := fun z => by rw [← z, upd_same] at hq1; cases hq1
    have s2 : Same H (upd (upd H1 l (.lst ((L.map (·.1)).map V.str))) q1 (.lst (ys.map V.str))) := (s1.trans (sameAt (Same.refl H1) hl)).trans (sameAt (Same.refl _) hq1)
    have hlenY : ys.length ≤ 8 := by rw [hperm.length_eq, List.length_map]; exact l8
    have fOf : ∀ z, z ∈ L.map (·.1) → L.lookup z = some ((L.lookup z).getD 0) := fun z hz => by
      obtain ⟨x, hx, rfl⟩ := List.mem_map.mp hz
      rw [lookup_mem LL.nd hx]
      rfl
    refine ⟨q1, rfl, ⟨_, SqL.of upd_same⟩, fun D hD => dc_it (walk_list (xs := ys.map V.str)) (fun i H3 => H3 D = some (.dK (LK ((ys.take i).map fun y => (y, (L.lookup y).getD 0)))) ∧ Same (upd (upd H1 l (.lst ((L.map (·.1)).map V.str))) q1 (.lst (ys.map V.str))) H3) ⟨upd_same, sameAt (Same.refl _) hD⟩ (fun i H3 _ hv => SqL.of (hv.2 _ _ upd_same)) ?_ ?_⟩
    · rintro i x H3 H4 hi ⟨hD3, s3⟩ ⟨rfl, hx⟩
      obtain ⟨z, hz, rfl⟩ : ∃ z, ys[i]? = some z ∧ x = V.str z := by
        rw [List.getElem?_map] at hx
        cases e : ys[i]? with
        | none => rw [e] at hx; cases hx
        | some z => rw [e] at hx; exact ⟨z, rfl, (Option.some.inj hx).symm⟩
      have hzL : z ∈ L.map (·.1) := hperm.mem_iff.mp (List.mem_of_getElem? hz)
      have hd3 : H4 d = some (.dK (LK L)) := s3 _ _ (s2 _ _ hd)
      have hyn : ys.Nodup := hperm.symm.nodup LL.nd
      rw [List.length_map] at hi
      have hg := DGet.k (k := Sum.inr z) hd3
      rw [LK_val, fOf z hzL, Option.map_some] at hg
      refine ⟨rfl, _, rfl, _, rfl, _, rfl, d, _, rfl, hg, _, Sum.inr z, rfl, hD3, (by rw [LK_len, List.length_map, List.length_take]; exact small1000 (by omega)), ?_, sameAt s3 hD⟩
      rw [upd_same, putK_new]
      · rw [list_take hz, List.map_append]
        unfold LK
        rw [List.map_append]
        rfl
      · rw [LK_val, lookup_none]
        · rfl
        · rw [List.map_map]
          show z ∉ (ys.take i).map fun y => y
          rw [List.map_id']
          intro hm
          obtain ⟨j, hj, e⟩ := List.getElem_of_mem hm
          rw [List.length_take] at hj
          rw [List.getElem_take] at e
          have := nd_ix hyn (List.getElem?_eq_some_iff.mpr ⟨by omega, e⟩) hz
          omega
    · rintro H3 ⟨hD3, s3⟩
      rw [List.length_map, List.take_length] at hD3
      have hb3 : H3 b = some (.ins CB dx []) := s3 _ _ (s2 _ _ hb)
      have hbD : D ≠ b := fun z => by rw [z] at hD; exact absurd (s2 _ _ hb) (by rw [hD]; simp)
      refine ⟨_, rfl, b, CB, dx, [], rfl, hb3, T.cl, T.nL, (by show 0 < 1000; decide), ?_⟩
      refine q _ ⟨dx, D, _, upd_same, (by rw [upd_ne hbD]; exact hD3), fun z => ?_, ?_⟩ fun c o hc hn => ?_
      · exact lookup_perm LL.nd hperm _ (fun x hx => by rw [lookup_mem LL.nd hx]; rfl) z
      · rw [List.map_map]
        show (ys.map fun y => y).Nodup
        rw [List.map_id']
        exact hperm.symm.nodup LL.nd
      · rw [upd_ne hn]
        exact s3 _ _ (s2 _ _ hc)
abbrev s_Book_has : Stmt := inClass (topS 23) 3
theorem sc_Book_has : FnScope ["self", "stream"] ["self", "stream"] (defScope s_Book_has) := ⟨rfl, rfl, rfl, by decide +kernel, rfl, by decide +kernel, by decide +kernel⟩
theorem ok_book_has {f CB : Addr} {fd : FuncData} (F : Fun K "has" "Book.has" s_Book_has f fd) (B : Blt mg) (T : Cb K mg CB) (G : K4 P w K mg base) : FnOk P w K mg base CX0 2 f fd ["self", "stream"] (spHas CB) := by
  refine F.ok sc_Book_has (fun vs H Q E h => ?_) (fun cdv A outer s H vs Q E hr h => ?_)
  · obtain ⟨b, L, z, rfl, _⟩ := h
    rfl
  · obtain ⟨b, L, z, rfl, hB, hz, q⟩ := h
    have hu := hu_of hr
    refine ⟨_, (pss_one (ps_ret (pe_and (pe_cal G.is_name (hr.mono (by decide)) pass0 (pa_cons (pv 1) pa_nil)) (pe_one (pe_cmp (pc_din hu (pv 1) (pe_fld (pv 0) rfl)) rfl))))), ?_⟩
    refine ⟨_, rfl, _, rfl, .inl ⟨z, rfl, (by have := hz.2.1; rw [sizeLine_eq]; omega), fun H1 s1 => ⟨_, rfl, ?_⟩⟩⟩
    rw [(nmB_iff z).mpr hz]
    obtain ⟨dx, d, L', h1, h2, h3, _⟩ := hB.same s1
    refine iteT ⟨_, rfl, _, rfl, b, CB, dx, _, _, rfl, h1, T.cl, T.nL, rfl, d, _, rfl, DGet.k (k := Sum.inr z) h2, ?_⟩
    have e : (valV (LK L') (Sum.inr z : Key)).isSome = (L.lookup z).isSome := by rw [LK_val, Option.isSome_map, h3]
    rw [e]
    exact q H1 s1
abbrev s_Book_late : Stmt := inClass (topS 23) 4
theorem sc_Book_late : FnScope ["self", "stream"] ["self", "stream"] (defScope s_Book_late) := ⟨rfl, rfl, rfl, by decide +kernel, rfl, by decide +kernel, by decide +kernel⟩
theorem ok_book_late {f fh CB : Addr} {fd fdh : FuncData} (F : Fun K "late" "Book.late" s_Book_late f fd) (B : Blt mg) (T : Cb K mg CB) (M_has : Meth K CB "has" fh) (b_has : Binds K fdh ["self", "stream"] []) (F_has : FnOk P w K mg base CX0 2 fh fdh ["self", "stream"] (spHas CB)) : FnOk P w K mg base CX0 3 f fd ["self", "stream"] (spLate CB) := by
  refine F.ok sc_Book_late (fun vs H Q E h => ?_) (fun cdv A outer s H vs Q E hr h => ?_)
  · obtain ⟨b, L, z, n, rfl, _⟩ := h
    rfl
  · obtain ⟨b, L, z, n, rfl, hB, hz, hn, q⟩ := h
    have hu := hu_of hr
    refine ⟨_, (pss_cons (ps_if (pt_not (pt_val (pe_meth (pv 0) T.cl M_has F_has (hr.mono (by decide)) b_has .nil pass0 (pa_cons (pv 1) pa_nil))))
      (pss_one ps_never)
      pss_nil)
    (pss_one (ps_ret (pe_dget hu (pe_fld (pv 0) rfl) (pv 1) (fun _ _ => rfl))))), ?_⟩
    obtain ⟨dx, d, L', h1, h2, h3, _⟩ := id hB
    refine ⟨_, rfl, b, dx, _, rfl, h1, rfl, _, rfl, b, L, z, rfl, hB, hz, fun H1 s1 => ⟨_, rfl, ?_⟩⟩
    rw [hn]
    refine iteF ?_
    have hg := DGet.k (k := Sum.inr z) (s1 _ _ h2)
    rw [LK_val, h3, hn] at hg
    exact ⟨_, rfl, b, CB, dx, _, _, rfl, s1 _ _ h1, T.cl, T.nL, rfl, _, rfl, d, _, rfl, hg, q H1 s1⟩
end
end Ash

set_option Elab.async false
set_option linter.all false
set_option maxRecDepth 100000
set_option maxHeartbeats 4000000
namespace Ash
open PySem PySem.Spec PyProof.Rows L2
open C8 (pss_cut)
/-! ### entries -/
inductive Ent where
  | row (id : Int) (s k : Str) (m a r : Int)
  | fix (id m a r : Int)
  | gone (id r : Int)
  deriving DecidableEq
def Ent.vs : Ent → List V
  | .row id s k m a r => [.str "row", .int id, .str s, .str k, .int m, .int a, .int r]
  | .fix id m a r => [.str "fix", .int id, .int m, .int a, .int r]
  | .gone id r => [.str "gone", .int id, .int r]
def Ent.id : Ent → Int
  | .row id _ _ _ _ _ => id
  | .fix id _ _ _ => id
  | .gone id _ => id
def Ent.arr : Ent → Int
  | .row _ _ _ _ _ r => r
  | .fix _ _ _ r => r
  | .gone _ r => r
def Ent.ok (x : Ent) : Prop := 0 ≤ x.id ∧ ∀ id s k m a r, x = .row id s k m a r → IsNm s ∧ IsNm k
def EntAt (H : Hp) (e : Addr) (x : Ent) : Prop := H e = some (.tup x.vs)
/-- what is known of a row: taken back, or what it is -/
inductive RowSt where
  | tb
  | at_ (s k : Str) (m a : Int)
def RowV (aT : Addr) (H : Hp) : Option V → Option RowSt → Prop
  | none, none => True
  | some v, some .tb => v = .ref aT
  | some v, some (.at_ s k m a) => ∃ t, v = .ref t ∧ H t = some (.tup [.str s, .str k, .int m, .int a])
  | _, _ => False
theorem RowV.same {aT : Addr} {H H' : Hp} {v : Option V} {o : Option RowSt} (h : RowV aT H v o) (s : Same H H') : RowV aT H' v o := by
  cases v with
  | none => cases o <;> exact h
  | some v =>
    cases o with
    | none => exact h
    | some o =>
      cases o with
      | tb => exact h
      | at_ z k m a =>
        obtain ⟨t, e, h⟩ := h
        exact ⟨t, e, s _ _ h⟩
/-- what an entry makes of its row -/
def behind (L : List (Str × Int)) : Ent → Option RowSt → Option RowSt
  | .row _ s k m a r, none => (L.lookup s).bind fun l => if m ≤ r ∧ r ≤ m + l then some (.at_ s k m a) else none
  | .fix _ m a r, some (.at_ s k m0 _) => (L.lookup s).bind fun l => if r ≤ m0 + l ∧ m ≤ r ∧ r ≤ m + l then some (.at_ s k m a) else none
  | .gone _ r, some (.at_ s _ m0 _) => (L.lookup s).bind fun l => if r ≤ m0 + l then some .tb else none
  | _, _ => none
def spIsEntry (K : PySem.W.Frag) : Sp := fun vs H Q _ => ∃ v, vs = [v] ∧ ((∃ e x, v = .ref e ∧ EntAt H e x ∧ x.ok ∧ ∀ H', Same H H' → Q (.bl true) H') ∨ (NotTup K H v ∧ Q (.bl false) H) ∨
  ∃ e xs, v = .ref e ∧ H e = some (.tup xs) ∧ xs.length < 3 ∧ Q (.bl false) H)
def spArr (K : PySem.W.Frag) : Sp := fun vs H Q _ => ∃ e x, vs = [.ref e] ∧ EntAt H e x ∧ Q (.int x.arr) H
def spPlaced (CB : Addr) : Sp := fun vs H Q _ => ∃ (b t : Addr) (L : List (Str × Int)) (s k : Str) (m a r l : Int), vs = [.ref b, .ref t, .int r] ∧ BookAt CB H b L ∧ H t = some (.tup [.str s, .str k, .int m, .int a]) ∧ IsNm s ∧ L.lookup s = some l ∧
  ∀ H', Same H H' → Q (if m ≤ r ∧ r ≤ m + l then .ref t else .non) H'
def spBehind (aT CB : Addr) : Sp := fun vs H Q _ => ∃ (b e : Addr) (L : List (Str × Int)) (x : Ent) (ov : Option V) (o : Option RowSt), vs = [.ref b, .ref e, ov.getD .non] ∧ BookAt CB H b L ∧ EntAt H e x ∧ x.ok ∧ RowV aT H ov o ∧
  (∀ s k m a, o = some (.at_ s k m a) → IsNm s ∧ IsNm k ∧ (L.lookup s).isSome) ∧
  ∀ v H', Same H H' → ((behind L x o = none ∧ v = .non) ∨ (v ≠ .non ∧ ∃ y, behind L x o = some y ∧ RowV aT H' (some v) (some y))) → Q v H'
section
variable {P : Program} {w : World} {K : PySem.W.Frag} {mg : Str → Option Value} {base : Heap}
abbrev s_is_entry : Stmt := topS 28
theorem sc_is_entry : FnScope ["thing"] ["thing"] (defScope s_is_entry) := ⟨rfl, rfl, rfl, by decide +kernel, rfl, by decide +kernel, by decide +kernel⟩
theorem ok_is_entry {f : Addr} {fd : FuncData} (F : Fun K "is_entry" "is_entry" s_is_entry f fd) (B : Blt mg) (G : K3 P w K mg base) : FnOk P w K mg base CX0 3 f fd ["thing"] (spIsEntry K) := by
  refine F.ok sc_is_entry (fun vs H Q E h => ?_) (fun cdv A outer s H vs Q E hr h => ?_)
  · obtain ⟨v, rfl, _⟩ := h
    rfl
  · obtain ⟨v, rfl, hv⟩ := h
    refine ⟨_, (pss_cons (ps_if (PW.pt (pw_or (pt_not (pt_val (pe_callB call_isi (by rfl) B.isinstance (by decide +kernel) (pa_cons (pv 0) (pa_cons (pe_bltn (v := .ty "tuple") (by rfl) B.tuple (by decide +kernel) rfl) pa_nil))))) (pw_or (pt_cmpR op_lt (pe_callB call_len_seq (by rfl) B.len (by decide +kernel) (pa_cons (pv 0) pa_nil)) pe_int (nomark _)) (pw_or1 (pt_not (pt_val (pe_cal G.is_natural (hr.mono (by decide)) pass0 (pa_cons (pe_ix ix_tup (pv 0) pe_int (fun _ _ => rfl)) pa_nil))))))))
      (pss_one (ps_ret pe_bl))
      pss_nil)
    (pss_cons (ps_if (pt_cmpR op_eq (pe_ix ix_tup (pv 0) pe_int (fun _ _ => rfl)) pe_str (nomark _))
      (pss_one (ps_ret (pe_and (pe_cmpR op_eq (pe_callB call_len_seq (by rfl) B.len (by decide +kernel) (pa_cons (pv 0) pa_nil)) pe_int (nomark _)) (pe_and (pe_cal G.is_name (hr.mono (by decide)) pass0 (pa_cons (pe_ix ix_tup (pv 0) pe_int (fun _ _ => rfl)) pa_nil)) (pe_and (pe_cal G.is_name (hr.mono (by decide)) pass0 (pa_cons (pe_ix ix_tup (pv 0) pe_int (fun _ _ => rfl)) pa_nil)) (pe_one (pe_cal G.are_integers (hr.mono (by decide)) pass0 (pa_cons (pe_slice sl_tup (pv 0) (po_some pe_int) po_none) pa_nil))))))))
      pss_nil)
    (pss_cons (ps_if (pt_cmpR op_eq (pe_ix ix_tup (pv 0) pe_int (fun _ _ => rfl)) pe_str (nomark _))
      (pss_one (ps_ret (pe_and (pe_cmpR op_eq (pe_callB call_len_seq (by rfl) B.len (by decide +kernel) (pa_cons (pv 0) pa_nil)) pe_int (nomark _)) (pe_one (pe_cal G.are_integers (hr.mono (by decide)) pass0 (pa_cons (pe_slice sl_tup (pv 0) (po_some pe_int) po_none) pa_nil))))))
      pss_nil)
    (pss_one (ps_ret (pe_and (pe_cmpR op_eq (pe_ix ix_tup (pv 0) pe_int (fun _ _ => rfl)) pe_str (nomark _)) (pe_and (pe_cmpR op_eq (pe_callB call_len_seq (by rfl) B.len (by decide +kernel) (pa_cons (pv 0) pa_nil)) pe_int (nomark _)) (pe_one (pe_cal G.are_integers (hr.mono (by decide)) pass0 (pa_cons (pe_slice sl_tup (pv 0) (po_some pe_int) po_none) pa_nil)))))))))), ?_⟩
    rcases hv with ⟨e, x, rfl, hx, hok, q⟩ | ⟨⟨t, ty, e1⟩, q⟩ | ⟨e, xs, rfl, hx, hl, q⟩
    · refine ⟨_, rfl, _, _, _, _, true, rfl, ClsV.ty _, .base (.tup hx), kit_ty (by decide +kernel), _, rfl, iteF ?_⟩
      refine ⟨_, rfl, e, _, rfl, .inr (SqT.of hx), _, _, rfl, rfl, _, rfl, ?_⟩
      cases x with
      | row id s k m a r =>
        obtain ⟨h0, hn⟩ := hok
        obtain ⟨hs, hk⟩ := hn _ _ _ _ _ _ rfl
        refine iteF ⟨_, rfl, _, _, _, _, rfl, rfl, SqT.of hx, rfl, _, rfl, .inl ⟨id, rfl, _, rfl, ?_⟩⟩
        rw [decide_eq_true (show 0 ≤ id from h0)]
        refine iteF ⟨_, rfl, _, _, _, _, rfl, rfl, SqT.of hx, rfl, rfl, _, rfl, ?_⟩
        refine iteT ⟨_, rfl, e, _, rfl, .inr (SqT.of hx), rfl, _, rfl, iteT ?_⟩
        refine ⟨_, rfl, _, _, _, _, rfl, rfl, SqT.of hx, rfl, _, rfl, .inl ⟨s, rfl, (by have := hs.2.1; rw [sizeLine_eq]; omega), fun H1 s1 => ⟨_, rfl, ?_⟩⟩⟩
        rw [(nmB_iff s).mpr hs]
        have hx1 := s1 _ _ hx
        refine iteT ⟨_, rfl, _, _, _, _, rfl, rfl, SqT.of hx1, rfl, _, rfl, .inl ⟨k, rfl, (by have := hk.2.1; rw [sizeLine_eq]; omega), fun H2 s2 => ⟨_, rfl, ?_⟩⟩⟩
        rw [(nmB_iff k).mpr hk]
        have hx2 := s2 _ _ hx1
        refine iteT ⟨_, rfl, _, rfl, e, _, rfl, SqT.of hx2, (by show ¬ (HT.sIx 7 0 (some 4) = 0 ∧ HT.sIx 7 7 none = 7); decide), fun p hp => ?_⟩
        refine ⟨p, [m, a, r], rfl, SqT.of upd_same, (by show 3 ≤ 100; decide), fun H3 s3 => q _ ?_⟩
        exact ((s1.trans s2).trans (sameAt (Same.refl _) hp)).trans s3
      | fix id m a r =>
        obtain ⟨h0, hn⟩ := hok
        refine iteF ⟨_, rfl, _, _, _, _, rfl, rfl, SqT.of hx, rfl, _, rfl, .inl ⟨id, rfl, _, rfl, ?_⟩⟩
        rw [decide_eq_true (show 0 ≤ id from h0)]
        refine iteF ⟨_, rfl, _, _, _, _, rfl, rfl, SqT.of hx, rfl, rfl, _, rfl, ?_⟩
        refine iteF ⟨_, rfl, _, _, _, _, rfl, rfl, SqT.of hx, rfl, rfl, _, rfl, ?_⟩
        refine iteT ⟨_, rfl, e, _, rfl, .inr (SqT.of hx), rfl, _, rfl, iteT ?_⟩
        refine ⟨_, rfl, _, rfl, e, _, rfl, SqT.of hx, (by show ¬ (HT.sIx 5 0 (some 2) = 0 ∧ HT.sIx 5 5 none = 5); decide), fun p hp => ?_⟩
        refine ⟨p, [m, a, r], rfl, SqT.of upd_same, (by show 3 ≤ 100; decide), fun H3 s3 => q _ ?_⟩
        exact (sameAt (Same.refl _) hp).trans s3
      | gone id r =>
        obtain ⟨h0, hn⟩ := hok
        refine iteF ⟨_, rfl, _, _, _, _, rfl, rfl, SqT.of hx, rfl, _, rfl, .inl ⟨id, rfl, _, rfl, ?_⟩⟩
        rw [decide_eq_true (show 0 ≤ id from h0)]
        refine iteF ⟨_, rfl, _, _, _, _, rfl, rfl, SqT.of hx, rfl, rfl, _, rfl, ?_⟩
        refine iteF ⟨_, rfl, _, _, _, _, rfl, rfl, SqT.of hx, rfl, rfl, _, rfl, ?_⟩
        refine iteF ⟨_, rfl, _, _, _, _, rfl, rfl, SqT.of hx, rfl, rfl, _, rfl, iteT ?_⟩
        refine ⟨_, rfl, e, _, rfl, .inr (SqT.of hx), rfl, _, rfl, iteT ?_⟩
        refine ⟨_, rfl, _, rfl, e, _, rfl, SqT.of hx, (by show ¬ (HT.sIx 3 0 (some 2) = 0 ∧ HT.sIx 3 3 none = 3); decide), fun p hp => ?_⟩
        refine ⟨p, [r], rfl, SqT.of upd_same, (by show 1 ≤ 100; decide), fun H3 s3 => q _ ?_⟩
        exact (sameAt (Same.refl _) hp).trans s3
    · exact ⟨_, rfl, _, _, _, _, false, rfl, ClsV.ty _, ty, e1, _, rfl, iteT q⟩
    · refine ⟨_, rfl, _, _, _, _, true, rfl, ClsV.ty _, .base (.tup hx), kit_ty (by decide +kernel), _, rfl, iteF ?_⟩
      refine ⟨_, rfl, e, _, rfl, .inr (SqT.of hx), _, _, rfl, rfl, _, rfl, ?_⟩
      rw [decide_eq_true (show (xs.length : Int) < 3 by omega)]
      exact iteT q
abbrev s_arrival_of : Stmt := topS 29
theorem sc_arrival_of : FnScope ["entry"] ["entry"] (defScope s_arrival_of) := ⟨rfl, rfl, rfl, by decide +kernel, rfl, by decide +kernel, by decide +kernel⟩
theorem ok_arrival_of {f : Addr} {fd : FuncData} (F : Fun K "arrival_of" "arrival_of" s_arrival_of f fd) (B : Blt mg) : FnOk P w K mg base CX0 1 f fd ["entry"] (spArr K) := by
  refine F.ok sc_arrival_of (fun vs H Q E h => ?_) (fun cdv A outer s H vs Q E hr h => ?_)
  · obtain ⟨e, x, rfl, _⟩ := h
    rfl
  · obtain ⟨e, x, rfl, hx, q⟩ := h
    refine ⟨_, (pss_one (ps_ret (pe_ix ix_tup (pv 0) (pe_un un_neg pe_int) (fun _ _ => rfl)))), ?_⟩
    cases x with
    | row id s k m a r => exact ⟨_, rfl, _, rfl, _, _, _, _, rfl, rfl, SqT.of hx, rfl, q⟩
    | fix id m a r => exact ⟨_, rfl, _, rfl, _, _, _, _, rfl, rfl, SqT.of hx, rfl, q⟩
    | gone id r => exact ⟨_, rfl, _, rfl, _, _, _, _, rfl, rfl, SqT.of hx, rfl, q⟩
abbrev s_placed : Stmt := topS 31
theorem sc_placed : FnScope ["book", "row", "arrival", "stream", "moment"] ["book", "row", "arrival"] (defScope s_placed) := ⟨rfl, rfl, rfl, by decide +kernel, rfl, by decide +kernel, by decide +kernel⟩
theorem ok_placed {f fl CB : Addr} {fd fdl : FuncData} (F : Fun K "placed" "placed" s_placed f fd) (B : Blt mg) (T : Cb K mg CB) (M_late : Meth K CB "late" fl) (b_late : Binds K fdl ["self", "stream"] []) (F_late : FnOk P w K mg base CX0 3 fl fdl ["self", "stream"] (spLate CB)) : FnOk P w K mg base CX0 4 f fd ["book", "row", "arrival"] (spPlaced CB) := by
  refine F.ok sc_placed (fun vs H Q E h => ?_) (fun cdv A outer s H vs Q E hr h => ?_)
  · obtain ⟨b, t, L, z, k, m, a, r, l, rfl, _⟩ := h
    rfl
  · obtain ⟨b, t, L, z, k, m, a, r, l, rfl, hB, ht, hz, hl, q⟩ := h
    refine ⟨_, (pss_cons (ps_par (i := 3) (j := 4) (by rfl) sc_placed.nd rfl rfl (by decide) rfl rfl (pa_cons (pe_ix ix_tup (pv 1) pe_int (fun _ _ => rfl)) (pa_cons (pe_ix ix_tup (pv 1) pe_int (fun _ _ => rfl)) pa_nil)) (by rfl))
    (pss_cons (ps_if (pt_chain op_le op_le (pv 4) (pv 2) (pe_op op_add (pv 4) (pe_meth (pv 0) T.cl M_late F_late (hr.mono (by decide)) b_late .nil pass0 (pa_cons (pv 3) pa_nil))))
      (pss_one (ps_ret (pv 1)))
      pss_nil)
    (pss_one (ps_ret pe_non)))), ?_⟩
    refine ⟨_, rfl, _, _, _, _, rfl, rfl, SqT.of ht, rfl, _, rfl, _, _, _, _, rfl, rfl, SqT.of ht, rfl, _, _, rfl, ?_⟩
    obtain ⟨dx, d, L', h1, h2, h3⟩ := id hB
    refine ⟨_, rfl, _, rfl, _, _, rfl, rfl, _, rfl, ?_⟩
    refine ite2 (fun c1 => ?_) (fun c1 => ?_)
    · have c1 : m ≤ r := of_decide_eq_true c1
      refine ⟨_, rfl, _, rfl, b, dx, _, rfl, h1, rfl, _, rfl, b, L, z, l, rfl, hB, hz, hl, fun H1 s1 => ⟨_, _, rfl, rfl, _, _, rfl, rfl, _, rfl, ?_⟩⟩
      refine ite2 (fun c2 => ?_) (fun c2 => ?_)
      · have c2 : r ≤ m + l := of_decide_eq_true c2
        have := q H1 s1
        rw [if_pos ⟨c1, c2⟩] at this
        exact ⟨_, rfl, this⟩
      · have c2 : ¬ r ≤ m + l := by simpa using c2
        have := q H1 s1
        rw [if_neg (fun z => c2 z.2)] at this
        exact this
    · have c1 : ¬ m ≤ r := by simpa using c1
      have := q H (Same.refl H)
      rw [if_neg (fun z => c1 z.1)] at this
      exact ⟨_, rfl, iteF this⟩
structure K5 (P : Program) (w : World) (K : PySem.W.Frag) (mg : Str → Option Value) (base : Heap) (CB : Addr) : Prop extends K4 P w K mg base where
  is_entry : Cal P w K mg base CX0 "is_entry" 3 ["thing"] (spIsEntry K)
  arrival_of : Cal P w K mg base CX0 "arrival_of" 1 ["entry"] (spArr K)
  placed : Cal P w K mg base CX0 "placed" 4 ["book", "row", "arrival"] (spPlaced CB)
/-- the written () -/
structure Tb (K : PySem.W.Frag) (mg : Str → Option Value) (aT : Addr) : Prop where
  g : mg "TAKEN_BACK" = some (.ref aT)
  t : ∃ (o : Obj) (n : Nat), K.lookup aT = some o ∧ o.cls = .type "tuple" ∧ o.data = .seq #[] n
theorem Tb.sq {aT : Addr} (h : Tb K mg aT) (H : Hp) : SqT K H aT [] := by
  obtain ⟨o, n, h1, h2, h3⟩ := h.t
  exact .inr ⟨o, #[], n, h1, h2, h3, Nat.zero_le _, .nil⟩
abbrev s_row_behind : Stmt := topS 30
theorem sc_row_behind : FnScope ["book", "entry", "old", "stream", "key", "moment", "_"] ["book", "entry", "old"] (defScope s_row_behind) := ⟨rfl, rfl, rfl, by decide +kernel, rfl, by decide +kernel, by decide +kernel⟩
theorem ok_row_behind {f fh fl CB a_TAKEN_BACK : Addr} {fd fdh fdl : FuncData} (F : Fun K "row_behind" "row_behind" s_row_behind f fd) (B : Blt mg) (T : Cb K mg CB) (TB : Tb K mg a_TAKEN_BACK) (G : K5 P w K mg base CB) (M_has : Meth K CB "has" fh) (b_has : Binds K fdh ["self", "stream"] []) (F_has : FnOk P w K mg base CX0 2 fh fdh ["self", "stream"] (spHas CB))
    (M_late : Meth K CB "late" fl) (b_late : Binds K fdl ["self", "stream"] []) (F_late : FnOk P w K mg base CX0 3 fl fdl ["self", "stream"] (spLate CB)) : FnOk P w K mg base CX0 5 f fd ["book", "entry", "old"] (spBehind a_TAKEN_BACK CB) := by
  have g_TAKEN_BACK := TB.g
  refine F.ok sc_row_behind (fun vs H Q E h => ?_) (fun cdv A outer s H vs Q E hr h => ?_)
  · obtain ⟨b, e, L, x, ov, o, rfl, _⟩ := h
    rfl
  · obtain ⟨b, e, L, x, ov, o, rfl, hB, hx, hok, hV, hNm, q⟩ := h
    have hu := hu_of hr
    obtain ⟨dx, d, L', h1, h2, h3⟩ := id hB
    refine ⟨_, (pss_cons (ps_if (pt_cmpR op_eq (pe_ix ix_tup (pv 1) pe_int (fun _ _ => rfl)) pe_str (nomark _))
      (pss_cons (ps_if (PW.pt (pw_or (pt_cmpR op_notN (pv 2) pe_non (nomark _)) (pw_or1 (pt_not (pt_val (pe_meth (pv 0) T.cl M_has F_has (hr.mono (by decide)) b_has .nil pass0 (pa_cons (pe_ix ix_tup (pv 1) pe_int (fun _ _ => rfl)) pa_nil)))))))
        (pss_one (ps_ret pe_non))
        pss_nil)
      (pss_one (ps_ret (pe_cal G.placed (hr.mono (by decide)) pass0 (pa_cons (pv 0) (pa_cons (pe_slice sl_tup (pv 1) (po_some pe_int) (po_some pe_int)) (pa_cons (pe_cal G.arrival_of (hr.mono (by decide)) pass0 (pa_cons (pv 1) pa_nil)) pa_nil)))))))
      pss_nil)
    (pss_cons (ps_if (PW.pt (pw_or (pt_cmpR op_isN (pv 2) pe_non (nomark _)) (pw_or1 (pt_cmpR (op_eqD hr.units) (pv 2) (pe_glob (v := .ref a_TAKEN_BACK) (by rfl) g_TAKEN_BACK rfl) (nomark _)))))
      (pss_one (ps_ret pe_non))
      pss_nil)
    (pss_cons (ps_asg (pv 2) (pg_tup (by rfl) (pgs_cons (pg_name (i := 3) sc_row_behind.nd rfl (Or.inl rfl)) (pgs_cons (pg_name (i := 4) sc_row_behind.nd rfl (Or.inl rfl)) (pgs_cons (pg_name (i := 5) sc_row_behind.nd rfl (Or.inl rfl)) (pgs_cons (pg_name (i := 6) sc_row_behind.nd rfl (Or.inl rfl)) pgs_nil))))))
    (pss_cons (ps_if (pt_cmpR op_gt (pe_cal G.arrival_of (hr.mono (by decide)) pass0 (pa_cons (pv 1) pa_nil)) (pe_op op_add (pv 5) (pe_meth (pv 0) T.cl M_late F_late (hr.mono (by decide)) b_late .nil pass0 (pa_cons (pv 3) pa_nil))) (nomark _))
      (pss_one (ps_ret pe_non))
      pss_nil)
    (pss_cons (ps_if (pt_cmpR op_eq (pe_ix ix_tup (pv 1) pe_int (fun _ _ => rfl)) pe_str (nomark _))
      (pss_one (ps_ret (pe_glob (v := .ref a_TAKEN_BACK) (by rfl) g_TAKEN_BACK rfl)))
      pss_nil)
    (pss_one (ps_ret (pe_cal G.placed (hr.mono (by decide)) pass0 (pa_cons (pv 0) (pa_cons (pe_tup (pa_cons (pv 3) (pa_cons (pv 4) (pa_cons (pe_ix ix_tup (pv 1) pe_int (fun _ _ => rfl)) (pa_cons (pe_ix ix_tup (pv 1) pe_int (fun _ _ => rfl)) pa_nil))))) (pa_cons (pe_cal G.arrival_of (hr.mono (by decide)) pass0 (pa_cons (pv 1) pa_nil)) pa_nil))))))))))), ?_⟩
    cases x with
    | row id s k m a r =>
      obtain ⟨hs, hk⟩ := hok.2 _ _ _ _ _ _ rfl
      refine ⟨_, rfl, _, _, _, _, rfl, rfl, SqT.of hx, rfl, rfl, _, rfl, iteT ?_⟩
      cases ov with
      | some v =>
        have hvn : v ≠ .non := by
          cases o with
          | none => exact absurd hV (fun z => z)
          | some o =>
            cases o with
            | tb => obtain rfl : v = .ref a_TAKEN_BACK := hV; exact fun z => nomatch z
            | at_ s k m a => obtain ⟨t, rfl, _⟩ := hV; exact fun z => nomatch z
        refine ⟨_, rfl, rfl, _, rfl, ?_⟩
        show if (!decide (v = .non)) = true then _ else _
        rw [decide_eq_false hvn]
        refine iteT (q _ H (Same.refl H) (.inl ⟨?_, rfl⟩))
        cases o with
        | none => exact absurd hV (fun z => z)
        | some o => cases o <;> rfl
      | none =>
        cases o with
        | some o => exact absurd hV (fun z => z)
        | none =>
          refine ⟨_, rfl, rfl, _, rfl, iteF ?_⟩
          refine ⟨_, rfl, b, dx, _, rfl, h1, rfl, _, rfl, _, _, _, _, rfl, rfl, SqT.of hx, rfl, b, L, s, rfl, hB, hs, fun H1 s1 => ⟨_, rfl, ?_⟩⟩
          cases el : L.lookup s with
          | none =>
            refine iteT (q _ H1 s1 (.inl ⟨?_, rfl⟩))
            show (L.lookup s).bind _ = none
            rw [el]
            rfl
          | some l =>
            have hx1 := s1 _ _ hx
            refine iteF ⟨_, rfl, _, rfl, _, rfl, _, rfl, e, _, rfl, SqT.of hx1, (by show ¬ (HT.sIx 7 0 (some 2) = 0 ∧ HT.sIx 7 7 (some 6) = 7); decide), fun p hp => ?_⟩
            have hs2 : Same H (upd H1 p (.tup [.str s, .str k, .int m, .int a])) := s1.trans (sameAt (Same.refl _) hp)
            have hx2 : EntAt (upd H1 p (.tup [.str s, .str k, .int m, .int a])) e (.row id s k m a r) := hs2 _ _ hx
            refine ⟨_, rfl, e, _, rfl, hx2, b, p, L, s, k, m, a, r, l, rfl, hB.same hs2, upd_same, hs, el, fun H3 s3 => ?_⟩
            refine q _ H3 (hs2.trans s3) ?_
            by_cases c : m ≤ r ∧ r ≤ m + l
            · rw [if_pos c]
              refine .inr ⟨(fun z => nomatch z), .at_ s k m a, ?_, p, rfl, s3 _ _ upd_same⟩
              show (L.lookup s).bind _ = _
              rw [el, Option.bind_some, if_pos c]
            · rw [if_neg c]
              refine .inl ⟨?_, rfl⟩
              show (L.lookup s).bind _ = _
              rw [el, Option.bind_some, if_neg c]
    | fix id m a r =>
      refine ⟨_, rfl, _, _, _, _, rfl, rfl, SqT.of hx, rfl, rfl, _, rfl, iteF ?_⟩
      cases ov with
      | none =>
        cases o with
        | some o => exact absurd hV (fun z => z)
        | none => exact ⟨_, rfl, rfl, _, rfl, iteT (q _ H (Same.refl H) (.inl ⟨rfl, rfl⟩))⟩
      | some v =>
        cases o with
        | none => exact absurd hV (fun z => z)
        | some o =>
          cases o with
          | tb =>
            obtain rfl : v = .ref a_TAKEN_BACK := hV
            exact ⟨_, rfl, rfl, _, rfl, iteF ⟨_, rfl, .tuple [], .tuple [], .tup (TB.sq H) .nil, .tup (TB.sq H) .nil, rfl, rfl, _, rfl, iteT (q _ H (Same.refl H) (.inl ⟨rfl, rfl⟩))⟩⟩
          | at_ z k m0 a0 =>
            obtain ⟨t, rfl, ht⟩ := hV
            obtain ⟨hz, hk0, hzl⟩ := hNm _ _ _ _ rfl
            obtain ⟨l, el⟩ := Option.isSome_iff_exists.mp hzl
            refine ⟨_, rfl, rfl, _, rfl, iteF ⟨_, rfl, .tuple [.str z, .str k, .int m0, .int a0], .tuple [], .tup (SqT.of ht) (.cons (.str _) (.cons (.str _) (.cons (.int _) (.cons (.int _) .nil)))), .tup (TB.sq H) .nil, shaped_flat (by simp [flatD, nm_ok hz, nm_ok hk0]), rfl, _, rfl, iteF ?_⟩⟩
            refine ⟨_, rfl, t, _, rfl, SqT.of ht, rfl, _, _, rfl, _, _, rfl, _, _, rfl, _, _, rfl, rfl, ?_⟩
            refine ⟨_, rfl, e, _, rfl, hx, _, rfl, _, rfl, b, dx, _, rfl, h1, rfl, _, rfl, b, L, z, l, rfl, hB, hz, el, fun H1 s1 => ⟨_, _, rfl, rfl, _, _, rfl, rfl, _, rfl, ?_⟩⟩
            have hx1 : EntAt H1 e (.fix id m a r) := s1 _ _ hx
            have hB1 := hB.same s1
            refine ite2 (fun c1 => ?_) (fun c1 => ?_)
            · have c1 : m0 + l < r := of_decide_eq_true c1
              refine q _ H1 s1 (.inl ⟨?_, rfl⟩)
              show (L.lookup z).bind _ = none
              rw [el, Option.bind_some, if_neg (by omega)]
            · have c1 : ¬ m0 + l < r := fun z => c1 (decide_eq_true z)
              refine ⟨_, rfl, _, _, _, _, rfl, rfl, SqT.of hx1, rfl, rfl, _, rfl, iteF ?_⟩
              refine ⟨_, rfl, _, rfl, _, rfl, _, rfl, _, _, _, _, rfl, rfl, SqT.of hx1, rfl, _, rfl, _, _, _, _, rfl, rfl, SqT.of hx1, rfl, (by show 4 ≤ sizeLine; decide), fun p hp => ?_⟩
              have s2 : Same H (upd H1 p (.tup [.str z, .str k, .int m, .int a])) := s1.trans (sameAt (Same.refl _) hp)
              have hx2 : EntAt (upd H1 p (.tup [.str z, .str k, .int m, .int a])) e (.fix id m a r) := s2 _ _ hx
              refine ⟨_, rfl, e, _, rfl, hx2, b, p, L, z, k, m, a, r, l, rfl, hB.same s2, upd_same, hz, el, fun H3 s3 => ?_⟩
              refine q _ H3 (s2.trans s3) ?_
              by_cases c : m ≤ r ∧ r ≤ m + l
              · rw [if_pos c]
                refine .inr ⟨(fun z => nomatch z), .at_ z k m a, ?_, p, rfl, s3 _ _ upd_same⟩
                show (L.lookup z).bind _ = _
                rw [el, Option.bind_some, if_pos ⟨by omega, c.1, c.2⟩]
              · rw [if_neg c]
                refine .inl ⟨?_, rfl⟩
                show (L.lookup z).bind _ = _
                rw [el, Option.bind_some, if_neg (fun y => c y.2)]
    | gone id r =>
      refine ⟨_, rfl, _, _, _, _, rfl, rfl, SqT.of hx, rfl, rfl, _, rfl, iteF ?_⟩
      cases ov with
      | none =>
        cases o with
        | some o => exact absurd hV (fun z => z)
        | none => exact ⟨_, rfl, rfl, _, rfl, iteT (q _ H (Same.refl H) (.inl ⟨rfl, rfl⟩))⟩
      | some v =>
        cases o with
        | none => exact absurd hV (fun z => z)
        | some o =>
          cases o with
          | tb =>
            obtain rfl : v = .ref a_TAKEN_BACK := hV
            exact ⟨_, rfl, rfl, _, rfl, iteF ⟨_, rfl, .tuple [], .tuple [], .tup (TB.sq H) .nil, .tup (TB.sq H) .nil, rfl, rfl, _, rfl, iteT (q _ H (Same.refl H) (.inl ⟨rfl, rfl⟩))⟩⟩
          | at_ z k m0 a0 =>
            obtain ⟨t, rfl, ht⟩ := hV
            obtain ⟨hz, hk0, hzl⟩ := hNm _ _ _ _ rfl
            obtain ⟨l, el⟩ := Option.isSome_iff_exists.mp hzl
            refine ⟨_, rfl, rfl, _, rfl, iteF ⟨_, rfl, .tuple [.str z, .str k, .int m0, .int a0], .tuple [], .tup (SqT.of ht) (.cons (.str _) (.cons (.str _) (.cons (.int _) (.cons (.int _) .nil)))), .tup (TB.sq H) .nil, shaped_flat (by simp [flatD, nm_ok hz, nm_ok hk0]), rfl, _, rfl, iteF ?_⟩⟩
            refine ⟨_, rfl, t, _, rfl, SqT.of ht, rfl, _, _, rfl, _, _, rfl, _, _, rfl, _, _, rfl, rfl, ?_⟩
            refine ⟨_, rfl, e, _, rfl, hx, _, rfl, _, rfl, b, dx, _, rfl, h1, rfl, _, rfl, b, L, z, l, rfl, hB, hz, el, fun H1 s1 => ⟨_, _, rfl, rfl, _, _, rfl, rfl, _, rfl, ?_⟩⟩
            have hx1 : EntAt H1 e (.gone id r) := s1 _ _ hx
            refine ite2 (fun c1 => ?_) (fun c1 => ?_)
            · have c1 : m0 + l < r := of_decide_eq_true c1
              refine q _ H1 s1 (.inl ⟨?_, rfl⟩)
              show (L.lookup z).bind _ = none
              rw [el, Option.bind_some, if_neg (by omega)]
            · have c1 : ¬ m0 + l < r := fun z => c1 (decide_eq_true z)
              refine ⟨_, rfl, _, _, _, _, rfl, rfl, SqT.of hx1, rfl, rfl, _, rfl, iteT ?_⟩
              refine q _ H1 s1 (.inr ⟨(fun z => nomatch z), .tb, ?_, rfl⟩)
              show (L.lookup z).bind _ = _
              rw [el, Option.bind_some, if_pos (by omega)]
end
end Ash

set_option Elab.async false
set_option linter.all false
set_option maxRecDepth 100000
set_option maxHeartbeats 4000000
namespace PySem
open Sem (wp)
open AutoSeq1 (wpAny_loadPart')
theorem ash_enum_newT (l : Addr) (its : Array Value) (n : Nat) (dc : Option Addr) (sl : Array (Option Value)) :
    Meets (Builtin.«enumerate.__new__» ⟨[.type "enumerate", .ref l], []⟩) (fun _ R s => s.heap.get? l = some { cls := .type "tuple", dict := dc, data := .seq its n, slots := sl } ∧
      R (.ok (.ret (.ref (s.heap.push { cls := .type "tuple_iterator", data := .fields #[.ref l, .int 0 0] }).objs.size)))
        { s with heap := (s.heap.push { cls := .type "tuple_iterator", data := .fields #[.ref l, .int 0 0] }).push { cls := .type "enumerate", data := .fields #[.none, .bool false, .ref s.heap.objs.size, rawInt 0, .none, .none] } }) :=
  .of_wp fun prog w A R s h => by
    obtain ⟨hp, g, d, tk, os⟩ := s
    obtain ⟨ht, h⟩ := h
    have hsub := sub_enumerate
    have hT : Heap.IsTuple (Shared.heap ⟨hp, g, d, tk, os⟩) l its := ⟨_, ht, rfl, n, rfl⟩
    wp_walk using wpAny_loadPart' ht
    refine wpAny_stack_any fun st => wpAny_pure ?_
    split
    · rename_i c _ _ _ _ _
      cases (c == Value.type "enumerate") <;>
      · wp_walk using wpAny_loadPart' ht, wpAny_pyIter_tuple hT
        exact ⟨_, rfl, h⟩
    · wp_walk using wpAny_loadPart' ht, wpAny_pyIter_tuple hT
      exact ⟨_, rfl, h⟩
section
variable {prog : Program} {w : World} {A : Around} {E : Value → Shared → Prop} {s : Shared}
theorem ash_call_enumT {l : Addr} {its : Array Value} {Q : Value → Shared → Prop} (hT : s.heap.IsTuple l its)
    (h : ∀ h', IsEnum h' (s.heap.objs.size + 1) s.heap.objs.size 0 .none → h'.IsTupleIter s.heap.objs.size l 0 →
      (∀ b o, s.heap.get? b = some o → h'.get? b = some o) → Q (.ref (s.heap.objs.size + 1)) { s with heap := h' }) :
    wpAny (model prog w) A (call (.type "enumerate") [.ref l]) Q E s := by
  obtain ⟨⟨c, dc, dt, sl⟩, hl, hc, n, hd⟩ := hT
  replace hc : c = .type "tuple" := hc
  replace hd : dt = .seq its n := hd
  subst hc hd
  refine callType_new F.called_enumerate (by decide) (F.typeCall_enumerate_1 _) (F.newCall_enumerate_1 _) (fun o => F.args_object_init_2 o _) F.entry_enumerate_new (ash_enum_newT l its n dc sl) ⟨hl, ?_⟩
  let oi : Obj := { cls := .type "tuple_iterator", data := .fields #[.ref l, .int 0 0] }
  let oe : Obj := { cls := .type "enumerate", data := .fields #[.none, .bool false, .ref s.heap.objs.size, rawInt 0, .none, .none] }
  have hz : (s.heap.push oi).objs.size = s.heap.objs.size + 1 := Heap.size_push ..
  have he : IsEnum ((s.heap.push oi).push oe) (s.heap.objs.size + 1) s.heap.objs.size 0 .none := by
    have q := Heap.get?_push_size (s.heap.push oi) (o := oe) rfl
    rw [hz] at q
    exact q
  show _ ∧ _
  rw [hz]
  exact ⟨⟨_, he, rfl⟩, h _ he ⟨_, Heap.get?_push_of_some _ (Heap.get?_push_size _ rfl), rfl, rfl⟩ fun b o x => Heap.get?_push_of_some _ (Heap.get?_push_of_some _ x)⟩
end
end PySem
namespace Ash
open PySem PySem.Spec PyProof.Rows L2
/-- enumerate of a tuple: its items in new pairs -/
def Itet (K : PySem.W.Frag) (a : Addr) : It :=
  ⟨fun i H => ∃ (xs : List V) (x : V), SqT K H a xs ∧ xs[i]? = some x, fun i H v H' => ∃ T x, v = .ref T ∧ H T = none ∧ H' = upd H T (.tup [.int (i : Nat), x]) ∧ ∀ xs, SqT K H a xs → xs[i]? = some x, fun i H => ∃ xs : List V, SqT K H a xs ∧ xs.length ≤ i⟩
theorem turn_enumT {P : Program} {w : World} {K : PySem.W.Frag} {elts : List Expr} {kk : Nat} {tpos : Pos} (a e it : Addr) :
    Turn P w K (.Tuple elts kk tpos) (Itet K a) [e, it] e (fun i h => (∃ old, IsEnum h e it ((i : Nat) : Int) old) ∧ h.IsTupleIter it a i ∧ e ≠ it) where
  mem := by simp
  obj := fun i h st b hb => by
    obtain ⟨⟨old, he⟩, ⟨o, ho, hc, hd⟩, _⟩ := st
    rcases (show b = e ∨ b = it by simpa using hb) with z | z
    · subst z
      exact ⟨_, he, fun v q => nomatch q⟩
    · exact ⟨o, by rw [z]; exact ho, fun v q => by rw [hd] at q; cases q⟩
  keep := fun i h h' st k => by
    obtain ⟨⟨old, he⟩, hi, hne⟩ := st
    exact ⟨⟨old, k e (by simp) _ he⟩, hi.at fun o q => k it (by simp) o q, hne⟩
  item := by
    intro X hP hw hK hc i pins s σ H E I hf st hg
    subst hP hw hK
    obtain ⟨⟨old, he⟩, hit, hne⟩ := st
    obtain ⟨xs, x, hq, hx⟩ := hg
    obtain ⟨its, rv, p, hz⟩ := I.tuple hq
    obtain ⟨u, hu, ru⟩ := rv.get hx
    have hpT : s.heap.IsTuple a its.toArray := p
    have hel : e < s.heap.objs.size := Heap.lt_size he
    have hil : it < s.heap.objs.size := by
      obtain ⟨_, q, _⟩ := hit
      exact Heap.lt_size q
    have hae : e ≠ a := fun z => by
      obtain ⟨o, q1, q2, _⟩ := hpT
      rw [← z] at q1
      have q3 : s.heap.get? e = some _ := he
      rw [q3] at q1
      cases q1
      exact absurd (Value.type.inj q2) (by decide)
    have hai : a ≠ it := fun z => by
      obtain ⟨o, q1, q2, _⟩ := hpT
      obtain ⟨o2, q3, q4, _⟩ := hit
      rw [z, q3] at q1
      cases q1
      rw [q4] at q2
      exact absurd (Value.type.inj q2) (by decide)
    have hh : X.A.in1.handled = none := I.ok.hd hc
    have D := Draws.tuple (prog := X.prog) (w := X.w) hh it a hai its.toArray
    have hlt : i < its.toArray.size := by
      have := (List.getElem?_eq_some_iff.mp hu).1
      simpa using this
    refine wpAny_pyNext_enum_itemD D he ⟨hit, hpT⟩ hlt hne (by simp [hne, hae]) fun y h' tk hy ho hst hT hsz hk => ?_
    have hyu : y = u := by
      have q : its[i]? = some y := by simpa using hy
      rw [hu] at q
      exact (Option.some.inj q).symm
    subst hyu
    refine ⟨_, rfl, wpAny_letOwnedTupleGo_enum (s := { s with heap := h', toks := tk + 1 }) ho fun h'' he' sb => ?_⟩
    have hT2 : h''.get? s.heap.objs.size = some { cls := .type "tuple", data := .seq #[.int i tk, y] } := (sb.2 _ (Nat.ne_of_gt hel)).trans hT
    have new : ObjOk X.prog X.w (upd H s.heap.objs.size (.tup [.int (i : Nat), x])) h'' s.heap.objs.size (.tup [.int (i : Nat), x]) :=
      ⟨by show 2 ≤ sizeLine; decide, [.int i tk, y], .cons ⟨_, rfl⟩ (.cons ru .nil), ⟨_, hT2, rfl, _, rfl⟩⟩
    have I1 : Inv X pins σ (upd H s.heap.objs.size (.tup [.int (i : Nat), x])) { s with heap := h'', toks := tk + 1 } :=
      I.turnedNew (ch := [e, it]) (fun b o hb q => (sb.2 b (fun z => hb (by simp [z]))).trans (hk b o (fun z => hb (by simp [z])) (fun z => hb (by simp [z])) q)) hf (Nat.le_refl _) new
    refine ⟨.ref s.heap.objs.size, _, I1, rfl, ⟨_, x, rfl, I.hok.fresh (Nat.le_refl _), rfl, fun ys hy => by rw [I.tuple_inj hy hq]; exact hx⟩, ⟨⟨y, ?_⟩, hst.1.at fun o q => (sb.2 it (Ne.symm hne)).trans q, hne⟩, fun b hb => ?_⟩
    · rw [show ((i + 1 : Nat) : Int) = (i : Int) + 1 by omega]
      exact he'
    · have hb' : b < s.heap.objs.size := by
        rcases (show b = e ∨ b = it by simpa using hb) with z | z <;> rw [z] <;> assumption
      rw [upd_ne (Nat.ne_of_lt hb')]
      exact (hf b hb).1
  done := by
    intro X hP hw hK hc i pins s σ H E I hf st hg
    subst hP hw hK
    obtain ⟨⟨old, he⟩, hit, hne⟩ := st
    obtain ⟨xs, hq, hx⟩ := hg
    obtain ⟨its, rv, p, hz⟩ := I.tuple hq
    have hpT : s.heap.IsTuple a its.toArray := p
    obtain ⟨f0, f1, f2, f3, f4, f5⟩ := hf it (by simp)
    have hl := rv.length
    have hh : X.A.in1.handled = none := I.ok.hd hc
    have hT : s.TypeIs (.ref e) "enumerate" := ⟨_, he, rfl⟩
    unfold pyNext
    refine wpAny_bind (wpAny_attempt (wpAny_callSpecial?_slot (name := Str.ofString "__next__") hT F.slot_enumerate_next
      (wpAny_call_entry F.slot_enumerate_next hT F.entry_enumerate_next ?_ (F.args_enumerate_next_1 _))))
    show wpAny _ _ (field (.ref e) 2 >>= _) _ _ _
    refine wpAny_bind (wpAny_field he rfl (x := .ref it) rfl (wpAny_bind (wpAny_nextOf_tuple_end hh hit hpT (by simp; omega) fun h' x hb ⟨o, ho, hco⟩ => ?_)))
    refine wpAny_bind (wpAny_isInstance (T := "StopIteration") (b := true) ⟨o, ho, hco⟩ isSubtype_stop ?_)
    exact wpAny_pure ⟨rfl, I.turned (t' := s.toks) (fun b o hn q => hb b o hn q) f0 f1 f3 f4 f5⟩
  self := fun A i s Q E st h => by
    obtain ⟨⟨_, he⟩, _⟩ := st
    exact wpAny_pyIter_enum he h
/-- enumerate of a list or a tuple -/
def iEnumS (K : PySem.W.Frag) (ta : TA) : TI := fun σ H R => ta σ H fun vs H1 => ∃ a, vs = [.ref a] ∧ ((∃ xs, SqL K H1 a xs ∧ R (Ite K a) H1) ∨ ∃ xs, SqT K H1 a xs ∧ R (Itet K a) H1)
theorem pi_enumS {X : Cx} {e : Expr} {ta : TA} {p pos tpos : Pos} {elts : List Expr} {kk : Nat} (hg : Gl X "enumerate") (hm : X.mg "enumerate" = none) (ha : PA X [e] ta) (hs : starEach [e] X.env = [(false, eval e X.env)] := by rfl) :
    PI X (.Tuple elts kk tpos) (.Call (.Name "enumerate" p) [e] [] pos) (iEnumS X.K ta) := by
  refine ⟨fun pins s σ H R I h => ?_⟩
  refine Call_ (ld_blt I hg hm boot_enumerate (PyProof.Rows.callWith_type1 (thn (ha.run pos pins s σ H _ I h) fun us s1 ⟨vs, H1, I1, r1, a, ex, q1⟩ => ?_) hs rfl))
  subst ex
  have fresh : ∀ b, b ∈ [s1.heap.objs.size + 1, s1.heap.objs.size] → FpOk X pins H1 b := fun b hb => by
    have hle : s1.heap.objs.size ≤ b := by
      rcases (show b = s1.heap.objs.size + 1 ∨ b = s1.heap.objs.size by simpa using hb) with z | z <;> omega
    exact I1.fpOk hle (I1.hok.fresh hle)
  cases r1 with
  | cons r rr =>
    cases rr
    cases r
    rcases q1 with ⟨xs, hq, q⟩ | ⟨xs, hq, q⟩
    · obtain ⟨its, rv, p', hz⟩ := I1.list hq
      exact call_enumerate_list p'.isList fun h' he hit _ hk => wpAny_pyIter_enum he ⟨_, _, _, _, H1, rfl, I1.kept (t' := s1.toks) hk, turn_enum a _ _, ⟨⟨.none, he⟩, hit, Nat.succ_ne_self _⟩, fresh, q⟩
    · obtain ⟨its, rv, p', hz⟩ := I1.tuple hq
      exact ash_call_enumT (show s1.heap.IsTuple a its.toArray from p') fun h' he hit hk => wpAny_pyIter_enum he ⟨_, _, _, _, H1, rfl, I1.kept (t' := s1.toks) hk, turn_enumT a _ _, ⟨⟨.none, he⟩, hit, Nat.succ_ne_self _⟩, fresh, q⟩
theorem walk_enumT {K : PySem.W.Frag} {a : Addr} {xs : List V} : Walk (Itet K a) xs.length (fun H => SqT K H a xs) (YPair (fun i => some (.int (i : Nat))) (fun i => xs[i]?)) := by
  refine ⟨fun i _ hi q => ⟨xs, xs[i], q, by simp [hi]⟩, fun _ q => ⟨xs, q, Nat.le_refl _⟩, fun i H v H' _ q y => ?_⟩
  obtain ⟨T, x, h1, h2, h3, h4⟩ := y
  exact ⟨T, .int (i : Nat), x, h1, h2, h3, rfl, h4 xs q⟩
end Ash

set_option Elab.async false
set_option linter.all false
set_option maxRecDepth 100000
set_option maxHeartbeats 4000000
namespace Ash
open PySem PySem.Spec PyProof.Rows L2
open C8 (pss_cut)
/-! ### rows of things that may be entries -/
abbrev Kn := Int → Option RowSt
def late? (l : Option Int) (r : Int) : Bool := match l with
  | some t => decide (r < t)
  | none => false
/-- the index of the first thing that is not a good entry, and what is known ahead of it -/
def wk (L : List (Str × Int)) : List (Option Ent) → Nat → Kn → Option Int → Option Nat × Kn
  | [], _, S, _ => (none, S)
  | none :: _, i, S, _ => (some i, S)
  | some x :: r, i, S, l => if late? l x.arr = true then (some i, S) else match behind L x (S x.id) with
    | none => (some i, S)
    | some y => wk L r (i + 1) (fun j => if j = x.id then some y else S j) (some x.arr)
def ThAt (K : PySem.W.Frag) (H : Hp) (v : V) : Option Ent → Prop
  | some x => ∃ e, v = .ref e ∧ EntAt H e x ∧ x.ok
  | none => NotTup K H v ∨ ∃ e xs, v = .ref e ∧ H e = some (.tup xs) ∧ xs.length < 3
/-- a dict with keys that are ints, each once -/
structure KLen (kvs : List (Key × V)) (n : Nat) : Prop where
  len : kvs.length ≤ n
  nd : (kvs.map (·.1)).Nodup
  ik : ∀ kv ∈ kvs, ∃ id, kv.1 = Sum.inl id
theorem KLen.mono {kvs : List (Key × V)} {n m : Nat} (h : KLen kvs n) (l : n ≤ m) : KLen kvs m := ⟨Nat.le_trans h.len l, h.nd, h.ik⟩
theorem KLen.nil {n : Nat} : KLen [] n := ⟨Nat.zero_le _, .nil, fun _ h => nomatch h⟩
theorem KLen.put {kvs : List (Key × V)} {n : Nat} (h : KLen kvs n) (id : Int) (v : V) : KLen (putK kvs (Sum.inl id : Key) v) (n + 1) := by
  have hl := length_putK kvs (Sum.inl id : Key) v
  have h1 := h.len
  refine ⟨by omega, ?_, ?_⟩
  · unfold putK
    split
    · rw [List.map_map]
      have e : ((fun x : Key × V => x.1) ∘ fun kv : Key × V => if kv.1 = Sum.inl id then (kv.1, v) else kv) = fun x => x.1 := by
        funext x
        show (if x.1 = Sum.inl id then (x.1, v) else x).1 = x.1
        split <;> rfl
      first
        | exact e ▸ h.nd
        | (rw [show (kvs.map _) = kvs.map (·.1) from List.map_congr_left fun x _ => by
            show (if x.1 = Sum.inl id then _ else _ : Key × V).1 = x.1
            split <;> simp_all]
           exact h.nd)
    · rename_i c
      rw [List.map_append, List.nodup_append]
      refine ⟨h.nd, by simp, fun a ha b hb => ?_⟩
      obtain ⟨x, hx, rfl⟩ := List.mem_map.mp ha
      have : b = Sum.inl id := by simpa using hb
      subst this
      intro z
      exact c (List.any_eq_true.mpr ⟨x, hx, by simp [z]⟩)
  · intro kv hkv
    unfold putK at hkv
    split at hkv
    · obtain ⟨x, hx, rfl⟩ := List.mem_map.mp hkv
      obtain ⟨j, hj⟩ := h.ik x hx
      split
      · exact ⟨j, hj⟩
      · exact ⟨j, hj⟩
    · rcases List.mem_append.mp hkv with hk | hk
      · exact h.ik kv hk
      · rw [List.mem_singleton.mp hk]
        exact ⟨id, rfl⟩
def KnAt (aT : Addr) (H : Hp) (d : Addr) (S : Kn) (n : Nat) : Prop := ∃ kvs : List (Key × V), H d = some (.dK kvs) ∧ KLen kvs n ∧ ∀ id, RowV aT H (valV kvs (Sum.inl id)) (S id)
def KnOk (L : List (Str × Int)) (S : Kn) : Prop := ∀ id s k m a, S id = some (.at_ s k m a) → IsNm s ∧ IsNm k ∧ (L.lookup s).isSome
theorem tyx_same {K : PySem.W.Frag} {H H' : Hp} {v : V} {t : Value} (h : TyX K H v t) (s : Same H H') : TyX K H' v t := by
  cases h with
  | base b =>
    refine .base ?_
    cases b with
    | non => exact .non
    | bl x => exact .bl x
    | int x => exact .int x
    | str x => exact .str x
    | flt x => exact .flt x
    | lst e => exact .lst (s _ _ e)
    | frz e => exact .frz (s _ _ e)
    | tup e => exact .tup (s _ _ e)
    | dK e => exact .dK (s _ _ e)
    | dT e => exact .dT (s _ _ e)
    | ins e c a b d f => exact .ins (s _ _ e) c a b d f
  | byt b => exact .byt b
  | set e => exact .set (s _ _ e)
  | kList e c => exact .kList e c
  | kTuple e c => exact .kTuple e c
  | kDict e c => exact .kDict e c
  | fTuple e => exact .fTuple (s _ _ e)
  | fDict e => exact .fDict (s _ _ e)
theorem ThAt.same {K : PySem.W.Frag} {H H' : Hp} {v : V} {o : Option Ent} (h : ThAt K H v o) (s : Same H H') : ThAt K H' v o := by
  cases o with
  | some x =>
    obtain ⟨e, h1, h2, h3⟩ := h
    exact ⟨e, h1, s _ _ h2, h3⟩
  | none =>
    rcases h with ⟨t, h1, h2⟩ | ⟨e, xs, h1, h2, h3⟩
    · exact .inl ⟨t, tyx_same h1 s, h2⟩
    · exact .inr ⟨e, xs, h1, s _ _ h2, h3⟩
theorem behind_ok {L : List (Str × Int)} {x : Ent} {o : Option RowSt} {y : RowSt} (hx : x.ok) (ho : ∀ s k m a, o = some (.at_ s k m a) → IsNm s ∧ IsNm k ∧ (L.lookup s).isSome) (h : behind L x o = some y) :
    ∀ s k m a, y = .at_ s k m a → IsNm s ∧ IsNm k ∧ (L.lookup s).isSome := by
  rintro s k m a rfl
  cases x with
  | row id s' k' m' a' r =>
    cases o with
    | some o => cases h
    | none =>
      have h : (L.lookup s').bind _ = _ := h
      cases el : L.lookup s' with
      | none => rw [el] at h; cases h
      | some l =>
        rw [el, Option.bind_some] at h
        split at h
        · cases h
          obtain ⟨h1, h2⟩ := hx.2 _ _ _ _ _ _ rfl
          exact ⟨h1, h2, by rw [el]; rfl⟩
        · cases h
  | fix id m' a' r =>
    cases o with
    | none => cases h
    | some o =>
      cases o with
      | tb => cases h
      | at_ s' k' m0 a0 =>
        have h : (L.lookup s').bind _ = _ := h
        cases el : L.lookup s' with
        | none => rw [el] at h; cases h
        | some l =>
          rw [el, Option.bind_some] at h
          split at h
          · cases h
            exact ho _ _ _ _ rfl
          · cases h
  | gone id r =>
    cases o with
    | none => cases h
    | some o =>
      cases o with
      | tb => cases h
      | at_ s' k' m0 a0 =>
        have h : (L.lookup s').bind _ = _ := h
        cases el : L.lookup s' with
        | none => rw [el] at h; cases h
        | some l =>
          rw [el, Option.bind_some] at h
          split at h <;> cases h
def atV : Option Nat → V
  | none => .non
  | some i => .int (i : Int)
def spWalked (K : PySem.W.Frag) (aT CB : Addr) : Sp := fun vs H Q _ => ∃ (b a : Addr) (L : List (Str × Int)) (us : List V) (ths : List (Option Ent)), vs = [.ref b, .ref a] ∧ BookAt CB H b L ∧ (SqL K H a us ∨ SqT K H a us) ∧ us.length ≤ 1000 ∧ us.length = ths.length ∧
  (∀ (i : Nat) v o, us[i]? = some v → ths[i]? = some o → ThAt K H v o) ∧
  ∀ t kd H', H kd = none → Same H H' → H' t = some (.tup [atV (wk L ths 0 (fun _ => none) none).1, .ref kd]) → KnAt aT H' kd (wk L ths 0 (fun _ => none) none).2 us.length → Q (.ref t) H'
theorem pk_len {κ : Type} [DecidableEq κ] (c : List (κ × V)) (k : κ) (x : V) : (putK c k x).length ≤ c.length + 1 := by
  unfold putK
  split
  · rw [List.length_map]
    omega
  · rw [List.length_append]
    exact Nat.le_refl _
theorem seqS {K : PySem.W.Frag} {H H' : Hp} {a : Addr} {us : List V} (h : SqT K H a us) (s : Same H H') : SqT K H' a us := by
  rcases h with (h | ⟨o, h⟩) | h
  · exact .inl (.inl (s _ _ h))
  · exact .inl (.inr ⟨o, s _ _ h⟩)
  · exact .inr h
theorem rowV_off {aT d : Addr} {H : Hp} {kvs : List (Key × V)} {o' : HO} {w : Option V} {o : Option RowSt} (h : RowV aT H w o) (hd : H d = some (.dK kvs)) : RowV aT (upd H d o') w o := by
  cases w with
  | none => cases o <;> exact h
  | some v =>
    cases o with
    | none => exact h
    | some o =>
      cases o with
      | tb => exact h
      | at_ z k m a =>
        obtain ⟨t, e, h⟩ := h
        exact ⟨t, e, by rw [upd_ne (ne_of h hd (by intro z; cases z))]; exact h⟩
def latV : Option Int → V
  | none => .non
  | some n => .int n
theorem ent_id (y : Ent) : atI y.vs 1 = some (.int y.id) := by cases y <;> rfl
theorem wk_odd (L : List (Str × Int)) (r : List (Option Ent)) (i : Nat) (S : Kn) (l : Option Int) : wk L (none :: r) i S l = (some i, S) := rfl
theorem wk_late {L : List (Str × Int)} {x : Ent} {r : List (Option Ent)} {i : Nat} {S : Kn} {l : Option Int} (h : late? l x.arr = true) : wk L (some x :: r) i S l = (some i, S) := by
  show (if late? l x.arr = true then _ else _) = _
  rw [if_pos h]
theorem wk_bad {L : List (Str × Int)} {x : Ent} {r : List (Option Ent)} {i : Nat} {S : Kn} {l : Option Int} (h : late? l x.arr = false) (hb : behind L x (S x.id) = none) : wk L (some x :: r) i S l = (some i, S) := by
  show (if late? l x.arr = true then _ else _) = _
  rw [h, if_neg Bool.false_ne_true, hb]
theorem wk_go {L : List (Str × Int)} {x : Ent} {r : List (Option Ent)} {i : Nat} {S : Kn} {l : Option Int} {y : RowSt} (h : late? l x.arr = false) (hb : behind L x (S x.id) = some y) : wk L (some x :: r) i S l = wk L r (i + 1) (fun j => if j = x.id then some y else S j) (some x.arr) := by
  show (if late? l x.arr = true then _ else _) = _
  rw [h, if_neg Bool.false_ne_true, hb]
section
variable {P : Program} {w : World} {K : PySem.W.Frag} {mg : Str → Option Value} {base : Heap}
structure K6 (P : Program) (w : World) (K : PySem.W.Frag) (mg : Str → Option Value) (base : Heap) (CB aT : Addr) : Prop extends K5 P w K mg base CB where
  row_behind : Cal P w K mg base CX0 "row_behind" 5 ["book", "entry", "old"] (spBehind aT CB)
abbrev s_walked : Stmt := topS 32
theorem sc_walked : FnScope ["book", "things", "known", "latest", "at", "thing", "row"] ["book", "things"] (defScope s_walked) := ⟨rfl, rfl, rfl, by decide +kernel, rfl, by decide +kernel, by decide +kernel⟩
theorem ok_walked {f CB a_TAKEN_BACK : Addr} {fd : FuncData} (F : Fun K "walked" "walked" s_walked f fd) (B : Blt mg) (G : K6 P w K mg base CB a_TAKEN_BACK) : FnOk P w K mg base CX0 6 f fd ["book", "things"] (spWalked K a_TAKEN_BACK CB) := by
  refine F.ok sc_walked (fun vs H Q E h => ?_) (fun cdv A outer s H vs Q E hr h => ?_)
  · obtain ⟨b, a, L, us, ths, rfl, _⟩ := h
    rfl
  · obtain ⟨b, a, L, us, ths, rfl, hB, hS, hn, hlen, hT3, q⟩ := h
    have hu := hu_of hr
    refine ⟨_, (pss_cons (ps_set (i := 2) sc_walked.nd rfl (Or.inl rfl) pe_dnewK)
    (pss_cons (ps_set (i := 3) sc_walked.nd rfl (Or.inl rfl) pe_non)
    (pss_cons (ps_for PassesOwn.never rfl (pi_enumS (by rfl) B.enumerate (pa_cons (pv 1) pa_nil)) (pg_tup (by rfl) (pgs_cons (pg_name (i := 4) sc_walked.nd rfl (Or.inl rfl)) (pgs_cons (pg_name (i := 5) sc_walked.nd rfl (Or.inl rfl)) pgs_nil)))
      (pss_cut (ps_if (PW.pt (pw_or (pt_not (pt_val (pe_cal G.is_entry (hr.mono (by decide)) pass0 (pa_cons (pv 5) pa_nil)))) (pw_or1 (PW.pt (pw_and (pt_cmpR op_notN (pv 3) pe_non (nomark _)) (pw_and1 (pt_cmpR op_lt (pe_cal G.arrival_of (hr.mono (by decide)) pass0 (pa_cons (pv 5) pa_nil)) (pv 3) (nomark _))))))))
        (pss_one (ps_ret (pe_tup (pa_cons (pv 4) (pa_cons (pv 2) pa_nil)))))
        pss_nil)
      (pss_cons (ps_set (i := 6) sc_walked.nd rfl (Or.inl rfl) (pe_cal G.row_behind (hr.mono (by decide)) pass0 (pa_cons (pv 0) (pa_cons (pv 5) (pa_cons (pe_dget1 hu (pv 2) (pe_ix ix_tup (pv 5) pe_int (fun _ _ => rfl)) ⟨rfl, rfl, rfl, rfl⟩) pa_nil)))))
      (pss_cons (ps_if (pt_cmpR op_isN (pv 6) pe_non (nomark _))
        (pss_one (ps_ret (pe_tup (pa_cons (pv 4) (pa_cons (pv 2) pa_nil)))))
        pss_nil)
      (pss_cons (ps_dput hu (pv 2) (pe_ix ix_tup (pv 5) pe_int (fun _ _ => rfl)) (pv 6) rfl)
      (pss_one (ps_set (i := 3) sc_walked.nd rfl (Or.inl rfl) (pe_cal G.arrival_of (hr.mono (by decide)) pass0 (pa_cons (pv 5) pa_nil)))))))))
    (pss_one (ps_ret (pe_tup (pa_cons pe_non (pa_cons (pv 2) pa_nil)))))))), ?_⟩
    intro d hd
    rcases hS with hS | hS
    · refine ⟨_, rfl, a, rfl, .inl ⟨_, (sameAt (Same.refl H) hd).seq hS, for_it walk_enum (fun i σ H1 => ∃ (S : Kn) (lo : Option Int), (∃ a1 a2 a3, σ = [some (.ref b), some (.ref a), some (.ref d), some (latV lo), a1, a2, a3]) ∧ wk L ths 0 (fun _ => none) none = wk L (ths.drop i) i S lo ∧ KnAt a_TAKEN_BACK H1 d S i ∧ Same H H1 ∧ KnOk L S) ?_ (fun i σ H1 _ hv => by
        obtain ⟨S, lo, _, _, _, s1, _⟩ := hv
        exact s1.seq hS) ?_ ?_⟩⟩
      · exact ⟨fun _ => none, none, ⟨_, _, _, rfl⟩, rfl, ⟨[], upd_same, KLen.nil, fun id => trivial⟩, sameAt (Same.refl H) hd, fun _ _ _ _ _ z => nomatch z⟩
      · rintro i x σ H1 H2 hi ⟨S, lo, ⟨a1, a2, a3, rfl⟩, hw, ⟨kvs, hk1, hk2, hk3⟩, s1, hKn⟩ ⟨T, x1, x2, rfl, hT, rfl, e1, e2⟩
        cases e1
        have hil : i < ths.length := by rw [← hlen]; exact hi
        obtain ⟨o, ho⟩ : ∃ o, ths[i]? = some o := ⟨_, List.getElem?_eq_getElem hil⟩
        have s2 : Same H (upd H1 T (.tup [.int (i : Nat), x2])) := s1.trans (sameAt (Same.refl _) hT)
        have hdT : d ≠ T := fun z => by rw [← z, hk1] at hT; cases hT
        have hkd2 : (upd H1 T (.tup [.int (i : Nat), x2])) d = some (.dK kvs) := by rw [upd_ne hdT]; exact hk1
        have hth := hT3 i x2 o e2 ho
        have hdrop : ths.drop i = o :: ths.drop (i + 1) := by
          rw [List.drop_eq_getElem_cons hil]
          rw [List.getElem?_eq_getElem hil] at ho
          rw [Option.some.inj ho]
        rw [hdrop] at hw
        refine ⟨T, _, rfl, SqT.of upd_same, rfl, _, _, rfl, _, _, rfl, rfl, ?_⟩
        have bad : ∀ H3, Same (upd H1 T (.tup [.int (i : Nat), x2])) H3 → wk L (o :: ths.drop (i + 1)) i S lo = (some i, S) →
            ∀ (p : Addr), H3 p = none → Q (.ref p) (upd H3 p (.tup [.int (i : Nat), .ref d])) := fun H3 s3 hbad p hp => by
          have s4 := s3.trans (sameAt (Same.refl H3) hp (o := .tup [.int (i : Nat), .ref d]))
          rw [hbad] at hw
          refine q p d _ hd (s2.trans s4) ?_ ?_
          · rw [upd_same, hw]
            rfl
          · rw [hw]
            exact ⟨kvs, s4 _ _ hkd2, hk2.mono (Nat.le_of_lt hi), fun id => (hk3 id).same ((sameAt (Same.refl H1) hT).trans s4)⟩
        refine ⟨fun σ' H3 => (∃ e y a3, o = some y ∧ x2 = .ref e ∧ EntAt H e y ∧ y.ok ∧ σ' = [some (.ref b), some (.ref a), some (.ref d), some (latV lo), some (.int (i : Nat)), some (.ref e), a3] ∧ late? lo y.arr = false) ∧ Same (upd H1 T (.tup [.int (i : Nat), x2])) H3, ?_, ?_⟩
        · cases o with
          | none =>
            refine ⟨_, rfl, x2, rfl, .inr ?_⟩
            rcases hth.same s2 with nt | ⟨e, xs, rfl, hx, hx3⟩
            · exact .inl ⟨nt, _, rfl, iteT ⟨_, rfl, _, rfl, (by show 2 ≤ sizeLine; decide), fun p hp => bad _ (Same.refl _) rfl p hp⟩⟩
            · exact .inr ⟨e, xs, rfl, hx, hx3, _, rfl, iteT ⟨_, rfl, _, rfl, (by show 2 ≤ sizeLine; decide), fun p hp => bad _ (Same.refl _) rfl p hp⟩⟩
          | some y =>
            obtain ⟨e, rfl, hx, hok⟩ := hth
            refine ⟨_, rfl, _, rfl, .inl ⟨e, y, rfl, s2 _ _ hx, hok, fun H3 s3 => ⟨_, rfl, iteF ?_⟩⟩⟩
            have hx3 : EntAt H3 e y := s3 _ _ (s2 _ _ hx)
            cases lo with
            | none => exact ⟨_, rfl, rfl, _, rfl, iteF ⟨⟨e, y, _, rfl, rfl, hx, hok, rfl, rfl⟩, s3⟩⟩
            | some n =>
              refine ⟨_, rfl, rfl, _, rfl, iteT ⟨_, rfl, e, y, rfl, hx3, _, rfl, _, _, rfl, rfl, _, rfl, ?_⟩⟩
              refine ite2 (fun c1 => ?_) (fun c1 => ?_)
              · exact ⟨_, rfl, _, rfl, (by show 2 ≤ sizeLine; decide), fun p hp => bad _ s3 (wk_late c1) p hp⟩
              · exact ⟨⟨e, y, _, rfl, rfl, hx, hok, rfl, Bool.eq_false_iff.mpr c1⟩, s3⟩
        · rintro σ' H3 ⟨⟨e, y, a3, rfl, rfl, hx, hok, rfl, hlt⟩, s3⟩
          have s23 := s2.trans s3
          have hx3 : EntAt H3 e y := s23 _ _ hx
          have hkd3 : H3 d = some (.dK kvs) := s3 _ _ hkd2
          have s13 : Same H1 H3 := (sameAt (Same.refl H1) hT).trans s3
          refine ⟨_, rfl, _, rfl, _, rfl, d, rfl, .inl ⟨_, .of hkd3⟩, _, rfl, _, _, _, _, rfl, rfl, SqT.of hx3, ent_id y, _, DGet.k (k := Sum.inl y.id) hkd3, b, e, L, y, _, S y.id, rfl, hB.same s23, hx3, hok, (hk3 y.id).same s13, hKn y.id, fun v H4 s4 hv => ?_⟩
          have s34 := s3.trans s4
          rcases hv with ⟨hb, rfl⟩ | ⟨hvn, z, hb, hvz⟩
          · exact ⟨_, rfl, rfl, _, rfl, iteT ⟨_, rfl, _, rfl, (by show 2 ≤ sizeLine; decide), fun p hp => bad _ s34 (wk_bad hlt hb) p hp⟩⟩
          · refine ⟨_, rfl, rfl, _, rfl, ?_⟩
            rw [decide_eq_false hvn]
            have hx4 : EntAt H4 e y := s4 _ _ hx3
            have hkd4 : H4 d = some (.dK kvs) := s4 _ _ hkd3
            refine iteF ⟨_, rfl, _, rfl, _, rfl, _, _, _, _, rfl, rfl, SqT.of hx4, ent_id y, d, _, rfl, DPut.k (k := Sum.inl y.id) hkd4 (small1000 (by have := hk2.len; omega)), ?_⟩
            have hed : e ≠ d := fun q => by rw [q] at hx4; rw [show H4 d = _ from hx4] at hkd4; cases hkd4
            have hx5 : EntAt (upd H4 d (.dK (putK kvs (Sum.inl y.id) v))) e y := by show upd _ _ _ _ = _; rw [upd_ne hed]; exact hx4
            have s5 : Same H (upd H4 d (.dK (putK kvs (Sum.inl y.id) v))) := sameAt (s23.trans s4) hd
            refine ⟨_, rfl, e, y, rfl, hx5, (fun j => if j = y.id then some z else S j), some y.arr, ⟨_, _, _, rfl⟩, ?_, ⟨_, upd_same, hk2.put _ _, fun id => ?_⟩, s5, ?_⟩
            · rw [hw, wk_go hlt hb]
            · rw [valV_put]
              show RowV _ _ _ (if id = y.id then some z else S id)
              have rv : ∀ {w : Option V} {o : Option RowSt}, RowV a_TAKEN_BACK H4 w o → RowV a_TAKEN_BACK (upd H4 d (.dK (putK kvs (Sum.inl y.id) v))) w o := fun {w o} h => rowV_off h hkd4
              by_cases ej : id = y.id
              · rw [if_pos (by rw [ej]), if_pos ej]
                exact rv hvz
              · rw [if_neg (fun q => ej (Sum.inl.inj q)), if_neg ej]
                exact rv (((hk3 id).same s13).same s4)
            · intro id z1 k m a' he
              by_cases ej : id = y.id
              · have he : (if id = y.id then some z else S id) = some (.at_ z1 k m a') := he
                rw [if_pos ej] at he
                exact behind_ok hok (hKn y.id) hb _ _ _ _ (Option.some.inj he)
              · have he : (if id = y.id then some z else S id) = some (.at_ z1 k m a') := he
                rw [if_neg ej] at he
                exact hKn id _ _ _ _ he
      · rintro σ H1 ⟨S, lo, ⟨a1, a2, a3, rfl⟩, hw, hk, s1, hKn⟩
        have e : ths.drop us.length = [] := by rw [hlen]; exact List.drop_length
        rw [e] at hw
        refine ⟨_, rfl, (by show 2 ≤ sizeLine; decide), fun p hp => ?_⟩
        have s4 := sameAt (Same.refl H1) hp (o := .tup [.non, .ref d])
        obtain ⟨kvs, hk1, hk2, hk3⟩ := hk
        refine q p d _ hd (s1.trans s4) ?_ ?_
        · rw [upd_same, hw]
          rfl
        · rw [hw]
          exact ⟨kvs, s4 _ _ hk1, hk2, fun id => (hk3 id).same s4⟩
    · refine ⟨_, rfl, a, rfl, .inr ⟨_, seqS hS (sameAt (Same.refl H) hd), for_it walk_enumT (fun i σ H1 => ∃ (S : Kn) (lo : Option Int), (∃ a1 a2 a3, σ = [some (.ref b), some (.ref a), some (.ref d), some (latV lo), a1, a2, a3]) ∧ wk L ths 0 (fun _ => none) none = wk L (ths.drop i) i S lo ∧ KnAt a_TAKEN_BACK H1 d S i ∧ Same H H1 ∧ KnOk L S) ?_ (fun i σ H1 _ hv => by
        obtain ⟨S, lo, _, _, _, s1, _⟩ := hv
        exact seqS hS s1) ?_ ?_⟩⟩
      · exact ⟨fun _ => none, none, ⟨_, _, _, rfl⟩, rfl, ⟨[], upd_same, KLen.nil, fun id => trivial⟩, sameAt (Same.refl H) hd, fun _ _ _ _ _ z => nomatch z⟩
      · rintro i x σ H1 H2 hi ⟨S, lo, ⟨a1, a2, a3, rfl⟩, hw, ⟨kvs, hk1, hk2, hk3⟩, s1, hKn⟩ ⟨T, x1, x2, rfl, hT, rfl, e1, e2⟩
        cases e1
        have hil : i < ths.length := by rw [← hlen]; exact hi
        obtain ⟨o, ho⟩ : ∃ o, ths[i]? = some o := ⟨_, List.getElem?_eq_getElem hil⟩
        have s2 : Same H (upd H1 T (.tup [.int (i : Nat), x2])) := s1.trans (sameAt (Same.refl _) hT)
        have hdT : d ≠ T := fun z => by rw [← z, hk1] at hT; cases hT
        have hkd2 : (upd H1 T (.tup [.int (i : Nat), x2])) d = some (.dK kvs) := by rw [upd_ne hdT]; exact hk1
        have hth := hT3 i x2 o e2 ho
        have hdrop : ths.drop i = o :: ths.drop (i + 1) := by
          rw [List.drop_eq_getElem_cons hil]
          rw [List.getElem?_eq_getElem hil] at ho
          rw [Option.some.inj ho]
        rw [hdrop] at hw
        refine ⟨T, _, rfl, SqT.of upd_same, rfl, _, _, rfl, _, _, rfl, rfl, ?_⟩
        have bad : ∀ H3, Same (upd H1 T (.tup [.int (i : Nat), x2])) H3 → wk L (o :: ths.drop (i + 1)) i S lo = (some i, S) →
            ∀ (p : Addr), H3 p = none → Q (.ref p) (upd H3 p (.tup [.int (i : Nat), .ref d])) := fun H3 s3 hbad p hp => by
          have s4 := s3.trans (sameAt (Same.refl H3) hp (o := .tup [.int (i : Nat), .ref d]))
          rw [hbad] at hw
          refine q p d _ hd (s2.trans s4) ?_ ?_
          · rw [upd_same, hw]
            rfl
          · rw [hw]
            exact ⟨kvs, s4 _ _ hkd2, hk2.mono (Nat.le_of_lt hi), fun id => (hk3 id).same ((sameAt (Same.refl H1) hT).trans s4)⟩
        refine ⟨fun σ' H3 => (∃ e y a3, o = some y ∧ x2 = .ref e ∧ EntAt H e y ∧ y.ok ∧ σ' = [some (.ref b), some (.ref a), some (.ref d), some (latV lo), some (.int (i : Nat)), some (.ref e), a3] ∧ late? lo y.arr = false) ∧ Same (upd H1 T (.tup [.int (i : Nat), x2])) H3, ?_, ?_⟩
        · cases o with
          | none =>
            refine ⟨_, rfl, x2, rfl, .inr ?_⟩
            rcases hth.same s2 with nt | ⟨e, xs, rfl, hx, hx3⟩
            · exact .inl ⟨nt, _, rfl, iteT ⟨_, rfl, _, rfl, (by show 2 ≤ sizeLine; decide), fun p hp => bad _ (Same.refl _) rfl p hp⟩⟩
            · exact .inr ⟨e, xs, rfl, hx, hx3, _, rfl, iteT ⟨_, rfl, _, rfl, (by show 2 ≤ sizeLine; decide), fun p hp => bad _ (Same.refl _) rfl p hp⟩⟩
          | some y =>
            obtain ⟨e, rfl, hx, hok⟩ := hth
            refine ⟨_, rfl, _, rfl, .inl ⟨e, y, rfl, s2 _ _ hx, hok, fun H3 s3 => ⟨_, rfl, iteF ?_⟩⟩⟩
            have hx3 : EntAt H3 e y := s3 _ _ (s2 _ _ hx)
            cases lo with
            | none => exact ⟨_, rfl, rfl, _, rfl, iteF ⟨⟨e, y, _, rfl, rfl, hx, hok, rfl, rfl⟩, s3⟩⟩
            | some n =>
              refine ⟨_, rfl, rfl, _, rfl, iteT ⟨_, rfl, e, y, rfl, hx3, _, rfl, _, _, rfl, rfl, _, rfl, ?_⟩⟩
              refine ite2 (fun c1 => ?_) (fun c1 => ?_)
              · exact ⟨_, rfl, _, rfl, (by show 2 ≤ sizeLine; decide), fun p hp => bad _ s3 (wk_late c1) p hp⟩
              · exact ⟨⟨e, y, _, rfl, rfl, hx, hok, rfl, Bool.eq_false_iff.mpr c1⟩, s3⟩
        · rintro σ' H3 ⟨⟨e, y, a3, rfl, rfl, hx, hok, rfl, hlt⟩, s3⟩
          have s23 := s2.trans s3
          have hx3 : EntAt H3 e y := s23 _ _ hx
          have hkd3 : H3 d = some (.dK kvs) := s3 _ _ hkd2
          have s13 : Same H1 H3 := (sameAt (Same.refl H1) hT).trans s3
          refine ⟨_, rfl, _, rfl, _, rfl, d, rfl, .inl ⟨_, .of hkd3⟩, _, rfl, _, _, _, _, rfl, rfl, SqT.of hx3, ent_id y, _, DGet.k (k := Sum.inl y.id) hkd3, b, e, L, y, _, S y.id, rfl, hB.same s23, hx3, hok, (hk3 y.id).same s13, hKn y.id, fun v H4 s4 hv => ?_⟩
          have s34 := s3.trans s4
          rcases hv with ⟨hb, rfl⟩ | ⟨hvn, z, hb, hvz⟩
          · exact ⟨_, rfl, rfl, _, rfl, iteT ⟨_, rfl, _, rfl, (by show 2 ≤ sizeLine; decide), fun p hp => bad _ s34 (wk_bad hlt hb) p hp⟩⟩
          · refine ⟨_, rfl, rfl, _, rfl, ?_⟩
            rw [decide_eq_false hvn]
            have hx4 : EntAt H4 e y := s4 _ _ hx3
            have hkd4 : H4 d = some (.dK kvs) := s4 _ _ hkd3
            refine iteF ⟨_, rfl, _, rfl, _, rfl, _, _, _, _, rfl, rfl, SqT.of hx4, ent_id y, d, _, rfl, DPut.k (k := Sum.inl y.id) hkd4 (small1000 (by have := hk2.len; omega)), ?_⟩
            have hed : e ≠ d := fun q => by rw [q] at hx4; rw [show H4 d = _ from hx4] at hkd4; cases hkd4
            have hx5 : EntAt (upd H4 d (.dK (putK kvs (Sum.inl y.id) v))) e y := by show upd _ _ _ _ = _; rw [upd_ne hed]; exact hx4
            have s5 : Same H (upd H4 d (.dK (putK kvs (Sum.inl y.id) v))) := sameAt (s23.trans s4) hd
            refine ⟨_, rfl, e, y, rfl, hx5, (fun j => if j = y.id then some z else S j), some y.arr, ⟨_, _, _, rfl⟩, ?_, ⟨_, upd_same, hk2.put _ _, fun id => ?_⟩, s5, ?_⟩
            · rw [hw, wk_go hlt hb]
            · rw [valV_put]
              show RowV _ _ _ (if id = y.id then some z else S id)
              have rv : ∀ {w : Option V} {o : Option RowSt}, RowV a_TAKEN_BACK H4 w o → RowV a_TAKEN_BACK (upd H4 d (.dK (putK kvs (Sum.inl y.id) v))) w o := fun {w o} h => rowV_off h hkd4
              by_cases ej : id = y.id
              · rw [if_pos (by rw [ej]), if_pos ej]
                exact rv hvz
              · rw [if_neg (fun q => ej (Sum.inl.inj q)), if_neg ej]
                exact rv (((hk3 id).same s13).same s4)
            · intro id z1 k m a' he
              by_cases ej : id = y.id
              · have he : (if id = y.id then some z else S id) = some (.at_ z1 k m a') := he
                rw [if_pos ej] at he
                exact behind_ok hok (hKn y.id) hb _ _ _ _ (Option.some.inj he)
              · have he : (if id = y.id then some z else S id) = some (.at_ z1 k m a') := he
                rw [if_neg ej] at he
                exact hKn id _ _ _ _ he
      · rintro σ H1 ⟨S, lo, ⟨a1, a2, a3, rfl⟩, hw, hk, s1, hKn⟩
        have e : ths.drop us.length = [] := by rw [hlen]; exact List.drop_length
        rw [e] at hw
        refine ⟨_, rfl, (by show 2 ≤ sizeLine; decide), fun p hp => ?_⟩
        have s4 := sameAt (Same.refl H1) hp (o := .tup [.non, .ref d])
        obtain ⟨kvs, hk1, hk2, hk3⟩ := hk
        refine q p d _ hd (s1.trans s4) ?_ ?_
        · rw [upd_same, hw]
          rfl
        · rw [hw]
          exact ⟨kvs, s4 _ _ hk1, hk2, fun id => (hk3 id).same s4⟩
end
end Ash

set_option Elab.async false
set_option linter.all false
set_option maxRecDepth 100000
set_option maxHeartbeats 4000000
namespace Ash
open PySem PySem.Spec PyProof.Rows L2
open C8 (pss_cut)
/-! ### journals -/
def jf (b t kd : Addr) : List (Str × V) := putF "_known" (.ref kd) (putF "entries" (.ref t) (putF "book" (.ref b) []))
theorem jf_b (b t kd : Addr) : (jf b t kd).lookup ("book" : Str) = some (.ref b) := by
  unfold jf
  rw [lookup_putF, if_neg (by decide +kernel), lookup_putF, if_neg (by decide +kernel), lookup_putF, if_pos rfl]
theorem jf_e (b t kd : Addr) : (jf b t kd).lookup ("entries" : Str) = some (.ref t) := by
  unfold jf
  rw [lookup_putF, if_neg (by decide +kernel), lookup_putF, if_pos rfl]
theorem jf_k (b t kd : Addr) : (jf b t kd).lookup ("_known" : Str) = some (.ref kd) := by
  unfold jf
  rw [lookup_putF, if_pos rfl]
theorem jf_no (b t kd : Addr) {m : Str} (h1 : ¬ m = "_known") (h2 : ¬ m = "entries") (h3 : ¬ m = "book") : (jf b t kd).lookup m = none := by
  unfold jf
  rw [lookup_putF, if_neg h1, lookup_putF, if_neg h2, lookup_putF, if_neg h3]
  rfl
/-- a journal of the book at b with the things us, which are the entries xs -/
def JAt (K : PySem.W.Frag) (aT CJ CB : Addr) (H : Hp) (j b : Addr) (L : List (Str × Int)) (us : List V) (xs : List Ent) : Prop := ∃ dx t kd, H j = some (.ins CJ dx (jf b t kd)) ∧ BookAt CB H b L ∧ SqT K H t us ∧ us.length = xs.length ∧
  (∀ (i : Nat) v x, us[i]? = some v → xs[i]? = some x → ThAt K H v (some x)) ∧ (wk L (xs.map some) 0 (fun _ => none) none).1 = none ∧ KnAt aT H kd (wk L (xs.map some) 0 (fun _ => none) none).2 us.length
theorem KnAt.same {aT : Addr} {H H' : Hp} {d : Addr} {S : Kn} {n : Nat} (h : KnAt aT H d S n) (s : Same H H') : KnAt aT H' d S n := by
  obtain ⟨kvs, h1, h2, h3⟩ := h
  exact ⟨kvs, s _ _ h1, h2, fun id => (h3 id).same s⟩
theorem JAt.same {K : PySem.W.Frag} {aT CJ CB : Addr} {H H' : Hp} {j b : Addr} {L : List (Str × Int)} {us : List V} {xs : List Ent} (h : JAt K aT CJ CB H j b L us xs) (s : Same H H') : JAt K aT CJ CB H' j b L us xs := by
  obtain ⟨dx, t, kd, h1, h2, h3, h4, h5, h6, h7⟩ := h
  exact ⟨dx, t, kd, s _ _ h1, h2.same s, seqS h3 s, h4, fun i v x a b => (h5 i v x a b).same s, h6, h7.same s⟩
def spIsRow (K : PySem.W.Frag) : Sp := fun vs H Q _ => ∃ (a : Addr) (us : List V), vs = [.ref a] ∧ (H a = some (.lst us) ∨ SqT K H a us) ∧ ∀ H', Same H H' → Q (.bl true) H'
/-- the made error's dict -/
def Xd (H : Hp) (d : Addr) (fl : Str) (v : V) : Prop := H d = some (.xd [(fl, v)])
def spJInit (K : PySem.W.Frag) (aT CJ CB CE : Addr) : Sp := fun vs H Q E => ∃ (j dx b a : Addr) (L : List (Str × Int)) (us : List V) (ths : List (Option Ent)), vs = [.ref j, .ref b, .ref a] ∧ H j = some (.ins CJ dx []) ∧ BookAt CB H b L ∧ (H a = some (.lst us) ∨ SqT K H a us) ∧ us.length ≤ 400 ∧ us.length = ths.length ∧
  (∀ (i : Nat) v o, us[i]? = some v → ths[i]? = some o → ThAt K H v o) ∧
  (∀ H' xs, ths = xs.map some → (wk L ths 0 (fun _ => none) none).1 = none → JAt K aT CJ CB H' j b L us xs → (∃ dx t kd, H' j = some (.ins CJ dx (jf b t kd)) ∧ H kd = none) → (∀ c o, H c = some o → c ≠ j → H' c = some o) → Q .non H') ∧
  (∀ i d H', (wk L ths 0 (fun _ => none) none).1 = some i → Same H H' → Xd H' d "at" (.int (i : Int)) → E (.ref CE) (some d) H')
/-- what the top says of Journal and of the errors -/
structure Cj (P : Program) (K : PySem.W.Frag) (mg : Str → Option Value) (CJ CB : Addr) : Prop where
  cl : Cls K CJ
  nB : NoAttr K CJ "book"
  nE : NoAttr K CJ "entries"
  nK : NoAttr K CJ "_known"
  c : mg "Journal" = some (.ref CJ)
theorem wk_some {L : List (Str × Int)} : ∀ {ths : List (Option Ent)} {i : Nat} {S : Kn} {l : Option Int}, (wk L ths i S l).1 = none → ∃ xs : List Ent, ths = xs.map some
  | [], _, _, _, _ => ⟨[], rfl⟩
  | none :: r, i, S, l, h => by
    rw [wk_odd] at h
    cases h
  | some x :: r, i, S, l, h => by
    by_cases c : late? l x.arr = true
    · rw [wk_late c] at h
      cases h
    · have c : late? l x.arr = false := Bool.eq_false_iff.mpr c
      cases hb : behind L x (S x.id) with
      | none =>
        rw [wk_bad c hb] at h
        cases h
      | some y =>
        rw [wk_go c hb] at h
        obtain ⟨xs, e⟩ := wk_some h
        exact ⟨x :: xs, by rw [e]; rfl⟩
/-- all but an instance stands -/
theorem BookAt.chg {CB j C dx : Addr} {H H' : Hp} {b : Addr} {L : List (Str × Int)} (h : BookAt CB H b L) (hj : H j = some (.ins C dx [])) (k : ∀ c o, H c = some o → c ≠ j → H' c = some o) : BookAt CB H' b L := by
  obtain ⟨dx, d, L', h1, h2, h3⟩ := h
  exact ⟨dx, d, L', k _ _ h1 (ne_of h1 hj (by intro z; cases z)), k _ _ h2 (ne_of h2 hj (by intro z; cases z)), h3⟩
theorem seqC {K : PySem.W.Frag} {H H' : Hp} {a j C dx : Addr} {us : List V} (h : SqT K H a us) (hj : H j = some (.ins C dx [])) (k : ∀ c o, H c = some o → c ≠ j → H' c = some o) : SqT K H' a us := by
  rcases h with (h | ⟨o, h⟩) | h
  · exact .inl (.inl (k _ _ h (ne_of h hj (by intro z; cases z))))
  · exact .inl (.inr ⟨o, k _ _ h (ne_of h hj (by intro z; cases z))⟩)
  · exact .inr h
theorem knC {aT j : Addr} {H H' : Hp} {d : Addr} {S : Kn} {n : Nat} (h : KnAt aT H d S n) (k : ∀ c o, H c = some o → c ≠ j → H' c = some o) (hj : ∃ C dx fs, H j = some (.ins C dx fs)) : KnAt aT H' d S n := by
  obtain ⟨kvs, h1, h2, h3⟩ := h
  obtain ⟨C, dx, fs, hj⟩ := hj
  refine ⟨kvs, k _ _ h1 (ne_of h1 hj (by intro z; cases z)), h2, fun id => ?_⟩
  have q := h3 id
  cases e : valV kvs (Sum.inl id : Key) with
  | none => rw [e] at q; cases eS : S id <;> (rw [eS] at q; exact q)
  | some v =>
    rw [e] at q
    cases eS : S id with
    | none => rw [eS] at q; exact q
    | some o =>
      rw [eS] at q
      cases o with
      | tb => exact q
      | at_ z kk m a =>
        obtain ⟨t, e1, e2⟩ := q
        exact ⟨t, e1, k _ _ e2 (ne_of e2 hj (by intro z; cases z))⟩
theorem thC {K : PySem.W.Frag} {H H' : Hp} {j C dx : Addr} {v : V} {x : Ent} (h : ThAt K H v (some x)) (hj : H j = some (.ins C dx [])) (k : ∀ c o, H c = some o → c ≠ j → H' c = some o) : ThAt K H' v (some x) := by
  obtain ⟨e, h1, h2, h3⟩ := h
  exact ⟨e, h1, k _ _ h2 (ne_of h2 hj (by intro z; cases z)), h3⟩
section
variable {P : Program} {w : World} {K : PySem.W.Frag} {mg : Str → Option Value} {base : Heap}
abbrev s_is_row : Stmt := topS 18
theorem sc_is_row : FnScope ["thing"] ["thing"] (defScope s_is_row) := ⟨rfl, rfl, rfl, by decide +kernel, rfl, by decide +kernel, by decide +kernel⟩
theorem ok_is_row {f : Addr} {fd : FuncData} (F : Fun K "is_row" "is_row" s_is_row f fd) (B : Blt mg) : FnOk P w K mg base CX0 1 f fd ["thing"] (spIsRow K) := by
  refine F.ok sc_is_row (fun vs H Q E h => ?_) (fun cdv A outer s H vs Q E hr h => ?_)
  · obtain ⟨a, us, rfl, _⟩ := h
    rfl
  · obtain ⟨a, us, rfl, hS, q⟩ := h
    refine ⟨_, (pss_one (ps_ret (pe_callB call_isiT (by rfl) B.isinstance (by decide +kernel) (pa_cons (pv 0) (pa_cons (pe_tup (pa_cons (pe_bltn (v := .ty "list") (by rfl) B.list (by decide +kernel) rfl) (pa_cons (pe_bltn (v := .ty "tuple") (by rfl) B.tuple (by decide +kernel) rfl) pa_nil))) pa_nil))))), ?_⟩
    refine ⟨_, rfl, (by show 2 ≤ sizeLine; decide), fun p hp => ?_⟩
    rcases hS with hS | hS
    · refine ⟨_, p, _, .type "list", [.type "list", .type "tuple"], true, rfl, upd_same, .cons (ClsV.ty _) (.cons (ClsV.ty _) .nil), .base (.lst (by rw [upd_ne (ne_of_none hS hp)]; exact hS)), kitAny_cons (b := true) (kit_ty (by decide +kernel)) (fun z => by cases z) (fun _ => rfl), q _ (sameAt (Same.refl H) hp)⟩
    · have ty : TyX K (upd H p (.tup [.ty "list", .ty "tuple"])) (.ref a) (.type "tuple") := by
        rcases hS with (h | ⟨o, h⟩) | ⟨o, its, n, h1, h2, h3⟩
        · exact .base (.tup (by rw [upd_ne (ne_of_none h hp)]; exact h))
        · exact .fTuple (by rw [upd_ne (ne_of_none h hp)]; exact h)
        · exact .kTuple h1 h2
      refine ⟨_, p, _, .type "tuple", [.type "list", .type "tuple"], true, rfl, upd_same, .cons (ClsV.ty _) (.cons (ClsV.ty _) .nil), ty, kitAny_cons (b := false) (kit_ty (by decide +kernel)) (fun _ => kitAny_cons (b := true) (kit_ty (by decide +kernel)) (fun z => by cases z) (fun _ => rfl)) (fun z => by cases z), q _ (sameAt (Same.refl H) hp)⟩
structure K7 (P : Program) (w : World) (K : PySem.W.Frag) (mg : Str → Option Value) (base : Heap) (CB aT : Addr) : Prop extends K6 P w K mg base CB aT where
  walked : Cal P w K mg base CX0 "walked" 6 ["book", "things"] (spWalked K aT CB)
  is_row : Cal P w K mg base CX0 "is_row" 1 ["thing"] (spIsRow K)
theorem par_at : PySem.BadX.Par "at" := ⟨by decide, by decide +kernel, by decide +kernel, by decide +kernel, by decide +kernel⟩
theorem par_value : PySem.BadX.Par "value" := ⟨by decide, by decide +kernel, by decide +kernel, by decide +kernel, by decide +kernel⟩
abbrev s_Journal_init : Stmt := inClass (topS 35) 0
theorem sc_Journal_init : FnScope ["self", "book", "entries", "at", "known"] ["self", "book", "entries"] (defScope s_Journal_init) := ⟨rfl, rfl, rfl, by decide +kernel, rfl, by decide +kernel, by decide +kernel⟩
theorem ok_j_init {f CJ CBook CE fE aT aE : Addr} {fd : FuncData} (F : FunD K "__init__" "Journal.__init__" (defArgs s_Journal_init) (defBody s_Journal_init) (defScope s_Journal_init) [.ref aE] [] f fd) (B : Blt mg) (Cs : Cst mg) (T : Cj P K mg CJ CBook) (TB : Cb K mg CBook) (TE : PySem.BadX.Txt P K mg "at" "at" CE fE) (c_BadEntry : mg "BadEntry" = some (.ref CE))
    (bk : ∀ H b dx fs, H b = some (.ins CBook dx fs) → TyX K H (.ref b) (.ref CBook)) (G : K7 P w K mg base CBook aT) : FnOk P w K mg base (L2.CX P w) 7 f fd ["self", "book", "entries"] (spJInit K aT CJ CBook CE) := by
  obtain ⟨t1, g_MOST_ENTRIES⟩ := Cs.k_MOST_ENTRIES
  have c_Book := TB.c
  refine F.ok (CX := L2.CX P w) sc_Journal_init (fun vs H Q E h => ?_) (fun cdv A outer s H vs Q E hr h => ?_)
  · obtain ⟨j, dx, b, a, L, us, ths, rfl, _⟩ := h
    rfl
  · obtain ⟨j, dx, b, a, L, us, ths, rfl, hj, hB, hS, h4, hlen, hT, qg, qb⟩ := h
    have hu := hu_of hr
    refine ⟨_, (pss_cons (ps_if (pt_not (pt_val (pe_callB call_isi (by rfl) B.isinstance (by decide +kernel) (pa_cons (pv 1) (pa_cons (pe_glob (v := .ref CBook) (by rfl) c_Book rfl) pa_nil)))))
      (pss_one ps_never)
      pss_nil)
    (pss_cons (ps_if (PW.pt (pw_or (pt_not (pt_val (pe_cal G.is_row (hr.mono (by decide)) pass0 (pa_cons (pv 2) pa_nil)))) (pw_or1 (pt_cmpR op_gt (pe_callB call_len_seq (by rfl) B.len (by decide +kernel) (pa_cons (pv 2) pa_nil)) (pe_glob (v := .int 400) (by rfl) g_MOST_ENTRIES ⟨_, rfl⟩) (nomark _)))))
      (pss_one ps_never)
      pss_nil)
    (pss_cons (ps_asg (pe_cal G.walked (hr.mono (by decide)) pass0 (pa_cons (pv 1) (pa_cons (pv 2) pa_nil))) (pg_tup (by rfl) (pgs_cons (pg_name (i := 3) sc_Journal_init.nd rfl (Or.inl rfl)) (pgs_cons (pg_name (i := 4) sc_Journal_init.nd rfl (Or.inl rfl)) pgs_nil))))
    (pss_cons (ps_if (pt_cmpR op_notN (pv 3) pe_non (nomark _))
      (pss_one (ps_raiseB rfl TE par_at c_BadEntry (hr.mono (Nat.zero_le _)) (takes_of rfl rfl rfl rfl) (pa_cons (pv 3) pa_nil) (by rfl)))
      pss_nil)
    (pss_cons (ps_fld (pv 0) (pv 1) rfl)
    (pss_cons (ps_fld (pv 0) (pe_callTy call_tuple_of (by rfl) B.tuple (by decide +kernel) (pa_cons (pv 2) pa_nil)) rfl)
    (pss_one (ps_fld (pv 0) (pv 4) rfl)))))))), ?_⟩
    obtain ⟨bx, bd, L', b1, b2, b3⟩ := id hB
    refine ⟨_, rfl, _, _, _, _, true, rfl, ClsV.own _, bk _ _ _ _ b1, (by show PySem.W.kitOne K _ _ = _; unfold PySem.W.kitOne; rw [if_pos (by simp)]), _, rfl, iteF ?_⟩
    refine ⟨_, rfl, a, us, rfl, hS, fun H1 s1 => ⟨_, rfl, iteF ?_⟩⟩
    have hS1 : SqL K H1 a us ∨ SqT K H1 a us := by
      rcases hS with h | h
      · exact .inl (SqL.of (s1 _ _ h))
      · exact .inr (seqS h s1)
    refine ⟨_, rfl, a, us, rfl, hS1, _, _, rfl, rfl, _, rfl, ?_⟩
    rw [decide_eq_false (show ¬ (400 : Int) < (us.length : Int) by omega)]
    refine iteF ⟨_, rfl, _, rfl, b, a, L, us, ths, rfl, hB.same s1, hS1, by omega, hlen, fun i v o x y => (hT i v o x y).same s1, fun t kd H2 hkn s2 ht hk => ?_⟩
    have s12 := s1.trans s2
    have hkd0 : H kd = none := by
      cases e : H kd with
      | none => rfl
      | some o => rw [s1 _ _ e] at hkn; cases hkn
    refine ⟨t, _, rfl, SqT.of ht, rfl, _, _, rfl, _, _, rfl, rfl, ?_⟩
    have hj2 : H2 j = some (.ins CJ dx []) := s12 _ _ hj
    cases hw : (wk L ths 0 (fun _ => none) none).1 with
    | some i =>
      refine ⟨_, rfl, rfl, _, rfl, ?_⟩
      show if (!decide (atV (some i) = V.non)) = true then _ else _
      exact iteT ⟨_, rfl, _, rfl, fun d hd => qb i d _ hw (s12.trans (sameAt (Same.refl H2) hd)) upd_same⟩
    | none =>
      refine ⟨_, rfl, rfl, _, rfl, ?_⟩
      show if (!decide (atV none = V.non)) = true then _ else _
      refine iteF ?_
      obtain ⟨xs, hxs⟩ := wk_some hw
      have hlx : us.length = xs.length := by rw [hlen, hxs, List.length_map]
      have hTx : ∀ (i : Nat) v x, us[i]? = some v → xs[i]? = some x → ThAt K H v (some x) := fun i v x a b => hT i v (some x) a (by rw [hxs, List.getElem?_map, b]; rfl)
      have fin : ∀ H', (∀ c o, H2 c = some o → c ≠ j → H' c = some o) → (∃ t, H' j = some (.ins CJ dx (jf b t kd)) ∧ SqT K H' t us) → Q .non H' := fun H' kk2 ⟨t, h1, h2⟩ => by
        have kk : ∀ c o, H c = some o → c ≠ j → H' c = some o := fun c o h n => kk2 c o (s12 _ _ h) n
        refine qg H' xs hxs hw ⟨dx, t, kd, h1, hB.chg hj kk, h2, hlx, fun i v x a b => thC (hTx i v x a b) hj kk, by rw [← hxs]; exact hw, by rw [← hxs]; exact knC hk kk2 ⟨_, _, _, hj2⟩⟩ ⟨dx, t, kd, h1, hkd0⟩ kk
      refine ⟨_, rfl, _, rfl, j, CJ, dx, [], rfl, hj2, T.cl, T.nB, (by show 0 < 1000; decide), ?_⟩
      generalize eA : upd H2 j (.ins CJ dx (putF "book" (.ref b) [])) = HA
      have hA : HA j = some (.ins CJ dx (putF "book" (.ref b) [])) := by rw [← eA]; exact upd_same
      have kA2 : ∀ c o, H2 c = some o → c ≠ j → HA c = some o := fun c o h n => by rw [← eA, upd_ne n]; exact h
      have kA : ∀ c o, H c = some o → c ≠ j → HA c = some o := fun c o h n => kA2 c o (s12 _ _ h) n
      clear eA
      rcases hS with hS | hS
      · have haj : a ≠ j := ne_of hS hj (by intro z; cases z)
        refine ⟨_, rfl, a, us, rfl, .inl ⟨SqL.of (kA _ _ hS haj), fun l hl => ?_⟩⟩
        have hlj : l ≠ j := fun z => by rw [z, hA] at hl; cases hl
        refine ⟨_, rfl, j, CJ, dx, _, rfl, (by rw [upd_ne hlj.symm]; exact hA), T.cl, T.nE, (by show 1 < 1000; decide), ?_⟩
        refine ⟨_, rfl, _, rfl, j, CJ, dx, _, rfl, upd_same, T.cl, T.nK, (by show 2 < 1000; decide), ?_⟩
        refine fin _ (fun c o h n => ?_) ⟨l, upd_same, SqT.of (by rw [upd_ne hlj, upd_ne hlj, upd_same])⟩
        have hcl : c ≠ l := fun z => by rw [← z, kA2 c o h n] at hl; cases hl
        rw [upd_ne n, upd_ne n, upd_ne hcl]
        exact kA2 c o h n
      · refine ⟨_, rfl, a, us, rfl, .inr ⟨seqC hS hj kA, ?_⟩⟩
        refine ⟨_, rfl, j, CJ, dx, _, rfl, hA, T.cl, T.nE, (by show 1 < 1000; decide), ?_⟩
        refine ⟨_, rfl, _, rfl, j, CJ, dx, _, rfl, upd_same, T.cl, T.nK, (by show 2 < 1000; decide), ?_⟩
        have kF : ∀ c o, H2 c = some o → c ≠ j → (upd (upd HA j (.ins CJ dx (putF "entries" (.ref a) (putF "book" (.ref b) [])))) j (.ins CJ dx (putF "_known" (.ref kd) (putF "entries" (.ref a) (putF "book" (.ref b) []))))) c = some o := fun c o h n => by
          rw [upd_ne n, upd_ne n]
          exact kA2 c o h n
        exact fin _ kF ⟨a, upd_same, seqC hS hj fun c o h n => kF c o (s12 _ _ h) n⟩
structure K8 (P : Program) (w : World) (K : PySem.W.Frag) (mg : Str → Option Value) (base : Heap) (CB aT CJ CE : Addr) : Prop extends K7 P w K mg base CB aT where
  Journal : Mak P w K mg base (L2.CX P w) "Journal" CJ 7 ["self", "book", "entries"] (spJInit K aT CJ CB CE)
theorem wk_ge {L : List (Str × Int)} : ∀ {xs : List Ent} {i : Nat} {S : Kn} {t : Int}, (wk L (xs.map some) i S (some t)).1 = none → ∀ x ∈ xs, t ≤ x.arr
  | [], _, _, _, _, x, hx => nomatch hx
  | y :: r, i, S, t, h, x, hx => by
    have h : (wk L (some y :: r.map some) i S (some t)).1 = none := h
    by_cases c : late? (some t) y.arr = true
    · rw [wk_late c] at h
      cases h
    · have c0 : late? (some t) y.arr = false := Bool.eq_false_iff.mpr c
      have c1 : ¬ y.arr < t := fun z => c (decide_eq_true z)
      cases hb : behind L y (S y.id) with
      | none =>
        rw [wk_bad c0 hb] at h
        cases h
      | some z =>
        rw [wk_go c0 hb] at h
        rcases List.mem_cons.mp hx with rfl | hx
        · omega
        · have := wk_ge h x hx
          omega
theorem wk_cut {L : List (Str × Int)} (n : Int) : ∀ {xs : List Ent} {i : Nat} {S : Kn} {l : Option Int}, (wk L (xs.map some) i S l).1 = none →
    ∃ k, k ≤ xs.length ∧ (∀ (j : Nat) x, xs[j]? = some x → (x.arr ≤ n ↔ j < k)) ∧ (wk L ((xs.take k).map some) i S l).1 = none ∧ xs.filter (fun x => decide (x.arr ≤ n)) = xs.take k
  | [], _, _, _, _ => ⟨0, Nat.le_refl _, fun j x h => by simp at h, rfl, rfl⟩
  | y :: r, i, S, l, h => by
    have h : (wk L (some y :: r.map some) i S l).1 = none := h
    by_cases c : late? l y.arr = true
    · rw [wk_late c] at h
      cases h
    · have c0 : late? l y.arr = false := Bool.eq_false_iff.mpr c
      cases hb : behind L y (S y.id) with
      | none =>
        rw [wk_bad c0 hb] at h
        cases h
      | some z =>
        rw [wk_go c0 hb] at h
        by_cases cn : y.arr ≤ n
        · obtain ⟨k, k1, k2, k3, k4⟩ := wk_cut n h
          refine ⟨k + 1, by rw [List.length_cons]; omega, fun j x hj => ?_, ?_, ?_⟩
          · cases j with
            | zero =>
              have : y = x := Option.some.inj hj
              subst this
              exact ⟨fun _ => Nat.succ_pos _, fun _ => cn⟩
            | succ j =>
              have := k2 j x hj
              omega
          · show (wk L (some y :: (r.take k).map some) i S l).1 = none
            rw [wk_go c0 hb]
            exact k3
          · rw [List.filter_cons, if_pos (decide_eq_true cn), k4]
            rfl
        · refine ⟨0, Nat.zero_le _, fun j x hj => ?_, rfl, ?_⟩
          · have hx := List.mem_of_getElem? hj
            have : n < x.arr := by
              rcases List.mem_cons.mp hx with rfl | hx
              · omega
              · have := wk_ge h x hx
                omega
            omega
          · rw [List.filter_eq_nil_iff.mpr]
            · rfl
            · intro x hx
              rcases List.mem_cons.mp hx with rfl | hx
              · simpa using cn
              · have := wk_ge h x hx
                simp
                omega
def spThen (K : PySem.W.Frag) (aT CJ CB CE : Addr) : Sp := fun vs H Q E => ∃ (j b : Addr) (L : List (Str × Int)) (us : List V) (xs : List Ent) (v : V) (o : Option Ent), vs = [.ref j, v] ∧ JAt K aT CJ CB H j b L us xs ∧ us.length < 400 ∧ ThAt K H v o ∧
  (∀ j' H' x, o = some x → (wk L ((xs ++ [x]).map some) 0 (fun _ => none) none).1 = none → Same H H' → JAt K aT CJ CB H' j' b L (us ++ [v]) (xs ++ [x]) → Q (.ref j') H') ∧
  (∀ i d H', (wk L (xs.map some ++ [o]) 0 (fun _ => none) none).1 = some i → Same H H' → Xd H' d "at" (.int (i : Int)) → E (.ref CE) (some d) H')
def spHeard (K : PySem.W.Frag) (aT CJ CB CM : Addr) : Sp := fun vs H Q E => ∃ (j b : Addr) (L : List (Str × Int)) (us : List V) (xs : List Ent) (v : V), vs = [.ref j, v] ∧ JAt K aT CJ CB H j b L us xs ∧ us.length ≤ 400 ∧
  ((∃ n, v = .int n ∧ ∀ k j' H', xs.filter (fun x => decide (x.arr ≤ n)) = xs.take k → Same H H' → JAt K aT CJ CB H' j' b L (us.take k) (xs.take k) → Q (.ref j') H') ∨
   (NotInt K H v ∧ ∀ d H', Same H H' → Xd H' d "value" v → E (.ref CM) (some d) H'))
theorem mk_same {H H' : Hp} {x dx C : Addr} (nx : H x = none) (nd : H dx = none) (k : ∀ c o, (upd (upd H dx (.own x)) x (.ins C dx [])) c = some o → c ≠ x → H' c = some o) : Same H H' := fun c o h =>
  k c o (by rw [upd_ne (ne_of_none h nx), upd_ne (ne_of_none h nd)]; exact h) (ne_of_none h nx)
end
end Ash

set_option Elab.async false
set_option linter.all false
set_option maxRecDepth 100000
set_option maxHeartbeats 4000000
namespace Ash
open PySem PySem.Spec PyProof.Rows L2
open C8 (pss_cut)
section
variable {P : Program} {w : World} {K : PySem.W.Frag} {mg : Str → Option Value} {base : Heap}
abbrev s_Journal_heard : Stmt := inClass (topS 35) 6
theorem sc_Journal_heard : FnScope ["self", "h", "entry"] ["self", "h"] (defScope s_Journal_heard) := ⟨rfl, rfl, rfl, by decide +kernel, rfl, by decide +kernel, by decide +kernel⟩
theorem ok_heard {f CJ CB CE CM fM aT : Addr} {fd : FuncData} (F : Fun K "heard" "Journal.heard" s_Journal_heard f fd) (B : Blt mg) (T : Cj P K mg CJ CB) (TM : PySem.BadX.Txt P K mg "value" "value" CM fM) (c_BadMoment : mg "BadMoment" = some (.ref CM)) (G : K8 P w K mg base CB aT CJ CE) : FnOk P w K mg base (L2.CX P w) 9 f fd ["self", "h"] (spHeard K aT CJ CB CM) := by
  refine F.okX sc_Journal_heard (fun vs H Q E h => ?_) (fun cdv A outer s H vs Q E hr h => ?_)
  · obtain ⟨j, b, L, us, xs, v, rfl, _⟩ := h
    rfl
  · obtain ⟨j, b, L, us, xs, v, rfl, hJ, h4, hv⟩ := h
    refine ⟨_, (pss_cons (ps_if (pt_not (pt_val (pe_cal G.is_integer (hr.mono (by decide)) pass0 (pa_cons (pv 1) pa_nil))))
      (pss_one (ps_raiseB rfl TM par_value c_BadMoment (hr.mono (Nat.zero_le _)) (takes_of rfl rfl rfl rfl) (pa_cons (pv 1) pa_nil) (by rfl)))
      pss_nil)
    (pss_one (ps_ret (pe_mak G.Journal (hr.mono (by decide)) (passE (takes_of rfl rfl rfl rfl)) (pa_cons (pe_fld (pv 0) rfl) (pa_cons (pe_lc (own := [("entry", 2)]) (g := gName 2) (by rfl) sc_Journal_heard.nd (pi_tup (pe_fld (pv 0) rfl)) (blkOk_by (own := [("entry", 2)]) (N := ["self", "h", "entry"]) (sc := defScope s_Journal_heard) (by decide +kernel)) (fun _ _ _ _ _ => (pg_name (i := 2) sc_Journal_heard.nd rfl (Or.inl rfl))) (fun _ _ _ _ _ => pts_one (pt_cmpR op_le (pe_cal G.arrival_of (hr.mono (by decide)) pass0 (pa_cons (pv 2) pa_nil)) (pv 1) (nomark _))) (fun _ _ _ _ _ => (pv 2))) pa_nil)))))), ?_⟩
    obtain ⟨dx, t, kd, h1, h2, h3, hl, h5, h6, h7⟩ := id hJ
    rcases hv with ⟨n, rfl, q⟩ | ⟨ni, q⟩
    · refine ⟨_, rfl, _, rfl, .inl ⟨n, rfl, _, rfl, iteF ?_⟩⟩
      obtain ⟨k, k1, k2, k3, k4⟩ := wk_cut n h6
      refine ⟨_, rfl, j, CJ, dx, _, _, rfl, h1, T.cl, T.nB, jf_b _ _ _, _, rfl, j, CJ, dx, _, _, rfl, h1, T.cl, T.nE, jf_e _ _ _, t, rfl, ⟨_, h3⟩, fun D hD => lc_it (walk_tup (xs := us)) (fun i H1 => H1 D = some (.lst (us.take (min i k))) ∧ Same H H1) ⟨by rw [Nat.zero_min]; exact upd_same, sameAt (Same.refl H) hD⟩ (fun i H1 _ hv => seqS h3 hv.2) ?_ ?_⟩
      · rintro i v H1 H2 hi ⟨hD1, s1⟩ ⟨rfl, hvi⟩
        have hix : i < xs.length := by rw [← hl]; exact hi
        obtain ⟨x, hx⟩ : ∃ x, xs[i]? = some x := ⟨_, List.getElem?_eq_getElem hix⟩
        obtain ⟨e, rfl, he, hok⟩ := h5 i v x hvi hx
        refine ⟨rfl, _, rfl, e, x, rfl, s1 _ _ he, _, rfl, _, _, rfl, rfl, _, rfl, ?_⟩
        refine ite2 (fun c => ?_) (fun c => ?_)
        · have c : x.arr ≤ n := of_decide_eq_true c
          have ik := (k2 i x hx).mp c
          refine ⟨_, rfl, _, hD1, (by rw [List.length_take]; exact small1000 (by omega)), ?_, sameAt s1 hD⟩
          rw [upd_same, Nat.min_eq_left (Nat.le_of_lt ik), Nat.min_eq_left (by omega), list_take hvi]
        · have c : ¬ x.arr ≤ n := fun z => c (decide_eq_true z)
          have ik : k ≤ i := Nat.le_of_not_lt fun z => c ((k2 i x hx).mpr z)
          refine ⟨?_, s1⟩
          rw [hD1, Nat.min_eq_right ik, Nat.min_eq_right (by omega)]
      · rintro H1 ⟨hD1, s1⟩
        rw [Nat.min_eq_right (by omega)] at hD1
        intro x dx' nx ndx nex
        have sX : Same H1 (upd (upd H1 dx' (.own x)) x (.ins CJ dx' [])) := (sameAt (Same.refl _) ndx).trans (sameAt (Same.refl _) (by rw [upd_ne (Ne.symm nex)]; exact nx))
        refine ⟨x, dx', b, D, L, us.take k, (xs.take k).map some, rfl, upd_same, h2.same (s1.trans sX), .inl (sX _ _ hD1), by rw [List.length_take]; omega, by rw [List.length_take, List.length_map, List.length_take, hl], fun i v' o' hi ho => ?_, fun H' ys hys hw hJ' _ kk => ⟨rfl, ?_⟩, fun i d H' hw s hx => ?_⟩
        · have hik : i < k := by
            have := (List.getElem?_eq_some_iff.mp hi).1
            rw [List.length_take] at this
            omega
          rw [List.getElem?_take_of_lt hik] at hi
          rw [List.getElem?_map, List.getElem?_take_of_lt hik] at ho
          cases e : xs[i]? with
          | none => rw [e] at ho; cases ho
          | some y =>
            rw [e] at ho
            cases ho
            exact (h5 i v' y hi e).same (s1.trans sX)
        · have e : ys = xs.take k := (List.map_inj_right (fun a b h => Option.some.inj h)).mp hys.symm
          subst e
          exact q k x H' k4 (s1.trans (mk_same nx ndx kk)) hJ'
        · rw [k3] at hw
          cases hw
    · refine ⟨_, rfl, _, rfl, .inr ⟨ni, _, rfl, iteT ?_⟩⟩
      exact ⟨_, rfl, _, rfl, fun d hd => q d _ (sameAt (Same.refl H) hd) upd_same⟩
end
end Ash

set_option Elab.async false
set_option linter.all false
set_option maxRecDepth 100000
set_option maxHeartbeats 4000000
/-! ### own errors in a suite that handles one, and out of it -/
namespace L2H
open PySem PySem.Spec PyProof.Rows L2 HotX
theorem roomM {k : Nat} {A : Around} {h : Option Value} (r : Room k A) : RoomH 0 (A.mark h) := ⟨by have := r.dp; show A.depth + 3 * 0 + 5 < _; omega, by have := r.un; show A.units + 16 * 0 + 200 < _; omega⟩
section
variable {X : Cx} {C fI : Addr}
theorem pmk_bad5 {x par fl : Str} {a : Expr} {ta : TA} {p pos : Pos} {k : Nat} (T : PySem.BadX.Txt X.prog X.K X.mg par fl C fI) (pr : PySem.BadX.Par par) (hm : X.mg x = some (.ref C)) (hr : RoomH k X.A) (ha : PA X [a] ta) (hg : Gl X x)
    (hdb : (x == ("__debug__" : Str)) = false := by decide)
    (he : starEach (a :: []) X.env = (false, eval a X.env) :: starEach [] X.env := by rfl) (hpl : (backTo pos (starEach [] X.env)).any (·.1) = false := by rfl) :
    PMk5 X (.Call (.Name x p) [a] [] pos) (tMkB fl C ta) := by
  intro pins s σ H Q I h
  refine wpAny_Call_Name_kw (ld_glob I hg hm ?_ hdb)
  refine PySem.W.callWith_K (h₀ := X.base) I.ok.mod.kin T.kC (thn (ha.run pos pins s σ H _ I h) fun us s1 hh => ?_) he hpl
  obtain ⟨vs, H1, I1, r1, v, ev, q1⟩ := hh
  subst ev
  refine ⟨I1.kIn, ?_⟩
  cases r1 with
  | cons rv rn =>
    rename_i v' us'
    cases rn
    show wpAny _ _ (call (.ref C) [v']) _ _ _
    have hlim := I1.nolimit
    obtain ⟨mb, hb1, hb2⟩ := I1.mod.blt
    have Gn : s1.heap.Ns mainGlobals X.mg := I1.mod.glob.keeps I1.bk
    have Bn : s1.heap.Ns builtinsNs mb := hb1.keeps I1.bk
    have hbs : mb "super" = some (.type "super") := (hb2 _ (by decide +kernel)).trans (by first | boot_by_name | rfl | kernel_rfl)
    obtain ⟨hp, g, dr, tk, os⟩ := s1
    refine wpAny_call (PySem.BadX.made_ok T pr I1.kIn Gn Bn hbs hlim (by have := hr.dp; omega) fun h' tk' e d M => ?_)
    show L2N.MkP X pins σ Q (.ref e) ⟨h', g, dr, tk', os⟩ ∧ Six (.ref e) ⟨h', g, dr, tk', os⟩
    obtain ⟨oe, fv, hoe, hc, hd, hdat, h1, h2, h4⟩ := M.obj
    have hns := M.ns
    obtain ⟨G', g1, g2⟩ := restrict h' fun b => decide (b ≠ e)
    have gk : ∀ b, b ≠ e → G'.get? b = h'.get? b := fun b hb => g1 b (decide_eq_true hb)
    have ge : G'.get? e = none := g2 e (by simp)
    have old : ∀ b o, hp.get? b = some o → G'.get? b = some o := fun b o q => (gk b (Nat.ne_of_lt (Nat.lt_of_lt_of_le (Heap.lt_size q) M.new))).trans (M.keep b o q)
    have ob : ObjOk X.prog X.w (upd H1 d (.xd [(fl, v)])) G' d (.xd [(fl, v)]) :=
      ⟨_, hns.at (fun o q => (gk d M.dne).trans q), fun f => relO_one rv fl f⟩
    have J : Inv X pins σ (upd H1 d (.xd [(fl, v)])) ⟨G', g, dr, tk', os⟩ := I1.laid (t' := tk') old M.dbig ob
    refine ⟨⟨e, oe, fv, ⟨G', g, dr, tk', os⟩, _, .ref C, some d, rfl, J, fun b o q => ?_, ge, hoe, ⟨hc, hd, fun vs q => ?_⟩, hdat, h1, ?_, rfl, I1.bare, raises_own T.exC T.tyC, q1 d (I1.hok.fresh M.dbig)⟩, fun a' oe' vs' ea hg' hd' => ?_⟩
    · by_cases hb : b = e
      · have q' : G'.get? b = some o := q
        rw [hb, ge] at q'; cases q'
      · exact (gk b hb).symm.trans q
    · rw [hdat] at q
      cases q
      exact h2
    · rw [upd_ne (Ne.symm M.dne)]
      exact I1.hok.fresh M.new
    · cases ea
      have hg2 : h'.get? e = some oe' := hg'
      rw [hoe] at hg2
      cases hg2
      rw [hdat] at hd'
      cases hd'
      exact h4
theorem ps_raiseBN {x par fl : Str} {a : Expr} {ta : TA} {W : WX} {p pos pos2 : Pos} {k : Nat} (hc : X.calm = true) (T : PySem.BadX.Txt X.prog X.K X.mg par fl C fI) (pr : PySem.BadX.Par par) (hm : X.mg x = some (.ref C)) (hr : Room k X.A) (tk : L2N.Takes X W) (ha : PA X [a] ta) (hg : Gl X x)
    (hdb : (x == ("__debug__" : Str)) = false := by decide)
    (he : starEach (a :: []) X.env = (false, eval a X.env) :: starEach [] X.env := by rfl) (hpl : (backTo pos (starEach [] X.env)).any (·.1) = false := by rfl) :
    PS X (.Raise (some (.Call (.Name x p) [a] [] pos)) none pos2) (tRaiseB fl C W ta) := L2N.ps_raise hc tk (pmk_bad5 T pr hm (roomH_of hr) ha hg hdb he hpl).pmk
/-- try: .. except Cls: a suite that raises -/
def tTryX (K : PySem.W.Frag) (c : Value) (tb : WX → TS) (ts : Addr → Value → Option Addr → TS) (Wout : WX) : TS := fun D σ H => tb (wOnly K c ts Wout D) D σ H
theorem ps_tryX {x : Str} {c : Value} {body suite : List Stmt} {b₀ : Stmt} {np pos pos' : Pos} {tb : WX → TS} {ts : Addr → Value → Option Addr → TS} {Wout : WX} (hs : X.stack = X.env :: X.outer) (hf : X.env.frame = some X.env.locals) (hc : Names X x c) (hpa : ∀ hd : Option Value, PassesOwnAt (model X.prog X.w) (X.A.mark hd) X.A X.env X.xe) (tk : L2.Takes X Wout)
    (hb : ∀ (W : WX) (pn : List (Addr × Obj)) (xe : Value → Shared → Prop), L2N.Takes (X.tr pn xe) W → L2.Takes (X.tr pn xe) (wPass X.K c Wout) → PassesOwn (model X.prog X.w) X.A X.env xe → PSs (X.tr pn xe) body (tb W))
    (hsu : ∀ (a : Addr) (oe : Obj) (cls : Value) (d : Option Addr) (pn : List (Addr × Obj)), L2N.Zn cls d oe → (∃ vs, oe.data = .fields vs) → L2.Takes (suiteX X a ((a, oe) :: pn)) Wout → HotC (suiteX X a ((a, oe) :: pn)) → PSs (suiteX X a ((a, oe) :: pn)) (b₀ :: suite) (ts a cls d)) :
    PS X (.Try body [.ExceptHandler (some (.Name x np)) none (b₀ :: suite) pos'] [] [] pos) (tTryX X.K c tb ts Wout) := ps_try_onlyX hs hf hc hpa tk hb hsu
/-- raise Cls(e) from None, in a suite -/
theorem ps_raiseBF {x par fl : Str} {a : Expr} {ta : TA} {W : WX} {p pos pos2 cpos : Pos} {j k : Nat} (hc : HotC X) (T : PySem.BadX.Txt X.prog X.K X.mg par fl C fI) (pr : PySem.BadX.Par par) (hm : X.mg x = some (.ref C)) (hr : RoomH k X.A) (tk : L2.Takes X W) (ha : PA X [a] ta) (hg : Gl X x)
    (hdb : (x == ("__debug__" : Str)) = false := by decide)
    (he : starEach (a :: []) X.env = (false, eval a X.env) :: starEach [] X.env := by rfl) (hpl : (backTo pos (starEach [] X.env)).any (·.1) = false := by rfl) :
    PS X (.Raise (some (.Call (.Name x p) [a] [] pos)) (some (.Constant .none j cpos)) pos2) (tRaiseB fl C W ta) := ps_raiseHN hc tk (pmk_bad5 T pr hm hr ha hg hdb he hpl)
/-- raise Cls(e), in a suite -/
theorem ps_raiseBH {x par fl : Str} {a : Expr} {ta : TA} {W : WX} {p pos pos2 : Pos} {k : Nat} (hc : HotC X) (T : PySem.BadX.Txt X.prog X.K X.mg par fl C fI) (pr : PySem.BadX.Par par) (hm : X.mg x = some (.ref C)) (hr : RoomH k X.A) (tk : L2.Takes X W) (ha : PA X [a] ta) (hg : Gl X x)
    (hdb : (x == ("__debug__" : Str)) = false := by decide)
    (he : starEach (a :: []) X.env = (false, eval a X.env) :: starEach [] X.env := by rfl) (hpl : (backTo pos (starEach [] X.env)).any (·.1) = false := by rfl) :
    PS X (.Raise (some (.Call (.Name x p) [a] [] pos)) none pos2) (tRaiseB fl C W ta) := ps_raiseH hc tk (pmk_bad5 T pr hm hr ha hg hdb he hpl).pmk
end
end L2H
namespace Ash
open PySem PySem.Spec PyProof.Rows L2
section
variable {P : Program} {w : World} {K : PySem.W.Frag} {mg : Str → Option Value} {base : Heap}
theorem okN {x qual : Str} {st : Stmt} {f : Addr} {fd : FuncData} {N ps : List Str} {k : Nat} {sp : Sp} (F : Fun K x qual st f fd) (S : FnScope N ps (defScope st)) (len : ∀ vs H Q E, sp vs H Q E → vs.length = ps.length)
    (hbody : ∀ (cdv : Value) (A : Around) (outer : List Env) (s : Shared) (H : Hp) (vs : List V) (Q : VK) (E : XK), Room k (A.deeper (envOfC qual (defScope st) s.heap.objs.size f cdv)) → sp vs H Q E →
      ∃ t, PSs (cxOf (L2N.CX P w) P w K mg base N qual (defScope st) f cdv A outer s H E) (defBody st) t ∧ t { nx := fun _ H' => Q .non H', rt := Q } (start N vs) H) : FnOk P w K mg base (L2N.CX P w) (k + 1) f fd ps sp := by
  obtain ⟨oc, od, kV, doc, pm, an, cdv, ct, osl, rfl, lk, hcd⟩ := F.ex
  exact fn_of lk hcd S len fun A outer s H vs Q E hr hsp => hbody cdv A outer s H vs Q E hr hsp
theorem cxN {outer : List Env} {H : Hp} {s : Shared} {E : XK} {u : Value} {s' : Shared} (h : L2N.CX P w outer H s E u s') : L2.CX P w outer H s E u s' := by
  obtain ⟨a, B, H', cls, d, e, fl, r⟩ := h
  exact ⟨a, B, H', cls, d, e, L2H.flyingZ_imp (fun o z => L2N.Zn.zc z) fl, r⟩
theorem ofN {k : Nat} {f : Addr} {fd : FuncData} {ps : List Str} {sp : Sp} (F : FnOk P w K mg base (L2N.CX P w) k f fd ps sp) : FnOk P w K mg base (L2.CX P w) k f fd ps sp :=
  ⟨F.len, fun A outer s H args us vs Q E hr he hb hv hs => by
    have h := F.run A outer s H args us vs Q E hr he hb hv hs
    exact codeAny_mono h (fun o s1 c => match o, c with
      | .ok (.ret _), c => c
      | .error _, c => cxN c)⟩
end
end Ash

set_option Elab.async false
set_option linter.all false
set_option maxRecDepth 100000
set_option maxHeartbeats 4000000
namespace Ash
open PySem PySem.Spec PyProof.Rows L2
open C8 (pss_cut)
/-! ### journals whose errors may be caught and raised on -/
theorem passEN {X : Cx} {E : XK} (tk : L2N.Takes X (fun cls d _ H => E cls d H)) : Passes (L2N.CX X.prog X.w) X E := L2N.passes_call tk fun _ _ _ _ h => h
section
variable {P : Program} {w : World} {K : PySem.W.Frag} {mg : Str → Option Value} {base : Heap}
structure K8N (P : Program) (w : World) (K : PySem.W.Frag) (mg : Str → Option Value) (base : Heap) (CB aT CJ CE : Addr) : Prop extends K7 P w K mg base CB aT where
  Journal : Mak P w K mg base (L2N.CX P w) "Journal" CJ 7 ["self", "book", "entries"] (spJInit K aT CJ CB CE)
theorem makN {x : Str} {C : Addr} {k : Nat} {ps : List Str} {sp : Sp} (M : Mak P w K mg base (L2N.CX P w) x C k ps sp) : Mak P w K mg base (L2.CX P w) x C k ps sp := by
  obtain ⟨f, fd, a, b, c, d⟩ := M.ex
  exact ⟨f, fd, a, b, c, ofN d⟩
theorem metN {C : Addr} {m : Str} {k : Nat} {ps : List Str} {sp : Sp} (M : Met P w K mg base (L2N.CX P w) C m k ps sp) : Met P w K mg base (L2.CX P w) C m k ps sp := by
  obtain ⟨f, fd, a, b, d⟩ := M.ex
  exact ⟨f, fd, a, b, ofN d⟩
theorem K8N.k8 {CB aT CJ CE : Addr} (G : K8N P w K mg base CB aT CJ CE) : K8 P w K mg base CB aT CJ CE := ⟨G.toK7, makN G.Journal⟩
def spThenN (K : PySem.W.Frag) (aT CJ CB CE : Addr) : Sp := fun vs H Q E => ∃ (j b : Addr) (L : List (Str × Int)) (us : List V) (xs : List Ent) (v : V) (o : Option Ent), vs = [.ref j, v] ∧ JAt K aT CJ CB H j b L us xs ∧ ThAt K H v o ∧ us.length ≤ 400 ∧
  (∀ j' H' x, o = some x → (wk L ((xs ++ [x]).map some) 0 (fun _ => none) none).1 = none → Same H H' → JAt K aT CJ CB H' j' b L (us ++ [v]) (xs ++ [x]) → us.length < 400 → H j' = none → (∃ dx t kd, H' j' = some (.ins CJ dx (jf b t kd)) ∧ H kd = none) → Q (.ref j') H') ∧
  (∀ i d H', (wk L (xs.map some ++ [o]) 0 (fun _ => none) none).1 = some i → Same H H' → Xd H' d "at" (.int (i : Int)) → us.length < 400 → E (.ref CE) (some d) H') ∧
  (us.length = 400 → ∀ d H', Same H H' → Xd H' d "at" (.int 400) → E (.ref CE) (some d) H')
theorem ok_j_initN {f CJ CBook CE fE aT aE : Addr} {fd : FuncData} (F : FunD K "__init__" "Journal.__init__" (defArgs s_Journal_init) (defBody s_Journal_init) (defScope s_Journal_init) [.ref aE] [] f fd) (B : Blt mg) (Cs : Cst mg) (T : Cj P K mg CJ CBook) (TB : Cb K mg CBook) (TE : PySem.BadX.Txt P K mg "at" "at" CE fE) (c_BadEntry : mg "BadEntry" = some (.ref CE))
    (bk : ∀ H b dx fs, H b = some (.ins CBook dx fs) → TyX K H (.ref b) (.ref CBook)) (G : K7 P w K mg base CBook aT) : FnOk P w K mg base (L2N.CX P w) 7 f fd ["self", "book", "entries"] (spJInit K aT CJ CBook CE) := by
  obtain ⟨t1, g_MOST_ENTRIES⟩ := Cs.k_MOST_ENTRIES
  have c_Book := TB.c
  refine F.ok (CX := L2N.CX P w) sc_Journal_init (fun vs H Q E h => ?_) (fun cdv A outer s H vs Q E hr h => ?_)
  · obtain ⟨j, dx, b, a, L, us, ths, rfl, _⟩ := h
    rfl
  · obtain ⟨j, dx, b, a, L, us, ths, rfl, hj, hB, hS, h4, hlen, hT, qg, qb⟩ := h
    have hu := hu_of hr
    refine ⟨_, (pss_cons (ps_if (pt_not (pt_val (pe_callB call_isi (by rfl) B.isinstance (by decide +kernel) (pa_cons (pv 1) (pa_cons (pe_glob (v := .ref CBook) (by rfl) c_Book rfl) pa_nil)))))
      (pss_one ps_never)
      pss_nil)
    (pss_cons (ps_if (PW.pt (pw_or (pt_not (pt_val (pe_cal G.is_row (hr.mono (by decide)) pass0 (pa_cons (pv 2) pa_nil)))) (pw_or1 (pt_cmpR op_gt (pe_callB call_len_seq (by rfl) B.len (by decide +kernel) (pa_cons (pv 2) pa_nil)) (pe_glob (v := .int 400) (by rfl) g_MOST_ENTRIES ⟨_, rfl⟩) (nomark _)))))
      (pss_one ps_never)
      pss_nil)
    (pss_cons (ps_asg (pe_cal G.walked (hr.mono (by decide)) pass0 (pa_cons (pv 1) (pa_cons (pv 2) pa_nil))) (pg_tup (by rfl) (pgs_cons (pg_name (i := 3) sc_Journal_init.nd rfl (Or.inl rfl)) (pgs_cons (pg_name (i := 4) sc_Journal_init.nd rfl (Or.inl rfl)) pgs_nil))))
    (pss_cons (ps_if (pt_cmpR op_notN (pv 3) pe_non (nomark _))
      (pss_one (L2H.ps_raiseBN rfl TE par_at c_BadEntry (hr.mono (Nat.zero_le _)) (L2N.takes_of rfl rfl rfl rfl) (pa_cons (pv 3) pa_nil) (by rfl)))
      pss_nil)
    (pss_cons (ps_fld (pv 0) (pv 1) rfl)
    (pss_cons (ps_fld (pv 0) (pe_callTy call_tuple_of (by rfl) B.tuple (by decide +kernel) (pa_cons (pv 2) pa_nil)) rfl)
    (pss_one (ps_fld (pv 0) (pv 4) rfl)))))))), ?_⟩
    obtain ⟨bx, bd, L', b1, b2, b3⟩ := id hB
    refine ⟨_, rfl, _, _, _, _, true, rfl, ClsV.own _, bk _ _ _ _ b1, (by show PySem.W.kitOne K _ _ = _; unfold PySem.W.kitOne; rw [if_pos (by simp)]), _, rfl, iteF ?_⟩
    refine ⟨_, rfl, a, us, rfl, hS, fun H1 s1 => ⟨_, rfl, iteF ?_⟩⟩
    have hS1 : SqL K H1 a us ∨ SqT K H1 a us := by
      rcases hS with h | h
      · exact .inl (SqL.of (s1 _ _ h))
      · exact .inr (seqS h s1)
    refine ⟨_, rfl, a, us, rfl, hS1, _, _, rfl, rfl, _, rfl, ?_⟩
    rw [decide_eq_false (show ¬ (400 : Int) < (us.length : Int) by omega)]
    refine iteF ⟨_, rfl, _, rfl, b, a, L, us, ths, rfl, hB.same s1, hS1, by omega, hlen, fun i v o x y => (hT i v o x y).same s1, fun t kd H2 hkn s2 ht hk => ?_⟩
    have s12 := s1.trans s2
    have hkd0 : H kd = none := by
      cases e : H kd with
      | none => rfl
      | some o => rw [s1 _ _ e] at hkn; cases hkn
    refine ⟨t, _, rfl, SqT.of ht, rfl, _, _, rfl, _, _, rfl, rfl, ?_⟩
    have hj2 : H2 j = some (.ins CJ dx []) := s12 _ _ hj
    cases hw : (wk L ths 0 (fun _ => none) none).1 with
    | some i =>
      refine ⟨_, rfl, rfl, _, rfl, ?_⟩
      show if (!decide (atV (some i) = V.non)) = true then _ else _
      exact iteT ⟨_, rfl, _, rfl, fun d hd => qb i d _ hw (s12.trans (sameAt (Same.refl H2) hd)) upd_same⟩
    | none =>
      refine ⟨_, rfl, rfl, _, rfl, ?_⟩
      show if (!decide (atV none = V.non)) = true then _ else _
      refine iteF ?_
      obtain ⟨xs, hxs⟩ := wk_some hw
      have hlx : us.length = xs.length := by rw [hlen, hxs, List.length_map]
      have hTx : ∀ (i : Nat) v x, us[i]? = some v → xs[i]? = some x → ThAt K H v (some x) := fun i v x a b => hT i v (some x) a (by rw [hxs, List.getElem?_map, b]; rfl)
      have fin : ∀ H', (∀ c o, H2 c = some o → c ≠ j → H' c = some o) → (∃ t, H' j = some (.ins CJ dx (jf b t kd)) ∧ SqT K H' t us) → Q .non H' := fun H' kk2 ⟨t, h1, h2⟩ => by
        have kk : ∀ c o, H c = some o → c ≠ j → H' c = some o := fun c o h n => kk2 c o (s12 _ _ h) n
        refine qg H' xs hxs hw ⟨dx, t, kd, h1, hB.chg hj kk, h2, hlx, fun i v x a b => thC (hTx i v x a b) hj kk, by rw [← hxs]; exact hw, by rw [← hxs]; exact knC hk kk2 ⟨_, _, _, hj2⟩⟩ ⟨dx, t, kd, h1, hkd0⟩ kk
      refine ⟨_, rfl, _, rfl, j, CJ, dx, [], rfl, hj2, T.cl, T.nB, (by show 0 < 1000; decide), ?_⟩
      generalize eA : upd H2 j (.ins CJ dx (putF "book" (.ref b) [])) = HA
      have hA : HA j = some (.ins CJ dx (putF "book" (.ref b) [])) := by rw [← eA]; exact upd_same
      have kA2 : ∀ c o, H2 c = some o → c ≠ j → HA c = some o := fun c o h n => by rw [← eA, upd_ne n]; exact h
      have kA : ∀ c o, H c = some o → c ≠ j → HA c = some o := fun c o h n => kA2 c o (s12 _ _ h) n
      clear eA
      rcases hS with hS | hS
      · have haj : a ≠ j := ne_of hS hj (by intro z; cases z)
        refine ⟨_, rfl, a, us, rfl, .inl ⟨SqL.of (kA _ _ hS haj), fun l hl => ?_⟩⟩
        have hlj : l ≠ j := fun z => by rw [z, hA] at hl; cases hl
        refine ⟨_, rfl, j, CJ, dx, _, rfl, (by rw [upd_ne hlj.symm]; exact hA), T.cl, T.nE, (by show 1 < 1000; decide), ?_⟩
        refine ⟨_, rfl, _, rfl, j, CJ, dx, _, rfl, upd_same, T.cl, T.nK, (by show 2 < 1000; decide), ?_⟩
        refine fin _ (fun c o h n => ?_) ⟨l, upd_same, SqT.of (by rw [upd_ne hlj, upd_ne hlj, upd_same])⟩
        have hcl : c ≠ l := fun z => by rw [← z, kA2 c o h n] at hl; cases hl
        rw [upd_ne n, upd_ne n, upd_ne hcl]
        exact kA2 c o h n
      · refine ⟨_, rfl, a, us, rfl, .inr ⟨seqC hS hj kA, ?_⟩⟩
        refine ⟨_, rfl, j, CJ, dx, _, rfl, hA, T.cl, T.nE, (by show 1 < 1000; decide), ?_⟩
        refine ⟨_, rfl, _, rfl, j, CJ, dx, _, rfl, upd_same, T.cl, T.nK, (by show 2 < 1000; decide), ?_⟩
        have kF : ∀ c o, H2 c = some o → c ≠ j → (upd (upd HA j (.ins CJ dx (putF "entries" (.ref a) (putF "book" (.ref b) [])))) j (.ins CJ dx (putF "_known" (.ref kd) (putF "entries" (.ref a) (putF "book" (.ref b) []))))) c = some o := fun c o h n => by
          rw [upd_ne n, upd_ne n]
          exact kA2 c o h n
        exact fin _ kF ⟨a, upd_same, seqC hS hj fun c o h n => kF c o (s12 _ _ h) n⟩
abbrev s_Journal_then : Stmt := inClass (topS 35) 5
theorem sc_Journal_then : FnScope ["self", "entry"] ["self", "entry"] (defScope s_Journal_then) := ⟨rfl, rfl, rfl, by decide +kernel, rfl, by decide +kernel, by decide +kernel⟩
theorem ok_thenN {f CJ CB CE aT fE : Addr} {fd : FuncData} (F : Fun K "then" "Journal.then" s_Journal_then f fd) (B : Blt mg) (Cs : Cst mg) (T : Cj P K mg CJ CB) (TE : PySem.BadX.Txt P K mg "at" "at" CE fE) (c_BadEntry : mg "BadEntry" = some (.ref CE)) (G : K8N P w K mg base CB aT CJ CE) : FnOk P w K mg base (L2N.CX P w) 9 f fd ["self", "entry"] (spThenN K aT CJ CB CE) := by
  obtain ⟨t1, g_MOST_ENTRIES⟩ := Cs.k_MOST_ENTRIES
  refine okN F sc_Journal_then (fun vs H Q E h => ?_) (fun cdv A outer s H vs Q E hr h => ?_)
  · obtain ⟨j, b, L, us, xs, v, o, rfl, _⟩ := h
    rfl
  · obtain ⟨j, b, L, us, xs, v, o, rfl, hJ, hT, h4, qg, qb, qf⟩ := h
    refine ⟨_, (pss_cons (ps_if (pt_cmpR op_eq (pe_callB call_len_seq (by rfl) B.len (by decide +kernel) (pa_cons (pe_fld (pv 0) rfl) pa_nil)) (pe_glob (v := .int 400) (by rfl) g_MOST_ENTRIES ⟨_, rfl⟩) (nomark _))
      (pss_one (L2H.ps_raiseBN rfl TE par_at c_BadEntry (hr.mono (Nat.zero_le _)) (L2N.takes_of rfl rfl rfl rfl) (pa_cons (pe_glob (v := .int 400) (by rfl) g_MOST_ENTRIES ⟨_, rfl⟩) pa_nil) (by rfl)))
      pss_nil)
    (pss_one (ps_ret (pe_mak G.Journal (hr.mono (by decide)) (passEN (L2N.takes_of rfl rfl rfl rfl)) (pa_cons (pe_fld (pv 0) rfl) (pa_cons (pe_lst (StX.pa_star (pe_fld (pv 0) rfl) (pa_cons (pv 1) pa_nil))) pa_nil)))))), ?_⟩
    obtain ⟨dx, t, kd, h1, h2, h3, hl, h5, h6, h7⟩ := id hJ
    refine ⟨_, rfl, j, CJ, dx, _, _, rfl, h1, T.cl, T.nE, jf_e _ _ _, t, us, rfl, .inr h3, rfl, _, rfl, ?_⟩
    by_cases h5f : us.length = 400
    · rw [h5f, decide_eq_true (show (V.int ((400 : Nat) : Int) = V.int 400) from rfl)]
      exact iteT ⟨_, rfl, fun d hd => qf h5f d _ (sameAt (Same.refl H) hd) upd_same⟩
    have h4 : us.length < 400 := by omega
    rw [decide_eq_false (show ¬ (V.int (us.length : Int) = V.int 400) from fun z => by have := V.int.inj z; omega)]
    refine iteF ⟨_, rfl, j, CJ, dx, _, _, rfl, h1, T.cl, T.nB, jf_b _ _ _, _, rfl, j, CJ, dx, _, _, rfl, h1, T.cl, T.nE, jf_e _ _ _, t, us, rfl, .inl h3, _, rfl, (by rw [List.length_append]; exact Nat.le_of_lt (small1000 (by show us.length + 1 ≤ 1000; omega))), fun a ha => ?_⟩
    intro x dx' nx ndx nex
    have sA : Same H (upd H a (.lst (us ++ [v]))) := sameAt (Same.refl H) ha
    have sX : Same H (upd (upd (upd H a (.lst (us ++ [v]))) dx' (.own x)) x (.ins CJ dx' [])) := (sA.trans (sameAt (Same.refl _) ndx)).trans (sameAt (Same.refl _) (by rw [upd_ne (Ne.symm nex)]; exact nx))
    have haX : (upd (upd (upd H a (.lst (us ++ [v]))) dx' (.own x)) x (.ins CJ dx' [])) a = some (.lst (us ++ [v])) := by
      rw [upd_ne (fun z => by rw [← z, upd_same] at nx; cases nx), upd_ne (fun z => by rw [← z, upd_same] at ndx; cases ndx), upd_same]
    refine ⟨x, dx', b, a, L, us ++ [v], xs.map some ++ [o], rfl, upd_same, h2.same sX, .inl haX, by rw [List.length_append]; show us.length + 1 ≤ 400; omega, by rw [List.length_append, List.length_append, List.length_map, hl]; rfl, fun i v' o' hi ho => ?_, fun H' ys hys hw hJ' hkd kk => ⟨rfl, ?_⟩, fun i d H' hw s hx => ?_⟩
    · by_cases hil : i < us.length
      · rw [List.getElem?_append_left hil] at hi
        rw [List.getElem?_append_left (by rw [List.length_map, ← hl]; exact hil), List.getElem?_map] at ho
        cases e : xs[i]? with
        | none => rw [e] at ho; cases ho
        | some y =>
          rw [e] at ho
          cases ho
          exact (h5 i v' y hi e).same sX
      · have hi' : i = us.length := by
          have := (List.getElem?_eq_some_iff.mp hi).1
          rw [List.length_append] at this
          have : i < us.length + 1 := this
          omega
        subst hi'
        rw [List.getElem?_append_right (Nat.le_refl _), Nat.sub_self] at hi
        rw [hl, List.getElem?_append_right (by rw [List.length_map]; exact Nat.le_refl _), List.length_map, Nat.sub_self] at ho
        cases hi
        cases ho
        exact hT.same sX
    · obtain ⟨y, rfl⟩ : ∃ y, o = some y := by
        cases o with
        | none =>
          have hm : (none : Option Ent) ∈ ys.map some := by rw [← hys]; simp
          obtain ⟨y, _, e⟩ := List.mem_map.mp hm
          cases e
        | some y => exact ⟨y, rfl⟩
      have e : ys = xs ++ [y] := by
        have e2 : (xs ++ [y]).map some = ys.map some := by rw [← hys, List.map_append]; rfl
        exact (List.map_inj_right (fun a b h => Option.some.inj h)).mp e2.symm
      subst e
      obtain ⟨dx2, t2, kd2, hk1, hk2⟩ := hkd
      refine qg x H' y rfl (by rw [← hys]; exact hw) ?_ hJ' h4 (by
        cases e : H x with
        | none => rfl
        | some u => rw [sA _ _ e] at nx; cases nx) ⟨dx2, t2, kd2, hk1, (by
        cases e : H kd2 with
        | none => rfl
        | some u => rw [sX _ _ e] at hk2; cases hk2)⟩
      exact sA.trans (mk_same nx ndx kk)
    · exact qb i d H' hw (sX.trans s) hx h4
end
end Ash

set_option Elab.async false
set_option linter.all false
set_option maxRecDepth 100000
set_option maxHeartbeats 4000000
namespace Ash
open PySem PySem.Spec PyProof.Rows L2
/-! ### equality by identity, item by item -/
def SameV (x y : V) : Prop := (flatV x = true ∧ flatV y = true ∧ eqV x y = true) ∨ (x = y ∧ ∃ a, x = .ref a)
def SeqS (K : PySem.W.Frag) (H : Hp) (x y : V) : Prop := ∃ a b xs ys, x = .ref a ∧ y = .ref b ∧ SqT K H a xs ∧ SqT K H b ys ∧ xs.length = ys.length ∧ ∀ (i : Nat) u v, xs[i]? = some u → ys[i]? = some v → SameV u v
section
variable {X : Cx}
theorem same_at {A : Around} {s : Shared} {x y : V} {u v : Value} (h : SameV x y) (rx : RelV x u) (ry : RelV y v) : SeqAt.EqAt A s u v true := by
  rcases h with ⟨fx, fy, e⟩ | ⟨rfl, a, rfl⟩
  · have q := eqAt_V (A := A) (s := s) rx ry fx fy
    rw [e] at q
    exact q
  · cases (show u = Value.ref a from rx)
    cases (show v = Value.ref a from ry)
    exact SeqAt.EqAt.same _
theorem op_neS (hu : X.A.units < cLine) : OpR X (compareOp .NotEq) (fun x y H Q => SeqS X.K H x y ∧ Q (.bl false) H) := by
  intro pins s σ H x y v u Q I rx ry ⟨h, q⟩
  obtain ⟨a, b, xs, ys, rfl, rfl, ha, hb, hl, hi⟩ := h
  cases (show v = Value.ref a from rx)
  cases (show u = Value.ref b from ry)
  obtain ⟨i1, r1, t1, z1⟩ := I.tuple ha
  obtain ⟨i2, r2, t2, z2⟩ := I.tuple hb
  have l1 := r1.length
  have l2 := r2.length
  have e : (!((List.range (min i1.toArray.size i2.toArray.size)).all (fun _ => true) && i1.toArray.size == i2.toArray.size)) = false := by
    have : i1.toArray.size = i2.toArray.size := by simp; omega
    simp [this]
  have key := SeqAt.RcNeAt.tuples (A := X.A) (s := s) (e := fun _ => true) (show s.heap.IsTuple a i1.toArray from t1) (show s.heap.IsTuple b i2.toArray from t2) hu fun j h1 h2 => by
    have h1' : j < i1.length := by simpa using h1
    have h2' : j < i2.length := by simpa using h2
    have x1 : xs[j]? = some xs[j] := List.getElem?_eq_getElem (by omega)
    have y1 : ys[j]? = some ys[j] := List.getElem?_eq_getElem (by omega)
    obtain ⟨u1, e1, q1⟩ := r1.get x1
    obtain ⟨u2, e2, q2⟩ := r2.get y1
    have e1' : i1.toArray[j] = u1 := by
      rw [List.getElem?_eq_getElem h1'] at e1
      simpa using Option.some.inj e1
    have e2' : i2.toArray[j] = u2 := by
      rw [List.getElem?_eq_getElem h2'] at e2
      simpa using Option.some.inj e2
    rw [e1', e2']
    exact same_at (hi j _ _ x1 y1) q1 q2
  rw [e] at key
  exact key X.prog X.w X.xe _ ⟨.bl false, H, I, rfl, q⟩
end
/-! ### entries as data -/
def Ent.data : Ent → PyData
  | .row id s k m a r => .tuple [.str "row", .int id, .str s, .str k, .int m, .int a, .int r]
  | .fix id m a r => .tuple [.str "fix", .int id, .int m, .int a, .int r]
  | .gone id r => .tuple [.str "gone", .int id, .int r]
theorem ent_dp {K : PySem.W.Frag} {H : Hp} {e : Addr} {x : Ent} (h : EntAt H e x) : Dp K H (.ref e) x.data := by
  cases x with
  | row id s k m a r => exact .tup (SqT.of h) (.cons (.str _) (.cons (.int _) (.cons (.str _) (.cons (.str _) (.cons (.int _) (.cons (.int _) (.cons (.int _) .nil)))))))
  | fix id m a r => exact .tup (SqT.of h) (.cons (.str _) (.cons (.int _) (.cons (.int _) (.cons (.int _) (.cons (.int _) .nil)))))
  | gone id r => exact .tup (SqT.of h) (.cons (.str _) (.cons (.int _) (.cons (.int _) .nil)))
theorem ent_lay {x : Ent} (h : x.ok) : x.data.canLay0 = true ∧ x.data.depth ≤ 2 := by
  have key : ∀ ds : List PyData, ds.all flatD = true → (PyData.tuple ds).canLay0 = true ∧ (PyData.tuple ds).depth ≤ 2 := fun ds hd => by
    obtain ⟨h1, h2⟩ := flat_lay hd
    simp [PyData.canLay0, PyData.depth, h1]
    omega
  cases x with
  | row id s k m a r =>
    obtain ⟨h1, h2⟩ := h.2 _ _ _ _ _ _ rfl
    have hr : PyData.strOk "row" = true := by decide +kernel
    exact key _ (by simp [flatD, nm_ok h1, nm_ok h2, hr])
  | fix id m a r =>
    have hr : PyData.strOk "fix" = true := by decide +kernel
    exact key _ (by simp [flatD, hr])
  | gone id r =>
    have hr : PyData.strOk "gone" = true := by decide +kernel
    exact key _ (by simp [flatD, hr])
theorem ents_lay : ∀ {xs : List Ent}, (∀ x ∈ xs, x.ok) → PyData.canLayAll0 (xs.map Ent.data) = true ∧ PyData.depthAll (xs.map Ent.data) ≤ 2
  | [], _ => by simp [PyData.canLayAll0, PyData.depthAll]
  | x :: xs, h => by
    obtain ⟨h1, h2⟩ := ents_lay fun y hy => h y (List.mem_cons_of_mem _ hy)
    obtain ⟨h3, h4⟩ := ent_lay (h x List.mem_cons_self)
    rw [List.map_cons]
    simp only [PyData.canLayAll0, PyData.depthAll, h1, h3, Bool.and_self, true_and]
    exact Nat.max_le.mpr ⟨h4, h2⟩
/-- us are the entries xs -/
def Ents (H : Hp) (us : List V) (xs : List Ent) : Prop := us.length = xs.length ∧ ∀ (i : Nat) v x, us[i]? = some v → xs[i]? = some x → ∃ e, v = .ref e ∧ EntAt H e x ∧ x.ok
theorem Ents.same {H H' : Hp} {us : List V} {xs : List Ent} (h : Ents H us xs) (s : Same H H') : Ents H' us xs := ⟨h.1, fun i v x a b => by
  obtain ⟨e, h1, h2, h3⟩ := h.2 i v x a b
  exact ⟨e, h1, s _ _ h2, h3⟩⟩
theorem Ents.dp {K : PySem.W.Frag} {H : Hp} : ∀ {us : List V} {xs : List Ent}, Ents H us xs → DpAll K H us (xs.map Ent.data)
  | [], [], _ => .nil
  | [], _ :: _, h => by have := h.1; simp at this
  | _ :: _, [], h => by have := h.1; simp at this
  | v :: us, x :: xs, h => by
    obtain ⟨e, rfl, h2, _⟩ := h.2 0 v x rfl rfl
    exact .cons (ent_dp h2) (Ents.dp ⟨by have := h.1; simpa using this, fun i v x a b => h.2 (i + 1) v x a b⟩)
theorem Ents.ok {H : Hp} {us : List V} {xs : List Ent} (h : Ents H us xs) : ∀ x ∈ xs, x.ok := fun x hx => by
  obtain ⟨i, hi, e⟩ := List.getElem_of_mem hx
  have hu : i < us.length := by rw [h.1]; exact hi
  obtain ⟨_, _, _, h3⟩ := h.2 i us[i] x (List.getElem?_eq_getElem hu) (by rw [List.getElem?_eq_getElem hi, e])
  exact h3
theorem told_shaped {xs : List Ent} {w : Str} (hw : PyData.strOk w = true) (h : ∀ x ∈ xs, x.ok) : SeqAt.shaped (.tuple [.str w, .list (xs.map Ent.data)]) = true := by
  obtain ⟨h1, h2⟩ := ents_lay h
  unfold SeqAt.shaped
  simp [PyData.canLay0, PyData.canLayAll0, PyData.depth, PyData.depthAll, h1, hw]
  omega
theorem list_shaped {xs : List Ent} (h : ∀ x ∈ xs, x.ok) : SeqAt.shaped (.list (xs.map Ent.data)) = true := by
  obtain ⟨h1, h2⟩ := ents_lay h
  unfold SeqAt.shaped
  simp [PyData.canLay0, PyData.depth, h1]
  omega
end Ash

set_option Elab.async false
set_option linter.all false
set_option maxRecDepth 100000
set_option maxHeartbeats 4000000
namespace Ash
open PySem PySem.Spec PyProof.Rows L2
open C8 (pss_cut)
/-! ### the law's own draws -/
def spInt : Sp := fun vs H Q _ => ∃ (p s : Addr), vs = [.ref p] ∧ PoolAt H p s ∧ ∀ (n : Int) H', Pl H H' p s → Q (.int n) H'
def SV (H : Hp) : Option V → Option RowSt → Prop
  | none, none => True
  | some v, some .tb => v = .non
  | some v, some (.at_ s k m a) => ∃ t, v = .ref t ∧ H t = some (.tup [.str s, .str k, .int m, .int a])
  | _, _ => False
theorem SV.but {H H' : Hp} {v : Option V} {o : Option RowSt} (h : SV H v o) (s : ∀ t xs, H t = some (.tup xs) → H' t = some (.tup xs)) : SV H' v o := by
  cases v with
  | none => cases o <;> exact h
  | some v =>
    cases o with
    | none => exact h
    | some o =>
      cases o with
      | tb => exact h
      | at_ z k m a =>
        obtain ⟨t, e, h⟩ := h
        exact ⟨t, e, s _ _ h⟩
/-- the law's states: a dict from ids to None or what is known -/
def StAt (H : Hp) (d : Addr) (S : Kn) (n : Nat) : Prop := ∃ kvs : List (Key × V), H d = some (.dK kvs) ∧ kvs.length ≤ n ∧ (∀ kv ∈ kvs, ∃ id, kv.1 = Sum.inl id) ∧ ∀ id, SV H (valV kvs (Sum.inl id)) (S id)
theorem StAt.same {H H' : Hp} {d : Addr} {S : Kn} {n : Nat} (h : StAt H d S n) (s : Same H H') : StAt H' d S n := by
  obtain ⟨kvs, h1, h2, h3, h4⟩ := h
  exact ⟨kvs, s _ _ h1, h2, h3, fun id => (h4 id).but fun t xs e => s _ _ e⟩
theorem StAt.pl {H H' : Hp} {d p s : Addr} {S : Kn} {n : Nat} (h : StAt H d S n) (P0 : PoolAt H p s) (P : Pl H H' p s) : StAt H' d S n := by
  obtain ⟨kvs, h1, h2, h3, h4⟩ := h
  obtain ⟨ns, i, c, k, m, hp, _⟩ := P0
  exact ⟨kvs, P.keep h1 (ne_of h1 hp (by intro z; cases z)), h2, h3, fun id => (h4 id).but fun t xs e => P.keep e (ne_of e hp (by intro z; cases z))⟩
theorem Pl.dk {H H' : Hp} {p s d : Addr} {kvs : List (Key × V)} (P : Pl H H' p s) (P0 : PoolAt H p s) (h : H d = some (.dK kvs)) : H' d = some (.dK kvs) := by
  obtain ⟨ns, i, c, k, m, hp, _⟩ := P0
  exact P.keep h (ne_of h hp (by intro z; cases z))
theorem Pl.tp {H H' : Hp} {p s d : Addr} {xs : List V} (P : Pl H H' p s) (P0 : PoolAt H p s) (h : H d = some (.tup xs)) : H' d = some (.tup xs) := by
  obtain ⟨ns, i, c, k, m, hp, _⟩ := P0
  exact P.keep h (ne_of h hp (by intro z; cases z))
theorem strs_ne {ns : List Int} {r : Addr} {a b c d : Int} {ks : List Str} : (HO.lst (ks.map V.str)) ≠ .lst [.ref r, .int a, .int b, .int c, .int d] := fun z => by
  injection z with z
  cases ks with
  | nil => cases z
  | cons k ks => injection z with z1 _; cases z1
theorem Pl.sl {H H' : Hp} {p s d : Addr} {ks : List Str} (P : Pl H H' p s) (P0 : PoolAt H p s) (h : H d = some (.lst (ks.map V.str))) : H' d = some (.lst (ks.map V.str)) := by
  obtain ⟨ns, i, c, k, m, hp, _⟩ := P0
  exact P.keep h (ne_of h hp (strs_ne (ns := ns)))
theorem mem_val {kvs : List (Key × V)} {kv : Key × V} (h : kv ∈ kvs) : ∃ v, valV kvs kv.1 = some v := by
  have q : (kvs.any fun x => decide (x.1 = kv.1)) = true := List.any_eq_true.mpr ⟨kv, h, decide_eq_true rfl⟩
  rw [valV_any] at q
  exact Option.isSome_iff_exists.mp q
/-- what the entry is drawn from -/
structure Draw (H : Hp) (p s dl dk ds : Addr) (L : List (Str × Int)) (ks : List Str) (S : Kn) : Prop where
  pool : PoolAt H p s
  dl : H dl = some (.dK (LK L))
  LL : Lates L
  dk : H dk = some (.lst (ks.map V.str))
  k1 : 1 ≤ ks.length
  k2 : ks.length ≤ 30
  kn : ∀ z ∈ ks, IsNm z
  st : StAt H ds S 500
  ok : KnOk L S
  pos : ∀ id, S id ≠ none → 0 ≤ id
/-- a row of one of the keys -/
def KIn (ks : List Str) (x : Ent) : Prop := ∀ id s k m a r, x = .row id s k m a r → k ∈ ks
def spEntry : Sp := fun vs H Q _ => ∃ (p s dl dk ds : Addr) (L : List (Str × Int)) (ks : List Str) (S : Kn) (number arrival : Int), vs = [.ref p, .ref dl, .ref dk, .ref ds, .int number, .int arrival] ∧ Draw H p s dl dk ds L ks S ∧ 0 ≤ number ∧ S number = none ∧
  ∀ e x y H', EntAt H' e x → x.ok → KIn ks x → x.arr = arrival → behind L x (S x.id) = some y → (x.id = number ∨ S x.id ≠ none) → Pl H H' p s → Q (.ref e) H'
section
variable {P : Program} {w : World} {K : PySem.W.Frag} {mg : Str → Option Value} {base : Heap}
abbrev s_l_amount : Stmt := topS 45
theorem sc_l_amount : FnScope ["_law_pool_here"] ["_law_pool_here"] (defScope s_l_amount) := ⟨rfl, rfl, rfl, by decide +kernel, rfl, by decide +kernel, by decide +kernel⟩
theorem ok_amount {f : Addr} {fd : FuncData} (F : Fun K "_law_amount" "_law_amount" s_l_amount f fd) (B : Blt mg) (G : G2 P w K mg base) : FnOk P w K mg base CX0 2 f fd ["_law_pool_here"] spInt := by
  refine F.ok sc_l_amount (fun vs H Q E h => ?_) (fun cdv A outer s H vs Q E hr h => ?_)
  · obtain ⟨p, s, rfl, _⟩ := h
    rfl
  · obtain ⟨p, s0, rfl, hP, q⟩ := h
    refine ⟨_, (pss_cons (ps_if (pt_cmpR op_eq (pe_cal G.law_draw (hr.mono (by decide)) pass0 (pa_cons (pv 0) (pa_cons pe_int pa_nil))) pe_int (nomark _))
      (pss_one (ps_ret (pe_op op_sub (pe_cal G.law_draw (hr.mono (by decide)) pass0 (pa_cons (pv 0) (pa_cons (pe_op op_mul pe_int (pe_op op_pow pe_int pe_int)) pa_nil))) (pe_op op_pow pe_int pe_int))))
      pss_nil)
    (pss_one (ps_ret (pe_op op_sub (pe_cal G.law_draw (hr.mono (by decide)) pass0 (pa_cons (pv 0) (pa_cons pe_int pa_nil))) pe_int)))), ?_⟩
    refine ⟨_, rfl, p, s0, 6, rfl, hP, (by decide), (by decide), fun x H1 x0 x6 P1 => ⟨rfl, _, rfl, ?_⟩⟩
    refine ite2 (fun c => ?_) (fun c => ?_)
    · exact ⟨_, rfl, _, _, rfl, rfl, ⟨by decide, by decide, by decide⟩, _, _, rfl, rfl, .inl ⟨by decide, by decide⟩, p, s0, _, rfl, P1.now, (by decide), (by decide), fun y H2 y0 y6 P2 => ⟨_, _, rfl, rfl, ⟨by decide, by decide, by decide⟩, _, _, rfl, rfl, q _ H2 (P1.trans P2)⟩⟩
    · exact ⟨_, rfl, p, s0, 21, rfl, P1.now, (by decide), (by decide), fun y H2 y0 y6 P2 => ⟨_, _, rfl, rfl, q _ H2 (P1.trans P2)⟩⟩
abbrev s_l_begin : Stmt := topS 49
theorem sc_l_begin : FnScope ["_law_pool_here"] ["_law_pool_here"] (defScope s_l_begin) := ⟨rfl, rfl, rfl, by decide +kernel, rfl, by decide +kernel, by decide +kernel⟩
theorem ok_begin {f : Addr} {fd : FuncData} (F : Fun K "_law_begin" "_law_begin" s_l_begin f fd) (B : Blt mg) (G : G2 P w K mg base) : FnOk P w K mg base CX0 2 f fd ["_law_pool_here"] spInt := by
  refine F.ok sc_l_begin (fun vs H Q E h => ?_) (fun cdv A outer s H vs Q E hr h => ?_)
  · obtain ⟨p, s, rfl, _⟩ := h
    rfl
  · obtain ⟨p, s0, rfl, hP, q⟩ := h
    refine ⟨_, (pss_cons (ps_if (pt_cmpR op_eq (pe_cal G.law_draw (hr.mono (by decide)) pass0 (pa_cons (pv 0) (pa_cons pe_int pa_nil))) pe_int (nomark _))
      (pss_one (ps_ret (pe_op op_sub (pe_cal G.law_draw (hr.mono (by decide)) pass0 (pa_cons (pv 0) (pa_cons (pe_op op_mul pe_int (pe_op op_pow pe_int pe_int)) pa_nil))) (pe_op op_pow pe_int pe_int))))
      pss_nil)
    (pss_one (ps_ret (pe_op op_sub (pe_cal G.law_draw (hr.mono (by decide)) pass0 (pa_cons (pv 0) (pa_cons pe_int pa_nil))) pe_int)))), ?_⟩
    refine ⟨_, rfl, p, s0, 3, rfl, hP, (by decide), (by decide), fun x H1 x0 x6 P1 => ⟨rfl, _, rfl, ?_⟩⟩
    refine ite2 (fun c => ?_) (fun c => ?_)
    · exact ⟨_, rfl, _, _, rfl, rfl, ⟨by decide, by decide, by decide⟩, _, _, rfl, rfl, .inl ⟨by decide, by decide⟩, p, s0, _, rfl, P1.now, (by decide), (by decide), fun y H2 y0 y6 P2 => ⟨_, _, rfl, rfl, ⟨by decide, by decide, by decide⟩, _, _, rfl, rfl, q _ H2 (P1.trans P2)⟩⟩
    · exact ⟨_, rfl, p, s0, 21, rfl, P1.now, (by decide), (by decide), fun y H2 y0 y6 P2 => ⟨_, _, rfl, rfl, q _ H2 (P1.trans P2)⟩⟩
structure G3 (P : Program) (w : World) (K : PySem.W.Frag) (mg : Str → Option Value) (base : Heap) : Prop extends G2 P w K mg base where
  law_lates : Cal P w K mg base CX0 "_law_lates" 3 ["_law_pool_here"] spLates
  law_amount : Cal P w K mg base CX0 "_law_amount" 2 ["_law_pool_here"] spInt
abbrev s_l_entry : Stmt := topS 46
theorem sc_l_entry : FnScope ["_law_pool_here", "_law_lates_here", "_law_keys", "_law_states_here", "_law_number", "_law_arrival", "_law_open_ones", "_law_other", "_law_kind", "_law_stream", "_law_moment"] ["_law_pool_here", "_law_lates_here", "_law_keys", "_law_states_here", "_law_number", "_law_arrival"] (defScope s_l_entry) := ⟨rfl, rfl, rfl, by decide +kernel, rfl, by decide +kernel, by decide +kernel⟩
theorem ok_entry {f : Addr} {fd : FuncData} (F : Fun K "_law_entry" "_law_entry" s_l_entry f fd) (B : Blt mg) (G : G3 P w K mg base) : FnOk P w K mg base CX0 3 f fd ["_law_pool_here", "_law_lates_here", "_law_keys", "_law_states_here", "_law_number", "_law_arrival"] spEntry := by
  refine F.ok sc_l_entry (fun vs H Q E h => ?_) (fun cdv A outer s H vs Q E hr h => ?_)
  · obtain ⟨p, s, dl, dk, ds, L, ks, S, number, arrival, rfl, _⟩ := h
    rfl
  · obtain ⟨p, s0, dl, dk, ds, L, ks, S, number, arrival, rfl, D, hn, hSn, q⟩ := h
    have hu := hu_of hr
    refine ⟨_, (pss_cons (ps_set (i := 6) sc_l_entry.nd rfl (Or.inl rfl) (pe_lst pa_nil))
    (pss_cut (ps_for PassesOwn.never rfl (pi_list (pe_callTy (call_listD (by rfl)) (by rfl) B.list (by decide +kernel) (pa_cons (pv 3) pa_nil))) (pg_name (i := 7) sc_l_entry.nd rfl (Or.inl rfl))
      (pss_one (ps_if (PW.pt (pw_and (pt_cmpR op_notN (pe_dget hu (pv 3) (pv 7) (fun _ _ => rfl)) pe_non (nomark _)) (pw_and1 (pt_cmpR op_le (pv 5) (pe_op op_add (pe_ix ix_tup (pe_dget hu (pv 3) (pv 7) (fun _ _ => rfl)) pe_int (fun _ _ => rfl)) (pe_dget hu (pv 1) (pe_ix ix_tup (pe_dget hu (pv 3) (pv 7) (fun _ _ => rfl)) pe_int (fun _ _ => rfl)) (fun _ _ => rfl))) (nomark _)))))
        (pss_one (ps_expr (pe_bm PySem.F.plainAttrs_list PySem.F.slot_list_append PySem.F.type_list_append mt_append (pv 6) (pa_cons (pv 7) pa_nil))))
        pss_nil)))
    (pss_cons (ps_set (i := 8) sc_l_entry.nd rfl (Or.inl rfl) (pe_cal G.law_draw (hr.mono (by decide)) pass0 (pa_cons (pv 0) (pa_cons pe_int pa_nil))))
    (pss_cons (ps_if (PW.pt (pw_or (pt_cmpR op_lt (pv 8) pe_int (nomark _)) (pw_or1 (pt_cmpR op_eq (pe_callB call_len_seq (by rfl) B.len (by decide +kernel) (pa_cons (pv 6) pa_nil)) pe_int (nomark _)))))
      (pss_cons (ps_set (i := 9) sc_l_entry.nd rfl (Or.inl rfl) (pe_ix ix_list (pe_callTy (call_listD (by rfl)) (by rfl) B.list (by decide +kernel) (pa_cons (pv 1) pa_nil)) (pe_cal G.law_draw (hr.mono (by decide)) pass0 (pa_cons (pv 0) (pa_cons (pe_callB call_lenD (by rfl) B.len (by decide +kernel) (pa_cons (pv 1) pa_nil)) pa_nil))) (fun _ _ => rfl)))
      (pss_cons (ps_set (i := 10) sc_l_entry.nd rfl (Or.inl rfl) (pe_op op_sub (pv 5) (pe_cal G.law_draw (hr.mono (by decide)) pass0 (pa_cons (pv 0) (pa_cons (pe_op op_add (pe_dget hu (pv 1) (pv 9) (fun _ _ => rfl)) pe_int) pa_nil)))))
      (pss_one (ps_ret (pe_tup (pa_cons pe_str (pa_cons (pv 4) (pa_cons (pv 9) (pa_cons (pe_ix ix_list (pv 2) (pe_cal G.law_draw (hr.mono (by decide)) pass0 (pa_cons (pv 0) (pa_cons (pe_callB call_len_seq (by rfl) B.len (by decide +kernel) (pa_cons (pv 2) pa_nil)) pa_nil))) (fun _ _ => rfl)) (pa_cons (pv 10) (pa_cons (pe_cal G.law_amount (hr.mono (by decide)) pass0 (pa_cons (pv 0) pa_nil)) (pa_cons (pv 5) pa_nil))))))))))))
      pss_nil)
    (pss_cons (ps_set (i := 7) sc_l_entry.nd rfl (Or.inl rfl) (pe_ix ix_list (pv 6) (pe_cal G.law_draw (hr.mono (by decide)) pass0 (pa_cons (pv 0) (pa_cons (pe_callB call_len_seq (by rfl) B.len (by decide +kernel) (pa_cons (pv 6) pa_nil)) pa_nil))) (fun _ _ => rfl)))
    (pss_cons (ps_if (pt_cmpR op_eq (pv 8) pe_int (nomark _))
      (pss_cons (ps_set (i := 10) sc_l_entry.nd rfl (Or.inl rfl) (pe_op op_sub (pv 5) (pe_cal G.law_draw (hr.mono (by decide)) pass0 (pa_cons (pv 0) (pa_cons (pe_op op_add (pe_dget hu (pv 1) (pe_ix ix_tup (pe_dget hu (pv 3) (pv 7) (fun _ _ => rfl)) pe_int (fun _ _ => rfl)) (fun _ _ => rfl)) pe_int) pa_nil)))))
      (pss_one (ps_ret (pe_tup (pa_cons pe_str (pa_cons (pv 7) (pa_cons (pv 10) (pa_cons (pe_cal G.law_amount (hr.mono (by decide)) pass0 (pa_cons (pv 0) pa_nil)) (pa_cons (pv 5) pa_nil)))))))))
      pss_nil)
    (pss_one (ps_ret (pe_tup (pa_cons pe_str (pa_cons (pv 7) (pa_cons (pv 5) pa_nil)))))))))))), ?_⟩
    refine ⟨(by show 0 ≤ sizeLine; decide), fun q0 hq0 => ?_⟩
    obtain ⟨kvs, hst, hst1, hst2, hst3⟩ := D.st
    have s0' := sameAt (Same.refl H) hq0 (o := .lst [])
    -- open_ones
    refine ⟨fun σ H1 => (∃ a b c d, ∃ ids : List Int, σ = [some (.ref p), some (.ref dl), some (.ref dk), some (.ref ds), some (.int number), some (.int arrival), some (.ref q0), a, b, c, d] ∧ H1 q0 = some (.lst (ids.map V.int)) ∧ ids.length ≤ 500 ∧
      ∀ id ∈ ids, ∃ z k m a l, S id = some (.at_ z k m a) ∧ L.lookup z = some l ∧ arrival ≤ m + l) ∧ Same H H1, ?_, ?_⟩
    · refine ⟨_, rfl, ds, kvs, rfl, .of (s0' _ _ hst), fun l hl => ⟨l, rfl, ⟨_, SqL.of upd_same⟩, ?_⟩⟩
      have e1 : kvs.map (fun kv => kV kv.1) = kvs.map (fun kv => kV kv.1) := rfl
      have s1 : Same H (upd (upd H q0 (.lst [])) l (.lst (kvs.map fun kv => kV kv.1))) := s0'.trans (sameAt (Same.refl _) hl)
      have hql : q0 ≠ l := fun z => by rw [← z, upd_same] at hl; cases hl
      refine for_list (K := K) (a := l) (xs := kvs.map fun kv => kV kv.1) (fun i σ H1 => (∃ a b c d, ∃ ids : List Int, σ = [some (.ref p), some (.ref dl), some (.ref dk), some (.ref ds), some (.int number), some (.int arrival), some (.ref q0), a, b, c, d] ∧ H1 q0 = some (.lst (ids.map V.int)) ∧ ids.length ≤ i ∧
        ∀ id ∈ ids, ∃ z k m a l, S id = some (.at_ z k m a) ∧ L.lookup z = some l ∧ arrival ≤ m + l) ∧ H1 l = some (.lst (kvs.map fun kv => kV kv.1)) ∧ Same H H1) ?_ (fun i σ H1 _ hv => SqL.of hv.2.1) ?_ ?_
      · exact ⟨⟨_, _, _, _, [], rfl, by rw [upd_ne hql]; exact upd_same, Nat.le_refl _, fun _ h => nomatch h⟩, upd_same, s1⟩
      · rintro i x σ H1 hi ⟨⟨a, b, c, d, ids, rfl, hq1, hlen, hids⟩, hl1, s2⟩
        obtain ⟨kv, hkv, rfl⟩ : ∃ kv, kvs[i]? = some kv ∧ x = kV kv.1 := by
          rw [List.getElem?_map] at hi
          cases e : kvs[i]? with
          | none => rw [e] at hi; cases hi
          | some z => rw [e] at hi; exact ⟨z, rfl, (Option.some.inj hi).symm⟩
        have hil : i < kvs.length := (List.getElem?_eq_some_iff.mp hkv).1
        have hm := List.mem_of_getElem? hkv
        obtain ⟨id, hid⟩ := hst2 _ hm
        obtain ⟨v, hv⟩ := mem_val hm
        rw [hid] at hv ⊢
        have hs1 := s2 _ _ hst
        have hd1 := s2 _ _ D.dl
        have sv := (hst3 id).but (fun t xs e => s2 _ _ e)
        rw [hv] at sv
        have hg := DGet.k (k := Sum.inl id) hs1
        rw [hv] at hg
        cases eS : S id with
        | none => rw [eS] at sv; exact absurd sv (fun z => z)
        | some r =>
          rw [eS] at sv
          cases r with
          | tb =>
            obtain rfl : v = .non := sv
            refine ⟨_, rfl, _, rfl, ds, _, rfl, hg, rfl, _, rfl, iteF ?_⟩
            exact ⟨⟨_, _, _, _, ids, rfl, hq1, by omega, hids⟩, hl1, s2⟩
          | at_ z k m am =>
            obtain ⟨t, rfl, ht⟩ := sv
            obtain ⟨_, _, hz⟩ := D.ok _ _ _ _ _ eS
            obtain ⟨lt, hlt⟩ := Option.isSome_iff_exists.mp hz
            have hgl := DGet.k (k := Sum.inr z) hd1
            rw [LK_val, hlt] at hgl
            refine ⟨_, rfl, _, rfl, ds, _, rfl, hg, rfl, _, rfl, iteT ?_⟩
            refine ⟨_, rfl, _, rfl, _, rfl, ds, _, rfl, hg, _, _, _, _, rfl, rfl, SqT.of ht, rfl, _, rfl, _, rfl, _, rfl, ds, _, rfl, hg, _, _, _, _, rfl, rfl, SqT.of ht, rfl, dl, _, rfl, hgl, _, _, rfl, rfl, _, _, rfl, rfl, _, rfl, ?_⟩
            refine ite2 (fun c1 => ?_) (fun c1 => ?_)
            · have c1 : arrival ≤ m + lt := of_decide_eq_true c1
              refine ⟨_, rfl, .inl ⟨rfl, _, SqL.of hq1⟩, _, rfl, q0, _, _, rfl, rfl, hq1, (by rw [List.length_map]; exact small1000 (by omega)), ?_⟩
              refine ⟨⟨_, _, _, _, ids ++ [id], rfl, ?_, by rw [List.length_append]; show ids.length + 1 ≤ i + 1; omega, fun id' hid' => ?_⟩, ?_, ?_⟩
              · rw [upd_same, List.map_append]
                rfl
              · rcases List.mem_append.mp hid' with h | h
                · exact hids _ h
                · rw [List.mem_singleton.mp h]
                  exact ⟨z, k, m, am, lt, eS, hlt, c1⟩
              · rw [upd_ne (Ne.symm hql)]
                exact hl1
              · exact sameAt s2 hq0
            · exact ⟨⟨_, _, _, _, ids, rfl, hq1, by omega, hids⟩, hl1, s2⟩
      · rintro σ H1 ⟨⟨a, b, c, d, ids, rfl, hq1, hlen, hids⟩, hl1, s2⟩
        rw [List.length_map] at hlen
        exact ⟨⟨_, _, _, _, ids, rfl, hq1, by omega, hids⟩, s2⟩
    rintro σ H1 ⟨⟨a, b, c, d, ids, rfl, hq1, hlen, hids⟩, s1⟩
    have P1 := D.pool.same s1
    refine ⟨_, rfl, p, s0, 4, rfl, P1, (by decide), (by decide), fun kind H2 k0 k4 P2 => ?_⟩
    have PP2 : Pl H H2 p s0 := ⟨P2.now, D.pool.ne.1, D.pool.ne.2, fun b o hb hn => P2.keep (s1 _ _ hb) hn⟩
    have hqp : q0 ≠ p := fun z => D.pool.ne.1 (z ▸ hq0)
    have hq2 : H2 q0 = some (.lst (ids.map V.int)) := P2.keep hq1 hqp
    have hd2 : H2 dl = some (.dK (LK L)) := PP2.dk D.pool D.dl
    have hk2 : H2 dk = some (.lst (ks.map V.str)) := PP2.sl D.pool D.dk
    have l1 := D.LL.some_
    have l8 := D.LL.few
    refine ⟨_, rfl, _, _, rfl, rfl, _, rfl, ?_⟩
    refine ite2 (fun c1 => ?_) (fun c1 => ?_)
    · skip
      refine ⟨_, rfl, dl, _, rfl, .of hd2, fun l hl => ?_⟩
      have e1 : (LK L).map (fun kv => kV kv.1) = (L.map (·.1)).map V.str := by
        unfold LK
        rw [List.map_map, List.map_map]
        rfl
      rw [e1]
      have PP3 : Pl H (upd H2 l (.lst ((L.map (·.1)).map V.str))) p s0 := PP2.new hl
      have hlp : l ≠ p := fun z => P2.now.ne.1 (z ▸ hl)
      refine ⟨_, rfl, _, rfl, dl, _, rfl, PP3.dk D.pool D.dl, p, s0, _, rfl, PP3.now, (by rw [LK_len]; omega), (by rw [LK_len]; omega), fun g H4 g0 g1 P4 => ?_⟩
      rw [LK_len] at g1
      obtain ⟨g, rfl⟩ : ∃ n : Nat, g = (n : Int) := ⟨g.toNat, by omega⟩
      have hg : g < L.length := by omega
      have PP4 := PP3.trans P4
      have hm : L[g] ∈ L := List.getElem_mem hg
      have hlk : L.lookup L[g].1 = some L[g].2 := lookup_mem D.LL.nd hm
      have b0 := D.LL.lo _ hm
      have b1 := D.LL.hi _ hm
      refine ⟨_, _, _, V.str L[g].1, rfl, rfl, SqL.of (P4.keep upd_same hlp), atI_nat (by rw [List.getElem?_map, List.getElem?_map, List.getElem?_eq_getElem hg]; rfl), ?_⟩
      have hgl := DGet.k (k := Sum.inr L[g].1) (PP4.dk D.pool D.dl)
      rw [LK_val, hlk] at hgl
      refine ⟨_, rfl, _, rfl, _, rfl, _, rfl, dl, _, rfl, hgl, _, _, rfl, rfl, p, s0, _, rfl, PP4.now, (by omega), (by omega), fun dd H5 d0 d1 P5 => ⟨_, _, rfl, rfl, ?_⟩⟩
      have PP5 := PP4.trans P5
      have k1 := D.k1
      have k2 := D.k2
      refine ⟨_, rfl, _, rfl, _, rfl, _, rfl, _, rfl, dk, _, rfl, .inl (SqL.of (PP5.sl D.pool D.dk)), p, s0, _, rfl, PP5.now, (by rw [List.length_map]; omega), (by rw [List.length_map]; omega), fun gk H6 gk0 gk1 P6 => ?_⟩
      rw [List.length_map] at gk1
      obtain ⟨gk, rfl⟩ : ∃ n : Nat, gk = (n : Int) := ⟨gk.toNat, by omega⟩
      have hgk : gk < ks.length := by omega
      have PP6 := PP5.trans P6
      refine ⟨_, _, _, V.str ks[gk], rfl, rfl, SqL.of (PP6.sl D.pool D.dk), atI_nat (by rw [List.getElem?_map, List.getElem?_eq_getElem hgk]; rfl), _, rfl, _, rfl, p, s0, rfl, PP6.now, fun am H7 P7 => ⟨_, rfl, (by show 7 ≤ sizeLine; decide), fun e he => ?_⟩⟩
      refine q e (.row number L[g].1 ks[gk] (arrival - dd) am arrival) (.at_ L[g].1 ks[gk] (arrival - dd) am) _ upd_same ⟨hn, fun _ _ _ _ _ _ z => by
        cases z
        exact ⟨D.LL.nm _ hm, D.kn _ (List.getElem_mem hgk)⟩⟩ (fun _ _ _ _ _ _ z => by cases z; exact List.getElem_mem hgk) rfl ?_ (.inl rfl) ((PP6.trans P7).new he)
      show behind L _ (S number) = _
      rw [hSn]
      show (L.lookup L[g].1).bind _ = _
      rw [hlk, Option.bind_some, if_pos ⟨by omega, by omega⟩]
    · refine ⟨_, rfl, q0, _, rfl, .inl (SqL.of hq2), rfl, _, rfl, ?_⟩
      refine ite2 (fun c2 => ?_) (fun c2 => ?_)
      · skip
        refine ⟨_, rfl, dl, _, rfl, .of hd2, fun l hl => ?_⟩
        have e1 : (LK L).map (fun kv => kV kv.1) = (L.map (·.1)).map V.str := by
          unfold LK
          rw [List.map_map, List.map_map]
          rfl
        rw [e1]
        have PP3 : Pl H (upd H2 l (.lst ((L.map (·.1)).map V.str))) p s0 := PP2.new hl
        have hlp : l ≠ p := fun z => P2.now.ne.1 (z ▸ hl)
        refine ⟨_, rfl, _, rfl, dl, _, rfl, PP3.dk D.pool D.dl, p, s0, _, rfl, PP3.now, (by rw [LK_len]; omega), (by rw [LK_len]; omega), fun g H4 g0 g1 P4 => ?_⟩
        rw [LK_len] at g1
        obtain ⟨g, rfl⟩ : ∃ n : Nat, g = (n : Int) := ⟨g.toNat, by omega⟩
        have hg : g < L.length := by omega
        have PP4 := PP3.trans P4
        have hm : L[g] ∈ L := List.getElem_mem hg
        have hlk : L.lookup L[g].1 = some L[g].2 := lookup_mem D.LL.nd hm
        have b0 := D.LL.lo _ hm
        have b1 := D.LL.hi _ hm
        refine ⟨_, _, _, V.str L[g].1, rfl, rfl, SqL.of (P4.keep upd_same hlp), atI_nat (by rw [List.getElem?_map, List.getElem?_map, List.getElem?_eq_getElem hg]; rfl), ?_⟩
        have hgl := DGet.k (k := Sum.inr L[g].1) (PP4.dk D.pool D.dl)
        rw [LK_val, hlk] at hgl
        refine ⟨_, rfl, _, rfl, _, rfl, _, rfl, dl, _, rfl, hgl, _, _, rfl, rfl, p, s0, _, rfl, PP4.now, (by omega), (by omega), fun dd H5 d0 d1 P5 => ⟨_, _, rfl, rfl, ?_⟩⟩
        have PP5 := PP4.trans P5
        have k1 := D.k1
        have k2 := D.k2
        refine ⟨_, rfl, _, rfl, _, rfl, _, rfl, _, rfl, dk, _, rfl, .inl (SqL.of (PP5.sl D.pool D.dk)), p, s0, _, rfl, PP5.now, (by rw [List.length_map]; omega), (by rw [List.length_map]; omega), fun gk H6 gk0 gk1 P6 => ?_⟩
        rw [List.length_map] at gk1
        obtain ⟨gk, rfl⟩ : ∃ n : Nat, gk = (n : Int) := ⟨gk.toNat, by omega⟩
        have hgk : gk < ks.length := by omega
        have PP6 := PP5.trans P6
        refine ⟨_, _, _, V.str ks[gk], rfl, rfl, SqL.of (PP6.sl D.pool D.dk), atI_nat (by rw [List.getElem?_map, List.getElem?_eq_getElem hgk]; rfl), _, rfl, _, rfl, p, s0, rfl, PP6.now, fun am H7 P7 => ⟨_, rfl, (by show 7 ≤ sizeLine; decide), fun e he => ?_⟩⟩
        refine q e (.row number L[g].1 ks[gk] (arrival - dd) am arrival) (.at_ L[g].1 ks[gk] (arrival - dd) am) _ upd_same ⟨hn, fun _ _ _ _ _ _ z => by
          cases z
          exact ⟨D.LL.nm _ hm, D.kn _ (List.getElem_mem hgk)⟩⟩ (fun _ _ _ _ _ _ z => by cases z; exact List.getElem_mem hgk) rfl ?_ (.inl rfl) ((PP6.trans P7).new he)
        show behind L _ (S number) = _
        rw [hSn]
        show (L.lookup L[g].1).bind _ = _
        rw [hlk, Option.bind_some, if_pos ⟨by omega, by omega⟩]
      · have hne : 0 < ids.length := by
          refine Nat.pos_of_ne_zero fun z => c2 (decide_eq_true ?_)
          rw [List.length_map, z]
          rfl
        refine ⟨_, rfl, _, rfl, _, rfl, q0, _, rfl, .inl (SqL.of hq2), p, s0, _, rfl, PP2.now, (by rw [List.length_map]; omega), (by rw [List.length_map]; omega), fun g H3 g0 g1 P3 => ?_⟩
        rw [List.length_map] at g1
        obtain ⟨g, rfl⟩ : ∃ n : Nat, g = (n : Int) := ⟨g.toNat, by omega⟩
        have hg : g < ids.length := by omega
        have PP3 := PP2.trans P3
        obtain ⟨z, k, m, a0, lt, eS, hlt, hend⟩ := hids _ (List.getElem_mem hg)
        obtain ⟨hzn, hkn, _⟩ := D.ok _ _ _ _ _ eS
        have hpos : 0 ≤ ids[g] := D.pos _ (by rw [eS]; exact fun z => nomatch z)
        have hlo : 0 ≤ lt ∧ lt ≤ 1000000 := by
          have hzm : z ∈ L.map (·.1) := by
            by_cases hz : z ∈ L.map (·.1)
            · exact hz
            · rw [lookup_none hz] at hlt
              cases hlt
          obtain ⟨x, hx, rfl⟩ := List.mem_map.mp hzm
          rw [lookup_mem D.LL.nd hx] at hlt
          cases hlt
          exact ⟨D.LL.lo _ hx, D.LL.hi _ hx⟩
        have sv := (hst3 ids[g]).but (fun t xs e => PP3.tp D.pool e)
        rw [eS] at sv
        obtain ⟨v, hv⟩ : ∃ v, valV kvs (Sum.inl ids[g]) = some v := by
          cases e : valV kvs (Sum.inl ids[g] : Key) with
          | none => rw [e] at sv; exact absurd sv (fun z => z)
          | some v => exact ⟨v, rfl⟩
        rw [hv] at sv
        obtain ⟨t, rfl, ht⟩ := sv
        have hgs := DGet.k (k := Sum.inl ids[g]) (PP3.dk D.pool hst)
        rw [hv] at hgs
        have hgl := DGet.k (k := Sum.inr z) (PP3.dk D.pool D.dl)
        rw [LK_val, hlt] at hgl
        refine ⟨_, _, _, V.int ids[g], rfl, rfl, SqL.of (P3.keep hq2 hqp), atI_nat (by rw [List.getElem?_map, List.getElem?_eq_getElem hg]; rfl), _, rfl, rfl, _, rfl, ?_⟩
        refine ite2 (fun c3 => ?_) (fun c3 => ?_)
        · refine ⟨_, rfl, _, rfl, _, rfl, _, rfl, _, rfl, ds, _, rfl, hgs, _, _, _, _, rfl, rfl, SqT.of ht, rfl, dl, _, rfl, hgl, _, _, rfl, rfl, p, s0, _, rfl, PP3.now, (by omega), (by omega), fun dd H4 d0 d1 P4 => ⟨_, _, rfl, rfl, ?_⟩⟩
          have PP4 := PP3.trans P4
          refine ⟨_, rfl, _, rfl, _, rfl, p, s0, rfl, PP4.now, fun am H5 P5 => ⟨_, rfl, (by show 5 ≤ sizeLine; decide), fun e he => ?_⟩⟩
          refine q e (.fix ids[g] (arrival - dd) am arrival) (.at_ z k (arrival - dd) am) _ upd_same ⟨hpos, fun _ _ _ _ _ _ z => by cases z⟩ (fun _ _ _ _ _ _ z => by cases z) rfl ?_ (.inr (by show S ids[g] ≠ none; rw [eS]; exact fun z => nomatch z)) ((PP4.trans P5).new he)
          show behind L _ (S ids[g]) = _
          rw [eS]
          show (L.lookup z).bind _ = _
          rw [hlt, Option.bind_some, if_pos ⟨hend, by omega, by omega⟩]
        · refine ⟨_, rfl, _, rfl, (by show 3 ≤ sizeLine; decide), fun e he => ?_⟩
          refine q e (.gone ids[g] arrival) .tb _ upd_same ⟨hpos, fun _ _ _ _ _ _ z => by cases z⟩ (fun _ _ _ _ _ _ z => by cases z) rfl ?_ (.inr (by show S ids[g] ≠ none; rw [eS]; exact fun z => nomatch z)) (PP3.new he)
          show behind L _ (S ids[g]) = _
          rw [eS]
          show (L.lookup z).bind _ = _
          rw [hlt, Option.bind_some, if_pos hend]
end
end Ash

set_option Elab.async false
set_option linter.all false
set_option maxRecDepth 100000
set_option maxHeartbeats 4000000
namespace Ash
open PySem PySem.Spec PyProof.Rows L2
open C8 (pss_cut)
/-! ### states that change -/
def TK (H H' : Hp) : Prop := ∀ t xs, H t = some (.tup xs) → H' t = some (.tup xs)
theorem Ents.tk {H H' : Hp} {us : List V} {xs : List Ent} (h : Ents H us xs) (s : TK H H') : Ents H' us xs := ⟨h.1, fun i v x a b => by
  obtain ⟨e, h1, h2, h3⟩ := h.2 i v x a b
  exact ⟨e, h1, s _ _ h2, h3⟩⟩
theorem Pl.tk {H H' : Hp} {p s : Addr} (P : Pl H H' p s) (P0 : PoolAt H p s) : TK H H' := fun t xs h => P.tp P0 h
theorem tk_same {H H' : Hp} (s : Same H H') : TK H H' := fun t xs h => s _ _ h
theorem TK.trans {H H1 H2 : Hp} (a : TK H H1) (b : TK H1 H2) : TK H H2 := fun t xs h => b t xs (a t xs h)
theorem tk_off {H : Hp} {q : Addr} {o u : HO} (h : H q = some u) (hu : ∀ xs, u ≠ .tup xs) : TK H (upd H q o) := fun t xs e => by
  rw [upd_ne (ne_of e h (fun z => hu xs z.symm))]
  exact e
theorem mem_putK {kvs : List (Key × V)} {id : Int} {v : V} (h : ∀ kv ∈ kvs, ∃ id, kv.1 = Sum.inl id) : ∀ kv ∈ putK kvs (Sum.inl id : Key) v, ∃ id, kv.1 = Sum.inl id := by
  intro kv hkv
  unfold putK at hkv
  split at hkv
  · obtain ⟨x, hx, rfl⟩ := List.mem_map.mp hkv
    obtain ⟨j, hj⟩ := h x hx
    split
    · exact ⟨j, hj⟩
    · exact ⟨j, hj⟩
  · rcases List.mem_append.mp hkv with hk | hk
    · exact h kv hk
    · rw [List.mem_singleton.mp hk]
      exact ⟨id, rfl⟩
def setK (S : Kn) (id : Int) (y : RowSt) : Kn := fun j => if j = id then some y else S j
theorem StAt.put {H H1 : Hp} {ds : Addr} {S : Kn} {n : Nat} {kvs : List (Key × V)} {id : Int} {v : V} {y : RowSt} (h1 : H ds = some (.dK kvs)) (h2 : kvs.length ≤ n) (h3 : ∀ kv ∈ kvs, ∃ id, kv.1 = Sum.inl id) (h4 : ∀ id, SV H (valV kvs (Sum.inl id)) (S id))
    (s : Same H H1) (hv : SV H1 (some v) (some y)) : StAt (upd H1 ds (.dK (putK kvs (Sum.inl id) v))) ds (setK S id y) (n + 1) := by
  refine ⟨_, upd_same, Nat.le_trans (pk_len _ _ _) (by omega), mem_putK h3, fun j => ?_⟩
  have tk : TK H1 (upd H1 ds (.dK (putK kvs (Sum.inl id) v))) := tk_off (s _ _ h1) (fun xs z => by cases z)
  rw [valV_put]
  show SV _ _ (if j = id then some y else S j)
  by_cases e : j = id
  · rw [if_pos (by rw [e]), if_pos e]
    exact hv.but tk
  · rw [if_neg (fun q => e (Sum.inl.inj q)), if_neg e]
    exact ((h4 j).but fun t xs z => s _ _ z).but tk
theorem behind_row {L : List (Str × Int)} {id : Int} {s k : Str} {m a r : Int} {o : Option RowSt} {y : RowSt} (h : behind L (.row id s k m a r) o = some y) : y = .at_ s k m a := by
  cases o with
  | some o => cases h
  | none =>
    have h : (L.lookup s).bind _ = _ := h
    cases e : L.lookup s with
    | none => rw [e] at h; cases h
    | some l =>
      rw [e, Option.bind_some] at h
      split at h
      · exact (Option.some.inj h).symm
      · cases h
theorem behind_fix {L : List (Str × Int)} {id m a r : Int} {o : Option RowSt} {y : RowSt} (h : behind L (.fix id m a r) o = some y) : ∃ s k m0 a0, o = some (.at_ s k m0 a0) ∧ y = .at_ s k m a := by
  cases o with
  | none => cases h
  | some o =>
    cases o with
    | tb => cases h
    | at_ s k m0 a0 =>
      have h : (L.lookup s).bind _ = _ := h
      cases e : L.lookup s with
      | none => rw [e] at h; cases h
      | some l =>
        rw [e, Option.bind_some] at h
        split at h
        · exact ⟨s, k, m0, a0, rfl, (Option.some.inj h).symm⟩
        · cases h
theorem behind_gone {L : List (Str × Int)} {id r : Int} {o : Option RowSt} {y : RowSt} (h : behind L (.gone id r) o = some y) : y = .tb := by
  cases o with
  | none => cases h
  | some o =>
    cases o with
    | tb => cases h
    | at_ s k m0 a0 =>
      have h : (L.lookup s).bind _ = _ := h
      cases e : L.lookup s with
      | none => rw [e] at h; cases h
      | some l =>
        rw [e, Option.bind_some] at h
        split at h
        · exact (Option.some.inj h).symm
        · cases h
def spPut : Sp := fun vs H Q _ => ∃ (ds e : Addr) (L : List (Str × Int)) (S : Kn) (n : Nat) (x : Ent) (y : RowSt), vs = [.ref ds, .ref e] ∧ StAt H ds S n ∧ n ≤ 900 ∧ EntAt H e x ∧ behind L x (S x.id) = some y ∧
  ∀ H', StAt H' ds (setK S x.id y) (n + 1) → (∀ c o, H c = some o → c ≠ ds → H' c = some o) → Q .non H'
/-- the latest arrival -/
def lastA : List Ent → Option Int → Option Int
  | [], l => l
  | x :: r, _ => lastA r (some x.arr)
theorem lastA_snoc : ∀ (xs : List Ent) (x : Ent) (l : Option Int), lastA (xs ++ [x]) l = some x.arr
  | [], _, _ => rfl
  | _ :: r, x, _ => lastA_snoc r x _
theorem wk_app {L : List (Str × Int)} {S1 : Kn} (rest : List (Option Ent)) : ∀ {xs : List Ent} {i : Nat} {S : Kn} {l : Option Int}, wk L (xs.map some) i S l = (none, S1) → wk L (xs.map some ++ rest) i S l = wk L rest (i + xs.length) S1 (lastA xs l)
  | [], i, S, l, h => by
    have h : ((none : Option Nat), S) = (none, S1) := h
    cases h
    rfl
  | x :: r, i, S, l, h => by
    have h : wk L (some x :: r.map some) i S l = (none, S1) := h
    show wk L (some x :: (r.map some ++ rest)) i S l = _
    by_cases c : late? l x.arr = true
    · rw [wk_late c] at h
      cases h
    · have c0 : late? l x.arr = false := Bool.eq_false_iff.mpr c
      cases hb : behind L x (S x.id) with
      | none =>
        rw [wk_bad c0 hb] at h
        cases h
      | some z =>
        rw [wk_go c0 hb] at h ⊢
        rw [wk_app rest h]
        show wk L rest (i + 1 + r.length) S1 _ = wk L rest (i + (r.length + 1)) S1 _
        rw [show i + 1 + r.length = i + (r.length + 1) by omega]
        rfl
/-- what is left of the heap when the pool and the states have changed -/
structure Pd (H0 H : Hp) (p s ds : Addr) : Prop where
  now : PoolAt H p s
  op : H0 p ≠ none
  os : H0 s ≠ none
  but : ∀ b o, H0 b = some o → b ≠ p → b ≠ ds → H b = some o
theorem Pd.pl {H0 H H1 : Hp} {p s ds : Addr} (a : Pd H0 H p s ds) (b : Pl H H1 p s) : Pd H0 H1 p s ds := ⟨b.now, a.op, a.os, fun c o h n1 n2 => b.keep (a.but c o h n1 n2) n1⟩
theorem Pd.chg {H0 H H1 : Hp} {p s ds : Addr} {kvs : List (Key × V)} (a : Pd H0 H p s ds) (hd : H ds = some (.dK kvs)) (k : ∀ c o, H c = some o → c ≠ ds → H1 c = some o) : Pd H0 H1 p s ds := by
  refine ⟨?_, a.op, a.os, fun c o h n1 n2 => k _ _ (a.but c o h n1 n2) n2⟩
  obtain ⟨ns, i, c, kk, n, h1, h2, h3, h4⟩ := a.now
  exact ⟨ns, i, c, kk, n, k _ _ h1 (ne_of h1 hd (by intro z; cases z)), k _ _ h2 (ne_of h2 hd (by intro z; cases z)), h3, h4⟩
theorem Pd.at {H0 H : Hp} {p s ds q : Addr} {o : HO} (a : Pd H0 H p s ds) (hq : H0 q = none) : Pd H0 (upd H q o) p s ds :=
  ⟨a.now.off (fun z => a.op (z ▸ hq)) (fun z => a.os (z ▸ hq)), a.op, a.os, fun c o h n1 n2 => by rw [upd_ne (ne_of_none h hq)]; exact a.but c o h n1 n2⟩
theorem Pd.free {H0 H : Hp} {p s ds q : Addr} (a : Pd H0 H p s ds) (hd : H ds ≠ none) (hq : H q = none) : H0 q = none := by
  cases e : H0 q with
  | none => rfl
  | some u =>
    by_cases h1 : q = p
    · exact absurd (h1 ▸ hq) a.now.ne.1
    · by_cases h2 : q = ds
      · exact absurd (h2 ▸ hq) hd
      · rw [a.but q u e h1 h2] at hq
        cases hq
theorem Ents.snoc {H : Hp} {us : List V} {xs : List Ent} {e : Addr} {x : Ent} (h : Ents H us xs) (he : EntAt H e x) (hok : x.ok) : Ents H (us ++ [.ref e]) (xs ++ [x]) := by
  refine ⟨by rw [List.length_append, List.length_append, h.1]; rfl, fun i v y a b => ?_⟩
  by_cases hi : i < us.length
  · rw [List.getElem?_append_left hi] at a
    rw [List.getElem?_append_left (by rw [← h.1]; exact hi)] at b
    exact h.2 i v y a b
  · have hi' : i = us.length := by
      have := (List.getElem?_eq_some_iff.mp a).1
      rw [List.length_append] at this
      have : i < us.length + 1 := this
      omega
    subst hi'
    rw [List.getElem?_append_right (Nat.le_refl _), Nat.sub_self] at a
    rw [h.1, List.getElem?_append_right (Nat.le_refl _), Nat.sub_self] at b
    cases a
    cases b
    exact ⟨e, rfl, he, hok⟩
def spEntries : Sp := fun vs H Q _ => ∃ (p s dl dk ds : Addr) (L : List (Str × Int)) (ks : List Str) (S0 : Kn) (n0 : Nat) (number arrival many : Int), vs = [.ref p, .ref dl, .ref dk, .ref ds, .int number, .int arrival, .int many] ∧ Draw H p s dl dk ds L ks S0 ∧ StAt H ds S0 n0 ∧ 0 ≤ many ∧ many ≤ 100 ∧ (n0 : Int) + many ≤ 500 ∧
  0 ≤ number ∧ (∀ id, S0 id ≠ none → id < number) ∧ ds ≠ dl ∧
  ∀ (q : Addr) us xs S1 H', H q = none → H' q = some (.lst us) → Ents H' us xs → (xs.length : Int) = many → (∀ l, (∀ t, l = some t → t ≤ arrival) → ∀ i, wk L (xs.map some) i S0 l = (none, S1)) → (∀ x ∈ xs, arrival ≤ x.arr) →
    StAt H' ds S1 (n0 + xs.length) → KnOk L S1 → (∀ id, S1 id ≠ none → 0 ≤ id ∧ id < number + 3 * many) → Pd H H' p s ds → Q (.ref q) H'
section
variable {P : Program} {w : World} {K : PySem.W.Frag} {mg : Str → Option Value} {base : Heap}
abbrev s_l_put : Stmt := topS 47
theorem sc_l_put : FnScope ["_law_states_here", "_law_entry_here", "_law_old"] ["_law_states_here", "_law_entry_here"] (defScope s_l_put) := ⟨rfl, rfl, rfl, by decide +kernel, rfl, by decide +kernel, by decide +kernel⟩
theorem ok_put {f : Addr} {fd : FuncData} (F : Fun K "_law_put" "_law_put" s_l_put f fd) (B : Blt mg) : FnOk P w K mg base CX0 1 f fd ["_law_states_here", "_law_entry_here"] spPut := by
  refine F.ok sc_l_put (fun vs H Q E h => ?_) (fun cdv A outer s H vs Q E hr h => ?_)
  · obtain ⟨ds, e, L, S, n, x, y, rfl, _⟩ := h
    rfl
  · obtain ⟨ds, e, L, S, n, x, y, rfl, hst, hn, hx, hb, q⟩ := h
    have hu := hu_of hr
    obtain ⟨kvs, h1, h2, h3, h4⟩ := id hst
    refine ⟨_, (pss_one (ps_if (pt_cmpR op_eq (pe_ix ix_tup (pv 1) pe_int (fun _ _ => rfl)) pe_str (nomark _))
      (pss_one (ps_dput hu (pv 0) (pe_ix ix_tup (pv 1) pe_int (fun _ _ => rfl)) (pe_tup (pa_cons (pe_ix ix_tup (pv 1) pe_int (fun _ _ => rfl)) (pa_cons (pe_ix ix_tup (pv 1) pe_int (fun _ _ => rfl)) (pa_cons (pe_ix ix_tup (pv 1) pe_int (fun _ _ => rfl)) (pa_cons (pe_ix ix_tup (pv 1) pe_int (fun _ _ => rfl)) pa_nil))))) rfl))
      (pss_one (ps_if (pt_cmpR op_eq (pe_ix ix_tup (pv 1) pe_int (fun _ _ => rfl)) pe_str (nomark _))
        (pss_cons (ps_set (i := 2) sc_l_put.nd rfl (Or.inl rfl) (pe_dget hu (pv 0) (pe_ix ix_tup (pv 1) pe_int (fun _ _ => rfl)) (fun _ _ => rfl)))
        (pss_one (ps_dput hu (pv 0) (pe_ix ix_tup (pv 1) pe_int (fun _ _ => rfl)) (pe_tup (pa_cons (pe_ix ix_tup (pv 2) pe_int (fun _ _ => rfl)) (pa_cons (pe_ix ix_tup (pv 2) pe_int (fun _ _ => rfl)) (pa_cons (pe_ix ix_tup (pv 1) pe_int (fun _ _ => rfl)) (pa_cons (pe_ix ix_tup (pv 1) pe_int (fun _ _ => rfl)) pa_nil))))) rfl)))
        (pss_one (ps_dput hu (pv 0) (pe_ix ix_tup (pv 1) pe_int (fun _ _ => rfl)) pe_non rfl)))))), ?_⟩
    cases x with
    | row id z k m a r =>
      obtain rfl := behind_row hb
      refine ⟨_, rfl, _, _, _, _, rfl, rfl, SqT.of hx, rfl, rfl, _, rfl, iteT ?_⟩
      refine ⟨_, rfl, _, _, _, _, rfl, rfl, SqT.of hx, rfl, _, rfl, _, _, _, _, rfl, rfl, SqT.of hx, rfl, _, rfl, _, _, _, _, rfl, rfl, SqT.of hx, rfl, _, rfl, _, _, _, _, rfl, rfl, SqT.of hx, rfl, (by show 4 ≤ sizeLine; decide), fun t ht => ?_⟩
      have s1 := sameAt (Same.refl H) ht (o := .tup [.str z, .str k, .int m, .int a])
      have hx1 : EntAt (upd H t (.tup [.str z, .str k, .int m, .int a])) e (.row id z k m a r) := s1 _ _ hx
      refine ⟨_, rfl, _, rfl, _, _, _, _, rfl, rfl, SqT.of hx1, rfl, ds, _, rfl, DPut.k (k := Sum.inl id) (s1 _ _ h1) (small1000 (by omega)), ?_⟩
      exact q _ (StAt.put h1 h2 h3 h4 s1 ⟨t, rfl, upd_same⟩) fun c o hc hn => by rw [upd_ne hn]; exact s1 _ _ hc
    | fix id m a r =>
      obtain ⟨z, k, m0, a0, eS, rfl⟩ := behind_fix hb
      have sv := h4 id
      have eS : S id = some (.at_ z k m0 a0) := eS
      rw [eS] at sv
      obtain ⟨v, hv⟩ : ∃ v, valV kvs (Sum.inl id) = some v := by
        cases e : valV kvs (Sum.inl id : Key) with
        | none => rw [e] at sv; exact absurd sv (fun z => z)
        | some v => exact ⟨v, rfl⟩
      rw [hv] at sv
      obtain ⟨t0, rfl, ht0⟩ := sv
      have hg := DGet.k (k := Sum.inl id) h1
      rw [hv] at hg
      refine ⟨_, rfl, _, _, _, _, rfl, rfl, SqT.of hx, rfl, rfl, _, rfl, iteF ?_⟩
      refine ⟨_, rfl, _, _, _, _, rfl, rfl, SqT.of hx, rfl, rfl, _, rfl, iteT ?_⟩
      refine ⟨_, rfl, _, rfl, _, _, _, _, rfl, rfl, SqT.of hx, rfl, ds, _, rfl, hg, ?_⟩
      refine ⟨_, rfl, _, _, _, _, rfl, rfl, SqT.of ht0, rfl, _, rfl, _, _, _, _, rfl, rfl, SqT.of ht0, rfl, _, rfl, _, _, _, _, rfl, rfl, SqT.of hx, rfl, _, rfl, _, _, _, _, rfl, rfl, SqT.of hx, rfl, (by show 4 ≤ sizeLine; decide), fun t ht => ?_⟩
      have s1 := sameAt (Same.refl H) ht (o := .tup [.str z, .str k, .int m, .int a])
      have hx1 : EntAt (upd H t (.tup [.str z, .str k, .int m, .int a])) e (.fix id m a r) := s1 _ _ hx
      refine ⟨_, rfl, _, rfl, _, _, _, _, rfl, rfl, SqT.of hx1, rfl, ds, _, rfl, DPut.k (k := Sum.inl id) (s1 _ _ h1) (small1000 (by omega)), ?_⟩
      exact q _ (StAt.put h1 h2 h3 h4 s1 ⟨t, rfl, upd_same⟩) fun c o hc hn => by rw [upd_ne hn]; exact s1 _ _ hc
    | gone id r =>
      obtain rfl := behind_gone hb
      refine ⟨_, rfl, _, _, _, _, rfl, rfl, SqT.of hx, rfl, rfl, _, rfl, iteF ?_⟩
      refine ⟨_, rfl, _, _, _, _, rfl, rfl, SqT.of hx, rfl, rfl, _, rfl, iteF ?_⟩
      refine ⟨_, rfl, _, rfl, _, _, _, _, rfl, rfl, SqT.of hx, rfl, ds, _, rfl, DPut.k (k := Sum.inl id) h1 (small1000 (by omega)), ?_⟩
      exact q _ (StAt.put h1 h2 h3 h4 (Same.refl H) rfl) fun c o hc hn => by rw [upd_ne hn]; exact hc
structure G4 (P : Program) (w : World) (K : PySem.W.Frag) (mg : Str → Option Value) (base : Heap) : Prop extends G3 P w K mg base where
  law_entry : Cal P w K mg base CX0 "_law_entry" 3 ["_law_pool_here", "_law_lates_here", "_law_keys", "_law_states_here", "_law_number", "_law_arrival"] spEntry
  law_put : Cal P w K mg base CX0 "_law_put" 1 ["_law_states_here", "_law_entry_here"] spPut
abbrev s_l_entries : Stmt := topS 48
theorem sc_l_entries : FnScope ["_law_pool_here", "_law_lates_here", "_law_keys", "_law_states_here", "_law_number", "_law_arrival", "_law_many", "_law_entries_here", "_law_k", "_law_entry_here"] ["_law_pool_here", "_law_lates_here", "_law_keys", "_law_states_here", "_law_number", "_law_arrival", "_law_many"] (defScope s_l_entries) := ⟨rfl, rfl, rfl, by decide +kernel, rfl, by decide +kernel, by decide +kernel⟩
theorem ok_entries {f : Addr} {fd : FuncData} (F : Fun K "_law_entries" "_law_entries" s_l_entries f fd) (B : Blt mg) (G : G4 P w K mg base) : FnOk P w K mg base CX0 4 f fd ["_law_pool_here", "_law_lates_here", "_law_keys", "_law_states_here", "_law_number", "_law_arrival", "_law_many"] spEntries := by
  refine F.ok sc_l_entries (fun vs H Q E h => ?_) (fun cdv A outer s H vs Q E hr h => ?_)
  · obtain ⟨p, s, dl, dk, ds, L, ks, S, n0, number, arrival, many, rfl, _⟩ := h
    rfl
  · obtain ⟨p, s0, dl, dk, ds, L, ks, S0, n0, number, arrival, many, rfl, D, hst, hm0, hm1, hm5, hn0, hids, hdd, q⟩ := h
    refine ⟨_, (pss_cons (ps_set (i := 7) sc_l_entries.nd rfl (Or.inl rfl) (pe_lst pa_nil))
    (pss_cons (ps_for PassesOwn.never rfl (pi_range1 (by rfl) B.range (pa_cons (pv 6) pa_nil)) (pg_name (i := 8) sc_l_entries.nd rfl (Or.inl rfl))
      (pss_cons (ps_set (i := 5) sc_l_entries.nd rfl (Or.inl rfl) (pe_op op_add (pv 5) (pe_ix ix_list (pe_lst (pa_cons pe_int (pa_cons pe_int (pa_cons pe_int (pa_cons pe_int (pa_cons pe_int (pa_cons pe_int (pa_cons pe_int (pa_cons (pe_cal G.law_draw (hr.mono (by decide)) pass0 (pa_cons (pv 0) (pa_cons (pe_op op_pow pe_int pe_int) pa_nil))) pa_nil))))))))) (pe_cal G.law_draw (hr.mono (by decide)) pass0 (pa_cons (pv 0) (pa_cons pe_int pa_nil))) (fun _ _ => rfl))))
      (pss_cons (ps_set (i := 9) sc_l_entries.nd rfl (Or.inl rfl) (pe_cal G.law_entry (hr.mono (by decide)) pass0 (pa_cons (pv 0) (pa_cons (pv 1) (pa_cons (pv 2) (pa_cons (pv 3) (pa_cons (pe_op op_add (pe_op op_add (pv 4) (pe_op op_mul pe_int (pv 8))) (pe_cal G.law_draw (hr.mono (by decide)) pass0 (pa_cons (pv 0) (pa_cons pe_int pa_nil)))) (pa_cons (pv 5) pa_nil))))))))
      (pss_cons (ps_expr (pe_cal G.law_put (hr.mono (by decide)) pass0 (pa_cons (pv 3) (pa_cons (pv 9) pa_nil))))
      (pss_one (ps_expr (pe_bm PySem.F.plainAttrs_list PySem.F.slot_list_append PySem.F.type_list_append mt_append (pv 7) (pa_cons (pv 9) pa_nil))))))))
    (pss_one (ps_ret (pv 7))))), ?_⟩
    refine ⟨(by show 0 ≤ sizeLine; decide), fun q0 hq0 => ?_⟩
    have PD0 : Pd H (upd H q0 (.lst [])) p s0 ds := (⟨D.pool, D.pool.ne.1, D.pool.ne.2, fun b o h _ _ => h⟩ : Pd H H p s0 ds).at hq0
    refine ⟨_, rfl, _, rfl, (by omega), (by omega), for_range (n := many.toNat) (fun k σ H1 => ∃ (us : List V) (xs : List Ent) (S : Kn) (ar : Int), (∃ a b, σ = [some (.ref p), some (.ref dl), some (.ref dk), some (.ref ds), some (.int number), some (.int ar), some (.int many), some (.ref q0), a, b]) ∧ H1 q0 = some (.lst us) ∧ Ents H1 us xs ∧ xs.length = k ∧
      (∀ l, (∀ t, l = some t → t ≤ arrival) → (∀ i, wk L (xs.map some) i S0 l = (none, S)) ∧ ∀ t, lastA xs l = some t → t ≤ ar) ∧ arrival ≤ ar ∧ (∀ x ∈ xs, arrival ≤ x.arr) ∧ StAt H1 ds S (n0 + k) ∧ KnOk L S ∧ (∀ id, S id ≠ none → 0 ≤ id ∧ id < number + 3 * (k : Int)) ∧ Pd H H1 p s0 ds) ?_ ?_ ?_⟩
    · refine ⟨[], [], S0, arrival, ⟨_, _, rfl⟩, upd_same, ⟨rfl, fun i v x a b => by simp at a⟩, rfl, fun l hl => ⟨fun i => rfl, hl⟩, Int.le_refl _, (fun x hx => nomatch hx), hst.same (sameAt (Same.refl H) hq0), D.ok, (fun id h => ⟨D.pos id h, by have := hids id h; omega⟩), PD0⟩
    · rintro k σ H1 hk ⟨us, xs, S, ar, ⟨a, b, rfl⟩, hq1, hE, hlen, hwk, har, harr, hst1, hok, hpos, PD⟩
      have hqp : q0 ≠ p := fun z => D.pool.ne.1 (z ▸ hq0)
      obtain ⟨kvs0, hst0, _⟩ := id hst
      have hqd : q0 ≠ ds := fun z => by rw [z, hst0] at hq0; cases hq0
      obtain ⟨ns, i1, c1, k1, m1, hp1, _⟩ := id D.pool
      have dlp : dl ≠ p := ne_of D.dl hp1 (by intro z; cases z)
      have dkp : dk ≠ p := ne_of D.dk hp1 (strs_ne (ns := ns))
      have dkd : dk ≠ ds := ne_of D.dk hst0 (by intro z; cases z)
      obtain ⟨kvs1, hst1', _⟩ := id hst1
      -- arrival
      refine ⟨_, rfl, _, rfl, _, _, rfl, rfl, ⟨by decide, by decide, by decide⟩, p, s0, _, rfl, PD.now, (by decide), (by decide), fun v H2 v0 v1 P2 => ⟨(by show 8 ≤ sizeLine; decide), fun u hu2 => ?_⟩⟩
      have v1 : v < 1000000 := v1
      have PD2 := PD.pl P2
      have hd2 := P2.dk PD.now hst1'
      have hu0 : H u = none := PD2.free (by rw [hd2]; exact fun z => nomatch z) hu2
      have PD3 : Pd H (upd H2 u (.lst [V.int 0, V.int 0, V.int 1, V.int 1, V.int 2, V.int 3, V.int 7, V.int v])) p s0 ds := PD2.at hu0
      have hup : u ≠ p := fun z => D.pool.ne.1 (z ▸ hu0)
      have hud : u ≠ ds := fun z => by rw [z, hst0] at hu0; cases hu0
      refine ⟨_, rfl, p, s0, 8, rfl, PD3.now, (by decide), (by decide), fun g H4 g0 g1 P4 => ?_⟩
      obtain ⟨inc, hinc, inc0⟩ : ∃ inc : Int, atI ([V.int 0, V.int 0, V.int 1, V.int 1, V.int 2, V.int 3, V.int 7, V.int v]) g = some (V.int inc) ∧ 0 ≤ inc := by
        have : g = 0 ∨ g = 1 ∨ g = 2 ∨ g = 3 ∨ g = 4 ∨ g = 5 ∨ g = 6 ∨ g = 7 := by omega
        rcases this with rfl | rfl | rfl | rfl | rfl | rfl | rfl | rfl
        · exact ⟨0, rfl, by omega⟩
        · exact ⟨0, rfl, by omega⟩
        · exact ⟨1, rfl, by omega⟩
        · exact ⟨1, rfl, by omega⟩
        · exact ⟨2, rfl, by omega⟩
        · exact ⟨3, rfl, by omega⟩
        · exact ⟨7, rfl, by omega⟩
        · exact ⟨v, rfl, v0⟩
      have PD4 := PD3.pl P4
      refine ⟨_, _, _, V.int inc, rfl, rfl, SqL.of (P4.keep upd_same hup), hinc, _, _, rfl, rfl, ?_⟩
      -- entry
      refine ⟨_, rfl, _, rfl, _, rfl, _, rfl, _, rfl, _, rfl, _, _, rfl, rfl, .inl ⟨by decide, by decide⟩, _, _, rfl, rfl, _, rfl, p, s0, 3, rfl, PD4.now, (by decide), (by decide), fun g3 H5 g30 g33 P5 => ⟨_, _, rfl, rfl, _, rfl, ?_⟩⟩
      have PD5 := PD4.pl P5
      have tk15 : TK H1 H5 := (((P2.tk PD.now).trans (tk_same (sameAt (Same.refl H2) hu2))).trans (P4.tk PD3.now)).trans (P5.tk PD4.now)
      have st5 : StAt H5 ds S (n0 + k) := ((((hst1.pl PD.now P2).same (sameAt (Same.refl H2) hu2)).pl PD3.now P4).pl PD4.now P5)
      have D5 : Draw H5 p s0 dl dk ds L ks S := ⟨PD5.now, PD5.but _ _ D.dl dlp (Ne.symm hdd), D.LL, PD5.but _ _ D.dk dkp dkd, D.k1, D.k2, D.kn, by
        obtain ⟨kk, a1, a2, a3, a4⟩ := st5
        exact ⟨kk, a1, by omega, a3, a4⟩, hok, fun id h => (hpos id h).1⟩
      refine ⟨p, s0, dl, dk, ds, L, ks, S, _, _, rfl, D5, (by omega), ?_, fun e x y H6 he hxok _ hxarr hbh hid P6 => ?_⟩
      · cases eS : S (number + 3 * (0 + (k : Int)) + g3) with
        | none => rfl
        | some r =>
          have := (hpos _ (by rw [eS]; exact fun z => nomatch z)).2
          omega
      have PD6 := PD5.pl P6
      have st6 := st5.pl PD5.now P6
      obtain ⟨kvs6, hd6, _⟩ := id st6
      refine ⟨_, rfl, _, rfl, ds, e, L, S, n0 + k, x, y, rfl, st6, (by omega), he, hbh, fun H7 st7 k7 => ?_⟩
      have PD7 := PD6.chg hd6 k7
      have tk67 : TK H6 H7 := fun t zs h => k7 _ _ h (ne_of h hd6 (by intro z; cases z))
      have keepq : H7 q0 = some (.lst us) := by
        have a2 := P2.keep hq1 hqp
        have a3 : (upd H2 u (.lst [V.int 0, V.int 0, V.int 1, V.int 1, V.int 2, V.int 3, V.int 7, V.int v])) q0 = some (.lst us) := by rw [upd_ne (ne_of_none a2 hu2)]; exact a2
        exact k7 _ _ (P6.keep (P5.keep (P4.keep a3 hqp) hqp) hqp) hqd
      refine ⟨_, rfl, .inl ⟨rfl, _, SqL.of keepq⟩, _, rfl, q0, us, _, rfl, rfl, keepq, (by rw [hE.1]; exact small1000 (by omega)), ?_⟩
      have tk78 : TK H7 (upd H7 q0 (.lst (us ++ [.ref e]))) := tk_off keepq (fun xs z => by cases z)
      have tkAll := ((tk15.trans (P6.tk PD5.now)).trans tk67).trans tk78
      refine ⟨us ++ [.ref e], xs ++ [x], setK S x.id y, ar + inc, ⟨_, _, rfl⟩, upd_same, (hE.tk tkAll).snoc ((tk67.trans tk78) _ _ he) hxok, by rw [List.length_append, hlen]; rfl, fun l hl => ⟨fun i => ?_, fun t ht => ?_⟩, by omega, fun z hz => ?_, ?_, ?_, fun id hid' => ?_, PD7.at hq0⟩
      · rw [List.map_append]
        show wk L (xs.map some ++ [some x]) i S0 l = _
        rw [wk_app [some x] ((hwk l hl).1 i)]
        have hlt : late? (lastA xs l) x.arr = false := by
          cases e : lastA xs l with
          | none => rfl
          | some t =>
            have := (hwk l hl).2 t e
            exact decide_eq_false (by omega)
        rw [wk_go hlt hbh]
        rfl
      · rw [lastA_snoc] at ht
        cases ht
        omega
      · rcases List.mem_append.mp hz with hz | hz
        · exact harr z hz
        · rw [List.mem_singleton.mp hz]
          omega
      · obtain ⟨kk, a1, a2, a3, a4⟩ := st7
        exact ⟨kk, by rw [upd_ne (Ne.symm hqd)]; exact a1, by omega, a3, fun id => (a4 id).but tk78⟩
      · intro id z1 kk m a' he'
        have he' : (if id = x.id then some y else S id) = some (.at_ z1 kk m a') := he'
        by_cases ej : id = x.id
        · rw [if_pos ej] at he'
          exact behind_ok hxok (hok x.id) hbh _ _ _ _ (Option.some.inj he')
        · rw [if_neg ej] at he'
          exact hok id _ _ _ _ he'
      · have hid' : (if id = x.id then some y else S id) ≠ none := hid'
        by_cases ej : id = x.id
        · have hx0 : 0 ≤ x.id := hxok.1
          rw [ej]
          refine ⟨hx0, ?_⟩
          rcases hid with h | h
          · omega
          · have := (hpos _ h).2
            omega
        · rw [if_neg ej] at hid'
          have := hpos _ hid'
          omega
    · rintro σ H1 ⟨us, xs, S, ar, ⟨a, b, rfl⟩, hq1, hE, hlen, hwk, har, harr, hst1, hok, hpos, PD⟩
      refine ⟨_, rfl, q q0 us xs S H1 hq0 hq1 hE (by omega) (fun l hl => (hwk l hl).1) harr (by rw [hlen]; exact hst1) hok (fun id h => ⟨(hpos id h).1, by have := (hpos id h).2; omega⟩) PD⟩
end
end Ash

set_option Elab.async false
set_option linter.all false
set_option maxRecDepth 100000
set_option maxHeartbeats 4000000
namespace Ash
open PySem PySem.Spec PyProof.Rows L2
open C8 (pss_cut)
theorem wk_step {L : List (Str × Int)} {x : Ent} {r : List Ent} {i : Nat} {S S1 : Kn} {l : Option Int} (h : wk L ((x :: r).map some) i S l = (none, S1)) : late? l x.arr = false ∧ ∃ y, behind L x (S x.id) = some y ∧ wk L (r.map some) (i + 1) (fun j => if j = x.id then some y else S j) (some x.arr) = (none, S1) := by
  have h : wk L (some x :: r.map some) i S l = (none, S1) := h
  by_cases c : late? l x.arr = true
  · rw [wk_late c] at h
    cases h
  · have c0 : late? l x.arr = false := Bool.eq_false_iff.mpr c
    cases hb : behind L x (S x.id) with
    | none =>
      rw [wk_bad c0 hb] at h
      cases h
    | some y =>
      rw [wk_go c0 hb] at h
      exact ⟨c0, y, rfl, h⟩
theorem list_take' {xs : List Ent} {i : Nat} {x : Ent} (h : xs[i]? = some x) : xs.take (i + 1) = xs.take i ++ [x] := by
  have := (List.getElem?_eq_some_iff.mp h)
  obtain ⟨l, e⟩ := this
  rw [List.take_succ, h]
  rfl
/-! ### states made of entries, their rows -/
/-- StAt, each key once -/
def StK (H : Hp) (d : Addr) (S : Kn) (n : Nat) : Prop := ∃ kvs : List (Key × V), H d = some (.dK kvs) ∧ kvs.length ≤ n ∧ ((∀ kv ∈ kvs, ∃ id, kv.1 = Sum.inl id) ∧ (kvs.map (·.1)).Nodup) ∧ ∀ id, SV H (valV kvs (Sum.inl id)) (S id)
theorem StK.put {H H1 : Hp} {ds : Addr} {S : Kn} {n : Nat} {kvs : List (Key × V)} {id : Int} {v : V} {y : RowSt} (h1 : H ds = some (.dK kvs)) (h2 : kvs.length ≤ n) (h3 : (∀ kv ∈ kvs, ∃ id, kv.1 = Sum.inl id) ∧ (kvs.map (·.1)).Nodup) (h4 : ∀ id, SV H (valV kvs (Sum.inl id)) (S id))
    (s : Same H H1) (hv : SV H1 (some v) (some y)) : StK (upd H1 ds (.dK (putK kvs (Sum.inl id) v))) ds (setK S id y) (n + 1) := by
  obtain ⟨kk, a1, a2, a3, a4⟩ := StAt.put h1 h2 h3.1 h4 s hv
  rw [upd_same] at a1
  cases a1
  have q := (KLen.put (n := n) ⟨h2, h3.2, h3.1⟩ id v)
  exact ⟨_, upd_same, a2, ⟨a3, q.nd⟩, a4⟩
def spPutK : Sp := fun vs H Q _ => ∃ (ds e : Addr) (L : List (Str × Int)) (S : Kn) (n : Nat) (x : Ent) (y : RowSt), vs = [.ref ds, .ref e] ∧ StK H ds S n ∧ n ≤ 900 ∧ EntAt H e x ∧ behind L x (S x.id) = some y ∧
  ∀ H', StK H' ds (setK S x.id y) (n + 1) → (∀ c o, H c = some o → c ≠ ds → H' c = some o) → Q .non H'
def spStates : Sp := fun vs H Q _ => ∃ (a : Addr) (L : List (Str × Int)) (us : List V) (xs : List Ent) (S1 : Kn), vs = [.ref a] ∧ H a = some (.lst us) ∧ Ents H us xs ∧ xs.length ≤ 900 ∧ wk L (xs.map some) 0 (fun _ => none) none = (none, S1) ∧
  ∀ d H', H d = none → StK H' d S1 xs.length → Same H H' → Q (.ref d) H'
theorem wk_pre {L : List (Str × Int)} : ∀ {xs : List Ent} {i : Nat} {S S1 : Kn} {l : Option Int}, wk L (xs.map some) i S l = (none, S1) → ∀ k, ∃ Sk, wk L ((xs.take k).map some) i S l = (none, Sk)
  | [], _, S, _, _, _, k => ⟨S, by rw [List.take_nil]; rfl⟩
  | x :: xs, i, S, S1, l, h, 0 => ⟨S, rfl⟩
  | x :: xs, i, S, S1, l, h, k + 1 => by
    obtain ⟨c, y, h2, h3⟩ := wk_step h
    obtain ⟨Sk, hk⟩ := wk_pre h3 k
    refine ⟨Sk, ?_⟩
    rw [List.take_succ_cons]
    show wk L (some x :: (xs.take k).map some) i S l = _
    rw [wk_go c h2]
    exact hk
theorem wk_nth {L : List (Str × Int)} {xs : List Ent} {S S1 Sk : Kn} {l : Option Int} {k : Nat} {x : Ent} (h : wk L (xs.map some) 0 S l = (none, S1)) (hx : xs[k]? = some x) (hk : wk L ((xs.take k).map some) 0 S l = (none, Sk)) :
    ∃ y, behind L x (Sk x.id) = some y ∧ wk L ((xs.take (k + 1)).map some) 0 S l = (none, setK Sk x.id y) := by
  obtain ⟨S2, h2⟩ := wk_pre h (k + 1)
  have h2' := h2
  rw [list_take' hx, List.map_append] at h2
  have h2 : wk L ((xs.take k).map some ++ [some x]) 0 S l = _ := h2
  rw [wk_app [some x] hk] at h2
  obtain ⟨c, y, b, e⟩ := wk_step (r := []) h2
  refine ⟨y, b, ?_⟩
  rw [h2', ← e]
  rfl
section
variable {P : Program} {w : World} {K : PySem.W.Frag} {mg : Str → Option Value} {base : Heap}
theorem ok_putk {f : Addr} {fd : FuncData} (F : Fun K "_law_put" "_law_put" s_l_put f fd) (B : Blt mg) : FnOk P w K mg base CX0 1 f fd ["_law_states_here", "_law_entry_here"] spPutK := by
  refine F.ok sc_l_put (fun vs H Q E h => ?_) (fun cdv A outer s H vs Q E hr h => ?_)
  · obtain ⟨ds, e, L, S, n, x, y, rfl, _⟩ := h
    rfl
  · obtain ⟨ds, e, L, S, n, x, y, rfl, hst, hn, hx, hb, q⟩ := h
    have hu := hu_of hr
    obtain ⟨kvs, h1, h2, h3, h4⟩ := id hst
    refine ⟨_, (pss_one (ps_if (pt_cmpR op_eq (pe_ix ix_tup (pv 1) pe_int (fun _ _ => rfl)) pe_str (nomark _))
      (pss_one (ps_dput hu (pv 0) (pe_ix ix_tup (pv 1) pe_int (fun _ _ => rfl)) (pe_tup (pa_cons (pe_ix ix_tup (pv 1) pe_int (fun _ _ => rfl)) (pa_cons (pe_ix ix_tup (pv 1) pe_int (fun _ _ => rfl)) (pa_cons (pe_ix ix_tup (pv 1) pe_int (fun _ _ => rfl)) (pa_cons (pe_ix ix_tup (pv 1) pe_int (fun _ _ => rfl)) pa_nil))))) rfl))
      (pss_one (ps_if (pt_cmpR op_eq (pe_ix ix_tup (pv 1) pe_int (fun _ _ => rfl)) pe_str (nomark _))
        (pss_cons (ps_set (i := 2) sc_l_put.nd rfl (Or.inl rfl) (pe_dget hu (pv 0) (pe_ix ix_tup (pv 1) pe_int (fun _ _ => rfl)) (fun _ _ => rfl)))
        (pss_one (ps_dput hu (pv 0) (pe_ix ix_tup (pv 1) pe_int (fun _ _ => rfl)) (pe_tup (pa_cons (pe_ix ix_tup (pv 2) pe_int (fun _ _ => rfl)) (pa_cons (pe_ix ix_tup (pv 2) pe_int (fun _ _ => rfl)) (pa_cons (pe_ix ix_tup (pv 1) pe_int (fun _ _ => rfl)) (pa_cons (pe_ix ix_tup (pv 1) pe_int (fun _ _ => rfl)) pa_nil))))) rfl)))
        (pss_one (ps_dput hu (pv 0) (pe_ix ix_tup (pv 1) pe_int (fun _ _ => rfl)) pe_non rfl)))))), ?_⟩
    cases x with
    | row id z k m a r =>
      obtain rfl := behind_row hb
      refine ⟨_, rfl, _, _, _, _, rfl, rfl, SqT.of hx, rfl, rfl, _, rfl, iteT ?_⟩
      refine ⟨_, rfl, _, _, _, _, rfl, rfl, SqT.of hx, rfl, _, rfl, _, _, _, _, rfl, rfl, SqT.of hx, rfl, _, rfl, _, _, _, _, rfl, rfl, SqT.of hx, rfl, _, rfl, _, _, _, _, rfl, rfl, SqT.of hx, rfl, (by show 4 ≤ sizeLine; decide), fun t ht => ?_⟩
      have s1 := sameAt (Same.refl H) ht (o := .tup [.str z, .str k, .int m, .int a])
      have hx1 : EntAt (upd H t (.tup [.str z, .str k, .int m, .int a])) e (.row id z k m a r) := s1 _ _ hx
      refine ⟨_, rfl, _, rfl, _, _, _, _, rfl, rfl, SqT.of hx1, rfl, ds, _, rfl, DPut.k (k := Sum.inl id) (s1 _ _ h1) (small1000 (by omega)), ?_⟩
      exact q _ (StK.put h1 h2 h3 h4 s1 ⟨t, rfl, upd_same⟩) fun c o hc hn => by rw [upd_ne hn]; exact s1 _ _ hc
    | fix id m a r =>
      obtain ⟨z, k, m0, a0, eS, rfl⟩ := behind_fix hb
      have sv := h4 id
      have eS : S id = some (.at_ z k m0 a0) := eS
      rw [eS] at sv
      obtain ⟨v, hv⟩ : ∃ v, valV kvs (Sum.inl id) = some v := by
        cases e : valV kvs (Sum.inl id : Key) with
        | none => rw [e] at sv; exact absurd sv (fun z => z)
        | some v => exact ⟨v, rfl⟩
      rw [hv] at sv
      obtain ⟨t0, rfl, ht0⟩ := sv
      have hg := DGet.k (k := Sum.inl id) h1
      rw [hv] at hg
      refine ⟨_, rfl, _, _, _, _, rfl, rfl, SqT.of hx, rfl, rfl, _, rfl, iteF ?_⟩
      refine ⟨_, rfl, _, _, _, _, rfl, rfl, SqT.of hx, rfl, rfl, _, rfl, iteT ?_⟩
      refine ⟨_, rfl, _, rfl, _, _, _, _, rfl, rfl, SqT.of hx, rfl, ds, _, rfl, hg, ?_⟩
      refine ⟨_, rfl, _, _, _, _, rfl, rfl, SqT.of ht0, rfl, _, rfl, _, _, _, _, rfl, rfl, SqT.of ht0, rfl, _, rfl, _, _, _, _, rfl, rfl, SqT.of hx, rfl, _, rfl, _, _, _, _, rfl, rfl, SqT.of hx, rfl, (by show 4 ≤ sizeLine; decide), fun t ht => ?_⟩
      have s1 := sameAt (Same.refl H) ht (o := .tup [.str z, .str k, .int m, .int a])
      have hx1 : EntAt (upd H t (.tup [.str z, .str k, .int m, .int a])) e (.fix id m a r) := s1 _ _ hx
      refine ⟨_, rfl, _, rfl, _, _, _, _, rfl, rfl, SqT.of hx1, rfl, ds, _, rfl, DPut.k (k := Sum.inl id) (s1 _ _ h1) (small1000 (by omega)), ?_⟩
      exact q _ (StK.put h1 h2 h3 h4 s1 ⟨t, rfl, upd_same⟩) fun c o hc hn => by rw [upd_ne hn]; exact s1 _ _ hc
    | gone id r =>
      obtain rfl := behind_gone hb
      refine ⟨_, rfl, _, _, _, _, rfl, rfl, SqT.of hx, rfl, rfl, _, rfl, iteF ?_⟩
      refine ⟨_, rfl, _, _, _, _, rfl, rfl, SqT.of hx, rfl, rfl, _, rfl, iteF ?_⟩
      refine ⟨_, rfl, _, rfl, _, _, _, _, rfl, rfl, SqT.of hx, rfl, ds, _, rfl, DPut.k (k := Sum.inl id) h1 (small1000 (by omega)), ?_⟩
      exact q _ (StK.put h1 h2 h3 h4 (Same.refl H) rfl) fun c o hc hn => by rw [upd_ne hn]; exact hc
structure G4k (P : Program) (w : World) (K : PySem.W.Frag) (mg : Str → Option Value) (base : Heap) : Prop where
  law_put : Cal P w K mg base CX0 "_law_put" 1 ["_law_states_here", "_law_entry_here"] spPutK
abbrev s_l_states : Stmt := topS 50
theorem sc_l_states : FnScope ["_law_entries_here", "_law_states_here", "_law_entry_here"] ["_law_entries_here"] (defScope s_l_states) := ⟨rfl, rfl, rfl, by decide +kernel, rfl, by decide +kernel, by decide +kernel⟩
theorem ok_states {f : Addr} {fd : FuncData} (F : Fun K "_law_states" "_law_states" s_l_states f fd) (B : Blt mg) (G : G4k P w K mg base) : FnOk P w K mg base CX0 2 f fd ["_law_entries_here"] spStates := by
  refine F.ok sc_l_states (fun vs H Q E h => ?_) (fun cdv A outer s H vs Q E hr h => ?_)
  · obtain ⟨a, L, us, xs, S1, rfl, _⟩ := h
    rfl
  · obtain ⟨a, L, us, xs, S1, rfl, ha, hE, h9, hw, q⟩ := h
    refine ⟨_, (pss_cons (ps_set (i := 1) sc_l_states.nd rfl (Or.inl rfl) pe_dnewK)
    (pss_cons (ps_for PassesOwn.never rfl (pi_list (pv 0)) (pg_name (i := 2) sc_l_states.nd rfl (Or.inl rfl))
      (pss_one (ps_expr (pe_cal G.law_put (hr.mono (by decide)) pass0 (pa_cons (pv 1) (pa_cons (pv 2) pa_nil))))))
    (pss_one (ps_ret (pv 1))))), ?_⟩
    intro d hd
    have s1 := sameAt (Same.refl H) hd (o := .dK [])
    refine ⟨_, rfl, a, rfl, ⟨_, SqL.of (s1 _ _ ha)⟩, for_list (K := K) (a := a) (xs := us) (fun i σ H1 => (∃ b, σ = [some (.ref a), some (.ref d), b]) ∧ H1 a = some (.lst us) ∧ (∃ Si, wk L ((xs.take i).map some) 0 (fun _ => none) none = (none, Si) ∧ StK H1 d Si i) ∧ Same H H1) ?_ (fun i σ H1 _ hv => SqL.of hv.2.1) ?_ ?_⟩
    · exact ⟨⟨_, rfl⟩, s1 _ _ ha, ⟨_, rfl, [], upd_same, Nat.zero_le _, ⟨(fun _ h => nomatch h), .nil⟩, fun id => True.intro⟩, s1⟩
    · rintro i v σ H1 hi ⟨⟨b, rfl⟩, ha1, ⟨Si, hwi, hst⟩, sH⟩
      have hil := (List.getElem?_eq_some_iff.mp hi).1
      obtain ⟨x, hx⟩ : ∃ x, xs[i]? = some x := ⟨_, List.getElem?_eq_getElem (by rw [← hE.1]; exact hil)⟩
      obtain ⟨e, rfl, he, hok⟩ := hE.2 i v x hi hx
      obtain ⟨y, hb, hw1⟩ := wk_nth hw hx hwi
      have := hE.1
      obtain ⟨kvs, hd1, _⟩ := id hst
      refine ⟨_, rfl, _, rfl, d, e, L, Si, i, x, y, rfl, hst, by omega, sH _ _ he, hb, fun H2 st2 k2 => ?_⟩
      have sd : Same H H2 := fun c o hc => k2 c o (sH _ _ hc) (fun z => by rw [z, hd] at hc; cases hc)
      exact ⟨⟨_, rfl⟩, k2 _ _ ha1 (fun z => by rw [z, hd1] at ha1; cases ha1), ⟨_, hw1, st2⟩, sd⟩
    · rintro σ H1 ⟨⟨b, rfl⟩, ha1, ⟨Si, hwi, hst⟩, sH⟩
      rw [hE.1] at hwi hst
      rw [List.take_length, hw] at hwi
      cases hwi
      exact ⟨_, rfl, q d _ hd hst sH⟩
structure G5k (P : Program) (w : World) (K : PySem.W.Frag) (mg : Str → Option Value) (base : Heap) : Prop extends G4k P w K mg base where
  law_states : Cal P w K mg base CX0 "_law_states" 2 ["_law_entries_here"] spStates
end
end Ash

set_option Elab.async false
set_option linter.all false
set_option maxRecDepth 100000
set_option maxHeartbeats 4000000
namespace Ash
open PySem PySem.Spec PyProof.Rows L2
open C8 (pss_cut)
/-! ### entries of a draft: without their arrival -/
def DAt (H : Hp) (e : Addr) (x : Ent) : Prop := H e = some (.tup x.vs.dropLast)
/-- what a drafted entry may be -/
def DOk (L : List (Str × Int)) (x : Ent) : Prop := x.ok ∧ ∀ id s k m a r, x = .row id s k m a r → (L.lookup s).isSome
def spDrafted : Sp := fun vs H Q _ => ∃ (p s dl dk de : Addr) (L : List (Str × Int)) (ks : List Str) (us : List V) (xs : List Ent) (S1 : Kn) (number now : Int), vs = [.ref p, .ref dl, .ref dk, .ref de, .int number, .int now] ∧ PoolAt H p s ∧ H dl = some (.dK (LK L)) ∧ Lates L ∧ H dk = some (.lst (ks.map V.str)) ∧ 1 ≤ ks.length ∧ ks.length ≤ 30 ∧ (∀ z ∈ ks, IsNm z) ∧ H de = some (.lst us) ∧ Ents H us xs ∧ xs.length ≤ 450 ∧ wk L (xs.map some) 0 (fun _ => none) none = (none, S1) ∧ (∀ id, S1 id ≠ none → 0 ≤ id) ∧ 0 ≤ number ∧
  ∀ e x H', DAt H' e x → DOk L x → (x.id = number ∨ S1 x.id ≠ none) → Pl H H' p s → Q (.ref e) H'
section
variable {P : Program} {w : World} {K : PySem.W.Frag} {mg : Str → Option Value} {base : Heap}
structure G6d (P : Program) (w : World) (K : PySem.W.Frag) (mg : Str → Option Value) (base : Heap) : Prop extends G3 P w K mg base where
  law_states : Cal P w K mg base CX0 "_law_states" 2 ["_law_entries_here"] spStates
abbrev s_l_drafted : Stmt := topS 56
theorem sc_l_drafted : FnScope ["_law_pool_here", "_law_lates_here", "_law_keys", "_law_entries_here", "_law_number", "_law_now", "_law_states_here", "_law_other", "_law_standing", "_law_kind", "_law_stream", "_law_moment"] ["_law_pool_here", "_law_lates_here", "_law_keys", "_law_entries_here", "_law_number", "_law_now"] (defScope s_l_drafted) := ⟨rfl, rfl, rfl, by decide +kernel, rfl, by decide +kernel, by decide +kernel⟩
theorem ok_drafted {f : Addr} {fd : FuncData} (F : Fun K "_law_drafted" "_law_drafted" s_l_drafted f fd) (B : Blt mg) (G : G6d P w K mg base) : FnOk P w K mg base CX0 4 f fd ["_law_pool_here", "_law_lates_here", "_law_keys", "_law_entries_here", "_law_number", "_law_now"] spDrafted := by
  refine F.ok sc_l_drafted (fun vs H Q E h => ?_) (fun cdv A outer s H vs Q E hr h => ?_)
  · obtain ⟨p, s, dl, dk, de, L, ks, us, xs, S1, number, now, rfl, _⟩ := h
    rfl
  · obtain ⟨p, s0, dl, dk, de, L, ks, us, xs, S1, number, now, rfl, hP, hdl, LL, hdk, k1, k2, kn, hde, hE, h9, hw, pos, hn, q⟩ := h
    have hu := hu_of hr
    refine ⟨_, (pss_cons (ps_set (i := 6) sc_l_drafted.nd rfl (Or.inr rfl) (pe_cal G.law_states (hr.mono (by decide)) pass0 (pa_cons (pv 3) pa_nil)))
    (pss_cons (ps_setLc (i := 8) (own := [("_law_other", 7)]) (g := gName 7) (by rfl) sc_l_drafted.nd rfl rfl (sw_true rfl rfl rfl (by decide +kernel)) (pi_list (pe_callTy (call_listD (by rfl)) (by rfl) B.list (by decide +kernel) (pa_cons (pv 6) pa_nil))) (blkOk_by (own := [("_law_other", 7)]) (N := ["_law_pool_here", "_law_lates_here", "_law_keys", "_law_entries_here", "_law_number", "_law_now", "_law_states_here", "_law_other", "_law_standing", "_law_kind", "_law_stream", "_law_moment"]) (sc := defScope s_l_drafted) (by decide +kernel)) (fun _ _ _ _ _ => (pg_name (i := 7) sc_l_drafted.nd rfl (Or.inl rfl))) (fun _ _ _ _ _ => pts_one (pt_cmpR op_notN (pe_dget hu (pv 6) (pv 7) (fun _ _ => rfl)) pe_non (nomark _))) (fun _ _ _ _ _ => (pv 7)))
    (pss_cons (ps_set (i := 9) sc_l_drafted.nd rfl (Or.inl rfl) (pe_cal G.law_draw (hr.mono (by decide)) pass0 (pa_cons (pv 0) (pa_cons pe_int pa_nil))))
    (pss_cons (ps_if (PW.pt (pw_or (pt_cmpR op_lt (pv 9) pe_int (nomark _)) (pw_or1 (pt_cmpR op_eq (pe_callB call_len_seq (by rfl) B.len (by decide +kernel) (pa_cons (pv 8) pa_nil)) pe_int (nomark _)))))
      (pss_cons (ps_set (i := 10) sc_l_drafted.nd rfl (Or.inl rfl) (pe_ix ix_list (pe_callTy (call_listD (by rfl)) (by rfl) B.list (by decide +kernel) (pa_cons (pv 1) pa_nil)) (pe_cal G.law_draw (hr.mono (by decide)) pass0 (pa_cons (pv 0) (pa_cons (pe_callB call_lenD (by rfl) B.len (by decide +kernel) (pa_cons (pv 1) pa_nil)) pa_nil))) (fun _ _ => rfl)))
      (pss_cons (ps_set (i := 11) sc_l_drafted.nd rfl (Or.inl rfl) (pe_op op_add (pe_op op_sub (pv 5) (pe_cal G.law_draw (hr.mono (by decide)) pass0 (pa_cons (pv 0) (pa_cons (pe_op op_add (pe_callB (call_min2 rfl) (by rfl) B.min (by decide +kernel) (pa_cons (pe_dget hu (pv 1) (pv 10) (fun _ _ => rfl)) (pa_cons pe_int pa_nil))) pe_int) pa_nil)))) (pe_callTy call_int1 (by rfl) B.int (by decide +kernel) (pa_cons (pe_cmpR op_eq (pe_cal G.law_draw (hr.mono (by decide)) pass0 (pa_cons (pv 0) (pa_cons pe_int pa_nil))) pe_int (nomark _)) pa_nil))))
      (pss_one (ps_ret (pe_tup (pa_cons pe_str (pa_cons (pv 4) (pa_cons (pv 10) (pa_cons (pe_ix ix_list (pv 2) (pe_cal G.law_draw (hr.mono (by decide)) pass0 (pa_cons (pv 0) (pa_cons (pe_callB call_len_seq (by rfl) B.len (by decide +kernel) (pa_cons (pv 2) pa_nil)) pa_nil))) (fun _ _ => rfl)) (pa_cons (pv 11) (pa_cons (pe_cal G.law_amount (hr.mono (by decide)) pass0 (pa_cons (pv 0) pa_nil)) pa_nil)))))))))))
      pss_nil)
    (pss_cons (ps_set (i := 7) sc_l_drafted.nd rfl (Or.inl rfl) (pe_ix ix_list (pv 8) (pe_cal G.law_draw (hr.mono (by decide)) pass0 (pa_cons (pv 0) (pa_cons (pe_callB call_len_seq (by rfl) B.len (by decide +kernel) (pa_cons (pv 8) pa_nil)) pa_nil))) (fun _ _ => rfl)))
    (pss_cons (ps_if (pt_cmpR op_eq (pv 9) pe_int (nomark _))
      (pss_one (ps_ret (pe_tup (pa_cons pe_str (pa_cons (pv 7) (pa_cons (pe_op op_sub (pv 5) (pe_cal G.law_draw (hr.mono (by decide)) pass0 (pa_cons (pv 0) (pa_cons pe_int pa_nil)))) (pa_cons (pe_cal G.law_amount (hr.mono (by decide)) pass0 (pa_cons (pv 0) pa_nil)) pa_nil)))))))
      pss_nil)
    (pss_one (ps_ret (pe_tup (pa_cons pe_str (pa_cons (pv 7) pa_nil))))))))))), ?_⟩
    refine ⟨_, rfl, de, L, us, xs, S1, rfl, hde, hE, by omega, hw, fun d H1 hd hst s1 => ?_⟩
    obtain ⟨kvs, hd1, hkl, ⟨hk2, hkn⟩, hsv⟩ := id hst
    have hP1 := hP.same s1
    refine ⟨_, rfl, d, kvs, rfl, .of hd1, fun lo hlo => ⟨lo, rfl, ⟨_, SqL.of upd_same⟩, ?_⟩⟩
    have s2 : Same H1 (upd H1 lo (.lst (kvs.map fun kv => kV kv.1))) := sameAt (Same.refl _) hlo
    have hlo2 : (upd H1 lo (.lst (kvs.map fun kv => kV kv.1))) lo = some (.lst (kvs.map fun kv => kV kv.1)) := upd_same
    generalize (upd H1 lo (.lst (kvs.map fun kv => kV kv.1))) = H2 at s2 hlo2 ⊢
    refine fun D hD => lc_list (a := lo) (xs := kvs.map fun kv => kV kv.1) (fun i H3 => ∃ ids : List Int, H3 D = some (.lst (ids.map V.int)) ∧ ids.length ≤ i ∧ (∀ id ∈ ids, ∃ z k m a, S1 id = some (.at_ z k m a)) ∧ Same H2 H3) ⟨[], upd_same, Nat.zero_le _, (fun _ h => nomatch h), sameAt (Same.refl _) hD⟩ (fun i H3 _ hv => by obtain ⟨_, _, _, _, h⟩ := hv; exact SqL.of (h _ _ hlo2)) ?_ ?_
    · rintro i v H3 hvi ⟨ids, hD3, hln, hids, s3⟩
      rw [List.getElem?_map] at hvi
      obtain ⟨kv, hkv, rfl⟩ : ∃ kv, kvs[i]? = some kv ∧ v = kV kv.1 := by
        cases e : kvs[i]? with
        | none => rw [e] at hvi; cases hvi
        | some z => rw [e] at hvi; exact ⟨z, rfl, (Option.some.inj hvi).symm⟩
      have hil := (List.getElem?_eq_some_iff.mp hkv).1
      have hm := List.mem_of_getElem? hkv
      obtain ⟨id, hid⟩ := hk2 _ hm
      obtain ⟨v, hv⟩ := mem_val hm
      rw [hid] at hv ⊢
      have hs1 := s3 _ _ (s2 _ _ hd1)
      have sv := (hsv id).but (fun t xs e => s3 _ _ (s2 _ _ e))
      rw [hv] at sv
      have hg := DGet.k (k := Sum.inl id) hs1
      rw [hv] at hg
      cases eS : S1 id with
      | none => rw [eS] at sv; exact absurd sv (fun z => z)
      | some r =>
        rw [eS] at sv
        cases r with
        | tb =>
          obtain rfl : v = .non := sv
          refine ⟨rfl, _, rfl, _, rfl, d, _, rfl, hg, rfl, _, rfl, iteF ?_⟩
          exact ⟨ids, hD3, by omega, hids, s3⟩
        | at_ z k m am =>
          obtain ⟨t, rfl, ht⟩ := sv
          refine ⟨rfl, _, rfl, _, rfl, d, _, rfl, hg, rfl, _, rfl, iteT ?_⟩
          refine ⟨_, rfl, _, hD3, (by rw [List.length_map]; exact small1000 (by omega)), ids ++ [id], ?_, by rw [List.length_append]; show ids.length + 1 ≤ i + 1; omega, fun id' hid' => ?_, ?_⟩
          · rw [upd_same, List.map_append]
            rfl
          · rcases List.mem_append.mp hid' with h | h
            · exact hids _ h
            · rw [List.mem_singleton.mp h]
              exact ⟨z, k, m, am, eS⟩
          · exact sameAt s3 hD
    rintro H3 ⟨ids, hD3, hln, hids, s3⟩
    rw [List.length_map] at hln
    have hP3 := hP1.same (s2.trans s3)
    have sA : Same H H3 := s1.trans (s2.trans s3)
    have Dp : D ≠ p := fun z => (hP1.same s2).ne.1 (z ▸ hD)
    have l1 := LL.some_
    have l8 := LL.few
    refine ⟨_, rfl, p, s0, 5, rfl, hP3, (by decide), (by decide), fun kind H4 q0 q5 P4 => ?_⟩
    have PP4 : Pl H H4 p s0 := ⟨P4.now, hP.ne.1, hP.ne.2, fun b o hb hn => P4.keep (sA _ _ hb) hn⟩
    have hD4 := P4.keep hD3 Dp
    refine ⟨_, rfl, _, _, rfl, rfl, _, rfl, ?_⟩
    refine ite2 (fun c1 => ?_) (fun c1 => ?_)
    · skip
      refine ⟨_, rfl, dl, _, rfl, .of (PP4.dk hP hdl), fun l hl => ?_⟩
      have e1 : (LK L).map (fun kv => kV kv.1) = (L.map (·.1)).map V.str := by
        unfold LK
        rw [List.map_map, List.map_map]
        rfl
      rw [e1]
      have PP5 : Pl H (upd H4 l (.lst ((L.map (·.1)).map V.str))) p s0 := PP4.new hl
      have hlp : l ≠ p := fun z => P4.now.ne.1 (z ▸ hl)
      refine ⟨_, rfl, _, rfl, dl, _, rfl, PP5.dk hP hdl, p, s0, _, rfl, PP5.now, (by rw [LK_len]; omega), (by rw [LK_len]; omega), fun g H6 g0 g1 P6 => ?_⟩
      rw [LK_len] at g1
      obtain ⟨g, rfl⟩ : ∃ n : Nat, g = (n : Int) := ⟨g.toNat, by omega⟩
      have hg : g < L.length := by omega
      have PP6 := PP5.trans P6
      have hm : L[g] ∈ L := List.getElem_mem hg
      have hlk : L.lookup L[g].1 = some L[g].2 := lookup_mem LL.nd hm
      have b0 := LL.lo _ hm
      have b1 := LL.hi _ hm
      refine ⟨_, _, _, V.str L[g].1, rfl, rfl, SqL.of (P6.keep upd_same hlp), atI_nat (by rw [List.getElem?_map, List.getElem?_map, List.getElem?_eq_getElem hg]; rfl), ?_⟩
      have hgl := DGet.k (k := Sum.inr L[g].1) (PP6.dk hP hdl)
      rw [LK_val, hlk] at hgl
      refine ⟨_, rfl, _, rfl, _, rfl, _, rfl, dl, _, rfl, hgl, _, _, rfl, _, _, rfl, rfl, p, s0, _, rfl, PP6.now, (by split <;> omega), (by split <;> omega), fun dd H7 d0 d1 P7 => ⟨_, _, rfl, rfl, _, rfl, p, s0, 9, rfl, (PP6.trans P7).now, (by decide), (by decide), fun ee H8 e0 e9 P8 => ⟨rfl, .inr ⟨_, rfl, _, _, rfl, rfl, ?_⟩⟩⟩⟩
      have PP8 := (PP6.trans P7).trans P8
      refine ⟨_, rfl, _, rfl, _, rfl, _, rfl, _, rfl, dk, _, rfl, .inl (SqL.of (PP8.sl hP hdk)), p, s0, _, rfl, PP8.now, (by rw [List.length_map]; omega), (by rw [List.length_map]; omega), fun gk H9 gk0 gk1 P9 => ?_⟩
      rw [List.length_map] at gk1
      obtain ⟨gk, rfl⟩ : ∃ n : Nat, gk = (n : Int) := ⟨gk.toNat, by omega⟩
      have hgk : gk < ks.length := by omega
      have PP9 := PP8.trans P9
      refine ⟨_, _, _, V.str ks[gk], rfl, rfl, SqL.of (PP9.sl hP hdk), atI_nat (by rw [List.getElem?_map, List.getElem?_eq_getElem hgk]; rfl), _, rfl, _, rfl, p, s0, rfl, PP9.now, fun am H10 P10 => ⟨(by show 6 ≤ sizeLine; decide), fun e he => ?_⟩⟩
      exact q e (.row number L[g].1 ks[gk] _ am 0) _ upd_same ⟨⟨hn, fun _ _ _ _ _ _ z => by
        cases z
        exact ⟨LL.nm _ hm, kn _ (List.getElem_mem hgk)⟩⟩, fun _ _ _ _ _ _ z => by cases z; rw [hlk]; rfl⟩ (.inl rfl) ((PP9.trans P10).new he)
    · refine ⟨_, rfl, D, _, rfl, .inl (SqL.of hD4), rfl, _, rfl, ?_⟩
      refine ite2 (fun c2 => ?_) (fun c2 => ?_)
      · skip
        refine ⟨_, rfl, dl, _, rfl, .of (PP4.dk hP hdl), fun l hl => ?_⟩
        have e1 : (LK L).map (fun kv => kV kv.1) = (L.map (·.1)).map V.str := by
          unfold LK
          rw [List.map_map, List.map_map]
          rfl
        rw [e1]
        have PP5 : Pl H (upd H4 l (.lst ((L.map (·.1)).map V.str))) p s0 := PP4.new hl
        have hlp : l ≠ p := fun z => P4.now.ne.1 (z ▸ hl)
        refine ⟨_, rfl, _, rfl, dl, _, rfl, PP5.dk hP hdl, p, s0, _, rfl, PP5.now, (by rw [LK_len]; omega), (by rw [LK_len]; omega), fun g H6 g0 g1 P6 => ?_⟩
        rw [LK_len] at g1
        obtain ⟨g, rfl⟩ : ∃ n : Nat, g = (n : Int) := ⟨g.toNat, by omega⟩
        have hg : g < L.length := by omega
        have PP6 := PP5.trans P6
        have hm : L[g] ∈ L := List.getElem_mem hg
        have hlk : L.lookup L[g].1 = some L[g].2 := lookup_mem LL.nd hm
        have b0 := LL.lo _ hm
        have b1 := LL.hi _ hm
        refine ⟨_, _, _, V.str L[g].1, rfl, rfl, SqL.of (P6.keep upd_same hlp), atI_nat (by rw [List.getElem?_map, List.getElem?_map, List.getElem?_eq_getElem hg]; rfl), ?_⟩
        have hgl := DGet.k (k := Sum.inr L[g].1) (PP6.dk hP hdl)
        rw [LK_val, hlk] at hgl
        refine ⟨_, rfl, _, rfl, _, rfl, _, rfl, dl, _, rfl, hgl, _, _, rfl, _, _, rfl, rfl, p, s0, _, rfl, PP6.now, (by split <;> omega), (by split <;> omega), fun dd H7 d0 d1 P7 => ⟨_, _, rfl, rfl, _, rfl, p, s0, 9, rfl, (PP6.trans P7).now, (by decide), (by decide), fun ee H8 e0 e9 P8 => ⟨rfl, .inr ⟨_, rfl, _, _, rfl, rfl, ?_⟩⟩⟩⟩
        have PP8 := (PP6.trans P7).trans P8
        refine ⟨_, rfl, _, rfl, _, rfl, _, rfl, _, rfl, dk, _, rfl, .inl (SqL.of (PP8.sl hP hdk)), p, s0, _, rfl, PP8.now, (by rw [List.length_map]; omega), (by rw [List.length_map]; omega), fun gk H9 gk0 gk1 P9 => ?_⟩
        rw [List.length_map] at gk1
        obtain ⟨gk, rfl⟩ : ∃ n : Nat, gk = (n : Int) := ⟨gk.toNat, by omega⟩
        have hgk : gk < ks.length := by omega
        have PP9 := PP8.trans P9
        refine ⟨_, _, _, V.str ks[gk], rfl, rfl, SqL.of (PP9.sl hP hdk), atI_nat (by rw [List.getElem?_map, List.getElem?_eq_getElem hgk]; rfl), _, rfl, _, rfl, p, s0, rfl, PP9.now, fun am H10 P10 => ⟨(by show 6 ≤ sizeLine; decide), fun e he => ?_⟩⟩
        exact q e (.row number L[g].1 ks[gk] _ am 0) _ upd_same ⟨⟨hn, fun _ _ _ _ _ _ z => by
          cases z
          exact ⟨LL.nm _ hm, kn _ (List.getElem_mem hgk)⟩⟩, fun _ _ _ _ _ _ z => by cases z; rw [hlk]; rfl⟩ (.inl rfl) ((PP9.trans P10).new he)
      · have hne : 0 < ids.length := by
          refine Nat.pos_of_ne_zero fun z => c2 (decide_eq_true ?_)
          rw [List.length_map, z]
          rfl
        refine ⟨_, rfl, _, rfl, _, rfl, D, _, rfl, .inl (SqL.of hD4), p, s0, _, rfl, PP4.now, (by rw [List.length_map]; omega), (by rw [List.length_map]; omega), fun g H5 g0 g1 P5 => ?_⟩
        rw [List.length_map] at g1
        obtain ⟨g, rfl⟩ : ∃ n : Nat, g = (n : Int) := ⟨g.toNat, by omega⟩
        have hg : g < ids.length := by omega
        have PP5 := PP4.trans P5
        obtain ⟨z, k, m, a0, eS⟩ := hids _ (List.getElem_mem hg)
        have hS : S1 ids[g] ≠ none := by rw [eS]; exact fun z => nomatch z
        have hpos : 0 ≤ ids[g] := pos _ hS
        refine ⟨_, _, _, V.int ids[g], rfl, rfl, SqL.of (P5.keep hD4 Dp), atI_nat (by rw [List.getElem?_map, List.getElem?_eq_getElem hg]; rfl), _, rfl, rfl, _, rfl, ?_⟩
        refine ite2 (fun c3 => ?_) (fun c3 => ?_)
        · refine ⟨_, rfl, _, rfl, _, rfl, p, s0, 3, rfl, PP5.now, (by decide), (by decide), fun dd H6 d0 d3 P6 => ⟨_, _, rfl, rfl, _, rfl, p, s0, rfl, (PP5.trans P6).now, fun am H7 P7 => ⟨(by show 4 ≤ sizeLine; decide), fun e he => ?_⟩⟩⟩
          exact q e (.fix ids[g] (now - dd) am 0) _ upd_same ⟨⟨hpos, fun _ _ _ _ _ _ z => by cases z⟩, fun _ _ _ _ _ _ z => by cases z⟩ (.inr hS) (((PP5.trans P6).trans P7).new he)
        · refine ⟨_, rfl, (by show 2 ≤ sizeLine; decide), fun e he => ?_⟩
          exact q e (.gone ids[g] 0) _ upd_same ⟨⟨hpos, fun _ _ _ _ _ _ z => by cases z⟩, fun _ _ _ _ _ _ z => by cases z⟩ (.inr hS) (PP5.new he)
end
end Ash

set_option Elab.async false
set_option linter.all false
set_option maxRecDepth 100000
set_option maxHeartbeats 4000000
namespace Ash
open PySem PySem.Spec PyProof.Rows L2
open C8 (pss_cut)
/-! ### is an entry good behind what is known -/
def LastV : Option Int → V
  | none => .non
  | some t => .int t
def good? (L : List (Str × Int)) (S : Kn) (l : Option Int) (x : Ent) : Bool := !late? l x.arr && (behind L x (S x.id)).isSome
/-- streams of the lates alone -/
def InL (L : List (Str × Int)) (S : Kn) (x : Ent) : Prop := (∀ id s k m a, S id = some (.at_ s k m a) → (L.lookup s).isSome) ∧ ∀ id s k m a r, x = .row id s k m a r → (L.lookup s).isSome
def spGood : Sp := fun vs H Q _ => ∃ (dl ds e : Addr) (L : List (Str × Int)) (S : Kn) (n : Nat) (l : Option Int) (x : Ent), vs = [.ref dl, .ref ds, LastV l, .ref e] ∧ H dl = some (.dK (LK L)) ∧ StK H ds S n ∧ EntAt H e x ∧ InL L S x ∧ Q (.bl (good? L S l x)) H
section
variable {P : Program} {w : World} {K : PySem.W.Frag} {mg : Str → Option Value} {base : Heap}
abbrev s_l_is_good : Stmt := topS 52
theorem sc_l_is_good : FnScope ["_law_lates_here", "_law_states_here", "_law_last", "_law_entry_here", "_law_arrival", "_law_old", "_law_late"] ["_law_lates_here", "_law_states_here", "_law_last", "_law_entry_here"] (defScope s_l_is_good) := ⟨rfl, rfl, rfl, by decide +kernel, rfl, by decide +kernel, by decide +kernel⟩
theorem ok_good {f : Addr} {fd : FuncData} (F : Fun K "_law_is_good" "_law_is_good" s_l_is_good f fd) (B : Blt mg) : FnOk P w K mg base CX0 1 f fd ["_law_lates_here", "_law_states_here", "_law_last", "_law_entry_here"] spGood := by
  refine F.ok sc_l_is_good (fun vs H Q E h => ?_) (fun cdv A outer s H vs Q E hr h => ?_)
  · obtain ⟨dl, ds, e, L, S, n, l, x, rfl, _⟩ := h
    rfl
  · obtain ⟨dl, ds, e, L, S, n, l, x, rfl, hdl, hst, he, hI, q⟩ := h
    have hu := hu_of hr
    obtain ⟨kvs, hd1, hkl, ⟨hk2, hkn⟩, hsv⟩ := id hst
    refine ⟨_, (pss_cons (ps_set (i := 4) sc_l_is_good.nd rfl (Or.inl rfl) (pe_ix ix_tup (pv 3) (pe_op op_sub (pe_callB call_len_seq (by rfl) B.len (by decide +kernel) (pa_cons (pv 3) pa_nil)) pe_int) (fun _ _ => rfl)))
    (pss_cons (ps_if (PW.pt (pw_and (pt_cmpR op_notN (pv 2) pe_non (nomark _)) (pw_and1 (pt_cmpR op_lt (pv 4) (pv 2) (nomark _)))))
      (pss_one (ps_ret pe_bl))
      pss_nil)
    (pss_cons (ps_if (pt_cmpR op_eq (pe_ix ix_tup (pv 3) pe_int (fun _ _ => rfl)) pe_str (nomark _))
      (pss_one (ps_ret (pe_and (pe_cmp (pc_dnotin hu (pe_ix ix_tup (pv 3) pe_int (fun _ _ => rfl)) (pv 1)) rfl) (pe_one (pe_chain op_le op_le (pe_ix ix_tup (pv 3) pe_int (fun _ _ => rfl)) (pv 4) (pe_op op_add (pe_ix ix_tup (pv 3) pe_int (fun _ _ => rfl)) (pe_dget hu (pv 0) (pe_ix ix_tup (pv 3) pe_int (fun _ _ => rfl)) (fun _ _ => rfl))))))))
      pss_nil)
    (pss_cons (ps_if (PW.pt (pw_or (pt_cmp (pc_dnotin hu (pe_ix ix_tup (pv 3) pe_int (fun _ _ => rfl)) (pv 1)) rfl) (pw_or1 (pt_cmpR op_isN (pe_dget hu (pv 1) (pe_ix ix_tup (pv 3) pe_int (fun _ _ => rfl)) (fun _ _ => rfl)) pe_non (nomark _)))))
      (pss_one (ps_ret pe_bl))
      pss_nil)
    (pss_cons (ps_set (i := 5) sc_l_is_good.nd rfl (Or.inl rfl) (pe_dget hu (pv 1) (pe_ix ix_tup (pv 3) pe_int (fun _ _ => rfl)) (fun _ _ => rfl)))
    (pss_cons (ps_set (i := 6) sc_l_is_good.nd rfl (Or.inl rfl) (pe_dget hu (pv 0) (pe_ix ix_tup (pv 5) pe_int (fun _ _ => rfl)) (fun _ _ => rfl)))
    (pss_cons (ps_if (pt_cmpR op_gt (pv 4) (pe_op op_add (pe_ix ix_tup (pv 5) pe_int (fun _ _ => rfl)) (pv 6)) (nomark _))
      (pss_one (ps_ret pe_bl))
      pss_nil)
    (pss_one (ps_ret (pe_or (pe_cmpR op_eq (pe_ix ix_tup (pv 3) pe_int (fun _ _ => rfl)) pe_str (nomark _)) (pe_one (pe_chain op_le op_le (pe_ix ix_tup (pv 3) pe_int (fun _ _ => rfl)) (pv 4) (pe_op op_add (pe_ix ix_tup (pv 3) pe_int (fun _ _ => rfl)) (pv 6)))))))))))))), ?_⟩
    have no (b : Bool) (e0 : good? L S l x = b) : Q (.bl b) H := e0 ▸ q
    have lk (s : Str) (hs : (L.lookup s).isSome) : ∃ lt, L.lookup s = some lt ∧ DGet H dl (.str s) (some (.int lt)) := by
      obtain ⟨lt, hlt⟩ := Option.isSome_iff_exists.mp hs
      have := DGet.k (k := Sum.inr s) hdl
      rw [LK_val, hlt] at this
      exact ⟨lt, hlt, this⟩
    have st (id : Int) : (S id = none ∧ DGet H ds (.int id) none) ∨ (S id = some .tb ∧ DGet H ds (.int id) (some .non)) ∨ ∃ s k m a t, S id = some (.at_ s k m a) ∧ DGet H ds (.int id) (some (.ref t)) ∧ H t = some (.tup [.str s, .str k, .int m, .int a]) := by
      have sv := hsv id
      have hg := DGet.k (k := Sum.inl id) hd1
      cases ev : valV kvs (Sum.inl id : Key) with
      | none =>
        rw [ev] at sv hg
        cases eS : S id with
        | none => exact .inl ⟨rfl, hg⟩
        | some y => rw [eS] at sv; exact absurd sv (fun z => z)
      | some v =>
        rw [ev] at sv hg
        cases eS : S id with
        | none => rw [eS] at sv; exact absurd sv (fun z => z)
        | some y =>
          rw [eS] at sv
          cases y with
          | tb => obtain rfl : v = .non := sv; exact .inr (.inl ⟨rfl, hg⟩)
          | at_ s k m a => obtain ⟨t, rfl, ht⟩ := sv; exact .inr (.inr ⟨s, k, m, a, t, rfl, hg, ht⟩)
    cases x with
    | row id s k m a r =>
      refine ⟨_, rfl, _, rfl, e, _, rfl, .inr (SqT.of he), _, _, rfl, rfl, _, _, _, _, rfl, rfl, SqT.of he, rfl, ?_⟩
      cases l with
      | none =>
        have hl : late? none r = false := rfl
        refine ⟨_, rfl, rfl, _, rfl, iteF ?_⟩
        have ge (o) (eS : S id = o) : good? L S none (.row id s k m a r) = (behind L (.row id s k m a r) o).isSome := by
          show (!late? _ r && (behind L _ (S id)).isSome) = _
          rw [hl, eS]; rfl
        obtain ⟨lt, hlt, hgl⟩ := lk s (hI.2 _ _ _ _ _ _ rfl)
        refine ⟨_, rfl, _, _, _, _, rfl, rfl, SqT.of he, rfl, rfl, _, rfl, iteT ?_⟩
        rcases st id with ⟨eS, hg⟩ | h
        · refine ⟨_, rfl, _, _, _, _, rfl, rfl, SqT.of he, rfl, _, rfl, ds, _, rfl, hg, _, rfl, iteT ?_⟩
          have e0 := ge _ eS
          have e1 : (behind L (.row id s k m a r) none).isSome = decide (m ≤ r ∧ r ≤ m + lt) := by
            show ((L.lookup s).bind _).isSome = _
            rw [hlt, Option.bind_some]
            split
            · rename_i c; rw [decide_eq_true c]; rfl
            · rename_i c; rw [decide_eq_false c]; rfl
          rw [e1] at e0
          by_cases c1 : m ≤ r
          · refine ⟨_, rfl, _, _, _, _, rfl, rfl, SqT.of he, rfl, _, rfl, _, _, rfl, rfl, true, congrArg V.bl (decide_eq_true c1), iteT ⟨_, rfl, _, _, _, _, rfl, rfl, SqT.of he, rfl, _, rfl, _, rfl, _, _, _, _, rfl, rfl, SqT.of he, rfl, dl, _, rfl, hgl, _, _, rfl, rfl, _, _, rfl, rfl, ?_⟩⟩
            exact no _ (e0.trans (by congr 1; exact propext ⟨fun z => z.2, fun z => ⟨c1, z⟩⟩))
          · refine ⟨_, rfl, _, _, _, _, rfl, rfl, SqT.of he, rfl, _, rfl, _, _, rfl, rfl, false, congrArg V.bl (decide_eq_false c1), iteF ?_⟩
            exact no _ (e0.trans (decide_eq_false fun z => c1 z.1))
        · have h2 : ∃ y v, S id = some y ∧ DGet H ds (.int id) (some v) := by
            rcases h with ⟨eS, hg⟩ | ⟨_, _, _, _, _, eS, hg, _⟩
            · exact ⟨_, _, eS, hg⟩
            · exact ⟨_, _, eS, hg⟩
          obtain ⟨y, v, eS, hg⟩ := h2
          refine ⟨_, rfl, _, _, _, _, rfl, rfl, SqT.of he, rfl, _, rfl, ds, _, rfl, hg, _, rfl, iteF ?_⟩
          exact no _ (ge _ eS)

      | some t0 =>
        refine ⟨_, rfl, rfl, _, rfl, iteT ⟨_, rfl, _, rfl, _, _, rfl, rfl, _, rfl, ?_⟩⟩
        refine ite2 (fun c => ?_) (fun c => ?_)
        · exact no false (by have c := of_decide_eq_true c; show (!decide (r < t0) && _) = false; rw [decide_eq_true c]; rfl)
        · have hl : late? (some t0) r = false := decide_eq_false fun z => c (decide_eq_true z)
          have ge (o) (eS : S id = o) : good? L S (some t0) (.row id s k m a r) = (behind L (.row id s k m a r) o).isSome := by
            show (!late? _ r && (behind L _ (S id)).isSome) = _
            rw [hl, eS]; rfl
          obtain ⟨lt, hlt, hgl⟩ := lk s (hI.2 _ _ _ _ _ _ rfl)
          refine ⟨_, rfl, _, _, _, _, rfl, rfl, SqT.of he, rfl, rfl, _, rfl, iteT ?_⟩
          rcases st id with ⟨eS, hg⟩ | h
          · refine ⟨_, rfl, _, _, _, _, rfl, rfl, SqT.of he, rfl, _, rfl, ds, _, rfl, hg, _, rfl, iteT ?_⟩
            have e0 := ge _ eS
            have e1 : (behind L (.row id s k m a r) none).isSome = decide (m ≤ r ∧ r ≤ m + lt) := by
              show ((L.lookup s).bind _).isSome = _
              rw [hlt, Option.bind_some]
              split
              · rename_i c; rw [decide_eq_true c]; rfl
              · rename_i c; rw [decide_eq_false c]; rfl
            rw [e1] at e0
            by_cases c1 : m ≤ r
            · refine ⟨_, rfl, _, _, _, _, rfl, rfl, SqT.of he, rfl, _, rfl, _, _, rfl, rfl, true, congrArg V.bl (decide_eq_true c1), iteT ⟨_, rfl, _, _, _, _, rfl, rfl, SqT.of he, rfl, _, rfl, _, rfl, _, _, _, _, rfl, rfl, SqT.of he, rfl, dl, _, rfl, hgl, _, _, rfl, rfl, _, _, rfl, rfl, ?_⟩⟩
              exact no _ (e0.trans (by congr 1; exact propext ⟨fun z => z.2, fun z => ⟨c1, z⟩⟩))
            · refine ⟨_, rfl, _, _, _, _, rfl, rfl, SqT.of he, rfl, _, rfl, _, _, rfl, rfl, false, congrArg V.bl (decide_eq_false c1), iteF ?_⟩
              exact no _ (e0.trans (decide_eq_false fun z => c1 z.1))
          · have h2 : ∃ y v, S id = some y ∧ DGet H ds (.int id) (some v) := by
              rcases h with ⟨eS, hg⟩ | ⟨_, _, _, _, _, eS, hg, _⟩
              · exact ⟨_, _, eS, hg⟩
              · exact ⟨_, _, eS, hg⟩
            obtain ⟨y, v, eS, hg⟩ := h2
            refine ⟨_, rfl, _, _, _, _, rfl, rfl, SqT.of he, rfl, _, rfl, ds, _, rfl, hg, _, rfl, iteF ?_⟩
            exact no _ (ge _ eS)

    | fix id m a r =>
      refine ⟨_, rfl, _, rfl, e, _, rfl, .inr (SqT.of he), _, _, rfl, rfl, _, _, _, _, rfl, rfl, SqT.of he, rfl, ?_⟩
      cases l with
      | none =>
        have hl : late? none r = false := rfl
        refine ⟨_, rfl, rfl, _, rfl, iteF ?_⟩
        have ge (o) (eS : S id = o) : good? L S none (.fix id m a r) = (behind L (.fix id m a r) o).isSome := by
          show (!late? _ r && (behind L _ (S id)).isSome) = _
          rw [hl, eS]; rfl
        refine ⟨_, rfl, _, _, _, _, rfl, rfl, SqT.of he, rfl, rfl, _, rfl, iteF ?_⟩
        rcases st id with ⟨eS, hg⟩ | ⟨eS, hg⟩ | ⟨s, k, m0, a0, t, eS, hg, ht⟩
        · refine ⟨_, rfl, _, _, _, _, rfl, rfl, SqT.of he, rfl, _, rfl, ds, _, rfl, hg, _, rfl, iteT ?_⟩
          exact no _ (ge _ eS)
        · refine ⟨_, rfl, _, _, _, _, rfl, rfl, SqT.of he, rfl, _, rfl, ds, _, rfl, hg, _, rfl, iteF ⟨_, rfl, _, rfl, _, _, _, _, rfl, rfl, SqT.of he, rfl, ds, _, rfl, hg, rfl, _, rfl, iteT ?_⟩⟩
          exact no _ (ge _ eS)
        obtain ⟨lt, hlt, hgl⟩ := lk s (hI.1 _ _ _ _ _ eS)
        refine ⟨_, rfl, _, _, _, _, rfl, rfl, SqT.of he, rfl, _, rfl, ds, _, rfl, hg, _, rfl, iteF ⟨_, rfl, _, rfl, _, _, _, _, rfl, rfl, SqT.of he, rfl, ds, _, rfl, hg, rfl, _, rfl, iteF ?_⟩⟩
        refine ⟨_, rfl, _, rfl, _, _, _, _, rfl, rfl, SqT.of he, rfl, ds, _, rfl, hg, _, rfl, _, rfl, _, _, _, _, rfl, rfl, SqT.of ht, rfl, dl, _, rfl, hgl, _, rfl, _, rfl, _, _, _, _, rfl, rfl, SqT.of ht, rfl, _, rfl, _, _, rfl, rfl, _, _, rfl, rfl, _, rfl, ?_⟩
        have e0 := ge _ eS
        have e1 : (behind L (.fix id m a r) (some (.at_ s k m0 a0))).isSome = decide (r ≤ m0 + lt ∧ m ≤ r ∧ r ≤ m + lt) := by
          show ((L.lookup s).bind _).isSome = _
          rw [hlt, Option.bind_some]
          split
          · rename_i c; rw [decide_eq_true c]; rfl
          · rename_i c; rw [decide_eq_false c]; rfl
        rw [e1] at e0
        refine ite2 (fun c => ?_) (fun c => ?_)
        · have c := of_decide_eq_true c
          exact no _ (e0.trans (decide_eq_false fun z => by have := z.1; omega))
        · have c : ¬ m0 + lt < r := fun z => c (decide_eq_true z)
          refine ⟨_, rfl, _, _, _, _, rfl, rfl, SqT.of he, rfl, rfl, _, rfl, iteF ?_⟩
          by_cases c1 : m ≤ r
          · refine ⟨_, rfl, _, _, _, _, rfl, rfl, SqT.of he, rfl, _, rfl, _, _, rfl, rfl, true, congrArg V.bl (decide_eq_true c1), iteT ⟨_, rfl, _, _, _, _, rfl, rfl, SqT.of he, rfl, _, rfl, _, _, rfl, rfl, _, _, rfl, rfl, ?_⟩⟩
            exact no _ (e0.trans (by congr 1; exact propext ⟨fun z => z.2.2, fun z => ⟨by omega, c1, z⟩⟩))
          · refine ⟨_, rfl, _, _, _, _, rfl, rfl, SqT.of he, rfl, _, rfl, _, _, rfl, rfl, false, congrArg V.bl (decide_eq_false c1), iteF ?_⟩
            exact no _ (e0.trans (decide_eq_false fun z => c1 z.2.1))

      | some t0 =>
        refine ⟨_, rfl, rfl, _, rfl, iteT ⟨_, rfl, _, rfl, _, _, rfl, rfl, _, rfl, ?_⟩⟩
        refine ite2 (fun c => ?_) (fun c => ?_)
        · exact no false (by have c := of_decide_eq_true c; show (!decide (r < t0) && _) = false; rw [decide_eq_true c]; rfl)
        · have hl : late? (some t0) r = false := decide_eq_false fun z => c (decide_eq_true z)
          have ge (o) (eS : S id = o) : good? L S (some t0) (.fix id m a r) = (behind L (.fix id m a r) o).isSome := by
            show (!late? _ r && (behind L _ (S id)).isSome) = _
            rw [hl, eS]; rfl
          refine ⟨_, rfl, _, _, _, _, rfl, rfl, SqT.of he, rfl, rfl, _, rfl, iteF ?_⟩
          rcases st id with ⟨eS, hg⟩ | ⟨eS, hg⟩ | ⟨s, k, m0, a0, t, eS, hg, ht⟩
          · refine ⟨_, rfl, _, _, _, _, rfl, rfl, SqT.of he, rfl, _, rfl, ds, _, rfl, hg, _, rfl, iteT ?_⟩
            exact no _ (ge _ eS)
          · refine ⟨_, rfl, _, _, _, _, rfl, rfl, SqT.of he, rfl, _, rfl, ds, _, rfl, hg, _, rfl, iteF ⟨_, rfl, _, rfl, _, _, _, _, rfl, rfl, SqT.of he, rfl, ds, _, rfl, hg, rfl, _, rfl, iteT ?_⟩⟩
            exact no _ (ge _ eS)
          obtain ⟨lt, hlt, hgl⟩ := lk s (hI.1 _ _ _ _ _ eS)
          refine ⟨_, rfl, _, _, _, _, rfl, rfl, SqT.of he, rfl, _, rfl, ds, _, rfl, hg, _, rfl, iteF ⟨_, rfl, _, rfl, _, _, _, _, rfl, rfl, SqT.of he, rfl, ds, _, rfl, hg, rfl, _, rfl, iteF ?_⟩⟩
          refine ⟨_, rfl, _, rfl, _, _, _, _, rfl, rfl, SqT.of he, rfl, ds, _, rfl, hg, _, rfl, _, rfl, _, _, _, _, rfl, rfl, SqT.of ht, rfl, dl, _, rfl, hgl, _, rfl, _, rfl, _, _, _, _, rfl, rfl, SqT.of ht, rfl, _, rfl, _, _, rfl, rfl, _, _, rfl, rfl, _, rfl, ?_⟩
          have e0 := ge _ eS
          have e1 : (behind L (.fix id m a r) (some (.at_ s k m0 a0))).isSome = decide (r ≤ m0 + lt ∧ m ≤ r ∧ r ≤ m + lt) := by
            show ((L.lookup s).bind _).isSome = _
            rw [hlt, Option.bind_some]
            split
            · rename_i c; rw [decide_eq_true c]; rfl
            · rename_i c; rw [decide_eq_false c]; rfl
          rw [e1] at e0
          refine ite2 (fun c => ?_) (fun c => ?_)
          · have c := of_decide_eq_true c
            exact no _ (e0.trans (decide_eq_false fun z => by have := z.1; omega))
          · have c : ¬ m0 + lt < r := fun z => c (decide_eq_true z)
            refine ⟨_, rfl, _, _, _, _, rfl, rfl, SqT.of he, rfl, rfl, _, rfl, iteF ?_⟩
            by_cases c1 : m ≤ r
            · refine ⟨_, rfl, _, _, _, _, rfl, rfl, SqT.of he, rfl, _, rfl, _, _, rfl, rfl, true, congrArg V.bl (decide_eq_true c1), iteT ⟨_, rfl, _, _, _, _, rfl, rfl, SqT.of he, rfl, _, rfl, _, _, rfl, rfl, _, _, rfl, rfl, ?_⟩⟩
              exact no _ (e0.trans (by congr 1; exact propext ⟨fun z => z.2.2, fun z => ⟨by omega, c1, z⟩⟩))
            · refine ⟨_, rfl, _, _, _, _, rfl, rfl, SqT.of he, rfl, _, rfl, _, _, rfl, rfl, false, congrArg V.bl (decide_eq_false c1), iteF ?_⟩
              exact no _ (e0.trans (decide_eq_false fun z => c1 z.2.1))

    | gone id r =>
      refine ⟨_, rfl, _, rfl, e, _, rfl, .inr (SqT.of he), _, _, rfl, rfl, _, _, _, _, rfl, rfl, SqT.of he, rfl, ?_⟩
      cases l with
      | none =>
        have hl : late? none r = false := rfl
        refine ⟨_, rfl, rfl, _, rfl, iteF ?_⟩
        have ge (o) (eS : S id = o) : good? L S none (.gone id r) = (behind L (.gone id r) o).isSome := by
          show (!late? _ r && (behind L _ (S id)).isSome) = _
          rw [hl, eS]; rfl
        refine ⟨_, rfl, _, _, _, _, rfl, rfl, SqT.of he, rfl, rfl, _, rfl, iteF ?_⟩
        rcases st id with ⟨eS, hg⟩ | ⟨eS, hg⟩ | ⟨s, k, m0, a0, t, eS, hg, ht⟩
        · refine ⟨_, rfl, _, _, _, _, rfl, rfl, SqT.of he, rfl, _, rfl, ds, _, rfl, hg, _, rfl, iteT ?_⟩
          exact no _ (ge _ eS)
        · refine ⟨_, rfl, _, _, _, _, rfl, rfl, SqT.of he, rfl, _, rfl, ds, _, rfl, hg, _, rfl, iteF ⟨_, rfl, _, rfl, _, _, _, _, rfl, rfl, SqT.of he, rfl, ds, _, rfl, hg, rfl, _, rfl, iteT ?_⟩⟩
          exact no _ (ge _ eS)
        obtain ⟨lt, hlt, hgl⟩ := lk s (hI.1 _ _ _ _ _ eS)
        refine ⟨_, rfl, _, _, _, _, rfl, rfl, SqT.of he, rfl, _, rfl, ds, _, rfl, hg, _, rfl, iteF ⟨_, rfl, _, rfl, _, _, _, _, rfl, rfl, SqT.of he, rfl, ds, _, rfl, hg, rfl, _, rfl, iteF ?_⟩⟩
        refine ⟨_, rfl, _, rfl, _, _, _, _, rfl, rfl, SqT.of he, rfl, ds, _, rfl, hg, _, rfl, _, rfl, _, _, _, _, rfl, rfl, SqT.of ht, rfl, dl, _, rfl, hgl, _, rfl, _, rfl, _, _, _, _, rfl, rfl, SqT.of ht, rfl, _, rfl, _, _, rfl, rfl, _, _, rfl, rfl, _, rfl, ?_⟩
        have e0 := ge _ eS
        have e1 : (behind L (.gone id r) (some (.at_ s k m0 a0))).isSome = decide (r ≤ m0 + lt) := by
          show ((L.lookup s).bind _).isSome = _
          rw [hlt, Option.bind_some]
          split
          · rename_i c; rw [decide_eq_true c]; rfl
          · rename_i c; rw [decide_eq_false c]; rfl
        rw [e1] at e0
        refine ite2 (fun c => ?_) (fun c => ?_)
        · have c := of_decide_eq_true c
          exact no _ (e0.trans (decide_eq_false (by omega)))
        · have c : ¬ m0 + lt < r := fun z => c (decide_eq_true z)
          refine ⟨_, rfl, _, _, _, _, rfl, rfl, SqT.of he, rfl, rfl, _, rfl, iteT ?_⟩
          exact no _ (e0.trans (decide_eq_true (by omega)))

      | some t0 =>
        refine ⟨_, rfl, rfl, _, rfl, iteT ⟨_, rfl, _, rfl, _, _, rfl, rfl, _, rfl, ?_⟩⟩
        refine ite2 (fun c => ?_) (fun c => ?_)
        · exact no false (by have c := of_decide_eq_true c; show (!decide (r < t0) && _) = false; rw [decide_eq_true c]; rfl)
        · have hl : late? (some t0) r = false := decide_eq_false fun z => c (decide_eq_true z)
          have ge (o) (eS : S id = o) : good? L S (some t0) (.gone id r) = (behind L (.gone id r) o).isSome := by
            show (!late? _ r && (behind L _ (S id)).isSome) = _
            rw [hl, eS]; rfl
          refine ⟨_, rfl, _, _, _, _, rfl, rfl, SqT.of he, rfl, rfl, _, rfl, iteF ?_⟩
          rcases st id with ⟨eS, hg⟩ | ⟨eS, hg⟩ | ⟨s, k, m0, a0, t, eS, hg, ht⟩
          · refine ⟨_, rfl, _, _, _, _, rfl, rfl, SqT.of he, rfl, _, rfl, ds, _, rfl, hg, _, rfl, iteT ?_⟩
            exact no _ (ge _ eS)
          · refine ⟨_, rfl, _, _, _, _, rfl, rfl, SqT.of he, rfl, _, rfl, ds, _, rfl, hg, _, rfl, iteF ⟨_, rfl, _, rfl, _, _, _, _, rfl, rfl, SqT.of he, rfl, ds, _, rfl, hg, rfl, _, rfl, iteT ?_⟩⟩
            exact no _ (ge _ eS)
          obtain ⟨lt, hlt, hgl⟩ := lk s (hI.1 _ _ _ _ _ eS)
          refine ⟨_, rfl, _, _, _, _, rfl, rfl, SqT.of he, rfl, _, rfl, ds, _, rfl, hg, _, rfl, iteF ⟨_, rfl, _, rfl, _, _, _, _, rfl, rfl, SqT.of he, rfl, ds, _, rfl, hg, rfl, _, rfl, iteF ?_⟩⟩
          refine ⟨_, rfl, _, rfl, _, _, _, _, rfl, rfl, SqT.of he, rfl, ds, _, rfl, hg, _, rfl, _, rfl, _, _, _, _, rfl, rfl, SqT.of ht, rfl, dl, _, rfl, hgl, _, rfl, _, rfl, _, _, _, _, rfl, rfl, SqT.of ht, rfl, _, rfl, _, _, rfl, rfl, _, _, rfl, rfl, _, rfl, ?_⟩
          have e0 := ge _ eS
          have e1 : (behind L (.gone id r) (some (.at_ s k m0 a0))).isSome = decide (r ≤ m0 + lt) := by
            show ((L.lookup s).bind _).isSome = _
            rw [hlt, Option.bind_some]
            split
            · rename_i c; rw [decide_eq_true c]; rfl
            · rename_i c; rw [decide_eq_false c]; rfl
          rw [e1] at e0
          refine ite2 (fun c => ?_) (fun c => ?_)
          · have c := of_decide_eq_true c
            exact no _ (e0.trans (decide_eq_false (by omega)))
          · have c : ¬ m0 + lt < r := fun z => c (decide_eq_true z)
            refine ⟨_, rfl, _, _, _, _, rfl, rfl, SqT.of he, rfl, rfl, _, rfl, iteT ?_⟩
            exact no _ (e0.trans (decide_eq_true (by omega)))

end
end Ash

set_option Elab.async false
set_option linter.all false
set_option maxRecDepth 100000
set_option maxHeartbeats 4000000
namespace Ash
open PySem PySem.Spec PyProof.Rows L2
open C8 (pss_cut)
/-! ### the first bad one of a row of entries -/
def numV : Option Nat → V
  | none => .non
  | some i => .int i
def RowsIn (L : List (Str × Int)) (xs : List Ent) : Prop := ∀ x ∈ xs, ∀ id s k m a r, x = .row id s k m a r → (L.lookup s).isSome
theorem behind_in {L : List (Str × Int)} {x : Ent} {o : Option RowSt} {s k : Str} {m a : Int} (h : behind L x o = some (.at_ s k m a)) : (L.lookup s).isSome := by
  cases x with
  | row id z k1 m1 a1 r =>
    cases o with
    | some o => exact nomatch h
    | none =>
      have h : (L.lookup z).bind _ = some (RowSt.at_ s k m a) := h
      cases e : L.lookup z with
      | none => rw [e] at h; cases h
      | some l =>
        rw [e, Option.bind_some] at h
        split at h
        · cases h; rw [e]; rfl
        · cases h
  | fix id m1 a1 r =>
    cases o with
    | none => exact nomatch h
    | some o =>
      cases o with
      | tb => exact nomatch h
      | at_ z k1 m0 a0 =>
        have h : (L.lookup z).bind _ = some (RowSt.at_ s k m a) := h
        cases e : L.lookup z with
        | none => rw [e] at h; cases h
        | some l =>
          rw [e, Option.bind_some] at h
          split at h
          · cases h; rw [e]; rfl
          · cases h
  | gone id r =>
    cases o with
    | none => exact nomatch h
    | some o =>
      cases o with
      | tb => exact nomatch h
      | at_ z k1 m0 a0 =>
        have h : (L.lookup z).bind _ = some (RowSt.at_ s k m a) := h
        cases e : L.lookup z with
        | none => rw [e] at h; cases h
        | some l =>
          rw [e, Option.bind_some] at h
          split at h <;> cases h
def StIn (L : List (Str × Int)) (S : Kn) : Prop := ∀ id s k m a, S id = some (.at_ s k m a) → (L.lookup s).isSome
theorem StIn.put {L : List (Str × Int)} {S : Kn} {x : Ent} {y : RowSt} (h : StIn L S) (hb : behind L x (S x.id) = some y) : StIn L (setK S x.id y) := by
  intro id s k m a e
  by_cases c : id = x.id
  · have e' : some y = some (.at_ s k m a) := by rw [← e]; show _ = (if id = x.id then _ else _); rw [if_pos c]
    cases e'
    exact behind_in hb
  · have e' : S id = some (.at_ s k m a) := by rw [← e]; show _ = (if id = x.id then _ else _); rw [if_neg c]
    exact h _ _ _ _ _ e'
theorem good_step {L : List (Str × Int)} {xs : List Ent} {i : Nat} {x : Ent} {S : Kn} (hx : xs[i]? = some x) (hk : wk L ((xs.take i).map some) 0 (fun _ => none) none = (none, S)) :
    (good? L S (lastA (xs.take i) none) x = true ∧ ∃ y, behind L x (S x.id) = some y ∧ wk L ((xs.take (i + 1)).map some) 0 (fun _ => none) none = (none, setK S x.id y)) ∨
    (good? L S (lastA (xs.take i) none) x = false ∧ (wk L (xs.map some) 0 (fun _ => none) none).1 = some i ∧ ∀ n, i < n → n ≤ xs.length → ∀ S2, wk L ((xs.take n).map some) 0 (fun _ => none) none ≠ (none, S2)) := by
  have hil := (List.getElem?_eq_some_iff.mp hx).1
  have all (n : Nat) (hn : i < n) : ∃ r, wk L ((xs.take n).map some) 0 (fun _ => none) none = wk L (some x :: r) i S (lastA (xs.take i) none) := by
    obtain ⟨j, rfl⟩ : ∃ j, n = i + 1 + j := ⟨n - (i + 1), by omega⟩
    have e : xs.take (i + 1 + j) = xs.take i ++ x :: ((xs.drop (i + 1)).take j) := by
      rw [List.take_add, list_take' hx, List.append_assoc]; rfl
    refine ⟨((xs.drop (i + 1)).take j).map some, ?_⟩
    rw [e, List.map_append, wk_app _ hk, List.length_take, Nat.min_eq_left (by omega), Nat.zero_add]
    rfl
  by_cases c : late? (lastA (xs.take i) none) x.arr = true
  · refine .inr ⟨by unfold good?; rw [c]; rfl, ?_, fun n h1 _ S2 e => ?_⟩
    · obtain ⟨r, e⟩ := all xs.length hil
      rw [List.take_length] at e
      rw [e, wk_late c]
    · obtain ⟨r, e1⟩ := all n h1
      rw [e1, wk_late c] at e
      cases e
  · have c : late? (lastA (xs.take i) none) x.arr = false := Bool.eq_false_iff.mpr c
    cases hb : behind L x (S x.id) with
    | none =>
      refine .inr ⟨by unfold good?; rw [c, hb]; rfl, ?_, fun n h1 _ S2 e => ?_⟩
      · obtain ⟨r, e⟩ := all xs.length hil
        rw [List.take_length] at e
        rw [e, wk_bad c hb]
      · obtain ⟨r, e1⟩ := all n h1
        rw [e1, wk_bad c hb] at e
        cases e
    | some y =>
      refine .inl ⟨by unfold good?; rw [c, hb]; rfl, y, rfl, ?_⟩
      rw [list_take' hx, List.map_append, wk_app _ hk]
      show wk L [some x] _ S _ = _
      rw [wk_go c hb]
      rfl
def spBad : Sp := fun vs H Q _ => ∃ (dl a : Addr) (L : List (Str × Int)) (us : List V) (xs : List Ent) (n : Nat), vs = [.ref dl, .ref a, .int n] ∧ H dl = some (.dK (LK L)) ∧ H a = some (.lst us) ∧ Ents H us xs ∧ xs.length ≤ 450 ∧ n ≤ xs.length ∧ (∃ S0, wk L ((xs.take n).map some) 0 (fun _ => none) none = (none, S0)) ∧ RowsIn L xs ∧
  ∀ H', Same H H' → Q (numV (wk L (xs.map some) 0 (fun _ => none) none).1) H'
section
variable {P : Program} {w : World} {K : PySem.W.Frag} {mg : Str → Option Value} {base : Heap}
structure G7d (P : Program) (w : World) (K : PySem.W.Frag) (mg : Str → Option Value) (base : Heap) : Prop where
  law_put : Cal P w K mg base CX0 "_law_put" 1 ["_law_states_here", "_law_entry_here"] spPutK
  law_is_good : Cal P w K mg base CX0 "_law_is_good" 1 ["_law_lates_here", "_law_states_here", "_law_last", "_law_entry_here"] spGood
abbrev s_l_bad_from : Stmt := topS 53
theorem sc_l_bad_from : FnScope ["_law_lates_here", "_law_entries_here", "_law_begin_here", "_law_states_here", "_law_last", "_law_at"] ["_law_lates_here", "_law_entries_here", "_law_begin_here"] (defScope s_l_bad_from) := ⟨rfl, rfl, rfl, by decide +kernel, rfl, by decide +kernel, by decide +kernel⟩
theorem ok_bad {f : Addr} {fd : FuncData} (F : Fun K "_law_bad_from" "_law_bad_from" s_l_bad_from f fd) (B : Blt mg) (G : G7d P w K mg base) : FnOk P w K mg base CX0 2 f fd ["_law_lates_here", "_law_entries_here", "_law_begin_here"] spBad := by
  refine F.ok sc_l_bad_from (fun vs H Q E h => ?_) (fun cdv A outer s H vs Q E hr h => ?_)
  · obtain ⟨dl, a, L, us, xs, n, rfl, _⟩ := h
    rfl
  · obtain ⟨dl, a, L, us, xs, n, rfl, hdl, ha, hE, h9, hn, ⟨S0, hw0⟩, hR, q⟩ := h
    have hu := hu_of hr
    refine ⟨_, (pss_cons (ps_set (i := 3) sc_l_bad_from.nd rfl (Or.inl rfl) pe_dnewK)
    (pss_cons (ps_set (i := 4) sc_l_bad_from.nd rfl (Or.inl rfl) pe_non)
    (pss_cons (ps_for PassesOwn.never rfl (pi_range1 (by rfl) B.range (pa_cons (pe_callB call_len_seq (by rfl) B.len (by decide +kernel) (pa_cons (pv 1) pa_nil)) pa_nil)) (pg_name (i := 5) sc_l_bad_from.nd rfl (Or.inl rfl))
      (pss_cons (ps_if (PW.pt (pw_and (pt_cmpR op_ge (pv 5) (pv 2) (nomark _)) (pw_and1 (pt_not (pt_val (pe_cal G.law_is_good (hr.mono (by decide)) pass0 (pa_cons (pv 0) (pa_cons (pv 3) (pa_cons (pv 4) (pa_cons (pe_ix ix_list (pv 1) (pv 5) (fun _ _ => rfl)) pa_nil))))))))))
        (pss_one (ps_ret (pv 5)))
        pss_nil)
      (pss_cons (ps_expr (pe_cal G.law_put (hr.mono (by decide)) pass0 (pa_cons (pv 3) (pa_cons (pe_ix ix_list (pv 1) (pv 5) (fun _ _ => rfl)) pa_nil))))
      (pss_one (ps_set (i := 4) sc_l_bad_from.nd rfl (Or.inl rfl) (pe_ix ix_tup (pe_ix ix_list (pv 1) (pv 5) (fun _ _ => rfl)) (pe_op op_sub (pe_callB call_len_seq (by rfl) B.len (by decide +kernel) (pa_cons (pe_ix ix_list (pv 1) (pv 5) (fun _ _ => rfl)) pa_nil)) pe_int) (fun _ _ => rfl)))))))
    (pss_one (ps_ret pe_non))))), ?_⟩
    intro d hd
    have s1 := sameAt (Same.refl H) hd (o := .dK [])
    have hEl := hE.1
    refine ⟨_, rfl, a, _, rfl, .inl (SqL.of (s1 _ _ ha)), _, rfl, (by omega), (by omega), for_range (n := us.length) (fun i σ H1 => ∃ Si, (∃ b, σ = [some (.ref dl), some (.ref a), some (.int n), some (.ref d), some (LastV (lastA (xs.take i) none)), b]) ∧ wk L ((xs.take i).map some) 0 (fun _ => none) none = (none, Si) ∧ StIn L Si ∧ StK H1 d Si i ∧ Same H H1) ?_ ?_ ?_⟩
    · exact ⟨fun _ => none, ⟨_, rfl⟩, rfl, (fun _ _ _ _ _ h => nomatch h), ⟨[], upd_same, Nat.zero_le _, ⟨(fun _ h => nomatch h), .nil⟩, fun id => True.intro⟩, s1⟩
    · rintro i σ H1 hi ⟨Si, ⟨b, rfl⟩, hw, hSt, hst, sH⟩
      rw [show ((0 : Int) + (i : Int)) = i from Int.zero_add _]
      obtain ⟨x, hx⟩ : ∃ x, xs[i]? = some x := ⟨_, List.getElem?_eq_getElem (by omega)⟩
      obtain ⟨v, hv⟩ : ∃ v, us[i]? = some v := ⟨_, List.getElem?_eq_getElem hi⟩
      obtain ⟨e, rfl, he, hok⟩ := hE.2 i v x hv hx
      have hu1 := hv
      refine ⟨_, rfl, _, rfl, _, _, rfl, rfl, _, rfl, ?_⟩
      refine ite2 (fun c => ?_) (fun c => ?_)
      · refine ⟨_, rfl, _, rfl, _, rfl, _, rfl, _, rfl, _, _, _, V.ref e, rfl, rfl, SqL.of (sH _ _ ha), atI_nat hu1, dl, d, e, L, Si, i, lastA (xs.take i) none, x, rfl, sH _ _ hdl, hst, sH _ _ he, ⟨hSt, hR x (List.mem_of_getElem? hx)⟩, _, rfl, ?_⟩
        rcases good_step hx hw with ⟨hg, y, hb, hw1⟩ | ⟨hg, hr1, _⟩
        · rw [hg]
          refine iteF ?_
          have hHa := ha
          refine ⟨_, rfl, _, rfl, _, rfl, _, _, _, V.ref e, rfl, rfl, SqL.of (sH _ _ ha), atI_nat hu1, d, e, L, Si, i, x, y, rfl, hst, (by omega), sH _ _ he, hb, fun H2 st2 k2 => ?_⟩
          have sd : Same H H2 := fun c o hc => k2 c o (sH _ _ hc) (fun z => by rw [z, hd] at hc; cases hc)
          refine ⟨_, rfl, _, rfl, _, _, _, V.ref e, rfl, rfl, SqL.of (sd _ _ ha), atI_nat hu1, _, rfl, _, rfl, _, _, _, V.ref e, rfl, rfl, SqL.of (sd _ _ ha), atI_nat hu1, e, _, rfl, .inr (SqT.of (sd _ _ he)), _, _, rfl, rfl, _, _, _, V.int x.arr, rfl, rfl, SqT.of (sd _ _ he), (by cases x <;> rfl), ?_⟩
          exact ⟨setK Si x.id y, ⟨_, by rw [list_take' hx, lastA_snoc]; rfl⟩, hw1, hSt.put hb, st2, sd⟩
        · rw [hg]
          refine iteT ⟨_, rfl, ?_⟩
          have := q H1 sH
          rw [hr1] at this
          exact this
      · have c : ¬ (n : Int) ≤ i := fun z => c (decide_eq_true z)
        rcases good_step hx hw with ⟨hg, y, hb, hw1⟩ | ⟨_, _, h3⟩
        · skip
          have hHa := ha
          refine ⟨_, rfl, _, rfl, _, rfl, _, _, _, V.ref e, rfl, rfl, SqL.of (sH _ _ ha), atI_nat hu1, d, e, L, Si, i, x, y, rfl, hst, (by omega), sH _ _ he, hb, fun H2 st2 k2 => ?_⟩
          have sd : Same H H2 := fun c o hc => k2 c o (sH _ _ hc) (fun z => by rw [z, hd] at hc; cases hc)
          refine ⟨_, rfl, _, rfl, _, _, _, V.ref e, rfl, rfl, SqL.of (sd _ _ ha), atI_nat hu1, _, rfl, _, rfl, _, _, _, V.ref e, rfl, rfl, SqL.of (sd _ _ ha), atI_nat hu1, e, _, rfl, .inr (SqT.of (sd _ _ he)), _, _, rfl, rfl, _, _, _, V.int x.arr, rfl, rfl, SqT.of (sd _ _ he), (by cases x <;> rfl), ?_⟩
          exact ⟨setK Si x.id y, ⟨_, by rw [list_take' hx, lastA_snoc]; rfl⟩, hw1, hSt.put hb, st2, sd⟩
        · exact absurd hw0 (h3 n (by omega) hn S0)
    · rintro σ H1 ⟨Si, ⟨b, rfl⟩, hw, hSt, hst, sH⟩
      have := q H1 sH
      rw [hEl, List.take_length] at hw
      rw [hw] at this
      exact this
end
end Ash

set_option Elab.async false
set_option linter.all false
set_option maxRecDepth 100000
set_option maxHeartbeats 4000000
namespace Ash
open PySem PySem.Spec PyProof.Rows L2
open C8 (pss_cut)
/-! ### drafts -/
/-- a draft: since which close, the list of its entries -/
def dftF (n : Int) (l : Addr) : List (Str × V) := [("begun", .int n), ("entries", .ref l)]
structure Cd (K : PySem.W.Frag) (mg : Str → Option Value) (CD : Addr) : Prop where
  cl : Cls K CD
  nB : NoAttr K CD "begun"
  nE : NoAttr K CD "entries"
  c : mg "Draft" = some (.ref CD)
def spDraftInit (CD : Addr) : Sp := fun vs H Q _ => ∃ (o dx : Addr) (n : Int), vs = [.ref o, .int n] ∧ H o = some (.ins CD dx []) ∧
  ∀ l H', H l = none → H' o = some (.ins CD dx (dftF n l)) → H' l = some (.lst []) → (∀ c x, H c = some x → c ≠ o → H' c = some x) → Q .non H'
section
variable {P : Program} {w : World} {K : PySem.W.Frag} {mg : Str → Option Value} {base : Heap}
abbrev s_Draft_init : Stmt := inClass (topS 38) 0
theorem sc_Draft_init : FnScope ["self", "begun"] ["self", "begun"] (defScope s_Draft_init) := ⟨rfl, rfl, rfl, by decide +kernel, rfl, by decide +kernel, by decide +kernel⟩
theorem ok_draft_init {f CD : Addr} {fd : FuncData} (F : Fun K "__init__" "Draft.__init__" s_Draft_init f fd) (T : Cd K mg CD) : FnOk P w K mg base CX0 1 f fd ["self", "begun"] (spDraftInit CD) := by
  refine F.ok sc_Draft_init (fun vs H Q E h => ?_) (fun cdv A outer s H vs Q E hr h => ?_)
  · obtain ⟨o, dx, n, rfl, _⟩ := h
    rfl
  · obtain ⟨o, dx, n, rfl, ho, q⟩ := h
    have hu := hu_of hr
    refine ⟨_, (pss_cons (ps_fld (pv 0) (pv 1) rfl)
    (pss_one (ps_fld (pv 0) (pe_lst pa_nil) rfl))), ?_⟩
    refine ⟨_, rfl, _, rfl, o, CD, dx, [], rfl, ho, T.cl, T.nB, (by show 0 < 1000; decide), ?_⟩
    refine ⟨(by show 0 ≤ sizeLine; decide), fun l hl => ?_⟩
    have hlo : l ≠ o := fun z => by rw [z, upd_same] at hl; cases hl
    have hl0 : H l = none := by rw [upd_ne hlo] at hl; exact hl
    refine ⟨_, rfl, o, CD, dx, _, rfl, (by rw [upd_ne (Ne.symm hlo)]; exact upd_same), T.cl, T.nE, (by show 1 < 1000; decide), ?_⟩
    refine q l _ hl0 upd_same (by rw [upd_ne hlo]; exact upd_same) fun c x hc hn => ?_
    have hcl : c ≠ l := fun z => by rw [z, hl0] at hc; cases hc
    rw [upd_ne hn, upd_ne hcl, upd_ne hn]
    exact hc
end
end Ash

set_option Elab.async false
set_option linter.all false
set_option maxRecDepth 100000
set_option maxHeartbeats 4000000
namespace Ash
open PySem PySem.Spec PyProof.Rows L2
open C8 (pss_cut)
/-! ### offices -/
def ofF (b j dd pa : Addr) (cl : Int) (cb : Addr) : List (Str × V) := [("_book", .ref b), ("journal", .ref j), ("_drafts", .ref dd), ("_past", .ref pa), ("_closes", .int cl), ("_closed_by", .ref cb)]
/-- the drafts by their writers -/
def DK (ds : List (Str × Addr)) : List (Key × V) := ds.map fun x => (Sum.inr x.1, V.ref x.2)
theorem DK_val : ∀ (ds : List (Str × Addr)) (z : Str), valV (DK ds) (Sum.inr z : Key) = (ds.lookup z).map V.ref
  | [], z => rfl
  | a :: ds, z => by
    have ih := DK_val ds z
    by_cases h : a.1 = z
    · have h' : (z == a.1) = true := by simpa using h.symm
      show valV ((Sum.inr a.1, V.ref a.2) :: DK ds) (Sum.inr z : Key) = _
      rw [valV_pos (by rw [h])]
      obtain ⟨a1, a2⟩ := a
      simp only [List.lookup, h', Option.map_some]
    · have h' : (z == a.1) = false := by simpa using fun q => h q.symm
      show valV ((Sum.inr a.1, V.ref a.2) :: DK ds) (Sum.inr z : Key) = _
      rw [valV_neg (fun q => h (Sum.inr.inj q)), ih]
      obtain ⟨a1, a2⟩ := a
      simp only [List.lookup, h']
theorem par_writer : PySem.BadX.Par "writer" := ⟨by decide, by decide +kernel, by decide +kernel, by decide +kernel, by decide +kernel⟩
structure Co (K : PySem.W.Frag) (mg : Str → Option Value) (CO : Addr) : Prop where
  cl : Cls K CO
  nB : NoAttr K CO "_book"
  nJ : NoAttr K CO "journal"
  nD : NoAttr K CO "_drafts"
  nP : NoAttr K CO "_past"
  nC : NoAttr K CO "_closes"
  nY : NoAttr K CO "_closed_by"
  c : mg "Office" = some (.ref CO)
def spDraftOf (CO CI : Addr) : Sp := fun vs H Q E => ∃ (o dx b j dd pa cb : Addr) (cl : Int) (ds : List (Str × Addr)) (z : Str), vs = [.ref o, .str z] ∧ H o = some (.ins CO dx (ofF b j dd pa cl cb)) ∧ H dd = some (.dK (DK ds)) ∧ IsNm z ∧
  ((∃ a, ds.lookup z = some a ∧ ∀ H', Same H H' → Q (.ref a) H') ∨ (ds.lookup z = none ∧ ∀ d H', Same H H' → Xd H' d "writer" (.str z) → E (.ref CI) (some d) H'))
section
variable {P : Program} {w : World} {K : PySem.W.Frag} {mg : Str → Option Value} {base : Heap}
abbrev s_Officedraft_of : Stmt := inClass (topS 39) 10
theorem sc_Officedraft_of : FnScope ["self", "writer"] ["self", "writer"] (defScope s_Officedraft_of) := ⟨rfl, rfl, rfl, by decide +kernel, rfl, by decide +kernel, by decide +kernel⟩
theorem ok_draft_of {f CO CI fI : Addr} {fd : FuncData} (F : Fun K "_draft_of" "Office._draft_of" s_Officedraft_of f fd) (T : Co K mg CO) (TI : PySem.BadX.Txt P K mg "writer" "writer" CI fI) (c_Idle : mg "Idle" = some (.ref CI)) (G : K4 P w K mg base) : FnOk P w K mg base (L2.CX P w) 2 f fd ["self", "writer"] (spDraftOf CO CI) := by
  refine F.okX sc_Officedraft_of (fun vs H Q E h => ?_) (fun cdv A outer s H vs Q E hr h => ?_)
  · obtain ⟨o, dx, b, j, dd, pa, cb, cl, ds, z, rfl, _⟩ := h
    rfl
  · obtain ⟨o, dx, b, j, dd, pa, cb, cl, ds, z, rfl, ho, hdd, hz, hv⟩ := h
    have hu := hu_of hr
    refine ⟨_, (pss_cons (ps_if (PW.pt (pw_or (pt_not (pt_val (pe_cal G.is_name (hr.mono (by decide)) pass0 (pa_cons (pv 1) pa_nil)))) (pw_or1 (pt_cmp (pc_dnotin hu (pv 1) (pe_fld (pv 0) rfl)) rfl))))
      (pss_one (ps_raiseB rfl TI par_writer c_Idle (hr.mono (Nat.zero_le _)) (takes_of rfl rfl rfl rfl) (pa_cons (pv 1) pa_nil) (by rfl)))
      pss_nil)
    (pss_one (ps_ret (pe_dget hu (pe_fld (pv 0) rfl) (pv 1) (fun _ _ => rfl))))), ?_⟩
    refine ⟨_, rfl, _, rfl, .inl ⟨z, rfl, (by have := hz.2.1; rw [sizeLine_eq]; omega), fun H1 s1 => ⟨_, rfl, ?_⟩⟩⟩
    rw [(nmB_iff z).mpr hz]
    have ho1 := s1 _ _ ho
    have hg := DGet.k (k := Sum.inr z) (s1 _ _ hdd)
    rw [DK_val] at hg
    rcases hv with ⟨a, ha, q⟩ | ⟨ha, q⟩
    · rw [ha] at hg
      refine iteF ⟨_, rfl, _, rfl, o, CO, dx, _, _, rfl, ho1, T.cl, T.nD, rfl, dd, _, rfl, hg, _, rfl, iteF ?_⟩
      exact ⟨_, rfl, o, CO, dx, _, _, rfl, ho1, T.cl, T.nD, rfl, _, rfl, dd, _, rfl, hg, q _ s1⟩
    · rw [ha] at hg
      refine iteF ⟨_, rfl, _, rfl, o, CO, dx, _, _, rfl, ho1, T.cl, T.nD, rfl, dd, _, rfl, hg, _, rfl, iteT ?_⟩
      exact ⟨_, rfl, _, rfl, fun d hd => q d _ (s1.trans (sameAt (Same.refl H1) hd)) upd_same⟩
end
end Ash

set_option Elab.async false
set_option linter.all false
set_option maxRecDepth 100000
set_option maxHeartbeats 4000000
namespace L2
open PySem PySem.Spec PyProof.Rows
section
variable {X : Cx} {C fI : Addr} {par fl : Str}
/-- n.f in the suite that caught an own error with the one field fl -/
def tByB (fl : Str) (C a : Addr) (cls : Value) (d : Option Addr) (te : TE) : TE := fun σ H Q => te σ H fun x H1 => x = .ref a ∧ cls = .ref C ∧ ∃ (dd : Addr) (v : V), d = some dd ∧ H1 dd = some (.xd [(fl, v)]) ∧ Q v H1
theorem pe_byB {a : Addr} {oe : Obj} {cls : Value} {d : Option Addr} {pn : List (Addr × Obj)} {e : Expr} {te : TE} {pos : Pos} (T : PySem.BadX.Txt X.prog X.K X.mg par fl C fI) (hz : Zc cls d oe) (hf : ∃ vs, oe.data = .fields vs) (he : PE (X.suite a ((a, oe) :: pn)) e te)
    (hb : attributeBase e fl X.env (eval e X.env) = eval e X.env := by rfl) :
    PE (X.suite a ((a, oe) :: pn)) (.Attribute e fl pos) (tByB fl C a cls d te) := by
  refine ⟨fun pins s σ H Q I h => ?_⟩
  refine attr_of hb (thn (he.run pins s σ H _ I h) fun u s1 hh => ?_)
  obtain ⟨x, H1, I1, rx, ex, ec, dd, v, ed, ea, q⟩ := hh
  subst ex
  obtain rfl : u = Value.ref a := rx
  subst ec
  subst ed
  obtain ⟨ha, _⟩ := I1.pin (a, oe) (List.mem_append_left _ List.mem_cons_self)
  obtain ⟨vs, hd⟩ := hf
  have hx : ObjOk X.prog X.w H1 s1.heap dd (.xd [(fl, v)]) := I1.hok dd _ ea
  obtain ⟨mA, hns, hr⟩ := hx
  obtain ⟨od, ho, hl⟩ := lookIn_ns hns
  have l : List.lookup fl [(fl, v)] = some v := by simp [List.lookup]
  obtain ⟨u, hu, ru⟩ := RelO.some_of (v := v) (o := mA fl) (by rw [← l]; exact hr fl)
  have J : PySem.W.InstAt s1.heap a oe C (some od) := ⟨ha, hz.1, by unfold PySem.W.notCls; rw [hd] <;> rfl, by rw [hz.2]; exact ho⟩
  exact HandSPX.exc_get I1.kIn J T.ga T.gg T.exC (PySem.W.findObj_own T.hdC T.noN rfl (by rw [hl, hu])) (handed_of ru) ⟨v, H1, I1.tok _, ru, q⟩
end
end L2
namespace Ash
open PySem PySem.Spec PyProof.Rows L2
open C8 (pss_cut)
/-- what is wanted of an exception at any n slots -/
def WEn (n : Nat) (W : WX) : XK := fun cls d H => ∀ σ : L2.St, σ.length = n → W cls d σ H
theorem passN {X : Cx} {W : WX} {n : Nat} (hn : X.N.length = n) (tk : Takes X W) : Passes (L2.CX X.prog X.w) X (WEn n W) := fun _ σ _ _ e s' I c => tk e s' (XE.of_call I (fun cls d H' h => h σ (I.len.trans hn)) c)
section
variable {X : Cx} {CX : CXT} {k : Nat} {ps : List Str} {sp : Sp} {E : XK} {o e : Expr} {es : List Expr} {ta : TE} {t : TA} {C : Addr} {m : Str} {apos pos : Pos}
theorem pe_met {pl : Sem Bool} (c : Cls X.K C) (G : Met X.prog X.w X.K X.mg X.base CX C m k ps sp) (hr : Room k X.A) (hx : Passes CX X E) (ho : PE X o ta) (ha : PA X (e :: es) t) 
    (he : starEach (e :: es) X.env = (false, eval e X.env) :: starEach es X.env := by rfl) (hpl : (backTo pos (starEach es X.env)).any (·.1) = false := by rfl)
    (ht : eval (.Call (.Attribute o m apos) (e :: es) [] pos) X.env = (do
      let ov ← eval o X.env
      standAt apos.atName
      let (f, first) ← holding [ov] (getMethod ov m pl)
      callWith pos f first (backTo pos (starEach (e :: es) X.env)) (backToKw pos (keywordEach [] X.env))) := by rfl) :
    PE X (.Call (.Attribute o m apos) (e :: es) [] pos) (tMeth C m sp [] E ta t) := by
  obtain ⟨f, fd, hm, hb, F⟩ := G.ex
  exact pe_meth ho c hm F hr hb .nil hx ha he hpl ht
end
section
variable {X : Cx} {CX : CXT} {k : Nat} {ps : List Str} {sp : Sp} {E : L2.St → XK} {o e : Expr} {es : List Expr} {ta : TE} {t : TA} {C : Addr} {m : Str} {apos pos : Pos}
/-- o.m(e, ..), what is raised being wished for at the caller's slots -/
def tMethS (C : Addr) (m : Str) (sp : Sp) (E : L2.St → XK) (ta : TE) (t : TA) : TE := fun σ H Q => ta σ H fun x H1 => ∃ a dx fs, x = .ref a ∧ H1 a = some (.ins C dx fs) ∧ fs.lookup m = none ∧ t σ H1 fun vs H2 => sp (x :: (vs ++ [])) H2 Q (E σ)
theorem pe_metS {pl : Sem Bool} (c : Cls X.K C) (G : Met X.prog X.w X.K X.mg X.base CX C m k ps sp) (hr : Room k X.A) (hx : ∀ σ, PassesAt CX X σ (E σ)) (ho : PE X o ta) (ha : PA X (e :: es) t) 
    (he : starEach (e :: es) X.env = (false, eval e X.env) :: starEach es X.env := by rfl) (hpl : (backTo pos (starEach es X.env)).any (·.1) = false := by rfl)
    (ht : eval (.Call (.Attribute o m apos) (e :: es) [] pos) X.env = (do
      let ov ← eval o X.env
      standAt apos.atName
      let (f, first) ← holding [ov] (getMethod ov m pl)
      callWith pos f first (backTo pos (starEach (e :: es) X.env)) (backToKw pos (keywordEach [] X.env))) := by rfl) :
    PE X (.Call (.Attribute o m apos) (e :: es) [] pos) (tMethS C m sp E ta t) := by
  obtain ⟨f, fd, hm, hb, F⟩ := G.ex
  refine ⟨fun pins s σ H Q I h => PySem.W.methodCall_KW (pl := pl) (thn (ho.run pins s σ H _ I h) fun u s1 ⟨x, H1, I1, rx, a, dx, fs, ex, ea, l, q⟩ => ?_) ht⟩
  cases ex
  cases (show u = Value.ref a from rx)
  refine getmeth_ok I1 ea c hm l (PySem.W.callWith_K (first := [.ref a]) (h₀ := X.base) I.ok.mod.kin hm.kp (thn (ha.run pos pins s1 σ H1 _ I1 q) fun us s2 ⟨vs, H2, I2, r, q2⟩ => ⟨I2.kIn, ?_⟩) he hpl)
  exact run_fnSD (us := .ref a :: us) (vs := .ref a :: vs) F hr hb .nil (hx σ) I2 (.cons rfl r) q2
theorem pe_metS0 {pl : Sem Bool} (c : Cls X.K C) (G : Met X.prog X.w X.K X.mg X.base CX C m k ps sp) (hr : Room k X.A) (hx : ∀ σ, PassesAt CX X σ (E σ)) (ho : PE X o ta)
    (ht : eval (.Call (.Attribute o m apos) [] [] pos) X.env = (do
      let ov ← eval o X.env
      standAt apos.atName
      let (f, first) ← holding [ov] (getMethod ov m pl)
      callWith pos f first (backTo pos (starEach [] X.env)) (backToKw pos (keywordEach [] X.env))) := by rfl) :
    PE X (.Call (.Attribute o m apos) [] [] pos) (tMethS C m sp E ta tNil) := by
  obtain ⟨f, fd, hm, hb, F⟩ := G.ex
  refine ⟨fun pins s σ H Q I h => PySem.W.methodCall_KW (pl := pl) (thn (ho.run pins s σ H _ I h) fun u s1 ⟨x, H1, I1, rx, a, dx, fs, ex, ea, l, q⟩ => ?_) ht⟩
  cases ex
  cases (show u = Value.ref a from rx)
  exact getmeth_ok I1 ea c hm l (PySem.W.callWith_K0 (first := [.ref a]) I1.kIn hm.kp (run_fnSD (us := [.ref a]) (vs := [.ref a]) F hr hb .nil (hx σ) I1 (.cons rfl .nil) q))
end
section
variable {X : Cx} {CX : CXT} {k : Nat} {ps : List Str} {sp : Sp} {E : XK} {o : Expr} {ta : TE} {C : Addr} {m : Str} {apos pos : Pos}
theorem pe_met0 {pl : Sem Bool} (c : Cls X.K C) (G : Met X.prog X.w X.K X.mg X.base CX C m k ps sp) (hr : Room k X.A) (hx : Passes CX X E) (ho : PE X o ta) 
    (ht : eval (.Call (.Attribute o m apos) [] [] pos) X.env = (do
      let ov ← eval o X.env
      standAt apos.atName
      let (f, first) ← holding [ov] (getMethod ov m pl)
      callWith pos f first (backTo pos (starEach [] X.env)) (backToKw pos (keywordEach [] X.env))) := by rfl) :
    PE X (.Call (.Attribute o m apos) [] [] pos) (tMeth C m sp [] E ta tNil) := by
  obtain ⟨f, fd, hm, hb, F⟩ := G.ex
  exact pe_meth0 ho c hm F hr hb .nil hx ht
end
section
variable {X : Cx} {CX : CXT} {k : Nat} {ps : List Str} {sp : Sp} {E : XK} {x : Str} {p pos : Pos} {e : Expr} {es : List Expr} {t : TA}
structure MakD (P : Program) (w : World) (K : PySem.W.Frag) (mg : Str → Option Value) (base : Heap) (CX : CXT) (x : Str) (C : Addr) (k : Nat) (ps : List Str) (dv : V) (sp : Sp) : Prop where
  ex : ∃ f fd u, Mk K C f ∧ mg x = some (.ref C) ∧ Binds K fd ps [u] ∧ RelV dv u ∧ FnOk P w K mg base CX k f fd ps sp
section
variable {X : Cx} {CX : CXT} {k j : Nat} {ps : List Str} {sp : Sp} {E : XK} {x : Str} {p pos : Pos} {e : Expr} {es : List Expr} {t : TA}
theorem pe_makD {C : Addr} {dv : V} (G : MakD X.prog X.w X.K X.mg X.base CX x C k ps dv sp) (hr : Room (k + 1) X.A) (hx : Passes CX X E) (ha : PA X (e :: es) t) (hg : Gl X x := by rfl)
    (hdb : (x == ("__debug__" : Str)) = false := by decide) (he : starEach (e :: es) X.env = (false, eval e X.env) :: starEach es X.env := by rfl) (hpl : (backTo pos (starEach es X.env)).any (·.1) = false := by rfl) :
    PE X (.Call (.Name x p) (e :: es) [] pos) (tMake C sp [dv] E t) := by
  obtain ⟨f, fd, u, M, hm, hb, hv, F⟩ := G.ex
  exact pe_make M F hr hg hm hb (.cons hv .nil) hx ha hdb he hpl
end
end
end Ash

set_option Elab.async false
set_option linter.all false
set_option maxRecDepth 100000
set_option maxHeartbeats 4000000
namespace RZ
open PySem PySem.Spec PyProof.Rows L2
open PySem.Sem (wp)
section
variable {prog : Program} {w : World} {A : Around} {E : Value → Shared → Prop} {s : Shared}
theorem zipM_next_item {z TI TO i1 i2 l1 l2 : Addr} {k1 k2 : Nat} {xs ys : Array Value} {x y a b : Value} {Q : Value → Shared → Prop} (D : ZipApart z TI TO i1 i2 l1 l2)
    (hz : IsZip s.heap z TI TO .none) (hTI : IsPair s.heap TI (.ref i1) (.ref i2)) (hTO : IsPair s.heap TO a b)
    (h1 : s.heap.IsTupleIter i1 l1 k1) (h2 : s.heap.IsListIter i2 l2 k2) (hl1 : s.heap.IsTuple l1 xs) (hl2 : s.heap.IsList l2 ys) (hx : xs[k1]? = some x) (hy : ys[k2]? = some y)
    (hQ : ∀ h', IsZip h' z TI TO (rawInt s.heap.objs.size) → IsPair h' TO x y → h'.IsTupleIter i1 l1 (k1 + 1) → h'.IsListIter i2 l2 (k2 + 1) → IsPair h' s.heap.objs.size x y → h'.objs.size = s.heap.objs.size + 1 →
      (∀ c o, c ≠ z → c ≠ TO → c ≠ i1 → c ≠ i2 → s.heap.get? c = some o → h'.get? c = some o) → Q (.ref s.heap.objs.size) { s with heap := h' }) :
    wpAny (model prog w) A (Builtin.«zip.__next__» ⟨[.ref z], []⟩) (fun fin s' => ∃ v, fin = .done (.ret v) ∧ Q v s') E s := by
  show wpAny _ _ (field (.ref z) 2 >>= _) _ _ _
  refine wpAny_bind (wpAny_field hz rfl (x := .bool false) rfl ?_)
  show wpAny _ _ (field (.ref z) 3 >>= _) _ _ _
  refine wpAny_bind (wpAny_field hz rfl (x := .ref TI) rfl ?_)
  refine wpAny_bind (wpAny_seqItems hTI rfl ?_)
  show wpAny _ _ (Builtin.SmallTypes.ownedTupleIsFree (.ref z) >>= _) _ _ _
  refine wpAny_bind ?_
  unfold Builtin.SmallTypes.ownedTupleIsFree
  refine wpAny_bind (wpAny_field hz rfl (x := .none) rfl (wpAny_pure ?_))
  simp only [if_true]
  refine wpAny_bind (wpAny_rule ?_)
  refine wpAny_bind (wpAny_field hz rfl (x := .ref TO) rfl ?_)
  refine wpAny_bind (wpAny_setField_rec hz (by simp) fun h₁ hz₁ hs₁ => ?_)
  replace hz₁ : IsZip h₁ z TI TO .ellipsis := hz₁
  refine wpAny_bind ?_
  simp only [List.zipIdx_cons, List.zipIdx_nil, List.forIn_cons, List.forIn_nil]

  refine wpAny_bind (wpAny_bind (wpAny_onRaise ?_))
  show wpAny _ _ (Builtin.SmallTypes.nextOf (.ref i1) >>= _) _ _ _
  refine wpAny_bind (nextOf_tuple_item (h1.extBut hs₁.extBut D.i1z) (hl1.extBut hs₁.extBut D.l1z) hx fun h₂ h1₂ hs₂ => wpAny_pure ?_)
  have hTO₂ : IsPair h₂ TO a b := hs₂.extBut _ _ D.TOi1 (hs₁.extBut _ _ D.TOz hTO)
  refine wpAny_bind (wpAny_seqItems hTO₂ rfl ?_)
  refine wpAny_bind (wpAny_updateSeq_pair hTO₂ fun h₃ hTO₃ hs₃ => ?_)
  replace hTO₃ : IsPair h₃ TO x b := hTO₃
  refine wpAny_bind (wpAny_letGo (wpAny_pure ?_))

  refine wpAny_bind (wpAny_bind (wpAny_onRaise ?_))
  show wpAny _ _ (Builtin.SmallTypes.nextOf (.ref i2) >>= _) _ _ _
  refine wpAny_bind (wpAny_nextOf_list_item (((h2.extBut hs₁.extBut D.i2z).extBut hs₂.extBut D.i12.symm).extBut hs₃.extBut D.TOi2.symm)
    (((hl2.extBut hs₁.extBut D.l2z).extBut hs₂.extBut D.l2i1).extBut hs₃.extBut D.l2TO) hy fun h₄ h2₄ hs₄ => wpAny_pure ?_)
  have hTO₄ : IsPair h₄ TO x b := hs₄.extBut _ _ D.TOi2 hTO₃
  refine wpAny_bind (wpAny_seqItems hTO₄ rfl ?_)
  refine wpAny_bind (wpAny_updateSeq_pair hTO₄ fun h₅ hTO₅ hs₅ => ?_)
  replace hTO₅ : IsPair h₅ TO x y := hTO₅
  refine wpAny_bind (wpAny_letGo (wpAny_pure (wpAny_pure ?_)))

  refine wpAny_bind (wpAny_seqItems hTO₅ rfl ?_)
  refine wpAny_bind (wpAny_newTuple ?_)
  have hsz : h₅.objs.size = s.heap.objs.size := by rw [hs₅.1, hs₄.1, hs₃.1, hs₂.1, hs₁.1]
  have hz₅ : IsZip h₅ z TI TO .ellipsis := hs₅.extBut _ _ D.TOz.symm (hs₄.extBut _ _ D.i2z.symm (hs₃.extBut _ _ D.TOz.symm (hs₂.extBut _ _ D.i1z.symm hz₁)))
  have hk₅ : ∀ c o, c ≠ z → c ≠ TO → c ≠ i1 → c ≠ i2 → s.heap.get? c = some o → h₅.get? c = some o := fun c o c1 c2 c3 c4 e =>
    hs₅.extBut _ _ c2 (hs₄.extBut _ _ c4 (hs₃.extBut _ _ c2 (hs₂.extBut _ _ c3 (hs₁.extBut _ _ c1 e))))
  have h1₅ : h₅.IsTupleIter i1 l1 (k1 + 1) := ((h1₂.extBut hs₃.extBut D.TOi1.symm).extBut hs₄.extBut D.i12).extBut hs₅.extBut D.TOi1.symm
  have h2₅ : h₅.IsListIter i2 l2 (k2 + 1) := h2₄.extBut hs₅.extBut D.TOi2.symm
  have hzlt : z < h₅.objs.size := Heap.lt_size hz₅
  have hTOlt : TO < h₅.objs.size := Heap.lt_size hTO₅
  have hi1lt : i1 < h₅.objs.size := by obtain ⟨_, e, _⟩ := h1₅; exact Heap.lt_size e
  have hi2lt : i2 < h₅.objs.size := by obtain ⟨_, e, _⟩ := h2₅; exact Heap.lt_size e
  show wpAny _ _ (Builtin.SmallTypes.ownedTupleHandOut (.ref z) (.ref h₅.objs.size) >>= _) _ _ _
  refine wpAny_bind ?_
  unfold Builtin.SmallTypes.ownedTupleHandOut
  have hz₆ : IsZip (h₅.push { cls := .type "tuple", data := .seq #[x, y] }) z TI TO .ellipsis := Heap.get?_push_of_some _ hz₅
  refine wpAny_bind (wpAny_setField_rec hz₆ (by simp) fun h₇ hz₇ hs₇ => ?_)
  replace hz₇ : IsZip h₇ z TI TO (rawInt h₅.objs.size) := hz₇
  refine wpAny_setField_rec hz₇ (by simp) fun h₈ hz₈ hs₈ => ?_
  replace hz₈ : IsZip h₈ z TI TO (rawInt h₅.objs.size) := hz₈
  have up : ∀ c o, c ≠ z → h₅.get? c = some o → h₈.get? c = some o := fun c o c1 e => hs₈.extBut _ _ c1 (hs₇.extBut _ _ c1 (Heap.get?_push_of_some _ e))
  have hT₈ : IsPair h₈ h₅.objs.size x y := hs₈.extBut _ _ (Nat.ne_of_gt hzlt) (hs₇.extBut _ _ (Nat.ne_of_gt hzlt) (Heap.get?_push_size _ rfl))
  have hz8 : h₈.objs.size = h₅.objs.size + 1 := by rw [hs₈.1, hs₇.1, Heap.size_push]
  rw [hsz] at hz₈ hT₈ hz8
  refine wpAny_pure ⟨_, rfl, ?_⟩
  show Q (.ref h₅.objs.size) _
  rw [hsz]
  exact hQ h₈ hz₈ (up _ _ D.TOz hTO₅) (h1₅.at fun o e => up _ o D.i1z e) (h2₅.at fun o e => up _ o D.i2z e) hT₈ hz8 fun c o c1 c2 c3 c4 e => up c o c1 (hk₅ c o c1 c2 c3 c4 e)

theorem zipM_next_end {z TI TO i1 i2 l1 l2 : Addr} {k1 k2 : Nat} {xs ys : Array Value} {a b : Value} {Q : Fin → Shared → Prop} (hh : A.handled = none) (D : ZipApart z TI TO i1 i2 l1 l2)
    (hz : IsZip s.heap z TI TO .none) (hTI : IsPair s.heap TI (.ref i1) (.ref i2)) (hTO : IsPair s.heap TO a b)
    (h1 : s.heap.IsTupleIter i1 l1 k1) (h2 : s.heap.IsListIter i2 l2 k2) (hl1 : s.heap.IsTuple l1 xs) (hl2 : s.heap.IsList l2 ys) (hend : xs[k1]? = none ∨ ys[k2]? = none)
    (hE : ∀ h' e, (∀ c o, c ≠ z → c ≠ TO → c ≠ i1 → c ≠ i2 → s.heap.get? c = some o → h'.get? c = some o) → (∃ o, h'.get? e = some o ∧ o.cls = .type "StopIteration") → E (.ref e) { s with heap := h' }) :
    wpAny (model prog w) A (Builtin.«zip.__next__» ⟨[.ref z], []⟩) Q E s := by
  show wpAny _ _ (field (.ref z) 2 >>= _) _ _ _
  refine wpAny_bind (wpAny_field hz rfl (x := .bool false) rfl ?_)
  show wpAny _ _ (field (.ref z) 3 >>= _) _ _ _
  refine wpAny_bind (wpAny_field hz rfl (x := .ref TI) rfl ?_)
  refine wpAny_bind (wpAny_seqItems hTI rfl ?_)
  show wpAny _ _ (Builtin.SmallTypes.ownedTupleIsFree (.ref z) >>= _) _ _ _
  refine wpAny_bind ?_
  unfold Builtin.SmallTypes.ownedTupleIsFree
  refine wpAny_bind (wpAny_field hz rfl (x := .none) rfl (wpAny_pure ?_))
  simp only [if_true]
  refine wpAny_bind (wpAny_rule ?_)
  refine wpAny_bind (wpAny_field hz rfl (x := .ref TO) rfl ?_)
  refine wpAny_bind (wpAny_setField_rec hz (by simp) fun h₁ hz₁ hs₁ => ?_)
  replace hz₁ : IsZip h₁ z TI TO .ellipsis := hz₁
  refine wpAny_bind ?_
  simp only [List.zipIdx_cons, List.zipIdx_nil, List.forIn_cons, List.forIn_nil]
  refine wpAny_bind (wpAny_bind (wpAny_onRaise ?_))
  show wpAny _ _ (Builtin.SmallTypes.nextOf (.ref i1) >>= _) _ _ _
  cases hx : xs[k1]? with
  | none =>
    refine wpAny_bind (nextOf_tuple_end hh (h1.extBut hs₁.extBut D.i1z) (hl1.extBut hs₁.extBut D.l1z) hx fun h₂ e hs₂ he => ?_)
    obtain ⟨oe, hoe, hce⟩ := he
    have hz₂ : IsZip h₂ z TI TO .ellipsis := hs₂ _ _ D.i1z.symm hz₁
    have hez : e ≠ z := fun x => by subst x; rw [hz₂] at hoe; cases hoe; simp at hce
    refine wpAny_setField_rec hz₂ (by simp) fun h₃ _ hs₃ => hE h₃ e (fun c o c1 _ c3 _ x => hs₃.extBut _ _ c1 (hs₂ _ _ c3 (hs₁.extBut _ _ c1 x))) ⟨oe, hs₃.extBut _ _ hez hoe, hce⟩
  | some x =>
    have hy : ys[k2]? = none := by rcases hend with h | h; rw [hx] at h; cases h; exact h
    refine wpAny_bind (nextOf_tuple_item (h1.extBut hs₁.extBut D.i1z) (hl1.extBut hs₁.extBut D.l1z) hx fun h₂ h1₂ hs₂ => wpAny_pure ?_)
    have hTO₂ : IsPair h₂ TO a b := hs₂.extBut _ _ D.TOi1 (hs₁.extBut _ _ D.TOz hTO)
    refine wpAny_bind (wpAny_seqItems hTO₂ rfl ?_)
    refine wpAny_bind (wpAny_updateSeq_pair hTO₂ fun h₃ hTO₃ hs₃ => ?_)
    refine wpAny_bind (wpAny_letGo (wpAny_pure ?_))
    refine wpAny_bind (wpAny_bind (wpAny_onRaise ?_))
    show wpAny _ _ (Builtin.SmallTypes.nextOf (.ref i2) >>= _) _ _ _
    refine wpAny_bind (wpAny_nextOf_list_end hh (((h2.extBut hs₁.extBut D.i2z).extBut hs₂.extBut D.i12.symm).extBut hs₃.extBut D.TOi2.symm)
      (((hl2.extBut hs₁.extBut D.l2z).extBut hs₂.extBut D.l2i1).extBut hs₃.extBut D.l2TO) hy fun h₄ e hs₄ he => ?_)
    obtain ⟨oe, hoe, hce⟩ := he
    have hz₄ : IsZip h₄ z TI TO .ellipsis := hs₄ _ _ D.i2z.symm (hs₃.extBut _ _ D.TOz.symm (hs₂.extBut _ _ D.i1z.symm hz₁))
    have hez : e ≠ z := fun x => by subst x; rw [hz₄] at hoe; cases hoe; simp at hce
    refine wpAny_setField_rec hz₄ (by simp) fun h₅ _ hs₅ => hE h₅ e (fun c o c1 c2 c3 c4 x => hs₅.extBut _ _ c1 (hs₄ _ _ c4 (hs₃.extBut _ _ c2 (hs₂.extBut _ _ c3 (hs₁.extBut _ _ c1 x))))) ⟨oe, hs₅.extBut _ _ hez hoe, hce⟩

theorem pyNext_zipM_item {z TI TO i1 i2 l1 l2 : Addr} {k1 k2 : Nat} {xs ys : Array Value} {x y a b : Value} {Q : Option Value → Shared → Prop} (D : ZipApart z TI TO i1 i2 l1 l2)
    (hz : IsZip s.heap z TI TO .none) (hTI : IsPair s.heap TI (.ref i1) (.ref i2)) (hTO : IsPair s.heap TO a b)
    (h1 : s.heap.IsTupleIter i1 l1 k1) (h2 : s.heap.IsListIter i2 l2 k2) (hl1 : s.heap.IsTuple l1 xs) (hl2 : s.heap.IsList l2 ys) (hx : xs[k1]? = some x) (hy : ys[k2]? = some y)
    (hQ : ∀ h', IsZip h' z TI TO (rawInt s.heap.objs.size) → IsPair h' TO x y → h'.IsTupleIter i1 l1 (k1 + 1) → h'.IsListIter i2 l2 (k2 + 1) → IsPair h' s.heap.objs.size x y → h'.objs.size = s.heap.objs.size + 1 →
      (∀ c o, c ≠ z → c ≠ TO → c ≠ i1 → c ≠ i2 → s.heap.get? c = some o → h'.get? c = some o) → Q (some (.ref s.heap.objs.size)) { s with heap := h' }) :
    wpAny (model prog w) A (pyNext (.ref z)) Q E s := by
  have hT : s.TypeIs (.ref z) "zip" := ⟨_, hz, rfl⟩
  unfold pyNext
  exact wpAny_bind (wpAny_attempt (wpAny_callSpecial?_slot (name := Str.ofString "__next__") hT F.slot_zip_next
    (wpAny_call_entry F.slot_zip_next hT F.entry_zip_next
      (zipM_next_item D hz hTI hTO h1 h2 hl1 hl2 hx hy fun h' a1 a2 a3 a4 a5 a6 a7 => wpAny_pure (hQ h' a1 a2 a3 a4 a5 a6 a7)) (F.args_zip_next_1 _))))

theorem pyNext_zipM_end {z TI TO i1 i2 l1 l2 : Addr} {k1 k2 : Nat} {xs ys : Array Value} {a b : Value} {Q : Option Value → Shared → Prop} (hh : A.handled = none) (D : ZipApart z TI TO i1 i2 l1 l2)
    (hz : IsZip s.heap z TI TO .none) (hTI : IsPair s.heap TI (.ref i1) (.ref i2)) (hTO : IsPair s.heap TO a b)
    (h1 : s.heap.IsTupleIter i1 l1 k1) (h2 : s.heap.IsListIter i2 l2 k2) (hl1 : s.heap.IsTuple l1 xs) (hl2 : s.heap.IsList l2 ys) (hend : xs[k1]? = none ∨ ys[k2]? = none)
    (hQ : ∀ h', (∀ c o, c ≠ z → c ≠ TO → c ≠ i1 → c ≠ i2 → s.heap.get? c = some o → h'.get? c = some o) → Q none { s with heap := h' }) : wpAny (model prog w) A (pyNext (.ref z)) Q E s := by
  have hT : s.TypeIs (.ref z) "zip" := ⟨_, hz, rfl⟩
  unfold pyNext
  refine wpAny_bind (wpAny_attempt (wpAny_callSpecial?_slot (name := Str.ofString "__next__") hT F.slot_zip_next
    (wpAny_call_entry F.slot_zip_next hT F.entry_zip_next (zipM_next_end hh D hz hTI hTO h1 h2 hl1 hl2 hend fun h' e hk he => ?_) (F.args_zip_next_1 _))))
  obtain ⟨o, ho, hc⟩ := he
  refine wpAny_bind (wpAny_isInstance (T := "StopIteration") (b := true) ⟨o, ho, hc⟩ isSubtype_stop ?_)
  exact wpAny_pure (hQ _ hk)
end

abbrev zipMH1 (h : Heap) (l1 : Addr) : Heap := h.push { cls := .type "tuple_iterator", data := .fields #[.ref l1, .int 0 0] }
abbrev zipMH2 (h : Heap) (l1 l2 : Addr) : Heap := (zipMH1 h l1).push { cls := .type "list_iterator", data := .fields #[.ref l2, .int 0 0] }
abbrev zipMH3 (h : Heap) (l1 l2 : Addr) : Heap := (zipMH2 h l1 l2).push { cls := .type "tuple", data := .seq #[.ref h.objs.size, .ref (zipMH1 h l1).objs.size] }
abbrev zipMH4 (h : Heap) (l1 l2 : Addr) : Heap := (zipMH3 h l1 l2).push { cls := .type "tuple", data := .seq #[.none, .none] }
abbrev zipMH5 (h : Heap) (l1 l2 : Addr) : Heap := (zipMH4 h l1 l2).push { cls := .type "zip", data := .fields #[.none, .bool false, .bool false, .ref (zipMH2 h l1 l2).objs.size, .ref (zipMH3 h l1 l2).objs.size] }

theorem meets_zipM_new (l1 l2 : Addr) (xs ys : Array Value) :
    Meets (Builtin.«zip.__new__» ⟨[.type "zip", .ref l1, .ref l2], []⟩) (fun _ R s => s.heap.IsTuple l1 xs ∧ s.heap.IsList l2 ys ∧
      R (.ok (.ret (.ref (zipMH4 s.heap l1 l2).objs.size))) { s with heap := zipMH5 s.heap l1 l2 }) :=
  .of_wp fun prog w A R s h => by
    obtain ⟨hp, g, d, tk, os⟩ := s; obtain ⟨hl1, hl2, h⟩ := h
    have hsub := sub_zip
    have hL1 : Heap.IsTuple (Shared.heap ⟨hp, g, d, tk, os⟩) l1 xs := hl1
    have hL2 : Heap.IsList (Shared.heap ⟨hp.push { cls := .type "tuple_iterator", data := .fields #[.ref l1, .int 0 0] }, g, d, tk, os⟩) l2 ys := Heap.IsList.push hl2 _
    wp_walk using wpAny_pyIter_tuple hL1, wpAny_pyIter_list hL2
    exact ⟨_, rfl, h⟩

section
variable {prog : Program} {w : World} {A : Around} {E : Value → Shared → Prop} {s : Shared}

theorem call_zipM {l1 l2 : Addr} {xs ys : Array Value} {Q : Value → Shared → Prop} (hl1 : s.heap.IsTuple l1 xs) (hl2 : s.heap.IsList l2 ys)
    (h : ∀ h', IsZip h' (s.heap.objs.size + 4) (s.heap.objs.size + 2) (s.heap.objs.size + 3) .none → IsPair h' (s.heap.objs.size + 2) (.ref s.heap.objs.size) (.ref (s.heap.objs.size + 1)) →
      IsPair h' (s.heap.objs.size + 3) .none .none → h'.IsTupleIter s.heap.objs.size l1 0 → h'.IsListIter (s.heap.objs.size + 1) l2 0 → h'.objs.size = s.heap.objs.size + 5 →
      (∀ c o, s.heap.get? c = some o → h'.get? c = some o) → Q (.ref (s.heap.objs.size + 4)) { s with heap := h' }) :
    wpAny (model prog w) A (call (.type "zip") [.ref l1, .ref l2]) Q E s := by
  refine callType_new F.called_zip (by decide) (F.typeCall_zip_2 _ _) (F.newCall_zip_2 _ _) (fun obj => F.args_object_init_3 obj _ _) F.entry_zip_new
    (meets_zipM_new l1 l2 xs ys) ⟨hl1, hl2, ?_⟩
  have z1 : (zipMH1 s.heap l1).objs.size = s.heap.objs.size + 1 := Heap.size_push ..
  have z2 : (zipMH2 s.heap l1 l2).objs.size = s.heap.objs.size + 2 := by rw [Heap.size_push, z1]
  have z3 : (zipMH3 s.heap l1 l2).objs.size = s.heap.objs.size + 3 := by rw [Heap.size_push, z2]
  have z4 : (zipMH4 s.heap l1 l2).objs.size = s.heap.objs.size + 4 := by rw [Heap.size_push, z3]
  have z5 : (zipMH5 s.heap l1 l2).objs.size = s.heap.objs.size + 5 := by rw [Heap.size_push, z4]
  have g5 : (zipMH5 s.heap l1 l2).get? (zipMH4 s.heap l1 l2).objs.size = some _ := Heap.get?_push_size _ rfl
  have g4 : (zipMH5 s.heap l1 l2).get? (zipMH3 s.heap l1 l2).objs.size = some _ := Heap.get?_push_of_some _ (Heap.get?_push_size _ rfl)
  have g3 : (zipMH5 s.heap l1 l2).get? (zipMH2 s.heap l1 l2).objs.size = some _ := Heap.get?_push_of_some _ (Heap.get?_push_of_some _ (Heap.get?_push_size _ rfl))
  have g2 : (zipMH5 s.heap l1 l2).get? (zipMH1 s.heap l1).objs.size = some _ := Heap.get?_push_of_some _ (Heap.get?_push_of_some _ (Heap.get?_push_of_some _ (Heap.get?_push_size _ rfl)))
  have g1 : (zipMH5 s.heap l1 l2).get? s.heap.objs.size = some _ := Heap.get?_push_of_some _ (Heap.get?_push_of_some _ (Heap.get?_push_of_some _ (Heap.get?_push_of_some _ (Heap.get?_push_size _ rfl))))
  show _ ∧ _
  rw [z2, z3, z4] at g5
  rw [z1, z2] at g3
  rw [z3] at g4
  rw [z1] at g2
  rw [z4]
  exact ⟨⟨_, g5, rfl⟩, h _ g5 g3 g4 ⟨_, g1, rfl, rfl⟩ ⟨_, g2, rfl, rfl⟩ z5 fun c o x =>
    Heap.get?_push_of_some _ (Heap.get?_push_of_some _ (Heap.get?_push_of_some _ (Heap.get?_push_of_some _ (Heap.get?_push_of_some _ x))))⟩
end
/-- the tuple at a and the list at b as they stand at each turn, the items in new pairs -/
def ItzM (K : PySem.W.Frag) (a b : Addr) : It :=
  ⟨fun i H => ∃ (xs ys : List V) (x y : V), SqT K H a xs ∧ SqL K H b ys ∧ xs[i]? = some x ∧ ys[i]? = some y,
    fun i H v H' => ∃ T x y, v = .ref T ∧ H T = none ∧ H' = upd H T (.tup [x, y]) ∧ (∀ xs, SqT K H a xs → xs[i]? = some x) ∧ ∀ ys, SqL K H b ys → ys[i]? = some y,
    fun i H => ∃ xs ys : List V, SqT K H a xs ∧ SqL K H b ys ∧ (xs.length ≤ i ∨ ys.length ≤ i)⟩
theorem turn_zipM {P : Program} {w : World} {K : PySem.W.Frag} {elts : List Expr} {kk : Nat} {tpos : Pos} {a b z TI TO i1 i2 : Addr} (D : ZipApart z TI TO i1 i2 a b) :
    Turn P w K (.Tuple elts kk tpos) (ItzM K a b) [z, TI, TO, i1, i2] z (fun i h => IsZip h z TI TO .none ∧ IsPair h TI (.ref i1) (.ref i2) ∧ (∃ x y, IsPair h TO x y) ∧ h.IsTupleIter i1 a i ∧ h.IsListIter i2 b i) where
  mem := by simp
  obj := fun i h st c hc => by
    obtain ⟨hz, hTI, ⟨x, y, hTO⟩, ⟨o1, e1, _, d1⟩, ⟨o2, e2, _, d2⟩⟩ := st
    have e' : c = z ∨ c = TI ∨ c = TO ∨ c = i1 ∨ c = i2 := by simpa using hc
    rcases e' with q | q | q | q | q
    · rw [q]; exact ⟨_, hz, fun v q => nomatch q⟩
    · rw [q]; exact ⟨_, hTI, fun v q => nomatch q⟩
    · rw [q]; exact ⟨_, hTO, fun v q => nomatch q⟩
    · rw [q]; exact ⟨o1, e1, fun v q => by rw [d1] at q; cases q⟩
    · rw [q]; exact ⟨o2, e2, fun v q => by rw [d2] at q; cases q⟩
  keep := fun i h h' st k => by
    obtain ⟨hz, hTI, ⟨x, y, hTO⟩, h1, h2⟩ := st
    exact ⟨k z (by simp) _ hz, k TI (by simp) _ hTI, ⟨x, y, k TO (by simp) _ hTO⟩, h1.at fun o q => k i1 (by simp) o q, h2.at fun o q => k i2 (by simp) o q⟩
  item := by
    intro X hP hw hK hc i pins s σ H E I hf st hg
    subst hP hw hK
    obtain ⟨hz, hTI, ⟨x0, y0, hTO⟩, h1, h2⟩ := st
    obtain ⟨xs, ys, x, y, hqx, hqy, hx, hy⟩ := hg
    obtain ⟨its, rv, p, _⟩ := I.tuple hqx
    obtain ⟨its2, rv2, p2, _⟩ := I.list hqy
    obtain ⟨u, hu, ru⟩ := rv.get hx
    obtain ⟨u2, hu2, ru2⟩ := rv2.get hy
    have hzl : z < s.heap.objs.size := Heap.lt_size hz
    refine pyNext_zipM_item D hz hTI hTO h1 h2 p p2.isList (x := u) (y := u2) (by simpa using hu) (by simpa using hu2) fun h' z' TO' h1' h2' hT hsz hk => ?_
    refine ⟨_, rfl, wpAny_letOwnedTupleGo_zip (s := { s with heap := h' }) z' fun h'' z'' sb => ?_⟩
    have hT2 : h''.get? s.heap.objs.size = some { cls := .type "tuple", data := .seq #[u, u2] } := (sb.2 _ (Nat.ne_of_gt hzl)).trans hT
    have new : ObjOk X.prog X.w (upd H s.heap.objs.size (.tup [x, y])) h'' s.heap.objs.size (.tup [x, y]) :=
      ⟨by show 2 ≤ sizeLine; decide, [u, u2], .cons ru (.cons ru2 .nil), ⟨_, hT2, rfl, _, rfl⟩⟩
    have I1 : Inv X pins σ (upd H s.heap.objs.size (.tup [x, y])) { s with heap := h'' } :=
      I.turnedNew (t' := s.toks) (ch := [z, TI, TO, i1, i2]) (fun c o hb q => (sb.2 c (fun q' => hb (by simp [q']))).trans (hk c o (fun q' => hb (by simp [q'])) (fun q' => hb (by simp [q'])) (fun q' => hb (by simp [q'])) (fun q' => hb (by simp [q'])) q)) hf (Nat.le_refl _) new
    refine ⟨.ref s.heap.objs.size, _, I1, rfl, ⟨_, x, y, rfl, I.hok.fresh (Nat.le_refl _), rfl, fun l hl => by rw [I.tuple_inj hl hqx]; exact hx, fun l hl => by rw [I.list_inj hl hqy]; exact hy⟩, ⟨z'', ?_, ⟨u, u2, ?_⟩, ?_, ?_⟩, fun c hcm => ?_⟩
    · exact (sb.2 _ D.TIz).trans (hk _ _ D.TIz D.TITO D.TIi1 D.TIi2 hTI)
    · exact (sb.2 _ D.TOz).trans TO'
    · exact h1'.at fun o q => (sb.2 _ D.i1z).trans q
    · exact h2'.at fun o q => (sb.2 _ D.i2z).trans q
    · have hlt : c < s.heap.objs.size := by
        have e' : c = z ∨ c = TI ∨ c = TO ∨ c = i1 ∨ c = i2 := by simpa using hcm
        rcases e' with q | q | q | q | q
        · rw [q]; exact hzl
        · rw [q]; exact Heap.lt_size hTI
        · rw [q]; exact Heap.lt_size hTO
        · rw [q]; obtain ⟨_, e1, _⟩ := h1; exact Heap.lt_size e1
        · rw [q]; obtain ⟨_, e2, _⟩ := h2; exact Heap.lt_size e2
      rw [upd_ne (Nat.ne_of_lt hlt)]
      exact (hf c hcm).1
  done := by
    intro X hP hw hK hc i pins s σ H E I hf st hg
    subst hP hw hK
    obtain ⟨hz, hTI, ⟨x0, y0, hTO⟩, h1, h2⟩ := st
    obtain ⟨xs, ys, hqx, hqy, hend⟩ := hg
    obtain ⟨its, rv, p, _⟩ := I.tuple hqx
    obtain ⟨its2, rv2, p2, _⟩ := I.list hqy
    have l1 := rv.length
    have l2 := rv2.length
    have he : its.toArray[i]? = none ∨ its2.toArray[i]? = none := by
      rcases hend with q | q
      · exact .inl (by simp; omega)
      · exact .inr (by simp; omega)
    exact pyNext_zipM_end (I.ok.hd hc) D hz hTI hTO h1 h2 p p2.isList he fun h' hk => ⟨rfl, I.turnedL (t' := s.toks) (ch := [z, TI, TO, i1, i2]) (fun c o hb q =>
      hk c o (fun q' => hb (by simp [q'])) (fun q' => hb (by simp [q'])) (fun q' => hb (by simp [q'])) (fun q' => hb (by simp [q'])) q) hf⟩
  self := fun A i s Q E st h => wpAny_pyIter_zip st.1 h

def iZipM (K : PySem.W.Frag) (ta : TA) : TI := fun σ H R => ta σ H fun vs H1 => ∃ a b xs ys, vs = [.ref a, .ref b] ∧ SqT K H1 a xs ∧ SqL K H1 b ys ∧ R (ItzM K a b) H1
theorem pi_zipM {X : Cx} {e e2 : Expr} {ta : TA} {p pos tpos : Pos} {elts : List Expr} {kk : Nat} (hg : Gl X "zip") (hm : X.mg "zip" = none) (ha : PA X [e, e2] ta)
    (hs : starEach [e, e2] X.env = (false, eval e X.env) :: starEach [e2] X.env := by rfl) (hpl : (backTo pos (starEach [e2] X.env)).any (·.1) = false := by rfl) :
    PI X (.Tuple elts kk tpos) (.Call (.Name "zip" p) [e, e2] [] pos) (iZipM X.K ta) := by
  refine ⟨fun pins s σ H R I h => ?_⟩
  refine Call_ (ld_blt I hg hm PyProof.Rows.boot_zip (PyProof.Rows.callWith_type1 (thn (ha.run pos pins s σ H _ I h) fun us s1 ⟨vs, H1, I1, r1, q1⟩ => ?_) hs hpl))
  obtain ⟨a, b, xs, ys, ex, q1⟩ := q1
  subst ex
  cases r1 with
  | cons r rr =>
    cases rr with
    | cons r' rr =>
      cases rr
      cases r
      cases r'
      have fresh5 : ∀ c, c ∈ [s1.heap.objs.size + 4, s1.heap.objs.size + 2, s1.heap.objs.size + 3, s1.heap.objs.size, s1.heap.objs.size + 1] → FpOk X pins H1 c := fun c hcm => by
        have e' : c = s1.heap.objs.size + 4 ∨ c = s1.heap.objs.size + 2 ∨ c = s1.heap.objs.size + 3 ∨ c = s1.heap.objs.size ∨ c = s1.heap.objs.size + 1 := by simpa using hcm
        have hle : s1.heap.objs.size ≤ c := by
          rcases e' with z | z | z | z | z
          · rw [z]; exact Nat.le_add_right _ _
          · rw [z]; exact Nat.le_add_right _ _
          · rw [z]; exact Nat.le_add_right _ _
          · rw [z]; exact Nat.le_refl _
          · rw [z]; exact Nat.le_add_right _ _
        exact I1.fpOk hle (I1.hok.fresh hle)
      obtain ⟨hqx, hqy, q⟩ := q1
      obtain ⟨its, rv, p1, _⟩ := I1.tuple hqx
      obtain ⟨its2, rv2, p2, _⟩ := I1.list hqy
      obtain ⟨o1, ho1, _⟩ := id p1
      refine call_zipM (show s1.heap.IsTuple a its.toArray from p1) p2.isList fun h' hz hTI hTO h1 h2 hsz hk => wpAny_pyIter_zip hz ?_
      have I2 : Inv X pins σ H1 { s1 with heap := h' } := I1.kept (t' := s1.toks) hk
      exact ⟨s1.heap.objs.size + 4, [s1.heap.objs.size + 4, s1.heap.objs.size + 2, s1.heap.objs.size + 3, s1.heap.objs.size, s1.heap.objs.size + 1], _, _, H1, rfl, I2, turn_zipM (PySem.W.ktu_apart s1.heap.objs.size a b (Heap.lt_size ho1) p2.lt), ⟨hz, hTI, ⟨_, _, hTO⟩, h1, h2⟩, fresh5, q⟩

/-- a loop over zip of a tuple and a list of one length -/
theorem for_zipM {K : PySem.W.Frag} {a b : Addr} {xs ys : List V} {g : TG} {tb : TS} {D : Ends} {σ : L2.St} {H : Hp} (hl : xs.length = ys.length) (Pv : Nat → L2.St → Hp → Prop) (h0 : Pv 0 σ H) (hq : ∀ i σ H, Pv i σ H → SqT K H a xs ∧ SqL K H b ys)
    (hs : ∀ (i : Nat) (x y : V) (T : Addr) (σ : L2.St) (H : Hp), xs[i]? = some x → ys[i]? = some y → Pv i σ H → H T = none → g (.ref T) σ (upd H T (.tup [x, y])) fun σ2 H2 => tb { D with nx := Pv (i + 1), ct := Pv (i + 1), bk := D.nx } σ2 H2) (hd : ∀ σ H, Pv xs.length σ H → D.nx σ H) :
    ∃ W : Nat → Nat → L2.St → Hp → Prop, (∃ m, W 0 m σ H) ∧ ∀ i m σ H, W i m σ H →
      ((ItzM K a b).stop i H ∧ D.nx σ H) ∨ ((ItzM K a b).go i H ∧ ∃ N : L2.St → Hp → Prop, (∀ σ' H', N σ' H' → ∃ m', m' < m ∧ W (i + 1) m' σ' H') ∧ ∀ v H', (ItzM K a b).yld i H v H' → g v σ H' fun σ2 H2 => tb { D with nx := N, ct := N, bk := D.nx } σ2 H2) := by
  refine ⟨fun i m σ H => m = xs.length - i ∧ i ≤ xs.length ∧ Pv i σ H, ⟨xs.length, rfl, Nat.zero_le _, h0⟩, ?_⟩
  rintro i m σ H ⟨rfl, hi, p⟩
  obtain ⟨qx, qy⟩ := hq i σ H p
  by_cases hlt : i < xs.length
  · have hx : xs[i]? = some xs[i] := List.getElem?_eq_getElem hlt
    have hlt2 : i < ys.length := by omega
    have hy : ys[i]? = some ys[i] := List.getElem?_eq_getElem hlt2
    refine .inr ⟨⟨xs, ys, _, _, qx, qy, hx, hy⟩, Pv (i + 1), fun σ' H' p' => ⟨xs.length - (i + 1), by omega, rfl, hlt, p'⟩, fun v H' y => ?_⟩
    obtain ⟨T, x', y', rfl, hT, rfl, f1, f2⟩ := y
    exact hs i x' y' T σ H (f1 xs qx) (f2 ys qy) p hT
  · have e : i = xs.length := by omega
    subst e
    exact .inl ⟨⟨xs, ys, qx, qy, Or.inl (Nat.le_refl _)⟩, hd σ H p⟩

end RZ

set_option Elab.async false
set_option linter.all false
set_option maxRecDepth 100000
set_option maxHeartbeats 4000000
namespace L2
open PySem PySem.Spec PyProof.Rows
/-! ### an own __eq__ asked by !=, an own __len__, list(d.values()) -/
/-- a name of a written namespace -/
theorem ns_at {K : PySem.W.Frag} {h : Heap} {N : Addr} {mN : Str → Option Value} {n : Str} {v : Value} (X : K.In h) (G : h.Ns N mN) (e : PySem.W.nsIn K N n = some (some v)) : mN n = some v := by
  obtain ⟨o, es, ep, ho, hd, _, hf⟩ := G
  unfold PySem.W.nsIn at e
  split at e
  case h_2 => cases e
  case h_1 c d es' n' sl q =>
    have z := X _ _ q
    rw [ho] at z
    cases z
    cases hd
    split at e
    case h_2 => split at e <;> cases e
    case h_1 en he =>
      cases e
      rw [← hf]
      unfold nsFind findBy
      rw [← Array.find?_toList, he]
      rfl
/-- a plain class with an own __eq__ and no __ne__ -/
structure NeC (K : PySem.W.Frag) (C f : Addr) : Prop where
  ex : ∃ (nm q : Str) (N : Addr) (bs : List Value) (hd : Bool) (sn : List Str) (sub : List Value) (ab : Bool) (col : Option Bool) (dd : Option Addr) (k0 k1 k2 k3 k5 : Option Value) (nid : String) (fo : Obj),
    K.lookup C = some (excClassObj nm q C N bs [.type "object"] hd sn sub ab col dd k0 k1 k2 k3 k5 nid) ∧ PySem.W.nsOkIn K N = true ∧ PySem.W.nsIn K N "__eq__" = some (some (.ref f)) ∧ PySem.W.nsIn K N "__ne__" = some none ∧ K.lookup f = some fo ∧ fo.cls = .type "function"
theorem obj_eq : ∃ y, typeLookup (.type "object") "__eq__" = pure y := ⟨_, PySem.F.cmp_object.eq.lookup⟩
section
variable {X : Cx} {n : Nat} {CX : CXT} {C f : Addr} {fd : FuncData} {ps : List Str} {R : Addr → Addr → Hp → Prop} {E : XK}
theorem op_neG (F : FnOk X.prog X.w X.K X.mg X.base CX n f fd ps (spEq R)) (Z : NeC X.K C f) (hb : Binds X.K fd ps []) (hx : Passes CX X E) (hr : Room (n + 2) X.A) :
    OpR X (compareOp .NotEq) (fun x y H Q => DIns C R x y H ∧ ∀ H', Ext H H' → Q (.bl false) H') := by
  intro pins s σ H x y v u Q I rx ry hq
  obtain ⟨⟨a, b, dx, dy, fs, gs, rfl, rfl, ha, hb', hR⟩, q⟩ := hq
  cases rx
  cases ry
  obtain ⟨mA, J, _⟩ := ins_get I.hok ha
  obtain ⟨mB, J', _⟩ := ins_get I.hok hb'
  obtain ⟨od, J, _⟩ := J.look
  obtain ⟨od', J', _⟩ := J'.look
  obtain ⟨nm, qn, N, bs, hd, sn, sub, ab, col, dd, k0, k1, k2, k3, k5, nid, fo, z1, z2, z3, z4, z5, z6⟩ := Z.ex
  have XK := I.kIn
  have Gn := Heap.Ns.of_isNs (PySem.W.isNs_of_in XK z2)
  obtain ⟨y0, hy0⟩ := obj_eq
  have Y : s.heap.OwnEqNoNe a C f "object" [.type "object"] := ⟨_, fo, nm, qn, N, bs, hd, sn, sub, ab, col, dd, k0, k1, k2, k3, k5, nid, _, y0, J.at_, J.cls, XK _ _ z1, Gn, ns_at XK Gn z3, XK _ _ z5, z6, PySem.F.mro_object, hy0, PySem.W.ns_none_of XK Gn z4⟩
  obtain ⟨hp, gg, dw, tk, os⟩ := s
  refine compareOp_ne_ownEq PySem.F.cmp_object Y J'.at_ J'.cls hr.in1.units0 ?_
  have hsp : spEq R [.ref a, .ref b] H (fun v H' => v = .bl true ∧ Ext H H') E := ⟨a, b, rfl, hR, fun H' e => ⟨rfl, e⟩⟩
  have e0 : Env0 X.prog X.w X.K X.mg X.base X.A.in1 X.stack ⟨hp, gg, dw, tk, os⟩ H := by
    have e := I.env0
    exact ⟨e.frames, e.mod, e.bs, e.bsz, e.funs, e.frf, e.hok, e.bare⟩
  have hl := F.len _ _ _ _ hsp
  have r2 : Vals [V.ref a, V.ref b] [Value.ref a, Value.ref b] := .cons rfl (.cons rfl .nil)
  refine wpAny_call (codeAny_mono (F.run X.A.in1 X.stack _ H ⟨[.ref a, .ref b], []⟩ [.ref a, .ref b] [.ref a, .ref b] _ E (hr.in1.mono (by omega)) e0 (by
    have := hb ⟨hp, gg, dw, tk, os⟩ [.ref a, .ref b] I.kIn (by simpa using hl)
    simpa using this) r2 hsp) fun r s' hq => ?_)
  cases r with
  | error e => exact hx pins σ H _ e s' I hq
  | ok fl =>
    cases fl with
    | ret w =>
      obtain ⟨z, H', I', rz, ez, ex⟩ := I.after hq
      subst ez
      cases rz
      exact ⟨true, rfl, .bl false, H', I', rfl, q H' ex⟩
    | next => exact False.elim hq
    | brk => exact False.elim hq
    | cont => exact False.elim hq
/-- len(o) by an own __len__ -/
theorem call_lenI {sp : Sp} (F : FnOk X.prog X.w X.K X.mg X.base CX n f fd ["self"] sp) (hs : PySem.W.findIn X.K (.ref C) "__len__" = some (some (.ref f))) (hf : PySem.W.isFn X.K (.ref f) = true) (hb : Binds X.K fd ["self"] []) (hx : Passes CX X E) (hr : Room (n + 1) X.A) :
    CallR X (.builtin "len") (fun xs H Q => ∃ a dx fs, xs = [.ref a] ∧ H a = some (.ins C dx fs) ∧ sp [.ref a] H (fun v H' => ∃ m : Nat, v = .int m ∧ m < 2 ^ 62 ∧ Q (.int m) H') E) := by
  intro pins s σ H xs us Q I r h
  obtain ⟨a, dx, fs, rfl, ha, h⟩ := h
  rw [Vals.ref1 r]
  obtain ⟨mA, J, _⟩ := ins_get I.hok ha
  obtain ⟨od, J, _⟩ := J.look
  obtain ⟨m, hF⟩ := I.fr
  refine PySem.W.len_K hF I.ok.mod.kin J hs hf ?_
  have e0 : Env0 X.prog X.w X.K X.mg X.base X.A.in1 X.stack s H := by
    have e := I.env0
    exact ⟨e.frames, e.mod, e.bs, e.bsz, e.funs, e.frf, e.hok, e.bare⟩
  have hl := F.len _ _ _ _ h
  refine wpAny_call (codeAny_mono (F.run X.A.in1 X.stack _ H ⟨[.ref a], []⟩ [.ref a] [.ref a] _ E (hr.in1.mono (by omega)) e0 (by
    have := hb s [.ref a] I.kIn (by simpa using hl)
    simpa using this) (.cons rfl .nil) h) fun r s' hq => ?_)
  cases r with
  | error e => exact hx pins σ H _ e s' I hq
  | ok fl =>
    cases fl with
    | ret w =>
      obtain ⟨z, H', I', rz, m, ez, hm, q⟩ := I.after hq
      subst ez
      obtain ⟨t, rfl⟩ := rz
      exact ⟨⟨Int.natCast_nonneg m, by omega⟩, .int m, H', I'.tok _, ⟨_, rfl⟩, q⟩
    | next => exact False.elim hq
    | brk => exact False.elim hq
    | cont => exact False.elim hq
/-- the same object -/
def DOne : Eqv := fun x y _ => x = y ∧ ∃ a, x = .ref a
theorem mon_one : Mon DOne := fun _ _ _ _ _ d => d
theorem eqG_one : EqG X 0 DOne := by
  intro A pins s σ H x y u v sb I rx ry d
  obtain ⟨rfl, a, rfl⟩ := d
  cases rx
  cases ry
  exact SeqAt.EqAt.same (A := A) (s := s) (.ref a) X.prog X.w X.xe _ ⟨rfl, H, I, Ext.rfl'⟩
end
section
variable {X : Cx} {o : Expr} {p pos apos mpos : Pos} {td : TE}
/-- list(o.values()) of a dict -/
def tListVals (td : TE) : TE := fun σ H Q => td σ H fun x H1 => ∃ a kvs, x = V.ref a ∧ H1 a = some (.dK kvs) ∧ ∀ l, H1 l = none → Q (.ref l) (upd H1 l (.lst (kvs.map (·.2))))
theorem vals_vals {kvs : List (Key × V)} {vs : List (Key × Value)} (r : KV kvs vs) {us : List Value} (hn : us.length = vs.length) (hu : ∀ (j : Nat) v, us[j]? = some v → ∃ k, vs[j]? = some (k, v)) : Vals (kvs.map (·.2)) us := by
  have e : us = vs.map (·.2) := PySem.W.kdl_vals_eq us hn hu
  subst e
  unfold KV at r
  clear hn hu
  induction r with
  | nil => exact .nil
  | cons h t ih => exact .cons h.2 ih
theorem pe_listVals (hcalm : X.calm = true) (hg : Gl X "list") (hm : X.mg "list" = none) (hd : PE X o td) (hbase : attributeBase o "values" X.env (eval o X.env) = eval o X.env := by rfl) (hline : (apos.endLine == mpos.line) = true := by rfl)
    (hse : starEach [Expr.Call (.Attribute o "values" apos) [] [] mpos] X.env = [(false, eval (Expr.Call (.Attribute o "values" apos) [] [] mpos) X.env)] := by rfl) :
    PE X (.Call (.Name "list" p) [.Call (.Attribute o "values" apos) [] [] mpos] [] pos) (tListVals td) := by
  refine ⟨fun pins s σ H Q I h => ?_⟩
  refine wpAny_Call_Name_kw (ld_blt I hg hm (u := .type "list") (by first | rfl | decide +kernel) ?_ (by first | decide +kernel | decide) (by first | decide +kernel | decide))
  rw [hse]
  refine PySem.callWith_type1 (wpAny_Call_method0_late hbase hline (thn (hd.run pins s σ H _ I h) fun v s1 ⟨x, H1, I1, r1, a, kvs, ex, ha, q⟩ => ?_))
  subst ex
  obtain rfl : v = Value.ref a := r1
  obtain ⟨hz, hsys, vs, rel, dof⟩ := dk_of I1.hok ha
  obtain ⟨ep, dat⟩ := dof.dictAt
  obtain ⟨ob, es, ho, ex, _⟩ := id dat
  refine ⟨"dict", "dict.values", F.plainAttrs_dict, F.slot_dict_values, F.type_dict_values, ⟨ob, ho, ex.1⟩, fun b e => ?_, Calls.callWith_builtin rfl (PySem.evalArgs_none ?_)⟩
  · cases e
    exact ⟨ob, ho, ex.2.1⟩
  refine call_meetsIn F.slot_dict_values ⟨ob, ho, ex.1⟩ F.entry_dict_values (F.args_dict_values_1 _) (meets_dict_values (mixKind X.prog X.w) a hsys) ⟨⟨vs, dof⟩, ?_⟩
  have up : ∀ b u, s1.heap.get? b = some u → (s1.heap.push { cls := .type "dict_values", data := .fields #[.ref a] }).get? b = some u := fun b u e => Heap.get?_push_of_some _ e
  have hlen : vs.length = kvs.length := (KV.length rel).symm
  refine PySem.W.kdl_call (PySem.W.kdl_values (knd := mixKind X.prog X.w) (kvs := vs) (ep := ep)) (I1.ok.hd hcalm) ⟨⟨_, Heap.get?_push_size _ rfl, rfl, rfl⟩, dat.keep up⟩ (by rw [hlen]; exact hz) fun h' tk acc c' hk hD hacc => ?_
  have hv : Vals (kvs.map (·.2)) acc.toList := vals_vals rel (by rw [Array.length_toList]; exact hacc.1) fun j v e => hacc.2 j v (by rw [← Array.getElem?_toList]; exact e)
  refine ⟨.ref _, upd H1 _ (.lst (kvs.map (·.2))), I1.laid (t' := tk) (fun b u e => hk b u (up b u e)) (Nat.le_of_lt (Nat.lt_of_lt_of_le (Nat.lt_succ_self _) (by rw [Heap.size_push]; exact Nat.le_refl _)))
    (show ObjOk X.prog X.w _ _ _ (.lst (kvs.map (·.2))) from ⟨by rw [List.length_map]; exact hz, acc.toList, c', hv, by rw [Array.toArray_toList]; exact hD⟩), rfl, q _ (I1.hok.fresh (Nat.le_of_lt (Nat.lt_of_lt_of_le (Nat.lt_succ_self _) (by rw [Heap.size_push]; exact Nat.le_refl _))))⟩
end
end L2

set_option Elab.async false
set_option linter.all false
set_option maxRecDepth 100000
set_option maxHeartbeats 4000000
namespace L2
open PySem PySem.Spec PyProof.Rows
/-! ### a, b, c = xs of a list -/
section
variable {prog : Program} {w : World} {A : Around} {E : Value → Shared → Prop}
theorem drawL {it l : Addr} {items : Array Value} (ne : l ≠ it) (n : Nat) : ∀ (i : Nat) (s : Shared) (Q : List Value → Shared → Prop), s.heap.IsListIter it l i → s.heap.IsList l items → i + n ≤ items.size →
    (∀ g, g.IsListIter it l (i + n) → Heap.SameBut it s.heap g → Q ((items.toList.drop i).take n) { s with heap := g }) → wpAny (model prog w) A (draw (.ref it) n) Q E s := by
  induction n with
  | zero =>
    intro i s Q hi _ _ q
    have q := q s.heap hi (Heap.SameBut.refl ..)
    rw [List.take_zero] at q
    exact (show wpAny _ _ (pure []) Q E s from wpAny_pure q)
  | succ n ih =>
    intro i s Q hi hl le q
    have lt : i < items.size := by omega
    refine (show wpAny _ _ (pyNext (.ref it) >>= _) Q E s from wpAny_bind (wpAny_pyNext_list_item hi hl (x := items[i]) (by simp [lt]) fun g1 i1 s1 => wpAny_bind (wpAny_holding (ih (i + 1) _ _ i1 (hl.extBut s1.extBut ne) (by omega) fun g2 i2 s2 => wpAny_pure ?_))))
    have q := q g2 (by rw [show i + (n + 1) = i + 1 + n by omega]; exact i2) (s1.trans s2)
    rw [List.drop_eq_getElem_cons (by simpa using lt), List.take_succ_cons] at q
    simpa using q
theorem unpL {l : Addr} {items : Array Value} {s : Shared} {Q : List Value → Shared → Prop} (hh : A.handled = none) (hl : s.heap.IsList l items)
    (q : ∀ g, Heap.ExtBut s.heap.objs.size s.heap g → Q items.toList { s with heap := g }) : wpAny (model prog w) A (unpackItems (.ref l) items.size none) Q E s := by
  have ne : l ≠ s.heap.objs.size := by
    obtain ⟨o, ho, _⟩ := hl
    exact Nat.ne_of_lt (Heap.lt_size ho)
  unfold unpackItems
  refine wpAny_bind ?_
  unfold notIterableAtAll
  refine wpAny_bind (wpAny_specialOf hl.typeIs slot_list_iter.lookup (wpAny_pure ?_))
  simp only [Bool.false_eq_true, if_false]
  refine wpAny_bind (wpAny_holding (wpAny_pyIter_list hl (wpAny_bind (wpAny_holding (drawL ne items.size 0 _ _ ⟨_, Heap.get?_push_size _ rfl, rfl, rfl⟩ (hl.push _) (by omega) fun g1 i1 s1 => ?_)))))
  rw [List.drop_zero, List.take_of_length_le (by simp), if_neg (by simp)]
  refine wpAny_bind (wpAny_holding (wpAny_pyNext_list_end hh i1 ((hl.push _).extBut s1.extBut ne) (by simp) fun g2 e2 => ?_))
  simp only [Option.isSome_none, Bool.false_eq_true, if_false]
  exact wpAny_pure (q g2 fun b o hb e => e2 b o hb (s1.extBut b o hb (Heap.get?_push_of_some _ e)))
end
section
variable {X : Cx} {pos : Pos}
/-- a, b, c = xs: a list of as many items -/
def gTupL (n : Nat) (t : TGs) : TG := fun v σ H Q => ∃ a xs, v = .ref a ∧ H a = some (.lst xs) ∧ xs.length = n ∧ t xs σ H Q
theorem pg_tupL {es : List Expr} {k : Nat} {t : TGs} {n : Nat} (hc : X.calm = true) (h : PGs X es t) (hn : (assignEach es X.env).length = n := by rfl) (hst : (assignEach es X.env).findIdx? (·.1) = none := by rfl) : PG X (.Tuple es k pos) (gTupL n t) := by
  refine ⟨fun pins s σ H v u Q I r hw => ?_⟩
  obtain ⟨a, xs, e1, ha, hl, hw⟩ := hw
  subst e1
  cases r
  obtain ⟨z, its, c, rv, e⟩ := I.hok a _ ha
  have isl : s.heap.IsList a its.toArray := ⟨_, e, rfl, c, rfl⟩
  rw [assign_Tuple]
  refine wpAny_bind (wpAny_standAt ?_)
  unfold unpack
  rw [hst, show (assignEach es X.env).length = its.toArray.size by rw [hn, ← hl, rv.length, List.size_toArray]]
  refine wpAny_bind (wpAny_holding (unpL (I.ok.hd hc) isl fun g hx => ?_))
  have I1 : Inv X pins σ H { s with heap := g } := I.kept (t' := s.toks) fun b o e => hx b o (Nat.ne_of_lt (Heap.lt_size e)) e
  exact h.run pins _ σ H xs _ Q I1 (by simpa using rv) hw
end
/-! ### dicts compared that may differ -/
/-- the entries of ks are in ls -/
def eqD {κ : Type} [DecidableEq κ] (ls ks : List (κ × V)) : Bool := ks.all fun p => match valV ls p.1 with
  | some v => eqV p.2 v
  | none => false
theorem hits_any {A : Around} {s : Shared} {ls : List (Key × V)} {vb : List (Key × Value)} (rb : KV ls vb) (fl : ∀ k v, valV ls k = some v → flatV v = true) {ks : List (Key × V)} {va : List (Key × Value)} (ra : KV ks va) (fk : ∀ p ∈ ks, flatV p.2 = true) :
    PySem.W.KeqHits A s vb va (eqD ls ks) := by
  unfold KV at ra
  induction ra with
  | nil => exact .nil
  | @cons p q ps qs h t ih =>
    obtain ⟨h1, h2⟩ := h
    obtain ⟨k, v⟩ := q
    have h1 : p.1 = k := h1
    have h2 : RelV p.2 v := h2
    have st : eqD ls (p :: ps) = ((match valV ls p.1 with
      | some v => eqV p.2 v
      | none => false) && eqD ls ps) := rfl
    have rr := rb.val p.1
    rw [st]
    cases e : valV ls p.1 with
    | none =>
      rw [e] at rr
      have rr := rr.none_of
      rw [h1] at rr
      exact .miss rr
    | some y =>
      rw [e] at rr
      obtain ⟨u, hu, ru⟩ := rr.some_of
      rw [h1] at hu
      exact .hit hu (eqAt_V h2 ru (fk p List.mem_cons_self) (fl _ _ e)) (ih fun z hz => fk z (List.mem_cons_of_mem _ hz))
section
variable {X : Cx}
def rEqDB : R2 := fun x y H Q => ∃ a b ks ls, x = .ref a ∧ y = .ref b ∧ H a = some (.dK ks) ∧ H b = some (.dK ls) ∧ (∀ p ∈ ks, flatV p.2 = true) ∧ (∀ k v, valV ls k = some v → flatV v = true) ∧ Q (.bl (decide (ks.length = ls.length) && eqD ls ks)) H
theorem op_eq_dictB (hu : X.A.units < cLine) : OpR X (compareOp .Eq) rEqDB := by
  intro pins s σ H x y v u Q I rx ry h
  obtain ⟨a, b, ks, ls, rfl, rfl, ea, eb, fk, fl, q⟩ := h
  obtain rfl : v = Value.ref a := rx
  obtain rfl : u = Value.ref b := ry
  obtain ⟨_, ya, va, ra, da⟩ := (show ObjOk X.prog X.w H s.heap a (.dK ks) from I.hok a _ ea)
  obtain ⟨_, yb, vb, rb, db⟩ := (show ObjOk X.prog X.w H s.heap b (.dK ls) from I.hok b _ eb)
  refine PySem.W.keq_eq (knd := mixKind X.prog X.w) (r := eqD ls ks) ya yb da db hu (fun _ => hits_any rb fl ra fk) (fin_bl I q ?_)
  rw [ra.length, rb.length]
  rfl
end
/-! ### != by an own __eq__, whatever it says -/
section
variable {X : Cx} {n : Nat} {CX : CXT} {C f : Addr} {fd : FuncData} {ps : List Str} {E : XK} {sp : Sp}
theorem op_neV (F : FnOk X.prog X.w X.K X.mg X.base CX n f fd ps sp) (Z : NeC X.K C f) (hb : Binds X.K fd ps []) (hx : Passes CX X E) (hr : Room (n + 2) X.A) :
    OpR X (compareOp .NotEq) (fun x y H Q => ∃ a b dx dy fs gs, x = .ref a ∧ y = .ref b ∧ H a = some (.ins C dx fs) ∧ H b = some (.ins C dy gs) ∧ sp [.ref a, .ref b] H (fun v H' => ∃ r, v = .bl r ∧ Q (.bl (!r)) H') E) := by
  intro pins s σ H x y v u Q I rx ry hq
  obtain ⟨a, b, dx, dy, fs, gs, rfl, rfl, ha, hb', hsp⟩ := hq
  cases rx
  cases ry
  obtain ⟨mA, J, _⟩ := ins_get I.hok ha
  obtain ⟨mB, J', _⟩ := ins_get I.hok hb'
  obtain ⟨od, J, _⟩ := J.look
  obtain ⟨od', J', _⟩ := J'.look
  obtain ⟨nm, qn, N, bs, hd, sn, sub, ab, col, dd, k0, k1, k2, k3, k5, nid, fo, z1, z2, z3, z4, z5, z6⟩ := Z.ex
  have XK := I.kIn
  have Gn := Heap.Ns.of_isNs (PySem.W.isNs_of_in XK z2)
  obtain ⟨y0, hy0⟩ := obj_eq
  have Y : s.heap.OwnEqNoNe a C f "object" [.type "object"] := ⟨_, fo, nm, qn, N, bs, hd, sn, sub, ab, col, dd, k0, k1, k2, k3, k5, nid, _, y0, J.at_, J.cls, XK _ _ z1, Gn, ns_at XK Gn z3, XK _ _ z5, z6, PySem.F.mro_object, hy0, PySem.W.ns_none_of XK Gn z4⟩
  obtain ⟨hp, gg, dw, tk, os⟩ := s
  refine compareOp_ne_ownEq PySem.F.cmp_object Y J'.at_ J'.cls hr.in1.units0 ?_
  have e0 : Env0 X.prog X.w X.K X.mg X.base X.A.in1 X.stack ⟨hp, gg, dw, tk, os⟩ H := by
    have e := I.env0
    exact ⟨e.frames, e.mod, e.bs, e.bsz, e.funs, e.frf, e.hok, e.bare⟩
  have hl := F.len _ _ _ _ hsp
  have r2 : Vals [V.ref a, V.ref b] [Value.ref a, Value.ref b] := .cons rfl (.cons rfl .nil)
  refine wpAny_call (codeAny_mono (F.run X.A.in1 X.stack _ H ⟨[.ref a, .ref b], []⟩ [.ref a, .ref b] [.ref a, .ref b] _ E (hr.in1.mono (by omega)) e0 (by
    have := hb ⟨hp, gg, dw, tk, os⟩ [.ref a, .ref b] I.kIn (by simpa using hl)
    simpa using this) r2 hsp) fun r s' hq => ?_)
  cases r with
  | error e => exact hx pins σ H _ e s' I hq
  | ok fl =>
    cases fl with
    | ret w =>
      obtain ⟨z, H', I', rz, r0, ez, q⟩ := I.after hq
      subst ez
      cases rz
      exact ⟨r0, rfl, .bl (!r0), H', I', rfl, q⟩
    | next => exact False.elim hq
    | brk => exact False.elim hq
    | cont => exact False.elim hq
end
end L2

set_option Elab.async false
set_option linter.all false
set_option maxRecDepth 100000
set_option maxHeartbeats 4000000
namespace Ash
open PySem PySem.Spec PyProof.Rows L2
open C8 (pss_cut)
open C8 (pss_cut)
def spBookEqV (CB : Addr) : Sp := fun vs H Q _ => ∃ (a b : Addr) (L M : List (Str × Int)), vs = [.ref a, .ref b] ∧ BookAt CB H a L ∧ BookAt CB H b M ∧
  (((∀ z, L.lookup z = M.lookup z) ∧ ∀ H', Ext H H' → Q (.bl true) H') ∨ ((∃ z n m, L.lookup z = some n ∧ M.lookup z = some m ∧ n ≠ m) ∧ ∀ H', Ext H H' → Q (.bl false) H'))
/-- the pairs of a book's dict -/
theorem lk_val : ∀ {L : List (Str × Int)} (z : Str), valV (LK L) (Sum.inr z : Key) = (L.lookup z).map V.int
  | [], z => rfl
  | (y, n) :: r, z => by
    show valV ((Sum.inr y, V.int n) :: LK r) (Sum.inr z) = _
    rw [List.lookup_cons]
    by_cases c : z = y
    · subst c
      rw [beq_self_eq_true]
      exact valV_pos (p := ((Sum.inr z : Key), V.int n)) rfl
    · rw [beq_false_of_ne c]
      rw [valV_neg (p := ((Sum.inr y : Key), V.int n)) (fun e => c (Sum.inr.inj e).symm)]
      exact lk_val z
theorem lk_mem : ∀ {L : List (Str × Int)} {z : Str} {n : Int}, (L.map (·.1)).Nodup → (z, n) ∈ L → L.lookup z = some n
  | [], _, _, _, h => nomatch h
  | (y, m) :: r, z, n, nd, h => by
    rw [List.lookup_cons]
    rw [List.map_cons, List.nodup_cons] at nd
    rcases List.mem_cons.mp h with e | h
    · cases e
      rw [beq_self_eq_true]
    · have c : z ≠ y := fun e => nd.1 (e ▸ List.mem_map.mpr ⟨(z, n), h, rfl⟩)
      rw [beq_false_of_ne c]
      exact lk_mem nd.2 h
theorem lk_has : ∀ {L : List (Str × Int)} {z : Str} {n : Int}, L.lookup z = some n → (z, n) ∈ L
  | [], _, _, h => by cases h
  | (y, m) :: r, z, n, h => by
    rw [List.lookup_cons] at h
    by_cases c : z = y
    · subst c
      rw [beq_self_eq_true] at h
      cases h
      exact List.mem_cons_self
    · rw [beq_false_of_ne c] at h
      exact List.mem_cons_of_mem _ (lk_has h)
theorem lk_sub {L M : List (Str × Int)} (h : ∀ z, L.lookup z = M.lookup z) (nl : (L.map (·.1)).Nodup) : ∀ z ∈ L.map (·.1), z ∈ M.map (·.1) := fun z hz => by
  obtain ⟨⟨y, n⟩, hy, rfl⟩ := List.mem_map.mp hz
  have := lk_mem nl hy
  rw [h] at this
  exact List.mem_map.mpr ⟨_, lk_has this, rfl⟩
theorem lk_len {L M : List (Str × Int)} (h : ∀ z, L.lookup z = M.lookup z) (nl : (L.map (·.1)).Nodup) (nm : (M.map (·.1)).Nodup) : L.length = M.length := by
  have p : (L.map (·.1)).Perm (M.map (·.1)) := (List.perm_ext_iff_of_nodup nl nm).mpr fun z => ⟨lk_sub h nl z, lk_sub (fun z => (h z).symm) nm z⟩
  have := p.length_eq
  rw [List.length_map, List.length_map] at this
  exact this
theorem lk_eqD {L M : List (Str × Int)} (nl : (L.map (·.1)).Nodup) (h : ∀ z, L.lookup z = M.lookup z) : eqD (LK M) (LK L) = true := by
  unfold eqD
  rw [List.all_eq_true]
  intro p hp
  obtain ⟨⟨z, n⟩, hz, rfl⟩ := List.mem_map.mp hp
  show (match valV (LK M) (Sum.inr z) with | some v => eqV (.int n) v | none => false) = true
  rw [lk_val, ← h, lk_mem nl hz]
  show eqV (.int n) (.int n) = true
  simp [eqV]
theorem lk_neD {L M : List (Str × Int)} {z : Str} {n m : Int} (h1 : L.lookup z = some n) (h2 : M.lookup z = some m) (ne : n ≠ m) : eqD (LK M) (LK L) = false := by
  unfold eqD
  rw [List.all_eq_false]
  refine ⟨_, List.mem_map.mpr ⟨(z, n), lk_has h1, rfl⟩, ?_⟩
  show ¬ (match valV (LK M) (Sum.inr z) with | some v => eqV (.int n) v | none => false) = true
  rw [lk_val, h2]
  show ¬ eqV (.int n) (.int m) = true
  intro e
  have e : (n == m) = true := e
  exact ne (by simpa using e)
theorem lk_flat {L : List (Str × Int)} : ∀ p ∈ LK L, flatV p.2 = true := fun p hp => by
  obtain ⟨x, _, rfl⟩ := List.mem_map.mp hp
  rfl
theorem lk_flat' {L : List (Str × Int)} : ∀ k v, valV (LK L) k = some v → flatV v = true := fun k v h => by
  unfold valV at h
  cases e : (LK L).find? (fun kv => decide (kv.1 = k)) with
  | none => rw [e] at h; cases h
  | some p =>
    rw [e] at h
    cases h
    exact lk_flat p (List.mem_of_find?_eq_some e)
section
variable {P : Program} {w : World} {K : PySem.W.Frag} {mg : Str → Option Value} {base : Heap}
abbrev s_Book_eq : Stmt := inClass (topS 23) 1
theorem sc_Book_eq : FnScope ["self", "other"] ["self", "other"] (defScope s_Book_eq) := ⟨rfl, rfl, rfl, by decide +kernel, rfl, by decide +kernel, by decide +kernel⟩
theorem ok_book_eqV {f CBook : Addr} {fd : FuncData} (F : Fun K "__eq__" "Book.__eq__" s_Book_eq f fd) (B : Blt mg) (T : Cb K mg CBook) (bk : ∀ H b dx fs, H b = some (.ins CBook dx fs) → TyX K H (.ref b) (.ref CBook)) : FnOk P w K mg base CX0 1 f fd ["self", "other"] (spBookEqV CBook) := by
  have c_Book := T.c
  refine F.ok sc_Book_eq (fun vs H Q E h => ?_) (fun cdv A outer s H vs Q E hr h => ?_)
  · obtain ⟨a, b, L, M, rfl, _⟩ := h
    rfl
  · obtain ⟨a, b, L, M, rfl, hA, hB, q⟩ := h
    have hu := hu_of hr
    have hu0 : (A.deeper (envOfC "Book.__eq__" (defScope s_Book_eq) s.heap.objs.size f cdv)).units < cLine := by omega
    refine ⟨_, (pss_one (ps_ret (pe_and (pe_callB call_isi (by rfl) B.isinstance (by decide +kernel) (pa_cons (pv 1) (pa_cons (pe_glob (v := .ref CBook) (by rfl) c_Book rfl) pa_nil))) (pe_one (pe_cmpR (op_eq_dictB hu0) (pe_fld (pv 0) rfl) (pe_fld (pv 1) rfl) (nomark _)))))), ?_⟩
    obtain ⟨dx, d, L', h1, h2, h3, nd⟩ := id hA
    obtain ⟨dy, e, M', g1, g2, g3, ne⟩ := id hB
    refine ⟨_, rfl, _, _, _, _, true, rfl, ClsV.own _, bk _ _ _ _ g1, (by show PySem.W.kitOne K _ _ = _; unfold PySem.W.kitOne; rw [if_pos (by simp)]), _, rfl, iteT ?_⟩
    refine ⟨_, rfl, a, CBook, dx, _, _, rfl, h1, T.cl, T.nL, rfl, _, rfl, b, CBook, dy, _, _, rfl, g1, T.cl, T.nL, rfl, d, e, _, _, rfl, rfl, h2, g2, lk_flat, lk_flat', ?_⟩
    rcases q with ⟨q0, q⟩ | ⟨⟨z, n, m, q1, q2, q3⟩, q⟩
    · have hlk : ∀ z, L'.lookup z = M'.lookup z := fun z => by rw [h3, q0, g3]
      rw [lk_eqD nd hlk, decide_eq_true (show (LK L').length = (LK M').length by unfold LK; rw [List.length_map, List.length_map]; exact lk_len hlk nd ne)]
      exact q H Ext.rfl'
    · rw [lk_neD (by rw [h3]; exact q1) (by rw [g3]; exact q2) q3, Bool.and_false]
      exact q H Ext.rfl'

/-- books that tell the same -/
def EqBk (CB : Addr) : Addr → Addr → Hp → Prop := fun a b H => ∃ L M, BookAt CB H a L ∧ BookAt CB H b M ∧ ∀ z, L.lookup z = M.lookup z
theorem ok_book_eqE {f CBook : Addr} {fd : FuncData} (F : Fun K "__eq__" "Book.__eq__" s_Book_eq f fd) (B : Blt mg) (T : Cb K mg CBook) (bk : ∀ H b dx fs, H b = some (.ins CBook dx fs) → TyX K H (.ref b) (.ref CBook)) : FnOk P w K mg base CX0 1 f fd ["self", "other"] (spEq (EqBk CBook)) := by
  have o := ok_book_eqV (P := P) (w := w) (base := base) F B T bk
  exact o.imp fun vs H Q E ⟨a, b, e, ⟨L, M, h1, h2, h3⟩, q⟩ => ⟨a, b, L, M, e, h1, h2, .inl ⟨h3, q⟩⟩
end
end Ash

set_option Elab.async false
set_option linter.all false
set_option maxRecDepth 100000
set_option maxHeartbeats 4000000
namespace Ash
open PySem PySem.Spec PyProof.Rows L2
open C8 (pss_cut)
def spJLen (K : PySem.W.Frag) (aT CJ CB : Addr) : Sp := fun vs H Q _ => ∃ (j b : Addr) (L : List (Str × Int)) (us : List V) (xs : List Ent), vs = [.ref j] ∧ JAt K aT CJ CB H j b L us xs ∧ Q (.int us.length) H
section
variable {P : Program} {w : World} {K : PySem.W.Frag} {mg : Str → Option Value} {base : Heap}
abbrev s_Journal_len : Stmt := inClass (topS 35) 2
theorem sc_Journal_len : FnScope ["self"] ["self"] (defScope s_Journal_len) := ⟨rfl, rfl, rfl, by decide +kernel, rfl, by decide +kernel, by decide +kernel⟩
theorem ok_jlen {f CJ CB aT : Addr} {fd : FuncData} (F : Fun K "__len__" "Journal.__len__" s_Journal_len f fd) (B : Blt mg) (T : Cj P K mg CJ CB) : FnOk P w K mg base CX0 1 f fd ["self"] (spJLen K aT CJ CB) := by
  refine F.ok sc_Journal_len (fun vs H Q E h => ?_) (fun cdv A outer s H vs Q E hr h => ?_)
  · obtain ⟨j, b, L, us, xs, rfl, _⟩ := h
    rfl
  · obtain ⟨j, b, L, us, xs, rfl, hJ, q⟩ := h
    refine ⟨_, (pss_one (ps_ret (pe_callB call_len_seq (by rfl) B.len (by decide +kernel) (pa_cons (pe_fld (pv 0) rfl) pa_nil)))), ?_⟩
    obtain ⟨dx, t, kd, h1, h2, h3, hl, h5, h6, h7⟩ := id hJ
    exact ⟨_, rfl, j, CJ, dx, _, _, rfl, h1, T.cl, T.nE, jf_e _ _ _, t, us, rfl, .inr h3, q⟩
end
end Ash

set_option Elab.async false
set_option linter.all false
set_option maxRecDepth 100000
set_option maxHeartbeats 4000000
namespace Ash
open PySem PySem.Spec PyProof.Rows L2
open C8 (pss_cut)
/-! ### what stays: a heap without the places that change -/
open Classical in
noncomputable def cutH (B : Addr → Prop) (H : Hp) : Hp := fun c => if B c then none else H c
theorem cut_at {B : Addr → Prop} {H : Hp} {c : Addr} {x : HO} (n : ¬ B c) (h : H c = some x) : cutH B H c = some x := by
  unfold cutH
  rw [if_neg n]
  exact h
theorem cut_of {B : Addr → Prop} {H : Hp} {c : Addr} {x : HO} (h : cutH B H c = some x) : ¬ B c ∧ H c = some x := by
  unfold cutH at h
  by_cases c : B c
  · rw [if_pos c] at h
    cases h
  · rw [if_neg c] at h
    exact ⟨c, h⟩
theorem cut_same (B : Addr → Prop) (H : Hp) : Same (cutH B H) H := fun _ _ h => (cut_of h).2
theorem cut_step {B B' : Addr → Prop} {H H' : Hp} (k : ∀ c x, H c = some x → ¬ B c → H' c = some x) (g : ∀ c, B' c → B c ∨ H c = none) : Same (cutH B H) (cutH B' H') := fun c x h => by
  obtain ⟨n, h⟩ := cut_of h
  refine cut_at (fun b => ?_) (k c x h n)
  rcases g c b with b | b
  · exact n b
  · rw [h] at b; cases b
abbrev uni (B A : Addr → Prop) : Addr → Prop := fun c => B c ∨ A c
/-- all but the places of A stands; A grows by new places -/
structure Fr (A : Addr → Prop) (H : Hp) (A' : Addr → Prop) (H' : Hp) : Prop where
  k : ∀ c x, H c = some x → ¬ A c → H' c = some x
  g : ∀ c, A' c → A c ∨ H c = none
theorem Fr.cut {A A' B : Addr → Prop} {H H' : Hp} (f : Fr A H A' H') (s : ∀ c, A c → B c) : Same (cutH B H) (cutH (uni B A') H') :=
  cut_step (fun c x h n => f.k c x h fun a => n (s c a)) fun c b => b.elim .inl fun a => (f.g c a).imp (s c) id
theorem Fr.of_same {A : Addr → Prop} {H H' : Hp} (s : Same H H') : Fr A H A H' := ⟨fun c x h _ => s c x h, fun c h => .inl h⟩
theorem no_of {H0 H : Hp} {c : Addr} (sm : Same H0 H) (h0 : H c = none) : H0 c = none := by
  cases e : H0 c with
  | none => rfl
  | some x => rw [sm _ _ e] at h0; cases h0
/-! ### an office -/
structure Dr where
  z : Str
  t : Addr
  l : Addr
  n : Int
  es : List Ent
def DrK (ps : List Dr) : List (Key × V) := ps.map fun d => (Sum.inr d.z, V.ref d.t)
theorem DrK_val : ∀ (ps : List Dr) (z : Str), valV (DrK ps) (Sum.inr z : Key) = (ps.find? fun d => decide (d.z = z)).map fun d => V.ref d.t
  | [], z => rfl
  | a :: ps, z => by
    have ih := DrK_val ps z
    by_cases h : a.z = z
    · show valV ((Sum.inr a.z, V.ref a.t) :: DrK ps) (Sum.inr z : Key) = _
      rw [valV_pos (by rw [h]), List.find?_cons_of_pos (by simpa using h)]
      rfl
    · show valV ((Sum.inr a.z, V.ref a.t) :: DrK ps) (Sum.inr z : Key) = _
      rw [valV_neg (fun q => h (Sum.inr.inj q)), ih, List.find?_cons_of_neg (by simpa using h)]
def DEnts (H : Hp) (us : List V) (es : List Ent) : Prop := us.length = es.length ∧ ∀ (i : Nat) v x, us[i]? = some v → es[i]? = some x → ∃ e, v = .ref e ∧ DAt H e x ∧ x.ok
theorem DEnts.same {H H' : Hp} {us : List V} {es : List Ent} (h : DEnts H us es) (s : Same H H') : DEnts H' us es := ⟨h.1, fun i v x a b => by
  obtain ⟨e, h1, h2, h3⟩ := h.2 i v x a b
  exact ⟨e, h1, s _ _ h2, h3⟩⟩
theorem DEnts.snoc {H : Hp} {us : List V} {es : List Ent} {e : Addr} {x : Ent} (h : DEnts H us es) (he : DAt H e x) (ok : x.ok) : DEnts H (us ++ [.ref e]) (es ++ [x]) := by
  obtain ⟨hl, h⟩ := h
  refine ⟨by rw [List.length_append, List.length_append, hl]; rfl, fun i v y a b => ?_⟩
  by_cases c : i < us.length
  · rw [List.getElem?_append_left c] at a
    rw [List.getElem?_append_left (by omega)] at b
    exact h i v y a b
  · have hi : i = us.length := by
      have := (List.getElem?_eq_some_iff.mp a).1
      rw [List.length_append] at this
      have : i < us.length + 1 := this
      omega
    subst hi
    rw [List.getElem?_append_right (Nat.le_refl _), Nat.sub_self] at a
    rw [hl, List.getElem?_append_right (Nat.le_refl _), Nat.sub_self] at b
    cases a
    cases b
    exact ⟨e, rfl, he, ok⟩
def DrAt (CD : Addr) (B A : Addr → Prop) (H : Hp) (d : Dr) : Prop := ∃ tx us, cutH B H d.t = some (.ins CD tx (dftF d.n d.l)) ∧ A d.l ∧ H d.l = some (.lst us) ∧ DEnts (cutH B H) us d.es
structure OA where
  o : Addr
  dx : Addr
  b : Addr
  j : Addr
  bj : Addr
  dd : Addr
  pa : Addr
  cb : Addr
structure OS where
  L : List (Str × Int)
  xs : List Ent
  us : List V
  ps : List Dr
  past : List Nat
  cl : Int
  cb : List Int
def OS.find (S : OS) (z : Str) : Option Dr := S.ps.find? fun d => decide (d.z = z)
structure Cls6 where
  K : PySem.W.Frag
  aT : Addr
  CJ : Addr
  CB : Addr
  CO : Addr
  CD : Addr
/-- what may change: lists, dicts and the office itself -/
def MuO (CO : Addr) : HO → Prop
  | .lst _ => True
  | .dK _ => True
  | .ins C _ _ => C = CO
  | _ => False
def Mu (CO : Addr) (o : Option HO) : Prop := ∃ u, o = some u ∧ MuO CO u
/-- the places of an office are A (within B, the places that change), its addresses a, its state S -/
structure OfM (c : Cls6) (B A : Addr → Prop) (H : Hp) (a : OA) (S : OS) : Prop where
  o : H a.o = some (.ins c.CO a.dx (ofF a.b a.j a.dd a.pa S.cl a.cb))
  dd : H a.dd = some (.dK (DrK S.ps))
  pa : H a.pa = some (.lst (S.past.map fun (n : Nat) => V.int (n : Int)))
  cb : H a.cb = some (.lst (S.cb.map V.int))
  Ao : A a.o
  Add : A a.dd
  Apa : A a.pa
  Acb : A a.cb
  AB : ∀ x, A x → B x
  BT : ∀ x, B x → Mu c.CO (H x)
  ne : a.pa ≠ a.cb
  bk : BookAt c.CB (cutH B H) a.b S.L
  jr : JAt c.K c.aT c.CJ c.CB (cutH B H) a.j a.bj S.L S.us S.xs
  x4 : S.us.length ≤ 400
  dr : ∀ d ∈ S.ps, DrAt c.CD B A H d ∧ d.l ≠ a.pa ∧ d.l ≠ a.cb ∧ IsNm d.z ∧ d.es.length ≤ 20
  ndl : (S.ps.map (·.l)).Nodup
  ndz : (S.ps.map (·.z)).Nodup
  cbl : S.cb.length = S.xs.length
  pst : (S.past ++ [S.xs.length]).Pairwise (· ≤ ·)
section
variable {c : Cls6} {B A : Addr → Prop} {H : Hp} {a : OA} {S : OS}
theorem OfM.find (h : OfM c B A H a S) {z : Str} {d : Dr} (e : S.find z = some d) : d ∈ S.ps ∧ d.z = z := ⟨List.mem_of_find?_eq_some e, by simpa using List.find?_some e⟩
theorem OfM.keep {B' : Addr → Prop} {H' : Hp} (h : OfM c B A H a S) (kA : ∀ p x, A p → H p = some x → H' p = some x) (kB : ∀ p x, H p = some x → ¬ B p → H' p = some x) (g1 : ∀ p, B p → B' p) (g2 : ∀ p, B' p → B p ∨ H p = none) (gH : ∀ p, B' p → Mu c.CO (H' p)) : OfM c B' A H' a S := by
  have s := cut_step kB g2
  exact ⟨kA _ _ h.Ao h.o, kA _ _ h.Add h.dd, kA _ _ h.Apa h.pa, kA _ _ h.Acb h.cb, h.Ao, h.Add, h.Apa, h.Acb, fun x hx => g1 x (h.AB x hx), gH, h.ne, h.bk.same s, h.jr.same s, h.x4, fun d hd => by
    obtain ⟨⟨tx, us, h1, h2, h3, h4⟩, r⟩ := h.dr d hd
    exact ⟨⟨tx, us, s _ _ h1, h2, kA _ _ h2 h3, h4.same s⟩, r⟩, h.ndl, h.ndz, h.cbl, h.pst⟩
theorem OfM.same {H' : Hp} (h : OfM c B A H a S) (s : Same H H') : OfM c B A H' a S :=
  h.keep (fun p x _ e => s _ _ e) (fun p x e _ => s _ _ e) (fun _ x => x) (fun _ x => .inl x) fun p b => by
    obtain ⟨u, e, m⟩ := h.BT p b
    exact ⟨u, s _ _ e, m⟩
/-- behind a draw -/
theorem OfM.pl {H' : Hp} {p s : Addr} (h : OfM c B A H a S) (P : Pl H H' p s) (np : ¬ A p) (bp : B p) : OfM c B A H' a S :=
  h.keep (fun q x hq e => P.keep e (fun z => np (z ▸ hq))) (fun q x e n => P.keep e (fun z => n (z ▸ bp))) (fun _ x => x) (fun _ x => .inl x) fun q b => by
    by_cases z : q = p
    · subst z
      obtain ⟨_, _, _, _, _, e, _⟩ := P.now
      exact ⟨_, e, trivial⟩
    · obtain ⟨u, e, m⟩ := h.BT q b
      exact ⟨u, P.keep e z, m⟩
theorem OfM.free (h : OfM c B A H a S) {q : Addr} (hq : H q = none) : ¬ B q := fun b => by
  obtain ⟨u, e, _⟩ := h.BT q b
  rw [hq] at e; cases e
theorem OfM.tup (h : OfM c B A H a S) {q : Addr} {xs : List V} (hq : H q = some (.tup xs)) : ¬ B q := fun b => by
  obtain ⟨u, e, m⟩ := h.BT q b
  rw [hq] at e
  cases e
  exact m
theorem DrAt.mono {CD : Addr} {B B' A A' : Addr → Prop} {H H' : Hp} {d : Dr} (h : DrAt CD B A H d) (s : Same (cutH B H) (cutH B' H')) (ha : A d.l → A' d.l) (hl : H' d.l = H d.l) : DrAt CD B' A' H' d := by
  obtain ⟨tx, us, h1, h2, h3, h4⟩ := h
  exact ⟨tx, us, s _ _ h1, ha h2, by rw [hl]; exact h3, h4.same s⟩
/-- a step of the office: its places A grow to A' -/
theorem OfM.to {A' : Addr → Prop} {H' : Hp} {a' : OA} {S' : OS} (h : OfM c B A H a S) (f : Fr A H A' H') (sub : ∀ p, A p → A' p) (hA : ∀ p, A' p → Mu c.CO (H' p)) (e1 : a'.o = a.o) (e2 : a'.dd = a.dd) (e3 : a'.pa = a.pa) (e4 : a'.cb = a.cb) (eb : a'.b = a.b) (eL : S'.L = S.L)
    (ho : H' a.o = some (.ins c.CO a'.dx (ofF a'.b a'.j a'.dd a'.pa S'.cl a'.cb))) (hdd : H' a.dd = some (.dK (DrK S'.ps))) (hpa : H' a.pa = some (.lst (S'.past.map fun (n : Nat) => V.int (n : Int)))) (hcb : H' a.cb = some (.lst (S'.cb.map V.int)))
    (jr : Same (cutH B H) (cutH (uni B A') H') → JAt c.K c.aT c.CJ c.CB (cutH (uni B A') H') a'.j a'.bj S'.L S'.us S'.xs) (x4 : S'.us.length ≤ 400)
    (dr : Same (cutH B H) (cutH (uni B A') H') → ∀ d ∈ S'.ps, DrAt c.CD (uni B A') A' H' d ∧ d.l ≠ a.pa ∧ d.l ≠ a.cb ∧ IsNm d.z ∧ d.es.length ≤ 20) (ndl : (S'.ps.map (·.l)).Nodup) (ndz : (S'.ps.map (·.z)).Nodup) (cbl : S'.cb.length = S'.xs.length) (pst : (S'.past ++ [S'.xs.length]).Pairwise (· ≤ ·)) : OfM c (uni B A') A' H' a' S' := by
  have s := f.cut h.AB
  obtain ⟨o', dx', b', j', bj', dd', pa', cb'⟩ := a'
  cases e1; cases e2; cases e3; cases e4; cases eb
  refine ⟨ho, hdd, hpa, hcb, sub _ h.Ao, sub _ h.Add, sub _ h.Apa, sub _ h.Acb, fun x hx => .inr hx, fun x hx => ?_, h.ne, by rw [eL]; exact h.bk.same s, jr s, x4, dr s, ndl, ndz, cbl, pst⟩
  rcases hx with hx | hx
  · by_cases c : A x
    · exact hA x (sub x c)
    · obtain ⟨u, e, m⟩ := h.BT x hx
      exact ⟨u, f.k _ _ e c, m⟩
  · exact hA x hx
theorem nodup_at {α β : Type} {f : α → β} : ∀ {l : List α}, (l.map f).Nodup → ∀ x ∈ l, ∀ y ∈ l, f x = f y → x = y
  | [], _, _, h, _, _, _ => nomatch h
  | a :: l, h, x, hx, y, hy, e => by
    rw [List.map_cons, List.nodup_cons] at h
    rcases List.mem_cons.mp hx with rfl | hx1
    · rcases List.mem_cons.mp hy with rfl | hy1
      · rfl
      · exact absurd (show f x ∈ l.map f from List.mem_map.mpr ⟨y, hy1, e.symm⟩) h.1
    · rcases List.mem_cons.mp hy with rfl | hy1
      · exact absurd (show f y ∈ l.map f from List.mem_map.mpr ⟨x, hx1, e⟩) h.1
      · exact nodup_at h.2 x hx1 y hy1 e
/-- one more entry in a draft -/
def OS.putd (S : OS) (z : Str) (x : Ent) : OS := { S with ps := S.ps.map fun d => if d.z = z then { d with es := d.es ++ [x] } else d }
theorem putd_map {γ : Type} (f : Dr → γ) (hf : ∀ d es, f { d with es := es } = f d) (S : OS) (z : Str) (x : Ent) : ((S.putd z x).ps.map f) = S.ps.map f := by
  show (S.ps.map _).map f = _
  rw [List.map_map]
  refine List.map_congr_left fun d _ => ?_
  show f (if d.z = z then { d with es := d.es ++ [x] } else d) = f d
  split
  · exact hf d _
  · rfl
theorem OfM.lne (h : OfM c B A H a S) {d : Dr} (hd : d ∈ S.ps) : d.l ≠ a.o ∧ d.l ≠ a.dd ∧ d.l ≠ a.pa ∧ d.l ≠ a.cb := by
  obtain ⟨⟨tx, us, h1, h2, h3, h4⟩, n1, n2, _⟩ := h.dr d hd
  exact ⟨ne_of h3 h.o (by intro z; cases z), ne_of h3 h.dd (by intro z; cases z), n1, n2⟩
theorem OfM.put (h : OfM c B A H a S) {H1 : Hp} {d : Dr} {e : Addr} {x : Ent} {us : List V} (s1 : Same H H1) (hd : d ∈ S.ps) (hl : H d.l = some (.lst us)) (hus : DEnts (cutH B H) us d.es) (he : DAt H1 e x) (ok : x.ok) (l20 : d.es.length < 20) :
    Fr A H A (upd H1 d.l (.lst (us ++ [.ref e]))) ∧ OfM c (uni B A) A (upd H1 d.l (.lst (us ++ [.ref e]))) a (S.putd d.z x) := by
  obtain ⟨n1, n2, n3, n4⟩ := h.lne hd
  obtain ⟨⟨tx, us0, h1, h2, h3, h4⟩, _⟩ := h.dr d hd
  have f : Fr A H A (upd H1 d.l (.lst (us ++ [.ref e]))) := ⟨fun q y hq nq => by rw [upd_ne (fun z : q = d.l => nq (by rw [z]; exact h2))]; exact s1 _ _ hq, fun _ q => .inl q⟩
  have hlk : H1 d.l = some (.lst us) := s1 _ _ hl
  have he' : cutH (uni B A) (upd H1 d.l (.lst (us ++ [.ref e]))) e = some (.tup x.vs.dropLast) := by
    have nb : ¬ B e := fun b => by
      obtain ⟨u, e1, m⟩ := h.BT e b
      have := s1 _ _ e1
      rw [he] at this
      cases this
      exact m
    refine cut_at (fun z => z.elim nb fun q => nb (h.AB _ q)) ?_
    have he0 : H1 e = some (.tup x.vs.dropLast) := he
    rw [upd_ne (fun z => by rw [z, hlk] at he0; cases he0)]
    exact he0
  refine ⟨f, h.to f (fun _ x => x) (fun p hp => ?_) rfl rfl rfl rfl rfl rfl (by rw [upd_ne n1.symm]; exact s1 _ _ h.o) ?_ (by rw [upd_ne n3.symm]; exact s1 _ _ h.pa) (by rw [upd_ne n4.symm]; exact s1 _ _ h.cb) (fun s => h.jr.same s) h.x4 (fun s d' hd' => ?_) ?_ ?_ h.cbl h.pst⟩
  · by_cases z : p = d.l
    · subst z
      exact ⟨_, upd_same, trivial⟩
    · obtain ⟨u, e1, m⟩ := h.BT p (h.AB p hp)
      exact ⟨u, by rw [upd_ne z]; exact s1 _ _ e1, m⟩
  · rw [upd_ne n2.symm]
    have e0 : DrK (S.putd d.z x).ps = DrK S.ps := putd_map (fun d => ((Sum.inr d.z : Key), V.ref d.t)) (fun _ _ => rfl) S d.z x
    rw [e0]
    exact s1 _ _ h.dd
  · obtain ⟨d0, hd0, e0⟩ := List.mem_map.mp (show d' ∈ S.ps.map fun d' => if d'.z = d.z then { d' with es := d'.es ++ [x] } else d' from hd')
    obtain ⟨D0, m1, m2, m3, m4⟩ := h.dr d0 hd0
    by_cases cz : d0.z = d.z
    · have : d0 = d := nodup_at h.ndz _ hd0 _ hd cz
      subst this
      rw [if_pos rfl] at e0
      subst e0
      refine ⟨⟨tx, us ++ [.ref e], s _ _ h1, h2, upd_same, (hus.same s).snoc he' ok⟩, m1, m2, m3, ?_⟩
      show (d0.es ++ [x]).length ≤ 20
      rw [List.length_append]
      exact l20
    · rw [if_neg cz] at e0
      subst e0
      have nl : d0.l ≠ d.l := fun z => cz (congrArg Dr.z (nodup_at h.ndl _ hd0 _ hd z))
      refine ⟨D0.mono s (fun x => x) ?_, m1, m2, m3, m4⟩
      rw [upd_ne nl]
      obtain ⟨_, _, _, _, q, _⟩ := D0
      rw [q, s1 _ _ q]
  · rw [putd_map (·.l) (fun _ _ => rfl)]
    exact h.ndl
  · rw [putd_map (·.z) (fun _ _ => rfl)]
    exact h.ndz
/-- a draft is gone -/
def OS.dropd (S : OS) (z : Str) : OS := { S with ps := S.ps.filter fun d => decide (d.z ≠ z) }
theorem DrK_drop (S : OS) (z : Str) : dropK (DrK S.ps) (Sum.inr z : Key) = DrK (S.dropd z).ps := by
  unfold dropK DrK OS.dropd
  rw [List.filter_map]
  congr 1
  refine List.filter_congr fun d _ => ?_
  show decide ((Sum.inr d.z : Key) ≠ Sum.inr z) = decide (d.z ≠ z)
  exact decide_eq_decide.mpr ⟨fun q e => q (congrArg _ e), fun q e => q (Sum.inr.inj e)⟩
theorem OfM.drop (h : OfM c B A H a S) {H1 : Hp} (s1 : Same H H1) (z : Str) : Fr A H A (upd H1 a.dd (.dK (DrK (S.dropd z).ps))) ∧ OfM c (uni B A) A (upd H1 a.dd (.dK (DrK (S.dropd z).ps))) a (S.dropd z) := by
  have f : Fr A H A (upd H1 a.dd (.dK (DrK (S.dropd z).ps))) := ⟨fun q y hq nq => by rw [upd_ne (fun z : q = a.dd => nq (by rw [z]; exact h.Add))]; exact s1 _ _ hq, fun _ q => .inl q⟩
  have no : a.o ≠ a.dd := ne_of h.o h.dd (by intro z; cases z)
  have np : a.pa ≠ a.dd := ne_of h.pa h.dd (by intro z; cases z)
  have nc : a.cb ≠ a.dd := ne_of h.cb h.dd (by intro z; cases z)
  refine ⟨f, h.to f (fun _ x => x) (fun p hp => ?_) rfl rfl rfl rfl rfl rfl (by rw [upd_ne no]; exact s1 _ _ h.o) upd_same (by rw [upd_ne np]; exact s1 _ _ h.pa) (by rw [upd_ne nc]; exact s1 _ _ h.cb) (fun s => h.jr.same s) h.x4 (fun s d' hd' => ?_) ?_ ?_ h.cbl h.pst⟩
  · by_cases q : p = a.dd
    · subst q
      exact ⟨_, upd_same, trivial⟩
    · obtain ⟨u, e1, m⟩ := h.BT p (h.AB p hp)
      exact ⟨u, by rw [upd_ne q]; exact s1 _ _ e1, m⟩
  · have hd0 : d' ∈ S.ps := (List.mem_filter.mp hd').1
    obtain ⟨D0, m⟩ := h.dr d' hd0
    refine ⟨D0.mono s (fun x => x) ?_, m⟩
    rw [upd_ne (h.lne hd0).2.1]
    obtain ⟨_, _, _, _, q, _⟩ := D0
    rw [q, s1 _ _ q]
  · exact h.ndl.sublist ((List.filter_sublist).map _)
  · exact h.ndz.sublist ((List.filter_sublist).map _)
theorem OfM.val (h : OfM c B A H a S) (z : Str) : valV (DrK S.ps) (Sum.inr z : Key) = (S.find z).map fun d => V.ref d.t := DrK_val S.ps z
end
end Ash

set_option Elab.async false
set_option linter.all false
set_option maxRecDepth 100000
set_option maxHeartbeats 4000000
namespace Ash
open PySem PySem.Spec PyProof.Rows L2
open C8 (pss_cut)
/-! ### the office's smaller deeds -/
def StrOk (K : PySem.W.Frag) (H : Hp) (v : V) : Prop := (∃ z, v = .str z ∧ z.length ≤ sizeLine) ∨ NotStr K H v
def wfind (S : OS) : V → Option Dr
  | .str z => S.find z
  | _ => none
def isNmV : V → Bool
  | .str z => nmB z
  | _ => false
def spDraftO (c : Cls6) (CI : Addr) : Sp := fun vs H Q E => ∃ (B A : Addr → Prop) (a : OA) (S : OS) (v : V), vs = [.ref a.o, v] ∧ OfM c B A H a S ∧ StrOk c.K H v ∧
  (∀ d H', wfind S v = some d → Same H H' → Q (.ref d.t) H') ∧ (∀ e H', wfind S v = none → Same H H' → Xd H' e "writer" v → E (.ref CI) (some e) H')
def spBeginO (c : Cls6) (CN CY : Addr) : Sp := fun vs H Q E => ∃ (B A : Addr → Prop) (a : OA) (S : OS) (v : V), vs = [.ref a.o, v] ∧ OfM c B A H a S ∧ StrOk c.K H v ∧ S.ps.length < 900 ∧
  (∀ z t l A' H', v = .str z → nmB z = true → S.find z = none → Fr A H A' H' → (∀ p, A' p ↔ A p ∨ p = l) → OfM c (uni B A') A' H' a { S with ps := S.ps ++ [⟨z, t, l, S.cl, []⟩] } → Q .non H') ∧
  (∀ d e H', wfind S v = some d → Same H H' → Xd H' e "writer" v → E (.ref CY) (some e) H') ∧
  (∀ e H', isNmV v = false → Same H H' → Xd H' e "value" v → E (.ref CN) (some e) H')
def InB (L : List (Str × Int)) (x : Ent) : Prop := ∀ id s k m a r, x = .row id s k m a r → (L.lookup s).isSome
def spPutO (c : Cls6) (CI CE : Addr) : Sp := fun vs H Q E => ∃ (B A : Addr → Prop) (a : OA) (S : OS) (v : V) (en : Addr) (x : Ent), vs = [.ref a.o, v, .ref en] ∧ OfM c B A H a S ∧ StrOk c.K H v ∧ DAt H en x ∧ x.ok ∧
  (∀ d H', wfind S v = some d → d.es.length < 20 → InB S.L x → Fr A H A H' → OfM c (uni B A) A H' a (S.putd d.z x) → Q .non H') ∧
  (∀ d e H', wfind S v = some d → (d.es.length = 20 ∨ ¬ InB S.L x) → Same H H' → Xd H' e "at" (.int d.es.length) → E (.ref CE) (some e) H') ∧
  (∀ e H', wfind S v = none → Same H H' → Xd H' e "writer" v → E (.ref CI) (some e) H')
def spDropO (c : Cls6) (CI : Addr) : Sp := fun vs H Q E => ∃ (B A : Addr → Prop) (a : OA) (S : OS) (v : V), vs = [.ref a.o, v] ∧ OfM c B A H a S ∧ StrOk c.K H v ∧
  (∀ d H', wfind S v = some d → Fr A H A H' → OfM c (uni B A) A H' a (S.dropd d.z) → Q .non H') ∧
  (∀ e H', wfind S v = none → Same H H' → Xd H' e "writer" v → E (.ref CI) (some e) H')
def WithN (H : Hp) (us : List V) (es : List Ent) (w : V) : Prop := us.length = es.length ∧ ∀ (i : Nat) v x, us[i]? = some v → es[i]? = some x → ∃ e, v = .ref e ∧ H e = some (.tup (x.vs.dropLast ++ [w])) ∧ x.ok
def spTellO (c : Cls6) (CI : Addr) : Sp := fun vs H Q E => ∃ (B A : Addr → Prop) (a : OA) (S : OS) (v : V), vs = [.ref a.o, v] ∧ OfM c B A H a S ∧ StrOk c.K H v ∧
  (∀ d l us H', wfind S v = some d → Same H H' → H l = none → H' l = some (.lst us) → WithN H' us d.es .non → Q (.ref l) H') ∧
  (∀ e H', wfind S v = none → Same H H' → Xd H' e "writer" v → E (.ref CI) (some e) H')
def spWritersO (c : Cls6) : Sp := fun vs H Q _ => ∃ (B A : Addr → Prop) (a : OA) (S : OS), vs = [.ref a.o] ∧ OfM c B A H a S ∧ S.ps.length < 64 ∧
  ∀ ys l H', ys.Perm (S.ps.map (·.z)) → sortedS ys = true → Same H H' → H l = none → H' l = some (.lst (ys.map V.str)) → Q (.ref l) H'
structure Cst2 (mg : Str → Option Value) : Prop where
  k_LD : ∃ t, mg "LONGEST_DRAFT" = some (.int 20 t)
section
variable {P : Program} {w : World} {mg : Str → Option Value} {base : Heap} {c : Cls6}
/-- what the office's deeds rest on -/
structure GO (P : Program) (w : World) (mg : Str → Option Value) (base : Heap) (c : Cls6) (CE CI CN CY fE fI fN fY : Addr) : Prop extends K8N P w c.K mg base c.CB c.aT c.CJ CE where
  T : Co c.K mg c.CO
  TB : Cb c.K mg c.CB
  TJ : Cj P c.K mg c.CJ c.CB
  TD : Cd c.K mg c.CD
  TE : PySem.BadX.Txt P c.K mg "at" "at" CE fE
  TI : PySem.BadX.Txt P c.K mg "writer" "writer" CI fI
  TN : PySem.BadX.Txt P c.K mg "value" "value" CN fN
  TY : PySem.BadX.Txt P c.K mg "writer" "writer" CY fY
  c_BadEntry : mg "BadEntry" = some (.ref CE)
  c_Idle : mg "Idle" = some (.ref CI)
  c_BadName : mg "BadName" = some (.ref CN)
  c_Busy : mg "Busy" = some (.ref CY)
  Draft : Mak P w c.K mg base CX0 "Draft" c.CD 1 ["self", "begun"] (spDraftInit c.CD)
  has : Met P w c.K mg base CX0 c.CB "has" 2 ["self", "stream"] (spHas c.CB)
  C1 : Cst mg
  C2 : Cst2 mg
variable {CE CI CN CY fE fI fN fY : Addr}
theorem notStr_nm {K : PySem.W.Frag} {H : Hp} {v : V} (h : NotStr K H v) : isNmV v = false := by
  cases v with
  | str z =>
    obtain ⟨t, ty, k⟩ := h
    cases ty with
    | base b =>
      cases b with
      | _ =>
        rw [show PySem.W.kitOne K (.type "str") (.type "str") = some true from kit_ty (by decide +kernel)] at k
        cases k
  | _ => rfl
theorem OfM.named {B A : Addr → Prop} {H : Hp} {a : OA} {S : OS} (h : OfM c B A H a S) {z : Str} (n : nmB z = false) : S.find z = none := by
  cases e : S.find z with
  | none => rfl
  | some d =>
    obtain ⟨h1, h2⟩ := h.find e
    rw [← h2, (nmB_iff _).mpr (h.dr d h1).2.2.2.1] at n
    cases n
theorem OfM.getd {B A : Addr → Prop} {H : Hp} {a : OA} {S : OS} (h : OfM c B A H a S) {v : V} (n : isNmV v = false) : wfind S v = none := by
  cases v with
  | str z => exact h.named n
  | _ => rfl
theorem ok_draftO {f : Addr} {fd : FuncData} (F : Fun c.K "_draft_of" "Office._draft_of" s_Officedraft_of f fd) (G : GO P w mg base c CE CI CN CY fE fI fN fY) : FnOk P w c.K mg base (L2.CX P w) 2 f fd ["self", "writer"] (spDraftO c CI) := by
  have T := G.T
  have TI := G.TI
  have c_Idle := G.c_Idle
  refine F.okX sc_Officedraft_of (fun vs H Q E h => ?_) (fun cdv A0 outer s H vs Q E hr h => ?_)
  · obtain ⟨B, A, a, S, v, rfl, _⟩ := h
    rfl
  · obtain ⟨B, A, a, S, v, rfl, M, hv, q, qi⟩ := h
    have hu := hu_of hr
    refine ⟨_, (pss_cons (ps_if (PW.pt (pw_or (pt_not (pt_val (pe_cal G.is_name (hr.mono (by decide)) pass0 (pa_cons (pv 1) pa_nil)))) (pw_or1 (pt_cmp (pc_dnotin hu (pv 1) (pe_fld (pv 0) rfl)) rfl))))
      (pss_one (ps_raiseB rfl TI par_writer c_Idle (hr.mono (Nat.zero_le _)) (takes_of rfl rfl rfl rfl) (pa_cons (pv 1) pa_nil) (by rfl)))
      pss_nil)
    (pss_one (ps_ret (pe_dget hu (pe_fld (pv 0) rfl) (pv 1) (fun _ _ => rfl))))), ?_⟩
    rcases hv with ⟨z, rfl, hz⟩ | hn
    rotate_left
    · exact ⟨_, rfl, v, rfl, .inr ⟨hn, ⟨_, rfl, iteT ⟨_, rfl, _, rfl, fun d hd => qi d _ (M.getd (notStr_nm hn)) (sameAt (Same.refl H) hd) upd_same⟩⟩⟩⟩
    refine ⟨_, rfl, _, rfl, .inl ⟨z, rfl, hz, fun H1 s1 => ⟨_, rfl, ?_⟩⟩⟩
    cases eN : nmB z with
    | false => exact iteT ⟨_, rfl, _, rfl, fun d hd => qi d _ (M.named eN) (s1.trans (sameAt (Same.refl H1) hd)) upd_same⟩
    | true =>
      have M1 := M.same s1
      have hg := DGet.k (k := Sum.inr z) M1.dd
      rw [M1.val] at hg
      cases ez : S.find z with
      | none =>
        rw [ez] at hg
        refine iteF ⟨_, rfl, _, rfl, a.o, c.CO, a.dx, _, _, rfl, M1.o, T.cl, T.nD, rfl, a.dd, _, rfl, hg, _, rfl, iteT ?_⟩
        exact ⟨_, rfl, _, rfl, fun d hd => qi d _ ez (s1.trans (sameAt (Same.refl H1) hd)) upd_same⟩
      | some d =>
        rw [ez] at hg
        refine iteF ⟨_, rfl, _, rfl, a.o, c.CO, a.dx, _, _, rfl, M1.o, T.cl, T.nD, rfl, a.dd, _, rfl, hg, _, rfl, iteF ?_⟩
        exact ⟨_, rfl, a.o, c.CO, a.dx, _, _, rfl, M1.o, T.cl, T.nD, rfl, _, rfl, a.dd, _, rfl, hg, q d _ ez s1⟩
theorem OfM.begin_ {B A : Addr → Prop} {H : Hp} {a : OA} {S : OS} (h : OfM c B A H a S) {H1 : Hp} (s1 : Same H H1) {z : Str} {t tx l : Addr} (hz : IsNm z) (ez : S.find z = none) (nl : H l = none) (ht : H1 t = some (.ins c.CD tx (dftF S.cl l))) (nt : H t = none) (hl : H1 l = some (.lst [])) :
    Fr A H (fun p => A p ∨ p = l) (upd H1 a.dd (.dK (DrK (S.ps ++ [⟨z, t, l, S.cl, []⟩])))) ∧ OfM c (uni B fun p => A p ∨ p = l) (fun p => A p ∨ p = l) (upd H1 a.dd (.dK (DrK (S.ps ++ [⟨z, t, l, S.cl, []⟩])))) a { S with ps := S.ps ++ [⟨z, t, l, S.cl, []⟩] } := by
  have f : Fr A H (fun p => A p ∨ p = l) (upd H1 a.dd (.dK (DrK (S.ps ++ [⟨z, t, l, S.cl, []⟩])))) := ⟨fun q y hq nq => by rw [upd_ne (fun z : q = a.dd => nq (by rw [z]; exact h.Add))]; exact s1 _ _ hq, fun p q => q.imp id fun e => by rw [e]; exact nl⟩
  have no : a.o ≠ a.dd := ne_of h.o h.dd (by intro z; cases z)
  have np : a.pa ≠ a.dd := ne_of h.pa h.dd (by intro z; cases z)
  have nc : a.cb ≠ a.dd := ne_of h.cb h.dd (by intro z; cases z)
  have ld : l ≠ a.dd := fun z => by rw [z, h.dd] at nl; cases nl
  have td : t ≠ a.dd := fun z => by rw [z, h.dd] at nt; cases nt
  refine ⟨f, h.to f (fun _ x => .inl x) (fun p hp => ?_) rfl rfl rfl rfl rfl rfl (by rw [upd_ne no]; exact s1 _ _ h.o) upd_same (by rw [upd_ne np]; exact s1 _ _ h.pa) (by rw [upd_ne nc]; exact s1 _ _ h.cb) (fun s => h.jr.same s) h.x4 (fun s d' hd' => ?_) ?_ ?_ h.cbl h.pst⟩
  · by_cases q : p = a.dd
    · subst q
      exact ⟨_, upd_same, trivial⟩
    · rcases hp with hp | rfl
      · obtain ⟨u, e1, m⟩ := h.BT p (h.AB p hp)
        exact ⟨u, by rw [upd_ne q]; exact s1 _ _ e1, m⟩
      · exact ⟨.lst [], by rw [upd_ne q]; exact hl, trivial⟩
  · rcases List.mem_append.mp hd' with hd0 | hd0
    · obtain ⟨D0, m⟩ := h.dr d' hd0
      refine ⟨D0.mono s (fun x => .inl x) ?_, m⟩
      rw [upd_ne (h.lne hd0).2.1]
      obtain ⟨_, _, _, _, q, _⟩ := D0
      rw [q, s1 _ _ q]
    · obtain rfl := List.mem_singleton.mp hd0
      refine ⟨⟨tx, [], cut_at (fun b => ?_) ?_, .inr rfl, ?_, rfl, fun i v x e => nomatch e⟩, ?_, ?_, hz, Nat.zero_le _⟩
      · rcases b with b | b | b
        · exact h.free nt b
        · exact h.free nt (h.AB _ b)
        · have b : t = l := b
          rw [b, hl] at ht
          cases ht
      · show upd _ _ _ t = _
        rw [upd_ne td]
        exact ht
      · show upd _ _ _ l = _
        rw [upd_ne ld]
        exact hl
      · exact fun z => by have z : l = a.pa := z; rw [z, h.pa] at nl; cases nl
      · exact fun z => by have z : l = a.cb := z; rw [z, h.cb] at nl; cases nl
  · show ((S.ps ++ [_]).map _).Nodup
    rw [List.map_append, List.nodup_append]
    refine ⟨h.ndl, List.pairwise_singleton _ _, fun x hx y hy e => ?_⟩
    obtain ⟨d0, hd0, rfl⟩ := List.mem_map.mp hx
    obtain rfl := List.mem_singleton.mp hy
    obtain ⟨⟨_, _, _, _, q, _⟩, _⟩ := h.dr d0 hd0
    rw [e] at q
    rw [nl] at q
    cases q
  · show ((S.ps ++ [_]).map _).Nodup
    rw [List.map_append, List.nodup_append]
    refine ⟨h.ndz, List.pairwise_singleton _ _, fun x hx y hy e => ?_⟩
    obtain ⟨d0, hd0, rfl⟩ := List.mem_map.mp hx
    obtain rfl := List.mem_singleton.mp hy
    have := (List.find?_eq_none.mp ez) d0 hd0
    exact this (by simpa using e)
abbrev s_Office_begin : Stmt := inClass (topS 39) 2
theorem sc_Office_begin : FnScope ["self", "writer"] ["self", "writer"] (defScope s_Office_begin) := ⟨rfl, rfl, rfl, by decide +kernel, rfl, by decide +kernel, by decide +kernel⟩
theorem ok_beginO {f : Addr} {fd : FuncData} (F : Fun c.K "begin" "Office.begin" s_Office_begin f fd) (G : GO P w mg base c CE CI CN CY fE fI fN fY) : FnOk P w c.K mg base (L2.CX P w) 3 f fd ["self", "writer"] (spBeginO c CN CY) := by
  have T := G.T
  refine F.okX sc_Office_begin (fun vs H Q E h => ?_) (fun cdv A0 outer s H vs Q E hr h => ?_)
  · obtain ⟨B, A, a, S, v, rfl, _⟩ := h
    rfl
  · obtain ⟨B, A, a, S, v, rfl, M, hv, h9, q, qy, qn⟩ := h
    have hu := hu_of hr
    refine ⟨_, (pss_cons (ps_if (pt_not (pt_val (pe_cal G.is_name (hr.mono (by decide)) pass0 (pa_cons (pv 1) pa_nil))))
      (pss_one (ps_raiseB rfl G.TN par_value G.c_BadName (hr.mono (Nat.zero_le _)) (takes_of rfl rfl rfl rfl) (pa_cons (pv 1) pa_nil) (by rfl)))
      pss_nil)
    (pss_cons (ps_if (pt_cmp (pc_din hu (pv 1) (pe_fld (pv 0) rfl)) rfl)
      (pss_one (ps_raiseB rfl G.TY par_writer G.c_Busy (hr.mono (Nat.zero_le _)) (takes_of rfl rfl rfl rfl) (pa_cons (pv 1) pa_nil) (by rfl)))
      pss_nil)
    (pss_one (ps_dput hu (pe_fld (pv 0) rfl) (pv 1) (pe_mak G.Draft (hr.mono (by decide)) pass0 (pa_cons (pe_fld (pv 0) rfl) pa_nil)) rfl)))), ?_⟩
    rcases hv with ⟨z, rfl, hz⟩ | hn
    rotate_left
    · exact ⟨_, rfl, v, rfl, .inr ⟨hn, ⟨_, rfl, iteT ⟨_, rfl, _, rfl, fun d hd => qn d _ (notStr_nm hn) (sameAt (Same.refl H) hd) upd_same⟩⟩⟩⟩
    refine ⟨_, rfl, _, rfl, .inl ⟨z, rfl, hz, fun H1 s1 => ⟨_, rfl, ?_⟩⟩⟩
    cases eN : nmB z with
    | false => exact iteT ⟨_, rfl, _, rfl, fun d hd => qn d _ eN (s1.trans (sameAt (Same.refl H1) hd)) upd_same⟩
    | true =>
      have M1 := M.same s1
      have hg := DGet.k (k := Sum.inr z) M1.dd
      rw [M1.val] at hg
      cases ez : S.find z with
      | some d =>
        rw [ez] at hg
        refine iteF ⟨_, rfl, _, rfl, a.o, c.CO, a.dx, _, _, rfl, M1.o, T.cl, T.nD, rfl, a.dd, _, rfl, hg, _, rfl, iteT ?_⟩
        exact ⟨_, rfl, _, rfl, fun e hd => qy d e _ ez (s1.trans (sameAt (Same.refl H1) hd)) upd_same⟩
      | none =>
        rw [ez] at hg
        refine iteF ⟨_, rfl, _, rfl, a.o, c.CO, a.dx, _, _, rfl, M1.o, T.cl, T.nD, rfl, a.dd, _, rfl, hg, _, rfl, iteF ?_⟩
        refine ⟨_, rfl, a.o, c.CO, a.dx, _, _, rfl, M1.o, T.cl, T.nC, rfl, fun t tx nt ntx ne => ?_⟩
        have s2 : Same H1 (upd (upd H1 tx (.own t)) t (.ins c.CD tx [])) := (sameAt (Same.refl _) ntx).trans (sameAt (Same.refl _) (by rw [upd_ne (Ne.symm ne)]; exact nt))
        have ht2 : (upd (upd H1 tx (.own t)) t (.ins c.CD tx [])) t = some (.ins c.CD tx []) := upd_same
        refine ⟨t, tx, S.cl, rfl, ht2, fun l H3 hl h3t h3l k3 => ?_⟩
        have s13 : Same H1 H3 := fun c x hc => k3 c x (s2 _ _ hc) (fun e => by rw [e, nt] at hc; cases hc)
        have M3 := M1.same s13
        refine ⟨rfl, _, rfl, a.o, c.CO, a.dx, _, _, rfl, M3.o, T.cl, T.nD, rfl, _, rfl, a.dd, _, rfl, DPut.k (k := Sum.inr z) M3.dd (small1000 (by unfold DrK; rw [List.length_map]; omega)), ?_⟩
        have e0 : putK (DrK S.ps) (Sum.inr z) (V.ref t) = DrK (S.ps ++ [⟨z, t, l, S.cl, []⟩]) := by
          rw [putK_new _ (by rw [DrK_val]; show Option.map _ (S.find z) = none; rw [ez]; rfl)]
          unfold DrK
          rw [List.map_append]
          rfl
        rw [e0]
        have ht0 := no_of s1 nt
        have hl0 := no_of (s1.trans s2) hl
        obtain ⟨fr, MF⟩ := M.begin_ (s1.trans s13) ((nmB_iff z).mp eN) ez hl0 h3t ht0 h3l
        exact q z t l _ _ rfl eN ez fr (fun p => Iff.rfl) MF
end
end Ash

set_option Elab.async false
set_option linter.all false
set_option maxRecDepth 100000
set_option maxHeartbeats 4000000
namespace Ash
open PySem PySem.Spec PyProof.Rows L2
open C8 (pss_cut)
section
variable {P : Program} {w : World} {mg : Str → Option Value} {base : Heap} {c : Cls6} {CE CI CN CY fE fI fN fY : Addr}
structure GO2 (P : Program) (w : World) (mg : Str → Option Value) (base : Heap) (c : Cls6) (CE CI CN CY fE fI fN fY : Addr) : Prop extends GO P w mg base c CE CI CN CY fE fI fN fY where
  draft_of : Met P w c.K mg base (L2.CX P w) c.CO "_draft_of" 2 ["self", "writer"] (spDraftO c CI)
theorem vs_drop (x : Ent) (r : Int) : ∃ y : Ent, y.vs = x.vs.dropLast ++ [.int r] ∧ y.id = x.id ∧ (x.ok → y.ok) ∧ y.arr = r ∧ (∀ L, InB L x → InB L y) := by
  cases x with
  | row id s k m a q => exact ⟨.row id s k m a r, rfl, rfl, fun h => ⟨h.1, fun _ _ _ _ _ _ e => by cases e; exact h.2 _ _ _ _ _ _ rfl⟩, rfl, fun L h _ _ _ _ _ _ e => by cases e; exact h _ _ _ _ _ _ rfl⟩
  | fix id m a q => exact ⟨.fix id m a r, rfl, rfl, fun h => ⟨h.1, fun _ _ _ _ _ _ e => by cases e⟩, rfl, fun L h _ _ _ _ _ _ e => by cases e⟩
  | gone id q => exact ⟨.gone id r, rfl, rfl, fun h => ⟨h.1, fun _ _ _ _ _ _ e => by cases e⟩, rfl, fun L h _ _ _ _ _ _ e => by cases e⟩
theorem vs_len (x : Ent) : x.vs.length ≤ sizeLine := by
  rw [sizeLine_eq]
  cases x <;> (show _ ≤ 16777216; simp [Ent.vs])
abbrev s_Officeput : Stmt := inClass (topS 39) 11
theorem sc_Officeput : FnScope ["self", "writer", "entry", "entries"] ["self", "writer", "entry"] (defScope s_Officeput) := ⟨rfl, rfl, rfl, by decide +kernel, rfl, by decide +kernel, by decide +kernel⟩
theorem ok_putO {f : Addr} {fd : FuncData} (F : Fun c.K "_put" "Office._put" s_Officeput f fd) (B : Blt mg) (G : GO2 P w mg base c CE CI CN CY fE fI fN fY) : FnOk P w c.K mg base (L2.CX P w) 4 f fd ["self", "writer", "entry"] (spPutO c CI CE) := by
  have T := G.T
  have TD := G.TD
  have TB := G.TB
  obtain ⟨t1, g_LONGEST_DRAFT⟩ := G.C2.k_LD
  refine F.okX sc_Officeput (fun vs H Q E h => ?_) (fun cdv A0 outer s H vs Q E hr h => ?_)
  · obtain ⟨B, A, a, S, v, en, x, rfl, _⟩ := h
    rfl
  · obtain ⟨B', A, a, S, v, en, x, rfl, M, hv, he, ok, q, qe, qi⟩ := h
    have hu := hu_of hr
    refine ⟨_, (pss_cons (ps_set (i := 3) sc_Officeput.nd rfl (Or.inl rfl) (pe_fld (pe_met T.cl G.draft_of (hr.mono (by decide)) (passE (takes_of rfl rfl rfl rfl)) (pv 0) (pa_cons (pv 1) pa_nil)) rfl))
    (pss_cons (ps_if (PW.pt (pw_or (pt_cmpR op_eq (pe_callB call_len_seq (by rfl) B.len (by decide +kernel) (pa_cons (pv 3) pa_nil)) (pe_glob (v := .int 20) (by rfl) g_LONGEST_DRAFT ⟨_, rfl⟩) (nomark _)) (pw_or1 (pt_not (pt_val (pe_cal G.is_entry (hr.mono (by decide)) pass0 (pa_cons (pe_tup (StX.pa_star (pv 2) (pa_cons pe_int pa_nil))) pa_nil)))))))
      (pss_one (ps_raiseB rfl G.TE par_at G.c_BadEntry (hr.mono (Nat.zero_le _)) (takes_of rfl rfl rfl rfl) (pa_cons (pe_callB call_len_seq (by rfl) B.len (by decide +kernel) (pa_cons (pv 3) pa_nil)) pa_nil) (by rfl)))
      pss_nil)
    (pss_cons (ps_if (PW.pt (pw_and (pt_cmpR op_eq (pe_ix ix_tup (pv 2) pe_int (fun _ _ => rfl)) pe_str (nomark _)) (pw_and1 (pt_not (pt_val (pe_met TB.cl G.has (hr.mono (by decide)) pass0 (pe_fld (pv 0) rfl) (pa_cons (pe_ix ix_tup (pv 2) pe_int (fun _ _ => rfl)) pa_nil)))))))
      (pss_one (ps_raiseB rfl G.TE par_at G.c_BadEntry (hr.mono (Nat.zero_le _)) (takes_of rfl rfl rfl rfl) (pa_cons (pe_callB call_len_seq (by rfl) B.len (by decide +kernel) (pa_cons (pv 3) pa_nil)) pa_nil) (by rfl)))
      pss_nil)
    (pss_one (ps_expr (pe_bm PySem.F.plainAttrs_list PySem.F.slot_list_append PySem.F.type_list_append mt_append (pv 3) (pa_cons (pv 2) pa_nil))))))), ?_⟩
    refine ⟨_, rfl, a.o, a.dx, _, rfl, M.o, rfl, _, rfl, B', A, a, S, v, rfl, M, hv, fun d H1 ed s1 => ?_, fun e H1 en s1 x => ?_⟩
    · have M1 := M.same s1
      obtain ⟨tx, us, hft, hA, hl, hd⟩ := (M1.dr d (by cases v with | str z => exact (M.find ed).1 | _ => cases ed)).1
      refine ⟨d.t, c.CD, tx, _, _, rfl, (cut_same _ _ _ _ hft), TD.cl, TD.nE, rfl, ?_⟩
      have hl1 : H1 d.l = some (.lst us) := hl
      have m1 := hd.1
      have l20 := (M1.dr d (by cases v with | str z => exact (M.find ed).1 | _ => cases ed)).2.2.2.2
      have e20 : decide (V.int (us.length : Int) = V.int 20) = decide (d.es.length = 20) := decide_eq_decide.mpr ⟨fun z => by have := V.int.inj z; omega, fun z => by rw [m1, z]; rfl⟩
      have bad : (d.es.length = 20 ∨ ¬ InB S.L x) → ∀ H2, Same H1 H2 → ∃ p ys, [V.ref d.l] = [V.ref p] ∧ (SqL c.K H2 p ys ∨ SqT c.K H2 p ys) ∧ ∃ vv, [V.int (ys.length : Int)] = [vv] ∧ ∀ e, H2 e = none → E (.ref CE) (some e) (upd H2 e (.xd [("at", vv)])) := fun hb H2 s2 =>
        ⟨d.l, us, rfl, .inl (SqL.of (s2 _ _ hl1)), _, rfl, fun e hx => by rw [m1]; exact qe d e _ ed hb ((s1.trans s2).trans (sameAt (Same.refl _) hx)) upd_same⟩
      refine ⟨_, rfl, d.l, us, rfl, .inl (SqL.of hl1), rfl, _, rfl, ?_⟩
      rw [e20]
      by_cases c20 : d.es.length = 20
      · rw [decide_eq_true c20]
        exact iteT ⟨_, rfl, bad (.inl c20) H1 (Same.refl _)⟩
      rw [decide_eq_false c20]
      have he1 : H1 en = some (.tup x.vs.dropLast) := s1 _ _ he
      obtain ⟨y, ey, yid, yok, yarr, yin⟩ := vs_drop x 0
      refine iteF ⟨_, rfl, en, _, rfl, .inl (SqT.of he1), (by rw [← ey]; exact vs_len y), fun t ht => ?_⟩
      have s2 : Same H1 (upd H1 t (.tup (x.vs.dropLast ++ [V.int 0]))) := sameAt (Same.refl _) ht
      refine ⟨_, rfl, .inl ⟨t, y, rfl, by unfold EntAt; rw [upd_same, ey], yok ok, fun H2 s3 => ⟨_, rfl, iteF ?_⟩⟩⟩
      have s12 := s2.trans s3
      have he2 := s12 _ _ he1
      have M2 := M1.same s12
      have hl2 : H2 d.l = some (.lst us) := s12 _ _ hl1
      have d2 : d ∈ S.ps := by cases v with | str z => exact (M.find ed).1 | _ => cases ed
      have sz : us.length < sizeLine := small1000 (by omega)
      have fin : InB S.L x → ∀ H3, Same H2 H3 → Q .non (upd H3 d.l (.lst (us ++ [.ref en]))) := fun hi H3 s3 => by
        have s13 := (s1.trans s12).trans s3
        obtain ⟨tx0, us0, _, _, q0, q4⟩ := (M.dr d d2).1
        have h0 := q0
        rw [s1 _ _ q0] at hl1
        cases hl1
        obtain ⟨fr, MF⟩ := M.put s13 d2 h0 q4 (s13 _ _ he) ok (by omega)
        exact q d _ ed (by omega) hi fr MF
      cases x with
      | row number s k m am r =>
        refine ⟨_, rfl, _, _, _, _, rfl, rfl, SqT.of he2, rfl, rfl, _, rfl, iteT ?_⟩
        have hn := (ok.2 _ _ _ _ _ _ rfl).1
        have hbk : BookAt c.CB H2 a.b S.L := M2.bk.same (cut_same _ _)
        obtain ⟨bx, bd, L', b1, b2⟩ := id hbk
        refine ⟨_, rfl, a.o, c.CO, a.dx, _, _, rfl, M2.o, T.cl, T.nB, rfl, a.b, bx, _, rfl, b1, rfl, _, rfl, _, _, _, _, rfl, rfl, SqT.of he2, rfl, a.b, S.L, s, rfl, hbk, hn, fun H3 s3 => ⟨_, rfl, ?_⟩⟩
        cases el : (S.L.lookup s).isSome with
        | false => exact iteT ⟨_, rfl, bad (.inr fun z => by have := z _ _ _ _ _ _ rfl; rw [el] at this; cases this) H3 (s12.trans s3)⟩
        | true => exact iteF ⟨_, rfl, .inl ⟨rfl, _, SqL.of (s3 _ _ hl2)⟩, _, rfl, d.l, _, _, rfl, rfl, s3 _ _ hl2, sz, fin (fun _ _ _ _ _ _ e => by cases e; exact el) H3 s3⟩
      | fix number m am r =>
        exact ⟨_, rfl, _, _, _, _, rfl, rfl, SqT.of he2, rfl, rfl, _, rfl, iteF (iteF ⟨_, rfl, .inl ⟨rfl, _, SqL.of hl2⟩, _, rfl, d.l, _, _, rfl, rfl, hl2, sz, fin (fun _ _ _ _ _ _ e => by cases e) H2 (Same.refl _)⟩)⟩
      | gone number r =>
        exact ⟨_, rfl, _, _, _, _, rfl, rfl, SqT.of he2, rfl, rfl, _, rfl, iteF (iteF ⟨_, rfl, .inl ⟨rfl, _, SqL.of hl2⟩, _, rfl, d.l, _, _, rfl, rfl, hl2, sz, fin (fun _ _ _ _ _ _ e => by cases e) H2 (Same.refl _)⟩)⟩
    · exact qi e H1 en s1 x
end
end Ash

set_option Elab.async false
set_option linter.all false
set_option maxRecDepth 100000
set_option maxHeartbeats 4000000
namespace Ash
open PySem PySem.Spec PyProof.Rows L2
open C8 (pss_cut)
theorem Fr.pre {A A' : Addr → Prop} {H H1 H' : Hp} (s : Same H H1) (f : Fr A H1 A' H') : Fr A H A' H' := ⟨fun c x h n => f.k c x (s _ _ h) n, fun c h => (f.g c h).imp id fun e => no_of s e⟩
theorem Fr.post {A A' : Addr → Prop} {H H1 H' : Hp} (f : Fr A H A' H1) (s : Same H1 H') : Fr A H A' H' := ⟨fun c x h n => s _ _ (f.k c x h n), f.g⟩
def PutOut (c : Cls6) (CI CE : Addr) (B A : Addr → Prop) (H : Hp) (a : OA) (S : OS) (v : V) (x : Ent) (Q : VK) (E : XK) : Prop :=
  (∀ d H', wfind S v = some d → d.es.length < 20 → InB S.L x → Fr A H A H' → OfM c (uni B A) A H' a (S.putd d.z x) → Q .non H') ∧
  (∀ d e H', wfind S v = some d → (d.es.length = 20 ∨ ¬ InB S.L x) → Same H H' → Xd H' e "at" (.int d.es.length) → E (.ref CE) (some e) H') ∧
  (∀ e H', wfind S v = none → Same H H' → Xd H' e "writer" v → E (.ref CI) (some e) H')
theorem PutOut.pre {c : Cls6} {CI CE : Addr} {B A : Addr → Prop} {H H1 : Hp} {a : OA} {S : OS} {v : V} {x : Ent} {Q : VK} {E : XK} (h : PutOut c CI CE B A H a S v x Q E) (s : Same H H1) : PutOut c CI CE B A H1 a S v x Q E :=
  ⟨fun d H' e1 e2 e3 f M => h.1 d H' e1 e2 e3 (f.pre s) M, fun d e H' e1 e2 s' x => h.2.1 d e H' e1 e2 (s.trans s') x, fun e H' e1 s' x => h.2.2 e H' e1 (s.trans s') x⟩
theorem StrOk.same {K : PySem.W.Frag} {H H' : Hp} {v : V} (h : StrOk K H v) (s : Same H H') : StrOk K H' v := by
  rcases h with h | ⟨t, ty, k⟩
  · exact .inl h
  · exact .inr ⟨t, tyx_same ty s, k⟩
def spRowO (c : Cls6) (CI CE : Addr) : Sp := fun vs H Q E => ∃ (B A : Addr → Prop) (a : OA) (S : OS) (v : V) (n : Int) (s k : Str) (m am : Int), vs = [.ref a.o, v, .int n, .str s, .str k, .int m, .int am] ∧ OfM c B A H a S ∧ StrOk c.K H v ∧ (Ent.row n s k m am 0).ok ∧ PutOut c CI CE B A H a S v (.row n s k m am 0) Q E
def spFixO (c : Cls6) (CI CE : Addr) : Sp := fun vs H Q E => ∃ (B A : Addr → Prop) (a : OA) (S : OS) (v : V) (n m am : Int), vs = [.ref a.o, v, .int n, .int m, .int am] ∧ OfM c B A H a S ∧ StrOk c.K H v ∧ (Ent.fix n m am 0).ok ∧ PutOut c CI CE B A H a S v (.fix n m am 0) Q E
def spGoneO (c : Cls6) (CI CE : Addr) : Sp := fun vs H Q E => ∃ (B A : Addr → Prop) (a : OA) (S : OS) (v : V) (n : Int), vs = [.ref a.o, v, .int n] ∧ OfM c B A H a S ∧ StrOk c.K H v ∧ (Ent.gone n 0).ok ∧ PutOut c CI CE B A H a S v (.gone n 0) Q E
theorem WithN.same {H H' : Hp} {us : List V} {es : List Ent} {w : V} (h : WithN H us es w) (s : Same H H') : WithN H' us es w := ⟨h.1, fun i v x a b => by
  obtain ⟨e, h1, h2, h3⟩ := h.2 i v x a b
  exact ⟨e, h1, s _ _ h2, h3⟩⟩
theorem WithN.snoc {H : Hp} {us : List V} {es : List Ent} {e : Addr} {x : Ent} {w : V} (h : WithN H us es w) (he : H e = some (.tup (x.vs.dropLast ++ [w]))) (ok : x.ok) : WithN H (us ++ [.ref e]) (es ++ [x]) w := by
  obtain ⟨hl, h⟩ := h
  refine ⟨by rw [List.length_append, List.length_append, hl]; rfl, fun i v y a b => ?_⟩
  by_cases c : i < us.length
  · rw [List.getElem?_append_left c] at a
    rw [List.getElem?_append_left (by omega)] at b
    exact h i v y a b
  · have hi : i = us.length := by
      have := (List.getElem?_eq_some_iff.mp a).1
      rw [List.length_append] at this
      have : i < us.length + 1 := this
      omega
    subst hi
    rw [List.getElem?_append_right (Nat.le_refl _), Nat.sub_self] at a
    rw [hl, List.getElem?_append_right (Nat.le_refl _), Nat.sub_self] at b
    cases a
    cases b
    exact ⟨e, rfl, he, ok⟩
theorem vs_lenW (x : Ent) (w : V) : (x.vs.dropLast ++ [w]).length ≤ sizeLine := by
  rw [sizeLine_eq]
  cases x <;> (show _ ≤ 16777216; simp [Ent.vs])
section
variable {P : Program} {w : World} {mg : Str → Option Value} {base : Heap} {c : Cls6} {CE CI CN CY fE fI fN fY : Addr}
structure GO3 (P : Program) (w : World) (mg : Str → Option Value) (base : Heap) (c : Cls6) (CE CI CN CY fE fI fN fY : Addr) : Prop extends GO2 P w mg base c CE CI CN CY fE fI fN fY where
  put_ : Met P w c.K mg base (L2.CX P w) c.CO "_put" 4 ["self", "writer", "entry"] (spPutO c CI CE)
theorem OfM.noadd {B A : Addr → Prop} {H : Hp} {a : OA} {S : OS} (h : OfM c B A H a S) {t : Addr} {o : HO} (ht : H t = none) : Same H (upd H t o) := sameAt (Same.refl _) ht
abbrev s_Office_row : Stmt := inClass (topS 39) 3
theorem sc_Office_row : FnScope ["self", "writer", "number", "stream", "key", "moment", "amount"] ["self", "writer", "number", "stream", "key", "moment", "amount"] (defScope s_Office_row) := ⟨rfl, rfl, rfl, by decide +kernel, rfl, by decide +kernel, by decide +kernel⟩
theorem ok_rowO {f : Addr} {fd : FuncData} (F : Fun c.K "row" "Office.row" s_Office_row f fd) (G : GO3 P w mg base c CE CI CN CY fE fI fN fY) : FnOk P w c.K mg base (L2.CX P w) 5 f fd ["self", "writer", "number", "stream", "key", "moment", "amount"] (spRowO c CI CE) := by
  have T := G.T
  refine F.okX sc_Office_row (fun vs H Q E h => ?_) (fun cdv A0 outer s H vs Q E hr h => ?_)
  · obtain ⟨B, A, a, S, v, n, st, k, m, am, rfl, _⟩ := h
    rfl
  · obtain ⟨B, A, a, S, v, n, st, k, m, am, rfl, M, hv, ok, q⟩ := h
    refine ⟨_, (pss_one (ps_expr (pe_met T.cl G.put_ (hr.mono (by decide)) (passE (takes_of rfl rfl rfl rfl)) (pv 0) (pa_cons (pv 1) (pa_cons (pe_tup (pa_cons pe_str (pa_cons (pv 2) (pa_cons (pv 3) (pa_cons (pv 4) (pa_cons (pv 5) (pa_cons (pv 6) pa_nil))))))) pa_nil))))), ?_⟩
    refine ⟨_, rfl, a.o, a.dx, _, rfl, M.o, rfl, _, rfl, _, rfl, _, rfl, _, rfl, _, rfl, _, rfl, (by show 6 ≤ sizeLine; decide), fun t ht => ?_⟩
    have s1 : Same H (upd H t (.tup [.str "row", .int n, .str st, .str k, .int m, .int am])) := sameAt (Same.refl _) ht
    exact ⟨B, A, a, S, v, t, .row n st k m am 0, rfl, M.same s1, hv.same s1, upd_same, ok, (q.pre s1).1, (q.pre s1).2.1, (q.pre s1).2.2⟩
abbrev s_Office_fix : Stmt := inClass (topS 39) 4
theorem sc_Office_fix : FnScope ["self", "writer", "number", "moment", "amount"] ["self", "writer", "number", "moment", "amount"] (defScope s_Office_fix) := ⟨rfl, rfl, rfl, by decide +kernel, rfl, by decide +kernel, by decide +kernel⟩
theorem ok_fixO {f : Addr} {fd : FuncData} (F : Fun c.K "fix" "Office.fix" s_Office_fix f fd) (G : GO3 P w mg base c CE CI CN CY fE fI fN fY) : FnOk P w c.K mg base (L2.CX P w) 5 f fd ["self", "writer", "number", "moment", "amount"] (spFixO c CI CE) := by
  have T := G.T
  refine F.okX sc_Office_fix (fun vs H Q E h => ?_) (fun cdv A0 outer s H vs Q E hr h => ?_)
  · obtain ⟨B, A, a, S, v, n, m, am, rfl, _⟩ := h
    rfl
  · obtain ⟨B, A, a, S, v, n, m, am, rfl, M, hv, ok, q⟩ := h
    refine ⟨_, (pss_one (ps_expr (pe_met T.cl G.put_ (hr.mono (by decide)) (passE (takes_of rfl rfl rfl rfl)) (pv 0) (pa_cons (pv 1) (pa_cons (pe_tup (pa_cons pe_str (pa_cons (pv 2) (pa_cons (pv 3) (pa_cons (pv 4) pa_nil))))) pa_nil))))), ?_⟩
    refine ⟨_, rfl, a.o, a.dx, _, rfl, M.o, rfl, _, rfl, _, rfl, _, rfl, _, rfl, (by show 4 ≤ sizeLine; decide), fun t ht => ?_⟩
    have s1 : Same H (upd H t (.tup [.str "fix", .int n, .int m, .int am])) := sameAt (Same.refl _) ht
    exact ⟨B, A, a, S, v, t, .fix n m am 0, rfl, M.same s1, hv.same s1, upd_same, ok, (q.pre s1).1, (q.pre s1).2.1, (q.pre s1).2.2⟩
abbrev s_Office_gone : Stmt := inClass (topS 39) 5
theorem sc_Office_gone : FnScope ["self", "writer", "number"] ["self", "writer", "number"] (defScope s_Office_gone) := ⟨rfl, rfl, rfl, by decide +kernel, rfl, by decide +kernel, by decide +kernel⟩
theorem ok_goneO {f : Addr} {fd : FuncData} (F : Fun c.K "gone" "Office.gone" s_Office_gone f fd) (G : GO3 P w mg base c CE CI CN CY fE fI fN fY) : FnOk P w c.K mg base (L2.CX P w) 5 f fd ["self", "writer", "number"] (spGoneO c CI CE) := by
  have T := G.T
  refine F.okX sc_Office_gone (fun vs H Q E h => ?_) (fun cdv A0 outer s H vs Q E hr h => ?_)
  · obtain ⟨B, A, a, S, v, n, rfl, _⟩ := h
    rfl
  · obtain ⟨B, A, a, S, v, n, rfl, M, hv, ok, q⟩ := h
    refine ⟨_, (pss_one (ps_expr (pe_met T.cl G.put_ (hr.mono (by decide)) (passE (takes_of rfl rfl rfl rfl)) (pv 0) (pa_cons (pv 1) (pa_cons (pe_tup (pa_cons pe_str (pa_cons (pv 2) pa_nil))) pa_nil))))), ?_⟩
    refine ⟨_, rfl, a.o, a.dx, _, rfl, M.o, rfl, _, rfl, _, rfl, (by show 2 ≤ sizeLine; decide), fun t ht => ?_⟩
    have s1 : Same H (upd H t (.tup [.str "gone", .int n])) := sameAt (Same.refl _) ht
    exact ⟨B, A, a, S, v, t, .gone n 0, rfl, M.same s1, hv.same s1, upd_same, ok, (q.pre s1).1, (q.pre s1).2.1, (q.pre s1).2.2⟩
theorem wfind_mem {B A : Addr → Prop} {H : Hp} {a : OA} {S : OS} (M : OfM c B A H a S) {v : V} {d : Dr} (e : wfind S v = some d) : d ∈ S.ps ∧ v = .str d.z := by
  cases v with
  | str z =>
    obtain ⟨h1, h2⟩ := M.find e
    exact ⟨h1, by rw [h2]⟩
  | _ => cases e
abbrev s_Office_drop : Stmt := inClass (topS 39) 7
theorem sc_Office_drop : FnScope ["self", "writer"] ["self", "writer"] (defScope s_Office_drop) := ⟨rfl, rfl, rfl, by decide +kernel, rfl, by decide +kernel, by decide +kernel⟩
theorem ok_dropO {f : Addr} {fd : FuncData} (F : Fun c.K "drop" "Office.drop" s_Office_drop f fd) (G : GO2 P w mg base c CE CI CN CY fE fI fN fY) : FnOk P w c.K mg base (L2.CX P w) 3 f fd ["self", "writer"] (spDropO c CI) := by
  have T := G.T
  refine F.okX sc_Office_drop (fun vs H Q E h => ?_) (fun cdv A0 outer s H vs Q E hr h => ?_)
  · obtain ⟨B, A, a, S, v, rfl, _⟩ := h
    rfl
  · obtain ⟨B, A, a, S, v, rfl, M, hv, q, qi⟩ := h
    refine ⟨_, (pss_cons (ps_expr (pe_met T.cl G.draft_of (hr.mono (by decide)) (passE (takes_of rfl rfl rfl rfl)) (pv 0) (pa_cons (pv 1) pa_nil)))
    (pss_one (ps_ddel (pe_fld (pv 0) rfl) (pv 1)))), ?_⟩
    refine ⟨_, rfl, a.o, a.dx, _, rfl, M.o, rfl, _, rfl, B, A, a, S, v, rfl, M, hv, fun d H1 ed s1 => ?_, fun e H1 en s1 x => qi e H1 en s1 x⟩
    have M1 := M.same s1
    obtain ⟨hd, rfl⟩ := wfind_mem M ed
    refine ⟨_, rfl, a.o, c.CO, a.dx, _, _, rfl, M1.o, T.cl, T.nD, rfl, _, rfl, a.dd, _, Sum.inr d.z, rfl, M1.dd, rfl, ?_, ?_⟩
    · rw [M1.val]
      have : S.find d.z = some d := ed
      rw [this]
      rfl
    · rw [DrK_drop]
      obtain ⟨fr, MF⟩ := M.drop s1 d.z
      exact q d _ ed fr MF
abbrev s_Office_writers : Stmt := inClass (topS 39) 1
theorem sc_Office_writers : FnScope ["self"] ["self"] (defScope s_Office_writers) := ⟨rfl, rfl, rfl, by decide +kernel, rfl, by decide +kernel, by decide +kernel⟩
theorem ok_writersO {f : Addr} {fd : FuncData} (F : Fun c.K "writers" "Office.writers" s_Office_writers f fd) (B : Blt mg) (T : Co c.K mg c.CO) : FnOk P w c.K mg base CX0 1 f fd ["self"] (spWritersO c) := by
  refine F.ok sc_Office_writers (fun vs H Q E h => ?_) (fun cdv A0 outer s H vs Q E hr h => ?_)
  · obtain ⟨B, A, a, S, rfl, _⟩ := h
    rfl
  · obtain ⟨B', A, a, S, rfl, M, h6, q⟩ := h
    refine ⟨_, (pss_one (ps_ret (pe_callB cr_sortedS (by rfl) B.sorted (by decide +kernel) (pa_cons (pe_callTy (call_listD (by rfl)) (by rfl) B.list (by decide +kernel) (pa_cons (pe_fld (pv 0) rfl) pa_nil)) pa_nil)))), ?_⟩
    refine ⟨_, rfl, a.o, c.CO, a.dx, _, _, rfl, M.o, T.cl, T.nD, rfl, a.dd, _, rfl, .of M.dd, fun l hl => ⟨l, S.ps.map (·.z), rfl, ?_, ?_, fun ys p pm so hp => ?_⟩⟩
    · have e : (DrK S.ps).map (fun kv => kV kv.1) = (S.ps.map (·.z)).map V.str := by
        unfold DrK
        rw [List.map_map, List.map_map]
        rfl
      rw [e]
      exact SqL.of upd_same
    · rw [List.length_map]; exact h6
    · have hp0 : H p = none := by
        by_cases z : p = l
        · rw [z]; exact hl
        · rw [upd_ne z] at hp; exact hp
      exact q ys p _ pm so ((sameAt (Same.refl _) hl).trans (sameAt (Same.refl _) hp)) hp0 upd_same
abbrev s_Office_draft : Stmt := inClass (topS 39) 6
theorem sc_Office_draft : FnScope ["self", "writer", "entry"] ["self", "writer"] (defScope s_Office_draft) := ⟨rfl, rfl, rfl, by decide +kernel, rfl, by decide +kernel, by decide +kernel⟩
theorem ok_tellO {f : Addr} {fd : FuncData} (F : Fun c.K "draft" "Office.draft" s_Office_draft f fd) (G : GO2 P w mg base c CE CI CN CY fE fI fN fY) : FnOk P w c.K mg base (L2.CX P w) 3 f fd ["self", "writer"] (spTellO c CI) := by
  have T := G.T
  have TD := G.TD
  refine F.okX sc_Office_draft (fun vs H Q E h => ?_) (fun cdv A0 outer s H vs Q E hr h => ?_)
  · obtain ⟨B, A, a, S, v, rfl, _⟩ := h
    rfl
  · obtain ⟨B, A, a, S, v, rfl, M, hv, q, qi⟩ := h
    refine ⟨_, (pss_one (ps_ret (pe_lc (own := [("entry", 2)]) (g := gName 2) (tt := tYes) (by rfl) sc_Office_draft.nd (pi_list (pe_fld (pe_met T.cl G.draft_of (hr.mono (by decide)) (passE (takes_of rfl rfl rfl rfl)) (pv 0) (pa_cons (pv 1) pa_nil)) rfl)) (blkOk_by (own := [("entry", 2)]) (N := ["self", "writer", "entry"]) (sc := defScope s_Office_draft) (by decide +kernel)) (fun _ _ _ _ _ => (pg_name (i := 2) sc_Office_draft.nd rfl (Or.inl rfl))) (fun _ _ _ _ _ => pts_nil) (fun _ _ _ _ _ => (show PE _ _ (tTup (StX.tStar c.K (tVar 2) (tCons (tC V.non) tNil))) from (pe_tup (StX.pa_star (pv 2) (pa_cons pe_non pa_nil)))))))), ?_⟩
    refine ⟨_, rfl, a.o, a.dx, _, rfl, M.o, rfl, _, rfl, B, A, a, S, v, rfl, M, hv, fun d H1 ed s1 => ?_, fun e H1 en s1 x => qi e H1 en s1 x⟩
    have M1 := M.same s1
    obtain ⟨hd, rfl⟩ := wfind_mem M ed
    obtain ⟨⟨tx, us, hft, hA, hl, hde⟩, _, _, _, h20⟩ := M1.dr d hd
    have hde1 := hde.same (cut_same _ _)
    refine ⟨d.t, c.CD, tx, _, _, rfl, (cut_same _ _ _ _ hft), TD.cl, TD.nE, rfl, d.l, rfl, ⟨_, SqL.of hl⟩, fun D hD => ?_⟩
    refine lc_list (a := d.l) (xs := us) (fun i H3 => ∃ us', H3 D = some (.lst us') ∧ WithN H3 us' (d.es.take i) .non ∧ Same H1 H3) ⟨[], upd_same, ⟨rfl, fun _ _ _ e => nomatch e⟩, sameAt (Same.refl _) hD⟩ (fun i H3 _ hv => by obtain ⟨_, _, _, h⟩ := hv; exact SqL.of (h _ _ hl)) ?_ ?_
    · rintro i v H3 hvi ⟨us', hD3, hW, s3⟩
      have hil := (List.getElem?_eq_some_iff.mp hvi).1
      obtain ⟨x, hx⟩ : ∃ x, d.es[i]? = some x := ⟨_, List.getElem?_eq_getElem (by rw [← hde.1]; exact hil)⟩
      obtain ⟨e, rfl, he, ok⟩ := hde1.2 i v x hvi hx
      have he3 : H3 e = some (.tup x.vs.dropLast) := s3 _ _ he
      refine ⟨rfl, _, rfl, e, _, rfl, .inl (SqT.of he3), vs_lenW x .non, fun t ht => ?_⟩
      have s4 : Same H3 (upd H3 t (.tup (x.vs.dropLast ++ [V.non]))) := sameAt (Same.refl _) ht
      have tD : D ≠ t := fun z => by rw [← z, hD3] at ht; cases ht
      have hul : us'.length ≤ 20 := by
        have := hW.1
        rw [List.length_take] at this
        omega
      refine ⟨us', s4 _ _ hD3, small1000 (by omega), us' ++ [.ref t], upd_same, ?_, sameAt (s3.trans s4) hD⟩
      rw [list_take' hx]
      have s5 : ∀ (k : Addr) (xs : List V), (upd H3 t (.tup (x.vs.dropLast ++ [V.non]))) k = some (.tup xs) → (upd (upd H3 t (.tup (x.vs.dropLast ++ [V.non]))) D (.lst (us' ++ [V.ref t]))) k = some (.tup xs) := fun k xs h => by
        rw [upd_ne (fun z => by rw [z, s4 _ _ hD3] at h; cases h)]
        exact h
      refine WithN.snoc ⟨hW.1, fun k v y a b => ?_⟩ (s5 _ _ upd_same) ok
      obtain ⟨e', h1, h2, h3⟩ := hW.2 k v y a b
      exact ⟨e', h1, s5 _ _ (s4 _ _ h2), h3⟩
    · rintro H3 ⟨us', hD3, hW, s3⟩
      rw [List.take_of_length_le (by rw [hde.1]; exact Nat.le_refl _)] at hW
      exact q d D us' H3 ed (s1.trans s3) (no_of s1 hD) hD3 hW
end
end Ash

set_option Elab.async false
set_option linter.all false
set_option maxRecDepth 100000
set_option maxHeartbeats 4000000
namespace Ash
open PySem PySem.Spec PyProof.Rows L2
open C8 (pss_cut)
open RZ (pi_zipM)
/-! ### stale drafts, the journal behind a draft -/
def laterIds (xs : List Ent) (cb : List Int) (n : Int) : List Int := ((xs.zip cb).filter fun p => decide (n < p.2)).map fun p => p.1.id
def stale (S : OS) (d : Dr) : Option Int := (d.es.find? fun x => decide (x.id ∈ laterIds S.xs S.cb d.n)).map Ent.id
def spFreshO (c : Cls6) (CS : Addr) : Sp := fun vs H Q E => ∃ (B A : Addr → Prop) (a : OA) (S : OS) (d : Dr), vs = [.ref a.o, .ref d.t] ∧ OfM c B A H a S ∧ d ∈ S.ps ∧
  (∀ H', stale S d = none → Same H H' → Q .non H') ∧ (∀ n e H', stale S d = some n → Same H H' → Xd H' e "id" (.int n) → E (.ref CS) (some e) H')
structure Cst3 (mg : Str → Option Value) : Prop where
  zip : mg "zip" = none
theorem dn_id (x : Ent) : atI x.vs.dropLast 1 = some (.int x.id) := by cases x <;> rfl
theorem later_snoc {xs : List Ent} {cb : List Int} {n : Int} {i : Nat} {x : Ent} {b : Int} (hx : xs[i]? = some x) (hb : cb[i]? = some b) : laterIds (xs.take (i + 1)) (cb.take (i + 1)) n = laterIds (xs.take i) (cb.take i) n ++ if n < b then [x.id] else [] := by
  unfold laterIds
  have h1 := (List.getElem?_eq_some_iff.mp hx).1
  have h2 := (List.getElem?_eq_some_iff.mp hb).1
  rw [list_take' hx, show cb.take (i + 1) = cb.take i ++ [b] by rw [List.take_add_one, hb]; rfl, List.zip_append (by rw [List.length_take, List.length_take]; omega), List.filter_append, List.map_append]
  congr 1
  by_cases c : n < b
  · rw [if_pos c]
    show List.map _ (List.filter _ [(x, b)]) = _
    rw [List.filter_cons_of_pos (by simpa using c)]
    rfl
  · rw [if_neg c]
    show List.map _ (List.filter _ [(x, b)]) = _
    rw [List.filter_cons_of_neg (by simpa using c)]
    rfl
section
variable {P : Program} {w : World} {mg : Str → Option Value} {base : Heap} {c : Cls6} {CE CI CN CY CS fE fI fN fY fS : Addr}
abbrev s_Officecheck_fresh : Stmt := inClass (topS 39) 12
theorem sc_Officecheck_fresh : FnScope ["self", "draft", "later", "entry", "close"] ["self", "draft"] (defScope s_Officecheck_fresh) := ⟨rfl, rfl, rfl, by decide +kernel, rfl, by decide +kernel, by decide +kernel⟩
theorem ok_freshO {f : Addr} {fd : FuncData} (F : Fun c.K "_check_fresh" "Office._check_fresh" s_Officecheck_fresh f fd) (B : Cst3 mg) (T : Co c.K mg c.CO) (TD : Cd c.K mg c.CD) (TJ : Cj P c.K mg c.CJ c.CB) (TS : PySem.BadX.Txt P c.K mg "number" "id" CS fS) (pn : PySem.BadX.Par "number") (c_Stale : mg "Stale" = some (.ref CS)) : FnOk P w c.K mg base (L2.CX P w) 1 f fd ["self", "draft"] (spFreshO c CS) := by
  refine F.okX sc_Officecheck_fresh (fun vs H Q E h => ?_) (fun cdv A0 outer s H vs Q E hr h => ?_)
  · obtain ⟨B, A, a, S, d, rfl, _⟩ := h
    rfl
  · obtain ⟨B', A, a, S, d, rfl, M, hd, q, qs⟩ := h
    have hu := hu_of hr
    refine ⟨_, (pss_cons (ps_set (i := 2) sc_Officecheck_fresh.nd rfl (Or.inl rfl) pe_dnewK)
    (pss_cons (ps_for (passes_of rfl) rfl (pi_zipM (by rfl) B.zip (pa_cons (pe_fld (pe_fld (pv 0) rfl) rfl) (pa_cons (pe_fld (pv 0) rfl) pa_nil))) (pg_tup (by rfl) (pgs_cons (pg_name (i := 3) sc_Officecheck_fresh.nd rfl (Or.inl rfl)) (pgs_cons (pg_name (i := 4) sc_Officecheck_fresh.nd rfl (Or.inl rfl)) pgs_nil)))
      (pss_one (ps_if (pt_cmpR op_gt (pv 4) (pe_fld (pv 1) rfl) (nomark _))
        (pss_one (ps_dput hu (pv 2) (pe_ix ix_tup (pv 3) pe_int (fun _ _ => rfl)) pe_bl rfl))
        pss_nil)))
    (pss_one (ps_for (passes_of rfl) rfl (pi_list (pe_fld (pv 1) rfl)) (pg_name (i := 3) sc_Officecheck_fresh.nd rfl (Or.inl rfl))
      (pss_one (ps_if (pt_cmp (pc_din hu (pe_ix ix_tup (pv 3) pe_int (fun _ _ => rfl)) (pv 2)) rfl)
        (pss_one (ps_raiseB rfl TS pn c_Stale (hr.mono (Nat.zero_le _)) (takes_of rfl rfl rfl rfl) (pa_cons (pe_ix ix_tup (pv 3) pe_int (fun _ _ => rfl)) pa_nil) (by rfl)))
        pss_nil)))))), ?_⟩
    obtain ⟨⟨tx, us, hft, hA, hl, hde⟩, _, _, _, h20⟩ := M.dr d hd
    obtain ⟨jx, t, kd, j1, j2, j3, j4, j5, j6, j7⟩ := id (M.jr.same (cut_same _ _))
    intro ld nl
    have s1 : Same H (upd H ld (.dK [])) := sameAt (Same.refl _) nl
    have M1 := M.same s1
    have x4 := M.x4
    refine ⟨_, rfl, a.o, c.CO, a.dx, _, _, rfl, M1.o, T.cl, T.nJ, rfl, a.j, c.CJ, jx, _, _, rfl, s1 _ _ j1, TJ.cl, TJ.nE, jf_e _ _ _, _, rfl, a.o, c.CO, a.dx, _, _, rfl, M1.o, T.cl, T.nY, rfl, t, a.cb, S.us, S.cb.map V.int, rfl, seqS j3 s1, SqL.of M1.cb, ?_⟩
    refine RZ.for_zipM (by rw [List.length_map, j4, M.cbl]) (fun i σ H3 => (∃ x1 x2, σ = [some (.ref a.o), some (.ref d.t), some (.ref ld), x1, x2]) ∧ (∃ kvs : List (Key × V), H3 ld = some (.dK kvs) ∧ kvs.length ≤ i ∧ ∀ n : Int, (valV kvs (Sum.inl n)).isSome = decide (n ∈ laterIds (S.xs.take i) (S.cb.take i) d.n)) ∧ Same H H3) ⟨⟨_, _, rfl⟩, ⟨[], upd_same, Nat.le_refl _, fun n => rfl⟩, s1⟩ (fun i σ H3 hv => ⟨seqS j3 hv.2.2, SqL.of (hv.2.2 _ _ M.cb)⟩) ?_ ?_
    · rintro i x y T0 σ H3 hx hy ⟨⟨x1, x2, rfl⟩, ⟨kvs, k1, k2, k3⟩, s3⟩ hT
      have hil := (List.getElem?_eq_some_iff.mp hx).1
      obtain ⟨ex, hex⟩ : ∃ ex, S.xs[i]? = some ex := ⟨_, List.getElem?_eq_getElem (by rw [← j4]; exact hil)⟩
      obtain ⟨bx, hbx⟩ : ∃ bx, S.cb[i]? = some bx := ⟨_, List.getElem?_eq_getElem (by rw [M.cbl, ← j4]; exact hil)⟩
      obtain ⟨e, rfl, he, ok⟩ := j5 i x ex hx hex
      obtain rfl : y = .int bx := by rw [List.getElem?_map, hbx] at hy; exact (Option.some.inj hy).symm
      have s4 : Same H3 (upd H3 T0 (.tup [.ref e, .int bx])) := sameAt (Same.refl _) hT
      have s34 := s3.trans s4
      have he4 := s34 _ _ he
      have M4 := M.same s34
      have hld4 := s4 _ _ k1
      refine ⟨T0, [.ref e, .int bx], rfl, SqT.of upd_same, rfl, _, _, rfl, _, _, rfl, rfl, ?_⟩
      refine ⟨_, rfl, _, rfl, d.t, c.CD, tx, _, _, rfl, s34 _ _ (cut_same _ _ _ _ hft), TD.cl, TD.nB, rfl, _, _, rfl, rfl, _, rfl, ?_⟩
      have hs := later_snoc (n := d.n) hex hbx
      by_cases cb : d.n < bx
      · rw [if_pos cb] at hs
        rw [decide_eq_true cb]
        refine iteT ⟨_, rfl, _, rfl, _, _, _, _, rfl, rfl, SqT.of he4, ent_id ex, ld, _, rfl, DPut.k (k := Sum.inl ex.id) hld4 (small1000 (by omega)), ⟨_, _, rfl⟩, ⟨_, upd_same, Nat.le_trans (pk_len _ _ _) (by omega), fun n => ?_⟩, ?_⟩
        · rw [valV_put, hs]
          by_cases cn : n = ex.id
          · rw [if_pos (congrArg Sum.inl cn), cn]
            exact (decide_eq_true (List.mem_append.mpr (.inr (List.mem_singleton.mpr rfl)))).symm
          · rw [if_neg (fun z => cn (Sum.inl.inj z)), k3 n]
            exact decide_eq_decide.mpr ⟨fun z => List.mem_append.mpr (.inl z), fun z => (List.mem_append.mp z).elim id fun z => absurd (List.mem_singleton.mp z) cn⟩
        · intro p o hp
          rw [upd_ne (ne_of_none hp nl)]
          exact s34 _ _ hp
      · rw [if_neg cb, List.append_nil] at hs
        rw [decide_eq_false cb]
        exact iteF ⟨⟨_, _, rfl⟩, ⟨kvs, hld4, by omega, fun n => by rw [hs]; exact k3 n⟩, s34⟩
    · rintro σ H3 ⟨⟨x1, x2, rfl⟩, ⟨kvs, k1, k2, k3⟩, s3⟩
      rw [List.take_of_length_le (by rw [j4]; exact Nat.le_refl _), List.take_of_length_le (by rw [j4, M.cbl]; exact Nat.le_refl _)] at k3
      have hl3 := s3 _ _ hl
      refine ⟨_, rfl, d.t, c.CD, tx, _, _, rfl, s3 _ _ (cut_same _ _ _ _ hft), TD.cl, TD.nE, rfl, d.l, rfl, ⟨_, SqL.of hl3⟩, ?_⟩
      refine for_list (a := d.l) (xs := us) (fun i σ H4 => (∃ x1 x2, σ = [some (.ref a.o), some (.ref d.t), some (.ref ld), x1, x2]) ∧ (∀ x ∈ d.es.take i, ¬ x.id ∈ laterIds S.xs S.cb d.n) ∧ Same H3 H4) ⟨⟨_, _, rfl⟩, (fun _ h => nomatch h), Same.refl _⟩ (fun i σ H4 _ hv => SqL.of (hv.2.2 _ _ hl3)) ?_ ?_
      · rintro i v σ H4 hvi ⟨⟨x1, x2, rfl⟩, hno, s4⟩
        have hil := (List.getElem?_eq_some_iff.mp hvi).1
        obtain ⟨x, hx⟩ : ∃ x, d.es[i]? = some x := ⟨_, List.getElem?_eq_getElem (by rw [← hde.1]; exact hil)⟩
        obtain ⟨e, rfl, he, ok⟩ := (hde.same (cut_same _ _)).2 i v x hvi hx
        have s34 := s3.trans s4
        have he4 := s34 _ _ he
        have hg := DGet.k (k := Sum.inl x.id) (s4 _ _ k1)
        refine ⟨_, rfl, _, _, _, _, rfl, rfl, SqT.of he4, dn_id x, _, rfl, ld, _, rfl, hg, _, rfl, ?_⟩
        rw [k3]
        by_cases cx : x.id ∈ laterIds S.xs S.cb d.n
        · rw [decide_eq_true cx]
          refine iteT ⟨_, rfl, _, _, _, _, rfl, rfl, SqT.of he4, dn_id x, _, rfl, fun e' he' => qs x.id e' _ ?_ (s34.trans (sameAt (Same.refl _) he')) upd_same⟩
          unfold stale
          have : d.es.find? (fun x => decide (x.id ∈ laterIds S.xs S.cb d.n)) = some x := by
            rw [List.find?_eq_some_iff_getElem]
            refine ⟨by simpa using cx, i, (List.getElem?_eq_some_iff.mp hx).1, (List.getElem?_eq_some_iff.mp hx).2, fun j hj => ?_⟩
            have hm : d.es[j]'(by have := (List.getElem?_eq_some_iff.mp hx).1; omega) ∈ d.es.take i := List.mem_take_iff_getElem.mpr ⟨j, by have := (List.getElem?_eq_some_iff.mp hx).1; omega, rfl⟩
            simpa using hno _ hm
          rw [this]
          rfl
        · rw [decide_eq_false cx]
          refine iteF ⟨⟨_, _, rfl⟩, fun y hy => ?_, s4⟩
          rw [list_take' hx] at hy
          rcases List.mem_append.mp hy with hy | hy
          · exact hno y hy
          · rw [List.mem_singleton.mp hy]; exact cx
      · rintro σ H4 ⟨⟨x1, x2, rfl⟩, hno, s4⟩
        rw [List.take_of_length_le (by rw [hde.1]; exact Nat.le_refl _)] at hno
        refine q H4 ?_ (s3.trans s4)
        unfold stale
        rw [List.find?_eq_none.mpr (fun x hx => by simpa using hno x hx)]
        rfl
end
end Ash

set_option Elab.async false
set_option linter.all false
set_option maxRecDepth 100000
set_option maxHeartbeats 4000000
namespace Ash
open PySem PySem.Spec PyProof.Rows L2
open C8 (pss_cut)
/-! ### the journal behind a draft -/
theorem jf_inj {b t kd t' kd' : Addr} (h : jf b t kd = jf b t' kd') : t = t' ∧ kd = kd' := by
  have e1 := jf_e b t kd
  have e2 := jf_k b t kd
  rw [h, jf_e] at e1
  rw [h, jf_k] at e2
  cases e1
  cases e2
  exact ⟨rfl, rfl⟩
theorem JAt.cut {K : PySem.W.Frag} {aT CJ CB CO : Addr} {B : Addr → Prop} {H H' : Hp} {j b : Addr} {L : List (Str × Int)} {us : List V} {xs : List Ent} (J : JAt K aT CJ CB H' j b L us xs) (s : Same H H') (BT : ∀ x, B x → Mu CO (H x)) (hj : H j = none)
    (hk : ∃ dx t kd, H' j = some (.ins CJ dx (jf b t kd)) ∧ H kd = none) (bk : BookAt CB (cutH B H') b L) : JAt K aT CJ CB (cutH B H') j b L us xs := by
  obtain ⟨dx, t, kd, h1, h2, h3, h4, h5, h6, h7⟩ := J
  obtain ⟨dx', t', kd', k1, k2⟩ := hk
  have e : HO.ins CJ dx' (jf b t' kd') = HO.ins CJ dx (jf b t kd) := Option.some.inj (k1.symm.trans h1)
  injection e with _ e1 e2
  obtain ⟨rfl, rfl⟩ := jf_inj e2
  have nf : ∀ q, H q = none → ¬ B q := fun q hq b => by
    obtain ⟨u, e, _⟩ := BT q b
    rw [hq] at e; cases e
  have nu : ∀ q u, H' q = some u → ¬ MuO CO u → ¬ B q := fun q u hq hu b => by
    obtain ⟨u', e, m⟩ := BT q b
    have := s _ _ e
    rw [hq] at this
    cases this
    exact hu m
  have tp : ∀ q ys, H' q = some (.tup ys) → cutH B H' q = some (.tup ys) := fun q ys hq => cut_at (nu q _ hq fun z => z) hq
  refine ⟨dx, t', kd', cut_at (nf j hj) h1, bk, ?_, h4, fun i v x a b => ?_, h6, ?_⟩
  · rcases h3 with (h | ⟨o, h⟩) | h
    · exact .inl (.inl (tp _ _ h))
    · exact .inl (.inr ⟨o, cut_at (nu _ _ h fun z => z) h⟩)
    · exact .inr h
  · obtain ⟨e, q1, q2, q3⟩ := h5 i v x a b
    exact ⟨e, q1, tp _ _ q2, q3⟩
  · obtain ⟨kvs, q1, q2, q3⟩ := h7
    refine ⟨kvs, cut_at (nf _ k2) q1, q2, fun id => ?_⟩
    have := q3 id
    cases ev : valV kvs (Sum.inl id) with
    | none => rw [ev] at this; cases eo : (wk L (xs.map some) 0 (fun _ => none) none).2 id <;> (rw [eo] at this; exact this)
    | some v =>
      rw [ev] at this
      cases eo : (wk L (xs.map some) 0 (fun _ => none) none).2 id with
      | none => rw [eo] at this; exact this
      | some r =>
        rw [eo] at this
        cases r with
        | tb => exact this
        | at_ z k m am =>
          obtain ⟨t, e1, e2⟩ := this
          exact ⟨t, e1, tp _ _ e2⟩
def Good (L : List (Str × Int)) (xs : List Ent) : Prop := (wk L (xs.map some) 0 (fun _ => none) none).1 = none
/-- the first entry that a draft can't hand in -/
def JBad (L : List (Str × Int)) (xs ys : List Ent) (i : Nat) : Prop := i < ys.length ∧ Good L (xs ++ ys.take i) ∧ xs.length + i ≤ 400 ∧ (xs.length + i = 400 ∨ ¬ Good L (xs ++ ys.take (i + 1)))
def spBehindO (c : Cls6) (CE : Addr) : Sp := fun vs H Q E => ∃ (B A : Addr → Prop) (a : OA) (S : OS) (l : Addr) (us : List V) (ys : List Ent), vs = [.ref a.o, .ref l] ∧ OfM c B A H a S ∧ H l = some (.lst us) ∧ Ents H us ys ∧ ys.length ≤ 20 ∧
  (∀ j' H', Same H H' → Good S.L (S.xs ++ ys) → S.xs.length + ys.length ≤ 400 → JAt c.K c.aT c.CJ c.CB (cutH B H') j' a.bj S.L (S.us ++ us) (S.xs ++ ys) → Q (.ref j') H') ∧
  (∀ i e H', JBad S.L S.xs ys i → Same H H' → Xd H' e "at" (.int (i : Int)) → E (.ref CE) (some e) H')
section
variable {P : Program} {w : World} {mg : Str → Option Value} {base : Heap} {c : Cls6} {CE fE : Addr}
structure GO4 (P : Program) (w : World) (mg : Str → Option Value) (base : Heap) (c : Cls6) (CE fE : Addr) : Prop where
  T : Co c.K mg c.CO
  TJ : Cj P c.K mg c.CJ c.CB
  TE : PySem.BadX.Txt P c.K mg "at" "at" CE fE
  c_BadEntry : mg "BadEntry" = some (.ref CE)
  then_ : Met P w c.K mg base (L2N.CX P w) c.CJ "then" 9 ["self", "entry"] (spThenN c.K c.aT c.CJ c.CB CE)
abbrev s_Officejournal_behind : Stmt := inClass (topS 39) 13
theorem sc_Officejournal_behind : FnScope ["self", "entries", "journal", "at", "entry"] ["self", "entries"] (defScope s_Officejournal_behind) := ⟨rfl, rfl, rfl, by decide +kernel, rfl, by decide +kernel, by decide +kernel⟩
theorem ok_behindO {f : Addr} {fd : FuncData} (F : Fun c.K "_journal_behind" "Office._journal_behind" s_Officejournal_behind f fd) (B : Blt mg) (G : GO4 P w mg base c CE fE) : FnOk P w c.K mg base (L2.CX P w) 10 f fd ["self", "entries"] (spBehindO c CE) := by
  have T := G.T
  have TJ := G.TJ
  refine F.okX sc_Officejournal_behind (fun vs H Q E h => ?_) (fun cdv A0 outer s H vs Q E hr h => ?_)
  · obtain ⟨B, A, a, S, l, us, ys, rfl, _⟩ := h
    rfl
  · obtain ⟨B', A, a, S, l, us, ys, rfl, M, hl, hE, h20, q, qb⟩ := h
    refine ⟨_, (pss_cons (ps_set (i := 2) sc_Officejournal_behind.nd rfl (Or.inl rfl) (pe_fld (pv 0) rfl))
    (pss_cons (ps_for (passes_of rfl) rfl (pi_enum (by rfl) B.enumerate (pa_cons (pv 1) pa_nil)) (pg_tup (by rfl) (pgs_cons (pg_name (i := 3) sc_Officejournal_behind.nd rfl (Or.inl rfl)) (pgs_cons (pg_name (i := 4) sc_Officejournal_behind.nd rfl (Or.inl rfl)) pgs_nil)))
      (pss_one (L2H.ps_tryX  rfl rfl ⟨rfl, by decide, .inl G.c_BadEntry⟩ (fun hd => L2H.passesAt_of rfl hd) (takes_of rfl rfl rfl rfl) (fun W pn xe tk tkp _ =>
        (pss_one (ps_set (i := 2) sc_Officejournal_behind.nd rfl (Or.inl rfl) (pe_metS TJ.cl G.then_ (hr.mono (by decide)) (fun σ => L2N.passAt tk σ) (pv 2) (pa_cons (pv 4) pa_nil)))))
        (fun a oe cls d pn hz hf tkx hot => (pss_one (L2H.ps_raiseBF hot G.TE par_at G.c_BadEntry (L2H.roomM hr) tkx (pa_cons (pv 3) pa_nil) (by rfl)))))))
    (pss_one (ps_ret (pv 2))))), ?_⟩
    have xl : S.us.length = S.xs.length := by
      obtain ⟨_, _, _, _, _, _, h, _⟩ := M.jr
      exact h
    have x4 := M.x4
    have hEl := hE.1
    refine ⟨_, rfl, a.o, c.CO, a.dx, _, _, rfl, M.o, T.cl, T.nJ, rfl, ?_⟩
    refine ⟨_, rfl, l, us, rfl, SqL.of hl, for_it walk_enum (fun i σ H3 => (∃ j x1 x2, σ = [some (.ref a.o), some (.ref l), some (.ref j), x1, x2] ∧ JAt c.K c.aT c.CJ c.CB (cutH B' H3) j a.bj S.L (S.us ++ us.take i) (S.xs ++ ys.take i)) ∧ Same H H3 ∧ S.xs.length + i ≤ 400) ⟨⟨a.j, _, _, rfl, by rw [List.take_zero, List.take_zero, List.append_nil, List.append_nil]; exact M.jr⟩, Same.refl _, by omega⟩ (fun i σ H3 _ hv => SqL.of (hv.2.1 _ _ hl)) ?_ ?_⟩
    · rintro i x σ H1 H2 hi ⟨⟨j, z1, z2, rfl, J⟩, s1, h4⟩ ⟨T0, x1, x2, rfl, hT, rfl, e1, e2⟩
      cases e1
      obtain ⟨y, hy⟩ : ∃ y, ys[i]? = some y := ⟨_, List.getElem?_eq_getElem (by rw [← hEl]; exact hi)⟩
      obtain ⟨e, rfl, he, ok⟩ := hE.2 i x2 y e2 hy
      have e2 : us[i]? = some (V.ref e) := e2
      have hys := (List.getElem?_eq_some_iff.mp hy).1
      have s2 : Same H1 (upd H1 T0 (.tup [.int (i : Nat), .ref e])) := sameAt (Same.refl _) hT
      have s12 := s1.trans s2
      have Mc := M.same s12
      have Jf := (J.same (cut_same _ _)).same s2
      refine ⟨T0, _, rfl, SqT.of upd_same, rfl, _, _, rfl, _, _, rfl, rfl, ?_⟩
      obtain ⟨jx, jt, jk, j1, _⟩ := id Jf
      have ul : (S.us ++ us.take i).length = S.xs.length + i := by rw [List.length_append, List.length_take]; omega
      have hsn : (S.xs ++ ys.take i) ++ [y] = S.xs ++ ys.take (i + 1) := by rw [list_take' hy, List.append_assoc]
      have hsu : (S.us ++ us.take i) ++ [.ref e] = S.us ++ us.take (i + 1) := by rw [List.take_add_one, e2, List.append_assoc]; rfl
      have G0 : Good S.L (S.xs ++ ys.take i) := by
        obtain ⟨_, _, _, _, _, _, _, _, h, _⟩ := J
        exact h
      refine ⟨_, rfl, j, jx, _, rfl, j1, jf_no _ _ _ (by decide +kernel) (by decide +kernel) (by decide +kernel), _, rfl, ?_⟩
      refine ⟨j, a.bj, S.L, S.us ++ us.take i, S.xs ++ ys.take i, .ref e, some y, rfl, Jf, ⟨e, rfl, s12 _ _ he, ok⟩, by omega, ?_, ?_, ?_⟩
      · rintro j' H3 y' ey hw s3 J' hlt nj hk
        cases ey
        refine ⟨⟨j', _, _, rfl, ?_⟩, s12.trans s3, by omega⟩
        rw [← hsn, ← hsu]
        refine J'.cut s3 (fun x hx => by
          obtain ⟨u, e, m⟩ := M.BT x hx
          exact ⟨u, s12 _ _ e, m⟩) nj hk ?_
        obtain ⟨_, _, _, _, hb, _⟩ := J
        exact (hb.same (cut_step (fun c x h _ => s2 _ _ h) fun c h => .inl h)).same (cut_step (fun c x h _ => s3 _ _ h) fun c h => .inl h)
      · intro k d H3 hw s3 hx hlt
        refine ⟨true, G.TE.te, fun _ q0 nq => ⟨_, rfl, _, rfl, fun e' he' => qb i e' _ ⟨hys, G0, h4, .inr fun g => ?_⟩ ((s12.trans s3).trans (sameAt (Same.refl _) he')) upd_same⟩, fun z => nomatch z⟩
        unfold Good at g
        rw [← hsn, List.map_append] at g
        have hw : (wk S.L ((S.xs ++ ys.take i).map some ++ [some y]) 0 (fun _ => none) none).1 = some k := hw
        rw [show ([y] : List Ent).map some = [some y] from rfl, hw] at g
        cases g
      · intro h400 d H3 s3 hx
        exact ⟨true, G.TE.te, fun _ q0 nq => ⟨_, rfl, _, rfl, fun e' he' => qb i e' _ ⟨hys, G0, h4, .inl (by omega)⟩ ((s12.trans s3).trans (sameAt (Same.refl _) he')) upd_same⟩, fun z => nomatch z⟩
    · rintro σ H3 ⟨⟨j, z1, z2, rfl, J⟩, s1, h4⟩
      rw [List.take_of_length_le (Nat.le_refl _), List.take_of_length_le (by rw [hEl]; exact Nat.le_refl _)] at J
      refine ⟨_, rfl, q j H3 s1 ?_ (by omega) J⟩
      obtain ⟨_, _, _, _, _, _, _, _, h, _⟩ := J
      exact h
end
end Ash

set_option Elab.async false
set_option linter.all false
set_option maxRecDepth 100000
set_option maxHeartbeats 4000000
/-! ### del xs[n:] of a list -/
namespace L2
open PySem PySem.Spec PyProof.Rows
section
variable {prog : Program} {w : World} {A : Around} {E : Value → Shared → Prop} {s : Shared}
theorem tail_bounds {a n : Nat} (ha : a ≤ n) : sliceBounds (some (a : Int)) none none n = ((a : Int), (n : Int), 1) := by
  have h1 : ¬ ((a : Int) < 0) := by omega
  simp only [sliceBounds, Option.getD_none, h1, if_false, show (1 : Int) > 0 by decide, if_true]
  congr 1
  omega
theorem kept_head {α : Type} (xs : List α) (a : Nat) (f : α × Nat → Option α) (hf : ∀ p : α × Nat, p.2 < xs.length → f p = if p.2 < a then some p.1 else none) : xs.zipIdx.filterMap f = xs.take a := by
  have key : ∀ (ys : List α) (j : Nat), (∀ p : α × Nat, p.2 < j + ys.length → f p = if p.2 < a then some p.1 else none) → (ys.zipIdx j).filterMap f = ys.take (a - j) := by
    intro ys
    induction ys with
    | nil => intro j _; simp
    | cons y ys ih =>
      intro j h
      rw [List.zipIdx_cons, List.filterMap_cons, h (y, j) (by rw [List.length_cons]; show j < _; omega), ih (j + 1) fun p hp => h p (by rw [List.length_cons]; omega)]
      by_cases c : j < a
      · rw [if_pos c, show a - j = (a - (j + 1)) + 1 by omega, List.take_succ_cons]
      · rw [if_neg c, show a - j = 0 by omega, show a - (j + 1) = 0 by omega]
        rfl
  have := key xs 0 fun p hp => hf p (by omega)
  simpa using this
/-- the list behind del xs[a:] -/
def dropTail (a n : Int) : Array Value → Array Value := fun xs => (xs.toList.zipIdx.filterMap fun (x, k) => if (if (1 : Int) > 0 then (decide (a ≤ (k : Int)) && decide ((k : Int) < n) && ((k : Int) - a) % 1 == 0) else decide (n < (k : Int)) && decide ((k : Int) ≤ a) && (a - (k : Int)) % (-1) == 0) = true then none else some x).toArray
theorem dropTail_eq (its : List Value) (a : Nat) (ha : a ≤ its.length) : dropTail (a : Int) (its.length : Int) its.toArray = (its.take a).toArray := by
  unfold dropTail
  congr 1
  refine kept_head its a _ fun p hp => ?_
  obtain ⟨x, k⟩ := p
  have hk : k < its.length := hp
  by_cases c : k < a
  · have h1 : ¬ ((a : Int) ≤ (k : Int)) := by omega
    simp [c, h1]
  · have h1 : (a : Int) ≤ (k : Int) := by omega
    have h2 : (k : Int) < (its.length : Int) := by omega
    simp [c, h1, h2]
set_option maxRecDepth 100000 in
theorem delItem_tail {l sl : Addr} {items : Array Value} {n : Nat} {vl : Value} {a : Nat} {Q : Unit → Shared → Prop}
    (e : s.heap.get? l = some { cls := .type "list", data := .seq items n }) (hs : s.heap.IsSliceOf sl vl .none .none) (pl : IsPart vl (some (a : Int))) (ha : a ≤ items.size)
    (hsz : items.size ≤ sizeLine) (hz' : (dropTail (a : Int) (items.size : Int) items).size ≤ sizeLine + 1) (h : Q () { s with heap := s.heap.update l (Obj.mapSeq (dropTail (a : Int) (items.size : Int))) }) :
    wpAny (model prog w) A (delItem (.ref l) (.ref sl)) Q E s := by
  have hl : s.heap.IsList l items := PySem.IsL.isList e
  obtain ⟨os, hos, hcs, hds⟩ := id hs
  have hTs : s.TypeIs (.ref sl) "slice" := ⟨os, hos, hcs⟩
  have hstep : ¬ ((rawPart none == rawInt 0) = true) := Bool.false_ne_true
  unfold delItem
  refine wpAny_holding (wpAny_bind (wpAny_sequenceKey hl.typeIs (by decide) ?_))
  refine wpAny_bind (wpAny_callSpecial?_slot (name := Str.ofString "__delitem__") hl.typeIs F.slot_list_delitem (wpAny_call_entry F.slot_list_delitem hl.typeIs F.entry_list_delitem ?_ (F.args_list_delitem_2 _ _)))
  show wpAny _ _ (Builtin.List.listSubscript? (.ref sl) >>= _) _ _ s
  unfold Builtin.List.listSubscript?
  refine wpAny_bind (wpAny_bind (wpAny_specialOf hTs slice_no_index ?_))
  rw [if_pos (by rfl)]
  refine wpAny_pure ?_
  show wpAny _ _ (typeOf (.ref sl) >>= _) _ _ s
  refine wpAny_bind (wpAny_typeOf hTs ?_)
  first
    | rw [if_neg (by decide)]
    | refine PySem.W.KFB.if_not (by decide) ?_
  rw [listSliceParts_eq]
  refine wpAny_bind (wpAny_bind (wpAny_field hos hds (x := .none) rfl (wpAny_bind (wpAny_listPart .none ?_))))
  rw [if_neg hstep]
  refine wpAny_bind (wpAny_field hos hds (x := vl) rfl (wpAny_bind (wpAny_listPart pl ?_)))
  refine wpAny_bind (wpAny_field hos hds (x := .none) rfl (wpAny_bind (wpAny_listPart .none (wpAny_pure ?_))))
  unfold Builtin.List.listItems
  refine wpAny_bind (wpAny_bind (wpAny_seqItems e rfl (wpAny_pure ?_)))
  refine wpAny_bind (wpAny_of_eq ((sliceIndices_raw (some (a : Int)) none none items.size (by simp)).trans (congrArg (pure : Int × Int × Int → Sem (Int × Int × Int)) (tail_bounds ha))) ?_)
  dsimp only
  refine wpAny_bind (wpAny_rule ?_)
  show wpAny _ _ (updateSeq l (dropTail (a : Int) (items.size : Int)) >>= _) _ _ s
  refine wpAny_bind (wpAny_updateSeq (hz := hsz) (_hz' := hz') e rfl ?_)
  refine wpAny_bind (wpAny_letGo ?_)
  first
    | exact wpAny_bind (wpAny_pure (wpAny_pure ⟨.none, rfl, wpAny_pure h⟩))
    | exact wpAny_pure ⟨.none, rfl, wpAny_pure h⟩
end
section
variable {X : Cx} {o lo : Expr} {to : TE} {tl : TO} {p2 tpos pos : Pos}
/-- del xs[a:] -/
def tDelTail (to : TE) (tl : TO) : TS := fun D σ H => to σ H fun x H1 => tl σ H1 fun i H2 => ∃ (l : Addr) (xs : List V) (a : Nat), x = .ref l ∧ i = some (a : Int) ∧ H2 l = some (.lst xs) ∧ a ≤ xs.length ∧ D.nx σ (upd H2 l (.lst (xs.take a)))
theorem ps_delTail (ho : PE X o to) (hl : PO X (some lo) tl) : PS X (.Delete [.Subscript o (.Slice (some lo) none none p2) tpos] pos) (tDelTail to tl) := by
  refine ⟨fun pins s σ H D I h => ?_⟩
  refine wpAny_Delete (wpAny_deleteEach_cons (wpAny_delete_Subscript (thn (ho.run pins s σ H _ I h) fun u s1 ⟨x, H1, I1, rx, q1⟩ => ?_)))
  refine wpAny_Slice (thn (hl.run pins s1 σ H1 _ I1 q1) fun vl s2 ⟨i, H2, I2, pl, q2⟩ => ?_)
  rw [evalPart_none]
  refine wpAny_pure (wpAny_pure ?_)
  obtain ⟨l, xs, a, rfl, rfl, hH, ha, q⟩ := q2
  cases (show u = Value.ref l from rx)
  have I3 : Inv X pins σ H2 { s2 with heap := s2.heap.push { cls := .type "slice", data := .fields #[vl, .none, .none] } } := I2.kept (t' := s2.toks) fun b ob q => Heap.get?_push_of_some _ q
  obtain ⟨z, its, n, r, hl, e⟩ := I3.lstM hH
  have dt := dropTail_eq its a (by omega)
  refine delItem_tail (a := a) e (Heap.IsSliceOf.new ..) pl (by rw [List.size_toArray]; omega) (by rw [List.size_toArray]; omega) (by rw [show its.toArray.size = its.length from List.size_toArray, dt, List.size_toArray, List.length_take]; omega) (wpAny_deleteEach_nil ⟨σ, _, ?_, q⟩)
  refine I3.lset (its' := its.take a) (t' := s2.toks) hH e ?_ (r.take a) ?_
  · rw [List.size_toArray]
    exact dt
  · rw [List.length_take]
    omega
end
end L2

set_option Elab.async false
set_option linter.all false
set_option maxRecDepth 100000
set_option maxHeartbeats 4000000
namespace L2
open PySem PySem.Spec PyProof.Rows
variable {X : Cx} {C : Addr} {bmB : List Value} {B newId initId : String} {x : Str} {p pos : Pos}
/-- C(), C an own error without an __init__ of its own -/
theorem pmk_own0 (F : ExcBaseFacts B newId initId bmB) (q : PySem.W.excIn X.K C bmB newId = true) (gC : X.mg x = some (.ref C)) (kC : PySem.W.keepIn X.K (.ref C) = true) (r : Raises X (.ref C)) (hg : Gl X x) (hdb : (x == ("__debug__" : Str)) = false := by decide) :
    PMk X (.Call (.Name x p) [] [] pos) (fun _ H Q => Q (.ref C) none H) := by
  intro pins s σ H Q I h
  refine wpAny_Call_Name_kw (ld_glob I hg gC ?_ hdb)
  refine PySem.W.callWith_K0 I.kIn kC ?_
  obtain ⟨bm, N, nm, qn, bs, hdct, sn, sub, ab, col, dd, k0, k1, k2, k3, k5, mN, hC, hN, hni, T⟩ := exc_obj I.kIn q
  exact wpAny_call_exc_subT F T hC hN hni (fun h' e hm => mk_of I hm r h (I.hok.gone hm.new)) (Nat.zero_le _)
end L2

set_option Elab.async false
set_option linter.all false
set_option maxRecDepth 100000
set_option maxHeartbeats 4000000
namespace Ash
open PySem PySem.Spec PyProof.Rows L2
open C8 (pss_cut)
/-! ### close, undo, a new office -/
def Ent.at_ : Ent → Int → Ent
  | .row id s k m a _, r => .row id s k m a r
  | .fix id m a _, r => .fix id m a r
  | .gone id _, r => .gone id r
theorem at_vs (x : Ent) (r : Int) : (x.at_ r).vs = x.vs.dropLast ++ [.int r] := by cases x <;> rfl
theorem at_id (x : Ent) (r : Int) : (x.at_ r).id = x.id := by cases x <;> rfl
theorem at_ok {x : Ent} (h : x.ok) (r : Int) : (x.at_ r).ok := by
  cases x with
  | row id s k m a q => exact ⟨h.1, fun _ _ _ _ _ _ e => by cases e; exact h.2 _ _ _ _ _ _ rfl⟩
  | fix id m a q => exact ⟨h.1, fun _ _ _ _ _ _ e => by cases e⟩
  | gone id q => exact ⟨h.1, fun _ _ _ _ _ _ e => by cases e⟩
def OS.closed (S : OS) (d : Dr) (n : Int) (us : List V) : OS := { S.dropd d.z with xs := S.xs ++ d.es.map (·.at_ n), us := S.us ++ us, past := S.past ++ [S.xs.length], cl := S.cl + 1, cb := S.cb ++ List.replicate d.es.length (S.cl + 1) }
theorem putF_j {b j j' dd pa cb : Addr} {cl : Int} : putF "journal" (.ref j') (ofF b j dd pa cl cb) = ofF b j' dd pa cl cb := rfl
theorem putF_c {b j dd pa cb : Addr} {cl cl' : Int} : putF "_closes" (.int cl') (ofF b j dd pa cl cb) = ofF b j dd pa cl' cb := rfl

theorem OfM.close_ {c : Cls6} {B A : Addr → Prop} {H H4 H' : Hp} {a : OA} {S : OS} (h : OfM c B A H a S) (s4 : Same H H4) {d : Dr} {n : Int} {us : List V} {j' : Addr} (J : JAt c.K c.aT c.CJ c.CB (cutH B H4) j' a.bj S.L (S.us ++ us) (S.xs ++ d.es.map (·.at_ n))) (hul : us.length = d.es.length) (x4 : S.xs.length + d.es.length ≤ 400)
    (k : ∀ q y, H4 q = some y → q ≠ a.dd → q ≠ a.pa → q ≠ a.o → q ≠ a.cb → H' q = some y) (ho : H' a.o = some (.ins c.CO a.dx (ofF a.b j' a.dd a.pa (S.cl + 1) a.cb))) (hdd : H' a.dd = some (.dK (DrK (S.dropd d.z).ps)))
    (hpa : H' a.pa = some (.lst ((S.past ++ [S.xs.length]).map fun (n : Nat) => V.int (n : Int)))) (hcb : H' a.cb = some (.lst ((S.cb ++ List.replicate d.es.length (S.cl + 1)).map V.int))) :
    Fr A H A H' ∧ OfM c (uni B A) A H' { a with j := j' } (S.closed d n us) := by
  have kA : ∀ q y, H4 q = some y → ¬ A q → H' q = some y := fun q y hq nq => k q y hq (fun z => nq (z ▸ h.Add)) (fun z => nq (z ▸ h.Apa)) (fun z => nq (z ▸ h.Ao)) (fun z => nq (z ▸ h.Acb))
  have f : Fr A H A H' := ⟨fun q y hq nq => kA q y (s4 _ _ hq) nq, fun _ q => .inl q⟩
  have xl : S.us.length = S.xs.length := by
    obtain ⟨_, _, _, _, _, _, h, _⟩ := h.jr
    exact h
  refine ⟨f, h.to f (fun _ x => x) (fun p hp => ?_) rfl rfl rfl rfl rfl rfl ho hdd hpa hcb (fun s => J.same (cut_step (fun q y hq nq => kA q y hq fun z => nq (h.AB _ z)) fun q z => .inl (z.elim id (h.AB q)))) ?_ (fun s d' hd' => ?_) ?_ ?_ ?_ ?_⟩
  · obtain ⟨u, e1, m⟩ := h.BT p (h.AB p hp)
    by_cases q1 : p = a.dd
    · subst q1; exact ⟨_, hdd, trivial⟩
    by_cases q2 : p = a.pa
    · subst q2; exact ⟨_, hpa, trivial⟩
    by_cases q3 : p = a.o
    · subst q3; exact ⟨_, ho, rfl⟩
    by_cases q4 : p = a.cb
    · subst q4; exact ⟨_, hcb, trivial⟩
    exact ⟨u, k _ _ (s4 _ _ e1) q1 q2 q3 q4, m⟩
  · show (S.us ++ us).length ≤ 400
    rw [List.length_append]
    omega
  · have hd0 : d' ∈ S.ps := (List.mem_filter.mp hd').1
    obtain ⟨D0, m⟩ := h.dr d' hd0
    obtain ⟨n1, n2, n3, n4⟩ := h.lne hd0
    refine ⟨D0.mono s (fun x => x) ?_, m⟩
    obtain ⟨_, _, _, _, q, _⟩ := D0
    rw [q, k _ _ (s4 _ _ q) n2 n3 n1 n4]
  · exact h.ndl.sublist ((List.filter_sublist).map _)
  · exact h.ndz.sublist ((List.filter_sublist).map _)
  · show (S.cb ++ List.replicate _ _).length = (S.xs ++ _).length
    rw [List.length_append, List.length_append, List.length_replicate, List.length_map, h.cbl]
  · show ((S.past ++ [S.xs.length]) ++ [(S.xs ++ d.es.map _).length]).Pairwise (· ≤ ·)
    rw [List.pairwise_append]
    refine ⟨h.pst, List.pairwise_singleton _ _, fun x hx y hy => ?_⟩
    rw [List.mem_singleton.mp hy, List.length_append]
    have hx' := List.pairwise_append.mp h.pst
    rcases List.mem_append.mp hx with hx | hx
    · have := hx'.2.2 x hx S.xs.length (List.mem_singleton.mpr rfl)
      omega
    · rw [List.mem_singleton.mp hx]
      omega
theorem flat_rep (v : V) : ∀ n : Nat, (List.replicate n [v]).flatten = List.replicate n v
  | 0 => rfl
  | n + 1 => by rw [List.replicate_succ, List.flatten_cons, flat_rep v n]; rfl
theorem WithN.ents {H : Hp} {us : List V} {es : List Ent} {n : Int} (h : WithN H us es (.int n)) : Ents H us (es.map (·.at_ n)) := ⟨by rw [List.length_map]; exact h.1, fun i v x a b => by
  rw [List.getElem?_map] at b
  cases e : es[i]? with
  | none => rw [e] at b; cases b
  | some y =>
    rw [e] at b
    cases b
    obtain ⟨p, h1, h2, h3⟩ := h.2 i v y a e
    exact ⟨p, h1, by unfold EntAt; rw [h2, at_vs], at_ok h3 n⟩⟩
def spCloseO (c : Cls6) (CI CM CS CE : Addr) : Sp := fun vs H Q E => ∃ (B A : Addr → Prop) (a : OA) (S : OS) (v r : V), vs = [.ref a.o, v, r] ∧ OfM c B A H a S ∧ StrOk c.K H v ∧ ((∃ n, r = .int n) ∨ NotInt c.K H r) ∧ S.past.length ≤ 900 ∧
  (∀ e H', wfind S v = none → Same H H' → Xd H' e "writer" v → E (.ref CI) (some e) H') ∧
  (∀ d e H', wfind S v = some d → NotInt c.K H r → Same H H' → Xd H' e "value" r → E (.ref CM) (some e) H') ∧
  (∀ d n m e H', wfind S v = some d → r = .int n → stale S d = some m → Same H H' → Xd H' e "id" (.int m) → E (.ref CS) (some e) H') ∧
  (∀ d n i e H', wfind S v = some d → r = .int n → stale S d = none → JBad S.L S.xs (d.es.map (·.at_ n)) i → Same H H' → Xd H' e "at" (.int (i : Int)) → E (.ref CE) (some e) H') ∧
  (∀ d n us j' H', wfind S v = some d → r = .int n → stale S d = none → Good S.L (S.xs ++ d.es.map (·.at_ n)) → S.xs.length + d.es.length ≤ 400 → Fr A H A H' → OfM c (uni B A) A H' { a with j := j' } (S.closed d n us) → Q (.int d.es.length) H')
section
variable {P : Program} {w : World} {mg : Str → Option Value} {base : Heap} {c : Cls6} {CI CM CS CE fM fl : Addr} {fdl : FuncData}
structure GO5 (P : Program) (w : World) (mg : Str → Option Value) (base : Heap) (c : Cls6) (CI CM CS CE fM : Addr) : Prop where
  T : Co c.K mg c.CO
  TJ : Cj P c.K mg c.CJ c.CB
  TD : Cd c.K mg c.CD
  TM : PySem.BadX.Txt P c.K mg "value" "value" CM fM
  c_BadMoment : mg "BadMoment" = some (.ref CM)
  is_integer : Cal P w c.K mg base CX0 "is_integer" 1 ["thing"] (spIsInt c.K)
  draft_of : Met P w c.K mg base (L2.CX P w) c.CO "_draft_of" 2 ["self", "writer"] (spDraftO c CI)
  fresh : Met P w c.K mg base (L2.CX P w) c.CO "_check_fresh" 1 ["self", "draft"] (spFreshO c CS)
  behind : Met P w c.K mg base (L2.CX P w) c.CO "_journal_behind" 10 ["self", "entries"] (spBehindO c CE)
abbrev s_Office_close : Stmt := inClass (topS 39) 8
theorem sc_Office_close : FnScope ["self", "writer", "arrival", "draft", "journal", "many", "entry"] ["self", "writer", "arrival"] (defScope s_Office_close) := ⟨rfl, rfl, rfl, by decide +kernel, rfl, by decide +kernel, by decide +kernel⟩
theorem ok_closeO {f : Addr} {fd : FuncData} (F : Fun c.K "close" "Office.close" s_Office_close f fd) (B : Blt mg) (G : GO5 P w mg base c CI CM CS CE fM)
    (Fl : FnOk P w c.K mg base CX0 1 fl fdl ["self"] (spJLen c.K c.aT c.CJ c.CB)) (hl1 : PySem.W.findIn c.K (.ref c.CJ) "__len__" = some (some (.ref fl))) (hl2 : PySem.W.isFn c.K (.ref fl) = true) (hl3 : Binds c.K fdl ["self"] []) : FnOk P w c.K mg base (L2.CX P w) 11 f fd ["self", "writer", "arrival"] (spCloseO c CI CM CS CE) := by
  have T := G.T
  have TD := G.TD
  refine F.okX sc_Office_close (fun vs H Q E h => ?_) (fun cdv A0 outer s H vs Q E hr h => ?_)
  · obtain ⟨B, A, a, S, v, r, rfl, _⟩ := h
    rfl
  · obtain ⟨B', A, a, S, v, r, rfl, M, hv, hr0, hp9, qi, qm, qs, qe, q⟩ := h
    have hu := hu_of hr
    refine ⟨_, (pss_cons (ps_set (i := 3) sc_Office_close.nd rfl (Or.inl rfl) (pe_met T.cl G.draft_of (hr.mono (by decide)) (passE (takes_of rfl rfl rfl rfl)) (pv 0) (pa_cons (pv 1) pa_nil)))
    (pss_cons (ps_if (pt_not (pt_val (pe_cal G.is_integer (hr.mono (by decide)) pass0 (pa_cons (pv 2) pa_nil))))
      (pss_one (ps_raiseB rfl G.TM par_value G.c_BadMoment (hr.mono (Nat.zero_le _)) (takes_of rfl rfl rfl rfl) (pa_cons (pv 2) pa_nil) (by rfl)))
      pss_nil)
    (pss_cons (ps_expr (pe_met T.cl G.fresh (hr.mono (by decide)) (passE (takes_of rfl rfl rfl rfl)) (pv 0) (pa_cons (pv 3) pa_nil)))
    (pss_cons (ps_set (i := 4) sc_Office_close.nd rfl (Or.inl rfl) (pe_met T.cl G.behind (hr.mono (by decide)) (passE (takes_of rfl rfl rfl rfl)) (pv 0) (pa_cons (pe_lc (own := [("entry", 6)]) (g := gName 6) (tt := tYes) (by rfl) sc_Office_close.nd (pi_list (pe_fld (pv 3) rfl)) (blkOk_by (own := [("entry", 6)]) (N := ["self", "writer", "arrival", "draft", "journal", "many", "entry"]) (sc := defScope s_Office_close) (by decide +kernel)) (fun _ _ _ _ _ => (pg_name (i := 6) sc_Office_close.nd rfl (Or.inl rfl))) (fun _ _ _ _ _ => pts_nil) (fun _ _ _ _ _ => (show PE _ _ (tTup (StX.tStar c.K (tVar 6) (tCons (tVar 2) tNil))) from (pe_tup (StX.pa_star (pv 6) (pa_cons (pv 2) pa_nil)))))) pa_nil)))
    (pss_cons (ps_set (i := 5) sc_Office_close.nd rfl (Or.inl rfl) (pe_callB call_len_seq (by rfl) B.len (by decide +kernel) (pa_cons (pe_fld (pv 3) rfl) pa_nil)))
    (pss_cons (ps_ddel (pe_fld (pv 0) rfl) (pv 1))
    (pss_cons (ps_expr (pe_bm PySem.F.plainAttrs_list PySem.F.slot_list_append PySem.F.type_list_append mt_append (pe_fld (pv 0) rfl) (pa_cons (pe_callB (call_lenI Fl hl1 hl2 hl3 pass0 (hr.mono (by decide))) (by rfl) B.len (by decide +kernel) (pa_cons (pe_fld (pv 0) rfl) pa_nil)) pa_nil)))
    (pss_cons (ps_fldaug (pv 0) pe_int in_add)
    (pss_cons (ps_expr (pe_bm PySem.F.plainAttrs_list PySem.F.slot_list_extend PySem.F.type_list_extend mt_extend (pe_fld (pv 0) rfl) (pa_cons (pe_op op_rep (pe_lst (pa_cons (pe_fld (pv 0) rfl) pa_nil)) (pv 5)) pa_nil)))
    (pss_cons (ps_fld (pv 0) (pv 4) rfl)
    (pss_one (ps_ret (pv 5))))))))))))), ?_⟩
    refine ⟨_, rfl, a.o, a.dx, _, rfl, M.o, rfl, _, rfl, B', A, a, S, v, rfl, M, hv, fun d H1 ed s1 => ?_, fun e H1 en s1 x => qi e H1 en s1 x⟩
    have M1 := M.same s1
    obtain ⟨hd, rfl⟩ := wfind_mem M ed
    rcases hr0 with ⟨n, rfl⟩ | hni
    rotate_left
    · obtain ⟨t0, bi, bb, ty, k1, k2, k3⟩ := id hni
      exact ⟨_, rfl, r, rfl, .inr ⟨⟨t0, bi, bb, tyx_same ty s1, k1, k2, k3⟩, ⟨_, rfl, iteT ⟨_, rfl, _, rfl, fun e' he' => qm d e' _ ed hni (s1.trans (sameAt (Same.refl _) he')) upd_same⟩⟩⟩⟩
    refine ⟨_, rfl, _, rfl, .inl ⟨n, rfl, ⟨_, rfl, iteF ?_⟩⟩⟩
    refine ⟨_, rfl, a.o, a.dx, _, rfl, M1.o, rfl, _, rfl, B', A, a, S, d, rfl, M1, hd, fun H2 st s2 => ?_, fun m e' H2 st s2 hx => qs d n m e' H2 ed rfl st (s1.trans s2) hx⟩
    have M2 := M1.same s2
    obtain ⟨⟨tx, us, hft, hA, hl, hde⟩, _, _, _, h20⟩ := M2.dr d hd
    have hde1 := hde.same (cut_same _ _)
    have hft2 := cut_same _ _ _ _ hft
    refine ⟨_, rfl, a.o, a.dx, _, rfl, M2.o, rfl, _, rfl, d.t, c.CD, tx, _, _, rfl, hft2, TD.cl, TD.nE, rfl, d.l, rfl, ⟨_, SqL.of hl⟩, fun D hD => ?_⟩
    refine lc_list (a := d.l) (xs := us) (fun i H3 => ∃ us', H3 D = some (.lst us') ∧ WithN H3 us' (d.es.take i) (.int n) ∧ Same H2 H3) ⟨[], upd_same, ⟨rfl, fun _ _ _ e => nomatch e⟩, sameAt (Same.refl _) hD⟩ (fun i H3 _ hv => by obtain ⟨_, _, _, h⟩ := hv; exact SqL.of (h _ _ hl)) ?_ ?_
    · rintro i v H3 hvi ⟨us', hD3, hW, s3⟩
      have hil := (List.getElem?_eq_some_iff.mp hvi).1
      obtain ⟨x, hx⟩ : ∃ x, d.es[i]? = some x := ⟨_, List.getElem?_eq_getElem (by rw [← hde.1]; exact hil)⟩
      obtain ⟨e, rfl, he, ok⟩ := hde1.2 i v x hvi hx
      have he3 : H3 e = some (.tup x.vs.dropLast) := s3 _ _ he
      refine ⟨rfl, _, rfl, e, _, rfl, .inl (SqT.of he3), _, rfl, vs_lenW x (.int n), fun t ht => ?_⟩
      have s4 : Same H3 (upd H3 t (.tup (x.vs.dropLast ++ [V.int n]))) := sameAt (Same.refl _) ht
      have tD : D ≠ t := fun z => by rw [← z, hD3] at ht; cases ht
      have hul : us'.length ≤ 20 := by
        have := hW.1
        rw [List.length_take] at this
        omega
      refine ⟨us', s4 _ _ hD3, small1000 (by omega), us' ++ [.ref t], upd_same, ?_, sameAt (s3.trans s4) hD⟩
      rw [list_take' hx]
      have s5 : ∀ (k : Addr) (xs : List V), (upd H3 t (.tup (x.vs.dropLast ++ [V.int n]))) k = some (.tup xs) → (upd (upd H3 t (.tup (x.vs.dropLast ++ [V.int n]))) D (.lst (us' ++ [V.ref t]))) k = some (.tup xs) := fun k xs h => by
        rw [upd_ne (fun z => by rw [z, s4 _ _ hD3] at h; cases h)]
        exact h
      refine WithN.snoc ⟨hW.1, fun k v y a b => ?_⟩ (s5 _ _ upd_same) ok
      obtain ⟨e', h1, h2, h3⟩ := hW.2 k v y a b
      exact ⟨e', h1, s5 _ _ (s4 _ _ h2), h3⟩
    · rintro H3 ⟨us', hD3, hW, s3⟩
      rw [List.take_of_length_le (by rw [hde.1]; exact Nat.le_refl _)] at hW
      have s03 := (s1.trans s2).trans s3
      have M3 := M.same s03
      refine ⟨B', A, a, S, D, us', d.es.map (·.at_ n), rfl, M3, hD3, hW.ents, by rw [List.length_map]; exact h20, fun j' H4 s4 gd x4 J => ?_, fun i e' H4 hb s4 hx => qe d n i e' H4 ed rfl st hb (s03.trans s4) hx⟩
      have s04 := s03.trans s4
      have M4 := M.same s04
      have hl4 : H4 d.l = some (.lst us) := (s3.trans s4) _ _ hl
      rw [List.length_map] at x4
      refine ⟨_, rfl, d.t, c.CD, tx, _, _, rfl, (s3.trans s4) _ _ hft2, TD.cl, TD.nE, rfl, d.l, us, rfl, .inl (SqL.of hl4), ?_⟩
      refine ⟨_, rfl, a.o, c.CO, a.dx, _, _, rfl, M4.o, T.cl, T.nD, rfl, _, rfl, a.dd, _, Sum.inr d.z, rfl, M4.dd, rfl, ?_, ?_⟩
      · rw [M4.val]
        have : S.find d.z = some d := ed
        rw [this]
        rfl
      rw [DrK_drop]
      have no : a.o ≠ a.dd := ne_of M.o M.dd (by intro z; cases z)
      have npd : a.pa ≠ a.dd := ne_of M.pa M.dd (by intro z; cases z)
      have ncd : a.cb ≠ a.dd := ne_of M.cb M.dd (by intro z; cases z)
      have npo : a.pa ≠ a.o := ne_of M.pa M.o (by intro z; cases z)
      have nco : a.cb ≠ a.o := ne_of M.cb M.o (by intro z; cases z)
      obtain ⟨jx, jt, jk, j1, j2, j3, j4, j5⟩ := id (M4.jr.same (cut_same _ _))
      have njd : a.j ≠ a.dd := ne_of j1 M4.dd (by intro z; cases z)
      have J5 : JAt c.K c.aT c.CJ c.CB (upd H4 a.dd (.dK (DrK (S.dropd d.z).ps))) a.j a.bj S.L S.us S.xs := M4.jr.same fun q y hq => by
        obtain ⟨n1, n2⟩ := cut_of hq
        rw [upd_ne (fun z : q = a.dd => n1 (by rw [z]; exact M.AB _ M.Add))]
        exact n2
      have hpaL : (S.past.map fun (n : Nat) => V.int (n : Int)).length < sizeLine := by
        rw [List.length_map]
        exact small1000 (by omega)
      have xl : S.us.length = S.xs.length := j4
      have ho5 : (upd H4 a.dd (.dK (DrK (S.dropd d.z).ps))) a.o = some (.ins c.CO a.dx (ofF a.b a.j a.dd a.pa S.cl a.cb)) := by rw [upd_ne no]; exact M4.o
      have hp5 : (upd H4 a.dd (.dK (DrK (S.dropd d.z).ps))) a.pa = some (.lst (S.past.map fun (n : Nat) => V.int (n : Int))) := by rw [upd_ne npd]; exact M4.pa
      have hc5 : (upd H4 a.dd (.dK (DrK (S.dropd d.z).ps))) a.cb = some (.lst (S.cb.map V.int)) := by rw [upd_ne ncd]; exact M4.cb
      have hj5 : (upd H4 a.dd (.dK (DrK (S.dropd d.z).ps))) a.j = some (.ins c.CJ jx (jf a.bj jt jk)) := by rw [upd_ne njd]; exact j1
      have k5 : ∀ q y, H4 q = some y → q ≠ a.dd → (upd H4 a.dd (.dK (DrK (S.dropd d.z).ps))) q = some y := fun q y hq n => by rw [upd_ne n]; exact hq
      have d5 : (upd H4 a.dd (.dK (DrK (S.dropd d.z).ps))) a.dd = some (.dK (DrK (S.dropd d.z).ps)) := upd_same
      generalize (upd H4 a.dd (.dK (DrK (S.dropd d.z).ps))) = H5 at J5 ho5 hp5 hc5 hj5 k5 d5 ⊢
      refine ⟨_, rfl, a.o, c.CO, a.dx, _, _, rfl, ho5, T.cl, T.nP, rfl, .inl ⟨rfl, _, SqL.of hp5⟩, _, rfl, a.o, c.CO, a.dx, _, _, rfl, ho5, T.cl, T.nJ, rfl, a.j, jx, _, rfl, hj5, a.j, a.bj, S.L, S.us, S.xs, rfl, J5, S.us.length, rfl, by have := M.x4; omega, a.pa, _, _, rfl, rfl, hp5, hpaL, ?_⟩
      have e6 : (S.past.map fun (n : Nat) => V.int (n : Int)) ++ [V.int (S.us.length : Int)] = (S.past ++ [S.xs.length]).map fun (n : Nat) => V.int (n : Int) := by rw [xl, List.map_append]; rfl
      rw [e6]
      have ho6 : (upd H5 a.pa (.lst ((S.past ++ [S.xs.length]).map fun (n : Nat) => V.int (n : Int)))) a.o = some (.ins c.CO a.dx (ofF a.b a.j a.dd a.pa S.cl a.cb)) := by rw [upd_ne npo.symm]; exact ho5
      have hc6 : (upd H5 a.pa (.lst ((S.past ++ [S.xs.length]).map fun (n : Nat) => V.int (n : Int)))) a.cb = some (.lst (S.cb.map V.int)) := by rw [upd_ne M.ne.symm]; exact hc5
      have k6 : ∀ q y, H4 q = some y → q ≠ a.dd → q ≠ a.pa → (upd H5 a.pa (.lst ((S.past ++ [S.xs.length]).map fun (n : Nat) => V.int (n : Int)))) q = some y := fun q y hq n1 n2 => by rw [upd_ne n2]; exact k5 q y hq n1
      have d6 : (upd H5 a.pa (.lst ((S.past ++ [S.xs.length]).map fun (n : Nat) => V.int (n : Int)))) a.dd = some (.dK (DrK (S.dropd d.z).ps)) := by rw [upd_ne npd.symm]; exact d5
      have p6 : (upd H5 a.pa (.lst ((S.past ++ [S.xs.length]).map fun (n : Nat) => V.int (n : Int)))) a.pa = some (.lst ((S.past ++ [S.xs.length]).map fun (n : Nat) => V.int (n : Int))) := upd_same
      generalize (upd H5 a.pa (.lst ((S.past ++ [S.xs.length]).map fun (n : Nat) => V.int (n : Int)))) = H6 at ho6 hc6 k6 d6 p6 ⊢
      refine ⟨_, rfl, a.o, c.CO, a.dx, _, _, rfl, ho6, T.cl, T.nC, rfl, _, _, rfl, rfl, _, _, ho6, (by show 6 < 1000; decide), ?_⟩
      rw [putF_c]
      have ho7 : (upd H6 a.o (.ins c.CO a.dx (ofF a.b a.j a.dd a.pa (S.cl + 1) a.cb))) a.o = some (.ins c.CO a.dx (ofF a.b a.j a.dd a.pa (S.cl + 1) a.cb)) := upd_same
      have hc7 : (upd H6 a.o (.ins c.CO a.dx (ofF a.b a.j a.dd a.pa (S.cl + 1) a.cb))) a.cb = some (.lst (S.cb.map V.int)) := by rw [upd_ne nco]; exact hc6
      have k7 : ∀ q y, H4 q = some y → q ≠ a.dd → q ≠ a.pa → q ≠ a.o → (upd H6 a.o (.ins c.CO a.dx (ofF a.b a.j a.dd a.pa (S.cl + 1) a.cb))) q = some y := fun q y hq n1 n2 n3 => by rw [upd_ne n3]; exact k6 q y hq n1 n2
      have d7 : (upd H6 a.o (.ins c.CO a.dx (ofF a.b a.j a.dd a.pa (S.cl + 1) a.cb))) a.dd = some (.dK (DrK (S.dropd d.z).ps)) := by rw [upd_ne no.symm]; exact d6
      have p7 : (upd H6 a.o (.ins c.CO a.dx (ofF a.b a.j a.dd a.pa (S.cl + 1) a.cb))) a.pa = some (.lst ((S.past ++ [S.xs.length]).map fun (n : Nat) => V.int (n : Int))) := by rw [upd_ne npo]; exact p6
      generalize (upd H6 a.o (.ins c.CO a.dx (ofF a.b a.j a.dd a.pa (S.cl + 1) a.cb))) = H7 at ho7 hc7 k7 d7 p7 ⊢
      refine ⟨_, rfl, a.o, c.CO, a.dx, _, _, rfl, ho7, T.cl, T.nY, rfl, .inl ⟨rfl, _, SqL.of hc7⟩, _, rfl, a.o, c.CO, a.dx, _, _, rfl, ho7, T.cl, T.nC, rfl, (by show 1 ≤ sizeLine; decide), fun p1 np1 => ?_⟩
      have s8 : Same H7 (upd H7 p1 (.lst [V.int (S.cl + 1)])) := sameAt (Same.refl _) np1
      have hul : us.length = d.es.length := hde.1
      have sz : us.length ≤ sizeLine := Nat.le_of_lt (small1000 (by omega))
      refine ⟨_, rfl, p1, _, _, rfl, rfl, upd_same, by omega, by omega, (by show 1 * ((us.length : Int).toNat) ≤ _; rw [Int.toNat_natCast]; omega), fun p2 np2 => ?_⟩
      rw [Int.toNat_natCast, flat_rep]
      have hc8 := s8 _ _ hc7
      have ho8 := s8 _ _ ho7
      have hd8 := s8 _ _ d7
      have hp8 := s8 _ _ p7
      have k8 : ∀ q y, H4 q = some y → q ≠ a.dd → q ≠ a.pa → q ≠ a.o → (upd H7 p1 (.lst [V.int (S.cl + 1)])) q = some y := fun q y hq n1 n2 n3 => s8 _ _ (k7 q y hq n1 n2 n3)
      generalize (upd H7 p1 (.lst [V.int (S.cl + 1)])) = H8 at np2 hc8 ho8 hd8 hp8 k8 ⊢
      have s9 : Same H8 (upd H8 p2 (.lst (List.replicate us.length (V.int (S.cl + 1))))) := sameAt (Same.refl _) np2
      have cl4 := M.cbl
      have mx := M.x4
      refine ⟨a.cb, p2, _, _, rfl, rfl, s9 _ _ hc8, upd_same, ?_, ?_⟩
      · rw [List.length_map, List.length_replicate]
        exact Nat.le_of_lt (small1000 (by omega))
      have e10 : S.cb.map V.int ++ List.replicate us.length (V.int (S.cl + 1)) = (S.cb ++ List.replicate d.es.length (S.cl + 1)).map V.int := by rw [List.map_append, List.map_replicate, hul]
      rw [e10]
      have ncp2 : a.cb ≠ p2 := fun z => by rw [← z, hc8] at np2; cases np2
      have noc : a.o ≠ a.cb := nco.symm
      refine ⟨_, rfl, _, rfl, a.o, c.CO, a.dx, _, rfl, (by rw [upd_ne noc]; exact s9 _ _ ho8), T.cl, T.nJ, (by show 6 < 1000; decide), ?_⟩
      rw [putF_j]
      refine ⟨_, rfl, ?_⟩
      have H11 := M.close_ (H' := upd (upd (upd H8 p2 (.lst (List.replicate us.length (V.int (S.cl + 1))))) a.cb (.lst ((S.cb ++ List.replicate d.es.length (S.cl + 1)).map V.int))) a.o (.ins c.CO a.dx (ofF a.b j' a.dd a.pa (S.cl + 1) a.cb))) (n := n) (us := us') s04 J (by rw [hW.1]) x4 (fun q y hq n1 n2 n3 n4 => by rw [upd_ne n3, upd_ne n4]; exact s9 _ _ (k8 q y hq n1 n2 n3)) upd_same
        (by rw [upd_ne no.symm, upd_ne ncd.symm]; exact s9 _ _ hd8) (by rw [upd_ne npo, upd_ne M.ne]; exact s9 _ _ hp8) (by rw [upd_ne nco]; exact upd_same)
      rw [hul] at H11 ⊢
      exact q d n us' j' _ ed rfl st gd x4 H11.1 H11.2
end
end Ash

set_option Elab.async false
set_option linter.all false
set_option maxRecDepth 100000
set_option maxHeartbeats 4000000
namespace Ash
open PySem PySem.Spec PyProof.Rows L2
open C8 (pss_cut)
/-! ### undo, a new office -/
def OS.undone (S : OS) (p : List Nat) (m : Nat) : OS := { S with xs := S.xs.take m, us := S.us.take m, past := p, cb := S.cb.take m }
theorem OfM.undo_ {c : Cls6} {B A : Addr → Prop} {H H4 H' : Hp} {a : OA} {S : OS} (h : OfM c B A H a S) (k0 : ∀ q y, H q = some y → q ≠ a.pa → H4 q = some y) {p : List Nat} {m : Nat} {j' : Addr} (ep : S.past = p ++ [m]) (J : JAt c.K c.aT c.CJ c.CB (cutH B H4) j' a.b S.L (S.us.take m) (S.xs.take m))
    (k : ∀ q y, H4 q = some y → q ≠ a.pa → q ≠ a.o → q ≠ a.cb → H' q = some y) (ho : H' a.o = some (.ins c.CO a.dx (ofF a.b j' a.dd a.pa S.cl a.cb)))
    (hpa : H' a.pa = some (.lst (p.map fun (n : Nat) => V.int (n : Int)))) (hcb : H' a.cb = some (.lst ((S.cb.take m).map V.int))) :
    Fr A H A H' ∧ OfM c (uni B A) A H' { a with j := j', bj := a.b } (S.undone p m) := by
  have kA : ∀ q y, H4 q = some y → ¬ A q → H' q = some y := fun q y hq nq => k q y hq (fun z => nq (z ▸ h.Apa)) (fun z => nq (z ▸ h.Ao)) (fun z => nq (z ▸ h.Acb))
  have f : Fr A H A H' := ⟨fun q y hq nq => kA q y (k0 _ _ hq fun z => nq (z ▸ h.Apa)) nq, fun _ q => .inl q⟩
  have ndp : a.dd ≠ a.pa := ne_of h.dd h.pa (by intro z; cases z)
  have ndo : a.dd ≠ a.o := ne_of h.dd h.o (by intro z; cases z)
  have ndc : a.dd ≠ a.cb := ne_of h.dd h.cb (by intro z; cases z)
  have hp := h.pst
  rw [ep, List.append_assoc] at hp
  have hp1 := List.pairwise_append.mp hp
  have hm : m ≤ S.xs.length := (List.pairwise_append.mp (show ([m] ++ [S.xs.length]).Pairwise (· ≤ ·) from hp1.2.1)).2.2 m (List.mem_singleton.mpr rfl) _ (List.mem_singleton.mpr rfl)
  refine ⟨f, h.to f (fun _ x => x) (fun q hq => ?_) rfl rfl rfl rfl rfl rfl ho (k _ _ (k0 _ _ h.dd ndp) ndp ndo ndc) hpa hcb (fun s => J.same (cut_step (fun q y hq nq => kA q y hq fun z => nq (h.AB _ z)) fun q z => .inl (z.elim id (h.AB q)))) ?_ (fun s d' hd' => ?_) h.ndl h.ndz ?_ ?_⟩
  · obtain ⟨u, e1, mm⟩ := h.BT q (h.AB q hq)
    by_cases q2 : q = a.pa
    · subst q2; exact ⟨_, hpa, trivial⟩
    by_cases q3 : q = a.o
    · subst q3; exact ⟨_, ho, rfl⟩
    by_cases q4 : q = a.cb
    · subst q4; exact ⟨_, hcb, trivial⟩
    exact ⟨u, k _ _ (k0 _ _ e1 q2) q2 q3 q4, mm⟩
  · show (S.us.take m).length ≤ 400
    have := h.x4
    rw [List.length_take]
    omega
  · obtain ⟨D0, mm⟩ := h.dr d' hd'
    obtain ⟨n1, n2, n3, n4⟩ := h.lne hd'
    refine ⟨D0.mono s (fun x => x) ?_, mm⟩
    obtain ⟨_, _, _, _, q, _⟩ := D0
    rw [q, k _ _ (k0 _ _ q n3) n3 n1 n4]
  · show (S.cb.take m).length = (S.xs.take m).length
    rw [List.length_take, List.length_take, h.cbl]
  · show (p ++ [(S.xs.take m).length]).Pairwise (· ≤ ·)
    rw [List.length_take, Nat.min_eq_left hm, List.pairwise_append]
    exact ⟨hp1.1, List.pairwise_singleton _ _, fun x hx y hy => by
      rw [List.mem_singleton.mp hy]
      exact hp1.2.2 x hx m (List.mem_append.mpr (.inl (List.mem_singleton.mpr rfl)))⟩
def spUndoO (c : Cls6) (CT : Addr) : Sp := fun vs H Q E => ∃ (B A : Addr → Prop) (a : OA) (S : OS), vs = [.ref a.o] ∧ OfM c B A H a S ∧
  (∀ H', S.past = [] → Same H H' → E (.ref CT) none H') ∧
  (∀ p m j' H', S.past = p ++ [m] → Fr A H A H' → OfM c (uni B A) A H' { a with j := j', bj := a.b } (S.undone p m) → Q .non H')
abbrev veB : List Value := [.type "ValueError", .type "Exception", .type "BaseException", .type "object"]
section
variable {P : Program} {w : World} {mg : Str → Option Value} {base : Heap} {c : Cls6} {CT CE : Addr}
structure GO6 (P : Program) (w : World) (mg : Str → Option Value) (base : Heap) (c : Cls6) (CT CE : Addr) : Prop extends K8N P w c.K mg base c.CB c.aT c.CJ CE where
  T : Co c.K mg c.CO
  TJ : Cj P c.K mg c.CJ c.CB
  xT : PySem.W.excIn c.K CT veB "ValueError.__new__" = true
  gT : mg "NothingDone" = some (.ref CT)
  kT : PySem.W.keepIn c.K (.ref CT) = true
  bT : PySem.W.subIn c.K (.ref CT) (.type "BaseException") = some true
  tT : PySem.W.typeIn c.K (.ref CT) = some (.type "type")
abbrev s_Office_undo : Stmt := inClass (topS 39) 9
theorem sc_Office_undo : FnScope ["self", "many"] ["self"] (defScope s_Office_undo) := ⟨rfl, rfl, rfl, by decide +kernel, rfl, by decide +kernel, by decide +kernel⟩
theorem ok_undoO {f : Addr} {fd : FuncData} (F : Fun c.K "undo" "Office.undo" s_Office_undo f fd) (B : Blt mg) (G : GO6 P w mg base c CT CE) : FnOk P w c.K mg base (L2.CX P w) 9 f fd ["self"] (spUndoO c CT) := by
  have T := G.T
  have TJ := G.TJ
  refine F.okX sc_Office_undo (fun vs H Q E h => ?_) (fun cdv A0 outer s H vs Q E hr h => ?_)
  · obtain ⟨B, A, a, S, rfl, _⟩ := h
    rfl
  · obtain ⟨B', A, a, S, rfl, M, qn, q⟩ := h
    have hu := hu_of hr
    refine ⟨_, (pss_cons (ps_if (pt_cmpR op_eq (pe_callB call_len_seq (by rfl) B.len (by decide +kernel) (pa_cons (pe_fld (pv 0) rfl) pa_nil)) pe_int (nomark _))
      (pss_one (ps_raise rfl (takes_of rfl rfl rfl rfl) (pmk_own0 PySem.F.excBase_ValueError G.xT G.gT G.kT (raises_own G.bT G.tT) rfl)))
      pss_nil)
    (pss_cons (ps_set (i := 1) sc_Office_undo.nd rfl (Or.inl rfl) (pe_bm0 PySem.F.plainAttrs_list PySem.F.slot_list_pop PySem.F.type_list_pop mt_pop (pe_fld (pv 0) rfl)))
    (pss_cons (ps_fld (pv 0) (pe_mak G.k8.Journal (hr.mono (by decide)) (passE (takes_of rfl rfl rfl rfl)) (pa_cons (pe_fld (pv 0) rfl) (pa_cons (pe_slice sl_tupA (pe_fld (pe_fld (pv 0) rfl) rfl) po_none (po_some (pv 1))) pa_nil))) rfl)
    (pss_one (ps_delTail (pe_fld (pv 0) rfl) (po_some (pv 1))))))), ?_⟩
    refine ⟨_, rfl, a.o, c.CO, a.dx, _, _, rfl, M.o, T.cl, T.nP, rfl, a.pa, _, rfl, .inl (SqL.of M.pa), rfl, _, rfl, ?_⟩
    rcases List.eq_nil_or_concat S.past with e0 | ⟨p, m, e0⟩
    · rw [e0]
      exact iteT (qn H e0 (Same.refl _))
    have e0 : S.past = p ++ [m] := by rw [e0]; simp
    have ne0 : ¬ (V.int ((S.past.map fun (n : Nat) => V.int (n : Int)).length : Int) = V.int 0) := fun z => by
      have := V.int.inj z
      rw [List.length_map, e0, List.length_append] at this
      have h1 : ([m] : List Nat).length = 1 := rfl
      omega
    rw [decide_eq_false ne0]
    refine iteF ⟨_, rfl, a.o, c.CO, a.dx, _, _, rfl, M.o, T.cl, T.nP, rfl, .inl ⟨rfl, _, SqL.of M.pa⟩, a.pa, _, .int (m : Int), rfl, rfl, M.pa, ?_, ?_⟩
    · rw [e0, List.map_append, List.length_append, List.getElem?_append_right (by show _ ≤ _ + 1 - 1; omega)]
      show [V.int (m : Int)][_ + 1 - 1 - _]? = _
      rw [show ∀ n : Nat, n + 1 - 1 - n = 0 from fun n => by omega]
      rfl
    have e1 : (S.past.map fun (n : Nat) => V.int (n : Int)).dropLast = p.map fun (n : Nat) => V.int (n : Int) := by
      rw [e0, List.map_append]
      exact List.dropLast_concat
    rw [e1]
    have nop : a.o ≠ a.pa := ne_of M.o M.pa (by intro z; cases z)
    have k1 : ∀ q y, H q = some y → q ≠ a.pa → (upd H a.pa (.lst (p.map fun (n : Nat) => V.int (n : Int)))) q = some y := fun q y hq n => by rw [upd_ne n]; exact hq
    have p1 : (upd H a.pa (.lst (p.map fun (n : Nat) => V.int (n : Int)))) a.pa = some (.lst (p.map fun (n : Nat) => V.int (n : Int))) := upd_same
    have c1 : Same (cutH B' H) (upd H a.pa (.lst (p.map fun (n : Nat) => V.int (n : Int)))) := fun q y hq => by
      obtain ⟨n1, n2⟩ := cut_of hq
      exact k1 q y n2 fun z => n1 (by rw [z]; exact M.AB _ M.Apa)
    have fr1 : ∀ q, (upd H a.pa (.lst (p.map fun (n : Nat) => V.int (n : Int)))) q = none → H q = none := fun q hq => by
      by_cases z : q = a.pa
      · rw [z, p1] at hq; cases hq
      · rw [upd_ne z] at hq; exact hq
    generalize (upd H a.pa (.lst (p.map fun (n : Nat) => V.int (n : Int)))) = H1 at k1 p1 c1 fr1 ⊢
    have ho1 := k1 _ _ M.o nop
    have J1 := M.jr.same c1
    have B1 := M.bk.same c1
    obtain ⟨jx, jt, jk, j1, j2, j3, j4, j5, j6, j7⟩ := id J1
    have hp := M.pst
    rw [e0, List.append_assoc] at hp
    have hm : m ≤ S.xs.length := (List.pairwise_append.mp (show ([m] ++ [S.xs.length]).Pairwise (· ≤ ·) from (List.pairwise_append.mp hp).2.1)).2.2 m (List.mem_singleton.mpr rfl) _ (List.mem_singleton.mpr rfl)
    refine ⟨_, rfl, a.o, c.CO, a.dx, _, _, rfl, ho1, T.cl, T.nB, rfl, _, rfl, a.o, c.CO, a.dx, _, _, rfl, ho1, T.cl, T.nJ, rfl, a.j, c.CJ, jx, _, _, rfl, j1, TJ.cl, TJ.nE, jf_e _ _ _, _, rfl, ?_⟩
    refine ⟨_, rfl, jt, S.us, rfl, j3, fun hw => ?_, fun hw t2 nt2 => ?_⟩
    · have em : S.us.take m = S.us := by
        have h2 : HT.sIx S.us.length S.us.length (some (m : Int)) = S.us.length := hw.2
        rw [HT.sIx_nat] at h2
        exact List.take_of_length_le (by omega)
      have hsq : SqT c.K H1 jt (S.us.take m) := by rw [em]; exact j3
      obtain ⟨t2, et⟩ : ∃ X, X = jt := ⟨_, rfl⟩
      obtain ⟨H2, eH⟩ : ∃ X, X = H1 := ⟨_, rfl⟩
      have s12 : Same H1 H2 := by rw [eH]; exact Same.refl _
      rw [← eH, ← et] at hsq ⊢
      intro x dx' nx ndx nex
      have sX : Same H2 (upd (upd H2 dx' (.own x)) x (.ins c.CJ dx' [])) := (sameAt (Same.refl _) ndx).trans (sameAt (Same.refl _) (by rw [upd_ne (Ne.symm nex)]; exact nx))
      have s1X := s12.trans sX
      refine ⟨x, dx', a.b, t2, S.L, S.us.take m, (S.xs.take m).map some, rfl, upd_same, B1.same s1X, .inr (seqS hsq sX), by have := M.x4; rw [List.length_take]; omega, by rw [List.length_map, List.length_take, List.length_take, j4], fun i v o hv ho => ?_, fun H5 ys hys hw hJ5 hk kk => ⟨rfl, ?_⟩, fun i d H5 hw s hx => ?_⟩
      · rw [List.getElem?_map] at ho
        cases e : (S.xs.take m)[i]? with
        | none => rw [e] at ho; cases ho
        | some y =>
          rw [e] at ho
          cases ho
          have hi : i < m := by
            have := (List.getElem?_eq_some_iff.mp e).1
            rw [List.length_take] at this
            omega
          rw [List.getElem?_take_of_lt hi] at hv e
          exact (j5 i v y hv e).same s1X
      · have e5 : ys = S.xs.take m := ((List.map_inj_right (fun a b h => Option.some.inj h)).mp hys).symm
        subst e5
        have s5 : Same H1 H5 := s12.trans (mk_same nx ndx kk)
        have ho5 := s5 _ _ ho1
        obtain ⟨dx5, t5, kd5, k51, k52⟩ := hk
        have BT1 : ∀ q, B' q → Mu c.CO (H1 q) := fun q hq => by
          by_cases z : q = a.pa
          · subst z; exact ⟨_, p1, trivial⟩
          · obtain ⟨u, e1, mm⟩ := M.BT q hq
            exact ⟨u, k1 _ _ e1 z, mm⟩
        have JC := hJ5.cut s5 BT1 (no_of s12 nx) ⟨dx5, t5, kd5, k51, no_of s1X k52⟩ ((M.bk.same (cut_step (fun q y hq nq => k1 q y hq fun z => nq (by rw [z]; exact M.AB _ M.Apa)) fun q z => .inl z)).same (cut_step (fun q y hq _ => s5 _ _ hq) fun q z => .inl z))
        refine ⟨_, rfl, a.o, c.CO, a.dx, _, rfl, ho5, T.cl, T.nJ, (by show 6 < 1000; decide), ?_⟩
        rw [putF_j]
        have nco : a.cb ≠ a.o := ne_of M.cb M.o (by intro z; cases z)
        have npo : a.pa ≠ a.o := nop.symm
        have hc6 : (upd H5 a.o (.ins c.CO a.dx (ofF a.b x a.dd a.pa S.cl a.cb))) a.cb = some (.lst (S.cb.map V.int)) := by rw [upd_ne nco]; exact s5 _ _ (k1 _ _ M.cb M.ne.symm)
        have ho6 : (upd H5 a.o (.ins c.CO a.dx (ofF a.b x a.dd a.pa S.cl a.cb))) a.o = some (.ins c.CO a.dx (ofF a.b x a.dd a.pa S.cl a.cb)) := upd_same
        refine ⟨_, rfl, a.o, c.CO, a.dx, _, _, rfl, ho6, T.cl, T.nY, rfl, _, rfl, _, rfl, a.cb, _, m, rfl, rfl, hc6, (by rw [List.length_map, M.cbl]; exact hm), ?_⟩
        have e7 : (S.cb.map V.int).take m = (S.cb.take m).map V.int := List.map_take.symm
        rw [e7]
        have fin := M.undo_ (H4 := H5) (H' := upd (upd H5 a.o (.ins c.CO a.dx (ofF a.b x a.dd a.pa S.cl a.cb))) a.cb (.lst ((S.cb.take m).map V.int))) (fun q y hq n => s5 _ _ (k1 q y hq n)) e0 JC (fun q y hq _ n2 n3 => by rw [upd_ne n3, upd_ne n2]; exact hq) (by rw [upd_ne nco.symm]; exact upd_same) (by rw [upd_ne M.ne, upd_ne npo]; exact s5 _ _ p1) upd_same
        exact q p m x _ e0 fin.1 fin.2
      · have g : (wk S.L (S.xs.map some) 0 (fun _ => none) none) = (none, (wk S.L (S.xs.map some) 0 (fun _ => none) none).2) := by rw [← j6]
        obtain ⟨Sk, hk⟩ := wk_pre g m
        rw [hk] at hw
        cases hw
    · have em : cutV S.us none (some (m : Int)) = S.us.take m := by
        unfold cutV
        rw [HT.sIx_nat]
        show (S.us.drop 0).take (min m S.us.length - 0) = _
        rw [List.drop_zero, Nat.sub_zero, Nat.min_def]
        split
        · rfl
        · rw [List.take_of_length_le (Nat.le_refl _), List.take_of_length_le (by omega)]
      rw [em]
      have hsq : SqT c.K (upd H1 t2 (.tup (S.us.take m))) t2 (S.us.take m) := SqT.of upd_same
      have s12 : Same H1 (upd H1 t2 (.tup (S.us.take m))) := sameAt (Same.refl _) nt2
      generalize (upd H1 t2 (.tup (S.us.take m))) = H2 at hsq s12 ⊢
      intro x dx' nx ndx nex
      have sX : Same H2 (upd (upd H2 dx' (.own x)) x (.ins c.CJ dx' [])) := (sameAt (Same.refl _) ndx).trans (sameAt (Same.refl _) (by rw [upd_ne (Ne.symm nex)]; exact nx))
      have s1X := s12.trans sX
      refine ⟨x, dx', a.b, t2, S.L, S.us.take m, (S.xs.take m).map some, rfl, upd_same, B1.same s1X, .inr (seqS hsq sX), by have := M.x4; rw [List.length_take]; omega, by rw [List.length_map, List.length_take, List.length_take, j4], fun i v o hv ho => ?_, fun H5 ys hys hw hJ5 hk kk => ⟨rfl, ?_⟩, fun i d H5 hw s hx => ?_⟩
      · rw [List.getElem?_map] at ho
        cases e : (S.xs.take m)[i]? with
        | none => rw [e] at ho; cases ho
        | some y =>
          rw [e] at ho
          cases ho
          have hi : i < m := by
            have := (List.getElem?_eq_some_iff.mp e).1
            rw [List.length_take] at this
            omega
          rw [List.getElem?_take_of_lt hi] at hv e
          exact (j5 i v y hv e).same s1X
      · have e5 : ys = S.xs.take m := ((List.map_inj_right (fun a b h => Option.some.inj h)).mp hys).symm
        subst e5
        have s5 : Same H1 H5 := s12.trans (mk_same nx ndx kk)
        have ho5 := s5 _ _ ho1
        obtain ⟨dx5, t5, kd5, k51, k52⟩ := hk
        have BT1 : ∀ q, B' q → Mu c.CO (H1 q) := fun q hq => by
          by_cases z : q = a.pa
          · subst z; exact ⟨_, p1, trivial⟩
          · obtain ⟨u, e1, mm⟩ := M.BT q hq
            exact ⟨u, k1 _ _ e1 z, mm⟩
        have JC := hJ5.cut s5 BT1 (no_of s12 nx) ⟨dx5, t5, kd5, k51, no_of s1X k52⟩ ((M.bk.same (cut_step (fun q y hq nq => k1 q y hq fun z => nq (by rw [z]; exact M.AB _ M.Apa)) fun q z => .inl z)).same (cut_step (fun q y hq _ => s5 _ _ hq) fun q z => .inl z))
        refine ⟨_, rfl, a.o, c.CO, a.dx, _, rfl, ho5, T.cl, T.nJ, (by show 6 < 1000; decide), ?_⟩
        rw [putF_j]
        have nco : a.cb ≠ a.o := ne_of M.cb M.o (by intro z; cases z)
        have npo : a.pa ≠ a.o := nop.symm
        have hc6 : (upd H5 a.o (.ins c.CO a.dx (ofF a.b x a.dd a.pa S.cl a.cb))) a.cb = some (.lst (S.cb.map V.int)) := by rw [upd_ne nco]; exact s5 _ _ (k1 _ _ M.cb M.ne.symm)
        have ho6 : (upd H5 a.o (.ins c.CO a.dx (ofF a.b x a.dd a.pa S.cl a.cb))) a.o = some (.ins c.CO a.dx (ofF a.b x a.dd a.pa S.cl a.cb)) := upd_same
        refine ⟨_, rfl, a.o, c.CO, a.dx, _, _, rfl, ho6, T.cl, T.nY, rfl, _, rfl, _, rfl, a.cb, _, m, rfl, rfl, hc6, (by rw [List.length_map, M.cbl]; exact hm), ?_⟩
        have e7 : (S.cb.map V.int).take m = (S.cb.take m).map V.int := List.map_take.symm
        rw [e7]
        have fin := M.undo_ (H4 := H5) (H' := upd (upd H5 a.o (.ins c.CO a.dx (ofF a.b x a.dd a.pa S.cl a.cb))) a.cb (.lst ((S.cb.take m).map V.int))) (fun q y hq n => s5 _ _ (k1 q y hq n)) e0 JC (fun q y hq _ n2 n3 => by rw [upd_ne n3, upd_ne n2]; exact hq) (by rw [upd_ne nco.symm]; exact upd_same) (by rw [upd_ne M.ne, upd_ne npo]; exact s5 _ _ p1) upd_same
        exact q p m x _ e0 fin.1 fin.2
      · have g : (wk S.L (S.xs.map some) 0 (fun _ => none) none) = (none, (wk S.L (S.xs.map some) 0 (fun _ => none) none).2) := by rw [← j6]
        obtain ⟨Sk, hk⟩ := wk_pre g m
        rw [hk] at hw
        cases hw
end
end Ash

set_option Elab.async false
set_option linter.all false
set_option maxRecDepth 100000
set_option maxHeartbeats 4000000
namespace Ash
open PySem PySem.Spec PyProof.Rows L2
open C8 (pss_cut)
/-! ### a new office -/
theorem pe_no {X : Cx} {e : Expr} : PE X e (fun _ _ _ => False) := ⟨fun _ _ _ _ _ _ h => h.elim⟩
def newOS (L : List (Str × Int)) (xs : List Ent) (us : List V) : OS := ⟨L, xs, us, [], [], 0, List.replicate xs.length 0⟩
def spOfInit (c : Cls6) : Sp := fun vs H Q _ => ∃ (B : Addr → Prop) (o dx b j bj : Addr) (L : List (Str × Int)) (us : List V) (xs : List Ent), vs = [.ref o, .ref b, .ref j] ∧ H o = some (.ins c.CO dx []) ∧ B o ∧ (∀ x, B x → Mu c.CO (H x)) ∧ BookAt c.CB (cutH B H) b L ∧ JAt c.K c.aT c.CJ c.CB (cutH B H) j bj L us xs ∧ us.length ≤ 400 ∧
  ∀ a A' H', a.o = o → a.j = j → (∀ q y, H q = some y → q ≠ o → H' q = some y) → (∀ p, A' p → p = o ∨ H p = none) → OfM c (uni B A') A' H' a (newOS L xs us) → Q .non H'
section
variable {P : Program} {w : World} {mg : Str → Option Value} {base : Heap} {c : Cls6} {fb fl : Addr} {fdb fdl : FuncData}
abbrev s_Office_init : Stmt := inClass (topS 39) 0
theorem sc_Office_init : FnScope ["self", "book", "journal"] ["self", "book", "journal"] (defScope s_Office_init) := ⟨rfl, rfl, rfl, by decide +kernel, rfl, by decide +kernel, by decide +kernel⟩
theorem ok_ofInit {f : Addr} {fd : FuncData} (F : FunD c.K "__init__" "Office.__init__" (defArgs s_Office_init) (defBody s_Office_init) (defScope s_Office_init) [.non] [] f fd) (B : Blt mg) (T : Co c.K mg c.CO) (TB : Cb c.K mg c.CB) (TJ : Cj P c.K mg c.CJ c.CB)
    (bk : ∀ H b dx fs, H b = some (.ins c.CB dx fs) → TyX c.K H (.ref b) (.ref c.CB)) (jk : ∀ H b dx fs, H b = some (.ins c.CJ dx fs) → TyX c.K H (.ref b) (.ref c.CJ))
    (Fl : FnOk P w c.K mg base CX0 1 fl fdl ["self"] (spJLen c.K c.aT c.CJ c.CB)) (hl1 : PySem.W.findIn c.K (.ref c.CJ) "__len__" = some (some (.ref fl))) (hl2 : PySem.W.isFn c.K (.ref fl) = true) (hl3 : Binds c.K fdl ["self"] [])
    (Zb : NeC c.K c.CB fb) (hb : Binds c.K fdb ["self", "other"] []) (Fb : FnOk P w c.K mg base CX0 1 fb fdb ["self", "other"] (spBookEqV c.CB)) : FnOk P w c.K mg base (L2.CX P w) 4 f fd ["self", "book", "journal"] (spOfInit c) := by
  have c_Book := TB.c
  have c_Journal := TJ.c
  refine F.ok (CX := L2.CX P w) sc_Office_init (fun vs H Q E h => ?_) (fun cdv A0 outer s H vs Q E hr h => ?_)
  · obtain ⟨B, o, dx, b, j, bj, L, us, xs, rfl, _⟩ := h
    rfl
  · obtain ⟨B', o, dx, b, j, bj, L, us, xs, rfl, ho, hBo, hBT, hB, hJ, h4, q⟩ := h
    have hu := hu_of hr
    refine ⟨_, (pss_cons (ps_if (pt_not (pt_val (pe_callB call_isi (by rfl) B.isinstance (by decide +kernel) (pa_cons (pv 1) (pa_cons (pe_glob (v := .ref c.CB) (by rfl) c_Book rfl) pa_nil)))))
      (pss_one ps_never)
      pss_nil)
    (pss_cons (ps_if (PW.pt (pw_and (pt_cmpR op_notN (pv 2) pe_non (nomark _)) (pw_and1 (PW.pt (pw_or (pt_not (pt_val (pe_callB call_isi (by rfl) B.isinstance (by decide +kernel) (pa_cons (pv 2) (pa_cons (pe_glob (v := .ref c.CJ) (by rfl) c_Journal rfl) pa_nil))))) (pw_or1 (pt_cmpR (op_neV Fb Zb hb pass0 (hr.mono (by decide))) (pe_fld (pv 2) rfl) (pv 1) (nomark _))))))))
      (pss_one ps_never)
      pss_nil)
    (pss_cons (ps_fld (pv 0) (pv 1) rfl)
    (pss_cons (ps_fld (pv 0) (pe_ifExp (pt_cmpR op_isN (pv 2) pe_non (nomark _)) pe_no (pv 2)) rfl)
    (pss_cons (ps_fld (pv 0) pe_dnewK rfl)
    (pss_cons (ps_fld (pv 0) (pe_lst pa_nil) rfl)
    (pss_cons (ps_fld (pv 0) pe_int rfl)
    (pss_one (ps_fld (pv 0) (pe_op op_rep (pe_lst (pa_cons pe_int pa_nil)) (pe_callB (call_lenI Fl hl1 hl2 hl3 pass0 (hr.mono (by decide))) (by rfl) B.len (by decide +kernel) (pa_cons (pe_fld (pv 0) rfl) pa_nil))) rfl))))))))), ?_⟩
    obtain ⟨bx, bd, L', b1, b2, b3⟩ := id (hB.same (cut_same _ _))
    obtain ⟨jx, jt, jkd, j1, j2, j3, j4, j5, j6, j7⟩ := id (hJ.same (cut_same _ _))
    obtain ⟨bx2, bd2, L2', g1, g2, g3⟩ := id j2
    refine ⟨_, rfl, _, _, _, _, true, rfl, ClsV.own _, bk _ _ _ _ b1, (by show PySem.W.kitOne _ _ _ = _; unfold PySem.W.kitOne; rw [if_pos (by simp)]), _, rfl, iteF ?_⟩
    refine ⟨_, rfl, rfl, _, rfl, iteT ?_⟩
    refine ⟨_, rfl, _, _, _, _, true, rfl, ClsV.own _, jk _ _ _ _ j1, (by show PySem.W.kitOne _ _ _ = _; unfold PySem.W.kitOne; rw [if_pos (by simp)]), _, rfl, iteF ?_⟩
    refine ⟨_, rfl, j, c.CJ, jx, _, _, rfl, j1, TJ.cl, TJ.nB, jf_b _ _ _, _, rfl, ?_⟩
    refine ⟨bj, b, bx2, bx, _, _, rfl, rfl, g1, b1, bj, b, L, L, rfl, j2, hB.same (cut_same _ _), .inl ⟨fun _ => rfl, fun H1 ex => ⟨true, rfl, ⟨_, rfl, iteF ?_⟩⟩⟩⟩
    have s1 : Same H H1 := ex
    have ho1 := s1 _ _ ho
    have njo : j ≠ o := fun z => by
      obtain ⟨_, _, _, h, _⟩ := hJ
      exact (cut_of h).1 (z ▸ hBo)
    refine ⟨_, rfl, _, rfl, o, c.CO, dx, [], rfl, ho1, T.cl, T.nB, (by show 0 < 1000; decide), ?_⟩
    have k2 : ∀ q y, H q = some y → q ≠ o → (upd H1 o (.ins c.CO dx (putF "_book" (.ref b) []))) q = some y := fun q y h n => by rw [upd_ne n]; exact s1 _ _ h
    have o2 : (upd H1 o (.ins c.CO dx (putF "_book" (.ref b) []))) o = some (.ins c.CO dx (putF "_book" (.ref b) [])) := upd_same
    generalize (upd H1 o (.ins c.CO dx (putF "_book" (.ref b) []))) = H2 at k2 o2 ⊢
    refine ⟨_, rfl, rfl, _, rfl, iteF ⟨_, rfl, _, rfl, o, c.CO, dx, _, rfl, o2, T.cl, T.nJ, (by show 1 < 1000; decide), ?_⟩⟩
    have k3 : ∀ q y, H q = some y → q ≠ o → (upd H2 o (.ins c.CO dx (putF "journal" (.ref j) (putF "_book" (.ref b) [])))) q = some y := fun q y h n => by rw [upd_ne n]; exact k2 _ _ h n
    have o3 : (upd H2 o (.ins c.CO dx (putF "journal" (.ref j) (putF "_book" (.ref b) [])))) o = some (.ins c.CO dx (putF "journal" (.ref j) (putF "_book" (.ref b) []))) := upd_same
    generalize (upd H2 o (.ins c.CO dx (putF "journal" (.ref j) (putF "_book" (.ref b) [])))) = H3 at k3 o3 ⊢
    intro dd ndd
    have ndo : dd ≠ o := fun z => by rw [z, o3] at ndd; cases ndd
    have d0 : H dd = none := by
      cases e : H dd with
      | none => rfl
      | some y => rw [k3 _ _ e ndo] at ndd; cases ndd
    refine ⟨_, rfl, o, c.CO, dx, _, rfl, (by rw [upd_ne ndo.symm]; exact o3), T.cl, T.nD, (by show 2 < 1000; decide), ?_⟩
    have k5 : ∀ q y, H q = some y → q ≠ o → (upd (upd H3 dd (.dK [])) o (.ins c.CO dx (putF "_drafts" (.ref dd) (putF "journal" (.ref j) (putF "_book" (.ref b) []))))) q = some y := fun q y h n => by rw [upd_ne n, upd_ne (ne_of_none h d0)]; exact k3 _ _ h n
    have o5 : (upd (upd H3 dd (.dK [])) o (.ins c.CO dx (putF "_drafts" (.ref dd) (putF "journal" (.ref j) (putF "_book" (.ref b) []))))) o = some (.ins c.CO dx (putF "_drafts" (.ref dd) (putF "journal" (.ref j) (putF "_book" (.ref b) [])))) := upd_same
    have d5 : (upd (upd H3 dd (.dK [])) o (.ins c.CO dx (putF "_drafts" (.ref dd) (putF "journal" (.ref j) (putF "_book" (.ref b) []))))) dd = some (.dK []) := by rw [upd_ne ndo]; exact upd_same
    generalize (upd (upd H3 dd (.dK [])) o (.ins c.CO dx (putF "_drafts" (.ref dd) (putF "journal" (.ref j) (putF "_book" (.ref b) []))))) = H5 at k5 o5 d5 ⊢
    refine ⟨(by show 0 ≤ sizeLine; decide), fun pa npa => ?_⟩
    have npo : pa ≠ o := fun z => by rw [z, o5] at npa; cases npa
    have npd : dd ≠ pa := fun z => by rw [← z, d5] at npa; cases npa
    have p0 : H pa = none := by
      cases e : H pa with
      | none => rfl
      | some y => rw [k5 _ _ e npo] at npa; cases npa
    refine ⟨_, rfl, o, c.CO, dx, _, rfl, (by rw [upd_ne npo.symm]; exact o5), T.cl, T.nP, (by show 3 < 1000; decide), ?_⟩
    have k7 : ∀ q y, H q = some y → q ≠ o → (upd (upd H5 pa (.lst [])) o (.ins c.CO dx (putF "_past" (.ref pa) (putF "_drafts" (.ref dd) (putF "journal" (.ref j) (putF "_book" (.ref b) [])))))) q = some y := fun q y h n => by rw [upd_ne n, upd_ne (ne_of_none h p0)]; exact k5 _ _ h n
    have o7 : (upd (upd H5 pa (.lst [])) o (.ins c.CO dx (putF "_past" (.ref pa) (putF "_drafts" (.ref dd) (putF "journal" (.ref j) (putF "_book" (.ref b) [])))))) o = some (.ins c.CO dx (putF "_past" (.ref pa) (putF "_drafts" (.ref dd) (putF "journal" (.ref j) (putF "_book" (.ref b) []))))) := upd_same
    have d7 : (upd (upd H5 pa (.lst [])) o (.ins c.CO dx (putF "_past" (.ref pa) (putF "_drafts" (.ref dd) (putF "journal" (.ref j) (putF "_book" (.ref b) [])))))) dd = some (.dK []) := by rw [upd_ne ndo, upd_ne npd]; exact d5
    have p7 : (upd (upd H5 pa (.lst [])) o (.ins c.CO dx (putF "_past" (.ref pa) (putF "_drafts" (.ref dd) (putF "journal" (.ref j) (putF "_book" (.ref b) [])))))) pa = some (.lst []) := by rw [upd_ne npo]; exact upd_same
    generalize (upd (upd H5 pa (.lst [])) o (.ins c.CO dx (putF "_past" (.ref pa) (putF "_drafts" (.ref dd) (putF "journal" (.ref j) (putF "_book" (.ref b) [])))))) = H7 at k7 o7 d7 p7 ⊢
    refine ⟨_, rfl, o, c.CO, dx, _, rfl, o7, T.cl, T.nC, (by show 4 < 1000; decide), ?_⟩
    have k8 : ∀ q y, H q = some y → q ≠ o → (upd H7 o (.ins c.CO dx (putF "_closes" (.int 0) (putF "_past" (.ref pa) (putF "_drafts" (.ref dd) (putF "journal" (.ref j) (putF "_book" (.ref b) []))))))) q = some y := fun q y h n => by rw [upd_ne n]; exact k7 _ _ h n
    have o8 : (upd H7 o (.ins c.CO dx (putF "_closes" (.int 0) (putF "_past" (.ref pa) (putF "_drafts" (.ref dd) (putF "journal" (.ref j) (putF "_book" (.ref b) []))))))) o = some (.ins c.CO dx (putF "_closes" (.int 0) (putF "_past" (.ref pa) (putF "_drafts" (.ref dd) (putF "journal" (.ref j) (putF "_book" (.ref b) [])))))) := upd_same
    have d8 : (upd H7 o (.ins c.CO dx (putF "_closes" (.int 0) (putF "_past" (.ref pa) (putF "_drafts" (.ref dd) (putF "journal" (.ref j) (putF "_book" (.ref b) []))))))) dd = some (.dK []) := by rw [upd_ne ndo]; exact d7
    have p8 : (upd H7 o (.ins c.CO dx (putF "_closes" (.int 0) (putF "_past" (.ref pa) (putF "_drafts" (.ref dd) (putF "journal" (.ref j) (putF "_book" (.ref b) []))))))) pa = some (.lst []) := by rw [upd_ne npo]; exact p7
    generalize (upd H7 o (.ins c.CO dx (putF "_closes" (.int 0) (putF "_past" (.ref pa) (putF "_drafts" (.ref dd) (putF "journal" (.ref j) (putF "_book" (.ref b) []))))))) = H8 at k8 o8 d8 p8 ⊢
    refine ⟨(by show 1 ≤ sizeLine; decide), fun p1 np1 => ?_⟩
    have s9 : Same H8 (upd H8 p1 (.lst [.int 0])) := sameAt (Same.refl _) np1
    have k9 : ∀ q y, H q = some y → q ≠ o → (upd H8 p1 (.lst [.int 0])) q = some y := fun q y h n => s9 _ _ (k8 _ _ h n)
    have J9 : JAt c.K c.aT c.CJ c.CB (upd H8 p1 (.lst [.int 0])) j bj L us xs := hJ.same fun q y h => by
      obtain ⟨n1, n2⟩ := cut_of h
      exact k9 _ _ n2 fun z => n1 (z ▸ hBo)
    obtain ⟨jx9, jt9, jk9, j91, _⟩ := id J9
    refine ⟨_, rfl, o, c.CO, dx, _, _, rfl, s9 _ _ o8, T.cl, T.nJ, rfl, j, jx9, _, rfl, j91, j, bj, L, us, xs, rfl, J9, us.length, rfl, by omega, p1, _, _, rfl, rfl, upd_same, by omega, by omega, (by show 1 * ((us.length : Int).toNat) ≤ _; rw [Int.toNat_natCast, Nat.one_mul]; exact Nat.le_of_lt (small1000 (by omega))), fun p2 np2 => ?_⟩
    rw [Int.toNat_natCast, flat_rep]
    have o9 := s9 _ _ o8
    have d9 := s9 _ _ d8
    have p9 := s9 _ _ p8
    generalize (upd H8 p1 (.lst [.int 0])) = H9 at np2 k9 o9 d9 p9 ⊢
    have n2o : p2 ≠ o := fun z => by rw [z, o9] at np2; cases np2
    have n2d : dd ≠ p2 := fun z => by rw [← z, d9] at np2; cases np2
    have n2p : pa ≠ p2 := fun z => by rw [← z, p9] at np2; cases np2
    have p20 : H p2 = none := by
      cases e : H p2 with
      | none => rfl
      | some y => rw [k9 _ _ e n2o] at np2; cases np2
    refine ⟨_, rfl, o, c.CO, dx, _, rfl, (by rw [upd_ne n2o.symm]; exact o9), T.cl, T.nY, (by show 5 < 1000; decide), ?_⟩
    have k11 : ∀ q y, H q = some y → q ≠ o → (upd (upd H9 p2 (.lst (List.replicate us.length (.int 0)))) o (.ins c.CO dx (ofF b j dd pa 0 p2))) q = some y := fun q y h n => by rw [upd_ne n, upd_ne (ne_of_none h p20)]; exact k9 _ _ h n
    have hA : ∀ q, (q = o ∨ q = dd ∨ q = pa ∨ q = p2) → q = o ∨ H q = none := fun q hq => by
      rcases hq with rfl | rfl | rfl | rfl
      · exact .inl rfl
      · exact .inr d0
      · exact .inr p0
      · exact .inr p20
    have cs : Same (cutH B' H) (cutH (uni B' fun q => q = o ∨ q = dd ∨ q = pa ∨ q = p2) (upd (upd H9 p2 (.lst (List.replicate us.length (.int 0)))) o (.ins c.CO dx (ofF b j dd pa 0 p2)))) := cut_step (fun q y h n => k11 q y h fun z => n (z ▸ hBo)) fun q hq => hq.elim .inl fun h => (hA q h).imp (fun z : q = o => by rw [z]; exact hBo) id
    refine q ⟨o, dx, b, j, bj, dd, pa, p2⟩ (fun q => q = o ∨ q = dd ∨ q = pa ∨ q = p2) _ rfl rfl k11 hA ?_
    refine ⟨upd_same, by rw [upd_ne ndo, upd_ne n2d]; exact d9, by rw [upd_ne npo, upd_ne n2p]; exact p9, ?_, .inl rfl, .inr (.inl rfl), .inr (.inr (.inl rfl)), .inr (.inr (.inr rfl)), fun q h => .inr h, fun q hq => ?_, n2p, hB.same cs, hJ.same cs, h4, (fun d hd => nomatch hd), List.Pairwise.nil, List.Pairwise.nil, List.length_replicate, List.pairwise_singleton _ _⟩
    · show (upd (upd H9 p2 (.lst (List.replicate us.length (.int 0)))) o (.ins c.CO dx (ofF b j dd pa 0 p2))) p2 = some (.lst ((List.replicate xs.length (0 : Int)).map V.int))
      rw [upd_ne n2o, upd_same, List.map_replicate, j4]
    · by_cases q1 : q = o
      · subst q1; exact ⟨_, upd_same, rfl⟩
      by_cases q2 : q = p2
      · subst q2; exact ⟨.lst (List.replicate us.length (.int 0)), by rw [upd_ne q1, upd_same], trivial⟩
      rcases hq with hq | rfl | rfl | rfl | rfl
      · obtain ⟨u, e, m⟩ := hBT q hq
        exact ⟨u, k11 _ _ e q1, m⟩
      · exact absurd rfl q1
      · exact ⟨.dK [], by rw [upd_ne q1, upd_ne q2]; exact d9, trivial⟩
      · exact ⟨.lst [], by rw [upd_ne q1, upd_ne q2]; exact p9, trivial⟩
      · exact absurd rfl q2
end
end Ash

set_option Elab.async false
set_option linter.all false
set_option maxRecDepth 100000
set_option maxHeartbeats 4000000
namespace L2
open PySem PySem.Spec PyProof.Rows
/-! ### several except clauses, each with a name or without -/
abbrev Clause := Value × Option Nat × (Addr → Value → Option Addr → TS)
/-- behind a suite its name is gone -/
def endAs (i : Nat) (D : Ends) : Ends := { nx := fun σ H => D.nx (σ.set i none) H, rt := D.rt, bk := fun σ H => D.bk (σ.set i none) H, ct := fun σ H => D.ct (σ.set i none) H }
def clGo (D : Ends) : Option Nat → (Addr → Value → Option Addr → TS) → WX
  | none, ts => fun cls d σ H => ∀ q, H q = none → ts q cls d D σ H
  | some i, ts => fun cls d σ H => ∀ q, H q = none → ts q cls d (endAs i D) (σ.set i (some (.ref q))) H
def wCls (K : PySem.W.Frag) (W0 : WX) (D : Ends) : List Clause → WX
  | [] => W0
  | (c, o, ts) :: r => fun cls d σ H => ∃ b, PySem.W.exmOne K cls c = some b ∧ (b = true → clGo D o ts cls d σ H) ∧ (b = false → wCls K W0 D r cls d σ H)
/-- the name of a clause -/
def ClName (X : Cx) : Option Str → Option Nat → Prop
  | none, none => True
  | some n, some i => X.N[i]? = some n ∧ X.env.kindOf n = some .local
  | _, _ => False
inductive ClsOk (X : Cx) : List ExceptHandler → List Clause → Prop
  | nil : ClsOk X [] []
  | cons {x : Str} {n : Option Str} {o : Option Nat} {c : Value} {ts : Addr → Value → Option Addr → TS} {b0 : Stmt} {su : List Stmt} {p1 p2 : Pos} {hs : List ExceptHandler} {l : List Clause} (hc : Names X x c) (hn : ClName X n o)
      (hsu : ∀ (q : Addr) (oe : Obj) (cls : Value) (d : Option Addr) (pn : List (Addr × Obj)), Zc cls d oe → (∃ vs, oe.data = .fields vs) → PSs (X.suite q ((q, oe) :: pn)) (b0 :: su) (ts q cls d)) (r : ClsOk X hs l) :
      ClsOk X (.ExceptHandler (some (.Name x p1)) n (b0 :: su) p2 :: hs) ((c, o, ts) :: l)
section
variable {X : Cx} {body : List Stmt} {h0 : ExceptHandler} {hs : List ExceptHandler} {l : List Clause} {pos : Pos} {tb : WX → TS} {W0 : WX}
theorem ps_try_cls (st : X.stack = X.env :: X.outer) (fr : X.env.frame = some X.env.locals) (nd : X.N.Nodup) (tk : Takes X W0)
    (hb : ∀ (W : WX) (pn : List (Addr × Obj)) (xe : Value → Shared → Prop), Takes (X.tr pn xe) W → PassesOwn (model X.prog X.w) X.A X.env xe → PSs (X.tr pn xe) body (tb W))
    (hh : ClsOk X (h0 :: hs) l) : PS X (.Try body (h0 :: hs) [] [] pos) (fun D σ H => tb (wCls X.K W0 D l) D σ H) := by
  refine ⟨fun pins s σ H D I h => ?_⟩
  have ok := I.ok
  have fA : X.A.frames = some (X.env :: X.outer) := by rw [ok.frames, st]
  refine wpAny_Try_except (wpAny_mono ((hb (wCls X.K W0 D l) (X.pn ++ pins) (fun e s1 => wpAny (model X.prog X.w) X.A (noteFrame e X.env) (fun _ s2 => wpAny (model X.prog X.w) X.A (setFlight e none) (fun _ s3 => wpAny (model X.prog X.w) X.A (handleBy e X.env (h0 :: hs)) (SP X pins D) X.xe s3) X.xe s2) X.xe s1)
    (fun u s' xx => ?_) PassesOwn.looking).run [] s σ H D (I.toTry _) h) (fun f s1 k => ?_) (fun _ _ he => he))
  · obtain ⟨q, M, t0, pins', τ, G, cls, d, rfl, J', nb, up, sky, nq, os, ag, w⟩ := xx
    have J : Inv X pins τ G t0 := J'.ofTry ok
    have sk : Sky M (X.env :: X.outer) q (Zc cls d) X.env.locals s'.heap := st ▸ sky
    refine (show wpAny (model X.prog X.w) X.A (noteFrame (.ref q) X.env) _ _ _ from Sky.land Zc.steady fA fr sk fun g3 f3 u3 => ?_)
    have J3 : Inv X pins τ G { s' with heap := g3 } := J.landed nb f3.1 (up.trans u3) os ag
    obtain ⟨oe3, vs3, he3, hz3, hd3⟩ := f3.there
    have off : ∀ {g : Heap} {o : Obj} {vs : Array Value}, g.FunFrames M (X.env :: X.outer) → g.get? q = some o → o.data = .fields vs → q ∉ frs (X.env :: X.outer) := fun {g o vs} ff e dd hm => by
      obtain ⟨_, o2, e2, hnf⟩ := ff.mem hm
      rw [e] at e2
      cases e2
      exact hnf _ dd
    have nfr := off f3.2.2.1 he3 hd3
    have nL : q ≠ X.env.locals := fun z => nfr (List.mem_filterMap.mpr ⟨X.env, List.mem_cons_self, fr.trans (congrArg some z.symm)⟩)
    have nF : q ∉ X.fs := fun hm => by
      obtain ⟨e, he, z⟩ := List.mem_filterMap.mp hm
      exact nfr (List.mem_filterMap.mpr ⟨e, List.mem_cons_of_mem _ he, z⟩)
    have S3 := J3.suite he3 hd3 nq nL nF
    have go : ∀ {ks : List ExceptHandler} {ls : List Clause}, ClsOk X ks ls → wCls X.K W0 D ls cls d τ G → wpAny (model X.prog X.w) X.A (handleBy (.ref q) X.env ks) (SP X pins D) X.xe { s' with heap := g3 } := by
      intro ks ls hk
      induction hk with
      | nil =>
        intro w
        refine wpAny_handleBy_nil ?_
        obtain ⟨_, _, _, oe, vs, T, oT, ts', he, hz, hd, h1, hr⟩ := id f3
        unfold PySem.passOn
        refine wpAny_bind (wpAny_field he hd h1 ?_)
        rw [if_neg (show ¬ ((Value.ref T == Value.none) = true) from Bool.false_ne_true)]
        have fin : wpAny (model X.prog X.w) X.A (setFlight (.ref q) X.env.frame) (fun _ s4 => wpAny (model X.prog X.w) X.A (throw (.ref q) : Sem Flow) (SP X pins D) X.xe s4) X.xe { s' with heap := g3 } := by
          rw [fr]
          exact HandSPX.setFlight_upZ f3 fun g4 k4 u4 => wpAny_throw (tk _ _ ⟨q, M, t0, pins, τ, G, cls, d, rfl, J, nb, (up.trans u3).trans u4, .inr (.inr (by rw [st]; exact k4)), nq, os, ag, w⟩)
        first
          | exact wpAny_bind (wpAny_pure (wpAny_bind fin))
          | exact wpAny_bind fin
      | @cons x n o c ts b0 su p1 p2 ks2 l2 hc hn hsu r ih =>
        intro w
        obtain ⟨b, b1, yes, no⟩ := w
        refine wpAny_handleBy_cons (codeAny_handlers_test ?_) (by intro z; cases z)
        have LM := PySem.W.exm_one (M := model X.prog X.w) (J3.kIn) (show PySem.W.Looks (model X.prog X.w) g3 (typeOf (.ref q)) cls from fun A Q E s k z => wpAny_typeOf_ref (k _ _ he3) (by rw [hz3.1]; exact z)) b1
        have test : ∀ {Q E : Value → Shared → Prop}, Q c { s' with heap := g3 } → wpAny (model X.prog X.w) (X.A.mark (some (.ref q))) (eval (.Name x p1) X.env) Q E { s' with heap := g3 } := fun {Q E} z => by
          obtain ⟨e1, e2, e3 | ⟨e3, e4, e5⟩⟩ := hc
          · exact ld_glob (X := X.suite q ((q, oe3) :: (X.pn ++ pins))) S3 e1 e3 z e2
          · exact ld_blt (X := X.suite q ((q, oe3) :: (X.pn ++ pins))) S3 e1 e3 e4 z e5 e2
        refine test (LM.here ?_)
        cases b with
        | false => exact (show wpAny _ X.A (handleBy (.ref q) X.env ks2) _ _ _ from ih (no rfl))
        | true =>
          have yes := yes rfl
          match n, o, hn with
          | none, none, _ =>
            refine codeAny_handlers_suite (HandSPX.lands_againZ f3 fun g4 f4 u4 => ?_)
            have J4 : Inv X pins τ G { s' with heap := g4 } := J.landed nb f4.1 ((up.trans u3).trans u4) os ag
            obtain ⟨oe4, vs4, he4, hz4, hd4⟩ := f4.there
            refine wpAny_mono ((hsu q oe4 cls d (X.pn ++ pins) hz4 ⟨_, hd4⟩).run [] _ _ G _ (J4.suite he4 hd4 nq nL nF) (yes q nq)) (fun f s6 k => ?_) (fun _ _ z => False.elim z)
            cases f with
            | ret u =>
              obtain ⟨v6, σ6, H6, S6, r6, q6⟩ := k
              exact ⟨_, _, _, S6.unsuite ok, r6, q6⟩
            | _ =>
              obtain ⟨σ6, H6, S6, q6⟩ := k
              exact ⟨_, _, S6.unsuite ok, q6⟩
          | some n, some i, ⟨hi, hln⟩ =>
            refine codeAny_handlers_suite_as (HandSPX.lands_againZ f3 fun g4 f4 u4 => ?_)
            have J4 : Inv X pins τ G { s' with heap := g4 } := J.landed nb f4.1 ((up.trans u3).trans u4) os ag
            obtain ⟨oe4, vs4, he4, hz4, hd4⟩ := f4.there
            have S4 := J4.suite he4 hd4 nq nL nF
            refine store_ok (X := X.suite q ((q, oe4) :: (X.pn ++ pins))) (v := .ref q) S4 nd hi (.inl hln) rfl (fun s5 S5 => ?_) (.inr hln)
            refine wpAny_mono ((hsu q oe4 cls d (X.pn ++ pins) hz4 ⟨_, hd4⟩).run [] s5 _ G _ S5 (yes q nq)) (fun f s6 k => ?_) (fun _ _ z => False.elim z)
            have out : ∀ {σ6 : St} {H6 : Hp} {Q : Shared → Prop}, Inv (X.suite q ((q, oe4) :: (X.pn ++ pins))) [] σ6 H6 s6 → (∀ s7, Inv X pins (σ6.set i none) H6 s7 → Q s7) → wpAny (model X.prog X.w) X.A (do bindName X.env n .none; unbindBehindTheSuite X.env n p2) (fun _ s7 => Q s7) X.xe s6 :=
              fun {σ6 H6 Q} S6 hq => gone_ok (S6.unsuite ok) nd hi hln hq
            cases f with
            | ret u =>
              obtain ⟨v6, σ6, H6, S6, r6, q6⟩ := k
              exact out S6 fun s7 J7 => ⟨_, _, _, J7, r6, q6⟩
            | _ =>
              obtain ⟨σ6, H6, S6, q6⟩ := k
              exact out S6 fun s7 J7 => ⟨_, _, J7, q6⟩
    exact go hh w
  · cases f with
    | next =>
      obtain ⟨τ, G, J', z⟩ := k
      exact wpAny_execs_nil ⟨τ, G, J'.ofTry ok, z⟩
    | ret u =>
      obtain ⟨v, τ, G, J', r, z⟩ := k
      exact ⟨v, τ, G, J'.ofTry ok, r, z⟩
    | _ =>
      obtain ⟨τ, G, J', z⟩ := k
      exact ⟨τ, G, J'.ofTry ok, z⟩
end
end L2

set_option Elab.async false
set_option linter.all false
set_option maxRecDepth 100000
set_option maxHeartbeats 4000000
namespace Ash
open PySem PySem.Spec PyProof.Rows L2
open C8 (pss_cut)
/-! ### the law's calls of an office -/
structure Errs where
  CI : Addr
  CY : Addr
  CS : Addr
  CE : Addr
  CM : Addr
  CN : Addr
  CT : Addr
theorem atI_zero (v : V) (l : List V) : atI (v :: l) 0 = some v := atI_natC (xs := v :: l) (j := 0) (Nat.succ_pos _)
def calledB (c : Cls6) (e : Errs) (o : Addr) (wh : Int) (gs : List V) (H : Hp) (Q : VK) (E : XK) : Prop :=
  (wh = 0 ∧ ∃ v gs', gs = v :: gs' ∧ spBeginO c e.CN e.CY [.ref o, v] H Q E) ∨
  (wh = 1 ∧ ∃ v n s k m am, gs = [v, n, s, k, m, am] ∧ spRowO c e.CI e.CE [.ref o, v, n, s, k, m, am] H Q E) ∨
  (wh = 2 ∧ ∃ v n m am, gs = [v, n, m, am] ∧ spFixO c e.CI e.CE [.ref o, v, n, m, am] H Q E) ∨
  (wh = 3 ∧ ∃ v n, gs = [v, n] ∧ spGoneO c e.CI e.CE [.ref o, v, n] H Q E) ∨
  (wh = 4 ∧ ∃ v gs', gs = v :: gs' ∧ spDropO c e.CI [.ref o, v] H Q E) ∨
  (wh = 5 ∧ spUndoO c e.CT [.ref o] H Q E) ∨
  (wh = 6 ∧ ∃ v r, gs = [v, r] ∧ spCloseO c e.CI e.CM e.CS e.CE [.ref o, v, r] H Q E) ∨
  (wh = 7 ∧ ∃ v gs', gs = v :: gs' ∧ spTellO c e.CI [.ref o, v] H Q E)
def spCalled (c : Cls6) (e : Errs) : Sp := fun vs H Q E => ∃ (a : OA) (cl wh : Int) (g : Addr) (gs : List V), vs = [.int wh, .ref a.o, .ref g] ∧ H a.o = some (.ins c.CO a.dx (ofF a.b a.j a.dd a.pa cl a.cb)) ∧ H g = some (.tup gs) ∧ calledB c e a.o wh gs H Q E
section
variable {c : Cls6} {e : Errs} {CI CY CS CE CM CN CT : Addr} {vs : List V} {H : Hp} {Q Q' : VK} {E E' : XK}
theorem mono_begin (h : spBeginO c CN CY vs H Q E) (hq : ∀ v H', Q v H' → Q' v H') (he : ∀ x d H', E x d H' → E' x d H') : spBeginO c CN CY vs H Q' E' := by
  obtain ⟨B, A, a, S, v, e, M, hv, l, q1, q2, q3⟩ := h
  exact ⟨B, A, a, S, v, e, M, hv, l, fun _ _ _ _ _ z1 z2 z3 z4 z5 z6 => hq _ _ (q1 _ _ _ _ _ z1 z2 z3 z4 z5 z6), fun _ _ _ z1 z2 z3 => he _ _ _ (q2 _ _ _ z1 z2 z3), fun _ _ z1 z2 z3 => he _ _ _ (q3 _ _ z1 z2 z3)⟩
theorem mono_out {B A : Addr → Prop} {a : OA} {S : OS} {v : V} {x : Ent} (h : PutOut c CI CE B A H a S v x Q E) (hq : ∀ v H', Q v H' → Q' v H') (he : ∀ x d H', E x d H' → E' x d H') : PutOut c CI CE B A H a S v x Q' E' :=
  ⟨fun _ _ z1 z2 z3 z4 z5 => hq _ _ (h.1 _ _ z1 z2 z3 z4 z5), fun _ _ _ z1 z2 z3 z4 => he _ _ _ (h.2.1 _ _ _ z1 z2 z3 z4), fun _ _ z1 z2 z3 => he _ _ _ (h.2.2 _ _ z1 z2 z3)⟩
theorem mono_row (h : spRowO c CI CE vs H Q E) (hq : ∀ v H', Q v H' → Q' v H') (he : ∀ x d H', E x d H' → E' x d H') : spRowO c CI CE vs H Q' E' := by
  obtain ⟨B, A, a, S, v, n, s, k, m, am, e, M, hv, ok, q⟩ := h
  exact ⟨B, A, a, S, v, n, s, k, m, am, e, M, hv, ok, mono_out q hq he⟩
theorem mono_fix (h : spFixO c CI CE vs H Q E) (hq : ∀ v H', Q v H' → Q' v H') (he : ∀ x d H', E x d H' → E' x d H') : spFixO c CI CE vs H Q' E' := by
  obtain ⟨B, A, a, S, v, n, m, am, e, M, hv, ok, q⟩ := h
  exact ⟨B, A, a, S, v, n, m, am, e, M, hv, ok, mono_out q hq he⟩
theorem mono_gone (h : spGoneO c CI CE vs H Q E) (hq : ∀ v H', Q v H' → Q' v H') (he : ∀ x d H', E x d H' → E' x d H') : spGoneO c CI CE vs H Q' E' := by
  obtain ⟨B, A, a, S, v, n, e, M, hv, ok, q⟩ := h
  exact ⟨B, A, a, S, v, n, e, M, hv, ok, mono_out q hq he⟩
theorem mono_drop (h : spDropO c CI vs H Q E) (hq : ∀ v H', Q v H' → Q' v H') (he : ∀ x d H', E x d H' → E' x d H') : spDropO c CI vs H Q' E' := by
  obtain ⟨B, A, a, S, v, e, M, hv, q1, q2⟩ := h
  exact ⟨B, A, a, S, v, e, M, hv, fun _ _ z1 z2 z3 => hq _ _ (q1 _ _ z1 z2 z3), fun _ _ z1 z2 z3 => he _ _ _ (q2 _ _ z1 z2 z3)⟩
theorem mono_tell (h : spTellO c CI vs H Q E) (hq : ∀ v H', Q v H' → Q' v H') (he : ∀ x d H', E x d H' → E' x d H') : spTellO c CI vs H Q' E' := by
  obtain ⟨B, A, a, S, v, e, M, hv, q1, q2⟩ := h
  exact ⟨B, A, a, S, v, e, M, hv, fun _ _ _ _ z1 z2 z3 z4 z5 => hq _ _ (q1 _ _ _ _ z1 z2 z3 z4 z5), fun _ _ z1 z2 z3 => he _ _ _ (q2 _ _ z1 z2 z3)⟩
theorem mono_undo (h : spUndoO c CT vs H Q E) (hq : ∀ v H', Q v H' → Q' v H') (he : ∀ x d H', E x d H' → E' x d H') : spUndoO c CT vs H Q' E' := by
  obtain ⟨B, A, a, S, e, M, q1, q2⟩ := h
  exact ⟨B, A, a, S, e, M, fun _ z1 z2 => he _ _ _ (q1 _ z1 z2), fun _ _ _ _ z1 z2 z3 => hq _ _ (q2 _ _ _ _ z1 z2 z3)⟩
theorem mono_close (h : spCloseO c CI CM CS CE vs H Q E) (hq : ∀ v H', Q v H' → Q' v H') (he : ∀ x d H', E x d H' → E' x d H') : spCloseO c CI CM CS CE vs H Q' E' := by
  obtain ⟨B, A, a, S, v, r, e, M, hv, hr, l, q1, q2, q3, q4, q5⟩ := h
  exact ⟨B, A, a, S, v, r, e, M, hv, hr, l, fun _ _ z1 z2 z3 => he _ _ _ (q1 _ _ z1 z2 z3), fun _ _ _ z1 z2 z3 z4 => he _ _ _ (q2 _ _ _ z1 z2 z3 z4), fun _ _ _ _ _ z1 z2 z3 z4 z5 => he _ _ _ (q3 _ _ _ _ _ z1 z2 z3 z4 z5), fun _ _ _ _ _ z1 z2 z3 z4 z5 z6 => he _ _ _ (q4 _ _ _ _ _ z1 z2 z3 z4 z5 z6), fun _ _ _ _ _ z1 z2 z3 z4 z5 z6 z7 => hq _ _ (q5 _ _ _ _ _ z1 z2 z3 z4 z5 z6 z7)⟩
theorem mono_called {o : Addr} {wh : Int} {gs : List V} (h : calledB c e o wh gs H Q E) (hq : ∀ v H', Q v H' → Q' v H') (he : ∀ x d H', E x d H' → E' x d H') : calledB c e o wh gs H Q' E' := by
  rcases h with ⟨h, v, g, h2, q⟩ | ⟨h, v, n, s, k, m, am, h2, q⟩ | ⟨h, v, n, m, am, h2, q⟩ | ⟨h, v, n, h2, q⟩ | ⟨h, v, g, h2, q⟩ | ⟨h, q⟩ | ⟨h, v, r, h2, q⟩ | ⟨h, v, g, h2, q⟩
  · exact .inl ⟨h, v, g, h2, mono_begin q hq he⟩
  · exact .inr (.inl ⟨h, v, n, s, k, m, am, h2, mono_row q hq he⟩)
  · exact .inr (.inr (.inl ⟨h, v, n, m, am, h2, mono_fix q hq he⟩))
  · exact .inr (.inr (.inr (.inl ⟨h, v, n, h2, mono_gone q hq he⟩)))
  · exact .inr (.inr (.inr (.inr (.inl ⟨h, v, g, h2, mono_drop q hq he⟩))))
  · exact .inr (.inr (.inr (.inr (.inr (.inl ⟨h, mono_undo q hq he⟩)))))
  · exact .inr (.inr (.inr (.inr (.inr (.inr (.inl ⟨h, v, r, h2, mono_close q hq he⟩))))))
  · exact .inr (.inr (.inr (.inr (.inr (.inr (.inr ⟨h, v, g, h2, mono_tell q hq he⟩))))))
end
/-- what a told thing, a told error is -/
def toldQ (Q : VK) : VK := fun v H => ∀ t, H t = none → Q (.ref t) (upd H t (.tup [.str "told", v]))
def Errs.tab (e : Errs) : List (Addr × Str × Str) := [(e.CI, "idle", "writer"), (e.CY, "busy", "writer"), (e.CS, "stale", "id"), (e.CE, "entry", "at"), (e.CM, "moment", "value"), (e.CN, "name", "value")]
def toldE (e : Errs) (Q : VK) : XK := fun cls d H => (∃ C nm fl dd v, (C, nm, fl) ∈ e.tab ∧ cls = .ref C ∧ d = some dd ∧ H dd = some (.xd [(fl, v)]) ∧ ∀ t, H t = none → Q (.ref t) (upd H t (.tup [.str nm, v]))) ∨
  (cls = .ref e.CT ∧ ∀ t, H t = none → Q (.ref t) (upd H t (.tup [.str "nothing"])))
def spDone (c : Cls6) (e : Errs) : Sp := fun vs H Q _ => ∃ (a : OA) (cl wh : Int) (g : Addr) (gs : List V), vs = [.int wh, .ref a.o, .ref g] ∧ H a.o = some (.ins c.CO a.dx (ofF a.b a.j a.dd a.pa cl a.cb)) ∧ H g = some (.tup gs) ∧ calledB c e a.o wh gs H (toldQ Q) (toldE e Q)
section
variable {P : Program} {w : World} {mg : Str → Option Value} {base : Heap} {c : Cls6} {e : Errs} {fI fY fS fE fM fN : Addr}
structure GC (P : Program) (w : World) (mg : Str → Option Value) (base : Heap) (c : Cls6) (e : Errs) : Prop where
  T : Co c.K mg c.CO
  begin_ : Met P w c.K mg base (L2.CX P w) c.CO "begin" 3 ["self", "writer"] (spBeginO c e.CN e.CY)
  row : Met P w c.K mg base (L2.CX P w) c.CO "row" 5 ["self", "writer", "number", "stream", "key", "moment", "amount"] (spRowO c e.CI e.CE)
  fix : Met P w c.K mg base (L2.CX P w) c.CO "fix" 5 ["self", "writer", "number", "moment", "amount"] (spFixO c e.CI e.CE)
  gone : Met P w c.K mg base (L2.CX P w) c.CO "gone" 5 ["self", "writer", "number"] (spGoneO c e.CI e.CE)
  drop_ : Met P w c.K mg base (L2.CX P w) c.CO "drop" 3 ["self", "writer"] (spDropO c e.CI)
  undo : Met P w c.K mg base (L2.CX P w) c.CO "undo" 9 ["self"] (spUndoO c e.CT)
  close : Met P w c.K mg base (L2.CX P w) c.CO "close" 11 ["self", "writer", "arrival"] (spCloseO c e.CI e.CM e.CS e.CE)
  tell : Met P w c.K mg base (L2.CX P w) c.CO "draft" 3 ["self", "writer"] (spTellO c e.CI)
abbrev s_l_called : Stmt := topS 54
theorem sc_l_called : FnScope ["_law_which", "_law_office", "_law_given"] ["_law_which", "_law_office", "_law_given"] (defScope s_l_called) := ⟨rfl, rfl, rfl, by decide +kernel, rfl, by decide +kernel, by decide +kernel⟩
theorem ok_called {f : Addr} {fd : FuncData} (F : Fun c.K "_law_called" "_law_called" s_l_called f fd) (G : GC P w mg base c e) : FnOk P w c.K mg base (L2.CX P w) 12 f fd ["_law_which", "_law_office", "_law_given"] (spCalled c e) := by
  have T := G.T
  refine F.okX sc_l_called (fun vs H Q E h => ?_) (fun cdv A0 outer s H vs Q E hr h => ?_)
  · obtain ⟨a, cl, wh, g, gs, rfl, _⟩ := h
    rfl
  · obtain ⟨a, cl, wh, g, gs, rfl, ho, hg, q⟩ := h
    refine ⟨_, (pss_cons (ps_if (pt_cmpR op_eq (pv 0) pe_int (nomark _))
      (pss_one (ps_ret (pe_met T.cl G.begin_ (hr.mono (by decide)) (passE (takes_of rfl rfl rfl rfl)) (pv 1) (pa_cons (pe_ix ix_tup (pv 2) pe_int (fun _ _ => rfl)) pa_nil))))
      pss_nil)
    (pss_cons (ps_if (pt_cmpR op_eq (pv 0) pe_int (nomark _))
      (pss_one (ps_ret (pe_met T.cl G.row (hr.mono (by decide)) (passE (takes_of rfl rfl rfl rfl)) (pv 1) (pa_cons (pe_ix ix_tup (pv 2) pe_int (fun _ _ => rfl)) (pa_cons (pe_ix ix_tup (pv 2) pe_int (fun _ _ => rfl)) (pa_cons (pe_ix ix_tup (pv 2) pe_int (fun _ _ => rfl)) (pa_cons (pe_ix ix_tup (pv 2) pe_int (fun _ _ => rfl)) (pa_cons (pe_ix ix_tup (pv 2) pe_int (fun _ _ => rfl)) (pa_cons (pe_ix ix_tup (pv 2) pe_int (fun _ _ => rfl)) pa_nil)))))))))
      pss_nil)
    (pss_cons (ps_if (pt_cmpR op_eq (pv 0) pe_int (nomark _))
      (pss_one (ps_ret (pe_met T.cl G.fix (hr.mono (by decide)) (passE (takes_of rfl rfl rfl rfl)) (pv 1) (pa_cons (pe_ix ix_tup (pv 2) pe_int (fun _ _ => rfl)) (pa_cons (pe_ix ix_tup (pv 2) pe_int (fun _ _ => rfl)) (pa_cons (pe_ix ix_tup (pv 2) pe_int (fun _ _ => rfl)) (pa_cons (pe_ix ix_tup (pv 2) pe_int (fun _ _ => rfl)) pa_nil)))))))
      pss_nil)
    (pss_cons (ps_if (pt_cmpR op_eq (pv 0) pe_int (nomark _))
      (pss_one (ps_ret (pe_met T.cl G.gone (hr.mono (by decide)) (passE (takes_of rfl rfl rfl rfl)) (pv 1) (pa_cons (pe_ix ix_tup (pv 2) pe_int (fun _ _ => rfl)) (pa_cons (pe_ix ix_tup (pv 2) pe_int (fun _ _ => rfl)) pa_nil)))))
      pss_nil)
    (pss_cons (ps_if (pt_cmpR op_eq (pv 0) pe_int (nomark _))
      (pss_one (ps_ret (pe_met T.cl G.drop_ (hr.mono (by decide)) (passE (takes_of rfl rfl rfl rfl)) (pv 1) (pa_cons (pe_ix ix_tup (pv 2) pe_int (fun _ _ => rfl)) pa_nil))))
      pss_nil)
    (pss_cons (ps_if (pt_cmpR op_eq (pv 0) pe_int (nomark _))
      (pss_one (ps_ret (pe_met0 T.cl G.undo (hr.mono (by decide)) (passE (takes_of rfl rfl rfl rfl)) (pv 1))))
      pss_nil)
    (pss_cons (ps_if (pt_cmpR op_eq (pv 0) pe_int (nomark _))
      (pss_one (ps_ret (pe_met T.cl G.close (hr.mono (by decide)) (passE (takes_of rfl rfl rfl rfl)) (pv 1) (pa_cons (pe_ix ix_tup (pv 2) pe_int (fun _ _ => rfl)) (pa_cons (pe_ix ix_tup (pv 2) pe_int (fun _ _ => rfl)) pa_nil)))))
      pss_nil)
    (pss_one (ps_ret (pe_met T.cl G.tell (hr.mono (by decide)) (passE (takes_of rfl rfl rfl rfl)) (pv 1) (pa_cons (pe_ix ix_tup (pv 2) pe_int (fun _ _ => rfl)) pa_nil))))))))))), ?_⟩
    rcases q with ⟨rfl, v, gs', rfl, q⟩ | ⟨rfl, v, n, st, k, m, am, rfl, q⟩ | ⟨rfl, v, n, m, am, rfl, q⟩ | ⟨rfl, v, n, rfl, q⟩ | ⟨rfl, v, gs', rfl, q⟩ | ⟨rfl, q⟩ | ⟨rfl, v, r, rfl, q⟩ | ⟨rfl, v, gs', rfl, q⟩
    · exact ⟨_, rfl, rfl, _, rfl, iteT ⟨_, rfl, a.o, a.dx, _, rfl, ho, rfl, _, rfl, _, _, _, _, rfl, rfl, SqT.of hg, atI_zero v gs', q⟩⟩
    · exact ⟨_, rfl, rfl, _, rfl, iteF ⟨_, rfl, rfl, _, rfl, iteT ⟨_, rfl, a.o, a.dx, _, rfl, ho, rfl, _, rfl, _, _, _, _, rfl, rfl, SqT.of hg, rfl, _, rfl, _, _, _, _, rfl, rfl, SqT.of hg, rfl, _, rfl, _, _, _, _, rfl, rfl, SqT.of hg, rfl, _, rfl, _, _, _, _, rfl, rfl, SqT.of hg, rfl, _, rfl, _, _, _, _, rfl, rfl, SqT.of hg, rfl, _, rfl, _, _, _, _, rfl, rfl, SqT.of hg, rfl, q⟩⟩⟩
    · exact ⟨_, rfl, rfl, _, rfl, iteF ⟨_, rfl, rfl, _, rfl, iteF ⟨_, rfl, rfl, _, rfl, iteT ⟨_, rfl, a.o, a.dx, _, rfl, ho, rfl, _, rfl, _, _, _, _, rfl, rfl, SqT.of hg, rfl, _, rfl, _, _, _, _, rfl, rfl, SqT.of hg, rfl, _, rfl, _, _, _, _, rfl, rfl, SqT.of hg, rfl, _, rfl, _, _, _, _, rfl, rfl, SqT.of hg, rfl, q⟩⟩⟩⟩
    · exact ⟨_, rfl, rfl, _, rfl, iteF ⟨_, rfl, rfl, _, rfl, iteF ⟨_, rfl, rfl, _, rfl, iteF ⟨_, rfl, rfl, _, rfl, iteT ⟨_, rfl, a.o, a.dx, _, rfl, ho, rfl, _, rfl, _, _, _, _, rfl, rfl, SqT.of hg, rfl, _, rfl, _, _, _, _, rfl, rfl, SqT.of hg, rfl, q⟩⟩⟩⟩⟩
    · exact ⟨_, rfl, rfl, _, rfl, iteF ⟨_, rfl, rfl, _, rfl, iteF ⟨_, rfl, rfl, _, rfl, iteF ⟨_, rfl, rfl, _, rfl, iteF ⟨_, rfl, rfl, _, rfl, iteT ⟨_, rfl, a.o, a.dx, _, rfl, ho, rfl, _, rfl, _, _, _, _, rfl, rfl, SqT.of hg, atI_zero v gs', q⟩⟩⟩⟩⟩⟩
    · exact ⟨_, rfl, rfl, _, rfl, iteF ⟨_, rfl, rfl, _, rfl, iteF ⟨_, rfl, rfl, _, rfl, iteF ⟨_, rfl, rfl, _, rfl, iteF ⟨_, rfl, rfl, _, rfl, iteF ⟨_, rfl, rfl, _, rfl, iteT ⟨_, rfl, a.o, a.dx, _, rfl, ho, rfl, q⟩⟩⟩⟩⟩⟩⟩
    · exact ⟨_, rfl, rfl, _, rfl, iteF ⟨_, rfl, rfl, _, rfl, iteF ⟨_, rfl, rfl, _, rfl, iteF ⟨_, rfl, rfl, _, rfl, iteF ⟨_, rfl, rfl, _, rfl, iteF ⟨_, rfl, rfl, _, rfl, iteF ⟨_, rfl, rfl, _, rfl, iteT ⟨_, rfl, a.o, a.dx, _, rfl, ho, rfl, _, rfl, _, _, _, _, rfl, rfl, SqT.of hg, rfl, _, rfl, _, _, _, _, rfl, rfl, SqT.of hg, rfl, q⟩⟩⟩⟩⟩⟩⟩⟩
    · exact ⟨_, rfl, rfl, _, rfl, iteF ⟨_, rfl, rfl, _, rfl, iteF ⟨_, rfl, rfl, _, rfl, iteF ⟨_, rfl, rfl, _, rfl, iteF ⟨_, rfl, rfl, _, rfl, iteF ⟨_, rfl, rfl, _, rfl, iteF ⟨_, rfl, rfl, _, rfl, iteF ⟨_, rfl, a.o, a.dx, _, rfl, ho, rfl, _, rfl, _, _, _, _, rfl, rfl, SqT.of hg, atI_zero v gs', q⟩⟩⟩⟩⟩⟩⟩⟩
/-- the errors are apart -/
structure GE (P : Program) (K : PySem.W.Frag) (mg : Str → Option Value) (e : Errs) (fI fY fS fE fM fN : Addr) : Prop where
  TI : PySem.BadX.Txt P K mg "writer" "writer" e.CI fI
  TY : PySem.BadX.Txt P K mg "writer" "writer" e.CY fY
  TS : PySem.BadX.Txt P K mg "number" "id" e.CS fS
  TE : PySem.BadX.Txt P K mg "at" "at" e.CE fE
  TM : PySem.BadX.Txt P K mg "value" "value" e.CM fM
  TN : PySem.BadX.Txt P K mg "value" "value" e.CN fN
  c_Idle : mg "Idle" = some (.ref e.CI)
  c_Busy : mg "Busy" = some (.ref e.CY)
  c_Stale : mg "Stale" = some (.ref e.CS)
  c_BadEntry : mg "BadEntry" = some (.ref e.CE)
  c_BadMoment : mg "BadMoment" = some (.ref e.CM)
  c_BadName : mg "BadName" = some (.ref e.CN)
  c_NothingDone : mg "NothingDone" = some (.ref e.CT)
  nYI : PySem.W.exmOne K (.ref e.CY) (.ref e.CI) = some false
  nSI : PySem.W.exmOne K (.ref e.CS) (.ref e.CI) = some false
  nSY : PySem.W.exmOne K (.ref e.CS) (.ref e.CY) = some false
  nEI : PySem.W.exmOne K (.ref e.CE) (.ref e.CI) = some false
  nEY : PySem.W.exmOne K (.ref e.CE) (.ref e.CY) = some false
  nES : PySem.W.exmOne K (.ref e.CE) (.ref e.CS) = some false
  nMI : PySem.W.exmOne K (.ref e.CM) (.ref e.CI) = some false
  nMY : PySem.W.exmOne K (.ref e.CM) (.ref e.CY) = some false
  nMS : PySem.W.exmOne K (.ref e.CM) (.ref e.CS) = some false
  nME : PySem.W.exmOne K (.ref e.CM) (.ref e.CE) = some false
  nNI : PySem.W.exmOne K (.ref e.CN) (.ref e.CI) = some false
  nNY : PySem.W.exmOne K (.ref e.CN) (.ref e.CY) = some false
  nNS : PySem.W.exmOne K (.ref e.CN) (.ref e.CS) = some false
  nNE : PySem.W.exmOne K (.ref e.CN) (.ref e.CE) = some false
  nNM : PySem.W.exmOne K (.ref e.CN) (.ref e.CM) = some false
  nTI : PySem.W.exmOne K (.ref e.CT) (.ref e.CI) = some false
  nTY : PySem.W.exmOne K (.ref e.CT) (.ref e.CY) = some false
  nTS : PySem.W.exmOne K (.ref e.CT) (.ref e.CS) = some false
  nTE : PySem.W.exmOne K (.ref e.CT) (.ref e.CE) = some false
  nTM : PySem.W.exmOne K (.ref e.CT) (.ref e.CM) = some false
  nTN : PySem.W.exmOne K (.ref e.CT) (.ref e.CN) = some false
  nTT : PySem.W.exmOne K (.ref e.CT) (.ref e.CT) = some true
abbrev s_l_done : Stmt := topS 55
theorem sc_l_done : FnScope ["_law_which", "_law_office", "_law_given", "e"] ["_law_which", "_law_office", "_law_given"] (defScope s_l_done) := ⟨rfl, rfl, rfl, by decide +kernel, rfl, by decide +kernel, by decide +kernel⟩
theorem ok_done {f : Addr} {fd : FuncData} (F : Fun c.K "_law_done" "_law_done" s_l_done f fd) (Gc : Cal P w c.K mg base (L2.CX P w) "_law_called" 12 ["_law_which", "_law_office", "_law_given"] (spCalled c e)) (E0 : GE P c.K mg e fI fY fS fE fM fN) : FnOk P w c.K mg base CX0 13 f fd ["_law_which", "_law_office", "_law_given"] (spDone c e) := by
  refine F.ok sc_l_done (fun vs H Q E h => ?_) (fun cdv A0 outer s H vs Q E hr h => ?_)
  · obtain ⟨a, cl, wh, g, gs, rfl, _⟩ := h
    rfl
  · obtain ⟨a, cl, wh, g, gs, rfl, ho, hg, q⟩ := h
    have two : (2 : Nat) ≤ sizeLine := by decide
    have one : (1 : Nat) ≤ sizeLine := by decide
    refine ⟨_, (pss_one (ps_try_cls (tb := fun W => tRet (tTup (tCons (tC (.str "told")) (tCons (tCallSD (spCalled c e) [] (WE W) (tCons (tVar 0) (tCons (tVar 1) (tCons (tVar 2) tNil)))) tNil)))) (l := [(.ref e.CI, some 3, fun a cls d => tRet (tTup (tCons (tC (.str "idle")) (tCons (tByB "writer" e.CI a cls d (tVar 3)) tNil)))), (.ref e.CY, some 3, fun a cls d => tRet (tTup (tCons (tC (.str "busy")) (tCons (tByB "writer" e.CY a cls d (tVar 3)) tNil)))), (.ref e.CS, some 3, fun a cls d => tRet (tTup (tCons (tC (.str "stale")) (tCons (tByB "id" e.CS a cls d (tVar 3)) tNil)))), (.ref e.CE, some 3, fun a cls d => tRet (tTup (tCons (tC (.str "entry")) (tCons (tByB "at" e.CE a cls d (tVar 3)) tNil)))), (.ref e.CM, some 3, fun a cls d => tRet (tTup (tCons (tC (.str "moment")) (tCons (tByB "value" e.CM a cls d (tVar 3)) tNil)))), (.ref e.CN, some 3, fun a cls d => tRet (tTup (tCons (tC (.str "name")) (tCons (tByB "value" e.CN a cls d (tVar 3)) tNil)))), (.ref e.CT, none, fun a cls d => tRet (tTup (tCons (tC (.str "nothing")) tNil)))]) (W0 := fun _ _ _ _ => False) rfl rfl sc_l_done.nd takes0 (fun W pn xe tk _ =>
      (pss_one (ps_ret (pe_tup (pa_cons pe_str (pa_cons (pe_calS Gc (hr.mono (by decide)) (fun σ => passAt tk σ) (pa_cons (pv 0) (pa_cons (pv 1) (pa_cons (pv 2) pa_nil)))) pa_nil))))))
      (.cons ⟨rfl, by decide, .inl E0.c_Idle⟩ ⟨rfl, rfl⟩ (fun a oe cls d pn hz hf => (pss_one (ps_ret (pe_tup (pa_cons pe_str (pa_cons (pe_byB E0.TI hz hf (pv 3)) pa_nil)))))) (.cons ⟨rfl, by decide, .inl E0.c_Busy⟩ ⟨rfl, rfl⟩ (fun a oe cls d pn hz hf => (pss_one (ps_ret (pe_tup (pa_cons pe_str (pa_cons (pe_byB E0.TY hz hf (pv 3)) pa_nil)))))) (.cons ⟨rfl, by decide, .inl E0.c_Stale⟩ ⟨rfl, rfl⟩ (fun a oe cls d pn hz hf => (pss_one (ps_ret (pe_tup (pa_cons pe_str (pa_cons (pe_byB E0.TS hz hf (pv 3)) pa_nil)))))) (.cons ⟨rfl, by decide, .inl E0.c_BadEntry⟩ ⟨rfl, rfl⟩ (fun a oe cls d pn hz hf => (pss_one (ps_ret (pe_tup (pa_cons pe_str (pa_cons (pe_byB E0.TE hz hf (pv 3)) pa_nil)))))) (.cons ⟨rfl, by decide, .inl E0.c_BadMoment⟩ ⟨rfl, rfl⟩ (fun a oe cls d pn hz hf => (pss_one (ps_ret (pe_tup (pa_cons pe_str (pa_cons (pe_byB E0.TM hz hf (pv 3)) pa_nil)))))) (.cons ⟨rfl, by decide, .inl E0.c_BadName⟩ ⟨rfl, rfl⟩ (fun a oe cls d pn hz hf => (pss_one (ps_ret (pe_tup (pa_cons pe_str (pa_cons (pe_byB E0.TN hz hf (pv 3)) pa_nil)))))) (.cons ⟨rfl, by decide, .inl E0.c_NothingDone⟩ trivial (fun a oe cls d pn hz hf => (pss_one (ps_ret (pe_tup (pa_cons pe_str pa_nil))))) .nil))))))))), ?_⟩
    refine ⟨_, rfl, _, rfl, _, rfl, a, cl, wh, g, gs, rfl, ho, hg, ?_⟩
    refine mono_called q (fun v H1 h => ⟨two, h⟩) (fun cls d H1 h => ?_)
    have no : ∀ {α : Prop}, (false = true) → α := fun z => Bool.noConfusion z
    have yes : ∀ {α : Prop}, (true = false) → α := fun z => Bool.noConfusion z
    rcases h with ⟨C, nm, fl, dd, v, hm, rfl, rfl, hx, q⟩ | ⟨rfl, q⟩
    · have hm : (C, nm, fl) ∈ [(e.CI, ("idle" : Str), ("writer" : Str)), (e.CY, "busy", "writer"), (e.CS, "stale", "id"), (e.CE, "entry", "at"), (e.CM, "moment", "value"), (e.CN, "name", "value")] := hm
      simp only [List.mem_cons, List.not_mem_nil, or_false] at hm
      rcases hm with hm | hm | hm | hm | hm | hm <;> (cases hm)
      · exact ⟨true, E0.TI.te, fun _ a ha => ⟨_, rfl, rfl, rfl, dd, _, rfl, hx, two, q⟩, yes⟩
      · exact ⟨false, E0.nYI, no, fun _ => ⟨true, E0.TY.te, fun _ a ha => ⟨_, rfl, rfl, rfl, dd, _, rfl, hx, two, q⟩, yes⟩⟩
      · exact ⟨false, E0.nSI, no, fun _ => ⟨false, E0.nSY, no, fun _ => ⟨true, E0.TS.te, fun _ a ha => ⟨_, rfl, rfl, rfl, dd, _, rfl, hx, two, q⟩, yes⟩⟩⟩
      · exact ⟨false, E0.nEI, no, fun _ => ⟨false, E0.nEY, no, fun _ => ⟨false, E0.nES, no, fun _ => ⟨true, E0.TE.te, fun _ a ha => ⟨_, rfl, rfl, rfl, dd, _, rfl, hx, two, q⟩, yes⟩⟩⟩⟩
      · exact ⟨false, E0.nMI, no, fun _ => ⟨false, E0.nMY, no, fun _ => ⟨false, E0.nMS, no, fun _ => ⟨false, E0.nME, no, fun _ => ⟨true, E0.TM.te, fun _ a ha => ⟨_, rfl, rfl, rfl, dd, _, rfl, hx, two, q⟩, yes⟩⟩⟩⟩⟩
      · exact ⟨false, E0.nNI, no, fun _ => ⟨false, E0.nNY, no, fun _ => ⟨false, E0.nNS, no, fun _ => ⟨false, E0.nNE, no, fun _ => ⟨false, E0.nNM, no, fun _ => ⟨true, E0.TN.te, fun _ a ha => ⟨_, rfl, rfl, rfl, dd, _, rfl, hx, two, q⟩, yes⟩⟩⟩⟩⟩⟩
    · exact ⟨false, E0.nTI, no, fun _ => ⟨false, E0.nTY, no, fun _ => ⟨false, E0.nTS, no, fun _ => ⟨false, E0.nTE, no, fun _ => ⟨false, E0.nTM, no, fun _ => ⟨false, E0.nTN, no, fun _ => ⟨true, E0.nTT, fun _ a ha => ⟨one, q⟩, yes⟩⟩⟩⟩⟩⟩⟩
end
end Ash

set_option Elab.async false
set_option linter.all false
set_option maxRecDepth 100000
set_option maxHeartbeats 4000000
namespace Ash
open PySem PySem.Spec PyProof.Rows L2
open C8 (pss_cut)
def kindN : Ent → Int
  | .row .. => 1
  | .fix .. => 2
  | .gone .. => 3
def spPutIn (c : Cls6) (e : Errs) : Sp := fun vs H Q _ => ∃ (a : OA) (cl : Int) (v : V) (en : Addr) (x : Ent), vs = [.ref a.o, v, .ref en] ∧ H a.o = some (.ins c.CO a.dx (ofF a.b a.j a.dd a.pa cl a.cb)) ∧ DAt H en x ∧ ∀ H1, Same H H1 → calledB c e a.o (kindN x) (v :: x.vs.dropLast.tail) H1 (toldQ Q) (toldE e Q)
section
variable {P : Program} {w : World} {mg : Str → Option Value} {base : Heap} {c : Cls6} {e : Errs}
structure GP (P : Program) (w : World) (mg : Str → Option Value) (base : Heap) (c : Cls6) (e : Errs) : Prop where
  law_done : Cal P w c.K mg base CX0 "_law_done" 13 ["_law_which", "_law_office", "_law_given"] (spDone c e)
abbrev s_l_put_in : Stmt := topS 57
theorem sc_l_put_in : FnScope ["_law_office", "_law_writer", "_law_entry_here"] ["_law_office", "_law_writer", "_law_entry_here"] (defScope s_l_put_in) := ⟨rfl, rfl, rfl, by decide +kernel, rfl, by decide +kernel, by decide +kernel⟩
theorem ok_putIn {f : Addr} {fd : FuncData} (F : Fun c.K "_law_put_in" "_law_put_in" s_l_put_in f fd) (G : GP P w mg base c e) : FnOk P w c.K mg base CX0 14 f fd ["_law_office", "_law_writer", "_law_entry_here"] (spPutIn c e) := by
  refine F.ok sc_l_put_in (fun vs H Q E h => ?_) (fun cdv A0 outer s H vs Q E hr h => ?_)
  · obtain ⟨a, cl, v, en, x, rfl, _⟩ := h
    rfl
  · obtain ⟨a, cl, v, en, x, rfl, ho, he, q⟩ := h
    have hu := hu_of hr
    refine ⟨_, (pss_one (ps_ret (pe_cal G.law_done (hr.mono (by decide)) pass0 (pa_cons (pe_dget hu (pe_disp (pps_cons pe_str pe_int (pps_cons pe_str pe_int (pps_cons pe_str pe_int pps_nil))) (by rfl) (by rfl) (fun z => by cases z) (by decide)) (pe_ix ix_tup (pv 2) pe_int (fun _ _ => rfl)) (fun _ _ => rfl)) (pa_cons (pv 0) (pa_cons (pe_op op_catT (pe_tup (pa_cons (pv 1) pa_nil)) (pe_slice sl_tup (pv 2) (po_some pe_int) po_none)) pa_nil)))))), ?_⟩
    intro d hd
    have s1 : Same H (upd H d (.dK [])) := sameAt (Same.refl _) hd
    refine ⟨upd_same, [(Sum.inr "row", .int 1), (Sum.inr "fix", .int 2), (Sum.inr "gone", .int 3)], rfl, (by decide), ?_⟩
    have e2 : upd (upd H d (.dK [])) d (.dK (mergeK [] [((Sum.inr "row" : Key), V.int 1), (Sum.inr "fix", .int 2), (Sum.inr "gone", .int 3)])) = upd H d (.dK [((Sum.inr "row" : Key), V.int 1), (Sum.inr "fix", .int 2), (Sum.inr "gone", .int 3)]) := by
      funext q
      by_cases z : q = d
      · subst z; rw [upd_same, upd_same]; rfl
      · rw [upd_ne z, upd_ne z, upd_ne z]
    rw [e2]
    have s2 : Same H (upd H d (.dK [((Sum.inr "row" : Key), V.int 1), (Sum.inr "fix", .int 2), (Sum.inr "gone", .int 3)])) := sameAt (Same.refl _) hd
    have hd2 : (upd H d (.dK [((Sum.inr "row" : Key), V.int 1), (Sum.inr "fix", .int 2), (Sum.inr "gone", .int 3)])) d = some (.dK [((Sum.inr "row" : Key), V.int 1), (Sum.inr "fix", .int 2), (Sum.inr "gone", .int 3)]) := upd_same
    generalize (upd H d (.dK [((Sum.inr "row" : Key), V.int 1), (Sum.inr "fix", .int 2), (Sum.inr "gone", .int 3)])) = H2 at s2 hd2 ⊢
    have he2 : H2 en = some (.tup x.vs.dropLast) := s2 _ _ he
    have one : (1 : Nat) ≤ sizeLine := by decide
    cases x with
    | row n st k m am r =>
      refine ⟨_, rfl, _, _, _, _, rfl, rfl, SqT.of he2, rfl, d, _, rfl, DGet.k (k := Sum.inr "row") hd2, ?_⟩
      refine ⟨_, rfl, _, rfl, one, fun t1 n1 => ?_⟩
      have s3 : Same H2 (upd H2 t1 (.tup [v])) := sameAt (Same.refl _) n1
      refine ⟨_, rfl, _, rfl, en, _, rfl, SqT.of (s3 _ _ he2), (fun z => absurd (show (1 : Nat) = 0 from z.1) (by decide)), fun t2 n2 => ?_⟩
      have t12 : t1 ≠ t2 := fun z => by rw [← z, upd_same] at n2; cases n2
      refine ⟨t1, t2, [v], _, rfl, rfl, SqT.of (by rw [upd_ne t12]; exact upd_same), SqT.of upd_same, (fun z => nomatch z), (by rw [sizeLine_eq]; exact Nat.le_of_ble_eq_true rfl), (fun z => by cases (show (_ :: _ : List V) = [] from z)), fun _ t3 n3 => ?_⟩
      refine ⟨a, cl, _, t3, _, rfl, ?_, upd_same, q _ ?_⟩
      · exact (((s2.trans s3).trans (sameAt (Same.refl _) n2)).trans (sameAt (Same.refl _) n3)) _ _ ho
      · exact (((s2.trans s3).trans (sameAt (Same.refl _) n2)).trans (sameAt (Same.refl _) n3))
    | fix n m am r =>
      refine ⟨_, rfl, _, _, _, _, rfl, rfl, SqT.of he2, rfl, d, _, rfl, DGet.k (k := Sum.inr "fix") hd2, ?_⟩
      refine ⟨_, rfl, _, rfl, one, fun t1 n1 => ?_⟩
      have s3 : Same H2 (upd H2 t1 (.tup [v])) := sameAt (Same.refl _) n1
      refine ⟨_, rfl, _, rfl, en, _, rfl, SqT.of (s3 _ _ he2), (fun z => absurd (show (1 : Nat) = 0 from z.1) (by decide)), fun t2 n2 => ?_⟩
      have t12 : t1 ≠ t2 := fun z => by rw [← z, upd_same] at n2; cases n2
      refine ⟨t1, t2, [v], _, rfl, rfl, SqT.of (by rw [upd_ne t12]; exact upd_same), SqT.of upd_same, (fun z => nomatch z), (by rw [sizeLine_eq]; exact Nat.le_of_ble_eq_true rfl), (fun z => by cases (show (_ :: _ : List V) = [] from z)), fun _ t3 n3 => ?_⟩
      refine ⟨a, cl, _, t3, _, rfl, ?_, upd_same, q _ ?_⟩
      · exact (((s2.trans s3).trans (sameAt (Same.refl _) n2)).trans (sameAt (Same.refl _) n3)) _ _ ho
      · exact (((s2.trans s3).trans (sameAt (Same.refl _) n2)).trans (sameAt (Same.refl _) n3))
    | gone n r =>
      refine ⟨_, rfl, _, _, _, _, rfl, rfl, SqT.of he2, rfl, d, _, rfl, DGet.k (k := Sum.inr "gone") hd2, ?_⟩
      refine ⟨_, rfl, _, rfl, one, fun t1 n1 => ?_⟩
      have s3 : Same H2 (upd H2 t1 (.tup [v])) := sameAt (Same.refl _) n1
      refine ⟨_, rfl, _, rfl, en, _, rfl, SqT.of (s3 _ _ he2), (fun z => absurd (show (1 : Nat) = 0 from z.1) (by decide)), fun t2 n2 => ?_⟩
      have t12 : t1 ≠ t2 := fun z => by rw [← z, upd_same] at n2; cases n2
      refine ⟨t1, t2, [v], _, rfl, rfl, SqT.of (by rw [upd_ne t12]; exact upd_same), SqT.of upd_same, (fun z => nomatch z), (by rw [sizeLine_eq]; exact Nat.le_of_ble_eq_true rfl), (fun z => by cases (show (_ :: _ : List V) = [] from z)), fun _ t3 n3 => ?_⟩
      refine ⟨a, cl, _, t3, _, rfl, ?_, upd_same, q _ ?_⟩
      · exact (((s2.trans s3).trans (sameAt (Same.refl _) n2)).trans (sameAt (Same.refl _) n3)) _ _ ho
      · exact (((s2.trans s3).trans (sameAt (Same.refl _) n2)).trans (sameAt (Same.refl _) n3))
end
end Ash

set_option Elab.async false
set_option linter.all false
set_option maxRecDepth 100000
set_option maxHeartbeats 4000000
namespace Ash
open PySem PySem.Spec PyProof.Rows L2
open C8 (pss_cut)
/-! ### where a law stands: its pool, its office, what it changes itself -/
structure LW (c : Cls6) (B A : Addr → Prop) (H : Hp) (a : OA) (S : OS) (p s : Addr) : Prop where
  M : OfM c B A H a S
  pool : PoolAt H p s
  bp : B p
  nap : ¬ A p
  nas : ¬ A s
/-- from (B, A, H) to (B', A', H') -/
structure Lst (p : Addr) (B A : Addr → Prop) (H : Hp) (B' A' : Addr → Prop) (H' : Hp) : Prop where
  sub : ∀ q, B q → B' q
  cut : Same (cutH B H) (cutH B' H')
  k : ∀ q x, H q = some x → ¬ A q → q ≠ p → H' q = some x
  gA : ∀ q, A' q → A q ∨ H q = none
  gB : ∀ q, B' q → B q ∨ H q = none
  alive : ∀ q, H q ≠ none → H' q ≠ none
theorem Lst.refl (p : Addr) (B A : Addr → Prop) (H : Hp) : Lst p B A H B A H := ⟨fun _ h => h, fun _ _ h => h, fun _ _ h _ _ => h, fun _ h => .inl h, fun _ h => .inl h, fun _ h => h⟩
theorem Lst.trans {p : Addr} {B A B1 A1 B2 A2 : Addr → Prop} {H H1 H2 : Hp} (x : Lst p B A H B1 A1 H1) (y : Lst p B1 A1 H1 B2 A2 H2) : Lst p B A H B2 A2 H2 := by
  have dead : ∀ q, H1 q = none → H q = none := fun q h => by
    cases e : H q with
    | none => rfl
    | some u => exact absurd h (x.alive q (by rw [e]; exact fun z => nomatch z))
  refine ⟨fun q h => y.sub q (x.sub q h), x.cut.trans y.cut, fun q u h n1 n2 => y.k q u (x.k q u h n1 n2) (fun a1 => ?_) n2, fun q h => ?_, fun q h => ?_, fun q h => y.alive q (x.alive q h)⟩
  · rcases x.gA q a1 with h1 | h1
    · exact n1 h1
    · rw [h] at h1; cases h1
  · rcases y.gA q h with h1 | h1
    · exact x.gA q h1
    · exact .inr (dead q h1)
  · rcases y.gB q h with h1 | h1
    · exact x.gB q h1
    · exact .inr (dead q h1)
section
variable {c : Cls6} {B A : Addr → Prop} {H : Hp} {a : OA} {S : OS} {p s : Addr}
theorem LW.draw {H' : Hp} (h : LW c B A H a S p s) (P : Pl H H' p s) : LW c B A H' a S p s ∧ Lst p B A H B A H' := by
  refine ⟨⟨h.M.pl P h.nap h.bp, P.now, h.bp, h.nap, h.nas⟩, ⟨fun _ x => x, cut_step (fun q u e n => P.keep e fun z => n (z ▸ h.bp)) fun _ x => .inl x, fun q u e _ n => P.keep e n, fun _ x => .inl x, fun _ x => .inl x, fun q hq => ?_⟩⟩
  by_cases z : q = p
  · subst z; exact P.now.ne.1
  · cases e : H q with
    | none => exact absurd e hq
    | some u => rw [P.keep e z]; exact fun z => nomatch z
theorem alive_same {H H' : Hp} (s : Same H H') (q : Addr) (h : H q ≠ none) : H' q ≠ none := by
  cases e : H q with
  | none => exact absurd e h
  | some u => rw [s _ _ e]; exact fun z => nomatch z
theorem LW.same {H' : Hp} (h : LW c B A H a S p s) (e : Same H H') : LW c B A H' a S p s ∧ Lst p B A H B A H' :=
  ⟨⟨h.M.same e, h.pool.same e, h.bp, h.nap, h.nas⟩, ⟨fun _ x => x, cut_step (fun q u h _ => e _ _ h) fun _ x => .inl x, fun q u h _ _ => e _ _ h, fun _ x => .inl x, fun _ x => .inl x, alive_same e⟩⟩
theorem LW.office {A' : Addr → Prop} {H' : Hp} {a' : OA} {S' : OS} (h : LW c B A H a S p s) (f : Fr A H A' H') (M : OfM c (uni B A') A' H' a' S') : LW c (uni B A') A' H' a' S' p s ∧ Lst p B A H (uni B A') A' H' := by
  obtain ⟨ns, i, cc, k, n, e1, e2, e3, e4⟩ := h.pool
  have hA : ∀ q, ¬ A q → H q ≠ none → ¬ A' q := fun q n1 n2 z => (f.g q z).elim n1 n2
  refine ⟨⟨M, ⟨ns, i, cc, k, n, f.k _ _ e1 h.nap, f.k _ _ e2 h.nas, e3, e4⟩, .inl h.bp, hA p h.nap h.pool.ne.1, hA s h.nas h.pool.ne.2⟩, ⟨fun _ x => .inl x, f.cut h.M.AB, fun q u e n _ => f.k q u e n, f.g, fun q x => x.elim .inl fun z => (f.g q z).imp (h.M.AB q) id, fun q hq => ?_⟩⟩
  by_cases z : A q
  · by_cases z2 : A' q
    · obtain ⟨u, e, _⟩ := M.BT q (.inr z2)
      rw [e]; exact fun z => nomatch z
    · have hb : uni B A' q := .inl (h.M.AB q z)
      obtain ⟨u, e, _⟩ := M.BT q hb
      rw [e]; exact fun z => nomatch z
  · cases e : H q with
    | none => exact absurd e hq
    | some u => rw [f.k _ _ e z]; exact fun z => nomatch z
/-- a new place of the law's own that will change -/
theorem LW.own {q : Addr} {o : HO} (h : LW c B A H a S p s) (hq : H q = none) (ho : MuO c.CO o) : LW c (fun x => B x ∨ x = q) A (upd H q o) a S p s ∧ Lst p B A H (fun x => B x ∨ x = q) A (upd H q o) := by
  have e : Same H (upd H q o) := sameAt (Same.refl _) hq
  refine ⟨⟨h.M.keep (fun x u _ hx => e _ _ hx) (fun x u hx _ => e _ _ hx) (fun _ x => .inl x) (fun x hx => hx.imp id fun z => by rw [z]; exact hq) fun x hx => ?_, h.pool.same e, .inl h.bp, h.nap, h.nas⟩, ⟨fun _ x => .inl x, cut_step (fun x u hx _ => e _ _ hx) fun x hx => hx.imp id fun z => by rw [z]; exact hq, fun x u hx _ _ => e _ _ hx, fun _ x => .inl x, fun x hx => hx.imp id fun z => by rw [z]; exact hq, alive_same e⟩⟩
  rcases hx with hx | rfl
  · obtain ⟨u, e1, m⟩ := h.M.BT x hx
    exact ⟨u, e _ _ e1, m⟩
  · exact ⟨o, upd_same, ho⟩
/-- the law changes its own place -/
theorem LW.set {q : Addr} {o : HO} (h : LW c B A H a S p s) (bq : B q) (nq : ¬ A q) (np : q ≠ p) (ns : q ≠ s) (ho : MuO c.CO o) : LW c B A (upd H q o) a S p s ∧ Same (cutH B H) (cutH B (upd H q o)) := by
  refine ⟨⟨h.M.keep (fun x u hx e => by rw [upd_ne (fun z : x = q => nq (by rw [← z]; exact hx))]; exact e) (fun x u e n => by rw [upd_ne (fun z : x = q => n (by rw [z]; exact bq))]; exact e) (fun _ x => x) (fun _ x => .inl x) fun x hx => ?_, h.pool.off np ns, h.bp, h.nap, h.nas⟩, cut_step (fun x u e n => by rw [upd_ne (fun z : x = q => n (by rw [z]; exact bq))]; exact e) fun _ x => .inl x⟩
  by_cases z : x = q
  · subst z; exact ⟨o, upd_same, ho⟩
  · obtain ⟨u, e1, m⟩ := h.M.BT x hx
    exact ⟨u, by rw [upd_ne z]; exact e1, m⟩
theorem LW.tup (h : LW c B A H a S p s) {q : Addr} {xs : List V} (hq : H q = some (.tup xs)) : cutH B H q = some (.tup xs) := cut_at (h.M.tup hq) hq
end
theorem kn_pos {L : List (Str × Int)} : ∀ {xs : List Ent} {i : Nat} {S S1 : Kn} {l : Option Int}, wk L (xs.map some) i S l = (none, S1) → (∀ x ∈ xs, x.ok) → (∀ id, S id ≠ none → 0 ≤ id) → ∀ id, S1 id ≠ none → 0 ≤ id
  | [], _, S, S1, _, h, _, hS, id, hid => by
    have : (none, S) = (none, S1) := h
    cases this
    exact hS id hid
  | x :: xs, i, S, S1, l, h, ok, hS, id, hid => by
    obtain ⟨_, y, _, h2⟩ := wk_step h
    refine kn_pos h2 (fun z hz => ok z (List.mem_cons_of_mem _ hz)) (fun j hj => ?_) id hid
    by_cases e : j = x.id
    · rw [e]; exact (ok x List.mem_cons_self).1
    · rw [if_neg e] at hj; exact hS j hj
theorem wk_rows {L : List (Str × Int)} : ∀ {xs : List Ent} {i : Nat} {S S1 : Kn} {l : Option Int}, wk L (xs.map some) i S l = (none, S1) → RowsIn L xs
  | [], _, _, _, _, _ => fun _ h => nomatch h
  | x :: xs, i, S, S1, l, h => by
    obtain ⟨_, y, hb, h2⟩ := wk_step h
    intro z hz
    rcases List.mem_cons.mp hz with rfl | hz
    · intro id s k m a r e
      subst e
      cases eS : S id with
      | some o =>
        have hb' : behind L (.row id s k m a r) (S id) = some y := hb
        rw [eS] at hb'
        cases o <;> cases hb'
      | none =>
        have hb' : behind L (.row id s k m a r) none = some y := by rw [← eS]; exact hb
        cases el : L.lookup s with
        | none =>
          have hb2 : ((L.lookup s).bind fun l => if m ≤ r ∧ r ≤ m + l then some (RowSt.at_ s k m a) else none) = some y := hb'
          rw [el] at hb2
          cases hb2
        | some l => rfl
    · exact wk_rows h2 z hz
theorem Good.eq {L : List (Str × Int)} {xs : List Ent} (h : Good L xs) : ∃ S1, wk L (xs.map some) 0 (fun _ => none) none = (none, S1) := ⟨_, by rw [← h]⟩
theorem called_put {c : Cls6} {e : Errs} {B A : Addr → Prop} {H : Hp} {a : OA} {S : OS} {v : V} {x : Ent} {Q : VK} {E : XK} (M : OfM c B A H a S) (hv : StrOk c.K H v) (ok : (x.at_ 0).ok) (h : PutOut c e.CI e.CE B A H a S v (x.at_ 0) Q E) : calledB c e a.o (kindN x) (v :: x.vs.dropLast.tail) H Q E := by
  cases x with
  | row n st k m am r => exact .inr (.inl ⟨rfl, v, _, _, _, _, _, rfl, B, A, a, S, v, n, st, k, m, am, rfl, M, hv, ok, h⟩)
  | fix n m am r => exact .inr (.inr (.inl ⟨rfl, v, _, _, _, rfl, B, A, a, S, v, n, m, am, rfl, M, hv, ok, h⟩))
  | gone n r => exact .inr (.inr (.inr (.inl ⟨rfl, v, _, rfl, B, A, a, S, v, n, rfl, M, hv, ok, h⟩)))
theorem at_at (x : Ent) (m n : Int) : (x.at_ m).at_ n = x.at_ n := by cases x <;> rfl
theorem DAt.at0 {H : Hp} {e : Addr} {x : Ent} (h : DAt H e x) : DAt H e (x.at_ 0) := by
  unfold DAt at h ⊢
  rw [h]
  cases x <;> rfl
theorem DOk.at0 {L : List (Str × Int)} {x : Ent} (h : DOk L x) (n : Int) : DOk L (x.at_ n) := ⟨at_ok h.1 n, fun id s k m a r e => by
  cases x with
  | row id s k m a r => cases e; exact h.2 _ _ _ _ _ _ rfl
  | fix id m a q => cases e
  | gone id q => cases e⟩
theorem DOk.inB {L : List (Str × Int)} {x : Ent} (h : DOk L x) : InB L x := h.2
theorem Ents.append {H : Hp} {us vs : List V} {xs ys : List Ent} (a : Ents H us xs) (b : Ents H vs ys) : Ents H (us ++ vs) (xs ++ ys) := by
  obtain ⟨al, a⟩ := a
  obtain ⟨bl, b⟩ := b
  refine ⟨by rw [List.length_append, List.length_append, al, bl], fun i v x h1 h2 => ?_⟩
  by_cases c : i < us.length
  · rw [List.getElem?_append_left c] at h1
    rw [List.getElem?_append_left (by omega)] at h2
    exact a i v x h1 h2
  · rw [List.getElem?_append_right (by omega)] at h1
    rw [List.getElem?_append_right (by omega), ← al] at h2
    exact b _ v x h1 h2
theorem take_at {α : Type} (xs ys : List α) (i : Nat) : (xs ++ ys).take (xs.length + i) = xs ++ ys.take i := by
  rw [List.take_append, List.take_of_length_le (by omega), Nat.add_sub_cancel_left]
/-- the first entry that can't be handed in is the first bad one -/
theorem jb_index {L : List (Str × Int)} {xs ys : List Ent} {i : Nat} (hi : i < ys.length) (g : Good L (xs ++ ys.take i)) (b : ¬ Good L (xs ++ ys.take (i + 1))) : (wk L ((xs ++ ys).map some) 0 (fun _ => none) none).1 = some (xs.length + i) := by
  obtain ⟨S1, h1⟩ := g.eq
  have hx : (xs ++ ys)[xs.length + i]? = some ys[i] := by
    rw [List.getElem?_append_right (by omega), Nat.add_sub_cancel_left]
    exact List.getElem?_eq_getElem hi
  rcases good_step hx (by rw [take_at]; exact h1) with ⟨_, y, _, h2⟩ | ⟨_, h2, _⟩
  · rw [Nat.add_assoc, take_at] at h2
    exact absurd (show Good L _ by unfold Good; rw [h2]) b
  · exact h2
theorem good_pre {L : List (Str × Int)} {xs ys : List Ent} (h : Good L (xs ++ ys)) (i : Nat) : Good L (xs ++ ys.take i) := by
  obtain ⟨S1, h1⟩ := h.eq
  obtain ⟨S2, h2⟩ := wk_pre h1 (xs.length + i)
  rw [take_at] at h2
  unfold Good
  rw [h2]
theorem jb_bad {L : List (Str × Int)} {xs ys : List Ent} {i : Nat} (h : JBad L xs ys i) (l : xs.length + ys.length ≤ 400) : (wk L ((xs ++ ys).map some) 0 (fun _ => none) none).1 = some (xs.length + i) := by
  obtain ⟨h1, h2, h3, h4⟩ := h
  rcases h4 with h4 | h4
  · omega
  · exact jb_index h1 h2 h4
theorem no_stale {S : OS} {d : Dr} (h : ∀ b ∈ S.cb, b ≤ d.n) : stale S d = none := by
  have e : laterIds S.xs S.cb d.n = [] := by
    unfold laterIds
    rw [List.map_eq_nil_iff, List.filter_eq_nil_iff]
    intro x hx
    have := h _ (List.of_mem_zip hx).2
    simp
    omega
  unfold stale
  rw [e, List.find?_eq_none.mpr (fun x _ => by simp)]
  rfl
end Ash

set_option Elab.async false
set_option linter.all false
set_option maxRecDepth 100000
set_option maxHeartbeats 4000000
set_option pp.maxSteps 1500
namespace Ash
open PySem PySem.Spec PyProof.Rows L2
open C8 (pss_cut)
/-! ### a draft from begin to close -/
/-- what the law holds besides -/
structure Fix (B : Addr → Prop) (H : Hp) (dl dk de : Addr) (L : List (Str × Int)) (ks : List Str) (usd : List V) (xs : List Ent) : Prop where
  LL : Lates L
  dl : cutH B H dl = some (.dK (LK L))
  dk : cutH B H dk = some (.lst (ks.map V.str))
  k1 : 1 ≤ ks.length
  k2 : ks.length ≤ 30
  kn : ∀ z ∈ ks, IsNm z
  de : cutH B H de = some (.lst usd)
  E : Ents (cutH B H) usd xs
theorem Fix.go {B B' : Addr → Prop} {H H' : Hp} {dl dk de : Addr} {L : List (Str × Int)} {ks : List Str} {usd : List V} {xs : List Ent} (h : Fix B H dl dk de L ks usd xs) (s : Same (cutH B H) (cutH B' H')) : Fix B' H' dl dk de L ks usd xs :=
  ⟨h.LL, s _ _ h.dl, s _ _ h.dk, h.k1, h.k2, h.kn, s _ _ h.de, h.E.same s⟩
/-- the office's numbers -/
structure Num (S : OS) (n m : Nat) : Prop where
  cb : ∀ b ∈ S.cb, b ≤ S.cl
  past : S.past.length ≤ n
  xs : S.xs.length ≤ m
def spClosed72 (c : Cls6) : Sp := fun vs H Q _ => ∃ (B A : Addr → Prop) (a : OA) (S : OS) (p s dl dk de : Addr) (ks : List Str) (usd : List V) (number now : Int), vs = [.ref p, .ref a.o, .ref dl, .ref dk, .ref de, .int number, .int now] ∧ LW c B A H a S p s ∧ S.ps = [] ∧ Num S 400 390 ∧ Fix B H dl dk de S.L ks usd S.xs ∧ 0 ≤ number ∧
  ∀ B' A' H' a' S' t, LW c B' A' H' a' S' p s → Lst p B A H B' A' H' → S'.L = S.L → S'.ps = [] → Num S' (S.past.length + 1) (S.xs.length + 3) → a'.o = a.o →
    ((S'.xs = S.xs ∧ S'.past = S.past ∧ H' t = some (.tup [.str "refused", .ref de])) ∨ (∃ dw usw, S'.past = S.past ++ [S.xs.length] ∧ cutH B' H' dw = some (.lst usw) ∧ Ents (cutH B' H') usw S'.xs ∧ S'.xs.take S.xs.length = S.xs ∧ H' t = some (.tup [.str "closed", .ref dw]))) → Q (.ref t) H'
def mkS (S : OS) (t l : Addr) (es : List Ent) : OS := { S with ps := [⟨"one", t, l, S.cl, es⟩] }
theorem mkS_put (S : OS) (t l : Addr) (es : List Ent) (x : Ent) : (mkS S t l es).putd "one" x = mkS S t l (es ++ [x]) := by
  unfold mkS OS.putd
  simp
theorem mkS_drop (S : OS) (t l : Addr) (es : List Ent) : (mkS S t l es).dropd "one" = { S with ps := [] } := by
  unfold mkS OS.dropd
  simp
theorem mkS_find (S : OS) (t l : Addr) (es : List Ent) : (mkS S t l es).find "one" = some ⟨"one", t, l, S.cl, es⟩ := by
  unfold mkS OS.find
  simp
theorem str_ok {K : PySem.W.Frag} {H : Hp} {z : Str} (h : z.length ≤ 100) : StrOk K H (.str z) := .inl ⟨z, rfl, by rw [sizeLine_eq]; omega⟩
theorem int_is {K : PySem.W.Frag} {H : Hp} {n : Int} (h : NotInt K H (.int n)) : False := by
  obtain ⟨t, bi, bb, ty, k1, k2, k3⟩ := h
  cases ty with
  | base b =>
    cases b with
    | _ =>
      rw [show PySem.W.kitOne K (.type "int") (.type "int") = some true from kit_ty (by decide +kernel)] at k1
      rw [show PySem.W.kitOne K (.type "int") (.type "bool") = some false from kit_ty (by decide +kernel)] at k2
      cases k1
      cases k2
      cases k3
theorem seqs {K : PySem.W.Frag} {H : Hp} {a b : Addr} {x y : V} (ha : H a = some (.tup [x, y])) (hb : H b = some (.tup [x, y])) (fx : flatV x = true ∧ eqV x x = true) (fy : flatV y = true ∧ eqV y y = true) : SeqS K H (.ref a) (.ref b) :=
  ⟨a, b, [x, y], [x, y], rfl, rfl, SqT.of ha, SqT.of hb, rfl, fun i u v hu hv => by
    rw [hu] at hv
    cases hv
    match i, hu with
    | 0, hu => cases hu; exact .inl ⟨fx.1, fx.1, fx.2⟩
    | 1, hu => cases hu; exact .inl ⟨fy.1, fy.1, fy.2⟩⟩
theorem fl_int (n : Int) : flatV (.int n) = true ∧ eqV (.int n) (.int n) = true := ⟨rfl, by simp [eqV]⟩
theorem fl_str (z : Str) : flatV (.str z) = true ∧ eqV (.str z) (.str z) = true := ⟨rfl, by simp [eqV]⟩
theorem nm_one : nmB "one" = true := by decide +kernel
section
variable {P : Program} {w : World} {mg : Str → Option Value} {base : Heap} {c : Cls6} {e : Errs}
structure GK (P : Program) (w : World) (mg : Str → Option Value) (base : Heap) (c : Cls6) (e : Errs) : Prop where
  T : Co c.K mg c.CO
  begin_ : Met P w c.K mg base (L2.CX P w) c.CO "begin" 3 ["self", "writer"] (spBeginO c e.CN e.CY)
  drop_ : Met P w c.K mg base (L2.CX P w) c.CO "drop" 3 ["self", "writer"] (spDropO c e.CI)
  law_draw : CDraw P w c.K mg base
  law_drafted : Cal P w c.K mg base CX0 "_law_drafted" 4 ["_law_pool_here", "_law_lates_here", "_law_keys", "_law_entries_here", "_law_number", "_law_now"] spDrafted
  law_put_in : Cal P w c.K mg base CX0 "_law_put_in" 14 ["_law_office", "_law_writer", "_law_entry_here"] (spPutIn c e)
  law_bad_from : Cal P w c.K mg base CX0 "_law_bad_from" 2 ["_law_lates_here", "_law_entries_here", "_law_begin_here"] spBad
  law_done : Cal P w c.K mg base CX0 "_law_done" 13 ["_law_which", "_law_office", "_law_given"] (spDone c e)
abbrev s_l_closed : Stmt := topS 58
theorem sc_l_closed : FnScope ["_law_pool_here", "_law_office", "_law_lates_here", "_law_keys", "_law_entries_here", "_law_number", "_law_now", "_law_drafted_here", "_law_k", "_law_entry_here", "_law_whole", "_law_at", "_law_told"] ["_law_pool_here", "_law_office", "_law_lates_here", "_law_keys", "_law_entries_here", "_law_number", "_law_now"] (defScope s_l_closed) := ⟨rfl, rfl, rfl, by decide +kernel, rfl, by decide +kernel, by decide +kernel⟩
theorem ok_closed {f : Addr} {fd : FuncData} (F : Fun c.K "_law_closed" "_law_closed" s_l_closed f fd) (B : Blt mg) (G : GK P w mg base c e) : FnOk P w c.K mg base CX0 15 f fd ["_law_pool_here", "_law_office", "_law_lates_here", "_law_keys", "_law_entries_here", "_law_number", "_law_now"] (spClosed72 c) := by
  have T := G.T
  refine F.ok sc_l_closed (fun vs H Q E h => ?_) (fun cdv A0 outer s H vs Q E hr h => ?_)
  · obtain ⟨B, A, a, S, p, s, dl, dk, de, ks, usd, number, now, rfl, _⟩ := h
    rfl
  · obtain ⟨B0, A, a, S, p, s0, dl, dk, de, ks, usd, number, now, rfl, W, hps, hN, hF, hnum, q⟩ := h
    have hu := hu_of hr
    have hu0 : (A0.deeper (envOfC "_law_closed" (defScope s_l_closed) s.heap.objs.size f cdv)).units < cLine := by omega
    refine ⟨_, (pss_cons (ps_expr (pe_met T.cl G.begin_ (hr.mono (by decide)) (passE takes0) (pv 1) (pa_cons pe_str pa_nil)))
    (pss_cons (ps_set (i := 7) sc_l_closed.nd rfl (Or.inl rfl) (pe_lst pa_nil))
    (pss_cons (ps_for PassesOwn.never rfl (pi_range1 (by rfl) B.range (pa_cons (pe_cal G.law_draw (hr.mono (by decide)) pass0 (pa_cons (pv 0) (pa_cons pe_int pa_nil))) pa_nil)) (pg_name (i := 8) sc_l_closed.nd rfl (Or.inl rfl))
      (pss_cons (ps_set (i := 9) sc_l_closed.nd rfl (Or.inl rfl) (pe_cal G.law_drafted (hr.mono (by decide)) pass0 (pa_cons (pv 0) (pa_cons (pv 2) (pa_cons (pv 3) (pa_cons (pv 4) (pa_cons (pe_op op_add (pv 5) (pv 8)) (pa_cons (pv 6) pa_nil))))))))
      (pss_cons (ps_expr (pe_cal G.law_put_in (hr.mono (by decide)) pass0 (pa_cons (pv 1) (pa_cons pe_str (pa_cons (pv 9) pa_nil)))))
      (pss_one (ps_expr (pe_bm PySem.F.plainAttrs_list PySem.F.slot_list_append PySem.F.type_list_append mt_append (pv 7) (pa_cons (pv 9) pa_nil)))))))
    (pss_cons (ps_set (i := 10) sc_l_closed.nd rfl (Or.inl rfl) (pe_op op_cat (pv 4) (pe_lc (own := [("_law_entry_here", 9)]) (g := gName 9) (tt := tYes) (by rfl) sc_l_closed.nd (pi_list (pv 7)) (blkOk_by (own := [("_law_entry_here", 9)]) (N := ["_law_pool_here", "_law_office", "_law_lates_here", "_law_keys", "_law_entries_here", "_law_number", "_law_now", "_law_drafted_here", "_law_k", "_law_entry_here", "_law_whole", "_law_at", "_law_told"]) (sc := defScope s_l_closed) (by decide +kernel)) (fun _ _ _ _ _ => (pg_name (i := 9) sc_l_closed.nd rfl (Or.inl rfl))) (fun _ _ _ _ _ => pts_nil) (fun _ _ _ _ _ => (pe_op (show OpR _ _ (rCatT c.K) from op_catT) (pv 9) (pe_tup (pa_cons (pv 6) pa_nil)))))))
    (pss_cons (ps_set (i := 11) sc_l_closed.nd rfl (Or.inl rfl) (pe_cal G.law_bad_from (hr.mono (by decide)) pass0 (pa_cons (pv 2) (pa_cons (pv 10) (pa_cons (pe_callB call_len_seq (by rfl) B.len (by decide +kernel) (pa_cons (pv 4) pa_nil)) pa_nil)))))
    (pss_cons (ps_set (i := 12) sc_l_closed.nd rfl (Or.inl rfl) (pe_cal G.law_done (hr.mono (by decide)) pass0 (pa_cons pe_int (pa_cons (pv 1) (pa_cons (pe_tup (pa_cons pe_str (pa_cons (pv 6) pa_nil))) pa_nil)))))
    (pss_cons (ps_if (pt_cmpR op_notN (pv 11) pe_non (nomark _))
      (pss_cons (ps_expr (pe_met T.cl G.drop_ (hr.mono (by decide)) (passE takes0) (pv 1) (pa_cons pe_str pa_nil)))
      (pss_cons (ps_if (pt_cmpR (op_neS hu0) (pv 12) (pe_tup (pa_cons pe_str (pa_cons (pe_op op_sub (pv 11) (pe_callB call_len_seq (by rfl) B.len (by decide +kernel) (pa_cons (pv 4) pa_nil))) pa_nil))) (nomark _))
        (pss_one (ps_ret pe_non))
        pss_nil)
      (pss_one (ps_ret (pe_tup (pa_cons pe_str (pa_cons (pv 4) pa_nil)))))))
      pss_nil)
    (pss_cons (ps_if (PW.pt (pw_or (pt_cmpR (op_neS hu0) (pv 12) (pe_tup (pa_cons pe_str (pa_cons (pe_callB call_len_seq (by rfl) B.len (by decide +kernel) (pa_cons (pv 7) pa_nil)) pa_nil))) (nomark _)) (pw_or1 (pt_cmpR (op_neS hu0) (pe_cal G.law_done (hr.mono (by decide)) pass0 (pa_cons pe_int (pa_cons (pv 1) (pa_cons (pe_tup (pa_cons pe_str pa_nil)) pa_nil)))) (pe_tup (pa_cons pe_str (pa_cons pe_str pa_nil))) (nomark _)))))
      (pss_one (ps_ret pe_non))
      pss_nil)
    (pss_one (ps_ret (pe_tup (pa_cons pe_str (pa_cons (pv 10) pa_nil))))))))))))), ?_⟩
    have hM := W.M
    refine ⟨_, rfl, a.o, a.dx, _, rfl, hM.o, rfl, B0, A, a, S, .str "one", rfl, hM, str_ok (by decide), by rw [hps]; decide, fun z t l A1 H1 ez hn en fr iffA M1 => ?_, fun d x H1 ed => ?_, fun x H1 en => by cases en⟩
    rotate_left
    · have : S.find "one" = none := by unfold OS.find; rw [hps]; rfl
      have ed : S.find "one" = some d := ed
      rw [this] at ed; cases ed
    cases ez
    obtain ⟨W1, l1⟩ := W.office fr M1
    have eS1 : ({ S with ps := S.ps ++ [⟨"one", t, l, S.cl, []⟩] } : OS) = mkS S t l [] := by unfold mkS; rw [hps]; rfl
    rw [eS1] at W1
    refine ⟨(by show 0 ≤ sizeLine; decide), fun q0 nq0 => ?_⟩
    obtain ⟨W2, l2⟩ := W1.own (o := .lst []) nq0 trivial
    have l12 := l1.trans l2
    have hq00 : H q0 = none := by
      cases e : H q0 with
      | none => rfl
      | some u => exact absurd nq0 (l1.alive q0 (by rw [e]; exact fun z => nomatch z))
    have hq2 : (upd H1 q0 (.lst [])) q0 = some (.lst []) := upd_same
    have nA1 : ¬ A1 q0 := fun z => (W1.M.free nq0) (W1.M.AB _ z)
    have n0p : q0 ≠ p := fun z => W1.pool.ne.1 (z ▸ nq0)
    have n0s : q0 ≠ s0 := fun z => W1.pool.ne.2 (z ▸ nq0)
    generalize (upd H1 q0 (.lst [])) = H2 at W2 l2 l12 hq2 ⊢
    generalize hB2 : (fun x => uni B0 A1 x ∨ x = q0) = B2 at W2 l2 l12
    have bq2 : B2 q0 := by rw [← hB2]; exact .inr rfl
    have gS := Good.eq (show Good S.L S.xs from by
      obtain ⟨_, _, _, _, _, _, _, _, h, _⟩ := W.M.jr
      exact h)
    obtain ⟨SK, hSK⟩ := gS
    have okx : ∀ x ∈ S.xs, x.ok := hF.E.ok
    have hpos := kn_pos hSK okx (fun id h => absurd rfl h)
    refine ⟨_, rfl, p, s0, 4, rfl, W2.pool, (by decide), (by decide), fun d H3 d0 d4 P3 => ⟨d, rfl, by omega, by omega, ?_⟩⟩
    obtain ⟨W3, l3⟩ := W2.draw P3
    have hq3 := P3.keep hq2 n0p
    have l13 := l12.trans l3
    refine for_range (n := d.toNat) (fun k σ H4 => ∃ (B4 A4 : Addr → Prop) (us : List V) (es : List Ent), (∃ x1 x2 x3 x4 x5, σ = [some (.ref p), some (.ref a.o), some (.ref dl), some (.ref dk), some (.ref de), some (.int number), some (.int now), some (.ref q0), x1, x2, x3, x4, x5]) ∧ LW c B4 A4 H4 a (mkS S t l es) p s0 ∧ Lst p B0 A H B4 A4 H4 ∧ B4 q0 ∧ ¬ A4 q0 ∧ H4 q0 = some (.lst us) ∧ DEnts (cutH B4 H4) us es ∧ es.length = k ∧ ∀ x ∈ es, DOk S.L x) ?_ ?_ ?_
    · exact ⟨B2, A1, [], [], ⟨_, _, _, _, _, rfl⟩, W3, l13, bq2, nA1, hq3, ⟨rfl, fun _ _ _ e => nomatch e⟩, rfl, fun _ h => nomatch h⟩
    · rintro i σ H4 hi ⟨B4, A4, us, es, ⟨x1, x2, x3, x4, x5, rfl⟩, W4, l4, bq, nA, hq, hD, hlen, hok⟩
      have F4 := hF.go l4.cut
      have up : ∀ {q u}, cutH B4 H4 q = some u → H4 q = some u := fun h => cut_same _ _ _ _ h
      refine ⟨_, rfl, _, rfl, _, rfl, _, rfl, _, rfl, _, rfl, _, _, rfl, rfl, _, rfl, p, s0, dl, dk, de, S.L, ks, usd, S.xs, SK, number + (0 + (i : Int)), now, rfl, W4.pool, up F4.dl, F4.LL, up F4.dk, F4.k1, F4.k2, F4.kn, up F4.de, F4.E.same (cut_same _ _), by have := hN.xs; omega, hSK, hpos, by omega, fun ex x H5 hdx okx hid P5 => ?_⟩
      obtain ⟨W5, l5⟩ := W4.draw P5
      have l45 := l4.trans l5
      have hq5 := P5.keep hq n0p
      have hD5 := hD.same l5.cut
      refine ⟨_, rfl, _, rfl, a, _, .str "one", ex, x, rfl, W5.M.o, hdx, fun H6 s6 => ?_⟩
      obtain ⟨W6, l6⟩ := W5.same s6
      have l46 := l45.trans l6
      have ok0 := okx.at0 0
      have i3 : es.length < 20 := by omega
      refine called_put W6.M (str_ok (by decide)) ok0.1 ⟨fun d' H7 ed h20 hin fr M7 => ?_, fun d' e' H7 ed hb => ?_, fun e' H7 en => ?_⟩
      · have ed : (mkS S t l es).find "one" = some d' := ed
        rw [mkS_find] at ed
        cases ed
        rw [mkS_put] at M7
        obtain ⟨W7, l7⟩ := W6.office fr M7
        intro t8 n8
        obtain ⟨W8, l8⟩ := W7.same (sameAt (o := .tup [.str "told", .non]) (Same.refl H7) n8)
        have l48 := (l46.trans l7).trans l8
        have kq : ∀ {u}, H6 q0 = some u → H7 q0 = some u := fun h => fr.k _ _ h nA
        have hq8 := (sameAt (o := .tup [.str "told", .non]) (Same.refl H7) n8) _ _ (kq (s6 _ _ hq5))
        have hD8 := hD5.same ((l6.trans l7).trans l8).cut
        have he8 : DAt (upd H7 t8 (.tup [.str "told", .non])) ex x := (sameAt (o := .tup [.str "told", .non]) (Same.refl H7) n8) _ _ (fr.k _ _ (s6 _ _ hdx) fun z => W5.M.tup hdx (W5.M.AB _ z))
        refine ⟨_, rfl, .inl ⟨rfl, _, SqL.of hq8⟩, _, rfl, q0, _, _, rfl, rfl, hq8, small1000 (by have := hD.1; omega), ?_⟩
        obtain ⟨W9, c9⟩ := W8.set (q := q0) (o := .lst (us ++ [.ref ex])) (.inl bq) nA n0p n0s trivial
        refine ⟨uni B4 A4, A4, us ++ [.ref ex], es ++ [x.at_ 0], ⟨_, _, _, _, _, rfl⟩, W9, ⟨l48.sub, l48.cut.trans c9, fun q u hq' n1 n2 => ?_, l48.gA, l48.gB, fun q hq' => ?_⟩, .inl bq, nA, upd_same, (hD8.same c9).snoc (W9.tup ?_) ok0.1, by rw [List.length_append, hlen]; rfl, fun y hy => ?_⟩
        · rw [upd_ne (ne_of_none hq' hq00)]
          exact l48.k q u hq' n1 n2
        · by_cases z : q = q0
          · rw [z, upd_same]; exact fun z => nomatch z
          · rw [upd_ne z]; exact l48.alive q hq'
        · have h0 : (upd H7 t8 (.tup [.str "told", .non])) ex = some (.tup (x.at_ 0).vs.dropLast) := he8.at0
          rw [upd_ne (fun z => by rw [z, hq8] at h0; cases h0)]
          exact h0
        · rcases List.mem_append.mp hy with hy | hy
          · exact hok y hy
          · rw [List.mem_singleton.mp hy]; exact okx.at0 0
      · have ed : (mkS S t l es).find "one" = some d' := ed
        rw [mkS_find] at ed
        cases ed
        rcases hb with hb | hb
        · exact absurd hb (by show ¬ es.length = 20; omega)
        · exact absurd (okx.at0 0).inB hb
      · have en : (mkS S t l es).find "one" = none := en
        rw [mkS_find] at en
        cases en
    · rintro σ H4 ⟨B4, A4, us, es, ⟨x1, x2, x3, x4, x5, rfl⟩, W4, l4, bq, nA, hq, hD, hlen, hok⟩
      have F4 := hF.go l4.cut
      have up : ∀ {q u}, cutH B4 H4 q = some u → H4 q = some u := fun h => cut_same _ _ _ _ h
      have hD4 := hD.same (cut_same _ _)
      have e3 : es.length ≤ 3 := by omega
      refine ⟨_, rfl, _, rfl, q0, rfl, ⟨_, SqL.of hq⟩, fun D hD0 => ?_⟩
      refine lc_list (a := q0) (xs := us) (fun i H5 => ∃ us', H5 D = some (.lst us') ∧ WithN H5 us' (es.take i) (.int now) ∧ Same H4 H5) ⟨[], upd_same, ⟨rfl, fun _ _ _ e => nomatch e⟩, sameAt (Same.refl _) hD0⟩ (fun i H5 _ hv => by obtain ⟨_, _, _, h⟩ := hv; exact SqL.of (h _ _ hq)) ?_ ?_
      · rintro i v H5 hvi ⟨us', hD5, hW, s5⟩
        have hil := (List.getElem?_eq_some_iff.mp hvi).1
        obtain ⟨x, hx⟩ : ∃ x, es[i]? = some x := ⟨_, List.getElem?_eq_getElem (by rw [← hD.1]; exact hil)⟩
        obtain ⟨e1, rfl, he, ok⟩ := hD4.2 i v x hvi hx
        have he5 : H5 e1 = some (.tup x.vs.dropLast) := s5 _ _ he
        refine ⟨rfl, _, rfl, _, rfl, (by show 1 ≤ sizeLine; decide), fun t1 nt1 => ?_⟩
        have s6 : Same H5 (upd H5 t1 (.tup [.int now])) := sameAt (Same.refl _) nt1
        have ne1 : x.vs.dropLast ≠ [] := by cases x <;> exact fun z => nomatch z
        refine ⟨e1, t1, _, _, rfl, rfl, SqT.of (s6 _ _ he5), SqT.of upd_same, ne1, (by have := vs_lenW x (.int now); rw [List.length_append] at this; exact this), (fun z => nomatch z), fun _ t2 nt2 => ?_⟩
        have s7 : Same (upd H5 t1 (.tup [.int now])) (upd (upd H5 t1 (.tup [.int now])) t2 (.tup (x.vs.dropLast ++ [.int now]))) := sameAt (Same.refl _) nt2
        have s57 := s6.trans s7
        have hul : us'.length ≤ 3 := by
          have := hW.1
          rw [List.length_take] at this
          omega
        have h2 : (upd (upd H5 t1 (.tup [.int now])) t2 (.tup (x.vs.dropLast ++ [.int now]))) t2 = some (.tup (x.vs.dropLast ++ [.int now])) := upd_same
        generalize (upd (upd H5 t1 (.tup [.int now])) t2 (.tup (x.vs.dropLast ++ [.int now]))) = H7 at s57 h2 ⊢
        have hD7 := s57 _ _ hD5
        refine ⟨us', hD7, small1000 (by omega), us' ++ [.ref t2], upd_same, ?_, sameAt (s5.trans s57) hD0⟩
        rw [list_take' hx]
        have s8 : ∀ (k : Addr) (xs : List V), H7 k = some (.tup xs) → (upd H7 D (.lst (us' ++ [V.ref t2]))) k = some (.tup xs) := fun k xs h => by
          rw [upd_ne (fun z => by rw [z, hD7] at h; cases h)]
          exact h
        refine WithN.snoc ⟨hW.1, fun k v y a b => ?_⟩ (s8 _ _ h2) ok
        obtain ⟨e', h1, h2, h3⟩ := hW.2 k v y a b
        exact ⟨e', h1, s8 _ _ (s57 _ _ h2), h3⟩
      · rintro H5 ⟨us', hD5, hW, s5⟩
        rw [List.take_of_length_le (by rw [hD.1]; exact Nat.le_refl _)] at hW
        obtain ⟨W5, l5⟩ := W4.same s5
        have F5 := F4.go l5.cut
        have hdl := F5.E.1
        have hul : us'.length = es.length := hW.1
        have hxs := hN.xs
        refine ⟨de, D, _, _, rfl, rfl, cut_same _ _ _ _ F5.de, hD5, Nat.le_of_lt (small1000 (by omega)), fun wp nwp => ?_⟩
        obtain ⟨W6, l6⟩ := W5.same (sameAt (o := .lst (usd ++ us')) (Same.refl H5) nwp)
        have F6 := F5.go l6.cut
        have hwp : (upd H5 wp (.lst (usd ++ us'))) wp = some (.lst (usd ++ us')) := upd_same
        have cwp : cutH B4 (upd H5 wp (.lst (usd ++ us'))) wp = some (.lst (usd ++ us')) := cut_at (W5.M.free nwp) hwp
        have l46 := (l4.trans l5).trans l6
        have hq6 := (sameAt (o := .lst (usd ++ us')) (Same.refl H5) nwp) _ _ (s5 _ _ hq)
        have EW : Ents (cutH B4 (upd H5 wp (.lst (usd ++ us')))) (usd ++ us') (S.xs ++ es.map (·.at_ now)) := by
          refine F6.E.append ?_
          have he := hW.ents
          refine ⟨he.1, fun i v x a b => ?_⟩
          obtain ⟨p1, z1, z2, z3⟩ := he.2 i v x a b
          exact ⟨p1, z1, l6.cut _ _ (W5.tup z2), z3⟩
        generalize (upd H5 wp (.lst (usd ++ us'))) = H6 at W6 l6 l46 F6 hwp cwp hq6 EW ⊢
        have up6 : ∀ {q u}, cutH B4 H6 q = some u → H6 q = some u := fun h => cut_same _ _ _ _ h
        have lw : (S.xs ++ es.map (·.at_ now)).length = S.xs.length + es.length := by rw [List.length_append, List.length_map]
        refine ⟨_, rfl, _, rfl, _, rfl, de, usd, rfl, .inl (SqL.of (up6 F6.de)), dl, wp, S.L, usd ++ us', S.xs ++ es.map (·.at_ now), usd.length, rfl, up6 F6.dl, hwp, EW.same (cut_same _ _), by omega, by omega, ⟨SK, by rw [hdl, List.take_left]; exact hSK⟩, ?_, fun H7 s7 => ?_⟩
        · intro x hx
          rcases List.mem_append.mp hx with hx | hx
          · exact wk_rows hSK x hx
          · obtain ⟨y, hy, rfl⟩ := List.mem_map.mp hx
            exact ((hok y hy).at0 now).inB
        obtain ⟨W7, l7⟩ := W6.same s7
        have l47 := l46.trans l7
        have F7 := F6.go l7.cut
        have hq7 := s7 _ _ hq6
        have cw7 := l7.cut _ _ cwp
        have EW7 := EW.same l7.cut
        refine ⟨_, rfl, _, rfl, (by show 2 ≤ sizeLine; decide), fun g ng => ?_⟩
        obtain ⟨W8, l8⟩ := W7.same (sameAt (o := .tup [.str "one", .int now]) (Same.refl H7) ng)
        have l48 := l47.trans l8
        have F8 := F7.go l8.cut
        have hq8 := (sameAt (o := .tup [.str "one", .int now]) (Same.refl H7) ng) _ _ hq7
        have cw8 := l8.cut _ _ cw7
        have EW8 := EW7.same l8.cut
        refine ⟨a, _, 6, g, _, rfl, W8.M.o, upd_same, ?_⟩
        generalize (upd H7 g (.tup [.str "one", .int now])) = H8 at W8 l8 l48 F8 hq8 cw8 EW8 ⊢
        have st : stale (mkS S t l es) ⟨"one", t, l, S.cl, es⟩ = none := no_stale hN.cb
        refine .inr (.inr (.inr (.inr (.inr (.inr (.inl ⟨rfl, .str "one", .int now, rfl, B4, A4, a, mkS S t l es, .str "one", .int now, rfl, W8.M, str_ok (by decide), .inl ⟨now, rfl⟩, Nat.le_trans hN.past (by decide), fun e' H9 en => ?_, fun d' e' H9 ed ni => (int_is ni).elim, fun d' n m e' H9 ed er sm => ?_, fun d' n i e' H9 ed er _ hb s9 hx9 => ?_, fun d' n us2 j' H9 ed er _ gd x4 fr M9 => ?_⟩))))))
        · have en : (mkS S t l es).find "one" = none := en
          rw [mkS_find] at en; cases en
        · have ed : (mkS S t l es).find "one" = some d' := ed
          rw [mkS_find] at ed; cases ed
          rw [st] at sm; cases sm
        · have ed : (mkS S t l es).find "one" = some d' := ed
          rw [mkS_find] at ed; cases ed
          cases er
          have hb : JBad S.L S.xs (es.map (·.at_ now)) i := hb
          have hw := jb_bad hb (by rw [List.length_map]; omega)
          refine .inl ⟨e.CE, "entry", "at", e', .int (i : Int), (by simp [Errs.tab]), rfl, rfl, hx9, fun t9 n9 => ?_⟩
          have hw : (wk S.L (List.map some (S.xs ++ es.map (·.at_ now))) 0 (fun _ => none) none).1 = some (S.xs.length + i) := hw
          rw [hw]
          obtain ⟨W9, l9⟩ := W8.same (s9.trans (sameAt (o := .tup [.str "entry", .int (i : Int)]) (Same.refl H9) n9))
          have l49 := l48.trans l9
          have ht9 : (upd H9 t9 (.tup [.str "entry", .int (i : Int)])) t9 = some (.tup [.str "entry", .int (i : Int)]) := upd_same
          generalize (upd H9 t9 (.tup [.str "entry", .int (i : Int)])) = HA at W9 l9 l49 ht9 ⊢
          refine ⟨_, rfl, rfl, _, rfl, iteT ?_⟩
          refine ⟨_, rfl, a.o, a.dx, _, rfl, W9.M.o, rfl, B4, A4, a, mkS S t l es, .str "one", rfl, W9.M, str_ok (by decide), fun d' HB ed fr MB => ?_, fun e' HB en => ?_⟩
          rotate_left
          · have en : (mkS S t l es).find "one" = none := en
            rw [mkS_find] at en; cases en
          have ed : (mkS S t l es).find "one" = some d' := ed
          rw [mkS_find] at ed
          cases ed
          rw [mkS_drop] at MB
          have htB := fr.k _ _ ht9 fun z => W9.M.tup ht9 (W9.M.AB _ z)
          obtain ⟨WB, lB⟩ := W9.office fr MB
          have l4B := l49.trans lB
          have FB := hF.go l4B.cut
          have hdeB := cut_same _ _ _ _ FB.de
          refine ⟨_, rfl, _, rfl, _, rfl, de, usd, rfl, .inl (SqL.of hdeB), _, _, rfl, rfl, (by show 2 ≤ sizeLine; decide), fun tC nC => ?_⟩
          have eI : (fun i j : Int => V.int (i - j)) ((S.xs.length + i : Nat) : Int) (usd.length : Int) = V.int (i : Int) := by
            show V.int (((S.xs.length + i : Nat) : Int) - (usd.length : Int)) = _
            congr 1
            omega
          rw [eI]
          obtain ⟨WC, lC⟩ := WB.same (sameAt (o := .tup [.str "entry", .int (i : Int)]) (Same.refl HB) nC)
          refine ⟨seqs ((sameAt (o := .tup [.str "entry", .int (i : Int)]) (Same.refl HB) nC) _ _ htB) upd_same (fl_str _) (fl_int _), _, rfl, iteF ?_⟩
          refine ⟨_, rfl, (by show 2 ≤ sizeLine; decide), fun tD nD => ?_⟩
          obtain ⟨WD, lD⟩ := WC.same (sameAt (o := .tup [.str "refused", .ref de]) (Same.refl _) nD)
          exact q _ _ _ a _ tD WD ((l4B.trans lC).trans lD) rfl rfl ⟨hN.cb, Nat.le_succ _, Nat.le_add_right _ _⟩ rfl (.inl ⟨rfl, rfl, upd_same⟩)
        · have ed : (mkS S t l es).find "one" = some d' := ed
          rw [mkS_find] at ed; cases ed
          cases er
          have gd : (wk S.L (List.map some (S.xs ++ es.map (·.at_ now))) 0 (fun _ => none) none).1 = none := gd
          intro t9 n9
          rw [gd]
          obtain ⟨W8', l8'⟩ := W8.office fr M9
          obtain ⟨W9, l9⟩ := W8'.same (sameAt (o := .tup [.str "told", .int (es.length : Int)]) (Same.refl H9) n9)
          have l49 := (l48.trans l8').trans l9
          have ht9 : (upd H9 t9 (.tup [.str "told", .int (es.length : Int)])) t9 = some (.tup [.str "told", .int (es.length : Int)]) := upd_same
          have cw9 := l9.cut _ _ (l8'.cut _ _ cw8)
          have EW9 := (EW8.same l8'.cut).same l9.cut
          have hq9 : (upd H9 t9 (.tup [.str "told", .int (es.length : Int)])) q0 = some (.lst us) := (sameAt (o := .tup [.str "told", .int (es.length : Int)]) (Same.refl H9) n9) _ _ (fr.k _ _ hq8 nA)
          generalize (upd H9 t9 (.tup [.str "told", .int (es.length : Int)])) = HA at W9 l9 l49 ht9 cw9 EW9 hq9 ⊢
          have hdu := hD.1
          refine ⟨_, rfl, rfl, _, rfl, iteF ?_⟩
          refine ⟨_, rfl, _, rfl, q0, us, rfl, .inl (SqL.of hq9), (by show 2 ≤ sizeLine; decide), fun tB nB => ?_⟩
          rw [hdu]
          obtain ⟨WB, lB⟩ := W9.same (sameAt (o := .tup [.str "told", .int (es.length : Int)]) (Same.refl HA) nB)
          refine ⟨seqs ((sameAt (o := .tup [.str "told", .int (es.length : Int)]) (Same.refl HA) nB) _ _ ht9) upd_same (fl_str _) (fl_int _), _, rfl, iteF ?_⟩
          refine ⟨_, rfl, (by show 1 ≤ sizeLine; decide), fun gC nC => ?_⟩
          obtain ⟨WC, lC⟩ := WB.same (sameAt (o := .tup [.str "one"]) (Same.refl _) nC)
          refine ⟨{ a with j := j' }, _, 7, gC, _, rfl, WC.M.o, upd_same, ?_⟩
          refine .inr (.inr (.inr (.inr (.inr (.inr (.inr ⟨rfl, .str "one", [], rfl, _, _, _, _, .str "one", rfl, WC.M, str_ok (by decide), fun d' l' us' H' ed => ?_, fun e' HD en sD hxD => ?_⟩))))))
          · have ed : ((mkS S t l es).closed ⟨"one", t, l, S.cl, es⟩ now us2).find "one" = some d' := ed
            simp [OS.closed, OS.find, mkS_drop] at ed
          refine .inl ⟨e.CI, "idle", "writer", e', .str "one", (by simp [Errs.tab]), rfl, rfl, hxD, fun tD nD => ?_⟩
          obtain ⟨WD, lD⟩ := WC.same (sD.trans (sameAt (o := .tup [.str "idle", .str "one"]) (Same.refl HD) nD))
          refine ⟨(by show 2 ≤ sizeLine; decide), fun tE nE => ?_⟩
          obtain ⟨WE, lE⟩ := WD.same (sameAt (o := .tup [.str "idle", .str "one"]) (Same.refl _) nE)
          refine ⟨seqs ((sameAt (o := .tup [.str "idle", .str "one"]) (Same.refl _) nE) _ _ upd_same) upd_same (fl_str _) (fl_str _), _, rfl, iteF ?_⟩
          refine ⟨_, rfl, (by show 2 ≤ sizeLine; decide), fun tF nF => ?_⟩
          obtain ⟨WF, lF⟩ := WE.same (sameAt (o := .tup [.str "closed", .ref wp]) (Same.refl _) nF)
          have lall := ((((l49.trans lB).trans lC).trans lD).trans lE).trans lF
          have lfin := (((lB.trans lC).trans lD).trans lE).trans lF
          refine q _ _ _ _ _ tF WF lall rfl ?_ ⟨?_, ?_, ?_⟩ rfl (.inr ⟨wp, usd ++ us', rfl, lfin.cut _ _ cw9, EW9.same lfin.cut, ?_, upd_same⟩)
          · show ((mkS S t l es).dropd "one").ps = []
            rw [mkS_drop]
          · intro b hb
            have hb : b ∈ S.cb ++ List.replicate es.length (S.cl + 1) := hb
            show b ≤ S.cl + 1
            rcases List.mem_append.mp hb with hb | hb
            · have := hN.cb b hb
              omega
            · rw [(List.mem_replicate.mp hb).2]
              omega
          · show (S.past ++ [S.xs.length]).length ≤ _
            rw [List.length_append]
            exact Nat.le_refl _
          · show (S.xs ++ es.map _).length ≤ _
            rw [lw]
            omega
          · exact List.take_left
end
end Ash

set_option Elab.async false
set_option linter.all false
set_option maxRecDepth 100000
set_option maxHeartbeats 4000000
set_option pp.maxSteps 1500
namespace Ash
open PySem PySem.Spec PyProof.Rows L2
open C8 (pss_cut)
/-! ### the law -/
theorem nl_cut {B : Addr → Prop} {H : Hp} {q : Addr} {u : HO} (hB : ∀ x, B x → ∃ xs, H x = some (.lst xs)) (h : H q = some u) (hu : ∀ xs, u ≠ .lst xs) : cutH B H q = some u :=
  cut_at (fun b => by
    obtain ⟨xs, e⟩ := hB q b
    rw [h] at e
    exact hu xs (Option.some.inj e)) h
theorem BookAt.cutL {CB : Addr} {B : Addr → Prop} {H : Hp} {b : Addr} {L : List (Str × Int)} (hB : ∀ x, B x → ∃ xs, H x = some (.lst xs)) (h : BookAt CB H b L) : BookAt CB (cutH B H) b L := by
  obtain ⟨dx, d, L', h1, h2, h3⟩ := h
  exact ⟨dx, d, L', nl_cut hB h1 (fun xs z => nomatch z), nl_cut hB h2 (fun xs z => nomatch z), h3⟩
theorem Ents.cutL {B : Addr → Prop} {H : Hp} {us : List V} {xs : List Ent} (hB : ∀ x, B x → ∃ xs, H x = some (.lst xs)) (h : Ents H us xs) : Ents (cutH B H) us xs := ⟨h.1, fun i v x a b => by
  obtain ⟨e, h1, h2, h3⟩ := h.2 i v x a b
  exact ⟨e, h1, nl_cut hB h2 (fun xs z => nomatch z), h3⟩⟩
theorem JAt.cutL {K : PySem.W.Frag} {aT CJ CB : Addr} {B : Addr → Prop} {H : Hp} {j b : Addr} {L : List (Str × Int)} {us : List V} {xs : List Ent} (hB : ∀ x, B x → ∃ xs, H x = some (.lst xs)) (h : JAt K aT CJ CB H j b L us xs) : JAt K aT CJ CB (cutH B H) j b L us xs := by
  obtain ⟨dx, t, kd, h1, h2, h3, h4, h5, h6, h7⟩ := h
  refine ⟨dx, t, kd, nl_cut hB h1 (fun xs z => nomatch z), h2.cutL hB, ?_, h4, fun i v x a b => ?_, h6, ?_⟩
  · rcases h3 with (h | ⟨o, h⟩) | h
    · exact .inl (.inl (nl_cut hB h (fun xs z => nomatch z)))
    · exact .inl (.inr ⟨o, nl_cut hB h (fun xs z => nomatch z)⟩)
    · exact .inr h
  · obtain ⟨e, q1, q2, q3⟩ := h5 i v x a b
    exact ⟨e, q1, nl_cut hB q2 (fun xs z => nomatch z), q3⟩
  · obtain ⟨kvs, q1, q2, q3⟩ := h7
    refine ⟨kvs, nl_cut hB q1 (fun xs z => nomatch z), q2, fun id => ?_⟩
    have := q3 id
    cases ev : valV kvs (Sum.inl id) with
    | none => rw [ev] at this; cases eo : (wk L (xs.map some) 0 (fun _ => none) none).2 id <;> (rw [eo] at this; exact this)
    | some v =>
      rw [ev] at this
      cases eo : (wk L (xs.map some) 0 (fun _ => none) none).2 id with
      | none => rw [eo] at this; exact this
      | some r =>
        rw [eo] at this
        cases r with
        | tb => exact this
        | at_ z k m am =>
          obtain ⟨t, e1, e2⟩ := this
          exact ⟨t, e1, nl_cut hB e2 (fun xs z => nomatch z)⟩
theorem JAt.ents {K : PySem.W.Frag} {aT CJ CB : Addr} {H : Hp} {j b : Addr} {L : List (Str × Int)} {us : List V} {xs : List Ent} (h : JAt K aT CJ CB H j b L us xs) : Ents H us xs := by
  obtain ⟨dx, t, kd, h1, h2, h3, h4, h5, h6, h7⟩ := h
  exact ⟨h4, fun i v x a b => h5 i v x a b⟩
theorem mkJN {K : PySem.W.Frag} {aT CJ CB CE b : Addr} {L : List (Str × Int)} {H' : Hp} {a' : Addr} {us' : List V} {xs : List Ent} {S : Kn} {x dx' : Addr} (hb : BookAt CB H' b L) (ha : H' a' = some (.lst us')) (he : Ents H' us' xs) (hl : xs.length ≤ 400) (hw : wk L (xs.map some) 0 (fun _ => none) none = (none, S)) (nx : H' x = none) (ndx : H' dx' = none) (nex : dx' ≠ x) {Qj : Hp → Prop} (hq : ∀ H2, Same H' H2 → JAt K aT CJ CB H2 x b L us' xs → Qj H2) :
    spJInit K aT CJ CB CE [.ref x, .ref b, .ref a'] (upd (upd H' dx' (.own x)) x (.ins CJ dx' [])) (fun v H2 => v = .non ∧ Qj H2) (fun _ _ _ => False) := by
  have sX : Same H' (upd (upd H' dx' (.own x)) x (.ins CJ dx' [])) := (sameAt (Same.refl _) ndx).trans (sameAt (Same.refl _) (by rw [upd_ne (Ne.symm nex)]; exact nx))
  refine ⟨x, dx', b, a', L, us', xs.map some, rfl, upd_same, hb.same sX, .inl (sX _ _ ha), by rw [he.1]; exact hl, by rw [List.length_map]; exact he.1, fun i v o hi ho => ?_, fun H2 ys hys hw2 hJ _ kk => ⟨rfl, ?_⟩, fun i d H2 hw2 _ _ => ?_⟩
  · rw [List.getElem?_map] at ho
    cases ex : xs[i]? with
    | none => rw [ex] at ho; cases ho
    | some y =>
      rw [ex] at ho
      cases ho
      exact (he.same sX).2 i v y hi ex
  · have ey : ys = xs := (List.map_inj_right (fun a b h => Option.some.inj h)).mp hys.symm
    subst ey
    exact hq H2 (mk_same nx ndx kk) hJ
  · rw [hw] at hw2
    cases hw2
theorem sqL_same {K : PySem.W.Frag} {H H' : Hp} {a : Addr} {xs : List V} (h : SqL K H a xs) (s : Same H H') : SqL K H' a xs := by
  rcases h with (h | ⟨o, h⟩) | h
  · exact .inl (.inl (s _ _ h))
  · exact .inl (.inr ⟨o, s _ _ h⟩)
  · exact .inr h
theorem ent_arr (x : Ent) : atI x.vs ((x.vs.length : Int) - 1) = some (.int x.arr) := by cases x <;> rfl
theorem seqs1 {K : PySem.W.Frag} {H : Hp} {a b : Addr} {x : V} (ha : H a = some (.tup [x])) (hb : H b = some (.tup [x])) (fx : flatV x = true ∧ eqV x x = true) : SeqS K H (.ref a) (.ref b) :=
  ⟨a, b, [x], [x], rfl, rfl, SqT.of ha, SqT.of hb, rfl, fun i u v hu hv => by
    rw [hu] at hv
    cases hv
    match i, hu with
    | 0, hu => cases hu; exact .inl ⟨fx.1, fx.1, fx.2⟩⟩
theorem fl_non : flatV .non = true ∧ eqV .non .non = true := ⟨rfl, by simp [eqV]⟩
/-- the law's stack -/
def Stk (S : OS) (stk : List (Addr × List V × List Ent)) : Prop := stk.map (fun x => x.2.2) = S.past.map (fun n => S.xs.take n) ++ [S.xs]
def StkAt (B : Addr → Prop) (H : Hp) (stk : List (Addr × List V × List Ent)) : Prop := ∀ x ∈ stk, cutH B H x.1 = some (.lst x.2.1) ∧ Ents (cutH B H) x.2.1 x.2.2
theorem Stk.len {S : OS} {stk : List (Addr × List V × List Ent)} (h : Stk S stk) : stk.length = S.past.length + 1 := by
  have := congrArg List.length h
  rw [List.length_map, List.length_append, List.length_map] at this
  exact this
theorem Stk.last {S : OS} {stk : List (Addr × List V × List Ent)} (h : Stk S stk) : ∃ d usd, stk[stk.length - 1]? = some (d, usd, S.xs) := by
  have hl := h.len
  have e : (stk.map fun x => x.2.2)[stk.length - 1]? = some S.xs := by
    rw [h, List.getElem?_append_right (by rw [List.length_map]; omega), List.length_map]
    rw [show stk.length - 1 - S.past.length = 0 by omega]
    rfl
  rw [List.getElem?_map] at e
  cases ex : stk[stk.length - 1]? with
  | none => rw [ex] at e; cases e
  | some x =>
    obtain ⟨d, usd, xs⟩ := x
    rw [ex] at e
    cases e
    exact ⟨d, usd, rfl⟩
theorem Stk.push {S S' : OS} {stk : List (Addr × List V × List Ent)} {d : Addr} {usd : List V} (h : Stk S stk) (hp : S'.past = S.past ++ [S.xs.length]) (ht : S'.xs.take S.xs.length = S.xs) (hs : (S.past ++ [S.xs.length]).Pairwise (· ≤ ·)) : Stk S' (stk ++ [(d, usd, S'.xs)]) := by
  unfold Stk at h ⊢
  rw [List.map_append, h, hp, List.map_append]
  show _ = (_ ++ [S'.xs.take S.xs.length]) ++ _
  rw [ht]
  congr 2
  refine List.map_congr_left fun n hn => ?_
  have : n ≤ S.xs.length := (List.pairwise_append.mp hs).2.2 n hn _ (List.mem_singleton.mpr rfl)
  rw [← ht, List.take_take, Nat.min_eq_left this]
theorem Stk.pop {S : OS} {stk : List (Addr × List V × List Ent)} {p : List Nat} {m : Nat} (h : Stk S stk) (ep : S.past = p ++ [m]) (hs : (S.past ++ [S.xs.length]).Pairwise (· ≤ ·)) : Stk (S.undone p m) stk.dropLast := by
  unfold Stk at h ⊢
  rw [List.map_dropLast, h, List.dropLast_concat, ep, List.map_append]
  show _ = p.map (fun n => (S.xs.take m).take n) ++ [S.xs.take m]
  congr 1
  refine List.map_congr_left fun n hn => ?_
  rw [ep] at hs
  have : n ≤ m := (List.pairwise_append.mp (List.pairwise_append.mp hs).1).2.2 n hn _ (List.mem_singleton.mpr rfl)
  rw [List.take_take, Nat.min_eq_left this]
theorem neD_ents {K : PySem.W.Frag} {H : Hp} {l d : Addr} {us1 us2 : List V} {xs : List Ent} {Q : VK} (hl : H l = some (.lst us1)) (E1 : Ents H us1 xs) (hd : H d = some (.lst us2)) (E2 : Ents H us2 xs) (q : Q (.bl false) H) : rNeD K (.ref l) (.ref d) H Q := by
  refine ⟨.list (xs.map Ent.data), .list (xs.map Ent.data), .lst (SqL.of hl) E1.dp, .lst (SqL.of hd) E2.dp, list_shaped E1.ok, list_shaped E1.ok, ?_⟩
  rw [SeqAt.eqv_refl _ (SeqAt.canLay_of_shaped (list_shaped E1.ok))]
  exact q
structure LInv (c : Cls6) (p s0 dl dk st o : Addr) (L : List (Str × Int)) (ks : List Str) (i : Nat) (B A : Addr → Prop) (H : Hp) (a : OA) (S : OS) (stk : List (Addr × List V × List Ent)) : Prop where
  W : LW c B A H a S p s0
  ao : a.o = o
  eL : S.L = L
  ps : S.ps = []
  N : Num S i (6 + 3 * i)
  dl : cutH B H dl = some (.dK (LK L))
  dk : cutH B H dk = some (.lst (ks.map V.str))
  bs : B st
  ns : ¬ A st
  hs : H st = some (.lst (stk.map fun x => V.ref x.1))
  sk : Stk S stk
  sa : StkAt B H stk
  stp : st ≠ p
  sts : st ≠ s0
theorem StkAt.go {B B' : Addr → Prop} {H H' : Hp} {stk : List (Addr × List V × List Ent)} (h : StkAt B H stk) (s : Same (cutH B H) (cutH B' H')) : StkAt B' H' stk := fun x hx => ⟨s _ _ (h x hx).1, (h x hx).2.same s⟩
theorem LInv.go {c : Cls6} {p s0 dl dk st o : Addr} {L : List (Str × Int)} {ks : List Str} {i : Nat} {B A B' A' : Addr → Prop} {H H' : Hp} {a : OA} {S : OS} {stk : List (Addr × List V × List Ent)} (I : LInv c p s0 dl dk st o L ks i B A H a S stk) (W : LW c B' A' H' a S p s0) (l : Lst p B A H B' A' H') : LInv c p s0 dl dk st o L ks i B' A' H' a S stk :=
  ⟨W, I.ao, I.eL, I.ps, I.N, l.cut _ _ I.dl, l.cut _ _ I.dk, l.sub _ I.bs, (fun z => (l.gA _ z).elim I.ns fun h => by rw [I.hs] at h; cases h), l.k _ _ I.hs I.ns I.stp, I.sk, I.sa.go l.cut, I.stp, I.sts⟩
theorem LInv.same {c : Cls6} {p s0 dl dk st o : Addr} {L : List (Str × Int)} {ks : List Str} {i : Nat} {B A : Addr → Prop} {H H' : Hp} {a : OA} {S : OS} {stk : List (Addr × List V × List Ent)} (I : LInv c p s0 dl dk st o L ks i B A H a S stk) (e : Same H H') : LInv c p s0 dl dk st o L ks i B A H' a S stk := I.go (I.W.same e).1 (I.W.same e).2
theorem LInv.up {c : Cls6} {p s0 dl dk st o : Addr} {L : List (Str × Int)} {ks : List Str} {i j : Nat} {B A : Addr → Prop} {H : Hp} {a : OA} {S : OS} {stk : List (Addr × List V × List Ent)} (I : LInv c p s0 dl dk st o L ks i B A H a S stk) (h : i ≤ j) : LInv c p s0 dl dk st o L ks j B A H a S stk :=
  ⟨I.W, I.ao, I.eL, I.ps, ⟨I.N.cb, Nat.le_trans I.N.past h, by have := I.N.xs; omega⟩, I.dl, I.dk, I.bs, I.ns, I.hs, I.sk, I.sa, I.stp, I.sts⟩
/-- the stack is changed -/
theorem LInv.set {c : Cls6} {p s0 dl dk st o : Addr} {L : List (Str × Int)} {ks : List Str} {i : Nat} {B A : Addr → Prop} {H : Hp} {a : OA} {S : OS} {stk' : List (Addr × List V × List Ent)} (W : LW c B A H a S p s0) (ao : a.o = o) (eL : S.L = L) (ps : S.ps = []) (N : Num S i (6 + 3 * i)) (dl_ : cutH B H dl = some (.dK (LK L))) (dk_ : cutH B H dk = some (.lst (ks.map V.str))) (bs : B st) (ns : ¬ A st) (stp : st ≠ p) (sts : st ≠ s0) (sk : Stk S stk') (sa : StkAt B H stk') :
    LInv c p s0 dl dk st o L ks i B A (upd H st (.lst (stk'.map fun x => V.ref x.1))) a S stk' := by
  obtain ⟨W', s⟩ := W.set (o := .lst (stk'.map fun x => V.ref x.1)) bs ns stp sts trivial
  exact ⟨W', ao, eL, ps, N, s _ _ dl_, s _ _ dk_, bs, ns, upd_same, sk, sa.go s, stp, sts⟩
def spLawN (K : PySem.W.Frag) : Sp := fun vs H Q _ => ∃ (a : Addr) (ns : List Int), vs = [.ref a] ∧ SqL K H a (ns.map V.int) ∧ ns.length ≤ 63 ∧ ∀ H', Q (.bl true) H'
section
variable {P : Program} {w : World} {mg : Str → Option Value} {base : Heap} {c : Cls6} {e : Errs}
structure GL (P : Program) (w : World) (mg : Str → Option Value) (base : Heap) (c : Cls6) (e : Errs) : Prop extends G3 P w c.K mg base where
  law_pool : Cal P w c.K mg base CX0 "_law_pool" 1 ["_law_script"] (spPool c.K)
  law_entries : Cal P w c.K mg base CX0 "_law_entries" 4 ["_law_pool_here", "_law_lates_here", "_law_keys", "_law_states_here", "_law_number", "_law_arrival", "_law_many"] spEntries
  law_done : Cal P w c.K mg base CX0 "_law_done" 13 ["_law_which", "_law_office", "_law_given"] (spDone c e)
  law_closed : Cal P w c.K mg base CX0 "_law_closed" 15 ["_law_pool_here", "_law_office", "_law_lates_here", "_law_keys", "_law_entries_here", "_law_number", "_law_now"] (spClosed72 c)
  Book : Mak P w c.K mg base CX0 "Book" c.CB 4 ["self", "lates"] (spBookInit c.CB)
  Journal : Mak P w c.K mg base (L2.CX P w) "Journal" c.CJ 7 ["self", "book", "entries"] (spJInit c.K c.aT c.CJ c.CB e.CE)
  Office : Mak P w c.K mg base (L2.CX P w) "Office" c.CO 4 ["self", "book", "journal"] (spOfInit c)
  writers : Met P w c.K mg base CX0 c.CO "writers" 1 ["self"] (spWritersO c)
  T : Co c.K mg c.CO
  TJ : Cj P c.K mg c.CJ c.CB
abbrev s_law : Stmt := topS 59
theorem sc_law : FnScope ["_law_script", "_law_pool_here", "_law_lates_here", "_law_keys", "_law_book", "_law_entries_here", "_law_office", "_law_now", "_law_stack", "_law_k", "_law_due", "_law_told"] ["_law_script"] (defScope s_law) := ⟨rfl, rfl, rfl, by decide +kernel, rfl, by decide +kernel, by decide +kernel⟩
theorem ok_law {f : Addr} {fd : FuncData} (F : Fun c.K "law" "law" s_law f fd) (B : Blt mg) (G : GL P w mg base c e) : FnOk P w c.K mg base CX0 16 f fd ["_law_script"] (spLawN c.K) := by
  have T := G.T
  have TJ := G.TJ
  refine F.ok sc_law (fun vs H Q E h => ?_) (fun cdv A0 outer s H vs Q E hr h => ?_)
  · obtain ⟨a, ns, rfl, _⟩ := h
    rfl
  · obtain ⟨a, ns, rfl, hS, hns, q⟩ := h
    have hu := hu_of hr
    have hu0 : (A0.deeper (envOfC "law" (defScope s_law) s.heap.objs.size f cdv)).units < cLine := by omega
    refine ⟨_, (pss_cons (ps_set (i := 1) sc_law.nd rfl (Or.inl rfl) (pe_cal G.law_pool (hr.mono (by decide)) pass0 (pa_cons (pv 0) pa_nil)))
    (pss_cons (ps_set (i := 2) sc_law.nd rfl (Or.inl rfl) (pe_cal G.law_lates (hr.mono (by decide)) pass0 (pa_cons (pv 1) pa_nil)))
    (pss_cons (ps_set (i := 3) sc_law.nd rfl (Or.inl rfl) (pe_cal G.law_names (hr.mono (by decide)) pass0 (pa_cons (pv 1) (pa_cons (pe_op op_add pe_int (pe_cal G.law_draw (hr.mono (by decide)) pass0 (pa_cons (pv 1) (pa_cons pe_int pa_nil)))) pa_nil))))
    (pss_cons (ps_set (i := 4) sc_law.nd rfl (Or.inl rfl) (pe_mak G.Book (hr.mono (by decide)) pass0 (pa_cons (pv 2) pa_nil)))
    (pss_cons (ps_set (i := 5) sc_law.nd rfl (Or.inl rfl) (pe_cal G.law_entries (hr.mono (by decide)) pass0 (pa_cons (pv 1) (pa_cons (pv 2) (pa_cons (pv 3) (pa_cons pe_dnewK (pa_cons pe_int (pa_cons (pe_cal G.law_draw (hr.mono (by decide)) pass0 (pa_cons (pv 1) (pa_cons pe_int pa_nil))) (pa_cons (pe_cal G.law_draw (hr.mono (by decide)) pass0 (pa_cons (pv 1) (pa_cons pe_int pa_nil))) pa_nil)))))))))
    (pss_cons (ps_set (i := 6) sc_law.nd rfl (Or.inl rfl) (pe_mak G.Office (hr.mono (by decide)) (passE takes0) (pa_cons (pv 4) (pa_cons (pe_mak G.Journal (hr.mono (by decide)) (passE takes0) (pa_cons (pv 4) (pa_cons (pv 5) pa_nil))) pa_nil))))
    (pss_cons (ps_set (i := 7) sc_law.nd rfl (Or.inl rfl) (pe_cal G.law_draw (hr.mono (by decide)) pass0 (pa_cons (pv 1) (pa_cons pe_int pa_nil))))
    (pss_cut (ps_if (pt_cmpR op_gt (pe_callB call_len_seq (by rfl) B.len (by decide +kernel) (pa_cons (pv 5) pa_nil)) pe_int (nomark _))
      (pss_one (ps_set (i := 7) sc_law.nd rfl (Or.inl rfl) (pe_ix ix_tup (pe_ix ix_list (pv 5) (pe_op op_sub (pe_callB call_len_seq (by rfl) B.len (by decide +kernel) (pa_cons (pv 5) pa_nil)) pe_int) (fun _ _ => rfl)) (pe_op op_sub (pe_callB call_len_seq (by rfl) B.len (by decide +kernel) (pa_cons (pe_ix ix_list (pv 5) (pe_op op_sub (pe_callB call_len_seq (by rfl) B.len (by decide +kernel) (pa_cons (pv 5) pa_nil)) pe_int) (fun _ _ => rfl)) pa_nil)) pe_int) (fun _ _ => rfl))))
      pss_nil)
    (pss_cons (ps_set (i := 8) sc_law.nd rfl (Or.inl rfl) (pe_lst (pa_cons (pv 5) pa_nil)))
    (pss_cons (ps_if (pt_cmpR (op_neS hu0) (pe_cal G.law_done (hr.mono (by decide)) pass0 (pa_cons pe_int (pa_cons (pv 6) (pa_cons (pe_tup pa_nil) pa_nil)))) (pe_tup (pa_cons pe_str pa_nil)) (nomark _))
      (pss_one (ps_ret pe_bl))
      pss_nil)
    (pss_cons (ps_for PassesOwn.never rfl (pi_range1 (by rfl) B.range (pa_cons (pe_callB (call_min2 rfl) (by rfl) B.min (by decide +kernel) (pa_cons pe_int (pa_cons (pe_callB (call_max2 rfl) (by rfl) B.max (by decide +kernel) (pa_cons pe_int (pa_cons (pe_callB call_len_seq (by rfl) B.len (by decide +kernel) (pa_cons (pv 0) pa_nil)) pa_nil))) pa_nil))) pa_nil)) (pg_name (i := 9) sc_law.nd rfl (Or.inl rfl))
      (pss_cut (ps_if (pt_cmpR op_eq (pe_cal G.law_draw (hr.mono (by decide)) pass0 (pa_cons (pv 1) (pa_cons pe_int pa_nil))) pe_int (nomark _))
        (pss_cons (ps_set (i := 10) sc_law.nd rfl (Or.inl rfl) (pe_tup (pa_cons pe_str pa_nil)))
        (pss_cons (ps_if (pt_cmpR op_gt (pe_callB call_len_seq (by rfl) B.len (by decide +kernel) (pa_cons (pv 8) pa_nil)) pe_int (nomark _))
          (pss_cons (ps_expr (pe_bm0 PySem.F.plainAttrs_list PySem.F.slot_list_pop PySem.F.type_list_pop mt_pop (pv 8)))
          (pss_one (ps_set (i := 10) sc_law.nd rfl (Or.inl rfl) (pe_tup (pa_cons pe_str (pa_cons pe_non pa_nil))))))
          pss_nil)
        (pss_one (ps_if (pt_cmpR (op_neS hu0) (pe_cal G.law_done (hr.mono (by decide)) pass0 (pa_cons pe_int (pa_cons (pv 6) (pa_cons (pe_tup pa_nil) pa_nil)))) (pv 10) (nomark _))
          (pss_one (ps_ret pe_bl))
          pss_nil))))
        (pss_cons (ps_set (i := 7) sc_law.nd rfl (Or.inl rfl) (pe_op op_add (pv 7) (pe_cal G.law_draw (hr.mono (by decide)) pass0 (pa_cons (pv 1) (pa_cons pe_int pa_nil)))))
        (pss_cons (ps_set (i := 11) sc_law.nd rfl (Or.inl rfl) (pe_cal G.law_closed (hr.mono (by decide)) pass0 (pa_cons (pv 1) (pa_cons (pv 6) (pa_cons (pv 2) (pa_cons (pv 3) (pa_cons (pe_ix ix_list (pv 8) (pe_op op_sub (pe_callB call_len_seq (by rfl) B.len (by decide +kernel) (pa_cons (pv 8) pa_nil)) pe_int) (fun _ _ => rfl)) (pa_cons (pe_op op_add pe_int (pe_op op_mul pe_int (pv 9))) (pa_cons (pv 7) pa_nil)))))))))
        (pss_cons (ps_if (PW.pt (pw_or (pt_cmpR op_isN (pv 11) pe_non (nomark _)) (pw_or1 (pt_cmpR (op_neD hr.units) (pe_callTy call_list_of (by rfl) B.list (by decide +kernel) (pa_cons (pe_fld (pe_fld (pv 6) rfl) rfl) pa_nil)) (pe_ix ix_tup (pv 11) pe_int (fun _ _ => rfl)) (nomark _)))))
          (pss_one (ps_ret pe_bl))
          pss_nil)
        (pss_one (ps_if (pt_cmpR op_eq (pe_ix ix_tup (pv 11) pe_int (fun _ _ => rfl)) pe_str (nomark _))
          (pss_one (ps_expr (pe_bm PySem.F.plainAttrs_list PySem.F.slot_list_append PySem.F.type_list_append mt_append (pv 8) (pa_cons (pe_ix ix_tup (pv 11) pe_int (fun _ _ => rfl)) pa_nil))))
          pss_nil))))))
      (pss_one (ps_if (PW.pt (pw_or (pt_cmpR (op_neD hr.units) (pe_callTy call_list_of (by rfl) B.list (by decide +kernel) (pa_cons (pe_fld (pe_fld (pv 6) rfl) rfl) pa_nil)) (pe_ix ix_list (pv 8) (pe_op op_sub (pe_callB call_len_seq (by rfl) B.len (by decide +kernel) (pa_cons (pv 8) pa_nil)) pe_int) (fun _ _ => rfl)) (nomark _)) (pw_or1 (pt_cmpR (op_neD hr.units) (pe_met0 T.cl G.writers (hr.mono (by decide)) pass0 (pv 6)) (pe_lst pa_nil) (nomark _)))))
        (pss_one (ps_ret pe_bl))
        pss_nil))))
    (pss_one (ps_ret pe_bl))))))))))))), ?_⟩
    have two : (2 : Nat) ≤ sizeLine := by decide
    refine ⟨_, rfl, a, ns, rfl, hS, fun p s0 H1 hp hP1 s1 => ?_⟩
    refine ⟨_, rfl, p, s0, rfl, hP1, fun dl L H2 hdl0 hdl LL P2 => ?_⟩
    refine ⟨_, rfl, _, rfl, p, s0, 2, rfl, P2.now, (by decide), (by decide), fun d H3 d0 d1 P3 => ⟨_, _, rfl, rfl, p, s0, _, rfl, P3.now, (by omega), (by omega), fun dk ks H4 hdk0 hdk hkl knd knm P4 => ?_⟩⟩
    have P24 : Pl H2 H4 p s0 := P3.trans P4
    have hdl4 := P24.dk P2.now hdl
    refine ⟨_, rfl, fun b dxb nb ndb neb => ⟨b, dxb, dl, L, rfl, upd_same, ?_, LL, fun H5 hB kB => ⟨rfl, ?_⟩⟩⟩
    · exact (mk_same nb ndb (fun c o h n => h)) _ _ hdl4
    have s45 : Same H4 H5 := mk_same nb ndb kB
    have P5 : PoolAt H5 p s0 := P4.now.same s45
    have hdl5 := s45 _ _ hdl4
    have hdk5 := s45 _ _ hdk
    have P15 : Pl H1 H5 p s0 := (P2.trans P24).same s45
    have aSq : ∀ {H' : Hp}, Pl H1 H' p s0 → SqL c.K H' a (ns.map V.int) := fun {H'} PP => by
      rcases hS with (h | ⟨o, h⟩) | h
      · exact .inl (.inl (PP.keep (s1 _ _ h) (fun z => by rw [z, hp] at h; cases h)))
      · exact .inl (.inr ⟨o, PP.keep (s1 _ _ h) (fun z => by rw [z, hp] at h; cases h)⟩)
      · exact .inr h
    have dkp : dk ≠ p := fun z => P3.now.ne.1 (z ▸ hdk0)
    refine ⟨_, rfl, _, rfl, _, rfl, fun ds hds => ⟨_, rfl, p, s0, 20, rfl, ((Pl.refl P5).new hds).now, (by decide), (by decide), fun begin_ H6 n0 n1 P6 => ?_⟩⟩
    refine ⟨_, rfl, p, s0, 7, rfl, P6.now, (by decide), (by decide), fun many H8 m0 m1 P8 => ?_⟩
    have P58 : Pl H5 H8 p s0 := (((Pl.refl P5).new hds).trans P6).trans P8
    have hds8 : H8 ds = some (.dK []) := (P6.trans P8).dk ((Pl.refl P5).new hds).now upd_same
    have st : ∀ n, StAt H8 ds (fun _ => none) n := fun n => ⟨[], hds8, Nat.zero_le _, (fun _ h => nomatch h), fun id => True.intro⟩
    have hdl8 := P58.dk P5 hdl5
    have hdk8 := P58.keep hdk5 dkp
    refine ⟨p, s0, dl, dk, ds, L, ks, fun _ => none, 0, 0, begin_, many, rfl, ⟨P58.now, hdl8, LL, hdk8, by omega, by omega, knm, st _, (fun _ _ _ _ _ e => by cases e), fun id h => absurd rfl h⟩, st _, by omega, by omega, by omega, by omega, (fun id h => absurd rfl h), (fun z => by rw [z, hdl5] at hds; cases hds), fun q1 us xs S1 H9 hq10 hq1 hE hlen hwk harr hst hkn5 hids PD => ?_⟩
    have P59 : Pl H5 H9 p s0 := ⟨PD.now, P5.ne.1, P5.ne.2, fun c o hc n => PD.but c o (P58.keep hc n) n (fun z => by rw [z, hds] at hc; cases hc)⟩
    have hdl9 := P59.dk P5 hdl5
    have hdk9 := P59.keep hdk5 dkp
    have hB9 := hB.pl P5 P59
    have hw9 := hwk none (fun _ z => nomatch z) 0
    have q1p : q1 ≠ p := fun z => P58.now.ne.1 (z ▸ hq10)
    have P19 : Pl H1 H9 p s0 := P15.trans P59
    have PQ9 := P59.now
    clear hwk harr hst hids st hds8 hkn5 PD P58 P59 P8 P6 hq10 hdl8 hdk8 hdl5 hdk5 hB hds P15 hdl4 hdk P24 P4 P3 P2
    refine ⟨_, rfl, _, rfl, _, rfl, fun j dx' nx ndx nex => mkJN hB9 hq1 hE (by omega) hw9 nx ndx nex fun HJ sJ hJ => ?_⟩
    intro o dxo no ndo neo
    have sO : Same HJ (upd (upd HJ dxo (.own o)) o (.ins c.CO dxo [])) := (sameAt (Same.refl _) ndo).trans (sameAt (Same.refl _) (by rw [upd_ne (Ne.symm neo)]; exact no))
    have hoI : (upd (upd HJ dxo (.own o)) o (.ins c.CO dxo [])) o = some (.ins c.CO dxo []) := upd_same
    have PJ := PQ9.same sJ
    obtain ⟨xsp, hxp⟩ : ∃ xs, HJ p = some (.lst xs) := by
      obtain ⟨_, _, _, _, _, e, _⟩ := PJ
      exact ⟨_, e⟩
    have Lp : ∀ x, x = p → ∃ xs, HJ x = some (.lst xs) := fun x z => ⟨xsp, by rw [z]; exact hxp⟩
    have cO : Same (cutH (fun x => x = p) HJ) (cutH (fun x => x = p ∨ x = o) (upd (upd HJ dxo (.own o)) o (.ins c.CO dxo []))) := cut_step (fun q u h _ => sO _ _ h) fun q h => h.imp id fun z => by rw [z]; exact no
    have hBc := (hB9.same sJ).cutL (B := fun x => x = p) Lp
    have hJc := hJ.cutL (B := fun x => x = p) Lp
    have hEc := (hE.same sJ).cutL (B := fun x => x = p) Lp
    have hdlc : cutH (fun x => x = p) HJ dl = some (.dK (LK L)) := nl_cut Lp (sJ _ _ hdl9) fun xs z => nomatch z
    have hdkc : cutH (fun x => x = p) HJ dk = some (.lst (ks.map V.str)) := cut_at dkp (sJ _ _ hdk9)
    have hq1c : cutH (fun x => x = p) HJ q1 = some (.lst us) := cut_at q1p (sJ _ _ hq1)
    have POI := PJ.same sO
    have nop : o ≠ p := fun z => PJ.ne.1 (z ▸ no)
    have nos : o ≠ s0 := fun z => PJ.ne.2 (z ▸ no)
    have aSqc : SqL c.K (cutH (fun x => x = p) HJ) a (ns.map V.int) := by
      rcases hS with (h | ⟨o, h⟩) | h
      · have n : a ≠ p := fun z => by rw [z, hp] at h; cases h
        exact .inl (.inl (cut_at n (sJ _ _ (P19.keep (s1 _ _ h) n))))
      · have n : a ≠ p := fun z => by rw [z, hp] at h; cases h
        exact .inl (.inr ⟨o, cut_at n (sJ _ _ (P19.keep (s1 _ _ h) n))⟩)
      · exact .inr h
    refine ⟨fun x => x = p ∨ x = o, o, dxo, b, j, b, L, us, xs, rfl, hoI, .inr rfl, fun x hx => ?_, hBc.same cO, hJc.same cO, by rw [hE.1]; omega, fun oa A' HO eo ej kO gO MO => ⟨rfl, ?_⟩⟩
    · rcases hx with rfl | rfl
      · exact ⟨_, sO _ _ hxp, trivial⟩
      · exact ⟨_, hoI, rfl⟩
    have cOO : Same (cutH (fun x => x = p) HJ) (cutH (uni (fun x => x = p ∨ x = o) A') HO) := cO.trans (cut_step (fun q u h n => kO q u h fun z => n (.inr z)) fun q h => h.elim .inl fun z => (gO q z).imp .inr id)
    have W0 : LW c (uni (fun x => x = p ∨ x = o) A') A' HO oa (newOS L xs us) p s0 := by
      obtain ⟨ns', i', c', k', n', e1, e2, e3, e4⟩ := POI
      refine ⟨MO, ⟨ns', i', c', k', n', kO _ _ e1 nop.symm, kO _ _ e2 nos.symm, e3, e4⟩, .inl (.inl rfl), fun z => ?_, fun z => ?_⟩
      · rcases gO _ z with h | h
        · exact nop h.symm
        · rw [e1] at h; cases h
      · rcases gO _ z with h | h
        · exact nos h.symm
        · rw [e2] at h; cases h
    have F0 : Fix (uni (fun x => x = p ∨ x = o) A') HO dl dk q1 L ks us xs := ⟨LL, cOO _ _ hdlc, cOO _ _ hdkc, by omega, by omega, knm, cOO _ _ hq1c, hEc.same cOO⟩
    have a0 := sqL_same aSqc cOO
    clear hBc hJc hEc hdlc hdkc hq1c aSqc cOO MO kO gO POI cO hoI sO Lp hxp PJ hJ sJ hB9 hq1 hdl9 hdk9 P19 PQ9 aSq
    have hlx : xs.length ≤ 6 := by omega
    subst eo
    generalize (uni (fun x => x = p ∨ x = oa.o) A') = B0 at W0 F0 a0
    refine ⟨_, rfl, p, s0, 20, rfl, W0.pool, (by decide), (by decide), fun now0 HD z0 z1 PD => ?_⟩
    obtain ⟨WD, lD⟩ := W0.draw PD
    have FD := F0.go lD.cut
    have aD := sqL_same a0 lD.cut
    have upD : ∀ {q u}, cutH B0 HD q = some u → HD q = some u := fun h => cut_same _ _ _ _ h
    have hEl := FD.E.1
    refine ⟨fun σ H' => H' = HD ∧ ∃ n : Int, σ = [some (.ref a), some (.ref p), some (.ref dl), some (.ref dk), some (.ref b), some (.ref q1), some (.ref oa.o), some (.int n), none, none, none, none], ?_, ?_⟩
    · refine ⟨_, rfl, q1, us, rfl, .inl (SqL.of (upD FD.de)), _, _, rfl, rfl, _, rfl, ?_⟩
      by_cases c0 : (0 : Int) < (us.length : Int)
      · rw [decide_eq_true c0]
        obtain ⟨x, hx⟩ : ∃ x, xs[us.length - 1]? = some x := ⟨_, List.getElem?_eq_getElem (by omega)⟩
        obtain ⟨v, hv⟩ : ∃ v, us[us.length - 1]? = some v := ⟨_, List.getElem?_eq_getElem (by omega)⟩
        obtain ⟨e1, rfl, he, ok⟩ := FD.E.2 _ v x hv hx
        have hI : atI us ((us.length : Int) - 1) = some (.ref e1) := by
          rw [show ((us.length : Int) - 1) = ((us.length - 1 : Nat) : Int) by omega]
          rw [atI_natC (by omega)]
          rw [List.getElem?_eq_getElem (by omega)] at hv
          exact hv
        have he' := upD he
        refine iteT ⟨_, rfl, _, rfl, q1, us, rfl, .inl (SqL.of (upD FD.de)), _, _, rfl, rfl, q1, us, _, _, rfl, rfl, SqL.of (upD FD.de), hI, _, rfl, _, rfl, q1, us, rfl, .inl (SqL.of (upD FD.de)), _, _, rfl, rfl, q1, us, _, _, rfl, rfl, SqL.of (upD FD.de), hI, e1, x.vs, rfl, .inr (SqT.of he'), _, _, rfl, rfl, e1, x.vs, _, _, rfl, rfl, SqT.of he', ent_arr x, rfl, x.arr, rfl⟩
      · rw [decide_eq_false c0]
        exact iteF ⟨rfl, now0, rfl⟩
    rintro σ H' ⟨rfl, now, rfl⟩
    refine ⟨_, rfl, (by show 1 ≤ sizeLine; decide), fun st nst => ?_⟩
    obtain ⟨W1, l1⟩ := WD.own (o := .lst [.ref q1]) nst trivial
    have nstA : ¬ A' st := fun z => (WD.M.free nst) (WD.M.AB _ z)
    have stp : st ≠ p := fun z => WD.pool.ne.1 (z ▸ nst)
    have sts : st ≠ s0 := fun z => WD.pool.ne.2 (z ▸ nst)
    have hst1 : (upd H' st (.lst [.ref q1])) st = some (.lst [.ref q1]) := upd_same
    have F1 := FD.go l1.cut
    have a1 := sqL_same aD l1.cut
    generalize hB1 : (fun x => B0 x ∨ x = st) = B1 at W1 l1 F1 a1
    have bst : B1 st := by rw [← hB1]; exact .inr rfl
    generalize (upd H' st (.lst [.ref q1])) = H1' at W1 l1 F1 a1 hst1 ⊢
    clear hB1 lD FD aD upD W0 F0 a0 WD PD
    -- nothing to undo
    refine ⟨_, rfl, (by show 0 ≤ sizeLine; decide), fun g ng => ?_⟩
    obtain ⟨W2, l2⟩ := W1.same (sameAt (o := .tup []) (Same.refl H1') ng)
    refine ⟨oa, _, 5, g, _, rfl, W2.M.o, upd_same, .inr (.inr (.inr (.inr (.inr (.inl ⟨rfl, B1, A', oa, newOS L xs us, rfl, W2.M, fun H3 _ s3 => ?_, fun p' m' j' H3 ep => ?_⟩)))))⟩
    rotate_left
    · exact absurd ep (by simp [newOS])
    refine .inr ⟨rfl, fun t4 n4 => ?_⟩
    obtain ⟨W4, l4⟩ := W2.same (s3.trans (sameAt (o := .tup [.str "nothing"]) (Same.refl H3) n4))
    have l14 := l2.trans l4
    have hst4 : (upd H3 t4 (.tup [.str "nothing"])) st = some (.lst [.ref q1]) := (s3.trans (sameAt (o := .tup [.str "nothing"]) (Same.refl H3) n4)) _ _ ((sameAt (o := .tup []) (Same.refl H1') ng) _ _ hst1)
    have ht4 : (upd H3 t4 (.tup [.str "nothing"])) t4 = some (.tup [.str "nothing"]) := upd_same
    generalize (upd H3 t4 (.tup [.str "nothing"])) = H4 at W4 l4 l14 hst4 ht4 ⊢
    refine ⟨(by show 1 ≤ sizeLine; decide), fun t5 n5 => ?_⟩
    obtain ⟨W5, l5⟩ := W4.same (sameAt (o := .tup [.str "nothing"]) (Same.refl H4) n5)
    have l15 := l14.trans l5
    refine ⟨seqs1 ((sameAt (o := .tup [.str "nothing"]) (Same.refl H4) n5) _ _ ht4) upd_same (fl_str _), _, rfl, iteF ?_⟩
    have hst5 := (sameAt (o := .tup [.str "nothing"]) (Same.refl H4) n5) _ _ hst4
    have F5 := F1.go l15.cut
    have a5 := sqL_same a1 l15.cut
    generalize (upd H4 t5 (.tup [.str "nothing"])) = H5 at W5 l5 l15 hst5 F5 a5 ⊢
    clear W4 l4 l14 hst4 ht4 W2 l2 W1 l1 F1 a1 hst1 l15 l5
    refine ⟨_, rfl, a, _, rfl, .inl (sqL_same a5 (cut_same _ _)), ?_⟩
    rw [show (ns.map V.int).length = ns.length from List.length_map _]
    obtain ⟨m, hm, hm2⟩ : ∃ m : Int, (if (if (ns.length : Int) > 5 then (ns.length : Int) else 5) < 20 then (if (ns.length : Int) > 5 then (ns.length : Int) else 5) else 20) = m ∧ 0 ≤ m ∧ m ≤ 20 := by
      refine ⟨_, rfl, ?_, ?_⟩ <;> (repeat' split) <;> omega
    refine ⟨_, _, rfl, _, _, rfl, m, (by rw [← hm]), by omega, by omega, for_range (n := m.toNat) (fun k σ H6 => ∃ (B A : Addr → Prop) (a' : OA) (S : OS) (nw : Int) (stk : List (Addr × List V × List Ent)), (∃ x1 x2 x3, σ = [some (.ref a), some (.ref p), some (.ref dl), some (.ref dk), some (.ref b), some (.ref q1), some (.ref oa.o), some (.int nw), some (.ref st), x1, x2, x3]) ∧ LInv c p s0 dl dk st oa.o L ks k B A H6 a' S stk) ?_ ?_ ?_⟩
    · refine ⟨B1, A', oa, newOS L xs us, now, [(q1, us, xs)], ⟨_, _, _, rfl⟩, W5, rfl, rfl, rfl, ⟨fun b hb => ?_, Nat.le_refl _, hlx⟩, F5.dl, F5.dk, bst, nstA, hst5, rfl, (fun x hx => ?_), stp, sts⟩
      · rw [(List.mem_replicate.mp (show b ∈ List.replicate xs.length (0 : Int) from hb)).2]
        exact Int.le_refl _
      · rw [List.mem_singleton.mp hx]
        exact ⟨F5.de, F5.E⟩
    rotate_left
    · rintro σ H6 ⟨B, A, a', S, nw, stk, ⟨x1, x2, x3, rfl⟩, _⟩
      exact q H6
    rintro i σ H6 hi ⟨B, A, a', S, nw, stk, ⟨x1, x2, x3, rfl⟩, I⟩
    clear W5 F5 a5 hst5 bst nstA
    have hi20 : i < 20 := by omega
    refine ⟨fun σ H' => ∃ (B A : Addr → Prop) (a' : OA) (S : OS) (nw : Int) (stk : List (Addr × List V × List Ent)), (∃ x1 x2 x3, σ = [some (.ref a), some (.ref p), some (.ref dl), some (.ref dk), some (.ref b), some (.ref q1), some (.ref oa.o), some (.int nw), some (.ref st), x1, x2, x3]) ∧ LInv c p s0 dl dk st oa.o L ks (i + 1) B A H' a' S stk, ?_, ?_⟩
    · refine ⟨_, rfl, p, s0, 3, rfl, I.W.pool, (by decide), (by decide), fun d H7 d0 d3 P7 => ⟨rfl, _, rfl, ?_⟩⟩
      have I7 := I.go (I.W.draw P7).1 (I.W.draw P7).2
      clear I
      by_cases cd : d = 0
      · subst cd
        refine iteT ⟨(by show 1 ≤ sizeLine; decide), fun t1 n1 => ?_⟩
        have I8 := I7.same (sameAt (o := .tup [.str "nothing"]) (Same.refl H7) n1)
        have ht8 : (upd H7 t1 (.tup [.str "nothing"])) t1 = some (.tup [.str "nothing"]) := upd_same
        generalize (upd H7 t1 (.tup [.str "nothing"])) = H8 at I8 ht8 ⊢
        clear I7
        have hl8 := I8.sk.len
        refine ⟨_, rfl, st, _, rfl, .inl (SqL.of I8.hs), _, _, rfl, rfl, _, rfl, ?_⟩
        rw [show (stk.map fun x => V.ref x.1).length = stk.length from List.length_map _]
        have eo : a'.o = oa.o := I8.ao
        rcases List.eq_nil_or_concat S.past with ep | ⟨pp, mm, ep⟩
        · rw [decide_eq_false (show ¬ (1 : Int) < (stk.length : Int) by rw [hl8, ep]; exact (by decide))]
          refine iteF ⟨_, rfl, (by show 0 ≤ sizeLine; decide), fun g ng => ?_⟩
          have I9 := I8.same (sameAt (o := .tup []) (Same.refl H8) ng)
          refine ⟨a', _, 5, g, _, by rw [eo]; rfl, I9.W.M.o, upd_same, .inr (.inr (.inr (.inr (.inr (.inl ⟨rfl, _, _, a', S, rfl, I9.W.M, fun H3 _ s3 => ?_, fun p' m' j' H3 ep' => ?_⟩)))))⟩
          rotate_left
          · rw [ep] at ep'; exact absurd ep' (by simp)
          refine .inr ⟨rfl, fun t4 n4 => ?_⟩
          have I10 := I9.same (s3.trans (sameAt (o := .tup [.str "nothing"]) (Same.refl H3) n4))
          refine ⟨_, rfl, seqs1 upd_same ((s3.trans (sameAt (o := .tup [.str "nothing"]) (Same.refl H3) n4)) _ _ ((sameAt (o := .tup []) (Same.refl H8) ng) _ _ ht8)) (fl_str _), _, rfl, iteF ?_⟩
          exact ⟨_, _, a', S, nw, stk, ⟨_, _, _, rfl⟩, I10.up (Nat.le_succ _)⟩
        · have ep : S.past = pp ++ [mm] := by rw [ep]; simp
          rw [decide_eq_true (show (1 : Int) < (stk.length : Int) by rw [hl8, ep, List.length_append]; show (1 : Int) < ((pp.length + 1 + 1 : Nat) : Int); omega)]
          obtain ⟨x, hx⟩ : ∃ x, (stk.map fun x => V.ref x.1)[(stk.map fun x => V.ref x.1).length - 1]? = some x := ⟨_, List.getElem?_eq_getElem (by rw [List.length_map]; omega)⟩
          refine iteT ⟨_, rfl, .inl ⟨rfl, _, SqL.of I8.hs⟩, st, _, x, rfl, rfl, I8.hs, hx, ?_⟩
          rw [show (stk.map fun x => V.ref x.1).dropLast = stk.dropLast.map fun x => V.ref x.1 from (List.map_dropLast ..).symm]
          refine ⟨two, fun t2 n2 => ?_⟩
          obtain ⟨W9, c9⟩ := I8.W.set (o := .lst (stk.dropLast.map fun x => V.ref x.1)) I8.bs I8.ns I8.stp I8.sts trivial
          have hs9 : (upd H8 st (.lst (stk.dropLast.map fun x => V.ref x.1))) st = some (.lst (stk.dropLast.map fun x => V.ref x.1)) := upd_same
          generalize (upd H8 st (.lst (stk.dropLast.map fun x => V.ref x.1))) = H9 at W9 c9 hs9 n2 ⊢
          obtain ⟨W10, l10⟩ := W9.same (sameAt (o := .tup [.str "told", .non]) (Same.refl H9) n2)
          have ht10 : (upd H9 t2 (.tup [.str "told", .non])) t2 = some (.tup [.str "told", .non]) := upd_same
          have hs10 := (sameAt (o := .tup [.str "told", .non]) (Same.refl H9) n2) _ _ hs9
          generalize (upd H9 t2 (.tup [.str "told", .non])) = H10 at W10 l10 ht10 hs10 ⊢
          refine ⟨_, rfl, (by show 0 ≤ sizeLine; decide), fun g ng => ?_⟩
          obtain ⟨W11, l11⟩ := W10.same (sameAt (o := .tup []) (Same.refl H10) ng)
          have hs11 := (sameAt (o := .tup []) (Same.refl H10) ng) _ _ hs10
          have ht11 := (sameAt (o := .tup []) (Same.refl H10) ng) _ _ ht10
          refine ⟨a', _, 5, g, _, by rw [eo]; rfl, W11.M.o, upd_same, .inr (.inr (.inr (.inr (.inr (.inl ⟨rfl, _, _, a', S, rfl, W11.M, fun H3 ep' _ => ?_, fun p' m' j' H3 ep' fr M3 => ?_⟩)))))⟩
          · rw [ep] at ep'; exact absurd ep' (by simp)
          intro t4 n4
          generalize (upd H10 g (.tup [])) = H11 at W11 l11 hs11 ht11 fr
          obtain ⟨W12, l12⟩ := W11.office fr M3
          have hs12 := fr.k _ _ hs11 I8.ns
          have ht12 := fr.k _ _ ht11 fun z => W11.M.tup ht11 (W11.M.AB _ z)
          obtain ⟨W13, l13⟩ := W12.same (sameAt (o := .tup [.str "told", .non]) (Same.refl H3) n4)
          have l1113 := l12.trans l13
          have cAll := ((c9.trans l10.cut).trans l11.cut).trans l1113.cut
          refine ⟨_, rfl, seqs upd_same ((sameAt (o := .tup [.str "told", .non]) (Same.refl H3) n4) _ _ ht12) (fl_str _) fl_non, _, rfl, iteF ?_⟩
          have hpst := I8.W.M.pst
          have sk' := I8.sk.pop ep' hpst
          have lp : p'.length + 1 = S.past.length := by rw [ep', List.length_append]; rfl
          have N8 := I8.N
          refine ⟨_, _, _, S.undone p' m', nw, stk.dropLast, ⟨_, _, _, rfl⟩, W13, I8.ao, I8.eL, I8.ps, ⟨fun b hb => ?_, ?_, ?_⟩, cAll _ _ I8.dl, cAll _ _ I8.dk, l1113.sub _ I8.bs, (fun z => (l1113.gA _ z).elim I8.ns fun h => by rw [hs11] at h; cases h), (sameAt (o := .tup [.str "told", .non]) (Same.refl H3) n4) _ _ hs12, sk', (fun x hx => (I8.sa.go cAll) x (List.dropLast_subset _ hx)), I8.stp, I8.sts⟩
          · exact N8.cb b (List.mem_of_mem_take (show b ∈ S.cb.take m' from hb))
          · have := N8.past
            show p'.length ≤ i + 1
            omega
          · have := N8.xs
            show (S.xs.take m').length ≤ _
            rw [List.length_take]
            omega
      · rw [decide_eq_false (show ¬ (V.int d = V.int 0) from fun z => cd (V.int.inj z))]
        refine iteF ⟨_, rfl, _, rfl, p, s0, 3, rfl, I7.W.pool, (by decide), (by decide), fun d2 H8 e0 e3 P8 => ⟨_, _, rfl, rfl, ?_⟩⟩
        have I8 := I7.go (I7.W.draw P8).1 (I7.W.draw P8).2
        clear I7
        have hl8 := I8.sk.len
        obtain ⟨de, usd, hde⟩ := I8.sk.last
        have eo : a'.o = oa.o := I8.ao
        have eL := I8.eL
        have hx := List.mem_of_getElem? hde
        obtain ⟨z1, z2⟩ := I8.sa _ hx
        have hI : atI (stk.map fun x => V.ref x.1) ((stk.length : Int) - 1) = some (.ref de) := by
          rw [show ((stk.length : Int) - 1) = ((stk.length - 1 : Nat) : Int) by omega]
          rw [atI_natC (by rw [List.length_map]; omega)]
          have e1 : (stk.map fun x => V.ref x.1)[stk.length - 1]? = some (V.ref de) := by rw [List.getElem?_map, hde]; rfl
          rw [List.getElem?_eq_getElem (by rw [List.length_map]; omega)] at e1
          exact e1
        have el : (stk.map fun x => V.ref x.1).length = stk.length := List.length_map _
        have N8 := I8.N
        refine ⟨_, rfl, _, rfl, _, rfl, _, rfl, _, rfl, _, rfl, st, _, rfl, .inl (SqL.of I8.hs), _, _, rfl, rfl, st, _, _, _, rfl, rfl, SqL.of I8.hs, (by rw [el]; exact hI), _, rfl, _, _, rfl, rfl, .inl ⟨by decide, by decide⟩, _, _, rfl, rfl, _, rfl, ?_⟩
        refine ⟨_, _, a', S, p, s0, dl, dk, de, ks, usd, 100 + 5 * (0 + (i : Int)), nw + d2, by rw [eo]; rfl, I8.W, I8.ps, ⟨N8.cb, by have := N8.past; omega, by have := N8.xs; omega⟩, ⟨by rw [eL]; exact LL, by rw [eL]; exact I8.dl, I8.dk, by omega, by omega, knm, z1, z2⟩, by omega, fun B' A' H9 a9 S9 t9 W9 l9 eL9 ps9 N9 eo9 hc => ?_⟩
        have hs9 := l9.k _ _ I8.hs I8.ns I8.stp
        have ns9 : ¬ A' st := fun z => (l9.gA _ z).elim I8.ns fun h => by rw [I8.hs] at h; cases h
        have eo' : a9.o = oa.o := eo9.trans eo
        obtain ⟨jx, jt, jk, j1, j2, j3, j4, j5, j6, j7⟩ := id (W9.M.jr.same (cut_same _ _))
        have JE := (W9.M.jr.same (cut_same _ _)).ents
        rcases hc with ⟨x9, p9, ht⟩ | ⟨dw, usw, p9, cdw, Ew, tk, ht⟩
        · have ho9 : H9 oa.o = some (.ins c.CO a9.dx (ofF a9.b a9.j a9.dd a9.pa S9.cl a9.cb)) := by rw [← eo']; exact W9.M.o
          have hd9 := l9.cut _ _ z1
          have E9 := z2.same l9.cut
          rw [x9] at JE
          refine ⟨_, rfl, rfl, _, rfl, iteF ⟨_, rfl, oa.o, c.CO, a9.dx, _, _, rfl, ho9, T.cl, T.nJ, rfl, a9.j, c.CJ, jx, _, _, rfl, j1, TJ.cl, TJ.nE, jf_e _ _ _, jt, _, rfl, .inr j3, fun l nl => ?_⟩⟩
          have sl : Same H9 (upd H9 l (.lst S9.us)) := sameAt (Same.refl _) nl
          have ht' := sl _ _ ht
          refine ⟨_, rfl, _, _, _, _, rfl, rfl, SqT.of ht', rfl, neD_ents upd_same (JE.same sl) (sl _ _ (cut_same _ _ _ _ hd9)) ((E9.same (cut_same _ _)).same sl) ⟨_, rfl, iteF ?_⟩⟩
          refine ⟨_, rfl, _, _, _, _, rfl, rfl, SqT.of ht', rfl, rfl, _, rfl, iteF ?_⟩
          obtain ⟨W10, l10⟩ := W9.same sl
          have lall := l9.trans l10
          refine ⟨_, _, a9, S9, nw + d2, stk, ⟨_, _, _, rfl⟩, W10, eo', eL9.trans eL, ps9, ⟨N9.cb, by have := N9.past; have := N8.past; rw [p9]; omega, by have := N9.xs; have := N8.xs; rw [x9]; omega⟩, lall.cut _ _ I8.dl, lall.cut _ _ I8.dk, lall.sub _ I8.bs, ns9, sl _ _ hs9, by have := I8.sk; unfold Stk at this ⊢; rw [x9, p9]; exact this, I8.sa.go lall.cut, I8.stp, I8.sts⟩
        · have ho9 : H9 oa.o = some (.ins c.CO a9.dx (ofF a9.b a9.j a9.dd a9.pa S9.cl a9.cb)) := by rw [← eo']; exact W9.M.o
          refine ⟨_, rfl, rfl, _, rfl, iteF ⟨_, rfl, oa.o, c.CO, a9.dx, _, _, rfl, ho9, T.cl, T.nJ, rfl, a9.j, c.CJ, jx, _, _, rfl, j1, TJ.cl, TJ.nE, jf_e _ _ _, jt, _, rfl, .inr j3, fun l nl => ?_⟩⟩
          have sl : Same H9 (upd H9 l (.lst S9.us)) := sameAt (Same.refl _) nl
          have ht' := sl _ _ ht
          refine ⟨_, rfl, _, _, _, _, rfl, rfl, SqT.of ht', rfl, neD_ents upd_same (JE.same sl) (sl _ _ (cut_same _ _ _ _ cdw)) ((Ew.same (cut_same _ _)).same sl) ⟨_, rfl, iteF ?_⟩⟩
          refine ⟨_, rfl, _, _, _, _, rfl, rfl, SqT.of ht', rfl, rfl, _, rfl, iteT ?_⟩
          obtain ⟨W10, l10⟩ := W9.same sl
          have lall := l9.trans l10
          have hs10 := sl _ _ hs9
          have hpst := I8.W.M.pst
          refine ⟨_, rfl, .inl ⟨rfl, _, SqL.of hs10⟩, _, rfl, _, _, _, _, rfl, rfl, SqT.of ht', rfl, st, _, _, rfl, rfl, hs10, small1000 (by rw [el, hl8]; have := N8.past; omega), ?_⟩
          rw [show (stk.map fun x => V.ref x.1) ++ [V.ref dw] = (stk ++ [(dw, usw, S9.xs)]).map fun x => V.ref x.1 by rw [List.map_append]; rfl]
          refine ⟨_, _, a9, S9, nw + d2, stk ++ [(dw, usw, S9.xs)], ⟨_, _, _, rfl⟩, LInv.set (stk' := stk ++ [(dw, usw, S9.xs)]) W10 eo' (eL9.trans eL) ps9 ⟨N9.cb, by have := N9.past; have := N8.past; omega, by have := N9.xs; have := N8.xs; omega⟩ (lall.cut _ _ I8.dl) (lall.cut _ _ I8.dk) (lall.sub _ I8.bs) ns9 I8.stp I8.sts (I8.sk.push p9 tk hpst) (fun x hx => ?_)⟩
          rcases List.mem_append.mp hx with hx | hx
          · exact (I8.sa.go lall.cut) x hx
          · rw [List.mem_singleton.mp hx]
            exact ⟨l10.cut _ _ cdw, Ew.same l10.cut⟩
    · rintro σ H7 ⟨B, A, a', S, nw, stk, ⟨x1, x2, x3, rfl⟩, I⟩
      have eo : a'.o = oa.o := I.ao
      obtain ⟨jx, jt, jk, j1, j2, j3, j4, j5, j6, j7⟩ := id (I.W.M.jr.same (cut_same _ _))
      have JE := (I.W.M.jr.same (cut_same _ _)).ents
      have hl8 := I.sk.len
      obtain ⟨de, usd, hde⟩ := I.sk.last
      have hx := List.mem_of_getElem? hde
      obtain ⟨z1, z2⟩ := I.sa _ hx
      have el : (stk.map fun x => V.ref x.1).length = stk.length := List.length_map _
      have hI : atI (stk.map fun x => V.ref x.1) (((stk.map fun x => V.ref x.1).length : Int) - 1) = some (.ref de) := by
        rw [el, show ((stk.length : Int) - 1) = ((stk.length - 1 : Nat) : Int) by omega]
        rw [atI_natC (by rw [List.length_map]; omega)]
        have e1 : (stk.map fun x => V.ref x.1)[stk.length - 1]? = some (V.ref de) := by rw [List.getElem?_map, hde]; rfl
        rw [List.getElem?_eq_getElem (by rw [List.length_map]; omega)] at e1
        exact e1
      have ho : H7 oa.o = some (.ins c.CO a'.dx (ofF a'.b a'.j a'.dd a'.pa S.cl a'.cb)) := by rw [← eo]; exact I.W.M.o
      refine ⟨_, rfl, oa.o, c.CO, a'.dx, _, _, rfl, ho, T.cl, T.nJ, rfl, a'.j, c.CJ, jx, _, _, rfl, j1, TJ.cl, TJ.nE, jf_e _ _ _, jt, _, rfl, .inr j3, fun l nl => ?_⟩
      have sl : Same H7 (upd H7 l (.lst S.us)) := sameAt (Same.refl _) nl
      have I2 := I.same sl
      refine ⟨_, rfl, _, rfl, st, _, rfl, .inl (SqL.of I2.hs), _, _, rfl, rfl, st, _, _, _, rfl, rfl, SqL.of I2.hs, hI, neD_ents upd_same (JE.same sl) (sl _ _ (cut_same _ _ _ _ z1)) ((z2.same (cut_same _ _)).same sl) ⟨_, rfl, iteF ?_⟩⟩
      refine ⟨_, rfl, oa.o, a'.dx, _, rfl, sl _ _ ho, rfl, B, A, a', S, by rw [eo]; rfl, I2.W.M, by rw [I2.ps]; decide, fun ys l3 H9 pm so s9 n9 h9 => ?_⟩
      have I3 := I2.same s9
      obtain rfl : ys = [] := by
        rw [I2.ps] at pm
        exact List.perm_nil.mp pm
      refine ⟨(by show 0 ≤ sizeLine; decide), fun l4 n4 => ?_⟩
      have I4 := I3.same (sameAt (o := .lst []) (Same.refl H9) n4)
      refine ⟨.list [], .list [], .lst (SqL.of ((sameAt (o := .lst []) (Same.refl H9) n4) _ _ h9)) .nil, .lst (SqL.of upd_same) .nil, rfl, rfl, _, rfl, iteF ?_⟩
      exact ⟨B, A, a', S, nw, stk, ⟨_, _, _, rfl⟩, I4⟩
end
end Ash

set_option Elab.async false
set_option linter.all false
set_option maxRecDepth 100000
set_option maxHeartbeats 4000000
namespace Ash
open PySem PySem.Spec PyProof.Rows L2
/-! ### what the top has written -/
/-- a def of the top -/
structure D1 (K : PySem.W.Frag) (mg : Str → Option Value) (x : Str) (st : Stmt) : Prop where
  ex : ∃ (f : Addr) (fd : FuncData), mg x = some (.ref f) ∧ Fun K x x st f fd
/-- a method -/
structure DM (K : PySem.W.Frag) (C : Addr) (m qual : Str) (st : Stmt) : Prop where
  ex : ∃ (f : Addr) (fd : FuncData), Meth K C m f ∧ Fun K m qual st f fd
/-- a method at a known place -/
structure DQ (K : PySem.W.Frag) (C f : Addr) (m qual : Str) (st : Stmt) : Prop where
  ex : ∃ fd : FuncData, Meth K C m f ∧ Fun K m qual st f fd
/-- an __init__ with the default None -/
structure DN (K : PySem.W.Frag) (C : Addr) (qual : Str) (st : Stmt) : Prop where
  ex : ∃ (f : Addr) (fd : FuncData), Mk K C f ∧ FunD K "__init__" qual (defArgs st) (defBody st) (defScope st) [.non] [] f fd
/-- an __init__ with one default -/
structure DD (K : PySem.W.Frag) (C a : Addr) (qual : Str) (st : Stmt) : Prop where
  ex : ∃ (f : Addr) (fd : FuncData), Mk K C f ∧ FunD K "__init__" qual (defArgs st) (defBody st) (defScope st) [.ref a] [] f fd
section
variable {K : PySem.W.Frag} {h : Heap} {mg : Str → Option Value} {x qual : Str} {st : Stmt} {f C : Addr} {oc kV dc pm cdv ct : Value} {od an : Option Addr} {sl : Array (Option Value)}
theorem d1 (X : K.In h) (G : h.Ns mainGlobals mg) (a : PySem.W.nsIn K mainGlobals x = some (some (.ref f))) (l : K.lookup f = some ⟨oc, od, .func (PySem.W.fnOf x x (defArgs st) (defBody st) (defScope st) .none kV dc pm an cdv ct), sl⟩) (c : PySem.W.codeIn K cdv x = true) (k : PySem.W.keepIn K (.ref f) = true) : D1 K mg x st :=
  ⟨f, _, PySem.W.mg_of X G a, fun_mk l c k⟩
theorem dm (a : PySem.W.findIn K (.ref C) x = some (some (.ref f))) (i : PySem.W.isFn K (.ref f) = true) (l : K.lookup f = some ⟨oc, od, .func (PySem.W.fnOf x qual (defArgs st) (defBody st) (defScope st) .none kV dc pm an cdv ct), sl⟩) (c : PySem.W.codeIn K cdv qual = true) (k : PySem.W.keepIn K (.ref f) = true) : DM K C x qual st :=
  ⟨f, _, ⟨a, i, k⟩, fun_mk l c k⟩
theorem dq (a : PySem.W.findIn K (.ref C) x = some (some (.ref f))) (i : PySem.W.isFn K (.ref f) = true) (l : K.lookup f = some ⟨oc, od, .func (PySem.W.fnOf x qual (defArgs st) (defBody st) (defScope st) .none kV dc pm an cdv ct), sl⟩) (c : PySem.W.codeIn K cdv qual = true) (k : PySem.W.keepIn K (.ref f) = true) : DQ K C f x qual st :=
  ⟨_, ⟨a, i, k⟩, fun_mk l c k⟩
theorem dd {a T : Addr} {oT : Value} {dT : Option Addr} {slT : Array (Option Value)} {n : Nat} (m1 : PySem.W.makesIn K C = true) (m2 : PySem.W.findIn K (.ref C) "__init__" = some (some (.ref f))) (m3 : PySem.W.isFn K (.ref f) = true) (m4 : PySem.W.keepIn K (.ref C) = true)
    (l : K.lookup f = some ⟨oc, od, .func (PySem.W.fnOf "__init__" qual (defArgs st) (defBody st) (defScope st) (.ref T) kV dc pm an cdv ct), sl⟩) (lT : K.lookup T = some ⟨oT, dT, .seq #[.ref a] n, slT⟩) (c : PySem.W.codeIn K cdv qual = true) (k : PySem.W.keepIn K (.ref f) = true) : DD K C a qual st :=
  ⟨f, _, ⟨m1, m2, m3, m4⟩, ⟨⟨oc, od, .ref T, kV, dc, pm, an, cdv, ct, sl, rfl, l, c, .inr ⟨by simp, T, _, [.ref a], n, rfl, lT, rfl, .cons rfl .nil⟩, .inl rfl⟩, k⟩⟩
theorem dnn {T : Addr} {oT : Value} {dT : Option Addr} {slT : Array (Option Value)} {n : Nat} (m1 : PySem.W.makesIn K C = true) (m2 : PySem.W.findIn K (.ref C) "__init__" = some (some (.ref f))) (m3 : PySem.W.isFn K (.ref f) = true) (m4 : PySem.W.keepIn K (.ref C) = true)
    (l : K.lookup f = some ⟨oc, od, .func (PySem.W.fnOf "__init__" qual (defArgs st) (defBody st) (defScope st) (.ref T) kV dc pm an cdv ct), sl⟩) (lT : K.lookup T = some ⟨oT, dT, .seq #[.none] n, slT⟩) (c : PySem.W.codeIn K cdv qual = true) (k : PySem.W.keepIn K (.ref f) = true) : DN K C qual st :=
  ⟨f, _, ⟨m1, m2, m3, m4⟩, ⟨⟨oc, od, .ref T, kV, dc, pm, an, cdv, ct, sl, rfl, l, c, .inr ⟨by simp, T, _, [.none], n, rfl, lT, rfl, .cons rfl .nil⟩, .inl rfl⟩, k⟩⟩
theorem sq_of {a : Addr} {d : Option Addr} {n : Nat} (l : K.lookup a = some ⟨.type "tuple", d, .seq #[] n, sl⟩) (H : Hp) : SqT K H a [] := .inr ⟨_, #[], n, l, rfl, rfl, Nat.zero_le _, .nil⟩
theorem tt_mk {a : Addr} {d : Option Addr} {n : Nat} (l : K.lookup a = some ⟨.type "tuple", d, .seq #[] n, sl⟩) : ∃ (o : Obj) (n : Nat), K.lookup a = some o ∧ o.cls = .type "tuple" ∧ o.data = .seq #[] n := ⟨_, n, l, rfl, rfl⟩
end
section
variable {P : Program} {w : World} {K : PySem.W.Frag} {mg : Str → Option Value} {base : Heap} {CX : CXT} {x : Str} {st : Stmt} {ps : List Str} {k : Nat} {sp : Sp}
theorem cal_of (D : D1 K mg x st) (hb : ∀ (kV doc pm : Value) (an : Option Addr) (cdv ct : Value) (us : List Value), us.length = ps.length → bindArgs (PySem.W.fnOf x x (defArgs st) (defBody st) (defScope st) .none kV doc pm an cdv ct) ⟨us, []⟩ = pure (ps.zip us))
    (ok : ∀ f fd, Fun K x x st f fd → FnOk P w K mg base CX k f fd ps sp) : Cal P w K mg base CX x k ps sp := by
  obtain ⟨f, fd, hm, F⟩ := D.ex
  exact ⟨f, fd, hm, F.kp, F.binds hb, ok f fd F⟩
end
/-- a class is what its instances are -/
structure BkI (K : PySem.W.Frag) (CB : Addr) : Prop where
  ha : PySem.W.findIn K (.ref CB) "__class__" = some (some (.builtin "object.__class__"))
  hn : PySem.W.specialIn K (.builtin "object.__class__") "__get__" = some (some (.builtin "getset_descriptor.__get__"))
  ht : PySem.W.takesIn K (.builtin "object.__class__") = some true
  hm : PySem.W.mroIn K CB (.type "object") = some true
theorem ne_mk {K : PySem.W.Frag} {C f N : Addr} {nm q : Str} {bs : List Value} {hd ab : Bool} {sn : List Str} {sub : List Value} {col : Option Bool} {dd : Option Addr} {k0 k1 k2 k3 k5 : Option Value} {nid : String} {fo : Obj} (h1 : K.lookup C = some (excClassObj nm q C N bs [.type "object"] hd sn sub ab col dd k0 k1 k2 k3 k5 nid)) {oN : Value} {dN : Option Addr} {es : Array DictEntry} {nn : Nat} {slN : Array (Option Value)} (h2 : K.lookup N = some ⟨oN, dN, .dict es nn, slN⟩) (h7 : (es.toList.all fun e => match e.key with | .str _ _ => true | _ => false) = true) (h3 : PySem.W.nsIn K N "__eq__" = some (some (.ref f))) (h4 : PySem.W.nsIn K N "__ne__" = some none) (h5 : K.lookup f = some fo) (h6 : fo.cls = .type "function") : NeC K C f :=
  ⟨⟨nm, q, N, bs, hd, sn, sub, ab, col, dd, k0, k1, k2, k3, k5, nid, fo, h1, by unfold PySem.W.nsOkIn; rw [h2]; exact (Array.all_toList ..).symm.trans h7, h3, h4, h5, h6⟩⟩
theorem kit_ref {K : PySem.W.Frag} {C : Addr} {T : String} {b : Bool} (hm : PySem.W.kitMeta T = true) (h : PySem.W.subIn K (.ref C) (.type T) = some b) : PySem.W.kitOne K (.ref C) (.type T) = some b := by
  have e : (Value.ref C == Value.type T) = false := rfl
  unfold PySem.W.kitOne PySem.W.kitCls
  rw [e, if_neg Bool.false_ne_true]
  show (if PySem.W.kitMeta T = true then _ else _) = _
  rw [if_pos hm]
  exact h
theorem exm_me {K : PySem.W.Frag} {C : Addr} (h1 : PySem.W.subIn K (.ref C) (.type "BaseException") = some true) (h2 : PySem.W.isClsIn K C = true) (h3 : PySem.W.typeIn K (.ref C) = some (.type "type")) (h4 : PySem.W.subIn K (.ref C) (.ref C) = some true) : PySem.W.exmOne K (.ref C) (.ref C) = some true := by
  have h2' : (PySem.W.clsIn K C).isSome = true := h2
  simp [PySem.W.exmOne, PySem.W.kitCls, h1, h2', h3, h4]
theorem exm_no {K : PySem.W.Frag} {C D : Addr} (h1 : PySem.W.subIn K (.ref D) (.type "BaseException") = some true) (h2 : PySem.W.isClsIn K D = true) (h3 : PySem.W.typeIn K (.ref D) = some (.type "type")) (h4 : PySem.W.subIn K (.ref C) (.ref D) = some false) : PySem.W.exmOne K (.ref C) (.ref D) = some false := by
  have h2' : (PySem.W.clsIn K D).isSome = true := h2
  simp [PySem.W.exmOne, PySem.W.kitCls, h1, h2', h3, h4]
open PySem.W PySem.Calls PySem.HandSPX in
/-- the facts of an own error's class -/
theorem txt_mk {P : Program} {K : PySem.W.Frag} {h : Heap} {mg : Str → Option Value} {par fl : Str} {C fI N cda cc : Addr} {nm q qual tx file : Str} {bs bm sub : List Value} {sn : List Str} {ab : Bool} {col : Option Bool} {dd : Option Addr} {m0 m1 m2 m3 m5 : Option Value}
    {oc doc pm ct ccl cl : Value} {od an cdd cld : Option Addr} {osl ccs csl : Array (Option Value)} {vs : Array Value} {pa : Arguments} {p0 p1 p2 p3 p4 p5 p6 p7 p8 p9 : Pos} {j : Nat} {a0 : Arg} {tf : Nat} (X : K.In h) (G : h.Ns mainGlobals mg)
    (cls : K.lookup C = some (excClassObj nm q C N bs bm true sn sub ab col dd m0 m1 m2 m3 m5 "ValueError.__new__")) (ref : PySem.HandSPX.refsVE bm = true)
    (sa : PySem.W.findIn K (.ref C) "__setattr__" = some (some (.builtin "object.__setattr__"))) (ga : PySem.W.findIn K (.ref C) "__getattribute__" = some (some (.builtin "BaseException.__getattribute__"))) (gg : PySem.W.findIn K (.ref C) "__getattr__" = some none) (noN : PySem.W.findIn K (.ref C) fl = some none)
    (iC : PySem.W.findIn K (.ref C) "__init__" = some (some (.ref fI))) (tC : PySem.W.typeIn K (.ref fI) = some (.type "function")) (kC : PySem.W.keepIn K (.ref C) = true) (exC : PySem.W.subIn K (.ref C) (.type "BaseException") = some true) (veC : PySem.W.subIn K (.ref C) (.type "ValueError") = some true)
    (slf : PySem.W.mroIn K C (.ref C) = some true) (tyC : PySem.W.typeIn K (.ref C) = some (.type "type")) (hdC : PySem.W.hasDictIn K C = true) (isC : PySem.W.isClsIn K C = true) (sC : PySem.W.subIn K (.ref C) (.ref C) = some true)
    (along : PySem.W.ks_superIn K C C "__init__" = some (some (.builtin "ValueError.__init__"))) (opq : PySem.W.nsIn K cStatics "thirdparty.any" = some none) (sup : PySem.W.nsIn K mainGlobals "super" = some none) (top : (P.main.scope.names.lookup ("super" : Str)).isSome = false)
    (lf : K.lookup fI = some ⟨oc, od, .func (PySem.W.ksFn "__init__" qual pa (PySem.BadX.shape tx par fl p0 p1 p2 p3 p4 p5 p6 p7 p8 p9 j) (PySem.BadX.sco par) .none .none doc pm an (.ref cda) ct cc), osl⟩) (cd : PySem.W.codeIn K (.ref cda) qual = true) (ha0 : (pa.posonlyargs ++ pa.args).head? = some a0) (ha1 : a0.arg = "self")
    (bd : ∀ (s : Shared) (u v : Value), BindsTo s (PySem.W.ksFn "__init__" qual pa (PySem.BadX.shape tx par fl p0 p1 p2 p3 p4 p5 p6 p7 p8 p9 j) (PySem.BadX.sco par) .none .none doc pm an (.ref cda) ct cc) ⟨[u, v], []⟩ [("self", u), (par, v)])
    (lc : K.lookup cda = some ⟨ccl, cdd, .fields vs, ccs⟩) (hvs : vs[2]? = some (.str file tf)) (hfile : ((P.main.file : Str) == file) = true) (hpe : (p2.endLine == p4.line) = true) (lcc : K.lookup cc = some ⟨cl, cld, .cell (some (.ref C)), csl⟩) : PySem.BadX.Txt P K mg par fl C fI :=
  { cls := ⟨nm, q, N, bs, bm, sn, sub, ab, col, dd, m0, m1, m2, m3, m5, cls, ref⟩, sa := sa, ga := ga, gg := gg, noN := noN, iC := iC, tC := tC, kC := kC, exC := exC, veC := veC, slf := slf, tyC := tyC, hdC := hdC, te := exm_me exC isC tyC sC, along := along, opq := opq, sup := PySem.W.mg_none_of X G sup, top := top,
    fn := ⟨oc, od, qual, tx, doc, pm, an, cda, cc, ct, osl, pa, p0, p1, p2, p3, p4, p5, p6, p7, p8, p9, j, a0, lf, cd, ha0, ha1, bd, ⟨ccl, cdd, vs, ccs, file, tf, lc, hvs, hfile⟩, hpe, ⟨cl, cld, csl, lcc⟩⟩ }
theorem ex_int {K : PySem.W.Frag} {h : Heap} {mg : Str → Option Value} {x : Str} {n : Int} {t : Tok} (X : K.In h) (G : h.Ns mainGlobals mg) (a : PySem.W.nsIn K mainGlobals x = some (some (.int n t))) : ∃ t, mg x = some (.int n t) := ⟨_, PySem.W.mg_of X G a⟩
theorem ex_str {K : PySem.W.Frag} {h : Heap} {mg : Str → Option Value} {x z : Str} {t : Tok} (X : K.In h) (G : h.Ns mainGlobals mg) (a : PySem.W.nsIn K mainGlobals x = some (some (.str z t))) : ∃ t, mg x = some (.str z t) := ⟨_, PySem.W.mg_of X G a⟩
/-- an own error without an __init__, beneath another one -/
theorem exc_mk {K : PySem.W.Frag} {C D N N2 : Addr} {nm q nm2 q2 : Str} {bs bs2 sub sub2 : List Value} {hd ab hd2 ab2 : Bool} {sn sn2 : List Str} {col col2 : Option Bool} {dd dd2 : Option Addr} {k0 k1 k2 k3 k5 l0 l1 l2 l3 l5 : Option Value} {nid2 : String}
    {oN oM : Value} {dN dM : Option Addr} {es es2 : Array DictEntry} {nn nn2 : Nat} {slN slM : Array (Option Value)}
    (h1 : K.lookup C = some (excClassObj nm q C N bs (.ref D :: veB) hd sn sub ab col dd k0 k1 k2 k3 k5 "ValueError.__new__")) (h2 : K.lookup N = some ⟨oN, dN, .dict es nn, slN⟩) (h3 : (es.toList.all fun e => match e.key with | .str _ _ => true | _ => false) = true) (h4 : PySem.W.nsIn K N "__init__" = some none)
    (h5 : K.lookup D = some (excClassObj nm2 q2 D N2 bs2 veB hd2 sn2 sub2 ab2 col2 dd2 l0 l1 l2 l3 l5 nid2)) (h6 : K.lookup N2 = some ⟨oM, dM, .dict es2 nn2, slM⟩) (h7 : (es2.toList.all fun e => match e.key with | .str _ _ => true | _ => false) = true) (h8 : PySem.W.nsIn K N2 "__init__" = some none) :
    PySem.W.excIn K C veB "ValueError.__new__" = true := by
  have n1 : PySem.W.nsOkIn K N = true := by unfold PySem.W.nsOkIn; rw [h2]; exact (Array.all_toList ..).symm.trans h3
  have n2 : PySem.W.nsOkIn K N2 = true := by unfold PySem.W.nsOkIn; rw [h6]; exact (Array.all_toList ..).symm.trans h7
  have t0 : PySem.W.tailIn K veB veB = true := by unfold PySem.W.tailIn; rfl
  have t : PySem.W.tailIn K veB (.ref D :: veB) = true := by
    unfold PySem.W.tailIn
    dsimp only
    rw [h5]
    simp [excClassObj, n2, h8, t0]
  unfold PySem.W.excIn
  rw [h1]
  simp [excClassObj, t, n1, h4]
end Ash

set_option Elab.async false
set_option linter.all false
set_option maxRecDepth 100000
set_option maxHeartbeats 4000000
namespace Ash
open PySem PySem.Spec PyProof.Rows L2
section
variable {P : Program} {w : World} {K : PySem.W.Frag} {mg : Str → Option Value} {base : Heap}
theorem all_ok {CB CJ CE CO CD CI CY CS CM CN CT fE fI fY fS fM fN aT aE fBeq : Addr}
    (B : Blt mg)
    (Cs : Cst mg)
    (TB : Cb K mg CB)
    (T : Cj P K mg CJ CB)
    (Tt : Tb K mg aT)
    (cE : mg "BadEntry" = some (.ref CE))
    (TE : PySem.BadX.Txt P K mg "at" "at" CE fE)
    (bi : BkI K CB)
    (ji : BkI K CJ)
    (mkB : PySem.W.makesIn K CB = true)
    (kB : PySem.W.keepIn K (.ref CB) = true)
    (C2 : Cst2 mg)
    (C3 : Cst3 mg)
    (TO : Co K mg CO)
    (TD : Cd K mg CD)
    (cI : mg "Idle" = some (.ref CI))
    (cY : mg "Busy" = some (.ref CY))
    (cS : mg "Stale" = some (.ref CS))
    (cM : mg "BadMoment" = some (.ref CM))
    (cN : mg "BadName" = some (.ref CN))
    (cT : mg "NothingDone" = some (.ref CT))
    (TI : PySem.BadX.Txt P K mg "writer" "writer" CI fI)
    (TY : PySem.BadX.Txt P K mg "writer" "writer" CY fY)
    (TS : PySem.BadX.Txt P K mg "number" "id" CS fS)
    (TM : PySem.BadX.Txt P K mg "value" "value" CM fM)
    (TN : PySem.BadX.Txt P K mg "value" "value" CN fN)
    (xT : PySem.W.excIn K CT veB "ValueError.__new__" = true)
    (kT : PySem.W.keepIn K (.ref CT) = true)
    (bT : PySem.W.subIn K (.ref CT) (.type "BaseException") = some true)
    (tT : PySem.W.typeIn K (.ref CT) = some (.type "type"))
    (nTT : PySem.W.exmOne K (.ref CT) (.ref CT) = some true)
    (nYI : PySem.W.exmOne K (.ref CY) (.ref CI) = some false)
    (nSI : PySem.W.exmOne K (.ref CS) (.ref CI) = some false)
    (nSY : PySem.W.exmOne K (.ref CS) (.ref CY) = some false)
    (nEI : PySem.W.exmOne K (.ref CE) (.ref CI) = some false)
    (nEY : PySem.W.exmOne K (.ref CE) (.ref CY) = some false)
    (nES : PySem.W.exmOne K (.ref CE) (.ref CS) = some false)
    (nMI : PySem.W.exmOne K (.ref CM) (.ref CI) = some false)
    (nMY : PySem.W.exmOne K (.ref CM) (.ref CY) = some false)
    (nMS : PySem.W.exmOne K (.ref CM) (.ref CS) = some false)
    (nME : PySem.W.exmOne K (.ref CM) (.ref CE) = some false)
    (nNI : PySem.W.exmOne K (.ref CN) (.ref CI) = some false)
    (nNY : PySem.W.exmOne K (.ref CN) (.ref CY) = some false)
    (nNS : PySem.W.exmOne K (.ref CN) (.ref CS) = some false)
    (nNE : PySem.W.exmOne K (.ref CN) (.ref CE) = some false)
    (nNM : PySem.W.exmOne K (.ref CN) (.ref CM) = some false)
    (nTI : PySem.W.exmOne K (.ref CT) (.ref CI) = some false)
    (nTY : PySem.W.exmOne K (.ref CT) (.ref CY) = some false)
    (nTS : PySem.W.exmOne K (.ref CT) (.ref CS) = some false)
    (nTE : PySem.W.exmOne K (.ref CT) (.ref CE) = some false)
    (nTM : PySem.W.exmOne K (.ref CT) (.ref CM) = some false)
    (nTN : PySem.W.exmOne K (.ref CT) (.ref CN) = some false)
    (mkD : PySem.W.makesIn K CD = true)
    (kD : PySem.W.keepIn K (.ref CD) = true)
    (m_OI : DN K CO "Office.__init__" s_Office_init)
    (d_is_integer : D1 K mg "is_integer" s_is_integer)
    (d_is_natural : D1 K mg "is_natural" s_is_natural)
    (d_is_name : D1 K mg "is_name" s_is_name)
    (d_are_integers : D1 K mg "are_integers" s_are_integers)
    (d_is_late : D1 K mg "is_late" s_is_late)
    (d_is_lates : D1 K mg "is_lates" s_is_lates)
    (d_is_entry : D1 K mg "is_entry" s_is_entry)
    (d_arrival_of : D1 K mg "arrival_of" s_arrival_of)
    (d_placed : D1 K mg "placed" s_placed)
    (d_row_behind : D1 K mg "row_behind" s_row_behind)
    (d_walked : D1 K mg "walked" s_walked)
    (d_is_row : D1 K mg "is_row" s_is_row)
    (m_Init : DM K CB "__init__" "Book.__init__" s_Book_init)
    (m_Has : DM K CB "has" "Book.has" s_Book_has)
    (m_Late : DM K CB "late" "Book.late" s_Book_late)
    (m_J : DD K CJ aE "Journal.__init__" s_Journal_init)
    (m_Then : DM K CJ "then" "Journal.then" s_Journal_then)
    (m_Len : DM K CJ "__len__" "Journal.__len__" s_Journal_len)
    (m_Beq : DQ K CB fBeq "__eq__" "Book.__eq__" s_Book_eq)
    (bne : NeC K CB fBeq)
    (m_DInit : DM K CD "__init__" "Draft.__init__" s_Draft_init)
    (m_DraftOf : DM K CO "_draft_of" "Office._draft_of" s_Officedraft_of)
    (m_Begin : DM K CO "begin" "Office.begin" s_Office_begin)
    (m_Put : DM K CO "_put" "Office._put" s_Officeput)
    (m_Row : DM K CO "row" "Office.row" s_Office_row)
    (m_Fix : DM K CO "fix" "Office.fix" s_Office_fix)
    (m_Gone : DM K CO "gone" "Office.gone" s_Office_gone)
    (m_Drop : DM K CO "drop" "Office.drop" s_Office_drop)
    (m_Tell : DM K CO "draft" "Office.draft" s_Office_draft)
    (m_Writers : DM K CO "writers" "Office.writers" s_Office_writers)
    (m_Fresh : DM K CO "_check_fresh" "Office._check_fresh" s_Officecheck_fresh)
    (m_Behind : DM K CO "_journal_behind" "Office._journal_behind" s_Officejournal_behind)
    (m_Close : DM K CO "close" "Office.close" s_Office_close)
    (m_Undo : DM K CO "undo" "Office.undo" s_Office_undo)
    (d__law_called : D1 K mg "_law_called" s_l_called)
    (d__law_done : D1 K mg "_law_done" s_l_done)
    (d__law_put_in : D1 K mg "_law_put_in" s_l_put_in)
    (d__law_pool : D1 K mg "_law_pool" s_l_pool)
    (d__law_draw : D1 K mg "_law_draw" s_l_draw)
    (d__law_names : D1 K mg "_law_names" s_l_names)
    (d__law_lates : D1 K mg "_law_lates" s_l_lates)
    (d__law_amount : D1 K mg "_law_amount" s_l_amount)
    (d__law_entry : D1 K mg "_law_entry" s_l_entry)
    (d__law_put : D1 K mg "_law_put" s_l_put)
    (d__law_entries : D1 K mg "_law_entries" s_l_entries)
    (d__law_states : D1 K mg "_law_states" s_l_states)
    (d__law_drafted : D1 K mg "_law_drafted" s_l_drafted)
    (d__law_is_good : D1 K mg "_law_is_good" s_l_is_good)
    (d__law_bad_from : D1 K mg "_law_bad_from" s_l_bad_from)
    (d__law_closed : D1 K mg "_law_closed" s_l_closed)
    {f : Addr} {fd : FuncData} (F_law : Fun K "law" "law" s_law f fd) : FnOk P w K mg base CX0 16 f fd ["_law_script"] (spLawN K) := by
  have bk : ∀ H b dx fs, H b = some (.ins CB dx fs) → TyX K H (.ref b) (.ref CB) := fun H b dx fs h => .base (.ins h TB.cl bi.ha bi.hn bi.ht bi.hm)
  have jk : ∀ H b dx fs, H b = some (.ins CJ dx fs) → TyX K H (.ref b) (.ref CJ) := fun H b dx fs h => .base (.ins h T.cl ji.ha ji.hn ji.ht ji.hm)
  have c_is_integer := cal_of (P := P) (w := w) (base := base) (ps := ["thing"]) d_is_integer (fun _ _ _ _ _ _ us hl => match us, hl with | [_], _ => rfl) fun f fd F => ok_is_integer F B
  have k1 : K1 P w K mg base := ⟨c_is_integer⟩
  have c_is_natural := cal_of (P := P) (w := w) (base := base) (ps := ["thing"]) d_is_natural (fun _ _ _ _ _ _ us hl => match us, hl with | [_], _ => rfl) fun f fd F => ok_is_natural F B k1
  have c_is_name := cal_of (P := P) (w := w) (base := base) (ps := ["thing"]) d_is_name (fun _ _ _ _ _ _ us hl => match us, hl with | [_], _ => rfl) fun f fd F => ok_is_name F B Cs
  have k2 : K2 P w K mg base := ⟨k1, c_is_natural, c_is_name⟩
  have c_are_integers := cal_of (P := P) (w := w) (base := base) (ps := ["things"]) d_are_integers (fun _ _ _ _ _ _ us hl => match us, hl with | [_], _ => rfl) fun f fd F => ok_are_integers F B k2
  have c_is_late := cal_of (P := P) (w := w) (base := base) (ps := ["thing"]) d_is_late (fun _ _ _ _ _ _ us hl => match us, hl with | [_], _ => rfl) fun f fd F => ok_is_late F B Cs k2
  have k3 : K3 P w K mg base := ⟨k2, c_are_integers, c_is_late⟩
  have c_is_lates := cal_of (P := P) (w := w) (base := base) (ps := ["thing"]) d_is_lates (fun _ _ _ _ _ _ us hl => match us, hl with | [_], _ => rfl) fun f fd F => ok_is_lates F B Cs k3
  have k4 : K4 P w K mg base := ⟨k3, c_is_lates⟩
  obtain ⟨fInit, fdInit, mInit, FInit⟩ := m_Init.ex
  have bInit : Binds K fdInit ["self", "lates"] [] := FInit.binds (ps := ["self", "lates"]) fun _ _ _ _ _ _ us hl => match us, hl with | [_, _], _ => rfl
  have oInit := ok_book_init (P := P) (w := w) (base := base) FInit B TB k4
  obtain ⟨fHas, fdHas, mHas, FHas⟩ := m_Has.ex
  have bHas : Binds K fdHas ["self", "stream"] [] := FHas.binds (ps := ["self", "stream"]) fun _ _ _ _ _ _ us hl => match us, hl with | [_, _], _ => rfl
  have oHas := ok_book_has (P := P) (w := w) (base := base) FHas B TB k4
  obtain ⟨fLate, fdLate, mLate, FLate⟩ := m_Late.ex
  have bLate : Binds K fdLate ["self", "stream"] [] := FLate.binds (ps := ["self", "stream"]) fun _ _ _ _ _ _ us hl => match us, hl with | [_, _], _ => rfl
  have oLate := ok_book_late (P := P) (w := w) (base := base) FLate B TB mHas bHas oHas
  have c_is_entry := cal_of (P := P) (w := w) (base := base) (ps := ["thing"]) d_is_entry (fun _ _ _ _ _ _ us hl => match us, hl with | [_], _ => rfl) fun f fd F => ok_is_entry F B k4.toK3
  have c_arrival_of := cal_of (P := P) (w := w) (base := base) (ps := ["entry"]) d_arrival_of (fun _ _ _ _ _ _ us hl => match us, hl with | [_], _ => rfl) fun f fd F => ok_arrival_of F B
  have c_placed := cal_of (P := P) (w := w) (base := base) (ps := ["book", "row", "arrival"]) d_placed (fun _ _ _ _ _ _ us hl => match us, hl with | [_, _, _], _ => rfl) fun f fd F => ok_placed F B TB mLate bLate oLate
  have k5 : K5 P w K mg base CB := ⟨k4, c_is_entry, c_arrival_of, c_placed⟩
  have c_row_behind := cal_of (P := P) (w := w) (base := base) (ps := ["book", "entry", "old"]) d_row_behind (fun _ _ _ _ _ _ us hl => match us, hl with | [_, _, _], _ => rfl) fun f fd F => ok_row_behind F B TB Tt k5 mHas bHas oHas mLate bLate oLate
  have k6 : K6 P w K mg base CB aT := ⟨k5, c_row_behind⟩
  have c_walked := cal_of (P := P) (w := w) (base := base) (ps := ["book", "things"]) d_walked (fun _ _ _ _ _ _ us hl => match us, hl with | [_, _], _ => rfl) fun f fd F => ok_walked F B k6
  have c_is_row := cal_of (P := P) (w := w) (base := base) (ps := ["thing"]) d_is_row (fun _ _ _ _ _ _ us hl => match us, hl with | [_], _ => rfl) fun f fd F => ok_is_row F B
  have k7 : K7 P w K mg base CB aT := ⟨k6, c_walked, c_is_row⟩
  obtain ⟨fJ, fdJ, mJ, FJ⟩ := m_J.ex
  have oJ := ok_j_initN (P := P) (w := w) (base := base) FJ B Cs T TB TE cE bk k7
  obtain ⟨ds3, v3, bJ3⟩ := FJ.binds1 (ps := ["self", "book", "entries"]) 3 1 (by simp) rfl fun T kV doc pm an cdv ct us its h1 h2 => match us, its, h1, h2 with | [_, _, _], [_], _, _ => ⟨_, rfl, rfl⟩
  cases v3
  have k8n : K8N P w K mg base CB aT CJ CE := ⟨k7, ⟨fJ, fdJ, mJ, T.c, bJ3, oJ⟩⟩
  obtain ⟨fDInit, fdDInit, mDInit, FDInit⟩ := m_DInit.ex
  have bDInit : Binds K fdDInit ["self", "begun"] [] := FDInit.binds (ps := ["self", "begun"]) fun _ _ _ _ _ _ us hl => match us, hl with | [_, _], _ => rfl
  have oDInit := ok_draft_init (P := P) (w := w) (base := base) FDInit TD
  have go : GO P w mg base (⟨K, aT, CJ, CB, CO, CD⟩ : Cls6) CE CI CN CY fE fI fN fY := { toK8N := k8n, T := TO, TB := TB, TJ := T, TD := TD, TE := TE, TI := TI, TN := TN, TY := TY, c_BadEntry := cE, c_Idle := cI, c_BadName := cN, c_Busy := cY, Draft := ⟨fDInit, fdDInit, ⟨mkD, mDInit.at_, mDInit.fn, kD⟩, TD.c, bDInit, oDInit⟩, has := ⟨fHas, fdHas, mHas, bHas, oHas⟩, C1 := Cs, C2 := C2 }
  obtain ⟨fDraftOf, fdDraftOf, mDraftOf, FDraftOf⟩ := m_DraftOf.ex
  have bDraftOf : Binds K fdDraftOf ["self", "writer"] [] := FDraftOf.binds (ps := ["self", "writer"]) fun _ _ _ _ _ _ us hl => match us, hl with | [_, _], _ => rfl
  have oDraftOf := ok_draftO (P := P) (w := w) (base := base) (c := ⟨K, aT, CJ, CB, CO, CD⟩) FDraftOf go
  have go2 : GO2 P w mg base (⟨K, aT, CJ, CB, CO, CD⟩ : Cls6) CE CI CN CY fE fI fN fY := ⟨go, ⟨fDraftOf, fdDraftOf, mDraftOf, bDraftOf, oDraftOf⟩⟩
  obtain ⟨fBegin, fdBegin, mBegin, FBegin⟩ := m_Begin.ex
  have bBegin : Binds K fdBegin ["self", "writer"] [] := FBegin.binds (ps := ["self", "writer"]) fun _ _ _ _ _ _ us hl => match us, hl with | [_, _], _ => rfl
  have oBegin := ok_beginO (P := P) (w := w) (base := base) (c := ⟨K, aT, CJ, CB, CO, CD⟩) FBegin go
  obtain ⟨fPut, fdPut, mPut, FPut⟩ := m_Put.ex
  have bPut : Binds K fdPut ["self", "writer", "entry"] [] := FPut.binds (ps := ["self", "writer", "entry"]) fun _ _ _ _ _ _ us hl => match us, hl with | [_, _, _], _ => rfl
  have oPut := ok_putO (P := P) (w := w) (base := base) (c := ⟨K, aT, CJ, CB, CO, CD⟩) FPut B go2
  have go3 : GO3 P w mg base (⟨K, aT, CJ, CB, CO, CD⟩ : Cls6) CE CI CN CY fE fI fN fY := ⟨go2, ⟨fPut, fdPut, mPut, bPut, oPut⟩⟩
  obtain ⟨fRow, fdRow, mRow, FRow⟩ := m_Row.ex
  have bRow : Binds K fdRow ["self", "writer", "number", "stream", "key", "moment", "amount"] [] := FRow.binds (ps := ["self", "writer", "number", "stream", "key", "moment", "amount"]) fun _ _ _ _ _ _ us hl => match us, hl with | [_, _, _, _, _, _, _], _ => rfl
  have oRow := ok_rowO (P := P) (w := w) (base := base) (c := ⟨K, aT, CJ, CB, CO, CD⟩) FRow go3
  obtain ⟨fFix, fdFix, mFix, FFix⟩ := m_Fix.ex
  have bFix : Binds K fdFix ["self", "writer", "number", "moment", "amount"] [] := FFix.binds (ps := ["self", "writer", "number", "moment", "amount"]) fun _ _ _ _ _ _ us hl => match us, hl with | [_, _, _, _, _], _ => rfl
  have oFix := ok_fixO (P := P) (w := w) (base := base) (c := ⟨K, aT, CJ, CB, CO, CD⟩) FFix go3
  obtain ⟨fGone, fdGone, mGone, FGone⟩ := m_Gone.ex
  have bGone : Binds K fdGone ["self", "writer", "number"] [] := FGone.binds (ps := ["self", "writer", "number"]) fun _ _ _ _ _ _ us hl => match us, hl with | [_, _, _], _ => rfl
  have oGone := ok_goneO (P := P) (w := w) (base := base) (c := ⟨K, aT, CJ, CB, CO, CD⟩) FGone go3
  obtain ⟨fDrop, fdDrop, mDrop, FDrop⟩ := m_Drop.ex
  have bDrop : Binds K fdDrop ["self", "writer"] [] := FDrop.binds (ps := ["self", "writer"]) fun _ _ _ _ _ _ us hl => match us, hl with | [_, _], _ => rfl
  have oDrop := ok_dropO (P := P) (w := w) (base := base) (c := ⟨K, aT, CJ, CB, CO, CD⟩) FDrop go2
  obtain ⟨fTell, fdTell, mTell, FTell⟩ := m_Tell.ex
  have bTell : Binds K fdTell ["self", "writer"] [] := FTell.binds (ps := ["self", "writer"]) fun _ _ _ _ _ _ us hl => match us, hl with | [_, _], _ => rfl
  have oTell := ok_tellO (P := P) (w := w) (base := base) (c := ⟨K, aT, CJ, CB, CO, CD⟩) FTell go2
  obtain ⟨fWriters, fdWriters, mWriters, FWriters⟩ := m_Writers.ex
  have bWriters : Binds K fdWriters ["self"] [] := FWriters.binds (ps := ["self"]) fun _ _ _ _ _ _ us hl => match us, hl with | [_], _ => rfl
  have oWriters := ok_writersO (P := P) (w := w) (base := base) (c := ⟨K, aT, CJ, CB, CO, CD⟩) FWriters B TO
  obtain ⟨fFresh, fdFresh, mFresh, FFresh⟩ := m_Fresh.ex
  have bFresh : Binds K fdFresh ["self", "draft"] [] := FFresh.binds (ps := ["self", "draft"]) fun _ _ _ _ _ _ us hl => match us, hl with | [_, _], _ => rfl
  have oFresh := ok_freshO (P := P) (w := w) (base := base) (c := ⟨K, aT, CJ, CB, CO, CD⟩) FFresh C3 TO TD T TS (⟨by decide, by decide +kernel, by decide +kernel, by decide +kernel, by decide +kernel⟩ : PySem.BadX.Par "number") cS
  obtain ⟨fThen, fdThen, mThen, FThen⟩ := m_Then.ex
  have bThen : Binds K fdThen ["self", "entry"] [] := FThen.binds (ps := ["self", "entry"]) fun _ _ _ _ _ _ us hl => match us, hl with | [_, _], _ => rfl
  have oThen := ok_thenN (P := P) (w := w) (base := base) FThen B Cs T TE cE k8n
  have go4 : GO4 P w mg base (⟨K, aT, CJ, CB, CO, CD⟩ : Cls6) CE fE := ⟨TO, T, TE, cE, ⟨fThen, fdThen, mThen, bThen, oThen⟩⟩
  obtain ⟨fBehind, fdBehind, mBehind, FBehind⟩ := m_Behind.ex
  have bBehind : Binds K fdBehind ["self", "entries"] [] := FBehind.binds (ps := ["self", "entries"]) fun _ _ _ _ _ _ us hl => match us, hl with | [_, _], _ => rfl
  have oBehind := ok_behindO (P := P) (w := w) (base := base) (c := ⟨K, aT, CJ, CB, CO, CD⟩) FBehind B go4
  obtain ⟨fLen, fdLen, mLen, FLen⟩ := m_Len.ex
  have bLen : Binds K fdLen ["self"] [] := FLen.binds (ps := ["self"]) fun _ _ _ _ _ _ us hl => match us, hl with | [_], _ => rfl
  have oLen := ok_jlen (P := P) (w := w) (base := base) (aT := aT) FLen B T
  have go5 : GO5 P w mg base (⟨K, aT, CJ, CB, CO, CD⟩ : Cls6) CI CM CS CE fM := ⟨TO, T, TD, TM, cM, c_is_integer, ⟨fDraftOf, fdDraftOf, mDraftOf, bDraftOf, oDraftOf⟩, ⟨fFresh, fdFresh, mFresh, bFresh, oFresh⟩, ⟨fBehind, fdBehind, mBehind, bBehind, oBehind⟩⟩
  obtain ⟨fClose, fdClose, mClose, FClose⟩ := m_Close.ex
  have bClose : Binds K fdClose ["self", "writer", "arrival"] [] := FClose.binds (ps := ["self", "writer", "arrival"]) fun _ _ _ _ _ _ us hl => match us, hl with | [_, _, _], _ => rfl
  have oClose := ok_closeO (P := P) (w := w) (base := base) (c := ⟨K, aT, CJ, CB, CO, CD⟩) FClose B go5 oLen mLen.at_ mLen.fn bLen
  have go6 : GO6 P w mg base (⟨K, aT, CJ, CB, CO, CD⟩ : Cls6) CT CE := { toK8N := k8n, T := TO, TJ := T, xT := xT, gT := cT, kT := kT, bT := bT, tT := tT }
  obtain ⟨fUndo, fdUndo, mUndo, FUndo⟩ := m_Undo.ex
  have bUndo : Binds K fdUndo ["self"] [] := FUndo.binds (ps := ["self"]) fun _ _ _ _ _ _ us hl => match us, hl with | [_], _ => rfl
  have oUndo := ok_undoO (P := P) (w := w) (base := base) (c := ⟨K, aT, CJ, CB, CO, CD⟩) FUndo B go6
  obtain ⟨fdBeq, mBeq, FBeq⟩ := m_Beq.ex
  have bBeq : Binds K fdBeq ["self", "other"] [] := FBeq.binds (ps := ["self", "other"]) fun _ _ _ _ _ _ us hl => match us, hl with | [_, _], _ => rfl
  have oBeq := ok_book_eqV (P := P) (w := w) (base := base) FBeq B TB bk
  obtain ⟨fOI, fdOI, mOI, FOI⟩ := m_OI.ex
  have oOI := ok_ofInit (P := P) (w := w) (base := base) (c := ⟨K, aT, CJ, CB, CO, CD⟩) FOI B TO TB T bk jk oLen mLen.at_ mLen.fn bLen bne bBeq oBeq
  obtain ⟨ds4, v4, bOI⟩ := FOI.binds1 (ps := ["self", "book", "journal"]) 3 1 (by simp) rfl fun T kV doc pm an cdv ct us its h1 h2 => match us, its, h1, h2 with | [_, _, _], [_], _, _ => ⟨_, rfl, rfl⟩
  cases v4
  have gc : GC P w mg base (⟨K, aT, CJ, CB, CO, CD⟩ : Cls6) (⟨CI, CY, CS, CE, CM, CN, CT⟩ : Errs) := ⟨TO, ⟨fBegin, fdBegin, mBegin, bBegin, oBegin⟩, ⟨fRow, fdRow, mRow, bRow, oRow⟩, ⟨fFix, fdFix, mFix, bFix, oFix⟩, ⟨fGone, fdGone, mGone, bGone, oGone⟩, ⟨fDrop, fdDrop, mDrop, bDrop, oDrop⟩, ⟨fUndo, fdUndo, mUndo, bUndo, oUndo⟩, ⟨fClose, fdClose, mClose, bClose, oClose⟩, ⟨fTell, fdTell, mTell, bTell, oTell⟩⟩
  have c__law_called := cal_of (P := P) (w := w) (base := base) (ps := ["_law_which", "_law_office", "_law_given"]) d__law_called (fun _ _ _ _ _ _ us hl => match us, hl with | [_, _, _], _ => rfl) fun f fd F => ok_called (c := ⟨K, aT, CJ, CB, CO, CD⟩) (e := ⟨CI, CY, CS, CE, CM, CN, CT⟩) F gc
  have ge : GE P K mg (⟨CI, CY, CS, CE, CM, CN, CT⟩ : Errs) fI fY fS fE fM fN := ⟨TI, TY, TS, TE, TM, TN, cI, cY, cS, cE, cM, cN, cT, nYI, nSI, nSY, nEI, nEY, nES, nMI, nMY, nMS, nME, nNI, nNY, nNS, nNE, nNM, nTI, nTY, nTS, nTE, nTM, nTN, nTT⟩
  have c__law_done := cal_of (P := P) (w := w) (base := base) (ps := ["_law_which", "_law_office", "_law_given"]) d__law_done (fun _ _ _ _ _ _ us hl => match us, hl with | [_, _, _], _ => rfl) fun f fd F => ok_done (c := ⟨K, aT, CJ, CB, CO, CD⟩) (e := ⟨CI, CY, CS, CE, CM, CN, CT⟩) F c__law_called ge
  have gpi : GP P w mg base (⟨K, aT, CJ, CB, CO, CD⟩ : Cls6) (⟨CI, CY, CS, CE, CM, CN, CT⟩ : Errs) := ⟨c__law_done⟩
  have c__law_put_in := cal_of (P := P) (w := w) (base := base) (ps := ["_law_office", "_law_writer", "_law_entry_here"]) d__law_put_in (fun _ _ _ _ _ _ us hl => match us, hl with | [_, _, _], _ => rfl) fun f fd F => ok_putIn (c := ⟨K, aT, CJ, CB, CO, CD⟩) (e := ⟨CI, CY, CS, CE, CM, CN, CT⟩) F gpi
  have c__law_pool := cal_of (P := P) (w := w) (base := base) (ps := ["_law_script"]) d__law_pool (fun _ _ _ _ _ _ us hl => match us, hl with | [_], _ => rfl) fun f fd F => ok_pool F B
  have c__law_draw := cal_of (P := P) (w := w) (base := base) (ps := ["_law_pool_here", "_law_many"]) d__law_draw (fun _ _ _ _ _ _ us hl => match us, hl with | [_, _], _ => rfl) fun f fd F => ok_draw F B
  have g1 : G1 P w K mg base := ⟨c__law_draw⟩
  have c__law_names := cal_of (P := P) (w := w) (base := base) (ps := ["_law_pool_here", "_law_many"]) d__law_names (fun _ _ _ _ _ _ us hl => match us, hl with | [_, _], _ => rfl) fun f fd F => ok_names F B g1
  have g2 : G2 P w K mg base := ⟨g1, c__law_names⟩
  have c__law_lates := cal_of (P := P) (w := w) (base := base) (ps := ["_law_pool_here"]) d__law_lates (fun _ _ _ _ _ _ us hl => match us, hl with | [_], _ => rfl) fun f fd F => ok_lates F B g2
  have c__law_amount := cal_of (P := P) (w := w) (base := base) (ps := ["_law_pool_here"]) d__law_amount (fun _ _ _ _ _ _ us hl => match us, hl with | [_], _ => rfl) fun f fd F => ok_amount F B g2
  have g3 : G3 P w K mg base := ⟨g2, c__law_lates, c__law_amount⟩
  have c__law_entry := cal_of (P := P) (w := w) (base := base) (ps := ["_law_pool_here", "_law_lates_here", "_law_keys", "_law_states_here", "_law_number", "_law_arrival"]) d__law_entry (fun _ _ _ _ _ _ us hl => match us, hl with | [_, _, _, _, _, _], _ => rfl) fun f fd F => ok_entry F B g3
  have c__law_put := cal_of (P := P) (w := w) (base := base) (ps := ["_law_states_here", "_law_entry_here"]) d__law_put (fun _ _ _ _ _ _ us hl => match us, hl with | [_, _], _ => rfl) fun f fd F => ok_put F B
  have g4 : G4 P w K mg base := ⟨g3, c__law_entry, c__law_put⟩
  have c__law_entries := cal_of (P := P) (w := w) (base := base) (ps := ["_law_pool_here", "_law_lates_here", "_law_keys", "_law_states_here", "_law_number", "_law_arrival", "_law_many"]) d__law_entries (fun _ _ _ _ _ _ us hl => match us, hl with | [_, _, _, _, _, _, _], _ => rfl) fun f fd F => ok_entries F B g4
  have c_putk := cal_of (P := P) (w := w) (base := base) (ps := ["_law_states_here", "_law_entry_here"]) d__law_put (fun _ _ _ _ _ _ us hl => match us, hl with | [_, _], _ => rfl) fun f fd F => ok_putk F B
  have g4k : G4k P w K mg base := ⟨c_putk⟩
  have c__law_states := cal_of (P := P) (w := w) (base := base) (ps := ["_law_entries_here"]) d__law_states (fun _ _ _ _ _ _ us hl => match us, hl with | [_], _ => rfl) fun f fd F => ok_states F B g4k
  have g6d : G6d P w K mg base := ⟨g3, c__law_states⟩
  have c__law_drafted := cal_of (P := P) (w := w) (base := base) (ps := ["_law_pool_here", "_law_lates_here", "_law_keys", "_law_entries_here", "_law_number", "_law_now"]) d__law_drafted (fun _ _ _ _ _ _ us hl => match us, hl with | [_, _, _, _, _, _], _ => rfl) fun f fd F => ok_drafted F B g6d
  have c__law_is_good := cal_of (P := P) (w := w) (base := base) (ps := ["_law_lates_here", "_law_states_here", "_law_last", "_law_entry_here"]) d__law_is_good (fun _ _ _ _ _ _ us hl => match us, hl with | [_, _, _, _], _ => rfl) fun f fd F => ok_good F B
  have g7d : G7d P w K mg base := ⟨c_putk, c__law_is_good⟩
  have c__law_bad_from := cal_of (P := P) (w := w) (base := base) (ps := ["_law_lates_here", "_law_entries_here", "_law_begin_here"]) d__law_bad_from (fun _ _ _ _ _ _ us hl => match us, hl with | [_, _, _], _ => rfl) fun f fd F => ok_bad F B g7d
  have gk : GK P w mg base (⟨K, aT, CJ, CB, CO, CD⟩ : Cls6) (⟨CI, CY, CS, CE, CM, CN, CT⟩ : Errs) := ⟨TO, ⟨fBegin, fdBegin, mBegin, bBegin, oBegin⟩, ⟨fDrop, fdDrop, mDrop, bDrop, oDrop⟩, c__law_draw, c__law_drafted, c__law_put_in, c__law_bad_from, c__law_done⟩
  have c__law_closed := cal_of (P := P) (w := w) (base := base) (ps := ["_law_pool_here", "_law_office", "_law_lates_here", "_law_keys", "_law_entries_here", "_law_number", "_law_now"]) d__law_closed (fun _ _ _ _ _ _ us hl => match us, hl with | [_, _, _, _, _, _, _], _ => rfl) fun f fd F => ok_closed (c := ⟨K, aT, CJ, CB, CO, CD⟩) (e := ⟨CI, CY, CS, CE, CM, CN, CT⟩) F B gk
  have gl : GL P w mg base (⟨K, aT, CJ, CB, CO, CD⟩ : Cls6) (⟨CI, CY, CS, CE, CM, CN, CT⟩ : Errs) := { toG3 := g3, law_pool := c__law_pool, law_entries := c__law_entries, law_done := c__law_done, law_closed := c__law_closed, Book := ⟨fInit, fdInit, ⟨mkB, mInit.at_, mInit.fn, kB⟩, TB.c, bInit, oInit⟩, Journal := makN k8n.Journal, Office := ⟨fOI, fdOI, mOI, TO.c, bOI, oOI⟩, writers := ⟨fWriters, fdWriters, mWriters, bWriters, oWriters⟩, T := TO, TJ := T }
  exact ok_law (c := ⟨K, aT, CJ, CB, CO, CD⟩) (e := ⟨CI, CY, CS, CE, CM, CN, CT⟩) F_law B gl
end
theorem all_mk {P : Program} {w : World} {K : PySem.W.Frag} {h : Heap} {mg : Str → Option Value} {fa CB CJ CE CO CD CI CY CS CM CN CT fE fI fY fS fM fN aT aE fBeq f4 : Addr} {oc4 kV4 dc4 pm4 cd4 ct4 : Value} {od4 an4 : Option Addr} {sl4 : Array (Option Value)} (X : K.In h) (G : h.Ns mainGlobals mg) (hfa : mg "law" = some (.ref fa))
    (a4 : PySem.W.nsIn K mainGlobals "law" = some (some (.ref f4))) (l4 : K.lookup f4 = some ⟨oc4, od4, .func (PySem.W.fnOf "law" "law" (defArgs s_law) (defBody s_law) (defScope s_law) .none kV4 dc4 pm4 an4 cd4 ct4), sl4⟩) (c4 : PySem.W.codeIn K cd4 "law" = true) (k4 : PySem.W.keepIn K (.ref f4) = true)
    (B : Blt mg)
    (Cs : Cst mg)
    (TB : Cb K mg CB)
    (T : Cj P K mg CJ CB)
    (Tt : Tb K mg aT)
    (cE : mg "BadEntry" = some (.ref CE))
    (TE : PySem.BadX.Txt P K mg "at" "at" CE fE)
    (bi : BkI K CB)
    (ji : BkI K CJ)
    (mkB : PySem.W.makesIn K CB = true)
    (kB : PySem.W.keepIn K (.ref CB) = true)
    (C2 : Cst2 mg)
    (C3 : Cst3 mg)
    (TO : Co K mg CO)
    (TD : Cd K mg CD)
    (cI : mg "Idle" = some (.ref CI))
    (cY : mg "Busy" = some (.ref CY))
    (cS : mg "Stale" = some (.ref CS))
    (cM : mg "BadMoment" = some (.ref CM))
    (cN : mg "BadName" = some (.ref CN))
    (cT : mg "NothingDone" = some (.ref CT))
    (TI : PySem.BadX.Txt P K mg "writer" "writer" CI fI)
    (TY : PySem.BadX.Txt P K mg "writer" "writer" CY fY)
    (TS : PySem.BadX.Txt P K mg "number" "id" CS fS)
    (TM : PySem.BadX.Txt P K mg "value" "value" CM fM)
    (TN : PySem.BadX.Txt P K mg "value" "value" CN fN)
    (xT : PySem.W.excIn K CT veB "ValueError.__new__" = true)
    (kT : PySem.W.keepIn K (.ref CT) = true)
    (bT : PySem.W.subIn K (.ref CT) (.type "BaseException") = some true)
    (tT : PySem.W.typeIn K (.ref CT) = some (.type "type"))
    (nTT : PySem.W.exmOne K (.ref CT) (.ref CT) = some true)
    (nYI : PySem.W.exmOne K (.ref CY) (.ref CI) = some false)
    (nSI : PySem.W.exmOne K (.ref CS) (.ref CI) = some false)
    (nSY : PySem.W.exmOne K (.ref CS) (.ref CY) = some false)
    (nEI : PySem.W.exmOne K (.ref CE) (.ref CI) = some false)
    (nEY : PySem.W.exmOne K (.ref CE) (.ref CY) = some false)
    (nES : PySem.W.exmOne K (.ref CE) (.ref CS) = some false)
    (nMI : PySem.W.exmOne K (.ref CM) (.ref CI) = some false)
    (nMY : PySem.W.exmOne K (.ref CM) (.ref CY) = some false)
    (nMS : PySem.W.exmOne K (.ref CM) (.ref CS) = some false)
    (nME : PySem.W.exmOne K (.ref CM) (.ref CE) = some false)
    (nNI : PySem.W.exmOne K (.ref CN) (.ref CI) = some false)
    (nNY : PySem.W.exmOne K (.ref CN) (.ref CY) = some false)
    (nNS : PySem.W.exmOne K (.ref CN) (.ref CS) = some false)
    (nNE : PySem.W.exmOne K (.ref CN) (.ref CE) = some false)
    (nNM : PySem.W.exmOne K (.ref CN) (.ref CM) = some false)
    (nTI : PySem.W.exmOne K (.ref CT) (.ref CI) = some false)
    (nTY : PySem.W.exmOne K (.ref CT) (.ref CY) = some false)
    (nTS : PySem.W.exmOne K (.ref CT) (.ref CS) = some false)
    (nTE : PySem.W.exmOne K (.ref CT) (.ref CE) = some false)
    (nTM : PySem.W.exmOne K (.ref CT) (.ref CM) = some false)
    (nTN : PySem.W.exmOne K (.ref CT) (.ref CN) = some false)
    (mkD : PySem.W.makesIn K CD = true)
    (kD : PySem.W.keepIn K (.ref CD) = true)
    (m_OI : DN K CO "Office.__init__" s_Office_init)
    (d_is_integer : D1 K mg "is_integer" s_is_integer)
    (d_is_natural : D1 K mg "is_natural" s_is_natural)
    (d_is_name : D1 K mg "is_name" s_is_name)
    (d_are_integers : D1 K mg "are_integers" s_are_integers)
    (d_is_late : D1 K mg "is_late" s_is_late)
    (d_is_lates : D1 K mg "is_lates" s_is_lates)
    (d_is_entry : D1 K mg "is_entry" s_is_entry)
    (d_arrival_of : D1 K mg "arrival_of" s_arrival_of)
    (d_placed : D1 K mg "placed" s_placed)
    (d_row_behind : D1 K mg "row_behind" s_row_behind)
    (d_walked : D1 K mg "walked" s_walked)
    (d_is_row : D1 K mg "is_row" s_is_row)
    (m_Init : DM K CB "__init__" "Book.__init__" s_Book_init)
    (m_Has : DM K CB "has" "Book.has" s_Book_has)
    (m_Late : DM K CB "late" "Book.late" s_Book_late)
    (m_J : DD K CJ aE "Journal.__init__" s_Journal_init)
    (m_Then : DM K CJ "then" "Journal.then" s_Journal_then)
    (m_Len : DM K CJ "__len__" "Journal.__len__" s_Journal_len)
    (m_Beq : DQ K CB fBeq "__eq__" "Book.__eq__" s_Book_eq)
    (bne : NeC K CB fBeq)
    (m_DInit : DM K CD "__init__" "Draft.__init__" s_Draft_init)
    (m_DraftOf : DM K CO "_draft_of" "Office._draft_of" s_Officedraft_of)
    (m_Begin : DM K CO "begin" "Office.begin" s_Office_begin)
    (m_Put : DM K CO "_put" "Office._put" s_Officeput)
    (m_Row : DM K CO "row" "Office.row" s_Office_row)
    (m_Fix : DM K CO "fix" "Office.fix" s_Office_fix)
    (m_Gone : DM K CO "gone" "Office.gone" s_Office_gone)
    (m_Drop : DM K CO "drop" "Office.drop" s_Office_drop)
    (m_Tell : DM K CO "draft" "Office.draft" s_Office_draft)
    (m_Writers : DM K CO "writers" "Office.writers" s_Office_writers)
    (m_Fresh : DM K CO "_check_fresh" "Office._check_fresh" s_Officecheck_fresh)
    (m_Behind : DM K CO "_journal_behind" "Office._journal_behind" s_Officejournal_behind)
    (m_Close : DM K CO "close" "Office.close" s_Office_close)
    (m_Undo : DM K CO "undo" "Office.undo" s_Office_undo)
    (d__law_called : D1 K mg "_law_called" s_l_called)
    (d__law_done : D1 K mg "_law_done" s_l_done)
    (d__law_put_in : D1 K mg "_law_put_in" s_l_put_in)
    (d__law_pool : D1 K mg "_law_pool" s_l_pool)
    (d__law_draw : D1 K mg "_law_draw" s_l_draw)
    (d__law_names : D1 K mg "_law_names" s_l_names)
    (d__law_lates : D1 K mg "_law_lates" s_l_lates)
    (d__law_amount : D1 K mg "_law_amount" s_l_amount)
    (d__law_entry : D1 K mg "_law_entry" s_l_entry)
    (d__law_put : D1 K mg "_law_put" s_l_put)
    (d__law_entries : D1 K mg "_law_entries" s_l_entries)
    (d__law_states : D1 K mg "_law_states" s_l_states)
    (d__law_drafted : D1 K mg "_law_drafted" s_l_drafted)
    (d__law_is_good : D1 K mg "_law_is_good" s_l_is_good)
    (d__law_bad_from : D1 K mg "_law_bad_from" s_l_bad_from)
    (d__law_closed : D1 K mg "_law_closed" s_l_closed)
    : ∃ fd : FuncData, (∀ (s : Shared) (v : Value), BindsTo s fd ⟨[v], []⟩ [("_law_script", v)]) ∧ ∀ base : Heap, K.In base → base.Ns mainGlobals mg → FnOk P w K mg base CX0 16 fa fd ["_law_script"] (spLawN K) := by
  have e := hfa.symm.trans (PySem.W.mg_of X G a4)
  cases e
  exact ⟨PySem.W.fnOf "law" "law" (defArgs s_law) (defBody s_law) (defScope s_law) .none kV4 dc4 pm4 an4 cd4 ct4, fun s v => .of_eq rfl, fun base _ _ => all_ok B Cs TB T Tt cE TE bi ji mkB kB C2 C3 TO TD cI cY cS cM cN cT TI TY TS TM TN xT kT bT tT nTT nYI nSI nSY nEI nEY nES nMI nMY nMS nME nNI nNY nNS nNE nNM nTI nTY nTS nTE nTM nTN mkD kD m_OI d_is_integer d_is_natural d_is_name d_are_integers d_is_late d_is_lates d_is_entry d_arrival_of d_placed d_row_behind d_walked d_is_row m_Init m_Has m_Late m_J m_Then m_Len m_Beq bne m_DInit m_DraftOf m_Begin m_Put m_Row m_Fix m_Gone m_Drop m_Tell m_Writers m_Fresh m_Behind m_Close m_Undo d__law_called d__law_done d__law_put_in d__law_pool d__law_draw d__law_names d__law_lates d__law_amount d__law_entry d__law_put d__law_entries d__law_states d__law_drafted d__law_is_good d__law_bad_from d__law_closed (fun_mk l4 c4 k4)⟩
theorem walk {l : PySem.W.OpenLaw} {q : Program} {loose : List Str} {XP : (Str → Option Value) → Heap → Prop} {YP : World → Heap → Prop} {d : DefRec} {K : Params → PySem.W.Frag} (hn : l.most = some 63) (hdf : d.params.defaults = [])
    (hY : ∀ (w : World) (h : Heap), YP w h → (K w.params).In h)
    (F : ∀ (w : World) (mg : Str → Option Value) (fa : Addr) (h : Heap), (K w.params).In h → h.Ns mainGlobals mg → mg d.name = some (.ref fa) →
      ∃ fd : FuncData, (∀ (s : Shared) (u : Value), BindsTo s fd ⟨[u], []⟩ [("_law_script", u)]) ∧ ∀ base : Heap, (K w.params).In base → base.Ns mainGlobals mg → FnOk l.prog w (K w.params) mg base CX0 16 fa fd ["_law_script"] (spLawN (K w.params))) :
    PySem.W.WalkO q loose XP YP l.row.toRowW d [] (fun f vs => PySem.call f vs) :=
  L2.walk_of (n := 63) (k := 16) (x := "_law_script") (CX := fun _ => CX0) (sp := fun w => spLawN (K w.params)) hn (by decide) hdf ⟨rfl, by decide, by decide⟩ hY F (fun _ _ a ns hl _ hS => ⟨a, ns, rfl, hS, hl, fun _ => rfl⟩) fun _ _ _ _ _ z => z
end Ash

set_option Elab.async false
open PySem PySem.W PyProof.Rows
/-! names that are taken: the head makes no twins of these parts of the heap -/
theorem PySem.W.Fast.tw13813520605695002357 : True := trivial
theorem PySem.W.Fast.tw7336838648345905192 : True := trivial
theorem PySem.W.Fast.tw10751719527693280978 : True := trivial
theorem PySem.W.Fast.tw1673008423366666014 : True := trivial
theorem PySem.W.Fast.tw14971565203073532011 : True := trivial
theorem PySem.W.Fast.tw1969773992148545287 : True := trivial
theorem PySem.W.Fast.tw6971502051854086346 : True := trivial
theorem PySem.W.Fast.tw8957856749736680663 : True := trivial
theorem PySem.W.Fast.tw15654367533772527523 : True := trivial
theorem PySem.W.Fast.tw13170607909227285518 : True := trivial
theorem PySem.W.Fast.tw16779687733156889338 : True := trivial
theorem PySem.W.Fast.tw942220772573048183 : True := trivial
theorem PySem.W.Fast.tw11705595563076434131 : True := trivial
theorem PySem.W.Fast.tw8987305452006985510 : True := trivial
theorem PySem.W.Fast.tw1020802387521368029 : True := trivial
theorem PySem.W.Fast.tw14911203342658480319 : True := trivial
theorem PySem.W.Fast.tw9378923751439391802 : True := trivial
theorem PySem.W.Fast.tw84463292359885356 : True := trivial
theorem PySem.W.Fast.tw8071124847145997586 : True := trivial
theorem PySem.W.Fast.tw7761604023779765007 : True := trivial
theorem PySem.W.Fast.tw3492779449889689583 : True := trivial
theorem PySem.W.Fast.tw9043338824859846321 : True := trivial
theorem PySem.W.Fast.tw3952481114917354200 : True := trivial
theorem PySem.W.Fast.tw11003219934002920209 : True := trivial
theorem PySem.W.Fast.tw16989674391686671710 : True := trivial
theorem PySem.W.Fast.tw17190335612772376228 : True := trivial
theorem PySem.W.Fast.tw11687598537855030076 : True := trivial
theorem PySem.W.Fast.tw9155914557792312082 : True := trivial
theorem PySem.W.Fast.tw12790032333485426414 : True := trivial
theorem PySem.W.Fast.tw13764942716094159780 : True := trivial
theorem PySem.W.Fast.tw11938626761356604034 : True := trivial
theorem PySem.W.Fast.tw1724565082598137883 : True := trivial
theorem PySem.W.Fast.tw9913559273959555539 : True := trivial
theorem PySem.W.Fast.tw13886415042026380940 : True := trivial
theorem PySem.W.Fast.tw2339095912769721916 : True := trivial
theorem PySem.W.Fast.tw11025560275765715053 : True := trivial
theorem PySem.W.Fast.tw17517341622913778122 : True := trivial
theorem PySem.W.Fast.tw16314473545755850573 : True := trivial
theorem PySem.W.Fast.tw4487952055415271058 : True := trivial
theorem PySem.W.Fast.tw15153607926612629814 : True := trivial
theorem PySem.W.Fast.tw2345053280050352719 : True := trivial
theorem PySem.W.Fast.tw2701860923925570408 : True := trivial
theorem PySem.W.Fast.tw2072952581562739063 : True := trivial
theorem PySem.W.Fast.tw10792524081243291804 : True := trivial
theorem PySem.W.Fast.tw10781878614119488634 : True := trivial
theorem PySem.W.Fast.tw6677418095098475999 : True := trivial
theorem PySem.W.Fast.tw17144270744721763470 : True := trivial
theorem PySem.W.Fast.tw14890345488795119155 : True := trivial
theorem PySem.W.Fast.tw11794719399223452159 : True := trivial
theorem PySem.W.Fast.tw14613889971056221207 : True := trivial
theorem PySem.W.Fast.tw18296388304977604057 : True := trivial
theorem PySem.W.Fast.tw8592934424283470180 : True := trivial
theorem PySem.W.Fast.tw6093912080874754147 : True := trivial
theorem PySem.W.Fast.tw835677845397548614 : True := trivial
theorem PySem.W.Fast.tw1921903591514667387 : True := trivial
theorem PySem.W.Fast.tw2020459075789186513 : True := trivial
theorem PySem.W.Fast.tw3526774620355319722 : True := trivial
theorem PySem.W.Fast.tw18299744188072953815 : True := trivial
theorem PySem.W.Fast.tw4243959797956912781 : True := trivial
theorem PySem.W.Fast.tw6809392231916446052 : True := trivial
theorem PySem.W.Fast.tw13319273168098143457 : True := trivial
theorem PySem.W.Fast.tw11281698276075878214 : True := trivial
theorem PySem.W.Fast.tw14641831949097776488 : True := trivial
theorem PySem.W.Fast.tw2323483838002415653 : True := trivial
theorem PySem.W.Fast.tw13676440748998081684 : True := trivial
theorem PySem.W.Fast.tw15514835648527962173 : True := trivial
theorem PySem.W.Fast.tw9133066916291259253 : True := trivial
theorem PySem.W.Fast.tw2003347918815288159 : True := trivial
theorem PySem.W.Fast.tw8164589697413914807 : True := trivial
theorem PySem.W.Fast.tw8187113794016350123 : True := trivial
theorem PySem.W.Fast.tw17507083384492227178 : True := trivial
theorem PySem.W.Fast.tw14415377384735353292 : True := trivial
theorem PySem.W.Fast.tw17180137415931003580 : True := trivial
theorem PySem.W.Fast.tw9108388101491255026 : True := trivial
theorem PySem.W.Fast.tw8171458819629190459 : True := trivial
theorem PySem.W.Fast.tw3442988926649215671 : True := trivial
theorem PySem.W.Fast.tw4777058877761767137 : True := trivial
theorem PySem.W.Fast.tw9596074637230786850 : True := trivial
theorem PySem.W.Fast.tw14366983671516030439 : True := trivial
theorem PySem.W.Fast.tw4242159308187771702 : True := trivial
theorem PySem.W.Fast.tw6546593066426152149 : True := trivial
theorem PySem.W.Fast.tw14615548840077696328 : True := trivial
theorem PySem.W.Fast.tw14182248086739041341 : True := trivial
theorem PySem.W.Fast.tw3848778609034409014 : True := trivial
theorem PySem.W.Fast.tw8622253370715651450 : True := trivial
theorem PySem.W.Fast.tw1331795609679011472 : True := trivial
theorem PySem.W.Fast.tw7124780069358165500 : True := trivial
theorem PySem.W.Fast.tw16628291774976169238 : True := trivial
theorem PySem.W.Fast.tw14987331130167307507 : True := trivial
theorem PySem.W.Fast.tw2287531798717153944 : True := trivial
theorem PySem.W.Fast.tw12266933995880281398 : True := trivial
theorem PySem.W.Fast.tw6827264275718857451 : True := trivial
theorem PySem.W.Fast.tw974577475973198941 : True := trivial
theorem PySem.W.Fast.tw1008823694180028627 : True := trivial
theorem PySem.W.Fast.tw16599497294216475363 : True := trivial
theorem PySem.W.Fast.tw2563100314844137031 : True := trivial
theorem PySem.W.Fast.tw3254691083322076926 : True := trivial
theorem PySem.W.Fast.tw2904668322912575706 : True := trivial
theorem PySem.W.Fast.tw12201537296983200086 : True := trivial
theorem PySem.W.Fast.tw17952968682376158370 : True := trivial
theorem PySem.W.Fast.tw17210008864284950583 : True := trivial
theorem PySem.W.Fast.tw16422530671606498535 : True := trivial
theorem PySem.W.Fast.tw1346356780887615712 : True := trivial
theorem PySem.W.Fast.tw8189073828903548482 : True := trivial
theorem PySem.W.Fast.tw9360568622371466478 : True := trivial
theorem PySem.W.Fast.tw2580011275663188923 : True := trivial
theorem PySem.W.Fast.tw8251344367384035740 : True := trivial
theorem PySem.W.Fast.tw14238652567071769238 : True := trivial
theorem PySem.W.Fast.tw5409516344055230748 : True := trivial
theorem PySem.W.Fast.tw1183236554362370043 : True := trivial
theorem PySem.W.Fast.tw4502378058346694980 : True := trivial
theorem PySem.W.Fast.tw3240285506721151880 : True := trivial
theorem PySem.W.Fast.tw3216787545451757638 : True := trivial
theorem PySem.W.Fast.tw16189988616601452390 : True := trivial
theorem PySem.W.Fast.tw2003713573308226707 : True := trivial
theorem PySem.W.Fast.tw11395626739629173210 : True := trivial
theorem PySem.W.Fast.tw5468957980919172237 : True := trivial
theorem PySem.W.Fast.tw17551110941458882991 : True := trivial
theorem PySem.W.Fast.tw8185940389305228475 : True := trivial
theorem PySem.W.Fast.tw14235694766676192878 : True := trivial
theorem PySem.W.Fast.tw514460916675234727 : True := trivial
theorem PySem.W.Fast.tw6998248851884180462 : True := trivial
theorem PySem.W.Fast.tw10948502287657662820 : True := trivial
theorem PySem.W.Fast.tw5430620980576728075 : True := trivial
theorem PySem.W.Fast.tw4536587800096957367 : True := trivial
theorem PySem.W.Fast.tw15181192885296700519 : True := trivial
theorem PySem.W.Fast.tw12485045427059210538 : True := trivial
theorem PySem.W.Fast.tw14652179474827311274 : True := trivial
theorem PySem.W.Fast.tw5289621178499435709 : True := trivial
theorem PySem.W.Fast.tw16166045114671270461 : True := trivial
theorem PySem.W.Fast.tw12646224474985150216 : True := trivial
theorem PySem.W.Fast.tw8430890533922577803 : True := trivial
theorem PySem.W.Fast.tw12704119131187162818 : True := trivial
theorem PySem.W.Fast.tw17612412959756746717 : True := trivial
theorem PySem.W.Fast.tw4873823231995348313 : True := trivial
theorem PySem.W.Fast.tw13383256584595088401 : True := trivial
theorem PySem.W.Fast.tw17092603269843495228 : True := trivial
theorem PySem.W.Fast.tw4784329245199818790 : True := trivial
theorem PySem.W.Fast.tw11371324717865028718 : True := trivial
theorem PySem.W.Fast.tw18223784757526082644 : True := trivial
theorem PySem.W.Fast.tw15997999654535431430 : True := trivial
theorem PySem.W.Fast.tw17004899690980188719 : True := trivial
theorem PySem.W.Fast.tw5411085167491691620 : True := trivial
theorem PySem.W.Fast.tw13982811351356699773 : True := trivial
theorem PySem.W.Fast.tw3337757220684938332 : True := trivial
theorem PySem.W.Fast.tw14755631691752858910 : True := trivial
theorem PySem.W.Fast.tw8381502739285527942 : True := trivial
theorem PySem.W.Fast.tw10887494608569557066 : True := trivial
theorem PySem.W.Fast.tw15575628013767084498 : True := trivial
theorem PySem.W.Fast.tw7029155022111903424 : True := trivial
theorem PySem.W.Fast.tw14398169126460864864 : True := trivial
theorem PySem.W.Fast.tw8041874874924501959 : True := trivial
theorem PySem.W.Fast.tw17601368090616199203 : True := trivial
theorem PySem.W.Fast.tw7737841568178225782 : True := trivial
theorem PySem.W.Fast.tw15074380597254210306 : True := trivial
theorem PySem.W.Fast.tw13264269411326525529 : True := trivial
theorem PySem.W.Fast.tw14203194992819054899 : True := trivial
theorem PySem.W.Fast.tw3034787060640980532 : True := trivial
theorem PySem.W.Fast.tw8997056933487904219 : True := trivial
theorem PySem.W.Fast.tw15030038561651354522 : True := trivial
theorem PySem.W.Fast.tw17525397675886146093 : True := trivial
theorem PySem.W.Fast.tw6594978557881293605 : True := trivial
theorem PySem.W.Fast.tw984275125690758645 : True := trivial
theorem PySem.W.Fast.tw11752076529122914427 : True := trivial
theorem PySem.W.Fast.tw15808373354740076409 : True := trivial
theorem PySem.W.Fast.tw12592933894914347862 : True := trivial
theorem PySem.W.Fast.tw11859880728099867445 : True := trivial
theorem PySem.W.Fast.tw13942813170608550409 : True := trivial
theorem PySem.W.Fast.tw14083934736102707217 : True := trivial
theorem PySem.W.Fast.tw13515073142417036971 : True := trivial
theorem PySem.W.Fast.tw15471191602787534044 : True := trivial
theorem PySem.W.Fast.tw4974952407417664283 : True := trivial
theorem PySem.W.Fast.tw13812019839207912988 : True := trivial
theorem PySem.W.Fast.tw17577767214098210872 : True := trivial
theorem PySem.W.Fast.tw15179692671903252462 : True := trivial
theorem PySem.W.Fast.tw2969284444022332540 : True := trivial
theorem PySem.W.Fast.tw1168757967864791855 : True := trivial
theorem PySem.W.Fast.tw1963803879914806635 : True := trivial
theorem PySem.W.Fast.tw3967016435645600879 : True := trivial
theorem PySem.W.Fast.tw17267000731506237285 : True := trivial
theorem PySem.W.Fast.tw17253487854763558085 : True := trivial
theorem PySem.W.Fast.tw457661047791618026 : True := trivial
theorem PySem.W.Fast.tw2607176818924051609 : True := trivial
theorem PySem.W.Fast.tw2618707174175769902 : True := trivial
theorem PySem.W.Fast.tw17289181696141201092 : True := trivial
theorem PySem.W.Fast.tw13574513942438456441 : True := trivial
theorem PySem.W.Fast.tw1899944751239240332 : True := trivial
theorem PySem.W.Fast.tw6609763002693503586 : True := trivial
theorem PySem.W.Fast.tw5476520964996757230 : True := trivial
theorem PySem.W.Fast.tw8528519385765812 : True := trivial
theorem PySem.W.Fast.tw16713458308794725529 : True := trivial
theorem PySem.W.Fast.tw10589809598537107797 : True := trivial
theorem PySem.W.Fast.tw1599969045889013749 : True := trivial
theorem PySem.W.Fast.tw16517421317452252484 : True := trivial
theorem PySem.W.Fast.tw2467203355617673595 : True := trivial
theorem PySem.W.Fast.tw12491986543346153671 : True := trivial
theorem PySem.W.Fast.tw4889490633053600453 : True := trivial
theorem PySem.W.Fast.tw15784941631897713045 : True := trivial
theorem PySem.W.Fast.tw14411324476837809843 : True := trivial
theorem PySem.W.Fast.tw13146657346031360457 : True := trivial
theorem PySem.W.Fast.tw5664406097174983367 : True := trivial
theorem PySem.W.Fast.tw2921470236030869562 : True := trivial
theorem PySem.W.Fast.tw1459308407451897030 : True := trivial
theorem PySem.W.Fast.tw16304959819664584724 : True := trivial
theorem PySem.W.Fast.tw15550593313009397784 : True := trivial
theorem PySem.W.Fast.tw723853635617901280 : True := trivial
theorem PySem.W.Fast.tw18412641566965000558 : True := trivial
theorem PySem.W.Fast.tw7584069094787306632 : True := trivial
theorem PySem.W.Fast.tw7165187762168787070 : True := trivial
theorem PySem.W.Fast.tw421972186775726015 : True := trivial
theorem PySem.W.Fast.tw11723742557283700978 : True := trivial
theorem PySem.W.Fast.tw1457538332399428730 : True := trivial
theorem PySem.W.Fast.tw1751124389836621575 : True := trivial
theorem PySem.W.Fast.tw723204317470355203 : True := trivial
theorem PySem.W.Fast.tw2035006084895264532 : True := trivial
theorem PySem.W.Fast.tw6768893442106419717 : True := trivial
theorem PySem.W.Fast.tw16619628128688657569 : True := trivial
theorem PySem.W.Fast.tw1111299414750092889 : True := trivial
theorem PySem.W.Fast.tw10098002936773617733 : True := trivial
theorem PySem.W.Fast.tw16729243096425889836 : True := trivial
theorem PySem.W.Fast.tw7286239509936442521 : True := trivial
theorem PySem.W.Fast.tw3767598497046421663 : True := trivial
theorem PySem.W.Fast.tw15221917835773686011 : True := trivial
theorem PySem.W.Fast.tw1032537012795947552 : True := trivial
theorem PySem.W.Fast.tw6953240421857398186 : True := trivial
theorem PySem.W.Fast.tw4855853802872820085 : True := trivial
theorem PySem.W.Fast.tw6792108841072751457 : True := trivial
theorem PySem.W.Fast.tw13554431401059622934 : True := trivial
theorem PySem.W.Fast.tw15467492072946764127 : True := trivial
theorem PySem.W.Fast.tw6014282196774019096 : True := trivial
theorem PySem.W.Fast.tw13318575140406627146 : True := trivial
theorem PySem.W.Fast.tw5350520734243656384 : True := trivial
theorem PySem.W.Fast.tw10167853537865084928 : True := trivial
theorem PySem.W.Fast.tw14379968815066251463 : True := trivial
theorem PySem.W.Fast.tw17706827854461825774 : True := trivial
theorem PySem.W.Fast.tw17367109193019221231 : True := trivial
theorem PySem.W.Fast.tw2701197484997232013 : True := trivial
theorem PySem.W.Fast.tw1091563057399069813 : True := trivial
theorem PySem.W.Fast.tw6636459494280816250 : True := trivial
theorem PySem.W.Fast.tw5632675216029275161 : True := trivial
theorem PySem.W.Fast.tw17840715645221493122 : True := trivial
theorem PySem.W.Fast.tw17787604357268073855 : True := trivial
theorem PySem.W.Fast.tw4628974884195872239 : True := trivial
theorem PySem.W.Fast.tw14573055022043488071 : True := trivial
theorem PySem.W.Fast.tw14811240419474466611 : True := trivial
theorem PySem.W.Fast.tw2074209624016031217 : True := trivial
theorem PySem.W.Fast.tw18369006996212242661 : True := trivial
theorem PySem.W.Fast.tw9576681991249265737 : True := trivial
theorem PySem.W.Fast.tw11345975950558222798 : True := trivial
theorem PySem.W.Fast.tw9121069484729023936 : True := trivial
theorem PySem.W.Fast.tw1137855142572083718 : True := trivial
theorem PySem.W.Fast.tw8390153556600404400 : True := trivial
theorem PySem.W.Fast.tw6422510507344993750 : True := trivial
theorem PySem.W.Fast.tw18258611245059265564 : True := trivial
theorem PySem.W.Fast.tw16114914941682006147 : True := trivial
theorem PySem.W.Fast.tw16100433148995393119 : True := trivial
theorem PySem.W.Fast.tw729645297183182831 : True := trivial
theorem PySem.W.Fast.tw5606882562144243224 : True := trivial
theorem PySem.W.Fast.tw8382757430875387354 : True := trivial
theorem PySem.W.Fast.tw14366377475212395654 : True := trivial
theorem PySem.W.Fast.tw421361154368177654 : True := trivial
theorem PySem.W.Fast.tw18181302087855177787 : True := trivial
theorem PySem.W.Fast.tw1103873832103342855 : True := trivial
theorem PySem.W.Fast.tw13737687993547817957 : True := trivial
theorem PySem.W.Fast.tw10173942487274922563 : True := trivial
theorem PySem.W.Fast.tw11539226192294946162 : True := trivial
theorem PySem.W.Fast.tw1318556594607345871 : True := trivial
theorem PySem.W.Fast.tw9807024868587359157 : True := trivial
theorem PySem.W.Fast.tw14658270440363028661 : True := trivial
theorem PySem.W.Fast.tw6709103698987440687 : True := trivial
theorem PySem.W.Fast.tw1666124185347429698 : True := trivial
theorem PySem.W.Fast.tw11610823460758211874 : True := trivial
theorem PySem.W.Fast.tw11010278619193430186 : True := trivial
theorem PySem.W.Fast.tw2369443390074738306 : True := trivial
theorem PySem.W.Fast.tw8880652554748178774 : True := trivial
theorem PySem.W.Fast.tw15440021274764402519 : True := trivial
theorem PySem.W.Fast.tw7447823754313410320 : True := trivial
theorem PySem.W.Fast.tw13651602947009476492 : True := trivial
theorem PySem.W.Fast.tw13043398030397732384 : True := trivial
theorem PySem.W.Fast.tw842396386424474810 : True := trivial
theorem PySem.W.Fast.tw15124303446495727893 : True := trivial
theorem PySem.W.Fast.tw14183038702695417995 : True := trivial
theorem PySem.W.Fast.tw15448258645387505195 : True := trivial
theorem PySem.W.Fast.tw213849065936060967 : True := trivial
theorem PySem.W.Fast.tw16795023763714501422 : True := trivial
theorem PySem.W.Fast.tw855799554479723829 : True := trivial
theorem PySem.W.Fast.tw6346158623827119214 : True := trivial
theorem PySem.W.Fast.tw1637590260738051356 : True := trivial
theorem PySem.W.Fast.tw6940694175333465303 : True := trivial
theorem PySem.W.Fast.tw16623264156583834498 : True := trivial
theorem PySem.W.Fast.tw12807756449174778700 : True := trivial
theorem PySem.W.Fast.tw12754631703735011995 : True := trivial
theorem PySem.W.Fast.tw1855091231915609545 : True := trivial
theorem PySem.W.Fast.tw720002393132240319 : True := trivial
theorem PySem.W.Fast.tw8420379339866246074 : True := trivial
theorem PySem.W.Fast.tw12120708123775590380 : True := trivial
theorem PySem.W.Fast.tw4477091555624722101 : True := trivial
theorem PySem.W.Fast.tw2155327559281097406 : True := trivial
theorem PySem.W.Fast.tw13231273672624525362 : True := trivial
theorem PySem.W.Fast.tw8750902952201770355 : True := trivial
theorem PySem.W.Fast.tw13384433061509939151 : True := trivial
theorem PySem.W.Fast.tw17066621581227220276 : True := trivial
theorem PySem.W.Fast.tw12524865806998752917 : True := trivial
theorem PySem.W.Fast.tw3173187299181306072 : True := trivial
theorem PySem.W.Fast.tw12479352749982854307 : True := trivial
theorem PySem.W.Fast.tw13376059597679683073 : True := trivial
theorem PySem.W.Fast.tw12557555941950270626 : True := trivial
theorem PySem.W.Fast.tw3115386466827347665 : True := trivial
theorem PySem.W.Fast.tw14438098001527062231 : True := trivial
theorem PySem.W.Fast.tw17793332081432267741 : True := trivial
theorem PySem.W.Fast.tw8264203496857168058 : True := trivial
theorem PySem.W.Fast.tw9089868542840447181 : True := trivial
theorem PySem.W.Fast.tw4712840173399071996 : True := trivial
theorem PySem.W.Fast.tw14982113385579077788 : True := trivial
theorem PySem.W.Fast.tw2717853267298002505 : True := trivial
theorem PySem.W.Fast.tw9521715059046533301 : True := trivial
theorem PySem.W.Fast.tw15455610121466755978 : True := trivial
theorem PySem.W.Fast.tw15427557203115798933 : True := trivial
theorem PySem.W.Fast.tw15958523947805152926 : True := trivial
theorem PySem.W.Fast.tw3985593836919853436 : True := trivial
theorem PySem.W.Fast.tw15028082775255667756 : True := trivial
theorem PySem.W.Fast.tw14093737844227116370 : True := trivial
theorem PySem.W.Fast.tw11845705463600281873 : True := trivial
theorem PySem.W.Fast.tw13889406633546954520 : True := trivial
theorem PySem.W.Fast.tw18179908713636051427 : True := trivial
theorem PySem.W.Fast.tw6172782352018925126 : True := trivial
theorem PySem.W.Fast.tw5058625180152358276 : True := trivial
theorem PySem.W.Fast.tw15389911215062620465 : True := trivial
theorem PySem.W.Fast.tw13676116829766584703 : True := trivial
theorem PySem.W.Fast.tw12867341419155379028 : True := trivial
theorem PySem.W.Fast.tw1044422102288503218 : True := trivial
theorem PySem.W.Fast.tw14610643425417887128 : True := trivial
theorem PySem.W.Fast.tw10413583907329924133 : True := trivial
theorem PySem.W.Fast.tw10162614620229144272 : True := trivial
theorem PySem.W.Fast.tw3714467023098843624 : True := trivial
theorem PySem.W.Fast.tw10862630062636349584 : True := trivial
theorem PySem.W.Fast.tw12999002902212671469 : True := trivial
theorem PySem.W.Fast.tw2054586460809957824 : True := trivial
theorem PySem.W.Fast.tw983607186898159076 : True := trivial
theorem PySem.W.Fast.tw13996773352083293722 : True := trivial
theorem PySem.W.Fast.tw7071758346115743769 : True := trivial
theorem PySem.W.Fast.tw10547179591114690532 : True := trivial
theorem PySem.W.Fast.tw14037043876383738410 : True := trivial
theorem PySem.W.Fast.tw8902951881823192943 : True := trivial
theorem PySem.W.Fast.tw9943476001075451643 : True := trivial
theorem PySem.W.Fast.tw732895551746291966 : True := trivial
theorem PySem.W.Fast.tw5688030945871826631 : True := trivial
theorem PySem.W.Fast.tw12227038860324598941 : True := trivial
theorem PySem.W.Fast.tw5749726825034612305 : True := trivial
theorem PySem.W.Fast.tw12389838741599503092 : True := trivial
theorem PySem.W.Fast.tw9445652093662351388 : True := trivial
theorem PySem.W.Fast.tw6567349818757960120 : True := trivial
theorem PySem.W.Fast.tw4589675721929121784 : True := trivial
theorem PySem.W.Fast.tw7854903135998154444 : True := trivial
theorem PySem.W.Fast.tw628532982942164310 : True := trivial
theorem PySem.W.Fast.tw13751255055599960834 : True := trivial
theorem PySem.W.Fast.tw6377416942917190558 : True := trivial
theorem PySem.W.Fast.tw3274395613946155275 : True := trivial
theorem PySem.W.Fast.tw664002943880934352 : True := trivial
theorem PySem.W.Fast.tw16755272062898787608 : True := trivial
theorem PySem.W.Fast.tw16498611865738662018 : True := trivial
theorem PySem.W.Fast.tw15441304476984165790 : True := trivial
theorem PySem.W.Fast.tw4407057928918668519 : True := trivial
theorem PySem.W.Fast.tw2505264098174095203 : True := trivial
theorem PySem.W.Fast.tw17705932739423832007 : True := trivial
theorem PySem.W.Fast.tw2476642775789634783 : True := trivial
theorem PySem.W.Fast.tw7630362823060551547 : True := trivial
theorem PySem.W.Fast.tw7335184690729508555 : True := trivial
theorem PySem.W.Fast.tw8760516132996678452 : True := trivial
theorem PySem.W.Fast.tw6317588318410639909 : True := trivial
theorem PySem.W.Fast.tw13483322143982960722 : True := trivial
theorem PySem.W.Fast.tw7686456383846319011 : True := trivial
theorem PySem.W.Fast.tw17463379817963783259 : True := trivial
theorem PySem.W.Fast.tw6897371032560618841 : True := trivial
theorem PySem.W.Fast.tw5544667240253338949 : True := trivial
theorem PySem.W.Fast.tw6997690902012585126 : True := trivial
theorem PySem.W.Fast.tw13564335883571556648 : True := trivial
theorem PySem.W.Fast.tw17962775425120520889 : True := trivial
theorem PySem.W.Fast.tw12420913911490203253 : True := trivial
theorem PySem.W.Fast.tw17797099546555293740 : True := trivial
theorem PySem.W.Fast.tw1207526151062312401 : True := trivial
theorem PySem.W.Fast.tw17447583796938143979 : True := trivial
theorem PySem.W.Fast.tw9045770831227422937 : True := trivial
theorem PySem.W.Fast.tw3948956657564752215 : True := trivial
theorem PySem.W.Fast.tw5964732281274847628 : True := trivial
theorem PySem.W.Fast.tw11556561750172897236 : True := trivial
theorem PySem.W.Fast.tw427847140788033879 : True := trivial
theorem PySem.W.Fast.tw940759859795205296 : True := trivial
theorem PySem.W.Fast.tw824665913540908069 : True := trivial
theorem PySem.W.Fast.tw3323668824455229560 : True := trivial
theorem PySem.W.Fast.tw6067785237810432291 : True := trivial
theorem PySem.W.Fast.tw8917683182585229150 : True := trivial
theorem PySem.W.Fast.tw4235072808676481762 : True := trivial
theorem PySem.W.Fast.tw5718833621298508065 : True := trivial
theorem PySem.W.Fast.tw3708519558812353903 : True := trivial
theorem PySem.W.Fast.tw13370665492310344134 : True := trivial
theorem PySem.W.Fast.tw17468782115313426974 : True := trivial
theorem PySem.W.Fast.tw1227029791849056102 : True := trivial
theorem PySem.W.Fast.tw16420521952870629427 : True := trivial
theorem PySem.W.Fast.tw6337191130300578456 : True := trivial
theorem PySem.W.Fast.tw7027377971364154391 : True := trivial
theorem PySem.W.Fast.tw134738595513616210 : True := trivial
theorem PySem.W.Fast.tw8698275339531495979 : True := trivial
theorem PySem.W.Fast.tw17308231512400709491 : True := trivial
theorem PySem.W.Fast.tw4650432559134051583 : True := trivial
theorem PySem.W.Fast.tw10291190858704928126 : True := trivial
theorem PySem.W.Fast.tw4585986011721671975 : True := trivial
theorem PySem.W.Fast.tw7267373843462402072 : True := trivial
theorem PySem.W.Fast.tw12937363288522545059 : True := trivial
theorem PySem.W.Fast.tw14707222208585803255 : True := trivial
theorem PySem.W.Fast.tw9584363937279892367 : True := trivial
theorem PySem.W.Fast.tw9309417713378729520 : True := trivial
theorem PySem.W.Fast.tw16780654805645929294 : True := trivial
theorem PySem.W.Fast.tw7040899552886260283 : True := trivial
theorem PySem.W.Fast.tw7698471346325967740 : True := trivial
theorem PySem.W.Fast.tw15847902527026499392 : True := trivial
theorem PySem.W.Fast.tw4364126090358648340 : True := trivial
theorem PySem.W.Fast.tw2320518960023984780 : True := trivial
theorem PySem.W.Fast.tw17311445999232936565 : True := trivial
theorem PySem.W.Fast.tw16784062583928393378 : True := trivial
theorem PySem.W.Fast.tw5964877089059713995 : True := trivial
theorem PySem.W.Fast.tw7769083053386002594 : True := trivial
theorem PySem.W.Fast.tw16963919545615353229 : True := trivial
theorem PySem.W.Fast.tw7716880634367573129 : True := trivial
theorem PySem.W.Fast.tw14877888546883857346 : True := trivial
theorem PySem.W.Fast.tw1238541894803326513 : True := trivial
theorem PySem.W.Fast.tw16505271814059462678 : True := trivial
theorem PySem.W.Fast.tw10970825600233879436 : True := trivial
theorem PySem.W.Fast.tw1539829142880297981 : True := trivial
theorem PySem.W.Fast.tw1112564346338242729 : True := trivial
theorem PySem.W.Fast.tw16999005253971318676 : True := trivial
theorem PySem.W.Fast.tw9877305500923769487 : True := trivial
theorem PySem.W.Fast.tw604067774506028241 : True := trivial
theorem PySem.W.Fast.tw14791069422466088573 : True := trivial
theorem PySem.W.Fast.tw7237774395062069695 : True := trivial
theorem PySem.W.Fast.tw15646910110394583294 : True := trivial
theorem PySem.W.Fast.tw8174162769331093315 : True := trivial
theorem PySem.W.Fast.tw14903073723240334551 : True := trivial
theorem PySem.W.Fast.tw15555660919923686518 : True := trivial
theorem PySem.W.Fast.tw17794440541788940250 : True := trivial
theorem PySem.W.Fast.tw2168613170842430535 : True := trivial
theorem PySem.W.Fast.tw5172073702967661478 : True := trivial
theorem PySem.W.Fast.tw16383762478174046229 : True := trivial
theorem PySem.W.Fast.tw1303574236507959730 : True := trivial
theorem PySem.W.Fast.tw1804416458163144050 : True := trivial
theorem PySem.W.Fast.tw3744866177135955673 : True := trivial
theorem PySem.W.Fast.tw16908463072446060751 : True := trivial
theorem PySem.W.Fast.tw13382490899095784582 : True := trivial
theorem PySem.W.Fast.tw244305976627202416 : True := trivial
theorem PySem.W.Fast.tw5066074485423320168 : True := trivial
theorem PySem.W.Fast.tw4481011876140093603 : True := trivial
theorem PySem.W.Fast.tw13523215529249985134 : True := trivial
theorem PySem.W.Fast.tw13609624105127316765 : True := trivial
theorem PySem.W.Fast.tw15819171625985855763 : True := trivial
theorem PySem.W.Fast.tw3995163875257719185 : True := trivial
theorem PySem.W.Fast.tw10980901019651644540 : True := trivial
theorem PySem.W.Fast.tw5584882436004221574 : True := trivial
theorem PySem.W.Fast.tw4870532527925195915 : True := trivial
theorem PySem.W.Fast.tw13699673439013099058 : True := trivial
theorem PySem.W.Fast.tw2718178457491279211 : True := trivial
theorem PySem.W.Fast.tw12433498536040400272 : True := trivial
theorem PySem.W.Fast.tw5124419442501506561 : True := trivial
theorem PySem.W.Fast.tw14272387668198293036 : True := trivial
theorem PySem.W.Fast.tw1709616017408355981 : True := trivial
theorem PySem.W.Fast.tw15562919887180788522 : True := trivial
theorem PySem.W.Fast.tw5132148531851854448 : True := trivial
theorem PySem.W.Fast.tw4836477752954448126 : True := trivial
theorem PySem.W.Fast.tw17664971024271928731 : True := trivial
theorem PySem.W.Fast.tw16711425928755290299 : True := trivial
theorem PySem.W.Fast.tw11379995572380937755 : True := trivial
theorem PySem.W.Fast.tw8323415031797608653 : True := trivial
theorem PySem.W.Fast.tw2386609113125871959 : True := trivial
theorem PySem.W.Fast.tw5837329101441014264 : True := trivial
theorem PySem.W.Fast.tw7771421519130721270 : True := trivial
theorem PySem.W.Fast.tw15216337779349568288 : True := trivial
theorem PySem.W.Fast.tw16092104764368797026 : True := trivial
theorem PySem.W.Fast.tw2635686387529550996 : True := trivial
theorem PySem.W.Fast.tw5336676284096067451 : True := trivial
theorem PySem.W.Fast.tw7963733662776056854 : True := trivial
theorem PySem.W.Fast.tw7698765584488676408 : True := trivial
theorem PySem.W.Fast.tw15364278711695636726 : True := trivial
theorem PySem.W.Fast.tw5252090176503521375 : True := trivial
theorem PySem.W.Fast.tw10460466391804490627 : True := trivial
theorem PySem.W.Fast.tw5413378639987483522 : True := trivial
theorem PySem.W.Fast.tw16503202973486461511 : True := trivial
theorem PySem.W.Fast.tw3120779227635482132 : True := trivial
theorem PySem.W.Fast.tw17245369917797749989 : True := trivial
theorem PySem.W.Fast.tw10661654536251961135 : True := trivial
theorem PySem.W.Fast.tw9233589105690301681 : True := trivial
theorem PySem.W.Fast.tw2801476072248838240 : True := trivial
theorem PySem.W.Fast.tw17531812411754260929 : True := trivial
theorem PySem.W.Fast.tw11234631302105586332 : True := trivial
theorem PySem.W.Fast.tw2752170461255502871 : True := trivial
theorem PySem.W.Fast.tw5477820467074273277 : True := trivial
theorem PySem.W.Fast.tw4468103790517970035 : True := trivial
theorem PySem.W.Fast.tw5257391633480981844 : True := trivial
theorem PySem.W.Fast.tw4244350291155120712 : True := trivial
theorem PySem.W.Fast.tw62701896500303970 : True := trivial
theorem PySem.W.Fast.tw4966545550812189651 : True := trivial
theorem PySem.W.Fast.tw18253978598838856694 : True := trivial
theorem PySem.W.Fast.tw12793533642306324950 : True := trivial
theorem PySem.W.Fast.tw5383595004846122349 : True := trivial
theorem PySem.W.Fast.tw6930006718599893580 : True := trivial
theorem PySem.W.Fast.tw3288133664791682190 : True := trivial
theorem PySem.W.Fast.tw2040354055416785159 : True := trivial
theorem PySem.W.Fast.tw2725296609633792708 : True := trivial
theorem PySem.W.Fast.tw4105192814539598249 : True := trivial
theorem PySem.W.Fast.tw8608756228263049393 : True := trivial
theorem PySem.W.Fast.tw9216998591628322273 : True := trivial
theorem PySem.W.Fast.tw11278646043781181768 : True := trivial
theorem PySem.W.Fast.tw13261158838956554748 : True := trivial
theorem PySem.W.Fast.tw4162587426300935126 : True := trivial
theorem PySem.W.Fast.tw10083592126130924242 : True := trivial
theorem PySem.W.Fast.tw14990501120347340037 : True := trivial
theorem PySem.W.Fast.tw12256520467049783113 : True := trivial
theorem PySem.W.Fast.tw6109609854240612585 : True := trivial
theorem PySem.W.Fast.tw9821388718847303832 : True := trivial
theorem PySem.W.Fast.tw17604249207638066553 : True := trivial
theorem PySem.W.Fast.tw6852030838862899321 : True := trivial
theorem PySem.W.Fast.tw15999353231577294301 : True := trivial
theorem PySem.W.Fast.tw8236060819660775663 : True := trivial
theorem PySem.W.Fast.tw10437298850835849909 : True := trivial
theorem PySem.W.Fast.tw7692824820653365833 : True := trivial
theorem PySem.W.Fast.tw2371700651694603808 : True := trivial
theorem PySem.W.Fast.tw11177725350851311697 : True := trivial
theorem PySem.W.Fast.tw5510412216758247253 : True := trivial
theorem PySem.W.Fast.tw9486776444765666488 : True := trivial
theorem PySem.W.Fast.tw179247298956504939 : True := trivial
theorem PySem.W.Fast.tw922830844674169503 : True := trivial
theorem PySem.W.Fast.tw9879185859807677201 : True := trivial
theorem PySem.W.Fast.tw17450683907737127980 : True := trivial
theorem PySem.W.Fast.tw6963769892482219774 : True := trivial
theorem PySem.W.Fast.tw2365006170396537522 : True := trivial
theorem PySem.W.Fast.tw18092597704749524864 : True := trivial
theorem PySem.W.Fast.tw12991475877075929021 : True := trivial
theorem PySem.W.Fast.tw14422557048079571509 : True := trivial
theorem PySem.W.Fast.tw2720570945942267433 : True := trivial
theorem PySem.W.Fast.tw8802730298037448207 : True := trivial
theorem PySem.W.Fast.tw13865868568765295115 : True := trivial
theorem PySem.W.Fast.tw5420957403506694844 : True := trivial
theorem PySem.W.Fast.tw4213493415224482236 : True := trivial
theorem PySem.W.Fast.tw1057859033042691032 : True := trivial
theorem PySem.W.Fast.tw9108487585768037061 : True := trivial
theorem PySem.W.Fast.tw5687705112559962584 : True := trivial
theorem PySem.W.Fast.tw7147772684551758468 : True := trivial
theorem PySem.W.Fast.tw14461920777650448674 : True := trivial
theorem PySem.W.Fast.tw7547536952715643356 : True := trivial
theorem PySem.W.Fast.tw12049688618657022467 : True := trivial
theorem PySem.W.Fast.tw16444292498109684517 : True := trivial
theorem PySem.W.Fast.tw17661672937138226111 : True := trivial
theorem PySem.W.Fast.tw5176611475651223053 : True := trivial
theorem PySem.W.Fast.tw16647221423801742149 : True := trivial
theorem PySem.W.Fast.tw5024792246453607983 : True := trivial
theorem PySem.W.Fast.tw8805986231086750889 : True := trivial
theorem PySem.W.Fast.tw7438375909212640779 : True := trivial
theorem PySem.W.Fast.tw14613153129877682898 : True := trivial
theorem PySem.W.Fast.tw15526542060739352050 : True := trivial
theorem PySem.W.Fast.tw9920348991754708080 : True := trivial
theorem PySem.W.Fast.tw12921251612819297796 : True := trivial
theorem PySem.W.Fast.tw7244838169275726289 : True := trivial
theorem PySem.W.Fast.tw942155620878423912 : True := trivial
theorem PySem.W.Fast.tw3661433934263538671 : True := trivial
theorem PySem.W.Fast.tw13226837872347951490 : True := trivial
theorem PySem.W.Fast.tw13426763960764727829 : True := trivial
theorem PySem.W.Fast.tw899171529606791202 : True := trivial
theorem PySem.W.Fast.tw14010220365699719412 : True := trivial
theorem PySem.W.Fast.tw16807835399087909891 : True := trivial
theorem PySem.W.Fast.tw15557798410336680549 : True := trivial
theorem PySem.W.Fast.tw8885024387548799533 : True := trivial
theorem PySem.W.Fast.tw18048687400856016190 : True := trivial
theorem PySem.W.Fast.tw16101429938403237081 : True := trivial
theorem PySem.W.Fast.tw13882293930369883250 : True := trivial
theorem PySem.W.Fast.tw13876508806069682064 : True := trivial
theorem PySem.W.Fast.tw3411846299222509872 : True := trivial
theorem PySem.W.Fast.tw12055727009154384339 : True := trivial
theorem PySem.W.Fast.tw10255891561885144050 : True := trivial
theorem PySem.W.Fast.tw3636564442596995760 : True := trivial
theorem PySem.W.Fast.tw1741531609619467384 : True := trivial
theorem PySem.W.Fast.tw13483787688806364701 : True := trivial
theorem PySem.W.Fast.tw1061068082226284141 : True := trivial
theorem PySem.W.Fast.tw3154808961468922560 : True := trivial
theorem PySem.W.Fast.tw8383048845298932908 : True := trivial
theorem PySem.W.Fast.tw425503692509526222 : True := trivial
theorem PySem.W.Fast.tw3295453153787759852 : True := trivial
theorem PySem.W.Fast.tw11997070440574845336 : True := trivial
theorem PySem.W.Fast.tw2784006425071537769 : True := trivial
theorem PySem.W.Fast.tw6379641367821829073 : True := trivial
theorem PySem.W.Fast.tw9131249171231923475 : True := trivial
theorem PySem.W.Fast.tw8030300240862910949 : True := trivial
theorem PySem.W.Fast.tw4235478790543219614 : True := trivial
theorem PySem.W.Fast.tw13123065847607907170 : True := trivial
theorem PySem.W.Fast.tw12422197418004907846 : True := trivial
theorem PySem.W.Fast.tw9707126318563695258 : True := trivial
theorem PySem.W.Fast.tw2571448770564885803 : True := trivial
theorem PySem.W.Fast.tw2638505604496692701 : True := trivial
theorem PySem.W.Fast.tw3002735129500500724 : True := trivial
theorem PySem.W.Fast.tw9435317349914588931 : True := trivial
theorem PySem.W.Fast.tw2596790669052606134 : True := trivial
theorem PySem.W.Fast.tw15413829678006037136 : True := trivial
theorem PySem.W.Fast.tw1143366432959337219 : True := trivial
theorem PySem.W.Fast.tw1933378401213379023 : True := trivial
theorem PySem.W.Fast.tw123732868507781084 : True := trivial
theorem PySem.W.Fast.tw10518017520370172094 : True := trivial
theorem PySem.W.Fast.tw5727928914300497755 : True := trivial
theorem PySem.W.Fast.tw1778215995300801516 : True := trivial
theorem PySem.W.Fast.tw988393541742861254 : True := trivial
theorem PySem.W.Fast.tw4511474096253318351 : True := trivial
theorem PySem.W.Fast.tw15564750180475610536 : True := trivial
theorem PySem.W.Fast.tw12899213699562358138 : True := trivial
theorem PySem.W.Fast.tw5612677386045965945 : True := trivial
theorem PySem.W.Fast.tw448964888727359807 : True := trivial
theorem PySem.W.Fast.tw11418616394220202085 : True := trivial
theorem PySem.W.Fast.tw11199052890549021057 : True := trivial
theorem PySem.W.Fast.tw10270965981871645755 : True := trivial
theorem PySem.W.Fast.tw161371344398188650 : True := trivial
theorem PySem.W.Fast.tw3229726402000296080 : True := trivial
theorem PySem.W.Fast.tw8730879222531563018 : True := trivial
theorem PySem.W.Fast.tw2705257348350095502 : True := trivial
theorem PySem.W.Fast.tw9078980112877556312 : True := trivial
theorem PySem.W.Fast.tw4303975150084313161 : True := trivial
theorem PySem.W.Fast.tw17500701554474654864 : True := trivial
theorem PySem.W.Fast.tw15637569718736156624 : True := trivial
theorem PySem.W.Fast.tw2385094929361510728 : True := trivial
theorem PySem.W.Fast.tw15990436764800187897 : True := trivial
theorem PySem.W.Fast.tw6762817040608378189 : True := trivial
theorem PySem.W.Fast.tw1588861516781464836 : True := trivial
theorem PySem.W.Fast.tw99806743710835831 : True := trivial
theorem PySem.W.Fast.tw7704514092919370570 : True := trivial
theorem PySem.W.Fast.tw5713323463486802029 : True := trivial
theorem PySem.W.Fast.tw802911733796153862 : True := trivial
theorem PySem.W.Fast.tw14417260119852370763 : True := trivial
theorem PySem.W.Fast.tw8209762142807617034 : True := trivial
theorem PySem.W.Fast.tw14604611120511331425 : True := trivial
theorem PySem.W.Fast.tw6248945847588435918 : True := trivial
theorem PySem.W.Fast.tw2763828267237641009 : True := trivial
theorem PySem.W.Fast.tw10976688569489668035 : True := trivial
theorem PySem.W.Fast.tw14349229854721098631 : True := trivial
theorem PySem.W.Fast.tw10916485390840790928 : True := trivial
theorem PySem.W.Fast.tw7419106806781433743 : True := trivial
theorem PySem.W.Fast.tw2616113675150792673 : True := trivial
theorem PySem.W.Fast.tw6928330274030283230 : True := trivial
theorem PySem.W.Fast.tw9767210350414370085 : True := trivial
theorem PySem.W.Fast.tw11024537668314429221 : True := trivial
theorem PySem.W.Fast.tw8069420871450054965 : True := trivial
theorem PySem.W.Fast.tw4662029897169283500 : True := trivial
theorem PySem.W.Fast.tw8622920761270457884 : True := trivial
theorem PySem.W.Fast.tw15309610759658519604 : True := trivial
theorem PySem.W.Fast.tw7477621912449790116 : True := trivial
theorem PySem.W.Fast.tw4439782867161008388 : True := trivial
theorem PySem.W.Fast.tw766294530645298440 : True := trivial
theorem PySem.W.Fast.tw8195869930705017372 : True := trivial
theorem PySem.W.Fast.tw3436036874579225901 : True := trivial
theorem PySem.W.Fast.tw3475738191792539753 : True := trivial
theorem PySem.W.Fast.tw2791639610607676386 : True := trivial
theorem PySem.W.Fast.tw5733598382014933715 : True := trivial
theorem PySem.W.Fast.tw8156455650924922179 : True := trivial
theorem PySem.W.Fast.tw2293141441124086710 : True := trivial
theorem PySem.W.Fast.tw13161201643657332229 : True := trivial
theorem PySem.W.Fast.tw15826121566179476364 : True := trivial
theorem PySem.W.Fast.tw10812402607264289414 : True := trivial
theorem PySem.W.Fast.tw2162866000531223665 : True := trivial
theorem PySem.W.Fast.tw6376702273172443182 : True := trivial
theorem PySem.W.Fast.tw18313480994301313743 : True := trivial
theorem PySem.W.Fast.tw6532787776591207124 : True := trivial
theorem PySem.W.Fast.tw15714286419468299302 : True := trivial
theorem PySem.W.Fast.tw17923702778265020587 : True := trivial
theorem PySem.W.Fast.tw15949612793406584523 : True := trivial
theorem PySem.W.Fast.tw14637050289524965262 : True := trivial
theorem PySem.W.Fast.tw12953080400464115837 : True := trivial
theorem PySem.W.Fast.tw10466479821351372788 : True := trivial
theorem PySem.W.Fast.tw3313633410436289582 : True := trivial
theorem PySem.W.Fast.tw5603969968472389489 : True := trivial
theorem PySem.W.Fast.tw4531008414992230202 : True := trivial
theorem PySem.W.Fast.tw7322520140685670813 : True := trivial
theorem PySem.W.Fast.tw9309631144768846264 : True := trivial
theorem PySem.W.Fast.tw8917148224206358308 : True := trivial
theorem PySem.W.Fast.tw6521102807039031791 : True := trivial
theorem PySem.W.Fast.tw742995447660188229 : True := trivial
theorem PySem.W.Fast.tw12505034116497498095 : True := trivial
theorem PySem.W.Fast.tw6646750077300752833 : True := trivial
theorem PySem.W.Fast.tw10778065114214575211 : True := trivial
theorem PySem.W.Fast.tw3904014149851138121 : True := trivial
theorem PySem.W.Fast.tw6845853608613226774 : True := trivial
theorem PySem.W.Fast.tw7441792377713911475 : True := trivial
theorem PySem.W.Fast.tw6157306166149080177 : True := trivial
theorem PySem.W.Fast.tw14551000065867482796 : True := trivial
theorem PySem.W.Fast.tw11098216152191817185 : True := trivial
theorem PySem.W.Fast.tw147996202708621406 : True := trivial
theorem PySem.W.Fast.tw8053391812410802215 : True := trivial
theorem PySem.W.Fast.tw5642769295581575293 : True := trivial
theorem PySem.W.Fast.tw17259904104855373054 : True := trivial
theorem PySem.W.Fast.tw4612221711699087605 : True := trivial
theorem PySem.W.Fast.tw13703394723762795757 : True := trivial
theorem PySem.W.Fast.tw10446624738494771856 : True := trivial
theorem PySem.W.Fast.tw16468011486301323469 : True := trivial
theorem PySem.W.Fast.tw15457488508781243936 : True := trivial
theorem PySem.W.Fast.tw1677188947340367434 : True := trivial
theorem PySem.W.Fast.tw16545308801456626668 : True := trivial
theorem PySem.W.Fast.tw1317949768503446129 : True := trivial
theorem PySem.W.Fast.tw14591239586188601929 : True := trivial
theorem PySem.W.Fast.tw18187973728049414295 : True := trivial
theorem PySem.W.Fast.tw11903555863294049806 : True := trivial
theorem PySem.W.Fast.tw5828397439839507768 : True := trivial
theorem PySem.W.Fast.tw9242729384633237967 : True := trivial
theorem PySem.W.Fast.tw15108535246983261580 : True := trivial
theorem PySem.W.Fast.tw6872189462869450153 : True := trivial
theorem PySem.W.Fast.tw17842356565647684735 : True := trivial
theorem PySem.W.Fast.tw10127093987055465841 : True := trivial
theorem PySem.W.Fast.tw4181030790457648880 : True := trivial
theorem PySem.W.Fast.tw10669074665093220216 : True := trivial
theorem PySem.W.Fast.tw7556715321544352083 : True := trivial
theorem PySem.W.Fast.tw9901715599055396447 : True := trivial
theorem PySem.W.Fast.tw3865327116604257269 : True := trivial
theorem PySem.W.Fast.tw9386860344621918594 : True := trivial
theorem PySem.W.Fast.tw7397562741235656323 : True := trivial
theorem PySem.W.Fast.tw6738195831778520269 : True := trivial
theorem PySem.W.Fast.tw9493591779429826064 : True := trivial
theorem PySem.W.Fast.tw7390411795097002659 : True := trivial
theorem PySem.W.Fast.tw6796244940498616943 : True := trivial
theorem PySem.W.Fast.tw15360298917954249907 : True := trivial
theorem PySem.W.Fast.tw5779493353507340028 : True := trivial
theorem PySem.W.Fast.tw17163761225931934083 : True := trivial
theorem PySem.W.Fast.tw860165904062993417 : True := trivial
theorem PySem.W.Fast.tw1120636819482778450 : True := trivial
theorem PySem.W.Fast.tw13788304183057796105 : True := trivial
theorem PySem.W.Fast.tw11803930499629094786 : True := trivial
theorem PySem.W.Fast.tw15481632518174122993 : True := trivial
theorem PySem.W.Fast.tw16893875942282434286 : True := trivial
theorem PySem.W.Fast.tw13567459611383026738 : True := trivial
theorem PySem.W.Fast.tw2064953261252110081 : True := trivial
theorem PySem.W.Fast.tw17609787024095169017 : True := trivial
theorem PySem.W.Fast.tw6330818907666298540 : True := trivial
theorem PySem.W.Fast.tw2675981315440273402 : True := trivial
theorem PySem.W.Fast.tw9722029079302121186 : True := trivial
theorem PySem.W.Fast.tw6056639410788685320 : True := trivial
theorem PySem.W.Fast.tw382493461833346482 : True := trivial
theorem PySem.W.Fast.tw10167208905340255586 : True := trivial
theorem PySem.W.Fast.tw15601463990743554014 : True := trivial
theorem PySem.W.Fast.tw6815349598493171938 : True := trivial
theorem PySem.W.Fast.tw5144038327758253838 : True := trivial
theorem PySem.W.Fast.tw5134207769039999872 : True := trivial
theorem PySem.W.Fast.tw5739031854912439228 : True := trivial
theorem PySem.W.Fast.tw4356958986280277241 : True := trivial
theorem PySem.W.Fast.tw9839767193857801328 : True := trivial
theorem PySem.W.Fast.tw5017443511226451715 : True := trivial
theorem PySem.W.Fast.tw7061020382635712055 : True := trivial
theorem PySem.W.Fast.tw17311080566805038048 : True := trivial
theorem PySem.W.Fast.tw8325813335167684372 : True := trivial
theorem PySem.W.Fast.tw1405368376232529747 : True := trivial
theorem PySem.W.Fast.tw12070724008819825108 : True := trivial
theorem PySem.W.Fast.tw12284068446479050920 : True := trivial
theorem PySem.W.Fast.tw4803326296860959805 : True := trivial
theorem PySem.W.Fast.tw1597756831281485320 : True := trivial
theorem PySem.W.Fast.tw6741942745473939282 : True := trivial
theorem PySem.W.Fast.tw39233779017555985 : True := trivial
theorem PySem.W.Fast.tw15927578117246170758 : True := trivial
theorem PySem.W.Fast.tw15615299674184253512 : True := trivial
theorem PySem.W.Fast.tw4691595011459727270 : True := trivial
theorem PySem.W.Fast.tw10485736514215227343 : True := trivial
theorem PySem.W.Fast.tw16441263001705769648 : True := trivial
theorem PySem.W.Fast.tw16285531276833855260 : True := trivial
theorem PySem.W.Fast.tw13706828797180220104 : True := trivial
theorem PySem.W.Fast.tw11275728200686084726 : True := trivial
theorem PySem.W.Fast.tw3172529969616531452 : True := trivial
theorem PySem.W.Fast.tw11190142274670759958 : True := trivial
theorem PySem.W.Fast.tw15766073003340115811 : True := trivial
theorem PySem.W.Fast.tw459439280040336250 : True := trivial
theorem PySem.W.Fast.tw6361428274969334689 : True := trivial
theorem PySem.W.Fast.tw2699967278057554005 : True := trivial
theorem PySem.W.Fast.tw10596467991121734340 : True := trivial
theorem PySem.W.Fast.tw671385923840089858 : True := trivial
theorem PySem.W.Fast.tw9946939635993494543 : True := trivial
theorem PySem.W.Fast.tw2241579070190170816 : True := trivial
theorem PySem.W.Fast.tw15291515169121014810 : True := trivial
theorem PySem.W.Fast.tw7271853246546553347 : True := trivial
theorem PySem.W.Fast.tw12431290493390074443 : True := trivial
theorem PySem.W.Fast.tw780431275646541802 : True := trivial
theorem PySem.W.Fast.tw17835872732890835980 : True := trivial
theorem PySem.W.Fast.tw8423645645323003748 : True := trivial
theorem PySem.W.Fast.tw18139998119462679910 : True := trivial
theorem PySem.W.Fast.tw4172570167647777840 : True := trivial
theorem PySem.W.Fast.tw11869856069533299357 : True := trivial
theorem PySem.W.Fast.tw11927965663159306225 : True := trivial
theorem PySem.W.Fast.tw4518166040679528419 : True := trivial
theorem PySem.W.Fast.tw8565321821053145109 : True := trivial
theorem PySem.W.Fast.tw2408741005290227987 : True := trivial
theorem PySem.W.Fast.tw9301653488942257128 : True := trivial
theorem PySem.W.Fast.tw3156311763228502609 : True := trivial
theorem PySem.W.Fast.tw2255757867726508529 : True := trivial
theorem PySem.W.Fast.tw5960461674980247076 : True := trivial
theorem PySem.W.Fast.tw6119542740612084708 : True := trivial
theorem PySem.W.Fast.tw16313517037477426749 : True := trivial
theorem PySem.W.Fast.tw13368407985970552116 : True := trivial
theorem PySem.W.Fast.tw15500091444237152125 : True := trivial
theorem PySem.W.Fast.tw15640857347242637563 : True := trivial
theorem PySem.W.Fast.tw4900963468486294147 : True := trivial
theorem PySem.W.Fast.tw7768110574298614077 : True := trivial
theorem PySem.W.Fast.tw12079815974112437434 : True := trivial
theorem PySem.W.Fast.tw12565308894751357400 : True := trivial
theorem PySem.W.Fast.tw16037544471320689729 : True := trivial
theorem PySem.W.Fast.tw338856818130158828 : True := trivial
theorem PySem.W.Fast.tw4867969180325448401 : True := trivial
theorem PySem.W.Fast.tw6418607570988641477 : True := trivial
theorem PySem.W.Fast.tw11828412507858136432 : True := trivial
theorem PySem.W.Fast.tw12659974356142175860 : True := trivial
theorem PySem.W.Fast.tw11186122986694209955 : True := trivial
theorem PySem.W.Fast.tw17553555913246003339 : True := trivial
theorem PySem.W.Fast.tw16575780449302042162 : True := trivial
theorem PySem.W.Fast.tw2042017209681915565 : True := trivial
theorem PySem.W.Fast.tw15974264632975703492 : True := trivial
theorem PySem.W.Fast.tw6305213502577021434 : True := trivial
theorem PySem.W.Fast.tw4520067573769869951 : True := trivial
theorem PySem.W.Fast.tw68707710872774274 : True := trivial
theorem PySem.W.Fast.tw12473631999906287182 : True := trivial
theorem PySem.W.Fast.tw15688660368817691856 : True := trivial
theorem PySem.W.Fast.tw612281516847863437 : True := trivial
theorem PySem.W.Fast.tw16549333545629565828 : True := trivial
theorem PySem.W.Fast.tw8381686390599438274 : True := trivial
theorem PySem.W.Fast.tw2280852283485697621 : True := trivial
theorem PySem.W.Fast.tw1465369221158908386 : True := trivial
theorem PySem.W.Fast.tw16022842863472801878 : True := trivial
theorem PySem.W.Fast.tw15399799763313370957 : True := trivial
theorem PySem.W.Fast.tw12504049174265413873 : True := trivial
theorem PySem.W.Fast.tw9662698572527371229 : True := trivial
theorem PySem.W.Fast.tw12139813511040148402 : True := trivial
theorem PySem.W.Fast.tw15111813056145646498 : True := trivial
theorem PySem.W.Fast.tw411243842004039417 : True := trivial
theorem PySem.W.Fast.tw16324190571771304460 : True := trivial
theorem PySem.W.Fast.tw13963550888990939937 : True := trivial
theorem PySem.W.Fast.tw1598600933599806385 : True := trivial
theorem PySem.W.Fast.tw18308373055971995923 : True := trivial
theorem PySem.W.Fast.tw11463741476551565923 : True := trivial
theorem PySem.W.Fast.tw2860350119594402272 : True := trivial
theorem PySem.W.Fast.tw5164690220103001044 : True := trivial
theorem PySem.W.Fast.tw4553841063007191673 : True := trivial
theorem PySem.W.Fast.tw779283350811370403 : True := trivial
theorem PySem.W.Fast.tw18404240820635978218 : True := trivial
theorem PySem.W.Fast.tw17477523802251075797 : True := trivial
theorem PySem.W.Fast.tw12087226795241569053 : True := trivial
theorem PySem.W.Fast.tw12346668610811701379 : True := trivial
theorem PySem.W.Fast.tw8482997333287002178 : True := trivial
theorem PySem.W.Fast.tw15398571287992540341 : True := trivial
theorem PySem.W.Fast.tw16983528129692580572 : True := trivial
theorem PySem.W.Fast.tw5769130086628273054 : True := trivial
theorem PySem.W.Fast.tw11176100231234569788 : True := trivial
theorem PySem.W.Fast.tw2117469300275403666 : True := trivial
theorem PySem.W.Fast.tw8735378333454846575 : True := trivial
theorem PySem.W.Fast.tw7713725409858027079 : True := trivial
theorem PySem.W.Fast.tw4307425585338361177 : True := trivial
theorem PySem.W.Fast.tw5112822159811562037 : True := trivial
theorem PySem.W.Fast.tw11603936188620661559 : True := trivial
theorem PySem.W.Fast.tw1988212921967944361 : True := trivial
theorem PySem.W.Fast.tw7547558859197162250 : True := trivial
theorem PySem.W.Fast.tw18148777089926687692 : True := trivial
theorem PySem.W.Fast.tw7043689578759876095 : True := trivial
theorem PySem.W.Fast.tw5563021184856764885 : True := trivial
theorem PySem.W.Fast.tw10928394951766741221 : True := trivial
theorem PySem.W.Fast.tw14771967929955993144 : True := trivial
theorem PySem.W.Fast.tw3826826207630803073 : True := trivial
theorem PySem.W.Fast.tw350411398142909047 : True := trivial
theorem PySem.W.Fast.tw166754951900141354 : True := trivial
theorem PySem.W.Fast.tw10579365811251341487 : True := trivial
theorem PySem.W.Fast.tw2906676136926023052 : True := trivial
theorem PySem.W.Fast.tw8046053306623507289 : True := trivial
theorem PySem.W.Fast.tw8404460393362670618 : True := trivial
theorem PySem.W.Fast.tw6538883695427660523 : True := trivial
theorem PySem.W.Fast.tw15650214930810067178 : True := trivial
theorem PySem.W.Fast.tw15209157655277293454 : True := trivial
theorem PySem.W.Fast.tw1387038512613954687 : True := trivial
theorem PySem.W.Fast.tw4963912824060312343 : True := trivial
theorem PySem.W.Fast.tw6016843260648455296 : True := trivial
theorem PySem.W.Fast.tw5482077541910821800 : True := trivial
theorem PySem.W.Fast.tw295031270194944341 : True := trivial
theorem PySem.W.Fast.tw6068162122267578567 : True := trivial
theorem PySem.W.Fast.tw16565325959147658358 : True := trivial
theorem PySem.W.Fast.tw8607530650441711105 : True := trivial
theorem PySem.W.Fast.tw7358350109529017437 : True := trivial
theorem PySem.W.Fast.tw13618191147942078420 : True := trivial
theorem PySem.W.Fast.tw3646602248425640969 : True := trivial
theorem PySem.W.Fast.tw17389554907770548930 : True := trivial
theorem PySem.W.Fast.tw10973019063569445244 : True := trivial
theorem PySem.W.Fast.tw3378205373618566771 : True := trivial
theorem PySem.W.Fast.tw1095722528023382179 : True := trivial
theorem PySem.W.Fast.tw10854268832609210729 : True := trivial
theorem PySem.W.Fast.tw3385645648600266238 : True := trivial
theorem PySem.W.Fast.tw9052701711474741849 : True := trivial
theorem PySem.W.Fast.tw787626205374901499 : True := trivial
theorem PySem.W.Fast.tw10778877516826298736 : True := trivial
theorem PySem.W.Fast.tw2666255237335413949 : True := trivial
theorem PySem.W.Fast.tw9276411376988074873 : True := trivial
theorem PySem.W.Fast.tw17093070139513820600 : True := trivial
theorem PySem.W.Fast.tw1634103995780545980 : True := trivial
theorem PySem.W.Fast.tw12603040216958622018 : True := trivial
theorem PySem.W.Fast.tw7155065483400014624 : True := trivial
theorem PySem.W.Fast.tw2255223545143553668 : True := trivial
theorem PySem.W.Fast.tw7279266157853882866 : True := trivial
theorem PySem.W.Fast.tw4768554100699310359 : True := trivial
theorem PySem.W.Fast.tw7952663479679389866 : True := trivial
theorem PySem.W.Fast.tw2074107571773543796 : True := trivial
theorem PySem.W.Fast.tw9372027676302513330 : True := trivial
theorem PySem.W.Fast.tw16451316811552276 : True := trivial
theorem PySem.W.Fast.tw7380217795408302514 : True := trivial
theorem PySem.W.Fast.tw7270311817993156227 : True := trivial
theorem PySem.W.Fast.tw12881504590107709993 : True := trivial
theorem PySem.W.Fast.tw6407651620805940507 : True := trivial
theorem PySem.W.Fast.tw9876980167115566850 : True := trivial
theorem PySem.W.Fast.tw4718354874042759486 : True := trivial
theorem PySem.W.Fast.tw15273272923009828695 : True := trivial
theorem PySem.W.Fast.tw15068882637483588281 : True := trivial
theorem PySem.W.Fast.tw15408404978604603119 : True := trivial
theorem PySem.W.Fast.tw11671248598405532913 : True := trivial
theorem PySem.W.Fast.tw4169900132882089832 : True := trivial
theorem PySem.W.Fast.tw5585856066061258104 : True := trivial
theorem PySem.W.Fast.tw6484307032819554298 : True := trivial
theorem PySem.W.Fast.tw15332615784278118809 : True := trivial
theorem PySem.W.Fast.tw1628856732062785120 : True := trivial
theorem PySem.W.Fast.tw16264504407807344402 : True := trivial
theorem PySem.W.Fast.tw5554207324810526051 : True := trivial
theorem PySem.W.Fast.tw3169030637988764742 : True := trivial
theorem PySem.W.Fast.tw4744925845852357971 : True := trivial
theorem PySem.W.Fast.tw6994914226201096323 : True := trivial
theorem PySem.W.Fast.tw17181958306535019858 : True := trivial
theorem PySem.W.Fast.tw11761004482409808652 : True := trivial
theorem PySem.W.Fast.tw15823806616518849358 : True := trivial
theorem PySem.W.Fast.tw7350294383525246699 : True := trivial
theorem PySem.W.Fast.tw12911554567753302416 : True := trivial
theorem PySem.W.Fast.tw14936819697083926784 : True := trivial
theorem PySem.W.Fast.tw9696513936640579843 : True := trivial
theorem PySem.W.Fast.tw14881849158969345942 : True := trivial
theorem PySem.W.Fast.tw4568115904605063116 : True := trivial
theorem PySem.W.Fast.tw10065288232570467843 : True := trivial
theorem PySem.W.Fast.tw290506869303377154 : True := trivial
theorem PySem.W.Fast.tw2863784564537163858 : True := trivial
theorem PySem.W.Fast.tw13398930779422280137 : True := trivial
theorem PySem.W.Fast.tw5458568512408786829 : True := trivial
theorem PySem.W.Fast.tw12446026383052972311 : True := trivial
theorem PySem.W.Fast.tw17998980924697587997 : True := trivial
theorem PySem.W.Fast.tw14571975381146854405 : True := trivial
theorem PySem.W.Fast.tw4584167645411196410 : True := trivial
theorem PySem.W.Fast.tw17590569654891073117 : True := trivial
theorem PySem.W.Fast.tw16210494841943373360 : True := trivial
theorem PySem.W.Fast.tw4214365601691237976 : True := trivial
theorem PySem.W.Fast.tw5914247699888676003 : True := trivial
theorem PySem.W.Fast.tw2623596666835805461 : True := trivial
theorem PySem.W.Fast.tw2138857653847807739 : True := trivial
theorem PySem.W.Fast.tw13502920910470961415 : True := trivial
theorem PySem.W.Fast.tw10072539623148090663 : True := trivial
theorem PySem.W.Fast.tw15475041262193311317 : True := trivial
theorem PySem.W.Fast.tw13293740212025064653 : True := trivial
theorem PySem.W.Fast.tw10132851034505108690 : True := trivial
theorem PySem.W.Fast.tw17812363622255657532 : True := trivial
theorem PySem.W.Fast.tw6461254327843216942 : True := trivial
theorem PySem.W.Fast.tw9059169117791623790 : True := trivial
theorem PySem.W.Fast.tw7462314680626197502 : True := trivial
theorem PySem.W.Fast.tw1987595407392343888 : True := trivial
theorem PySem.W.Fast.tw17778226130311192591 : True := trivial
theorem PySem.W.Fast.tw4760586481571655806 : True := trivial
theorem PySem.W.Fast.tw14475748248429713362 : True := trivial
theorem PySem.W.Fast.tw4261649110015477543 : True := trivial
theorem PySem.W.Fast.tw3018837233398483867 : True := trivial
theorem PySem.W.Fast.tw11747622638953660666 : True := trivial
theorem PySem.W.Fast.tw11365275711319845498 : True := trivial
theorem PySem.W.Fast.tw10672124061523429192 : True := trivial
theorem PySem.W.Fast.tw11687150207198562970 : True := trivial
theorem PySem.W.Fast.tw4075916987029755595 : True := trivial
theorem PySem.W.Fast.tw17703536484284372518 : True := trivial
theorem PySem.W.Fast.tw880485852265491573 : True := trivial
theorem PySem.W.Fast.tw18209201226510947516 : True := trivial
theorem PySem.W.Fast.tw16894253939836988782 : True := trivial
theorem PySem.W.Fast.tw9393089025430304426 : True := trivial
theorem PySem.W.Fast.tw6094695690110304454 : True := trivial
theorem PySem.W.Fast.tw15056990644816675768 : True := trivial
theorem PySem.W.Fast.tw7563820763019008437 : True := trivial
theorem PySem.W.Fast.tw17253806724842727183 : True := trivial
theorem PySem.W.Fast.tw1418942637338236475 : True := trivial
theorem PySem.W.Fast.tw9824618626117526969 : True := trivial
theorem PySem.W.Fast.tw1716487003826042729 : True := trivial
theorem PySem.W.Fast.tw18281276777224877360 : True := trivial
theorem PySem.W.Fast.tw5704082015662447210 : True := trivial
theorem PySem.W.Fast.tw12320619219316955810 : True := trivial
theorem PySem.W.Fast.tw7074819433623973698 : True := trivial
theorem PySem.W.Fast.tw16204954131072788732 : True := trivial
theorem PySem.W.Fast.tw617457151650366550 : True := trivial
theorem PySem.W.Fast.tw10665416645395031136 : True := trivial
theorem PySem.W.Fast.tw15692622478901542587 : True := trivial
theorem PySem.W.Fast.tw7793336248481830305 : True := trivial
theorem PySem.W.Fast.tw253333638054672045 : True := trivial
theorem PySem.W.Fast.tw2902195771159078344 : True := trivial
theorem PySem.W.Fast.tw4952340266541863239 : True := trivial
theorem PySem.W.Fast.tw12763714020826236234 : True := trivial
theorem PySem.W.Fast.tw13568649843022546270 : True := trivial
theorem PySem.W.Fast.tw12360209282267105044 : True := trivial
theorem PySem.W.Fast.tw13299500896634170884 : True := trivial
theorem PySem.W.Fast.tw10643291032292485103 : True := trivial
theorem PySem.W.Fast.tw13740202574822680628 : True := trivial
theorem PySem.W.Fast.tw17602539683342166360 : True := trivial
theorem PySem.W.Fast.tw5287266749642073217 : True := trivial
theorem PySem.W.Fast.tw7396488375103280658 : True := trivial
theorem PySem.W.Fast.tw8657333382867449856 : True := trivial
theorem PySem.W.Fast.tw14340404604961277498 : True := trivial
theorem PySem.W.Fast.tw9133871057240656121 : True := trivial
theorem PySem.W.Fast.tw12256119998372120676 : True := trivial
theorem PySem.W.Fast.tw10603466508396962032 : True := trivial
theorem PySem.W.Fast.tw7877223684733464460 : True := trivial
theorem PySem.W.Fast.tw5086246555409230569 : True := trivial
theorem PySem.W.Fast.tw9777730646568595951 : True := trivial
theorem PySem.W.Fast.tw4176003638486616424 : True := trivial
theorem PySem.W.Fast.tw7057910505827675293 : True := trivial
theorem PySem.W.Fast.tw4282588031234789537 : True := trivial
theorem PySem.W.Fast.tw2499436976697401474 : True := trivial
theorem PySem.W.Fast.tw534550905001110911 : True := trivial
theorem PySem.W.Fast.tw3596371060326083943 : True := trivial
theorem PySem.W.Fast.tw1133043818081754316 : True := trivial
theorem PySem.W.Fast.tw17334139298204526857 : True := trivial
theorem PySem.W.Fast.tw6727461938115842222 : True := trivial
theorem PySem.W.Fast.tw17386242313579589495 : True := trivial
theorem PySem.W.Fast.tw11795294900041920159 : True := trivial
theorem PySem.W.Fast.tw6481598807551272174 : True := trivial
theorem PySem.W.Fast.tw13654289280655393573 : True := trivial
theorem PySem.W.Fast.tw5614799282629012119 : True := trivial
theorem PySem.W.Fast.tw15818072981320880051 : True := trivial
theorem PySem.W.Fast.tw15705048882810025541 : True := trivial
theorem PySem.W.Fast.tw2869171824196517901 : True := trivial
theorem PySem.W.Fast.tw14282361844699138514 : True := trivial
theorem PySem.W.Fast.tw718378040330347146 : True := trivial
theorem PySem.W.Fast.tw3383950332559989969 : True := trivial
theorem PySem.W.Fast.tw8317389827105279057 : True := trivial
theorem PySem.W.Fast.tw9958860225834890263 : True := trivial
theorem PySem.W.Fast.tw10703987425920497078 : True := trivial
theorem PySem.W.Fast.tw14106221999968763360 : True := trivial
theorem PySem.W.Fast.tw18222532048134522883 : True := trivial
theorem PySem.W.Fast.tw10061500357354960023 : True := trivial
theorem PySem.W.Fast.tw6986392013028579381 : True := trivial
theorem PySem.W.Fast.tw5521038550455302210 : True := trivial
theorem PySem.W.Fast.tw6969563369622671853 : True := trivial
theorem PySem.W.Fast.tw13622343733418641858 : True := trivial
theorem PySem.W.Fast.tw16569025268653195012 : True := trivial
theorem PySem.W.Fast.tw9965466807058962824 : True := trivial
theorem PySem.W.Fast.tw3157395743174854666 : True := trivial
theorem PySem.W.Fast.tw8968471721835040484 : True := trivial
theorem PySem.W.Fast.tw8118565367686382084 : True := trivial
theorem PySem.W.Fast.tw17670949139908224623 : True := trivial
theorem PySem.W.Fast.tw266096404000186278 : True := trivial
theorem PySem.W.Fast.tw17883639852266599474 : True := trivial
theorem PySem.W.Fast.tw7362838554878742385 : True := trivial
theorem PySem.W.Fast.tw18229167225837047764 : True := trivial
theorem PySem.W.Fast.tw17462922412903472384 : True := trivial
theorem PySem.W.Fast.tw7287021870840133258 : True := trivial
theorem PySem.W.Fast.tw5703621841351449841 : True := trivial
theorem PySem.W.Fast.tw13885770757212803457 : True := trivial
theorem PySem.W.Fast.tw10651403830260563786 : True := trivial
theorem PySem.W.Fast.tw11950525660112532054 : True := trivial
theorem PySem.W.Fast.tw12735057475867009964 : True := trivial
theorem PySem.W.Fast.tw16434703205113293557 : True := trivial
theorem PySem.W.Fast.tw9261326275975321611 : True := trivial
theorem PySem.W.Fast.tw3486163369125982377 : True := trivial
theorem PySem.W.Fast.tw14752436165925988728 : True := trivial
theorem PySem.W.Fast.tw10892937077040958967 : True := trivial
theorem PySem.W.Fast.tw3280912240569313569 : True := trivial
theorem PySem.W.Fast.tw14833259025940826985 : True := trivial
theorem PySem.W.Fast.tw13594630020869403603 : True := trivial
theorem PySem.W.Fast.tw3640278620591435548 : True := trivial
theorem PySem.W.Fast.tw10758661389054488705 : True := trivial
theorem PySem.W.Fast.tw10736993310910381881 : True := trivial
theorem PySem.W.Fast.tw10411726630030036918 : True := trivial
theorem PySem.W.Fast.tw10899013410993756075 : True := trivial
theorem PySem.W.Fast.tw581101621200037410 : True := trivial
theorem PySem.W.Fast.tw15090997111972187647 : True := trivial
theorem PySem.W.Fast.tw1470260952975907603 : True := trivial
theorem PySem.W.Fast.tw7619196189567525021 : True := trivial
theorem PySem.W.Fast.tw9260467819038217528 : True := trivial
theorem PySem.W.Fast.tw3886658861333702914 : True := trivial
theorem PySem.W.Fast.tw6309726159683906405 : True := trivial
theorem PySem.W.Fast.tw687218347227727957 : True := trivial
theorem PySem.W.Fast.tw17333314362881244643 : True := trivial
theorem PySem.W.Fast.tw10331736165874869576 : True := trivial
theorem PySem.W.Fast.tw1752517368101509401 : True := trivial
theorem PySem.W.Fast.tw10843021352454943368 : True := trivial
theorem PySem.W.Fast.tw7368264281344856694 : True := trivial
theorem PySem.W.Fast.tw2478205671986428623 : True := trivial
theorem PySem.W.Fast.tw1107375056166240202 : True := trivial
theorem PySem.W.Fast.tw16065693946334371742 : True := trivial
theorem PySem.W.Fast.tw13629069281065517102 : True := trivial
theorem PySem.W.Fast.tw17627105994631751391 : True := trivial
theorem PySem.W.Fast.tw13340656963962354313 : True := trivial
theorem PySem.W.Fast.tw1614940713904168743 : True := trivial
theorem PySem.W.Fast.tw16595023922844962589 : True := trivial
theorem PySem.W.Fast.tw2989103353655471643 : True := trivial
theorem PySem.W.Fast.tw12114346989972434925 : True := trivial
theorem PySem.W.Fast.tw17048350926247424058 : True := trivial
theorem PySem.W.Fast.tw6850087279406769066 : True := trivial
theorem PySem.W.Fast.tw17276579851780011151 : True := trivial
theorem PySem.W.Fast.tw15669257042941397814 : True := trivial
theorem PySem.W.Fast.tw495380154134473985 : True := trivial
theorem PySem.W.Fast.tw8623015959765452234 : True := trivial
theorem PySem.W.Fast.tw10556630533522138728 : True := trivial
theorem PySem.W.Fast.tw12352470591758421121 : True := trivial
theorem PySem.W.Fast.tw17094198674683296707 : True := trivial
theorem PySem.W.Fast.tw4693509894925163141 : True := trivial
theorem PySem.W.Fast.tw735310182787699462 : True := trivial
theorem PySem.W.Fast.tw12187548488809270044 : True := trivial
theorem PySem.W.Fast.tw1537433490654963827 : True := trivial
theorem PySem.W.Fast.tw12849019106210942161 : True := trivial
theorem PySem.W.Fast.tw7846542054568366392 : True := trivial
theorem PySem.W.Fast.tw8087803039607252240 : True := trivial
theorem PySem.W.Fast.tw332605281464199403 : True := trivial
theorem PySem.W.Fast.tw3803516210883506868 : True := trivial
theorem PySem.W.Fast.tw13121318039814799739 : True := trivial
theorem PySem.W.Fast.tw799975056571223986 : True := trivial
theorem PySem.W.Fast.tw7639010722375074352 : True := trivial
theorem PySem.W.Fast.tw5597803877776561597 : True := trivial
theorem PySem.W.Fast.tw9136394396230944045 : True := trivial
theorem PySem.W.Fast.tw3208871685360592255 : True := trivial
theorem PySem.W.Fast.tw13939629364969186706 : True := trivial
theorem PySem.W.Fast.tw3938146802041204630 : True := trivial
theorem PySem.W.Fast.tw2364189203351273550 : True := trivial
theorem PySem.W.Fast.tw8000310959284997202 : True := trivial
theorem PySem.W.Fast.tw7033986880858266686 : True := trivial
theorem PySem.W.Fast.tw6266601195499027114 : True := trivial
theorem PySem.W.Fast.tw16209471106615236171 : True := trivial
theorem PySem.W.Fast.tw1221019939075332254 : True := trivial
theorem PySem.W.Fast.tw3007452166565856216 : True := trivial
theorem PySem.W.Fast.tw8894064072107568794 : True := trivial
theorem PySem.W.Fast.tw9496042502711636266 : True := trivial
theorem PySem.W.Fast.tw6539978237992400658 : True := trivial
theorem PySem.W.Fast.tw13817489846110512628 : True := trivial
theorem PySem.W.Fast.tw7351950444239313413 : True := trivial
theorem PySem.W.Fast.tw7240265541595954441 : True := trivial
theorem PySem.W.Fast.tw18289120519623243791 : True := trivial
theorem PySem.W.Fast.tw12299261406983065955 : True := trivial
theorem PySem.W.Fast.tw8919399975786801778 : True := trivial
theorem PySem.W.Fast.tw3926150670434424913 : True := trivial
theorem PySem.W.Fast.tw275036652549808687 : True := trivial
theorem PySem.W.Fast.tw6202961772021475420 : True := trivial
theorem PySem.W.Fast.tw6952336018707598036 : True := trivial
theorem PySem.W.Fast.tw14650107739880843698 : True := trivial
theorem PySem.W.Fast.tw969907075015792125 : True := trivial
theorem PySem.W.Fast.tw2741240093936262130 : True := trivial
theorem PySem.W.Fast.tw17310199219149153214 : True := trivial
theorem PySem.W.Fast.tw6603066385713271927 : True := trivial
theorem PySem.W.Fast.tw17128012570086041575 : True := trivial
theorem PySem.W.Fast.tw11026633693406047434 : True := trivial
theorem PySem.W.Fast.tw1051959505504950503 : True := trivial
theorem PySem.W.Fast.tw553677606799490585 : True := trivial
theorem PySem.W.Fast.tw398996718712108650 : True := trivial
theorem PySem.W.Fast.tw3571147006040627295 : True := trivial
theorem PySem.W.Fast.tw4024571554757042973 : True := trivial
theorem PySem.W.Fast.tw15447367629165499955 : True := trivial
theorem PySem.W.Fast.tw3831156301328628840 : True := trivial
theorem PySem.W.Fast.tw16436188225702044118 : True := trivial
theorem PySem.W.Fast.tw4849007889280055055 : True := trivial
theorem PySem.W.Fast.tw12481931772111060679 : True := trivial
theorem PySem.W.Fast.tw5126905162617313382 : True := trivial
theorem PySem.W.Fast.tw2704873083730363331 : True := trivial
theorem PySem.W.Fast.tw13677493822967176214 : True := trivial
theorem PySem.W.Fast.tw14744487027722959379 : True := trivial
theorem PySem.W.Fast.tw10326424941876708033 : True := trivial
theorem PySem.W.Fast.tw12964141632281827136 : True := trivial
theorem PySem.W.Fast.tw7934970608455356799 : True := trivial
theorem PySem.W.Fast.tw14386426071672006071 : True := trivial
theorem PySem.W.Fast.tw12367164644025883418 : True := trivial
theorem PySem.W.Fast.tw8867731159943856615 : True := trivial
theorem PySem.W.Fast.tw9926401995327754682 : True := trivial
theorem PySem.W.Fast.tw13873058197072336950 : True := trivial
theorem PySem.W.Fast.tw17554502399231820165 : True := trivial
theorem PySem.W.Fast.tw5279878471456084365 : True := trivial
theorem PySem.W.Fast.tw13890133504074900382 : True := trivial
theorem PySem.W.Fast.tw7061462613953224304 : True := trivial
theorem PySem.W.Fast.tw16647354065816915032 : True := trivial
theorem PySem.W.Fast.tw7402589819517831430 : True := trivial
theorem PySem.W.Fast.tw14069713635873669365 : True := trivial
theorem PySem.W.Fast.tw5182545266867774221 : True := trivial
theorem PySem.W.Fast.tw13741999893968211911 : True := trivial
theorem PySem.W.Fast.tw1126294188011138214 : True := trivial
theorem PySem.W.Fast.tw57045771038513748 : True := trivial
theorem PySem.W.Fast.tw5617549241560689160 : True := trivial
theorem PySem.W.Fast.tw7290195897213973559 : True := trivial
theorem PySem.W.Fast.tw6534283480797326499 : True := trivial
theorem PySem.W.Fast.tw3156700855183114625 : True := trivial
theorem PySem.W.Fast.tw1220345632050378516 : True := trivial
theorem PySem.W.Fast.tw11468985592504890119 : True := trivial
theorem PySem.W.Fast.tw11751384596351357298 : True := trivial
theorem PySem.W.Fast.tw12426840972593775930 : True := trivial
theorem PySem.W.Fast.tw2694903955895453385 : True := trivial
theorem PySem.W.Fast.tw5005036689700684729 : True := trivial
theorem PySem.W.Fast.tw14227801228436403823 : True := trivial
theorem PySem.W.Fast.tw359409886171324066 : True := trivial
theorem PySem.W.Fast.tw3979569125952565350 : True := trivial
theorem PySem.W.Fast.tw18438371840376539149 : True := trivial
theorem PySem.W.Fast.tw5909158265048652887 : True := trivial
theorem PySem.W.Fast.tw7713503454785885677 : True := trivial
theorem PySem.W.Fast.tw8216671235979732021 : True := trivial
theorem PySem.W.Fast.tw16782643281238754394 : True := trivial
theorem PySem.W.Fast.tw8300021095239985005 : True := trivial
theorem PySem.W.Fast.tw11775772909852912471 : True := trivial
theorem PySem.W.Fast.tw12544666509824474241 : True := trivial
theorem PySem.W.Fast.tw17273033109881687667 : True := trivial
theorem PySem.W.Fast.tw316700545193360874 : True := trivial
theorem PySem.W.Fast.tw10172441657728110794 : True := trivial
theorem PySem.W.Fast.tw14312121789571677577 : True := trivial
theorem PySem.W.Fast.tw7179013291104374190 : True := trivial
theorem PySem.W.Fast.tw9830258821332525803 : True := trivial
theorem PySem.W.Fast.tw6047952542293863904 : True := trivial
theorem PySem.W.Fast.tw14551990776229726556 : True := trivial
theorem PySem.W.Fast.tw5412009503100878570 : True := trivial
theorem PySem.W.Fast.tw2636451608676311424 : True := trivial
theorem PySem.W.Fast.tw9018162398715971020 : True := trivial
theorem PySem.W.Fast.tw7198175323061888241 : True := trivial
theorem PySem.W.Fast.tw10472385144557293994 : True := trivial
theorem PySem.W.Fast.tw7401580412766620049 : True := trivial
theorem PySem.W.Fast.tw5729509097953294304 : True := trivial
theorem PySem.W.Fast.tw17264783947550223224 : True := trivial
theorem PySem.W.Fast.tw5804976629803615707 : True := trivial
theorem PySem.W.Fast.tw3015406938696046159 : True := trivial
theorem PySem.W.Fast.tw1043797116275776422 : True := trivial
theorem PySem.W.Fast.tw11336423551217496773 : True := trivial
theorem PySem.W.Fast.tw731220897232005266 : True := trivial
theorem PySem.W.Fast.tw9576535856825488058 : True := trivial
theorem PySem.W.Fast.tw9363778771834945615 : True := trivial
theorem PySem.W.Fast.tw10073323599071312053 : True := trivial
theorem PySem.W.Fast.tw16128142012824160922 : True := trivial
theorem PySem.W.Fast.tw4298352038991600910 : True := trivial
theorem PySem.W.Fast.tw14471234053535273395 : True := trivial
theorem PySem.W.Fast.tw16340723499677180298 : True := trivial
theorem PySem.W.Fast.tw829258227423556251 : True := trivial
theorem PySem.W.Fast.tw8412301954094517199 : True := trivial
theorem PySem.W.Fast.tw15218764554982737224 : True := trivial
theorem PySem.W.Fast.tw13941836610905542339 : True := trivial
theorem PySem.W.Fast.tw2793453557130908483 : True := trivial
theorem PySem.W.Fast.tw3765634514661280873 : True := trivial
theorem PySem.W.Fast.tw4731519253114026868 : True := trivial
theorem PySem.W.Fast.tw8193466958638521635 : True := trivial
theorem PySem.W.Fast.tw8475637209312465048 : True := trivial
theorem PySem.W.Fast.tw11512188876230488944 : True := trivial
theorem PySem.W.Fast.tw5368152264120623194 : True := trivial
theorem PySem.W.Fast.tw16121268697281351286 : True := trivial
theorem PySem.W.Fast.tw8502569942424828649 : True := trivial
theorem PySem.W.Fast.tw3036974543475142504 : True := trivial
theorem PySem.W.Fast.tw16418682239306490223 : True := trivial
theorem PySem.W.Fast.tw15526198285323919500 : True := trivial
theorem PySem.W.Fast.tw5602072466028383029 : True := trivial
theorem PySem.W.Fast.tw16422090179519882343 : True := trivial
theorem PySem.W.Fast.tw8847380968846163035 : True := trivial
theorem PySem.W.Fast.tw2190817509735433914 : True := trivial
theorem PySem.W.Fast.tw12524316919724534662 : True := trivial
theorem PySem.W.Fast.tw10067738544212398717 : True := trivial
theorem PySem.W.Fast.tw5813159707900515953 : True := trivial
theorem PySem.W.Fast.tw12430888099445543566 : True := trivial
theorem PySem.W.Fast.tw4251188016862364355 : True := trivial
theorem PySem.W.Fast.tw12951947899326216208 : True := trivial
theorem PySem.W.Fast.tw16198820004567491117 : True := trivial
theorem PySem.W.Fast.tw13067646189948445403 : True := trivial
theorem PySem.W.Fast.tw2436496077123810541 : True := trivial
theorem PySem.W.Fast.tw17127173013952006570 : True := trivial
theorem PySem.W.Fast.tw15525416530668194062 : True := trivial
theorem PySem.W.Fast.tw10369770375880115059 : True := trivial
theorem PySem.W.Fast.tw8654921906648549517 : True := trivial
theorem PySem.W.Fast.tw7812925430944725410 : True := trivial
theorem PySem.W.Fast.tw10844306579451729483 : True := trivial
theorem PySem.W.Fast.tw392349612897184664 : True := trivial
theorem PySem.W.Fast.tw9072922904888390870 : True := trivial
theorem PySem.W.Fast.tw15649899302690449005 : True := trivial
theorem PySem.W.Fast.tw7584355466377554610 : True := trivial
theorem PySem.W.Fast.tw3226091815534724227 : True := trivial
theorem PySem.W.Fast.tw18121884676315738787 : True := trivial
theorem PySem.W.Fast.tw4938590608735866182 : True := trivial
theorem PySem.W.Fast.tw5198571493712788827 : True := trivial
theorem PySem.W.Fast.tw12448497710663165474 : True := trivial
theorem PySem.W.Fast.tw4471575475029409286 : True := trivial
theorem PySem.W.Fast.tw13444167955257808395 : True := trivial
theorem PySem.W.Fast.tw4265281078553279634 : True := trivial
theorem PySem.W.Fast.tw16037425186575851625 : True := trivial
theorem PySem.W.Fast.tw16508687353378196083 : True := trivial
theorem PySem.W.Fast.tw17609461001626062175 : True := trivial
theorem PySem.W.Fast.tw14889997763603826000 : True := trivial
theorem PySem.W.Fast.tw13342243983524210044 : True := trivial
theorem PySem.W.Fast.tw1876601566213340560 : True := trivial
theorem PySem.W.Fast.tw8918508354857743309 : True := trivial
theorem PySem.W.Fast.tw16259138899900462952 : True := trivial
theorem PySem.W.Fast.tw1190667393225923353 : True := trivial
theorem PySem.W.Fast.tw7612163355451353006 : True := trivial
theorem PySem.W.Fast.tw16188577934200906435 : True := trivial
theorem PySem.W.Fast.tw6523457743691682922 : True := trivial
theorem PySem.W.Fast.tw3751091379366435295 : True := trivial
theorem PySem.W.Fast.tw16091727486092991478 : True := trivial
theorem PySem.W.Fast.tw14037748324695765719 : True := trivial
theorem PySem.W.Fast.tw7914190990670898016 : True := trivial
theorem PySem.W.Fast.tw17907459337359714497 : True := trivial
theorem PySem.W.Fast.tw3884709265893336661 : True := trivial
theorem PySem.W.Fast.tw7534447562458199229 : True := trivial
theorem PySem.W.Fast.tw9949634470288817646 : True := trivial
theorem PySem.W.Fast.tw18269832007004120962 : True := trivial
theorem PySem.W.Fast.tw13052555382831161217 : True := trivial
theorem PySem.W.Fast.tw4606783721115024774 : True := trivial
theorem PySem.W.Fast.tw95677438458767504 : True := trivial
theorem PySem.W.Fast.tw13830789973448701488 : True := trivial
theorem PySem.W.Fast.tw17729401236019257356 : True := trivial
theorem PySem.W.Fast.tw5997066522981820980 : True := trivial
theorem PySem.W.Fast.tw9864866869697018565 : True := trivial
theorem PySem.W.Fast.tw1617986585998242860 : True := trivial
theorem PySem.W.Fast.tw6671708051351838748 : True := trivial
theorem PySem.W.Fast.tw17201095573040920028 : True := trivial
theorem PySem.W.Fast.tw1404159696979941164 : True := trivial
theorem PySem.W.Fast.tw16719387487422031993 : True := trivial
theorem PySem.W.Fast.tw17159057046525319801 : True := trivial
theorem PySem.W.Fast.tw11948436453787619637 : True := trivial
theorem PySem.W.Fast.tw3478188678195329993 : True := trivial
theorem PySem.W.Fast.tw11927294581448225758 : True := trivial
theorem PySem.W.Fast.tw16283739921744637443 : True := trivial
theorem PySem.W.Fast.tw14665865686739833318 : True := trivial
theorem PySem.W.Fast.tw11591120568742028869 : True := trivial
theorem PySem.W.Fast.tw5869247152512116831 : True := trivial
theorem PySem.W.Fast.tw14012730875091103280 : True := trivial
theorem PySem.W.Fast.tw3651641910534576666 : True := trivial
theorem PySem.W.Fast.tw13752176018119473303 : True := trivial
theorem PySem.W.Fast.tw12803596964863810290 : True := trivial
theorem PySem.W.Fast.tw9121511829516813735 : True := trivial
theorem PySem.W.Fast.tw7664380915715029635 : True := trivial
theorem PySem.W.Fast.tw9020086945267172824 : True := trivial
theorem PySem.W.Fast.tw2248715326383919081 : True := trivial
theorem PySem.W.Fast.tw2642608429687513591 : True := trivial
theorem PySem.W.Fast.tw1805961955636470952 : True := trivial
theorem PySem.W.Fast.tw5735793266442612720 : True := trivial
theorem PySem.W.Fast.tw2456360668367021713 : True := trivial
theorem PySem.W.Fast.tw4071616369822438241 : True := trivial
theorem PySem.W.Fast.tw15063433841672600056 : True := trivial
theorem PySem.W.Fast.tw8225781794470972558 : True := trivial
theorem PySem.W.Fast.tw6317649948994957988 : True := trivial
theorem PySem.W.Fast.tw7733596222397330838 : True := trivial
theorem PySem.W.Fast.tw9605011616803476392 : True := trivial
theorem PySem.W.Fast.tw11909693261922423691 : True := trivial
theorem PySem.W.Fast.tw7020362733035282115 : True := trivial
theorem PySem.W.Fast.tw16378262478447691560 : True := trivial
theorem PySem.W.Fast.tw16993994439010475221 : True := trivial
theorem PySem.W.Fast.tw55471104970752602 : True := trivial
theorem PySem.W.Fast.tw18398505046229106396 : True := trivial
theorem PySem.W.Fast.tw14700309411111943708 : True := trivial
theorem PySem.W.Fast.tw18208778021232201444 : True := trivial
theorem PySem.W.Fast.tw14844791264465925610 : True := trivial
theorem PySem.W.Fast.tw15229726730716956718 : True := trivial
theorem PySem.W.Fast.tw3350892952083381749 : True := trivial
theorem PySem.W.Fast.tw14133603595136188618 : True := trivial
theorem PySem.W.Fast.tw3666559304615874735 : True := trivial
theorem PySem.W.Fast.tw7339056640724890633 : True := trivial
theorem PySem.W.Fast.tw4232480062191629708 : True := trivial
theorem PySem.W.Fast.tw15066304917155356165 : True := trivial
theorem PySem.W.Fast.tw1013823202179114499 : True := trivial
theorem PySem.W.Fast.tw2809028352013892677 : True := trivial
theorem PySem.W.Fast.tw14171393192244225554 : True := trivial
theorem PySem.W.Fast.tw18156651991432955558 : True := trivial
theorem PySem.W.Fast.tw5037533398781584243 : True := trivial
theorem PySem.W.Fast.tw4728526962566456916 : True := trivial
theorem PySem.W.Fast.tw11672973133795793198 : True := trivial
theorem PySem.W.Fast.tw12171830339783753356 : True := trivial
theorem PySem.W.Fast.tw4562942933714165935 : True := trivial
theorem PySem.W.Fast.tw6001574555607429717 : True := trivial
theorem PySem.W.Fast.tw16912180813398573504 : True := trivial
theorem PySem.W.Fast.tw4692337453266824744 : True := trivial
theorem PySem.W.Fast.tw11655458178233811410 : True := trivial
theorem PySem.W.Fast.tw3208239959562763220 : True := trivial
theorem PySem.W.Fast.tw13921652764949884419 : True := trivial
theorem PySem.W.Fast.tw1827146370183576081 : True := trivial
theorem PySem.W.Fast.tw6118255949530865168 : True := trivial
theorem PySem.W.Fast.tw4729888911036356551 : True := trivial
theorem PySem.W.Fast.tw12429621921485447150 : True := trivial
theorem PySem.W.Fast.tw15628883279734854127 : True := trivial
theorem PySem.W.Fast.tw12246497751626135193 : True := trivial
theorem PySem.W.Fast.tw17650019874662574017 : True := trivial
theorem PySem.W.Fast.tw10950354022710865358 : True := trivial
theorem PySem.W.Fast.tw6991342286099435732 : True := trivial
theorem PySem.W.Fast.tw382372540119500407 : True := trivial
theorem PySem.W.Fast.tw3453285114657395212 : True := trivial
theorem PySem.W.Fast.tw8084220842471764211 : True := trivial
theorem PySem.W.Fast.tw18407308486453412328 : True := trivial
theorem PySem.W.Fast.tw2617357923169780083 : True := trivial
theorem PySem.W.Fast.tw14941910534872670778 : True := trivial
theorem PySem.W.Fast.tw3254175326976258332 : True := trivial
theorem PySem.W.Fast.tw65312738196450082 : True := trivial
theorem PySem.W.Fast.tw13362179128786632202 : True := trivial
theorem PySem.W.Fast.tw11758601059182017561 : True := trivial
theorem PySem.W.Fast.tw16545707379552691767 : True := trivial
theorem PySem.W.Fast.tw16670622720503576112 : True := trivial
theorem PySem.W.Fast.tw18403194689460949704 : True := trivial
theorem PySem.W.Fast.tw10486656598113357469 : True := trivial
theorem PySem.W.Fast.tw5712184545450948186 : True := trivial
theorem PySem.W.Fast.tw10167950776441114115 : True := trivial
theorem PySem.W.Fast.tw15106813699555848774 : True := trivial
theorem PySem.W.Fast.tw14733111170936361152 : True := trivial
theorem PySem.W.Fast.tw4646977693566515985 : True := trivial
theorem PySem.W.Fast.tw14546723881089538675 : True := trivial
theorem PySem.W.Fast.tw4839687127099141168 : True := trivial
theorem PySem.W.Fast.tw13306947351046215139 : True := trivial
theorem PySem.W.Fast.tw11909635384502265360 : True := trivial
theorem PySem.W.Fast.tw4628397432269039343 : True := trivial
theorem PySem.W.Fast.tw14683456942913004255 : True := trivial
theorem PySem.W.Fast.tw2680646151322481573 : True := trivial
theorem PySem.W.Fast.tw13822203066328180978 : True := trivial
theorem PySem.W.Fast.tw14017989789213279417 : True := trivial
theorem PySem.W.Fast.tw13817213984079202296 : True := trivial
theorem PySem.W.Fast.tw7444124948106881706 : True := trivial
theorem PySem.W.Fast.tw15284476044266867683 : True := trivial
theorem PySem.W.Fast.tw13363927220357936397 : True := trivial
theorem PySem.W.Fast.tw11982720134903091148 : True := trivial
theorem PySem.W.Fast.tw6033342834510030681 : True := trivial
theorem PySem.W.Fast.tw17719826754958259865 : True := trivial
theorem PySem.W.Fast.tw4882262223678481589 : True := trivial
theorem PySem.W.Fast.tw18334934755485431579 : True := trivial
theorem PySem.W.Fast.tw17334515627411053214 : True := trivial
theorem PySem.W.Fast.tw13237704465382632969 : True := trivial
theorem PySem.W.Fast.tw3855298217667009898 : True := trivial
theorem PySem.W.Fast.tw15897824881426215710 : True := trivial
theorem PySem.W.Fast.tw11460942857737873144 : True := trivial
theorem PySem.W.Fast.tw12887803121302271241 : True := trivial
theorem PySem.W.Fast.tw15597795673950511102 : True := trivial
theorem PySem.W.Fast.tw12403874057758561193 : True := trivial
theorem PySem.W.Fast.tw4628618245110657098 : True := trivial
theorem PySem.W.Fast.tw8940070066401469318 : True := trivial
theorem PySem.W.Fast.tw12628244958274656905 : True := trivial
theorem PySem.W.Fast.tw17265073942783735110 : True := trivial
theorem PySem.W.Fast.tw234523683307979622 : True := trivial
theorem PySem.W.Fast.tw9153054235806571395 : True := trivial
theorem PySem.W.Fast.tw9566762115513933407 : True := trivial
theorem PySem.W.Fast.tw14896091604589038099 : True := trivial
theorem PySem.W.Fast.tw12056855278397704905 : True := trivial
theorem PySem.W.Fast.tw10407226198133442113 : True := trivial
theorem PySem.W.Fast.tw1584232851786764754 : True := trivial
theorem PySem.W.Fast.tw9064927050578296295 : True := trivial
theorem PySem.W.Fast.tw12153247957950285831 : True := trivial
theorem PySem.W.Fast.tw6189226525806396377 : True := trivial
theorem PySem.W.Fast.tw2414801323972516823 : True := trivial
theorem PySem.W.Fast.tw8288006080417729356 : True := trivial
theorem PySem.W.Fast.tw11640221575205797763 : True := trivial
theorem PySem.W.Fast.tw13549311378672204166 : True := trivial
theorem PySem.W.Fast.tw5347206229987187172 : True := trivial
theorem PySem.W.Fast.tw2245578897957789067 : True := trivial
theorem PySem.W.Fast.tw4694674509007733172 : True := trivial
theorem PySem.W.Fast.tw7597812309312406946 : True := trivial
theorem PySem.W.Fast.tw7812219211684608640 : True := trivial
theorem PySem.W.Fast.tw1142200618006740779 : True := trivial
theorem PySem.W.Fast.tw2106999109766719981 : True := trivial
theorem PySem.W.Fast.tw11055775570533742711 : True := trivial
theorem PySem.W.Fast.tw5403600458850628165 : True := trivial
theorem PySem.W.Fast.tw15459896694170234651 : True := trivial
theorem PySem.W.Fast.tw16701005095692885517 : True := trivial
theorem PySem.W.Fast.tw5653493650096303200 : True := trivial
theorem PySem.W.Fast.tw9898621856009038098 : True := trivial
theorem PySem.W.Fast.tw4260064149651831796 : True := trivial
theorem PySem.W.Fast.tw15258463435364961690 : True := trivial
theorem PySem.W.Fast.tw6543944691920680763 : True := trivial
theorem PySem.W.Fast.tw142116037712643198 : True := trivial
theorem PySem.W.Fast.tw13198349924375348364 : True := trivial
theorem PySem.W.Fast.tw7974236207180177717 : True := trivial
theorem PySem.W.Fast.tw7857053297973461396 : True := trivial
theorem PySem.W.Fast.tw12756310493442155387 : True := trivial
theorem PySem.W.Fast.tw12995243562302531855 : True := trivial
theorem PySem.W.Fast.tw11407585798843476579 : True := trivial
theorem PySem.W.Fast.tw5902457675146171192 : True := trivial
theorem PySem.W.Fast.tw11085114181307816977 : True := trivial
theorem PySem.W.Fast.tw11277727629781732941 : True := trivial
theorem PySem.W.Fast.tw1497993332056885518 : True := trivial
theorem PySem.W.Fast.tw10459633607813869097 : True := trivial
theorem PySem.W.Fast.tw12062985340005142240 : True := trivial
theorem PySem.W.Fast.tw4332149802886490863 : True := trivial
theorem PySem.W.Fast.tw5513042834039746364 : True := trivial
theorem PySem.W.Fast.tw7770005946354647346 : True := trivial
theorem PySem.W.Fast.tw14818721505287833567 : True := trivial
theorem PySem.W.Fast.tw10785378818506837936 : True := trivial
theorem PySem.W.Fast.tw14003633294615316267 : True := trivial
theorem PySem.W.Fast.tw5629014226637648611 : True := trivial
theorem PySem.W.Fast.tw10005816572033849295 : True := trivial
theorem PySem.W.Fast.tw16090409725404988417 : True := trivial
theorem PySem.W.Fast.tw9401543728431622162 : True := trivial
theorem PySem.W.Fast.tw11035808306527693416 : True := trivial
theorem PySem.W.Fast.tw7713813573519712910 : True := trivial
theorem PySem.W.Fast.tw6628315506556074107 : True := trivial
theorem PySem.W.Fast.tw15615504552087065030 : True := trivial
theorem PySem.W.Fast.tw7570707533977682922 : True := trivial
theorem PySem.W.Fast.tw3734580442811187718 : True := trivial
theorem PySem.W.Fast.tw8241915279030966476 : True := trivial
theorem PySem.W.Fast.tw11658647492683577102 : True := trivial
theorem PySem.W.Fast.tw10440995620631302726 : True := trivial
theorem PySem.W.Fast.tw6302151092888258882 : True := trivial
theorem PySem.W.Fast.tw13152231651670714014 : True := trivial
theorem PySem.W.Fast.tw2971634729909545156 : True := trivial
theorem PySem.W.Fast.tw16427717326300385288 : True := trivial
theorem PySem.W.Fast.tw2904724149070505596 : True := trivial
theorem PySem.W.Fast.tw14447985810442008199 : True := trivial
theorem PySem.W.Fast.tw17194246588084726850 : True := trivial
theorem PySem.W.Fast.tw17184708801188962216 : True := trivial
theorem PySem.W.Fast.tw9625024375887340537 : True := trivial
theorem PySem.W.Fast.tw2627898783401462349 : True := trivial
theorem PySem.W.Fast.tw2414466712431530498 : True := trivial
theorem PySem.W.Fast.tw11452628996109731433 : True := trivial
theorem PySem.W.Fast.tw4531681671492715345 : True := trivial
theorem PySem.W.Fast.tw4261476605485771260 : True := trivial
theorem PySem.W.Fast.tw10078741141959762350 : True := trivial
theorem PySem.W.Fast.tw6979073892319341575 : True := trivial
theorem PySem.W.Fast.tw5680951302828645470 : True := trivial
theorem PySem.W.Fast.tw16980982594314284960 : True := trivial
theorem PySem.W.Fast.tw13089361779292921698 : True := trivial
theorem PySem.W.Fast.tw8824806372389973451 : True := trivial
theorem PySem.W.Fast.tw11525131338401544342 : True := trivial
theorem PySem.W.Fast.tw3297245029508264685 : True := trivial
theorem PySem.W.Fast.tw763032651606296334 : True := trivial
theorem PySem.W.Fast.tw961483139780692889 : True := trivial
theorem PySem.W.Fast.tw6456000653960296847 : True := trivial
theorem PySem.W.Fast.tw12978051944531990114 : True := trivial
theorem PySem.W.Fast.tw8877842851710910756 : True := trivial
theorem PySem.W.Fast.tw10658887629739284729 : True := trivial
theorem PySem.W.Fast.tw1379156546653366137 : True := trivial
theorem PySem.W.Fast.tw11168195091505532901 : True := trivial
theorem PySem.W.Fast.tw16979962733479576469 : True := trivial
theorem PySem.W.Fast.tw6522401702619774080 : True := trivial
theorem PySem.W.Fast.tw2974861926761319414 : True := trivial
theorem PySem.W.Fast.tw9317304102581782958 : True := trivial
theorem PySem.W.Fast.tw2498103401799930131 : True := trivial
theorem PySem.W.Fast.tw1004574822082399106 : True := trivial
theorem PySem.W.Fast.tw10879542382488391648 : True := trivial
theorem PySem.W.Fast.tw12284934714457546862 : True := trivial
theorem PySem.W.Fast.tw17112802841508343488 : True := trivial
theorem PySem.W.Fast.tw10253802724410968928 : True := trivial
theorem PySem.W.Fast.tw12173797788462663131 : True := trivial
theorem PySem.W.Fast.tw4537157291645145951 : True := trivial
theorem PySem.W.Fast.tw10874630514685577052 : True := trivial
theorem PySem.W.Fast.tw11954433400202180970 : True := trivial
theorem PySem.W.Fast.tw3851971814194949694 : True := trivial
theorem PySem.W.Fast.tw6225083109885818910 : True := trivial
theorem PySem.W.Fast.tw865114229790582074 : True := trivial
theorem PySem.W.Fast.tw8922846023149721296 : True := trivial
theorem PySem.W.Fast.tw17764865042755991392 : True := trivial
theorem PySem.W.Fast.tw5831255186814094472 : True := trivial
theorem PySem.W.Fast.tw3775509434560018403 : True := trivial
theorem PySem.W.Fast.tw18367284286215100039 : True := trivial
theorem PySem.W.Fast.tw16076540274305176544 : True := trivial
theorem PySem.W.Fast.tw9228399054004180426 : True := trivial
theorem PySem.W.Fast.tw18059083515451179721 : True := trivial
theorem PySem.W.Fast.tw16409548002292294535 : True := trivial
theorem PySem.W.Fast.tw6116766957936669014 : True := trivial
theorem PySem.W.Fast.tw2465442568910133370 : True := trivial
theorem PySem.W.Fast.tw17500251651438047470 : True := trivial
theorem PySem.W.Fast.tw15173272329485086946 : True := trivial
theorem PySem.W.Fast.tw14877768463858760713 : True := trivial
theorem PySem.W.Fast.tw12729163653981433658 : True := trivial
theorem PySem.W.Fast.tw15489290065360865947 : True := trivial
theorem PySem.W.Fast.tw7467984734758963239 : True := trivial
theorem PySem.W.Fast.tw13134089288324536941 : True := trivial
theorem PySem.W.Fast.tw8741707565134924323 : True := trivial
theorem PySem.W.Fast.tw8287572981093481414 : True := trivial
theorem PySem.W.Fast.tw6995995536987685381 : True := trivial
theorem PySem.W.Fast.tw4078002995594282208 : True := trivial
theorem PySem.W.Fast.tw4470464108126158666 : True := trivial
theorem PySem.W.Fast.tw16962907900824590927 : True := trivial
theorem PySem.W.Fast.tw7198703369237809605 : True := trivial
theorem PySem.W.Fast.tw807110635082491220 : True := trivial
theorem PySem.W.Fast.tw4304505327018561435 : True := trivial
theorem PySem.W.Fast.tw11633689864104392875 : True := trivial
theorem PySem.W.Fast.tw16063961089497066117 : True := trivial
theorem PySem.W.Fast.tw6828017186767996022 : True := trivial
theorem PySem.W.Fast.tw16445995174765237962 : True := trivial
theorem PySem.W.Fast.tw13363500018284020476 : True := trivial
theorem PySem.W.Fast.tw10527052499946521451 : True := trivial
theorem PySem.W.Fast.tw615832145257407492 : True := trivial
theorem PySem.W.Fast.tw921538838103153725 : True := trivial
theorem PySem.W.Fast.tw10140011429325360608 : True := trivial
theorem PySem.W.Fast.tw3514125554414855154 : True := trivial
theorem PySem.W.Fast.tw11957619427457101682 : True := trivial
theorem PySem.W.Fast.tw16094781832855215396 : True := trivial
theorem PySem.W.Fast.tw9428145671855702638 : True := trivial
theorem PySem.W.Fast.tw12819515021222448278 : True := trivial
theorem PySem.W.Fast.tw1348394699868745404 : True := trivial
theorem PySem.W.Fast.tw3754794981646752751 : True := trivial
theorem PySem.W.Fast.tw4431226709618059788 : True := trivial
theorem PySem.W.Fast.tw10736572324126870781 : True := trivial
theorem PySem.W.Fast.tw3481004394878158150 : True := trivial
theorem PySem.W.Fast.tw15800159860649789353 : True := trivial
theorem PySem.W.Fast.tw14324458003734232714 : True := trivial
theorem PySem.W.Fast.tw14787278218770767623 : True := trivial
theorem PySem.W.Fast.tw1305361166565476339 : True := trivial
theorem PySem.W.Fast.tw8709759665813494068 : True := trivial
theorem PySem.W.Fast.tw17375478951723073209 : True := trivial
theorem PySem.W.Fast.tw509888320250616190 : True := trivial
theorem PySem.W.Fast.tw9095709919904032679 : True := trivial
theorem PySem.W.Fast.tw13319611052341709064 : True := trivial
theorem PySem.W.Fast.tw11495738145436169996 : True := trivial
theorem PySem.W.Fast.tw17619040389956044205 : True := trivial
theorem PySem.W.Fast.tw1682066116274968531 : True := trivial
theorem PySem.W.Fast.tw15233318846078847959 : True := trivial
theorem PySem.W.Fast.tw15480253866312280828 : True := trivial
theorem PySem.W.Fast.tw13803720220126883194 : True := trivial
theorem PySem.W.Fast.tw11381149663705012655 : True := trivial
theorem PySem.W.Fast.tw6880087452142614533 : True := trivial
theorem PySem.W.Fast.tw2045102714419179721 : True := trivial
theorem PySem.W.Fast.tw13455200625949859543 : True := trivial
theorem PySem.W.Fast.tw5359556097009205335 : True := trivial
theorem PySem.W.Fast.tw6178830766485359584 : True := trivial
theorem PySem.W.Fast.tw13979145960434458138 : True := trivial
theorem PySem.W.Fast.tw17217252979027045461 : True := trivial
theorem PySem.W.Fast.tw10130363442554047287 : True := trivial
theorem PySem.W.Fast.tw17129694844174347355 : True := trivial
theorem PySem.W.Fast.tw5046420815961485899 : True := trivial
theorem PySem.W.Fast.tw1230487942923259952 : True := trivial
theorem PySem.W.Fast.tw1386583901821361931 : True := trivial
theorem PySem.W.Fast.tw10996790879008398886 : True := trivial
theorem PySem.W.Fast.tw9116846347933137295 : True := trivial
theorem PySem.W.Fast.tw3980425360899830035 : True := trivial
theorem PySem.W.Fast.tw3160697786371482671 : True := trivial
theorem PySem.W.Fast.tw16314535560785223719 : True := trivial
theorem PySem.W.Fast.tw16649430731778273045 : True := trivial
theorem PySem.W.Fast.tw8380257687934947195 : True := trivial
theorem PySem.W.Fast.tw9383243038015207015 : True := trivial
theorem PySem.W.Fast.tw10091833760182999437 : True := trivial
theorem PySem.W.Fast.tw9692700043624154609 : True := trivial
theorem PySem.W.Fast.tw1707878081034853285 : True := trivial
theorem PySem.W.Fast.tw1469547855502194908 : True := trivial
theorem PySem.W.Fast.tw4943199993283668378 : True := trivial
theorem PySem.W.Fast.tw17481730367027288171 : True := trivial
theorem PySem.W.Fast.tw17269667839659643025 : True := trivial
theorem PySem.W.Fast.tw14369931292910093733 : True := trivial
theorem PySem.W.Fast.tw6595962391168500432 : True := trivial
theorem PySem.W.Fast.tw4848719786386542956 : True := trivial
theorem PySem.W.Fast.tw17419126877968276044 : True := trivial
theorem PySem.W.Fast.tw16606975920430916835 : True := trivial
theorem PySem.W.Fast.tw17865514636175030931 : True := trivial
theorem PySem.W.Fast.tw10805267352300846341 : True := trivial
theorem PySem.W.Fast.tw10287600562604030864 : True := trivial
theorem PySem.W.Fast.tw6501888918880447130 : True := trivial
theorem PySem.W.Fast.tw12095009779070465721 : True := trivial
theorem PySem.W.Fast.tw9523631136825952187 : True := trivial
theorem PySem.W.Fast.tw695254285282783172 : True := trivial
theorem PySem.W.Fast.tw5616517639273598895 : True := trivial
theorem PySem.W.Fast.tw11584353165425585117 : True := trivial
theorem PySem.W.Fast.tw9389446028499549082 : True := trivial
theorem PySem.W.Fast.tw11990516296738784392 : True := trivial
theorem PySem.W.Fast.tw25652270287962592 : True := trivial
theorem PySem.W.Fast.tw9785365937423027605 : True := trivial
theorem PySem.W.Fast.tw5606312920753132596 : True := trivial
theorem PySem.W.Fast.tw17984048392729042514 : True := trivial
theorem PySem.W.Fast.tw8447411418206504133 : True := trivial
theorem PySem.W.Fast.tw2184099165329397009 : True := trivial
theorem PySem.W.Fast.tw13163587742542636904 : True := trivial
theorem PySem.W.Fast.tw8372671313847804078 : True := trivial
theorem PySem.W.Fast.tw13347508086875434079 : True := trivial
theorem PySem.W.Fast.tw1914767721707667770 : True := trivial
theorem PySem.W.Fast.tw5874627702893350955 : True := trivial
theorem PySem.W.Fast.tw17248604924674644043 : True := trivial
theorem PySem.W.Fast.tw10032485569596450217 : True := trivial
theorem PySem.W.Fast.tw4216806630884010630 : True := trivial
theorem PySem.W.Fast.tw2101992433177242507 : True := trivial
theorem PySem.W.Fast.tw2900381198512782274 : True := trivial
theorem PySem.W.Fast.tw684273676934084132 : True := trivial
theorem PySem.W.Fast.tw8004997430083030976 : True := trivial
theorem PySem.W.Fast.tw891694999171881652 : True := trivial
theorem PySem.W.Fast.tw16251165217507720153 : True := trivial
theorem PySem.W.Fast.tw8282882196023030778 : True := trivial
theorem PySem.W.Fast.tw16400975404377146035 : True := trivial
theorem PySem.W.Fast.tw10089839506939100713 : True := trivial
theorem PySem.W.Fast.tw2490444244203603126 : True := trivial
theorem PySem.W.Fast.tw5517115288806650205 : True := trivial
theorem PySem.W.Fast.tw13059128544552908137 : True := trivial
theorem PySem.W.Fast.tw4447525904775189576 : True := trivial
theorem PySem.W.Fast.tw8904558571984319826 : True := trivial
theorem PySem.W.Fast.tw15745292579590682789 : True := trivial
theorem PySem.W.Fast.tw8889205104725216878 : True := trivial
theorem PySem.W.Fast.tw11778663048196363933 : True := trivial
theorem PySem.W.Fast.tw4555743460608452007 : True := trivial
theorem PySem.W.Fast.tw547437937184437192 : True := trivial
theorem PySem.W.Fast.tw1653139897677070024 : True := trivial
theorem PySem.W.Fast.tw7351944733180638133 : True := trivial
theorem PySem.W.Fast.tw12792370453506085668 : True := trivial
theorem PySem.W.Fast.tw3730835574399706699 : True := trivial
theorem PySem.W.Fast.tw113101350597170282 : True := trivial
theorem PySem.W.Fast.tw6625798294122566395 : True := trivial
theorem PySem.W.Fast.tw4366417928191118753 : True := trivial
theorem PySem.W.Fast.tw12037168440546902460 : True := trivial
theorem PySem.W.Fast.tw12468254739984236786 : True := trivial
theorem PySem.W.Fast.tw17517979113383693680 : True := trivial
theorem PySem.W.Fast.tw7554757789245025716 : True := trivial
theorem PySem.W.Fast.tw3273107003758964767 : True := trivial
theorem PySem.W.Fast.tw9718587698770774103 : True := trivial
theorem PySem.W.Fast.tw4728440384240004764 : True := trivial
theorem PySem.W.Fast.tw14908926986825165002 : True := trivial
theorem PySem.W.Fast.tw4868677685016386081 : True := trivial
theorem PySem.W.Fast.tw7004725528208390581 : True := trivial
theorem PySem.W.Fast.tw12096428411145881460 : True := trivial
theorem PySem.W.Fast.tw10712194068633921298 : True := trivial
theorem PySem.W.Fast.tw16548864455858074974 : True := trivial
theorem PySem.W.Fast.tw6580832187453556049 : True := trivial
theorem PySem.W.Fast.tw10208990075289374354 : True := trivial
theorem PySem.W.Fast.tw4727377864395527103 : True := trivial
theorem PySem.W.Fast.tw15894556788246170413 : True := trivial
theorem PySem.W.Fast.tw11098707722253550748 : True := trivial
theorem PySem.W.Fast.tw13596153162412156145 : True := trivial
theorem PySem.W.Fast.tw1325780485793626144 : True := trivial
theorem PySem.W.Fast.tw320394170023002871 : True := trivial
theorem PySem.W.Fast.tw10002777747383607458 : True := trivial
theorem PySem.W.Fast.tw16235266465533633362 : True := trivial
theorem PySem.W.Fast.tw13411869297544676923 : True := trivial
theorem PySem.W.Fast.tw17829432025968739963 : True := trivial
theorem PySem.W.Fast.tw18363045042040430647 : True := trivial
theorem PySem.W.Fast.tw5200639969861984731 : True := trivial
theorem PySem.W.Fast.tw10988538686809812249 : True := trivial
theorem PySem.W.Fast.tw7833126531896257337 : True := trivial
theorem PySem.W.Fast.tw3059019334738005210 : True := trivial
theorem PySem.W.Fast.tw2175574065271304604 : True := trivial
theorem PySem.W.Fast.tw487313639854982107 : True := trivial
theorem PySem.W.Fast.tw8160944340118654403 : True := trivial
theorem PySem.W.Fast.tw13607993747191898851 : True := trivial
theorem PySem.W.Fast.tw11604651980385548359 : True := trivial
theorem PySem.W.Fast.tw14136877854929903179 : True := trivial
theorem PySem.W.Fast.tw4314571575442139556 : True := trivial
theorem PySem.W.Fast.tw17135534202695073836 : True := trivial
theorem PySem.W.Fast.tw12697934774447604714 : True := trivial
theorem PySem.W.Fast.tw2584118351285702543 : True := trivial
theorem PySem.W.Fast.tw10686499886214156790 : True := trivial
theorem PySem.W.Fast.tw8886793683721797502 : True := trivial
theorem PySem.W.Fast.tw3232960444931809181 : True := trivial
theorem PySem.W.Fast.tw13422388920118865448 : True := trivial
theorem PySem.W.Fast.tw17644614135526160045 : True := trivial
theorem PySem.W.Fast.tw3468022558744127170 : True := trivial
theorem PySem.W.Fast.tw4457153212172559020 : True := trivial
theorem PySem.W.Fast.tw18028551220355199289 : True := trivial
theorem PySem.W.Fast.tw14387385367705247488 : True := trivial
theorem PySem.W.Fast.tw7237979158234511407 : True := trivial
theorem PySem.W.Fast.tw11384700877793938520 : True := trivial
theorem PySem.W.Fast.tw6098872104202777052 : True := trivial
theorem PySem.W.Fast.tw13056979874123595853 : True := trivial
theorem PySem.W.Fast.tw12109777605551961186 : True := trivial
theorem PySem.W.Fast.tw874643085613232749 : True := trivial
theorem PySem.W.Fast.tw8620989539997888008 : True := trivial
theorem PySem.W.Fast.tw798281113965937209 : True := trivial
theorem PySem.W.Fast.tw17105180863595354931 : True := trivial
theorem PySem.W.Fast.tw18294583320545789721 : True := trivial
theorem PySem.W.Fast.tw17057253087166373518 : True := trivial
theorem PySem.W.Fast.tw14246576491113542138 : True := trivial
theorem PySem.W.Fast.tw11385875244569007166 : True := trivial
theorem PySem.W.Fast.tw14015313898006073933 : True := trivial
theorem PySem.W.Fast.tw7255848825266303086 : True := trivial
theorem PySem.W.Fast.tw13629267358113714129 : True := trivial
theorem PySem.W.Fast.tw11843661209001213285 : True := trivial
theorem PySem.W.Fast.tw7305176055385616506 : True := trivial
theorem PySem.W.Fast.tw13043193817074591813 : True := trivial
theorem PySem.W.Fast.tw417009114804907155 : True := trivial
theorem PySem.W.Fast.tw17207103677718766713 : True := trivial
theorem PySem.W.Fast.tw12547228411265529240 : True := trivial
theorem PySem.W.Fast.tw8080599452202114764 : True := trivial
theorem PySem.W.Fast.tw5580840990010548155 : True := trivial
theorem PySem.W.Fast.tw12488350326110244796 : True := trivial
theorem PySem.W.Fast.tw12875701218001366138 : True := trivial
theorem PySem.W.Fast.tw7412806193281701180 : True := trivial
theorem PySem.W.Fast.tw16749034727921410340 : True := trivial
theorem PySem.W.Fast.tw10146573523014051253 : True := trivial
theorem PySem.W.Fast.tw7954858314962481498 : True := trivial
theorem PySem.W.Fast.tw10327602416139737462 : True := trivial
theorem PySem.W.Fast.tw16519990874999822489 : True := trivial
theorem PySem.W.Fast.tw17848022842321667354 : True := trivial
theorem PySem.W.Fast.tw15717508754784981431 : True := trivial
theorem PySem.W.Fast.tw7528986979435071680 : True := trivial
theorem PySem.W.Fast.tw13923627593470302228 : True := trivial
theorem PySem.W.Fast.tw359705640627101089 : True := trivial
theorem PySem.W.Fast.tw4835068974636802262 : True := trivial
theorem PySem.W.Fast.tw6048679060609812793 : True := trivial
theorem PySem.W.Fast.tw4301436625111619251 : True := trivial
theorem PySem.W.Fast.tw166588889688683763 : True := trivial
theorem PySem.W.Fast.tw7458081289193326976 : True := trivial
theorem PySem.W.Fast.tw9420883409844357169 : True := trivial
theorem PySem.W.Fast.tw9954455542056771157 : True := trivial
theorem PySem.W.Fast.tw7098265438931509575 : True := trivial
theorem PySem.W.Fast.tw3160470978556235200 : True := trivial
theorem PySem.W.Fast.tw18278478569009139825 : True := trivial
theorem PySem.W.Fast.tw1357231874046572254 : True := trivial
theorem PySem.W.Fast.tw7690423838808557302 : True := trivial
theorem PySem.W.Fast.tw15599673652232497616 : True := trivial
theorem PySem.W.Fast.tw1930118349522305239 : True := trivial
theorem PySem.W.Fast.tw9073099467466489422 : True := trivial
theorem PySem.W.Fast.tw2286406976123166312 : True := trivial
theorem PySem.W.Fast.tw7975927261381510891 : True := trivial
theorem PySem.W.Fast.tw12626300260481782362 : True := trivial
theorem PySem.W.Fast.tw15849869757000343489 : True := trivial
theorem PySem.W.Fast.tw8265608855369473504 : True := trivial
theorem PySem.W.Fast.tw12278052017881744564 : True := trivial
theorem PySem.W.Fast.tw6845611803947096191 : True := trivial
theorem PySem.W.Fast.tw12839402690083743129 : True := trivial
theorem PySem.W.Fast.tw7872405197359437804 : True := trivial
theorem PySem.W.Fast.tw1682003572588757192 : True := trivial
theorem PySem.W.Fast.tw10424352409089437689 : True := trivial
theorem PySem.W.Fast.tw2038660823148184676 : True := trivial
theorem PySem.W.Fast.tw4742029999098595270 : True := trivial
theorem PySem.W.Fast.tw17950025983774338268 : True := trivial
theorem PySem.W.Fast.tw5838628924864440045 : True := trivial
theorem PySem.W.Fast.tw2042899629272810605 : True := trivial
theorem PySem.W.Fast.tw12222718918338627653 : True := trivial
theorem PySem.W.Fast.tw17068190757756543033 : True := trivial
theorem PySem.W.Fast.tw3148429435981985436 : True := trivial
theorem PySem.W.Fast.tw3198761415351433633 : True := trivial
theorem PySem.W.Fast.tw13551776268026081092 : True := trivial
theorem PySem.W.Fast.tw6376506871718126157 : True := trivial
theorem PySem.W.Fast.tw16721345131878440421 : True := trivial
theorem PySem.W.Fast.tw13052627625447188605 : True := trivial
theorem PySem.W.Fast.tw17197817564618340032 : True := trivial
theorem PySem.W.Fast.tw4447956284432482477 : True := trivial
theorem PySem.W.Fast.tw11074255656630265667 : True := trivial
theorem PySem.W.Fast.tw8060110927552862369 : True := trivial
theorem PySem.W.Fast.tw7781464037138819552 : True := trivial
theorem PySem.W.Fast.tw15570650399011411549 : True := trivial
theorem PySem.W.Fast.tw9179326070406943673 : True := trivial
theorem PySem.W.Fast.tw657201373895019197 : True := trivial
theorem PySem.W.Fast.tw5964363052598459583 : True := trivial
theorem PySem.W.Fast.tw5880884285363723084 : True := trivial
theorem PySem.W.Fast.tw14875149121580715861 : True := trivial
theorem PySem.W.Fast.tw6919134323973831319 : True := trivial
theorem PySem.W.Fast.tw5343862763624805669 : True := trivial
theorem PySem.W.Fast.tw7539419276540467283 : True := trivial
theorem PySem.W.Fast.tw10332638193923295755 : True := trivial
theorem PySem.W.Fast.tw6871330415601344802 : True := trivial
theorem PySem.W.Fast.tw982153201329927103 : True := trivial
theorem PySem.W.Fast.tw16106016672823446816 : True := trivial
theorem PySem.W.Fast.tw3158636067421498001 : True := trivial
theorem PySem.W.Fast.tw1767040036201848531 : True := trivial
theorem PySem.W.Fast.tw6072285369704630016 : True := trivial
theorem PySem.W.Fast.tw15371941966115622613 : True := trivial
theorem PySem.W.Fast.tw10678086398761450914 : True := trivial
theorem PySem.W.Fast.tw12582687767411126343 : True := trivial
theorem PySem.W.Fast.tw4367248353198366508 : True := trivial
theorem PySem.W.Fast.tw10845963844954355246 : True := trivial
theorem PySem.W.Fast.tw17218660045575854039 : True := trivial
theorem PySem.W.Fast.tw12164950652521928410 : True := trivial
theorem PySem.W.Fast.tw9305934891357031543 : True := trivial
theorem PySem.W.Fast.tw153721828102177281 : True := trivial
theorem PySem.W.Fast.tw16750384414810744202 : True := trivial
theorem PySem.W.Fast.tw1578493131945393040 : True := trivial
theorem PySem.W.Fast.tw17180632638268794089 : True := trivial
theorem PySem.W.Fast.tw3084845884576863092 : True := trivial
theorem PySem.W.Fast.tw10655392126929791096 : True := trivial
theorem PySem.W.Fast.tw2136841969270339284 : True := trivial
theorem PySem.W.Fast.tw18019478452021780353 : True := trivial
theorem PySem.W.Fast.tw7616645686568045385 : True := trivial
theorem PySem.W.Fast.tw5898181625526020058 : True := trivial
theorem PySem.W.Fast.tw6311081359676695237 : True := trivial
theorem PySem.W.Fast.tw14412779421159697527 : True := trivial
theorem PySem.W.Fast.tw14681461693811929589 : True := trivial
theorem PySem.W.Fast.tw17766875021821736190 : True := trivial
theorem PySem.W.Fast.tw12131655053398231425 : True := trivial
theorem PySem.W.Fast.tw4305332496929932554 : True := trivial
theorem PySem.W.Fast.tw2739447374600202858 : True := trivial
theorem PySem.W.Fast.tw9516182202934477031 : True := trivial
theorem PySem.W.Fast.tw15647942815331190841 : True := trivial
theorem PySem.W.Fast.tw7234672868805509448 : True := trivial
theorem PySem.W.Fast.tw18033311849338357222 : True := trivial
theorem PySem.W.Fast.tw498847131604963685 : True := trivial
theorem PySem.W.Fast.tw1111364911453681395 : True := trivial
theorem PySem.W.Fast.tw17458773623060910739 : True := trivial
theorem PySem.W.Fast.tw14008232729212035472 : True := trivial
theorem PySem.W.Fast.tw5840788431875126639 : True := trivial
theorem PySem.W.Fast.tw11415771444834843755 : True := trivial
theorem PySem.W.Fast.tw7751233406755788812 : True := trivial
theorem PySem.W.Fast.tw9775875807523244695 : True := trivial
theorem PySem.W.Fast.tw14304487186342832048 : True := trivial
theorem PySem.W.Fast.tw9841553794773064296 : True := trivial
theorem PySem.W.Fast.tw14709145752867816173 : True := trivial
theorem PySem.W.Fast.tw18003838289000783325 : True := trivial
theorem PySem.W.Fast.tw7957515135971217646 : True := trivial
theorem PySem.W.Fast.tw12242446102844871308 : True := trivial
theorem PySem.W.Fast.tw2697082986102586340 : True := trivial
theorem PySem.W.Fast.tw12517423738005040737 : True := trivial
theorem PySem.W.Fast.tw17490100373919174020 : True := trivial
theorem PySem.W.Fast.tw3492635461098731548 : True := trivial
theorem PySem.W.Fast.tw11959656828903013054 : True := trivial
theorem PySem.W.Fast.tw3845922914266677946 : True := trivial
theorem PySem.W.Fast.tw13214934978415533631 : True := trivial
theorem PySem.W.Fast.tw11693578733625357515 : True := trivial
theorem PySem.W.Fast.tw15077626603223748164 : True := trivial
theorem PySem.W.Fast.tw13291981819311340486 : True := trivial
theorem PySem.W.Fast.tw6973727459401287999 : True := trivial
theorem PySem.W.Fast.tw10984804240133190240 : True := trivial
theorem PySem.W.Fast.tw12707443750385381122 : True := trivial
theorem PySem.W.Fast.tw18221690391961266908 : True := trivial
theorem PySem.W.Fast.tw11930160583095784366 : True := trivial
theorem PySem.W.Fast.tw14053610710117305619 : True := trivial
theorem PySem.W.Fast.tw3447762505585733492 : True := trivial
theorem PySem.W.Fast.tw16114470607536788895 : True := trivial
theorem PySem.W.Fast.tw6112388357744067863 : True := trivial
theorem PySem.W.Fast.tw5652342566693039694 : True := trivial
theorem PySem.W.Fast.tw5795834421827071576 : True := trivial
theorem PySem.W.Fast.tw8860490520775214944 : True := trivial
theorem PySem.W.Fast.tw11746225928886545734 : True := trivial
theorem PySem.W.Fast.tw4320673417783669538 : True := trivial
theorem PySem.W.Fast.tw14313010300598861205 : True := trivial
theorem PySem.W.Fast.tw17672708710993137211 : True := trivial
theorem PySem.W.Fast.tw5595822059815509609 : True := trivial
theorem PySem.W.Fast.tw14231722750643380539 : True := trivial
theorem PySem.W.Fast.tw3082811474101753446 : True := trivial
theorem PySem.W.Fast.tw6913647082174895242 : True := trivial
theorem PySem.W.Fast.tw386300153269048731 : True := trivial
theorem PySem.W.Fast.tw14044138458696069790 : True := trivial
theorem PySem.W.Fast.tw14113798631306158335 : True := trivial
theorem PySem.W.Fast.tw11020285064603643989 : True := trivial
theorem PySem.W.Fast.tw15588263935674744919 : True := trivial
theorem PySem.W.Fast.tw18386863788612842221 : True := trivial
theorem PySem.W.Fast.tw8659953453922108244 : True := trivial
theorem PySem.W.Fast.tw3352265602076010720 : True := trivial
theorem PySem.W.Fast.tw9386300075309201275 : True := trivial
theorem PySem.W.Fast.tw8004625047488915160 : True := trivial
theorem PySem.W.Fast.tw2624836591458871820 : True := trivial
theorem PySem.W.Fast.tw7937878584494158391 : True := trivial
theorem PySem.W.Fast.tw14061548490053863042 : True := trivial
theorem PySem.W.Fast.tw3312056360511915322 : True := trivial
theorem PySem.W.Fast.tw5691796673174131318 : True := trivial
theorem PySem.W.Fast.tw9863992962259408378 : True := trivial
theorem PySem.W.Fast.tw4024910525110979214 : True := trivial
theorem PySem.W.Fast.tw2044771563804628943 : True := trivial
theorem PySem.W.Fast.tw17488726903628597999 : True := trivial
theorem PySem.W.Fast.tw10417757238271622149 : True := trivial
theorem PySem.W.Fast.tw10029109035023503825 : True := trivial
theorem PySem.W.Fast.tw1286838543120191882 : True := trivial
theorem PySem.W.Fast.tw15424119908394314607 : True := trivial
theorem PySem.W.Fast.tw13300733280496920764 : True := trivial
theorem PySem.W.Fast.tw14567657231741819307 : True := trivial
theorem PySem.W.Fast.tw11842989355735777952 : True := trivial
theorem PySem.W.Fast.tw8312482486061587357 : True := trivial
theorem PySem.W.Fast.tw354117739908663153 : True := trivial
theorem PySem.W.Fast.tw8892092263360696483 : True := trivial
theorem PySem.W.Fast.tw13763040746858516401 : True := trivial
theorem PySem.W.Fast.tw4374210235259996034 : True := trivial
theorem PySem.W.Fast.tw5186655710901839350 : True := trivial
theorem PySem.W.Fast.tw6991906647002209038 : True := trivial
theorem PySem.W.Fast.tw11606571597026115618 : True := trivial
theorem PySem.W.Fast.tw12024037322059102001 : True := trivial
theorem PySem.W.Fast.tw10135263263443040048 : True := trivial
theorem PySem.W.Fast.tw7490283417370618600 : True := trivial
theorem PySem.W.Fast.tw8634230928199367157 : True := trivial
theorem PySem.W.Fast.tw7685453995338663907 : True := trivial
theorem PySem.W.Fast.tw9631026602882443408 : True := trivial
theorem PySem.W.Fast.tw14659785114392074440 : True := trivial
theorem PySem.W.Fast.tw8662076642703441635 : True := trivial
theorem PySem.W.Fast.tw2657082527477123987 : True := trivial
theorem PySem.W.Fast.tw10504408454852600925 : True := trivial
theorem PySem.W.Fast.tw16076420965819938797 : True := trivial
theorem PySem.W.Fast.tw3815544000920793063 : True := trivial
theorem PySem.W.Fast.tw14351359682855365925 : True := trivial
theorem PySem.W.Fast.tw224757552942964484 : True := trivial
theorem PySem.W.Fast.tw5858212237315096422 : True := trivial
theorem PySem.W.Fast.tw16887450634759817383 : True := trivial
theorem PySem.W.Fast.tw2278091115176420477 : True := trivial
theorem PySem.W.Fast.tw9673048180192878006 : True := trivial
theorem PySem.W.Fast.tw8521322332934969806 : True := trivial
theorem PySem.W.Fast.tw3190624957475535121 : True := trivial
theorem PySem.W.Fast.tw6056071628105101973 : True := trivial
theorem PySem.W.Fast.tw10283938991729168476 : True := trivial
theorem PySem.W.Fast.tw75382442713355064 : True := trivial
theorem PySem.W.Fast.tw4508859146526251562 : True := trivial
theorem PySem.W.Fast.tw10481362947401009965 : True := trivial
theorem PySem.W.Fast.tw18203864753463479746 : True := trivial
theorem PySem.W.Fast.tw9625012362249226036 : True := trivial
theorem PySem.W.Fast.tw2833641355349518089 : True := trivial
theorem PySem.W.Fast.tw11568872723117623525 : True := trivial
theorem PySem.W.Fast.tw6500968533554803546 : True := trivial
theorem PySem.W.Fast.tw16399895983919206919 : True := trivial
theorem PySem.W.Fast.tw11157977409852189437 : True := trivial
theorem PySem.W.Fast.tw11846317360355920416 : True := trivial
theorem PySem.W.Fast.tw3754602357188474178 : True := trivial
theorem PySem.W.Fast.tw13497382597986073919 : True := trivial
theorem PySem.W.Fast.tw5742826575716071311 : True := trivial
theorem PySem.W.Fast.tw5154336526767662499 : True := trivial
theorem PySem.W.Fast.tw15313777529072902975 : True := trivial
theorem PySem.W.Fast.tw7603193865004922885 : True := trivial
theorem PySem.W.Fast.tw9269517064287118334 : True := trivial
theorem PySem.W.Fast.tw3522305603335717485 : True := trivial
theorem PySem.W.Fast.tw1019725042729465341 : True := trivial
theorem PySem.W.Fast.tw6133188512961719550 : True := trivial
theorem PySem.W.Fast.tw163466336664150959 : True := trivial
theorem PySem.W.Fast.tw6934386183391545969 : True := trivial
theorem PySem.W.Fast.tw2665329526849801439 : True := trivial
theorem PySem.W.Fast.tw4379280416680059198 : True := trivial
theorem PySem.W.Fast.tw2962638569438875140 : True := trivial
theorem PySem.W.Fast.tw13576663670142855380 : True := trivial
theorem PySem.W.Fast.tw13761757808780987321 : True := trivial
theorem PySem.W.Fast.tw2152595531180728305 : True := trivial
theorem PySem.W.Fast.tw870439477582362520 : True := trivial
theorem PySem.W.Fast.tw5599252438156270906 : True := trivial
theorem PySem.W.Fast.tw16277111764345026970 : True := trivial
theorem PySem.W.Fast.tw14070024187456392948 : True := trivial
theorem PySem.W.Fast.tw4222581736961107334 : True := trivial
theorem PySem.W.Fast.tw17536216028136678308 : True := trivial
theorem PySem.W.Fast.tw3671770834303685016 : True := trivial
theorem PySem.W.Fast.tw15691399885060403546 : True := trivial
theorem PySem.W.Fast.tw2001611695215270642 : True := trivial
theorem PySem.W.Fast.tw14075827414163644972 : True := trivial
theorem PySem.W.Fast.tw7416547729745813961 : True := trivial
theorem PySem.W.Fast.tw875888151529789081 : True := trivial
theorem PySem.W.Fast.tw18063091970974335372 : True := trivial
theorem PySem.W.Fast.tw4723576722655272918 : True := trivial
theorem PySem.W.Fast.tw12173591477990953019 : True := trivial
theorem PySem.W.Fast.tw11953676879512448913 : True := trivial
theorem PySem.W.Fast.tw8303618583374428421 : True := trivial
theorem PySem.W.Fast.tw8367976247213641980 : True := trivial
theorem PySem.W.Fast.tw12164492240618557065 : True := trivial
theorem PySem.W.Fast.tw12137426206206406190 : True := trivial
theorem PySem.W.Fast.tw3341188578329863155 : True := trivial
theorem PySem.W.Fast.tw9557218791984287067 : True := trivial
theorem PySem.W.Fast.tw4796876614490254160 : True := trivial
theorem PySem.W.Fast.tw845419769552997694 : True := trivial
theorem PySem.W.Fast.tw18042210617498461000 : True := trivial
theorem PySem.W.Fast.tw3203338675822430553 : True := trivial
theorem PySem.W.Fast.tw4270824123241784775 : True := trivial
theorem PySem.W.Fast.tw10737793838536111940 : True := trivial
theorem PySem.W.Fast.tw9268199680442207395 : True := trivial
theorem PySem.W.Fast.tw3374560330328356586 : True := trivial
theorem PySem.W.Fast.tw3198218772805888538 : True := trivial
theorem PySem.W.Fast.tw5967027425843938592 : True := trivial
theorem PySem.W.Fast.tw5721554074594533943 : True := trivial
theorem PySem.W.Fast.tw259035431365401897 : True := trivial
theorem PySem.W.Fast.tw8070342115384073085 : True := trivial
theorem PySem.W.Fast.tw1655732504641958690 : True := trivial
theorem PySem.W.Fast.tw78378171154275532 : True := trivial
theorem PySem.W.Fast.tw15677906110689750633 : True := trivial
theorem PySem.W.Fast.tw2508657558190566266 : True := trivial
theorem PySem.W.Fast.tw2918379377056134368 : True := trivial
theorem PySem.W.Fast.tw1568614001797833421 : True := trivial
theorem PySem.W.Fast.tw1541162501638478815 : True := trivial
theorem PySem.W.Fast.tw5337865307481117655 : True := trivial
theorem PySem.W.Fast.tw16416136382352533830 : True := trivial
theorem PySem.W.Fast.tw33206038779475018 : True := trivial
theorem PySem.W.Fast.tw17644129435916270441 : True := trivial
theorem PySem.W.Fast.tw14659188602894553708 : True := trivial
theorem PySem.W.Fast.tw16291693183566850725 : True := trivial
theorem PySem.W.Fast.tw8983544488239095847 : True := trivial
theorem PySem.W.Fast.tw18386465125133342889 : True := trivial
theorem PySem.W.Fast.tw9380893985519472191 : True := trivial
theorem PySem.W.Fast.tw3497168521925111794 : True := trivial
theorem PySem.W.Fast.tw16229544851852645832 : True := trivial
theorem PySem.W.Fast.tw564957973094265819 : True := trivial
theorem PySem.W.Fast.tw16066332366277962463 : True := trivial
theorem PySem.W.Fast.tw9320435008105023570 : True := trivial
theorem PySem.W.Fast.tw7817209066268300303 : True := trivial
theorem PySem.W.Fast.tw15055326646606065439 : True := trivial
theorem PySem.W.Fast.tw3385418543919050932 : True := trivial
theorem PySem.W.Fast.tw4199055833731770288 : True := trivial
theorem PySem.W.Fast.tw9774127988203835687 : True := trivial
theorem PySem.W.Fast.tw5753814055069736845 : True := trivial
theorem PySem.W.Fast.tw4444229094169583292 : True := trivial
theorem PySem.W.Fast.tw9171997448070922949 : True := trivial
theorem PySem.W.Fast.tw10946751336660881877 : True := trivial
theorem PySem.W.Fast.tw2465212831269494837 : True := trivial
theorem PySem.W.Fast.tw3629960786066730560 : True := trivial
theorem PySem.W.Fast.tw16725597932116967099 : True := trivial
theorem PySem.W.Fast.tw8010875405882445156 : True := trivial
theorem PySem.W.Fast.tw2352761562455072748 : True := trivial
theorem PySem.W.Fast.tw7927494508844613056 : True := trivial
theorem PySem.W.Fast.tw4235165929097366641 : True := trivial
theorem PySem.W.Fast.tw12359141137271591119 : True := trivial
theorem PySem.W.Fast.tw1005629096514299001 : True := trivial
theorem PySem.W.Fast.tw37161347339468563 : True := trivial
theorem PySem.W.Fast.tw13747796499870705685 : True := trivial
theorem PySem.W.Fast.tw10451135315008980158 : True := trivial
theorem PySem.W.Fast.tw10660311960609730850 : True := trivial
theorem PySem.W.Fast.tw233114128881061566 : True := trivial
theorem PySem.W.Fast.tw9290992125705442157 : True := trivial
theorem PySem.W.Fast.tw11243686435129285195 : True := trivial
theorem PySem.W.Fast.tw10082029201142900039 : True := trivial
theorem PySem.W.Fast.tw15625146779370173534 : True := trivial
theorem PySem.W.Fast.tw6876231945438194389 : True := trivial
theorem PySem.W.Fast.tw10397073842485924723 : True := trivial
theorem PySem.W.Fast.tw679237678149112705 : True := trivial
theorem PySem.W.Fast.tw9319330645905972514 : True := trivial
theorem PySem.W.Fast.tw16004274544985672734 : True := trivial
theorem PySem.W.Fast.tw7723465338196914104 : True := trivial
theorem PySem.W.Fast.tw14279304355976920116 : True := trivial
theorem PySem.W.Fast.tw5286865192298601117 : True := trivial
theorem PySem.W.Fast.tw10375795853887142670 : True := trivial
theorem PySem.W.Fast.tw409329638574024731 : True := trivial
theorem PySem.W.Fast.tw1220637869246934950 : True := trivial
theorem PySem.W.Fast.tw2717274162104878323 : True := trivial
theorem PySem.W.Fast.tw17891196442938464530 : True := trivial
theorem PySem.W.Fast.tw10348898983163360643 : True := trivial
theorem PySem.W.Fast.tw17312563622915020102 : True := trivial
theorem PySem.W.Fast.tw4910538306894016426 : True := trivial
theorem PySem.W.Fast.tw14422739379224942780 : True := trivial
theorem PySem.W.Fast.tw1095025259729798275 : True := trivial
theorem PySem.W.Fast.tw17648874410235387181 : True := trivial
theorem PySem.W.Fast.tw8561739174318114923 : True := trivial
theorem PySem.W.Fast.tw3693075081612580775 : True := trivial
theorem PySem.W.Fast.tw3443155186397868988 : True := trivial
theorem PySem.W.Fast.tw17616060394437202480 : True := trivial
theorem PySem.W.Fast.tw1046464389466830363 : True := trivial
theorem PySem.W.Fast.tw2372798300590842418 : True := trivial
theorem PySem.W.Fast.tw664949817693424925 : True := trivial
theorem PySem.W.Fast.tw15032452210969509650 : True := trivial
theorem PySem.W.Fast.tw413462734132063440 : True := trivial
theorem PySem.W.Fast.tw2121788174172695175 : True := trivial
theorem PySem.W.Fast.tw7389603425021201957 : True := trivial
theorem PySem.W.Fast.tw4851025719391601951 : True := trivial
theorem PySem.W.Fast.tw5078922469424560552 : True := trivial
theorem PySem.W.Fast.tw16903438221241331591 : True := trivial
theorem PySem.W.Fast.tw4161867310485867635 : True := trivial
theorem PySem.W.Fast.tw16001813902028573575 : True := trivial
theorem PySem.W.Fast.tw9607004736276573230 : True := trivial
theorem PySem.W.Fast.tw3891805057451003412 : True := trivial
theorem PySem.W.Fast.tw18087247956055670999 : True := trivial
theorem PySem.W.Fast.tw2409861583661165867 : True := trivial
theorem PySem.W.Fast.tw16062471190428383782 : True := trivial
theorem PySem.W.Fast.tw3030062336428962995 : True := trivial
theorem PySem.W.Fast.tw13120224312633694421 : True := trivial
theorem PySem.W.Fast.tw43936114115105155 : True := trivial
theorem PySem.W.Fast.tw8061909052815007266 : True := trivial
theorem PySem.W.Fast.tw18104930790537282334 : True := trivial
theorem PySem.W.Fast.tw2781500444846288613 : True := trivial
theorem PySem.W.Fast.tw12890724757688169854 : True := trivial
theorem PySem.W.Fast.tw7638278779308988708 : True := trivial
theorem PySem.W.Fast.tw4010380781384320088 : True := trivial
theorem PySem.W.Fast.tw7889506283197455274 : True := trivial
theorem PySem.W.Fast.tw7936666370904814115 : True := trivial
theorem PySem.W.Fast.tw17076667629747576649 : True := trivial
theorem PySem.W.Fast.tw17167959916597914816 : True := trivial
theorem PySem.W.Fast.tw13616287995096573782 : True := trivial
theorem PySem.W.Fast.tw1213522401876759771 : True := trivial
theorem PySem.W.Fast.tw7982607734054961466 : True := trivial
theorem PySem.W.Fast.tw13980631258507076472 : True := trivial
theorem PySem.W.Fast.tw14474234077735440267 : True := trivial
theorem PySem.W.Fast.tw5475963700662402963 : True := trivial
theorem PySem.W.Fast.tw9598652104439423489 : True := trivial
theorem PySem.W.Fast.tw8110961775665585989 : True := trivial
theorem PySem.W.Fast.tw12697712305411337026 : True := trivial
theorem PySem.W.Fast.tw4058978324857087301 : True := trivial
theorem PySem.W.Fast.tw12478177665160667619 : True := trivial
theorem PySem.W.Fast.tw10840522209715293753 : True := trivial
theorem PySem.W.Fast.tw4556481269091298748 : True := trivial
theorem PySem.W.Fast.tw13027593159249067827 : True := trivial
theorem PySem.W.Fast.tw11377567202338119558 : True := trivial
theorem PySem.W.Fast.tw6416329702649362037 : True := trivial
theorem PySem.W.Fast.tw11974909492272287627 : True := trivial
theorem PySem.W.Fast.tw8708274274594637564 : True := trivial
theorem PySem.W.Fast.tw8141806109065399239 : True := trivial
theorem PySem.W.Fast.tw7353054183175358243 : True := trivial
theorem PySem.W.Fast.tw5680671466295344956 : True := trivial
theorem PySem.W.Fast.tw16243297386497993738 : True := trivial
theorem PySem.W.Fast.tw15553094650374088695 : True := trivial
theorem PySem.W.Fast.tw16814725735023461342 : True := trivial
theorem PySem.W.Fast.tw12140762710808311441 : True := trivial
theorem PySem.W.Fast.tw17485216484398192939 : True := trivial
theorem PySem.W.Fast.tw15106775657467086038 : True := trivial
theorem PySem.W.Fast.tw11361345239796119084 : True := trivial
theorem PySem.W.Fast.tw16045825198386561142 : True := trivial
theorem PySem.W.Fast.tw1140241188963950472 : True := trivial
theorem PySem.W.Fast.tw1854356676750240298 : True := trivial
theorem PySem.W.Fast.tw16806600900139851585 : True := trivial
theorem PySem.W.Fast.tw2265440664355723996 : True := trivial
theorem PySem.W.Fast.tw17894007070006959313 : True := trivial
theorem PySem.W.Fast.tw9401884277308933788 : True := trivial
theorem PySem.W.Fast.tw5623840477183045409 : True := trivial
theorem PySem.W.Fast.tw10918242304308927755 : True := trivial
theorem PySem.W.Fast.tw16941368480795464221 : True := trivial
theorem PySem.W.Fast.tw545074153295424378 : True := trivial
theorem PySem.W.Fast.tw4272137593137161947 : True := trivial
theorem PySem.W.Fast.tw13275440071617615330 : True := trivial
theorem PySem.W.Fast.tw5740741830137991067 : True := trivial
theorem PySem.W.Fast.tw14789164372185521757 : True := trivial
theorem PySem.W.Fast.tw3351055738705023640 : True := trivial
theorem PySem.W.Fast.tw7374841032892523227 : True := trivial
theorem PySem.W.Fast.tw15147024154335104158 : True := trivial
theorem PySem.W.Fast.tw740101602763170037 : True := trivial
theorem PySem.W.Fast.tw14137672904530637986 : True := trivial
theorem PySem.W.Fast.tw15350262797603616658 : True := trivial
theorem PySem.W.Fast.tw7007499328908033521 : True := trivial
theorem PySem.W.Fast.tw8514380537161478533 : True := trivial
theorem PySem.W.Fast.tw11037012074924961951 : True := trivial
theorem PySem.W.Fast.tw4466486883089244736 : True := trivial
theorem PySem.W.Fast.tw9865383030715901970 : True := trivial
theorem PySem.W.Fast.tw15963135146756819854 : True := trivial
theorem PySem.W.Fast.tw1802357543122388526 : True := trivial
theorem PySem.W.Fast.tw15279544473401370628 : True := trivial
theorem PySem.W.Fast.tw11567288347275066862 : True := trivial
theorem PySem.W.Fast.tw14046357038925807974 : True := trivial
theorem PySem.W.Fast.tw15041596500791879841 : True := trivial
theorem PySem.W.Fast.tw17080993599185791610 : True := trivial
theorem PySem.W.Fast.tw6007404761776949969 : True := trivial
theorem PySem.W.Fast.tw15655454300198342137 : True := trivial
theorem PySem.W.Fast.tw1014458913973085376 : True := trivial
theorem PySem.W.Fast.tw14249468018059796665 : True := trivial
theorem PySem.W.Fast.tw11736832372872681268 : True := trivial
theorem PySem.W.Fast.tw18096515371728043002 : True := trivial
theorem PySem.W.Fast.tw6623986614016656153 : True := trivial
theorem PySem.W.Fast.tw2232397894710911085 : True := trivial
theorem PySem.W.Fast.tw7932358869049162112 : True := trivial
theorem PySem.W.Fast.tw13387287273641372213 : True := trivial
theorem PySem.W.Fast.tw5473264064274961433 : True := trivial
theorem PySem.W.Fast.tw6729818115182521322 : True := trivial
theorem PySem.W.Fast.tw3133666681544354373 : True := trivial
theorem PySem.W.Fast.tw780653753608268160 : True := trivial
theorem PySem.W.Fast.tw16854739542086660015 : True := trivial
theorem PySem.W.Fast.tw10471348761946783170 : True := trivial
theorem PySem.W.Fast.tw7472963791591114435 : True := trivial
theorem PySem.W.Fast.tw3183699511115623562 : True := trivial
theorem PySem.W.Fast.tw2254541212423573977 : True := trivial
theorem PySem.W.Fast.tw10158659409770511251 : True := trivial
theorem PySem.W.Fast.tw17926368375401547929 : True := trivial
theorem PySem.W.Fast.tw12980223153359812827 : True := trivial
theorem PySem.W.Fast.tw1838308352672852355 : True := trivial
theorem PySem.W.Fast.tw457169300377476194 : True := trivial
theorem PySem.W.Fast.tw11983656770801770007 : True := trivial
theorem PySem.W.Fast.tw11569331781683028940 : True := trivial
theorem PySem.W.Fast.tw11779023864531937691 : True := trivial
theorem PySem.W.Fast.tw4503358091289738799 : True := trivial
theorem PySem.W.Fast.tw15783900032133181263 : True := trivial
theorem PySem.W.Fast.tw956809470825253948 : True := trivial
theorem PySem.W.Fast.tw206239393566324967 : True := trivial
theorem PySem.W.Fast.tw11061005875638420854 : True := trivial
theorem PySem.W.Fast.tw8296896559593317 : True := trivial
theorem PySem.W.Fast.tw5036870882741398665 : True := trivial
theorem PySem.W.Fast.tw2726810782532581770 : True := trivial
theorem PySem.W.Fast.tw1675076763302290466 : True := trivial
theorem PySem.W.Fast.tw15108039318631197416 : True := trivial
theorem PySem.W.Fast.tw9037418542004473713 : True := trivial
theorem PySem.W.Fast.tw4042875630891843050 : True := trivial
theorem PySem.W.Fast.tw16567763087048980311 : True := trivial
theorem PySem.W.Fast.tw9405389982221566203 : True := trivial
theorem PySem.W.Fast.tw5320699233258748295 : True := trivial
theorem PySem.W.Fast.tw6633846038208026552 : True := trivial
theorem PySem.W.Fast.tw5704084850940336601 : True := trivial
theorem PySem.W.Fast.tw6776342351455862212 : True := trivial
theorem PySem.W.Fast.tw12430657160631970665 : True := trivial
theorem PySem.W.Fast.tw3518723962839843376 : True := trivial
theorem PySem.W.Fast.tw11758423169552688013 : True := trivial
theorem PySem.W.Fast.tw5154423290362433571 : True := trivial
theorem PySem.W.Fast.tw15193479859475760962 : True := trivial
theorem PySem.W.Fast.tw2238494533813859829 : True := trivial
theorem PySem.W.Fast.tw1156172043852739456 : True := trivial
theorem PySem.W.Fast.tw10003788541036428556 : True := trivial
theorem PySem.W.Fast.tw7896584654248805914 : True := trivial
theorem PySem.W.Fast.tw2930433561803711507 : True := trivial
theorem PySem.W.Fast.tw1526372725466419495 : True := trivial
theorem PySem.W.Fast.tw8891034997486645795 : True := trivial
theorem PySem.W.Fast.tw2081042531354551746 : True := trivial
theorem PySem.W.Fast.tw11257182370727756473 : True := trivial
theorem PySem.W.Fast.tw3317622195638137349 : True := trivial
theorem PySem.W.Fast.tw8462100748377605960 : True := trivial
theorem PySem.W.Fast.tw9188915843971243646 : True := trivial
theorem PySem.W.Fast.tw10885013842931763500 : True := trivial
theorem PySem.W.Fast.tw18284229211136023636 : True := trivial
theorem PySem.W.Fast.tw15011050730417824515 : True := trivial
theorem PySem.W.Fast.tw9245847535893421630 : True := trivial
theorem PySem.W.Fast.tw4526797679054402352 : True := trivial
theorem PySem.W.Fast.tw10352403199966324145 : True := trivial
theorem PySem.W.Fast.tw17658050500881050634 : True := trivial
theorem PySem.W.Fast.tw14274114025376984967 : True := trivial
theorem PySem.W.Fast.tw10304543297000747731 : True := trivial
theorem PySem.W.Fast.tw8070557018043530832 : True := trivial
theorem PySem.W.Fast.tw8507802352044838 : True := trivial
theorem PySem.W.Fast.tw16893706229048240065 : True := trivial
theorem PySem.W.Fast.tw8122443091567037443 : True := trivial
theorem PySem.W.Fast.tw2312685787425847619 : True := trivial
theorem PySem.W.Fast.tw4076831600020368884 : True := trivial
theorem PySem.W.Fast.tw14380797491061635060 : True := trivial
theorem PySem.W.Fast.tw13802378164176680673 : True := trivial
theorem PySem.W.Fast.tw13647855089906592334 : True := trivial
theorem PySem.W.Fast.tw5343419354534995166 : True := trivial
theorem PySem.W.Fast.tw7655208721537124666 : True := trivial
theorem PySem.W.Fast.tw2483322032341761668 : True := trivial
theorem PySem.W.Fast.tw9099718937089057361 : True := trivial
theorem PySem.W.Fast.tw7667101287693155374 : True := trivial
theorem PySem.W.Fast.tw10977679710192404057 : True := trivial
theorem PySem.W.Fast.tw7871824122360984796 : True := trivial
theorem PySem.W.Fast.tw12931872719924536892 : True := trivial
theorem PySem.W.Fast.tw2526925305419299385 : True := trivial
theorem PySem.W.Fast.tw10437304631543706190 : True := trivial
theorem PySem.W.Fast.tw2857011485887844632 : True := trivial
theorem PySem.W.Fast.tw7072162692857956025 : True := trivial
theorem PySem.W.Fast.tw16674550429777288395 : True := trivial
theorem PySem.W.Fast.tw11026258593433743624 : True := trivial
theorem PySem.W.Fast.tw8238095704718303644 : True := trivial
theorem PySem.W.Fast.tw2009886425567139301 : True := trivial
theorem PySem.W.Fast.tw819644176629797528 : True := trivial
theorem PySem.W.Fast.tw13295428357422445163 : True := trivial
theorem PySem.W.Fast.tw442741125568376787 : True := trivial
theorem PySem.W.Fast.tw3451531569261787713 : True := trivial
theorem PySem.W.Fast.tw14468633258247601504 : True := trivial
theorem PySem.W.Fast.tw12848489800367097758 : True := trivial
theorem PySem.W.Fast.tw13506756568586859246 : True := trivial
theorem PySem.W.Fast.tw2619709418859518696 : True := trivial
theorem PySem.W.Fast.tw16754835228294153085 : True := trivial
theorem PySem.W.Fast.tw9237649280617818993 : True := trivial
theorem PySem.W.Fast.tw3326537169781888410 : True := trivial
theorem PySem.W.Fast.tw15172178045949765945 : True := trivial
theorem PySem.W.Fast.tw6931216215209425355 : True := trivial
theorem PySem.W.Fast.tw7965127495290115664 : True := trivial
theorem PySem.W.Fast.tw267184544172631153 : True := trivial
theorem PySem.W.Fast.tw3174731616109952716 : True := trivial
theorem PySem.W.Fast.tw17124380672703034366 : True := trivial
theorem PySem.W.Fast.tw10143196242052499293 : True := trivial
theorem PySem.W.Fast.tw4082110741200676239 : True := trivial
theorem PySem.W.Fast.tw8466031639483163925 : True := trivial
theorem PySem.W.Fast.tw10149020288346636416 : True := trivial
theorem PySem.W.Fast.tw9694922942071082672 : True := trivial
theorem PySem.W.Fast.tw16135914134039268313 : True := trivial
theorem PySem.W.Fast.tw5413437309537123812 : True := trivial
theorem PySem.W.Fast.tw11325371194417738656 : True := trivial
theorem PySem.W.Fast.tw3739526026258150301 : True := trivial
theorem PySem.W.Fast.tw1344974815383729040 : True := trivial
theorem PySem.W.Fast.tw15013046309220613231 : True := trivial
theorem PySem.W.Fast.tw18182137858949789752 : True := trivial
theorem PySem.W.Fast.tw16523052246468103280 : True := trivial
theorem PySem.W.Fast.tw8317696580576538430 : True := trivial
theorem PySem.W.Fast.tw8113835578877613355 : True := trivial
theorem PySem.W.Fast.tw2019087850364645119 : True := trivial
theorem PySem.W.Fast.tw8267573462596872282 : True := trivial
theorem PySem.W.Fast.tw6471140492042700101 : True := trivial
theorem PySem.W.Fast.tw8494680191929315918 : True := trivial
theorem PySem.W.Fast.tw725565088916265179 : True := trivial
theorem PySem.W.Fast.tw16576988550840311004 : True := trivial
theorem PySem.W.Fast.tw18110254778789552265 : True := trivial
theorem PySem.W.Fast.tw17337598051206430973 : True := trivial
theorem PySem.W.Fast.tw8140530202209767973 : True := trivial
theorem PySem.W.Fast.tw15948462475393572085 : True := trivial
theorem PySem.W.Fast.tw6273563498581149652 : True := trivial
theorem PySem.W.Fast.tw4516287201297860570 : True := trivial
theorem PySem.W.Fast.tw17817322966381883721 : True := trivial
theorem PySem.W.Fast.tw9826058723162138023 : True := trivial
theorem PySem.W.Fast.tw13097813727123228948 : True := trivial
theorem PySem.W.Fast.tw11517225484586513891 : True := trivial
theorem PySem.W.Fast.tw5695229718552146257 : True := trivial
theorem PySem.W.Fast.tw585397192807791073 : True := trivial
theorem PySem.W.Fast.tw5744731270116969441 : True := trivial
theorem PySem.W.Fast.tw3663767590667219095 : True := trivial
theorem PySem.W.Fast.tw11444013712033603562 : True := trivial
theorem PySem.W.Fast.tw3761883684537384752 : True := trivial
theorem PySem.W.Fast.tw16550677721353829346 : True := trivial
theorem PySem.W.Fast.tw12302591179810605810 : True := trivial
theorem PySem.W.Fast.tw18347806539700541688 : True := trivial
theorem PySem.W.Fast.tw5787586714345053741 : True := trivial
theorem PySem.W.Fast.tw5284968883802885160 : True := trivial
theorem PySem.W.Fast.tw10009512271560528639 : True := trivial
theorem PySem.W.Fast.tw15119836419819070346 : True := trivial
theorem PySem.W.Fast.tw2665822273893317613 : True := trivial
theorem PySem.W.Fast.tw6360948879919980314 : True := trivial
theorem PySem.W.Fast.tw8161436336117251635 : True := trivial
theorem PySem.W.Fast.tw15213922663186431441 : True := trivial
theorem PySem.W.Fast.tw4921678556132262076 : True := trivial
theorem PySem.W.Fast.tw14822986699957067311 : True := trivial
theorem PySem.W.Fast.tw5269847598384799021 : True := trivial
theorem PySem.W.Fast.tw17800870226241230297 : True := trivial
theorem PySem.W.Fast.tw6229747620056180744 : True := trivial
theorem PySem.W.Fast.tw2643919641524223069 : True := trivial
theorem PySem.W.Fast.tw6670197233670322032 : True := trivial
theorem PySem.W.Fast.tw6793310631707416015 : True := trivial
theorem PySem.W.Fast.tw14932764791163893576 : True := trivial
theorem PySem.W.Fast.tw1166921925847189735 : True := trivial
theorem PySem.W.Fast.tw4196999540514965558 : True := trivial
theorem PySem.W.Fast.tw4002214540701353603 : True := trivial
theorem PySem.W.Fast.tw14571091390427829434 : True := trivial
theorem PySem.W.Fast.tw4672040805889801601 : True := trivial
theorem PySem.W.Fast.tw13163857719961753297 : True := trivial
theorem PySem.W.Fast.tw6616325449763612486 : True := trivial
theorem PySem.W.Fast.tw4592046238458886623 : True := trivial
theorem PySem.W.Fast.tw13681088060147702613 : True := trivial
theorem PySem.W.Fast.tw6853518219258832708 : True := trivial
theorem PySem.W.Fast.tw12157241796968349073 : True := trivial
theorem PySem.W.Fast.tw5099968639017001426 : True := trivial
theorem PySem.W.Fast.tw6351700322093666316 : True := trivial
theorem PySem.W.Fast.tw1357930889135951918 : True := trivial
theorem PySem.W.Fast.tw774849567299735786 : True := trivial
theorem PySem.W.Fast.tw6330839941609001024 : True := trivial
theorem PySem.W.Fast.tw13319366186374134493 : True := trivial
theorem PySem.W.Fast.tw17536079933563999237 : True := trivial
theorem PySem.W.Fast.tw8154936619496387470 : True := trivial
theorem PySem.W.Fast.tw12925683467783611437 : True := trivial
theorem PySem.W.Fast.tw15544594100657234151 : True := trivial
theorem PySem.W.Fast.tw15343054512752561298 : True := trivial
theorem PySem.W.Fast.tw7615504795470519863 : True := trivial
theorem PySem.W.Fast.tw7146889911135986450 : True := trivial
theorem PySem.W.Fast.tw16032022955111071712 : True := trivial
theorem PySem.W.Fast.tw15045069984270205214 : True := trivial
theorem PySem.W.Fast.tw10699894830788151276 : True := trivial
theorem PySem.W.Fast.tw6105787350757231531 : True := trivial
theorem PySem.W.Fast.tw17598916240878676946 : True := trivial
theorem PySem.W.Fast.tw8082746743392449807 : True := trivial
theorem PySem.W.Fast.tw6041301088610641275 : True := trivial
theorem PySem.W.Fast.tw1933093775159303175 : True := trivial
theorem PySem.W.Fast.tw11442678498351374574 : True := trivial
theorem PySem.W.Fast.tw5660848153833927569 : True := trivial
theorem PySem.W.Fast.tw10031214400801031128 : True := trivial
theorem PySem.W.Fast.tw2075801243974166086 : True := trivial
theorem PySem.W.Fast.tw15548098203746349759 : True := trivial
theorem PySem.W.Fast.tw2872853981173504579 : True := trivial
theorem PySem.W.Fast.tw2260533749315497459 : True := trivial
theorem PySem.W.Fast.tw656412656145675382 : True := trivial
theorem PySem.W.Fast.tw14825517879841735252 : True := trivial
theorem PySem.W.Fast.tw4028884429688525230 : True := trivial
theorem PySem.W.Fast.tw9186790358909759261 : True := trivial
theorem PySem.W.Fast.tw17945692694601171016 : True := trivial
theorem PySem.W.Fast.tw14399073799778728557 : True := trivial
theorem PySem.W.Fast.tw15031950126672650044 : True := trivial
theorem PySem.W.Fast.tw10722746107914957193 : True := trivial
theorem PySem.W.Fast.tw16567860836099169964 : True := trivial
theorem PySem.W.Fast.tw15889409190155931913 : True := trivial
theorem PySem.W.Fast.tw1735329547476261253 : True := trivial
theorem PySem.W.Fast.tw6457570303020128520 : True := trivial
theorem PySem.W.Fast.tw11614109216023884590 : True := trivial
theorem PySem.W.Fast.tw9487528256410093825 : True := trivial
theorem PySem.W.Fast.tw4317282737577498135 : True := trivial
theorem PySem.W.Fast.tw17600517498866541742 : True := trivial
theorem PySem.W.Fast.tw11864533256052534888 : True := trivial
theorem PySem.W.Fast.tw15059995590371132801 : True := trivial
theorem PySem.W.Fast.tw11679056483647602066 : True := trivial
theorem PySem.W.Fast.tw3870549622697894795 : True := trivial
theorem PySem.W.Fast.tw13437846655931993015 : True := trivial
theorem PySem.W.Fast.tw14022693577984296195 : True := trivial
theorem PySem.W.Fast.tw4037761981700953409 : True := trivial
theorem PySem.W.Fast.tw18413184688173873173 : True := trivial
theorem PySem.W.Fast.tw13179875598292960482 : True := trivial
theorem PySem.W.Fast.tw13351692137873565060 : True := trivial
theorem PySem.W.Fast.tw16694980249753143348 : True := trivial
theorem PySem.W.Fast.tw4102696513401438857 : True := trivial
theorem PySem.W.Fast.tw15804291069819334108 : True := trivial
theorem PySem.W.Fast.tw4823609840076064359 : True := trivial
theorem PySem.W.Fast.tw15791689355441871997 : True := trivial
theorem PySem.W.Fast.tw4455270165187827123 : True := trivial
theorem PySem.W.Fast.tw10617815864183228468 : True := trivial
theorem PySem.W.Fast.tw14121621588616256127 : True := trivial
theorem PySem.W.Fast.tw5131233010442679733 : True := trivial
theorem PySem.W.Fast.tw9074810557020964099 : True := trivial
theorem PySem.W.Fast.tw7529767620418515750 : True := trivial
theorem PySem.W.Fast.tw3380039414079686273 : True := trivial
theorem PySem.W.Fast.tw2190415945166272477 : True := trivial
theorem PySem.W.Fast.tw3263103862024569574 : True := trivial
theorem PySem.W.Fast.tw4958975416874212220 : True := trivial
theorem PySem.W.Fast.tw14915239011761188800 : True := trivial
theorem PySem.W.Fast.tw18251045465393337532 : True := trivial
theorem PySem.W.Fast.tw1139049078302728418 : True := trivial
theorem PySem.W.Fast.tw2541498624156707497 : True := trivial
theorem PySem.W.Fast.tw10292349180678465567 : True := trivial
theorem PySem.W.Fast.tw15456879705874881330 : True := trivial
theorem PySem.W.Fast.tw10388794440049076170 : True := trivial
theorem PySem.W.Fast.tw11655514276717181317 : True := trivial
theorem PySem.W.Fast.tw9673287801019764660 : True := trivial
theorem PySem.W.Fast.tw6228514750269623511 : True := trivial
theorem PySem.W.Fast.tw10181766655416327129 : True := trivial
theorem PySem.W.Fast.tw2816698513779759653 : True := trivial
theorem PySem.W.Fast.tw15840072397839417329 : True := trivial
theorem PySem.W.Fast.tw3011926349642018219 : True := trivial
theorem PySem.W.Fast.tw9949176193784025669 : True := trivial
theorem PySem.W.Fast.tw5141473081545319124 : True := trivial
theorem PySem.W.Fast.tw15993996869362355158 : True := trivial
theorem PySem.W.Fast.tw12851347857165425118 : True := trivial
theorem PySem.W.Fast.tw17505782358611868610 : True := trivial
theorem PySem.W.Fast.tw3609206504146899254 : True := trivial
theorem PySem.W.Fast.tw10544863640408432296 : True := trivial
theorem PySem.W.Fast.tw16498227589360732777 : True := trivial
theorem PySem.W.Fast.tw13834273356212583132 : True := trivial
theorem PySem.W.Fast.tw2720974969390332129 : True := trivial
theorem PySem.W.Fast.tw17775709773963893251 : True := trivial
theorem PySem.W.Fast.tw13035027962249600791 : True := trivial
theorem PySem.W.Fast.tw16426223873772504145 : True := trivial
theorem PySem.W.Fast.tw933885793090437422 : True := trivial
theorem PySem.W.Fast.tw16734947661626693782 : True := trivial
theorem PySem.W.Fast.tw13007658295130874923 : True := trivial
theorem PySem.W.Fast.tw107428063177210949 : True := trivial
theorem PySem.W.Fast.tw4586326873154882368 : True := trivial
theorem PySem.W.Fast.tw1405971152721610859 : True := trivial
theorem PySem.W.Fast.tw16467546735862015656 : True := trivial
theorem PySem.W.Fast.tw3631049609361580450 : True := trivial
theorem PySem.W.Fast.tw10826213734154397874 : True := trivial
theorem PySem.W.Fast.tw10714666014947241865 : True := trivial
theorem PySem.W.Fast.tw17200544162439745275 : True := trivial
theorem PySem.W.Fast.tw2493201290835303571 : True := trivial
theorem PySem.W.Fast.tw13821139823546825445 : True := trivial
theorem PySem.W.Fast.tw3660876167964440724 : True := trivial
theorem PySem.W.Fast.tw11363634198640095426 : True := trivial
theorem PySem.W.Fast.tw16021079892674258621 : True := trivial
theorem PySem.W.Fast.tw14710171550485570602 : True := trivial
theorem PySem.W.Fast.tw13740799813692928751 : True := trivial
theorem PySem.W.Fast.tw4005476706151879148 : True := trivial
theorem PySem.W.Fast.tw17512293189276991676 : True := trivial
theorem PySem.W.Fast.tw1793664371136239342 : True := trivial
theorem PySem.W.Fast.tw7408109505351592476 : True := trivial
theorem PySem.W.Fast.tw7131812682108721938 : True := trivial
theorem PySem.W.Fast.tw11813989743407112775 : True := trivial
theorem PySem.W.Fast.tw13257019874564322897 : True := trivial
theorem PySem.W.Fast.tw11294758883392502805 : True := trivial
theorem PySem.W.Fast.tw14468920095435210905 : True := trivial
theorem PySem.W.Fast.tw8101006161796959769 : True := trivial
theorem PySem.W.Fast.tw1293047028364334455 : True := trivial
theorem PySem.W.Fast.tw11548232166224052814 : True := trivial
theorem PySem.W.Fast.tw11736325709460309031 : True := trivial
theorem PySem.W.Fast.tw9239065902843920341 : True := trivial
theorem PySem.W.Fast.tw10685110473837317703 : True := trivial
theorem PySem.W.Fast.tw1978310539114499481 : True := trivial
theorem PySem.W.Fast.tw16217028102507024758 : True := trivial
theorem PySem.W.Fast.tw10332567370433834559 : True := trivial
theorem PySem.W.Fast.tw14979860733551519734 : True := trivial
theorem PySem.W.Fast.tw1632421364480915608 : True := trivial
theorem PySem.W.Fast.tw15962343363409230208 : True := trivial
theorem PySem.W.Fast.tw4201462797067469619 : True := trivial
theorem PySem.W.Fast.tw17038556927787678597 : True := trivial
theorem PySem.W.Fast.tw6719139613289246900 : True := trivial
theorem PySem.W.Fast.tw12605499120562971385 : True := trivial
theorem PySem.W.Fast.tw1545956531918362871 : True := trivial
theorem PySem.W.Fast.tw6834375764723800900 : True := trivial
theorem PySem.W.Fast.tw13565870025319411095 : True := trivial
theorem PySem.W.Fast.tw13105786439013319970 : True := trivial
theorem PySem.W.Fast.tw6002416288770916860 : True := trivial
theorem PySem.W.Fast.tw13020654693578317596 : True := trivial
theorem PySem.W.Fast.tw3181190562546507002 : True := trivial
theorem PySem.W.Fast.tw15036706305711303249 : True := trivial
theorem PySem.W.Fast.tw7972295049555480803 : True := trivial
theorem PySem.W.Fast.tw14333437325586529779 : True := trivial
theorem PySem.W.Fast.tw11348925936782716362 : True := trivial
theorem PySem.W.Fast.tw17854014592184799710 : True := trivial
theorem PySem.W.Fast.tw2427100724398979269 : True := trivial
theorem PySem.W.Fast.tw7102460618820785796 : True := trivial
theorem PySem.W.Fast.tw14664417653686132991 : True := trivial
theorem PySem.W.Fast.tw7262860052471667698 : True := trivial
theorem PySem.W.Fast.tw5275285140429764256 : True := trivial
theorem PySem.W.Fast.tw17203838897960065570 : True := trivial
theorem PySem.W.Fast.tw14444744477160877218 : True := trivial
theorem PySem.W.Fast.tw2363502497223249096 : True := trivial
theorem PySem.W.Fast.tw14750816380819976483 : True := trivial
theorem PySem.W.Fast.tw1081275073764733997 : True := trivial
theorem PySem.W.Fast.tw4427138187250957209 : True := trivial
theorem PySem.W.Fast.tw10298752684132627245 : True := trivial
theorem PySem.W.Fast.tw10014260507050087839 : True := trivial
theorem PySem.W.Fast.tw1934927698926570762 : True := trivial
theorem PySem.W.Fast.tw7469918129167418637 : True := trivial
theorem PySem.W.Fast.tw4026002061934619389 : True := trivial
theorem PySem.W.Fast.tw9825676161144061771 : True := trivial
theorem PySem.W.Fast.tw1554947951547243827 : True := trivial
theorem PySem.W.Fast.tw11879254409477463013 : True := trivial
theorem PySem.W.Fast.tw4111094754952515662 : True := trivial
theorem PySem.W.Fast.tw760066587538033392 : True := trivial
theorem PySem.W.Fast.tw16837130017327874711 : True := trivial
theorem PySem.W.Fast.tw14375272900016308401 : True := trivial
theorem PySem.W.Fast.tw10758378236308597903 : True := trivial
theorem PySem.W.Fast.tw12258055675584674526 : True := trivial
theorem PySem.W.Fast.tw762386336445141149 : True := trivial
theorem PySem.W.Fast.tw2879854523492304505 : True := trivial
theorem PySem.W.Fast.tw3645845341203609586 : True := trivial
theorem PySem.W.Fast.tw10913540663812604334 : True := trivial
theorem PySem.W.Fast.tw8496740201837885965 : True := trivial
theorem PySem.W.Fast.tw17259428525102199749 : True := trivial
theorem PySem.W.Fast.tw4838965416737607660 : True := trivial
theorem PySem.W.Fast.tw16225724716252743879 : True := trivial
theorem PySem.W.Fast.tw8311917270152388110 : True := trivial
theorem PySem.W.Fast.tw7929294471145728801 : True := trivial
theorem PySem.W.Fast.tw3306897454219916063 : True := trivial
theorem PySem.W.Fast.tw10057009326062946934 : True := trivial
theorem PySem.W.Fast.tw12081788113654948119 : True := trivial
theorem PySem.W.Fast.tw14937172137726690936 : True := trivial
theorem PySem.W.Fast.tw2570178190592898433 : True := trivial
theorem PySem.W.Fast.tw14414691839012916266 : True := trivial
theorem PySem.W.Fast.tw2098808442424975636 : True := trivial
theorem PySem.W.Fast.tw7978928398269434095 : True := trivial
theorem PySem.W.Fast.tw15061971476584120418 : True := trivial
theorem PySem.W.Fast.tw18019658845460942926 : True := trivial
theorem PySem.W.Fast.tw4145328728774316959 : True := trivial
theorem PySem.W.Fast.tw8962188576902464668 : True := trivial
theorem PySem.W.Fast.tw1118641636986145902 : True := trivial
theorem PySem.W.Fast.tw12526177965141137839 : True := trivial
theorem PySem.W.Fast.tw4808824610490700294 : True := trivial
theorem PySem.W.Fast.tw13750752887253165134 : True := trivial
theorem PySem.W.Fast.tw12671106035276218557 : True := trivial
theorem PySem.W.Fast.tw14294341383994998907 : True := trivial
theorem PySem.W.Fast.tw14289865498955213725 : True := trivial
theorem PySem.W.Fast.tw13745705009810245626 : True := trivial
theorem PySem.W.Fast.tw6012335970297813748 : True := trivial
theorem PySem.W.Fast.tw8660921164798637660 : True := trivial
theorem PySem.W.Fast.tw4239280447945286351 : True := trivial
theorem PySem.W.Fast.tw10350487322205826072 : True := trivial
theorem PySem.W.Fast.tw12375665099636890085 : True := trivial
theorem PySem.W.Fast.tw17665249480937776401 : True := trivial
theorem PySem.W.Fast.tw13198063589149881567 : True := trivial
theorem PySem.W.Fast.tw3938185955818070528 : True := trivial
theorem PySem.W.Fast.tw17377501019938250013 : True := trivial
theorem PySem.W.Fast.tw16857387601560503541 : True := trivial
theorem PySem.W.Fast.tw1147180325268196357 : True := trivial
theorem PySem.W.Fast.tw11930079528513384470 : True := trivial
theorem PySem.W.Fast.tw12229999687232916256 : True := trivial
theorem PySem.W.Fast.tw12688508180302604205 : True := trivial
theorem PySem.W.Fast.tw10795594931317952287 : True := trivial
theorem PySem.W.Fast.tw12321158371564183393 : True := trivial
theorem PySem.W.Fast.tw8358901535394592419 : True := trivial
theorem PySem.W.Fast.tw16337156098726846601 : True := trivial
theorem PySem.W.Fast.tw3961400966311725874 : True := trivial
theorem PySem.W.Fast.tw12854513437327770781 : True := trivial
theorem PySem.W.Fast.tw1253273604885341892 : True := trivial
theorem PySem.W.Fast.tw3803830036473398236 : True := trivial
theorem PySem.W.Fast.tw15762919097012461551 : True := trivial
theorem PySem.W.Fast.tw9579830494910198774 : True := trivial
theorem PySem.W.Fast.tw8975739878968861505 : True := trivial
theorem PySem.W.Fast.tw10719016045400862026 : True := trivial
theorem PySem.W.Fast.tw13561296889033916247 : True := trivial
theorem PySem.W.Fast.tw14564709340678329565 : True := trivial
theorem PySem.W.Fast.tw15046667590788607579 : True := trivial
theorem PySem.W.Fast.tw8838310967725133486 : True := trivial
theorem PySem.W.Fast.tw9999391652623251029 : True := trivial
theorem PySem.W.Fast.tw7029369009695813867 : True := trivial
theorem PySem.W.Fast.tw15961918848860314637 : True := trivial
theorem PySem.W.Fast.tw3591117718204366223 : True := trivial
theorem PySem.W.Fast.tw6329209287049754017 : True := trivial
theorem PySem.W.Fast.tw13198988938146915294 : True := trivial
theorem PySem.W.Fast.tw15382935932648594876 : True := trivial
theorem PySem.W.Fast.tw10155929242238774682 : True := trivial
theorem PySem.W.Fast.tw11741650696354156509 : True := trivial
theorem PySem.W.Fast.tw3335319688503885531 : True := trivial
theorem PySem.W.Fast.tw7092891865775875621 : True := trivial
theorem PySem.W.Fast.tw1032379165920950442 : True := trivial
theorem PySem.W.Fast.tw11014398748137535818 : True := trivial
theorem PySem.W.Fast.tw1802140871164096035 : True := trivial
theorem PySem.W.Fast.tw16240524468693928631 : True := trivial
theorem PySem.W.Fast.tw17353384028990024729 : True := trivial
theorem PySem.W.Fast.tw4352017569879281302 : True := trivial
theorem PySem.W.Fast.tw12838015961277907108 : True := trivial
theorem PySem.W.Fast.tw8654545873539269734 : True := trivial
theorem PySem.W.Fast.tw7991309315494617188 : True := trivial
theorem PySem.W.Fast.tw14920856449372410886 : True := trivial
theorem PySem.W.Fast.tw16688883366827238306 : True := trivial
theorem PySem.W.Fast.tw2064354689561145281 : True := trivial
theorem PySem.W.Fast.tw14513623018496432846 : True := trivial
theorem PySem.W.Fast.tw338070445312842105 : True := trivial
theorem PySem.W.Fast.tw17325130183254446215 : True := trivial
theorem PySem.W.Fast.tw17494506375153859267 : True := trivial
theorem PySem.W.Fast.tw7042856743727063888 : True := trivial
theorem PySem.W.Fast.tw7054633126423121354 : True := trivial
theorem PySem.W.Fast.tw17921562303121362943 : True := trivial
theorem PySem.W.Fast.tw17062705378792181629 : True := trivial
theorem PySem.W.Fast.tw2095729691746910298 : True := trivial
theorem PySem.W.Fast.tw9242253453464475793 : True := trivial
theorem PySem.W.Fast.tw15365909508780071952 : True := trivial
theorem PySem.W.Fast.tw17695273256722969257 : True := trivial
theorem PySem.W.Fast.tw8744815063997511781 : True := trivial
theorem PySem.W.Fast.tw15329017191420766165 : True := trivial
theorem PySem.W.Fast.tw18264536490348272671 : True := trivial
theorem PySem.W.Fast.tw4341388574620989429 : True := trivial
theorem PySem.W.Fast.tw8615300151596064949 : True := trivial
theorem PySem.W.Fast.tw16625143642541394371 : True := trivial
theorem PySem.W.Fast.tw15650088887766122804 : True := trivial
theorem PySem.W.Fast.tw14060973132856213145 : True := trivial
theorem PySem.W.Fast.tw7243710382773622158 : True := trivial
theorem PySem.W.Fast.tw1051856252806344538 : True := trivial
theorem PySem.W.Fast.tw9459236704293683686 : True := trivial
theorem PySem.W.Fast.tw11537616076128366549 : True := trivial
theorem PySem.W.Fast.tw12473543183888302103 : True := trivial
theorem PySem.W.Fast.tw2449182292032239867 : True := trivial
theorem PySem.W.Fast.tw349790564907727916 : True := trivial
theorem PySem.W.Fast.tw13756202223672392829 : True := trivial
theorem PySem.W.Fast.tw6747221174832272040 : True := trivial
theorem PySem.W.Fast.tw2357692912338722339 : True := trivial
theorem PySem.W.Fast.tw872686487982969869 : True := trivial
theorem PySem.W.Fast.tw18097930591293314772 : True := trivial
theorem PySem.W.Fast.tw13924164905840335512 : True := trivial
theorem PySem.W.Fast.tw6976806105193286322 : True := trivial
theorem PySem.W.Fast.tw17059217313466402360 : True := trivial
theorem PySem.W.Fast.tw10026919869040872829 : True := trivial
theorem PySem.W.Fast.tw10727412139686543055 : True := trivial
theorem PySem.W.Fast.tw14931892268587414920 : True := trivial
theorem PySem.W.Fast.tw636376175034399951 : True := trivial
theorem PySem.W.Fast.tw8442686585123765413 : True := trivial
theorem PySem.W.Fast.tw5714007880009913085 : True := trivial
theorem PySem.W.Fast.tw13896639250080495675 : True := trivial
theorem PySem.W.Fast.tw2113792180848323905 : True := trivial
theorem PySem.W.Fast.tw12467454119077062419 : True := trivial
theorem PySem.W.Fast.tw6153428277769673018 : True := trivial
theorem PySem.W.Fast.tw3747386498313394021 : True := trivial
theorem PySem.W.Fast.tw15498189527053423067 : True := trivial
theorem PySem.W.Fast.tw5536239213331511296 : True := trivial
theorem PySem.W.Fast.tw14885175448317528715 : True := trivial
theorem PySem.W.Fast.tw11698754856021608948 : True := trivial
theorem PySem.W.Fast.tw9041784399313992518 : True := trivial
theorem PySem.W.Fast.tw14899067975491372028 : True := trivial
theorem PySem.W.Fast.tw3992507501602026387 : True := trivial
theorem PySem.W.Fast.tw7893915897972817811 : True := trivial
theorem PySem.W.Fast.tw16070811814841734035 : True := trivial
theorem PySem.W.Fast.tw3584910393529278767 : True := trivial
theorem PySem.W.Fast.tw10226544734234499350 : True := trivial
theorem PySem.W.Fast.tw2028573424672354889 : True := trivial
theorem PySem.W.Fast.tw18206840509182230721 : True := trivial
theorem PySem.W.Fast.tw13056738608727379552 : True := trivial
theorem PySem.W.Fast.tw2048779620979199120 : True := trivial
theorem PySem.W.Fast.tw4778216825417368577 : True := trivial
theorem PySem.W.Fast.tw13543646970913463452 : True := trivial
theorem PySem.W.Fast.tw3301064856866864827 : True := trivial
theorem PySem.W.Fast.tw17910662047064400065 : True := trivial
theorem PySem.W.Fast.tw1620204924309307294 : True := trivial
theorem PySem.W.Fast.tw4543195036380229373 : True := trivial
theorem PySem.W.Fast.tw7560621160300950042 : True := trivial
theorem PySem.W.Fast.tw7435197827899851300 : True := trivial
theorem PySem.W.Fast.tw7226471948233902791 : True := trivial
theorem PySem.W.Fast.tw5406615515328482693 : True := trivial
theorem PySem.W.Fast.tw16552202755733211476 : True := trivial
theorem PySem.W.Fast.tw9396728246207662445 : True := trivial
theorem PySem.W.Fast.tw5038112223640885791 : True := trivial
theorem PySem.W.Fast.tw10247737287390732166 : True := trivial
theorem PySem.W.Fast.tw9616475925579041227 : True := trivial
theorem PySem.W.Fast.tw4867311588453043712 : True := trivial
theorem PySem.W.Fast.tw17576968766853147313 : True := trivial
theorem PySem.W.Fast.tw5747347523165110308 : True := trivial
theorem PySem.W.Fast.tw4328785015178820473 : True := trivial
theorem PySem.W.Fast.tw5650198286734401539 : True := trivial
theorem PySem.W.Fast.tw17767303057574799275 : True := trivial
theorem PySem.W.Fast.tw14667890788732310287 : True := trivial
theorem PySem.W.Fast.tw10315696918444059720 : True := trivial
theorem PySem.W.Fast.tw6976817258064368516 : True := trivial
theorem PySem.W.Fast.tw5936967678507607858 : True := trivial
theorem PySem.W.Fast.tw16155431334736522157 : True := trivial
theorem PySem.W.Fast.tw13210202408350270361 : True := trivial
theorem PySem.W.Fast.tw10535435105274386239 : True := trivial
theorem PySem.W.Fast.tw4145751826533416204 : True := trivial
theorem PySem.W.Fast.tw6225512614401122708 : True := trivial
theorem PySem.W.Fast.tw16601748081581084999 : True := trivial
theorem PySem.W.Fast.tw11207807831936287456 : True := trivial
theorem PySem.W.Fast.tw8001074727053088187 : True := trivial
theorem PySem.W.Fast.tw6081905157264572427 : True := trivial
theorem PySem.W.Fast.tw10207825115550736468 : True := trivial
theorem PySem.W.Fast.tw9803538011675363456 : True := trivial
theorem PySem.W.Fast.tw8419418869312703092 : True := trivial
theorem PySem.W.Fast.tw16802242898353538353 : True := trivial
theorem PySem.W.Fast.tw5717823615897496090 : True := trivial
theorem PySem.W.Fast.tw7899718342548295303 : True := trivial
theorem PySem.W.Fast.tw12313193629408169525 : True := trivial
theorem PySem.W.Fast.tw326816597986326180 : True := trivial
theorem PySem.W.Fast.tw17199091404298019161 : True := trivial
theorem PySem.W.Fast.tw10523744680131348929 : True := trivial
theorem PySem.W.Fast.tw13009054678059836316 : True := trivial
theorem PySem.W.Fast.tw9572556825998341663 : True := trivial
theorem PySem.W.Fast.tw1571658446570777939 : True := trivial
theorem PySem.W.Fast.tw9803999702151525924 : True := trivial
theorem PySem.W.Fast.tw16504653464485797547 : True := trivial
theorem PySem.W.Fast.tw2138155166225545017 : True := trivial
theorem PySem.W.Fast.tw15940089299887405647 : True := trivial
theorem PySem.W.Fast.tw15129691731494384756 : True := trivial
theorem PySem.W.Fast.tw18243273999406887154 : True := trivial
theorem PySem.W.Fast.tw8379751721222745773 : True := trivial
theorem PySem.W.Fast.tw12530108508261969188 : True := trivial
theorem PySem.W.Fast.tw7969548984297411051 : True := trivial
theorem PySem.W.Fast.tw17376014046625916631 : True := trivial
theorem PySem.W.Fast.tw15399038048735879729 : True := trivial
theorem PySem.W.Fast.tw11753056267294540356 : True := trivial
theorem PySem.W.Fast.tw14894231476119611214 : True := trivial
theorem PySem.W.Fast.tw15208438719497846997 : True := trivial
theorem PySem.W.Fast.tw8287279308891842718 : True := trivial
theorem PySem.W.Fast.tw7645962053339892709 : True := trivial
theorem PySem.W.Fast.tw857715645767970374 : True := trivial
theorem PySem.W.Fast.tw4357337880525746813 : True := trivial
theorem PySem.W.Fast.tw9030463285746422640 : True := trivial
theorem PySem.W.Fast.tw6258937438724344267 : True := trivial
theorem PySem.W.Fast.tw15900660603900386337 : True := trivial
theorem PySem.W.Fast.tw15952819254720020440 : True := trivial
theorem PySem.W.Fast.tw13928474979951247375 : True := trivial
theorem PySem.W.Fast.tw3461137584856823545 : True := trivial
theorem PySem.W.Fast.tw15656824067299744654 : True := trivial
theorem PySem.W.Fast.tw8623179130447789443 : True := trivial
theorem PySem.W.Fast.tw7155775045617703193 : True := trivial
theorem PySem.W.Fast.tw5074038116884638513 : True := trivial
theorem PySem.W.Fast.tw7524571991532898356 : True := trivial
theorem PySem.W.Fast.tw12966486986660330577 : True := trivial
theorem PySem.W.Fast.tw17677512842589798354 : True := trivial
theorem PySem.W.Fast.tw14118490083007988326 : True := trivial
theorem PySem.W.Fast.tw4206883757102144611 : True := trivial
theorem PySem.W.Fast.tw2045208393797490329 : True := trivial
theorem PySem.W.Fast.tw622413080444941588 : True := trivial
theorem PySem.W.Fast.tw12758854216929276142 : True := trivial
theorem PySem.W.Fast.tw139498265087852250 : True := trivial
theorem PySem.W.Fast.tw11528918378426248524 : True := trivial
theorem PySem.W.Fast.tw5316313183791998748 : True := trivial
theorem PySem.W.Fast.tw1175998706108346424 : True := trivial
theorem PySem.W.Fast.tw16045376906934548707 : True := trivial
theorem PySem.W.Fast.tw3145829052403144269 : True := trivial
theorem PySem.W.Fast.tw15362671874662824589 : True := trivial
theorem PySem.W.Fast.tw2950999730670112028 : True := trivial
theorem PySem.W.Fast.tw4144492625302013898 : True := trivial
theorem PySem.W.Fast.tw7924297661759004093 : True := trivial
theorem PySem.W.Fast.tw14732717168786367307 : True := trivial
theorem PySem.W.Fast.tw1457430867152484163 : True := trivial
theorem PySem.W.Fast.tw5355871991586195174 : True := trivial
theorem PySem.W.Fast.tw12596004492774722872 : True := trivial
theorem PySem.W.Fast.tw10394649895672191260 : True := trivial
theorem PySem.W.Fast.tw16374258250507535043 : True := trivial
theorem PySem.W.Fast.tw8948339466359532058 : True := trivial
theorem PySem.W.Fast.tw2784805074011288592 : True := trivial
theorem PySem.W.Fast.tw8178317027097367221 : True := trivial
theorem PySem.W.Fast.tw18071870087202630248 : True := trivial
theorem PySem.W.Fast.tw11637632371523796933 : True := trivial
theorem PySem.W.Fast.tw11480223682787224497 : True := trivial
theorem PySem.W.Fast.tw7035968956158465081 : True := trivial
theorem PySem.W.Fast.tw14194413289302874546 : True := trivial
theorem PySem.W.Fast.tw7223871358289829858 : True := trivial
theorem PySem.W.Fast.tw11328532620118760350 : True := trivial
theorem PySem.W.Fast.tw15744478759300912420 : True := trivial
theorem PySem.W.Fast.tw17491685023447238761 : True := trivial
theorem PySem.W.Fast.tw15352955377307931167 : True := trivial
theorem PySem.W.Fast.tw2411992066944207951 : True := trivial
theorem PySem.W.Fast.tw12691020615480016160 : True := trivial
theorem PySem.W.Fast.tw7091194787239805101 : True := trivial
theorem PySem.W.Fast.tw16255304996960927651 : True := trivial
theorem PySem.W.Fast.tw8432099967954724103 : True := trivial
theorem PySem.W.Fast.tw13680003901251301953 : True := trivial
theorem PySem.W.Fast.tw965866868294116482 : True := trivial
theorem PySem.W.Fast.tw14670508209910708028 : True := trivial
theorem PySem.W.Fast.tw6103964117136773949 : True := trivial
theorem PySem.W.Fast.tw4568228217786823522 : True := trivial
theorem PySem.W.Fast.tw13428970051201008507 : True := trivial
theorem PySem.W.Fast.tw11831856520350131711 : True := trivial
theorem PySem.W.Fast.tw4212786961131113518 : True := trivial
theorem PySem.W.Fast.tw16019107666060641692 : True := trivial
theorem PySem.W.Fast.tw11209227695575593673 : True := trivial
theorem PySem.W.Fast.tw7940740421721557226 : True := trivial
theorem PySem.W.Fast.tw5544572639250428500 : True := trivial
theorem PySem.W.Fast.tw9960121191891235839 : True := trivial
theorem PySem.W.Fast.tw7682675855594062635 : True := trivial
theorem PySem.W.Fast.tw9127129290639984996 : True := trivial
theorem PySem.W.Fast.tw10046214794180831179 : True := trivial
theorem PySem.W.Fast.tw6129182455370603023 : True := trivial
theorem PySem.W.Fast.tw1214850006734471655 : True := trivial
theorem PySem.W.Fast.tw7873541323276272734 : True := trivial
theorem PySem.W.Fast.tw9458472078944324976 : True := trivial
theorem PySem.W.Fast.tw14640348402702560813 : True := trivial
theorem PySem.W.Fast.tw1905485903301168795 : True := trivial
theorem PySem.W.Fast.tw9493357558856182149 : True := trivial
theorem PySem.W.Fast.tw1676452940523222091 : True := trivial
theorem PySem.W.Fast.tw5977098417702223226 : True := trivial
theorem PySem.W.Fast.tw845056015985836565 : True := trivial
theorem PySem.W.Fast.tw16528796584209552184 : True := trivial
theorem PySem.W.Fast.tw15748882844152840320 : True := trivial
theorem PySem.W.Fast.tw1076094127985200018 : True := trivial
theorem PySem.W.Fast.tw8612139147785314670 : True := trivial
theorem PySem.W.Fast.tw7824020433743563257 : True := trivial
theorem PySem.W.Fast.tw15229633285964606308 : True := trivial
theorem PySem.W.Fast.tw16447515215398318747 : True := trivial
theorem PySem.W.Fast.tw2071603762455235955 : True := trivial
theorem PySem.W.Fast.tw16531167405233166016 : True := trivial
theorem PySem.W.Fast.tw18311623662577837590 : True := trivial
theorem PySem.W.Fast.tw15090349975466708750 : True := trivial
theorem PySem.W.Fast.tw2366947930029064874 : True := trivial
theorem PySem.W.Fast.tw10653442116864080639 : True := trivial
theorem PySem.W.Fast.tw10395942689263144819 : True := trivial
theorem PySem.W.Fast.tw14497290028855075719 : True := trivial
theorem PySem.W.Fast.tw14861677460702301772 : True := trivial
theorem PySem.W.Fast.tw7443728759917824738 : True := trivial
theorem PySem.W.Fast.tw16397789339254522972 : True := trivial
theorem PySem.W.Fast.tw1211899100145414496 : True := trivial
theorem PySem.W.Fast.tw15836586223096235350 : True := trivial
theorem PySem.W.Fast.tw8299724237283056598 : True := trivial
theorem PySem.W.Fast.tw16854414458450921005 : True := trivial
theorem PySem.W.Fast.tw16038294325938702428 : True := trivial
theorem PySem.W.Fast.tw17792264502763433644 : True := trivial
theorem PySem.W.Fast.tw6460663966126886585 : True := trivial
theorem PySem.W.Fast.tw7919380324411272766 : True := trivial
theorem PySem.W.Fast.tw16421865213979726078 : True := trivial
theorem PySem.W.Fast.tw13155402282916197702 : True := trivial
theorem PySem.W.Fast.tw5331076035539082433 : True := trivial
theorem PySem.W.Fast.tw17779766137857350026 : True := trivial
theorem PySem.W.Fast.tw2098776144327637635 : True := trivial
theorem PySem.W.Fast.tw2813385299172586971 : True := trivial
theorem PySem.W.Fast.tw9544916011298284672 : True := trivial
theorem PySem.W.Fast.tw6740982567592206833 : True := trivial
theorem PySem.W.Fast.tw5368078686095396171 : True := trivial
theorem PySem.W.Fast.tw3301354821251807821 : True := trivial
theorem PySem.W.Fast.tw2822953128076280136 : True := trivial
theorem PySem.W.Fast.tw2325921357341681049 : True := trivial
theorem PySem.W.Fast.tw11858224723148563096 : True := trivial
theorem PySem.W.Fast.tw10978495576905817758 : True := trivial
theorem PySem.W.Fast.tw11140118029512660969 : True := trivial
theorem PySem.W.Fast.tw11451130109823079851 : True := trivial
theorem PySem.W.Fast.tw17053300462899798083 : True := trivial
theorem PySem.W.Fast.tw11383644307469057017 : True := trivial
theorem PySem.W.Fast.tw1247824984008044149 : True := trivial
theorem PySem.W.Fast.tw7197644856878167806 : True := trivial
theorem PySem.W.Fast.tw2292660182038604681 : True := trivial
theorem PySem.W.Fast.tw555298701347303332 : True := trivial
theorem PySem.W.Fast.tw12195186952052400835 : True := trivial
theorem PySem.W.Fast.tw6521715079678887132 : True := trivial
theorem PySem.W.Fast.tw2415376217485591013 : True := trivial
theorem PySem.W.Fast.tw5009878552196935776 : True := trivial
theorem PySem.W.Fast.tw15312716189719984130 : True := trivial
theorem PySem.W.Fast.tw883554787472252348 : True := trivial
theorem PySem.W.Fast.tw5269304783867157459 : True := trivial
theorem PySem.W.Fast.tw13017707086880231598 : True := trivial
theorem PySem.W.Fast.tw14483254409347595822 : True := trivial
theorem PySem.W.Fast.tw664868946413109864 : True := trivial
theorem PySem.W.Fast.tw7772425074002913181 : True := trivial
theorem PySem.W.Fast.tw1705624772849766230 : True := trivial
theorem PySem.W.Fast.tw6911016390086748091 : True := trivial
theorem PySem.W.Fast.tw4524881162008955664 : True := trivial
theorem PySem.W.Fast.tw3041405493627629894 : True := trivial
theorem PySem.W.Fast.tw15935493964655746517 : True := trivial
theorem PySem.W.Fast.tw3962643194865106622 : True := trivial
theorem PySem.W.Fast.tw3836732079925044665 : True := trivial
theorem PySem.W.Fast.tw1710795567954924084 : True := trivial
theorem PySem.W.Fast.tw15437642992010726145 : True := trivial
theorem PySem.W.Fast.tw5666767506319399055 : True := trivial
theorem PySem.W.Fast.tw15640799169702408133 : True := trivial
theorem PySem.W.Fast.tw9141553956168057927 : True := trivial
theorem PySem.W.Fast.tw6668219515818631780 : True := trivial
theorem PySem.W.Fast.tw4788365827303950894 : True := trivial
theorem PySem.W.Fast.tw13005547805951397085 : True := trivial
theorem PySem.W.Fast.tw6522677123368171978 : True := trivial
theorem PySem.W.Fast.tw178730728876344297 : True := trivial
theorem PySem.W.Fast.tw8029167244372463369 : True := trivial
theorem PySem.W.Fast.tw14872001776084169681 : True := trivial
theorem PySem.W.Fast.tw3969988567907607082 : True := trivial
theorem PySem.W.Fast.tw8432115752002954691 : True := trivial
theorem PySem.W.Fast.tw15669122159742875947 : True := trivial
theorem PySem.W.Fast.tw5457695967839314535 : True := trivial
theorem PySem.W.Fast.tw12431591948111339932 : True := trivial
theorem PySem.W.Fast.tw14682463087218526087 : True := trivial
theorem PySem.W.Fast.tw4282009986469652534 : True := trivial
theorem PySem.W.Fast.tw12675254381301868789 : True := trivial
theorem PySem.W.Fast.tw7113978009844203955 : True := trivial
theorem PySem.W.Fast.tw18277918282361952052 : True := trivial
theorem PySem.W.Fast.tw16500897615625737106 : True := trivial
theorem PySem.W.Fast.tw12303519102285630508 : True := trivial
theorem PySem.W.Fast.tw16088607721293474283 : True := trivial
theorem PySem.W.Fast.tw12669365855989790646 : True := trivial
theorem PySem.W.Fast.tw5635491147531154448 : True := trivial
theorem PySem.W.Fast.tw16435231874501029231 : True := trivial
theorem PySem.W.Fast.tw17607876013704300293 : True := trivial
theorem PySem.W.Fast.tw7228352225299628257 : True := trivial
theorem PySem.W.Fast.tw1116226724928162180 : True := trivial
theorem PySem.W.Fast.tw14120472098016018901 : True := trivial
theorem PySem.W.Fast.tw13724505709582204221 : True := trivial
theorem PySem.W.Fast.tw7832471700901771363 : True := trivial
theorem PySem.W.Fast.tw9148973324668546562 : True := trivial
theorem PySem.W.Fast.tw11354127803984781049 : True := trivial
theorem PySem.W.Fast.tw17875492588226613185 : True := trivial
theorem PySem.W.Fast.tw6975995064620580476 : True := trivial
theorem PySem.W.Fast.tw7684105300983894234 : True := trivial
theorem PySem.W.Fast.tw15180952723433666683 : True := trivial
theorem PySem.W.Fast.tw3898060473259422828 : True := trivial
theorem PySem.W.Fast.tw11289289993416440911 : True := trivial
theorem PySem.W.Fast.tw12640624605118697292 : True := trivial
theorem PySem.W.Fast.tw16424262833719489776 : True := trivial
theorem PySem.W.Fast.tw8751709690348386352 : True := trivial
theorem PySem.W.Fast.tw8018465139452564672 : True := trivial
theorem PySem.W.Fast.tw8265679656311240608 : True := trivial
theorem PySem.W.Fast.tw16492297309843359689 : True := trivial
theorem PySem.W.Fast.tw5051963512271431003 : True := trivial
theorem PySem.W.Fast.tw4913922951025246333 : True := trivial
theorem PySem.W.Fast.tw11632746865954869934 : True := trivial
theorem PySem.W.Fast.tw2804479173119976120 : True := trivial
theorem PySem.W.Fast.tw14066600141613563024 : True := trivial
theorem PySem.W.Fast.tw6585543038312653339 : True := trivial
theorem PySem.W.Fast.tw2353872347154572750 : True := trivial
theorem PySem.W.Fast.tw11982399651052247997 : True := trivial
theorem PySem.W.Fast.tw13788395213601910728 : True := trivial
theorem PySem.W.Fast.tw17187627513930752748 : True := trivial
theorem PySem.W.Fast.tw11260245954431725569 : True := trivial
theorem PySem.W.Fast.tw3878069618397361358 : True := trivial
theorem PySem.W.Fast.tw8053807934087858807 : True := trivial
theorem PySem.W.Fast.tw5317692769831439202 : True := trivial
theorem PySem.W.Fast.tw2145596392993121772 : True := trivial
theorem PySem.W.Fast.tw6975197968944619729 : True := trivial
theorem PySem.W.Fast.tw16344842977362771075 : True := trivial
theorem PySem.W.Fast.tw17399478737152343247 : True := trivial
theorem PySem.W.Fast.tw709555552924815761 : True := trivial
theorem PySem.W.Fast.tw3579249989663419099 : True := trivial
theorem PySem.W.Fast.tw14788171902736680297 : True := trivial
theorem PySem.W.Fast.tw12947200764994670423 : True := trivial
theorem PySem.W.Fast.tw18197543452978237002 : True := trivial
theorem PySem.W.Fast.tw4009255207202661701 : True := trivial
theorem PySem.W.Fast.tw2438362660954242080 : True := trivial
theorem PySem.W.Fast.tw16785421569793678483 : True := trivial
theorem PySem.W.Fast.tw1053829235883272896 : True := trivial
theorem PySem.W.Fast.tw16978806440587667745 : True := trivial
theorem PySem.W.Fast.tw1027671163167769356 : True := trivial
theorem PySem.W.Fast.tw9918115448624820352 : True := trivial
theorem PySem.W.Fast.tw5075836365812872597 : True := trivial
theorem PySem.W.Fast.tw8599537413710028205 : True := trivial
theorem PySem.W.Fast.tw18387893474949297884 : True := trivial
theorem PySem.W.Fast.tw10754288383116104122 : True := trivial
theorem PySem.W.Fast.tw3744984028548795529 : True := trivial
theorem PySem.W.Fast.tw17679204676105142717 : True := trivial
theorem PySem.W.Fast.tw5098976376892220616 : True := trivial
theorem PySem.W.Fast.tw1051865762758776815 : True := trivial
theorem PySem.W.Fast.tw4591992749913481032 : True := trivial
theorem PySem.W.Fast.tw10725698851621689098 : True := trivial
theorem PySem.W.Fast.tw12618332626167544791 : True := trivial
theorem PySem.W.Fast.tw9577805193922134897 : True := trivial
theorem PySem.W.Fast.tw11701452086660194088 : True := trivial
theorem PySem.W.Fast.tw3039068440985853948 : True := trivial
theorem PySem.W.Fast.tw8429683340333781347 : True := trivial
theorem PySem.W.Fast.tw1132707107557302283 : True := trivial
theorem PySem.W.Fast.tw6637013465486416080 : True := trivial
theorem PySem.W.Fast.tw14259174091444557757 : True := trivial
theorem PySem.W.Fast.tw2134395510758223536 : True := trivial
theorem PySem.W.Fast.tw16974441924115290362 : True := trivial
theorem PySem.W.Fast.tw3326151296737992836 : True := trivial
theorem PySem.W.Fast.tw8893817711940169887 : True := trivial
theorem PySem.W.Fast.tw4587361289541362699 : True := trivial
theorem PySem.W.Fast.tw2360692993477790713 : True := trivial
theorem PySem.W.Fast.tw6850676633112588328 : True := trivial
theorem PySem.W.Fast.tw5456592917286062767 : True := trivial
theorem PySem.W.Fast.tw14578890899895706675 : True := trivial
theorem PySem.W.Fast.tw4238571496889882836 : True := trivial
theorem PySem.W.Fast.tw9476089757053155345 : True := trivial
theorem PySem.W.Fast.tw15064468906453532017 : True := trivial
theorem PySem.W.Fast.tw8221450785639991501 : True := trivial
theorem PySem.W.Fast.tw11486245988671824867 : True := trivial
theorem PySem.W.Fast.tw6875007386091663719 : True := trivial
theorem PySem.W.Fast.tw9433624948778599468 : True := trivial
theorem PySem.W.Fast.tw9873549268236301844 : True := trivial
theorem PySem.W.Fast.tw105930071337408013 : True := trivial
theorem PySem.W.Fast.tw3945038214868331655 : True := trivial
theorem PySem.W.Fast.tw17610220805575674776 : True := trivial
theorem PySem.W.Fast.tw7450007177687351513 : True := trivial
theorem PySem.W.Fast.tw2950874917410521351 : True := trivial
theorem PySem.W.Fast.tw7130692445798688915 : True := trivial
theorem PySem.W.Fast.tw15979925463138732916 : True := trivial
theorem PySem.W.Fast.tw10718719721609411412 : True := trivial
theorem PySem.W.Fast.tw1360161599125773725 : True := trivial
theorem PySem.W.Fast.tw17007211224565168178 : True := trivial
theorem PySem.W.Fast.tw16004064566073404803 : True := trivial
theorem PySem.W.Fast.tw13160998764406896510 : True := trivial
theorem PySem.W.Fast.tw6008517282486168707 : True := trivial
theorem PySem.W.Fast.tw14167767322706218022 : True := trivial
theorem PySem.W.Fast.tw1054436578152983924 : True := trivial
theorem PySem.W.Fast.tw3732623955121981039 : True := trivial
theorem PySem.W.Fast.tw5025007314665546348 : True := trivial
theorem PySem.W.Fast.tw11578691980768689375 : True := trivial
theorem PySem.W.Fast.tw3437617666925851493 : True := trivial
theorem PySem.W.Fast.tw13491700037444186060 : True := trivial
theorem PySem.W.Fast.tw14768142959978178194 : True := trivial
theorem PySem.W.Fast.tw6890071432207311471 : True := trivial
theorem PySem.W.Fast.tw5063422828694335167 : True := trivial
theorem PySem.W.Fast.tw4641659862873487494 : True := trivial
theorem PySem.W.Fast.tw17688156165382242133 : True := trivial
theorem PySem.W.Fast.tw11342251800716976557 : True := trivial
theorem PySem.W.Fast.tw1885557952485814519 : True := trivial
theorem PySem.W.Fast.tw2329542377490318566 : True := trivial
theorem PySem.W.Fast.tw1649385583157272996 : True := trivial
theorem PySem.W.Fast.tw5783977753091133091 : True := trivial
theorem PySem.W.Fast.tw8683084342575002629 : True := trivial
theorem PySem.W.Fast.tw8450421725780907632 : True := trivial
theorem PySem.W.Fast.tw17505152238007511407 : True := trivial
theorem PySem.W.Fast.tw4077079227218128022 : True := trivial
theorem PySem.W.Fast.tw10189740296301171953 : True := trivial
theorem PySem.W.Fast.tw6212402718555970322 : True := trivial
theorem PySem.W.Fast.tw13495693986048357292 : True := trivial
theorem PySem.W.Fast.tw5162343227908123257 : True := trivial
theorem PySem.W.Fast.tw4193503990531246117 : True := trivial
theorem PySem.W.Fast.tw10794766152961135009 : True := trivial
theorem PySem.W.Fast.tw17874866503068475126 : True := trivial
theorem PySem.W.Fast.tw7395802087511810939 : True := trivial
theorem PySem.W.Fast.tw7944770113346527051 : True := trivial
theorem PySem.W.Fast.tw12165824943191044062 : True := trivial
theorem PySem.W.Fast.tw9550131845667365148 : True := trivial
theorem PySem.W.Fast.tw3523021990218129477 : True := trivial
theorem PySem.W.Fast.tw9675124783401444265 : True := trivial
theorem PySem.W.Fast.tw17575913139607119718 : True := trivial
theorem PySem.W.Fast.tw5452840267701518420 : True := trivial
theorem PySem.W.Fast.tw6208242133679860028 : True := trivial
theorem PySem.W.Fast.tw5451463794937581435 : True := trivial
theorem PySem.W.Fast.tw1013310079460405711 : True := trivial
theorem PySem.W.Fast.tw590150556103341039 : True := trivial
theorem PySem.W.Fast.tw5181287068696617328 : True := trivial
theorem PySem.W.Fast.tw676924437709327937 : True := trivial
theorem PySem.W.Fast.tw13207359834611384962 : True := trivial
theorem PySem.W.Fast.tw6732972641932434649 : True := trivial
theorem PySem.W.Fast.tw9695189040827496650 : True := trivial
theorem PySem.W.Fast.tw15119381978581524053 : True := trivial
theorem PySem.W.Fast.tw773593723882544817 : True := trivial
theorem PySem.W.Fast.tw16380633620051182369 : True := trivial
theorem PySem.W.Fast.tw13294544659572080281 : True := trivial
theorem PySem.W.Fast.tw12375013299654913733 : True := trivial
theorem PySem.W.Fast.tw10052927761089182356 : True := trivial
theorem PySem.W.Fast.tw18338980593950511369 : True := trivial
theorem PySem.W.Fast.tw2750138410910857710 : True := trivial
theorem PySem.W.Fast.tw2817720617746364140 : True := trivial
theorem PySem.W.Fast.tw16607978266525900935 : True := trivial
theorem PySem.W.Fast.tw15710064824048718556 : True := trivial
theorem PySem.W.Fast.tw14923386180131400075 : True := trivial
theorem PySem.W.Fast.tw17191801468266529783 : True := trivial
theorem PySem.W.Fast.tw10443032215689954913 : True := trivial
theorem PySem.W.Fast.tw2605683596837000852 : True := trivial
theorem PySem.W.Fast.tw3874144785255353612 : True := trivial
theorem PySem.W.Fast.tw5010289040158915837 : True := trivial
theorem PySem.W.Fast.tw18446093253252316870 : True := trivial
theorem PySem.W.Fast.tw17571705954200820763 : True := trivial
theorem PySem.W.Fast.tw6335623091912465887 : True := trivial
theorem PySem.W.Fast.tw13746348949458227757 : True := trivial
theorem PySem.W.Fast.tw3915927886742775515 : True := trivial
theorem PySem.W.Fast.tw1596949618200155203 : True := trivial
theorem PySem.W.Fast.tw18444672541127461735 : True := trivial
theorem PySem.W.Fast.tw3904890024935817415 : True := trivial
theorem PySem.W.Fast.tw8772847525858091371 : True := trivial
theorem PySem.W.Fast.tw1708281097521545838 : True := trivial
theorem PySem.W.Fast.tw12061679666908055478 : True := trivial
theorem PySem.W.Fast.tw16973060860459642657 : True := trivial
theorem PySem.W.Fast.tw1023419731465652018 : True := trivial
theorem PySem.W.Fast.tw10239157393943429402 : True := trivial
theorem PySem.W.Fast.tw10347983944345596649 : True := trivial
theorem PySem.W.Fast.tw6559635177791441064 : True := trivial
theorem PySem.W.Fast.tw7928868524487567568 : True := trivial
theorem PySem.W.Fast.tw1917489448131735613 : True := trivial
theorem PySem.W.Fast.tw728963250431595354 : True := trivial
theorem PySem.W.Fast.tw12219516540084910893 : True := trivial
theorem PySem.W.Fast.tw4580319199627760119 : True := trivial
theorem PySem.W.Fast.tw12655428218463614820 : True := trivial
theorem PySem.W.Fast.tw17341114488752018655 : True := trivial
theorem PySem.W.Fast.tw5891634013438036407 : True := trivial
theorem PySem.W.Fast.tw18332141914023909138 : True := trivial
theorem PySem.W.Fast.tw12140503017255051117 : True := trivial
theorem PySem.W.Fast.tw2842466990689604868 : True := trivial
theorem PySem.W.Fast.tw16865965621700944090 : True := trivial
theorem PySem.W.Fast.tw1663597072509298609 : True := trivial
theorem PySem.W.Fast.tw3933188591098376242 : True := trivial
theorem PySem.W.Fast.tw9179672748548985348 : True := trivial
theorem PySem.W.Fast.tw17263499174671489328 : True := trivial
theorem PySem.W.Fast.tw5318997934389694296 : True := trivial
theorem PySem.W.Fast.tw14518275356192458204 : True := trivial
theorem PySem.W.Fast.tw4627303731063963983 : True := trivial
theorem PySem.W.Fast.tw7409687023763017161 : True := trivial
theorem PySem.W.Fast.tw15820529348299694350 : True := trivial
theorem PySem.W.Fast.tw3489397823926193702 : True := trivial
theorem PySem.W.Fast.tw15330356410771353764 : True := trivial
theorem PySem.W.Fast.tw14869503848540505100 : True := trivial
theorem PySem.W.Fast.tw3765877515466650234 : True := trivial
theorem PySem.W.Fast.tw14296009250260120371 : True := trivial
theorem PySem.W.Fast.tw14620991623208611769 : True := trivial
theorem PySem.W.Fast.tw15615906429445027475 : True := trivial
theorem PySem.W.Fast.tw13688606519256740841 : True := trivial
theorem PySem.W.Fast.tw15337651563143195390 : True := trivial
theorem PySem.W.Fast.tw7250135157476138211 : True := trivial
theorem PySem.W.Fast.tw10582321535858892019 : True := trivial
theorem PySem.W.Fast.tw4116640734942991514 : True := trivial
theorem PySem.W.Fast.tw6028002290969590385 : True := trivial
theorem PySem.W.Fast.tw1716948805173857093 : True := trivial
theorem PySem.W.Fast.tw6842186549779656208 : True := trivial
theorem PySem.W.Fast.tw8587690728196612410 : True := trivial
theorem PySem.W.Fast.tw17260681749277492165 : True := trivial
theorem PySem.W.Fast.tw16417786287134613267 : True := trivial
theorem PySem.W.Fast.tw6756067606108314774 : True := trivial
theorem PySem.W.Fast.tw5236037121524106053 : True := trivial
theorem PySem.W.Fast.tw8276178376304159524 : True := trivial
theorem PySem.W.Fast.tw13693896166029753625 : True := trivial
theorem PySem.W.Fast.tw6695985310576119272 : True := trivial
theorem PySem.W.Fast.tw6570383590770291816 : True := trivial
theorem PySem.W.Fast.tw3593413429339487850 : True := trivial
theorem PySem.W.Fast.tw11143298340274795913 : True := trivial
theorem PySem.W.Fast.tw8777217781005785573 : True := trivial
theorem PySem.W.Fast.tw6943298536743361767 : True := trivial
theorem PySem.W.Fast.tw9874130040266724020 : True := trivial
theorem PySem.W.Fast.tw15240181793583241715 : True := trivial
theorem PySem.W.Fast.tw4496485900306293472 : True := trivial
theorem PySem.W.Fast.tw3415653756848156566 : True := trivial
theorem PySem.W.Fast.tw12863954960521872078 : True := trivial
theorem PySem.W.Fast.tw9197175309954899014 : True := trivial
theorem PySem.W.Fast.tw3803612311970020340 : True := trivial
theorem PySem.W.Fast.tw6762722582613518183 : True := trivial
theorem PySem.W.Fast.tw5585653595366818808 : True := trivial
theorem PySem.W.Fast.tw9010404618831984110 : True := trivial
theorem PySem.W.Fast.tw638127252890115381 : True := trivial
theorem PySem.W.Fast.tw962929214449982699 : True := trivial
theorem PySem.W.Fast.tw2578152460595777502 : True := trivial
theorem PySem.W.Fast.tw3194128793917845477 : True := trivial
theorem PySem.W.Fast.tw16583397789460763539 : True := trivial
theorem PySem.W.Fast.tw12510417057257128194 : True := trivial
theorem PySem.W.Fast.tw11117691312299636301 : True := trivial
theorem PySem.W.Fast.tw10205699790870346918 : True := trivial
theorem PySem.W.Fast.tw17425375595507695143 : True := trivial
theorem PySem.W.Fast.tw226488073948656942 : True := trivial
theorem PySem.W.Fast.tw1033568191341246309 : True := trivial
theorem PySem.W.Fast.tw9133213192602484114 : True := trivial
theorem PySem.W.Fast.tw4515533213977128296 : True := trivial
theorem PySem.W.Fast.tw12508679085248910474 : True := trivial
theorem PySem.W.Fast.tw7789247470286970687 : True := trivial
theorem PySem.W.Fast.tw176068297343460349 : True := trivial
theorem PySem.W.Fast.tw14649599487086275521 : True := trivial
theorem PySem.W.Fast.tw14397731503178432062 : True := trivial
theorem PySem.W.Fast.tw2237804463974416436 : True := trivial
theorem PySem.W.Fast.tw16954067422970301340 : True := trivial
theorem PySem.W.Fast.tw7058786533906972506 : True := trivial
theorem PySem.W.Fast.tw17763508289631205419 : True := trivial
theorem PySem.W.Fast.tw12453940894979720256 : True := trivial
theorem PySem.W.Fast.tw15492298035153823683 : True := trivial
theorem PySem.W.Fast.tw15971589942743875784 : True := trivial
theorem PySem.W.Fast.tw11799912664375337121 : True := trivial
theorem PySem.W.Fast.tw17864313714976028109 : True := trivial
theorem PySem.W.Fast.tw5253475111286938211 : True := trivial
theorem PySem.W.Fast.tw11985790235299500354 : True := trivial
theorem PySem.W.Fast.tw5693039935822598390 : True := trivial
theorem PySem.W.Fast.tw1410183529320789937 : True := trivial
theorem PySem.W.Fast.tw13866447220702014651 : True := trivial
theorem PySem.W.Fast.tw3019401995343057266 : True := trivial
theorem PySem.W.Fast.tw15522374804027829562 : True := trivial
theorem PySem.W.Fast.tw2517801457706112858 : True := trivial
theorem PySem.W.Fast.tw5518721615801702828 : True := trivial
theorem PySem.W.Fast.tw2570314022478029978 : True := trivial
theorem PySem.W.Fast.tw11421153018280099713 : True := trivial
theorem PySem.W.Fast.tw9339484171558515557 : True := trivial
theorem PySem.W.Fast.tw2282868179473798167 : True := trivial
theorem PySem.W.Fast.tw6726498014704575649 : True := trivial
theorem PySem.W.Fast.tw1588709310118936508 : True := trivial
theorem PySem.W.Fast.tw11531750881193191 : True := trivial
theorem PySem.W.Fast.tw11402349723597339339 : True := trivial
theorem PySem.W.Fast.tw11499563308770608573 : True := trivial
theorem PySem.W.Fast.tw11324902472374881308 : True := trivial
theorem PySem.W.Fast.tw3739400723803026133 : True := trivial
theorem PySem.W.Fast.tw15486987416469405016 : True := trivial
theorem PySem.W.Fast.tw6382924446750750072 : True := trivial
theorem PySem.W.Fast.tw10078741072990883747 : True := trivial
theorem PySem.W.Fast.tw6353528640896822440 : True := trivial
theorem PySem.W.Fast.tw12280016562529531852 : True := trivial
theorem PySem.W.Fast.tw8416985250719630330 : True := trivial
theorem PySem.W.Fast.tw10548208683299473226 : True := trivial
theorem PySem.W.Fast.tw13140604045311375754 : True := trivial
theorem PySem.W.Fast.tw15125767572086919276 : True := trivial
theorem PySem.W.Fast.tw10146548892730559698 : True := trivial
theorem PySem.W.Fast.tw8990758505754113600 : True := trivial
theorem PySem.W.Fast.tw9596385849894948337 : True := trivial
theorem PySem.W.Fast.tw11815429002032579727 : True := trivial
theorem PySem.W.Fast.tw5846252474558193942 : True := trivial
theorem PySem.W.Fast.tw8420391030886921853 : True := trivial
theorem PySem.W.Fast.tw1677631820688281248 : True := trivial
theorem PySem.W.Fast.tw1574792077590307057 : True := trivial
theorem PySem.W.Fast.tw6619437958875686257 : True := trivial
theorem PySem.W.Fast.tw13885695392452361397 : True := trivial
theorem PySem.W.Fast.tw8269351024096274504 : True := trivial
theorem PySem.W.Fast.tw8157288430712265455 : True := trivial
theorem PySem.W.Fast.tw14817518893089399793 : True := trivial
theorem PySem.W.Fast.tw17642200305481270455 : True := trivial
theorem PySem.W.Fast.tw2078091670030339961 : True := trivial
theorem PySem.W.Fast.tw17440860862018994665 : True := trivial
theorem PySem.W.Fast.tw7088537934472770445 : True := trivial
theorem PySem.W.Fast.tw18093718220796608401 : True := trivial
theorem PySem.W.Fast.tw4265476913292645298 : True := trivial
theorem PySem.W.Fast.tw17130896180462459143 : True := trivial
theorem PySem.W.Fast.tw17691755007614039749 : True := trivial
theorem PySem.W.Fast.tw5378888411539372195 : True := trivial
theorem PySem.W.Fast.tw6896068600345464670 : True := trivial
theorem PySem.W.Fast.tw4889298626329582855 : True := trivial
theorem PySem.W.Fast.tw1333536891953059568 : True := trivial
theorem PySem.W.Fast.tw916701837276202540 : True := trivial
theorem PySem.W.Fast.tw2153019430723727511 : True := trivial
theorem PySem.W.Fast.tw5978868572065692631 : True := trivial
theorem PySem.W.Fast.tw1375501110657297282 : True := trivial
theorem PySem.W.Fast.tw17146393951641187309 : True := trivial
theorem PySem.W.Fast.tw16293026917952780658 : True := trivial
theorem PySem.W.Fast.tw13948851505647736561 : True := trivial
theorem PySem.W.Fast.tw2539728492137849669 : True := trivial
theorem PySem.W.Fast.tw6217260733511739697 : True := trivial
theorem PySem.W.Fast.tw11699286491308308838 : True := trivial
theorem PySem.W.Fast.tw5990677896088653587 : True := trivial
theorem PySem.W.Fast.tw1586703050238075380 : True := trivial
theorem PySem.W.Fast.tw17289149960759037717 : True := trivial
theorem PySem.W.Fast.tw10744087514756048550 : True := trivial
theorem PySem.W.Fast.tw8082059739409267215 : True := trivial
theorem PySem.W.Fast.tw4092727939535336989 : True := trivial
theorem PySem.W.Fast.tw11599460127494543011 : True := trivial
theorem PySem.W.Fast.tw13650914490643520400 : True := trivial
theorem PySem.W.Fast.tw7464689329359493915 : True := trivial
theorem PySem.W.Fast.tw5487069094979901244 : True := trivial
theorem PySem.W.Fast.tw10296679097108734143 : True := trivial
theorem PySem.W.Fast.tw986743785298578667 : True := trivial
theorem PySem.W.Fast.tw4270821000623509594 : True := trivial
theorem PySem.W.Fast.tw14976407660468501870 : True := trivial
theorem PySem.W.Fast.tw4387269627565000216 : True := trivial
theorem PySem.W.Fast.tw9288808414369752075 : True := trivial
theorem PySem.W.Fast.tw14898855810567097867 : True := trivial
theorem PySem.W.Fast.tw13882604664025903546 : True := trivial
theorem PySem.W.Fast.tw8567788918283049922 : True := trivial
theorem PySem.W.Fast.tw9764728218029833283 : True := trivial
theorem PySem.W.Fast.tw6598965320720072974 : True := trivial
theorem PySem.W.Fast.tw1406321638682768718 : True := trivial
theorem PySem.W.Fast.tw14477602754393214977 : True := trivial
theorem PySem.W.Fast.tw15724511018522565925 : True := trivial
theorem PySem.W.Fast.tw10398027254780056616 : True := trivial
theorem PySem.W.Fast.tw16214790012777590889 : True := trivial
theorem PySem.W.Fast.tw14136720709894510865 : True := trivial
theorem PySem.W.Fast.tw8970287333914672636 : True := trivial
theorem PySem.W.Fast.tw14198944764341201573 : True := trivial
theorem PySem.W.Fast.tw9396373061661913276 : True := trivial
theorem PySem.W.Fast.tw5879485316696682044 : True := trivial
theorem PySem.W.Fast.tw14783369641121867101 : True := trivial
theorem PySem.W.Fast.tw17801612847167854322 : True := trivial
theorem PySem.W.Fast.tw465043325360232795 : True := trivial
theorem PySem.W.Fast.tw8442076126836793894 : True := trivial
theorem PySem.W.Fast.tw2066023472022082108 : True := trivial
theorem PySem.W.Fast.tw5601693285623587507 : True := trivial
theorem PySem.W.Fast.tw15967704179804400565 : True := trivial
theorem PySem.W.Fast.tw18038064220495042473 : True := trivial
theorem PySem.W.Fast.tw4103000141436622147 : True := trivial
theorem PySem.W.Fast.tw10639679614735274156 : True := trivial
theorem PySem.W.Fast.tw14800826823635691152 : True := trivial
theorem PySem.W.Fast.tw17994083263340472620 : True := trivial
theorem PySem.W.Fast.tw12183270610967078845 : True := trivial
theorem PySem.W.Fast.tw14113450960899387274 : True := trivial
theorem PySem.W.Fast.tw11360303750469398909 : True := trivial
theorem PySem.W.Fast.tw16912863210816583926 : True := trivial
theorem PySem.W.Fast.tw17490113547335600831 : True := trivial
theorem PySem.W.Fast.tw13429728498851531786 : True := trivial
theorem PySem.W.Fast.tw13755987410492501536 : True := trivial
theorem PySem.W.Fast.tw12067002040718492072 : True := trivial
theorem PySem.W.Fast.tw14421157699104766364 : True := trivial
theorem PySem.W.Fast.tw5712618629283056365 : True := trivial
theorem PySem.W.Fast.tw18010589713770980766 : True := trivial
theorem PySem.W.Fast.tw16442530766365121388 : True := trivial
theorem PySem.W.Fast.tw18314142125200948064 : True := trivial
theorem PySem.W.Fast.tw2253121468218404229 : True := trivial
theorem PySem.W.Fast.tw4085057046048871549 : True := trivial
theorem PySem.W.Fast.tw3144024233631311651 : True := trivial
theorem PySem.W.Fast.tw5334085111293276931 : True := trivial
theorem PySem.W.Fast.tw15535023438597970621 : True := trivial
theorem PySem.W.Fast.tw10346470663104091430 : True := trivial
theorem PySem.W.Fast.tw15069605783833513072 : True := trivial
theorem PySem.W.Fast.tw10576986107250687040 : True := trivial
theorem PySem.W.Fast.tw2361062614980560367 : True := trivial
theorem PySem.W.Fast.tw9898997251913629848 : True := trivial
theorem PySem.W.Fast.tw13542642944220417002 : True := trivial
theorem PySem.W.Fast.tw8030061326416865751 : True := trivial
theorem PySem.W.Fast.tw15905130402496391735 : True := trivial
theorem PySem.W.Fast.tw16700093778634478940 : True := trivial
theorem PySem.W.Fast.tw9180829849296391954 : True := trivial
theorem PySem.W.Fast.tw8487234636313980716 : True := trivial
theorem PySem.W.Fast.tw13011219933582893672 : True := trivial
theorem PySem.W.Fast.tw10715791505861432970 : True := trivial
theorem PySem.W.Fast.tw1005233532340756001 : True := trivial
theorem PySem.W.Fast.tw12265482674707466233 : True := trivial
theorem PySem.W.Fast.tw11233101948595103785 : True := trivial
theorem PySem.W.Fast.tw6516468976143858704 : True := trivial
theorem PySem.W.Fast.tw1984855982802677501 : True := trivial
theorem PySem.W.Fast.tw17678228678683875657 : True := trivial
theorem PySem.W.Fast.tw17819291563530557216 : True := trivial
theorem PySem.W.Fast.tw3318196883100901201 : True := trivial
theorem PySem.W.Fast.tw14575853492799384482 : True := trivial
theorem PySem.W.Fast.tw3931849633687385175 : True := trivial
theorem PySem.W.Fast.tw13317648545257511562 : True := trivial
theorem PySem.W.Fast.tw13203473325853225675 : True := trivial
theorem PySem.W.Fast.tw1803839363340648658 : True := trivial
theorem PySem.W.Fast.tw13528914859340629356 : True := trivial
theorem PySem.W.Fast.tw11369606977290098453 : True := trivial
theorem PySem.W.Fast.tw3272770315195112128 : True := trivial
theorem PySem.W.Fast.tw1525359902142941426 : True := trivial
theorem PySem.W.Fast.tw464713625700262553 : True := trivial
theorem PySem.W.Fast.tw17554651983210568128 : True := trivial
theorem PySem.W.Fast.tw15341441610357017791 : True := trivial
theorem PySem.W.Fast.tw11516097249234098579 : True := trivial
theorem PySem.W.Fast.tw16180454914161890089 : True := trivial
theorem PySem.W.Fast.tw7901952758296033144 : True := trivial
theorem PySem.W.Fast.tw16410525137132100659 : True := trivial
theorem PySem.W.Fast.tw14338005698174482034 : True := trivial
theorem PySem.W.Fast.tw11347045128842001152 : True := trivial
theorem PySem.W.Fast.tw5557229950305947003 : True := trivial
theorem PySem.W.Fast.tw7651549697607829525 : True := trivial
theorem PySem.W.Fast.tw7934199926423682884 : True := trivial
theorem PySem.W.Fast.tw486487985132646167 : True := trivial
theorem PySem.W.Fast.tw6210415122448316346 : True := trivial
theorem PySem.W.Fast.tw6334359384388250531 : True := trivial
theorem PySem.W.Fast.tw13232328789324268854 : True := trivial
theorem PySem.W.Fast.tw11510974188169193170 : True := trivial
theorem PySem.W.Fast.tw248591448168822932 : True := trivial
theorem PySem.W.Fast.tw11643972496021153801 : True := trivial
theorem PySem.W.Fast.tw14230699979165644293 : True := trivial
theorem PySem.W.Fast.tw1343224007325326843 : True := trivial
theorem PySem.W.Fast.tw1518920808274416065 : True := trivial
theorem PySem.W.Fast.tw3850554961933929131 : True := trivial
theorem PySem.W.Fast.tw5100427160764315086 : True := trivial
theorem PySem.W.Fast.tw14885313028146111536 : True := trivial
theorem PySem.W.Fast.tw14797527684669938682 : True := trivial
theorem PySem.W.Fast.tw8684448152343160718 : True := trivial
theorem PySem.W.Fast.tw10546876750837029027 : True := trivial
theorem PySem.W.Fast.tw1643395312252864840 : True := trivial
theorem PySem.W.Fast.tw13026908341535694489 : True := trivial
theorem PySem.W.Fast.tw5849735021734538800 : True := trivial
theorem PySem.W.Fast.tw6672230420321142005 : True := trivial
theorem PySem.W.Fast.tw11073984415369777102 : True := trivial
theorem PySem.W.Fast.tw11711130081927688002 : True := trivial
theorem PySem.W.Fast.tw9415849153170343630 : True := trivial
theorem PySem.W.Fast.tw16824240506584837706 : True := trivial
theorem PySem.W.Fast.tw109102167801765059 : True := trivial
theorem PySem.W.Fast.tw8079329034576039179 : True := trivial
theorem PySem.W.Fast.tw8797057163555745020 : True := trivial
theorem PySem.W.Fast.tw1065006933538735682 : True := trivial
theorem PySem.W.Fast.tw17333003989593318306 : True := trivial
theorem PySem.W.Fast.tw2026683560782297404 : True := trivial
theorem PySem.W.Fast.tw1076991709633057284 : True := trivial
theorem PySem.W.Fast.tw6493298609191329807 : True := trivial
theorem PySem.W.Fast.tw11217322389831396635 : True := trivial
theorem PySem.W.Fast.tw3800218761582377416 : True := trivial
theorem PySem.W.Fast.tw12784224489141462244 : True := trivial
theorem PySem.W.Fast.tw5952885810618761867 : True := trivial
theorem PySem.W.Fast.tw7909710865554503495 : True := trivial
theorem PySem.W.Fast.tw14402868874809864686 : True := trivial
theorem PySem.W.Fast.tw8742762978984261603 : True := trivial
theorem PySem.W.Fast.tw12870203508879700775 : True := trivial
theorem PySem.W.Fast.tw9350258506055083678 : True := trivial
theorem PySem.W.Fast.tw986895516472707811 : True := trivial
theorem PySem.W.Fast.tw14377465783134719945 : True := trivial
theorem PySem.W.Fast.tw18105805419996425762 : True := trivial
theorem PySem.W.Fast.tw5923050159758102284 : True := trivial
theorem PySem.W.Fast.tw13430303261843382509 : True := trivial
theorem PySem.W.Fast.tw8163272133568109565 : True := trivial
theorem PySem.W.Fast.tw6713029277319361646 : True := trivial
theorem PySem.W.Fast.tw17837859124752239272 : True := trivial
theorem PySem.W.Fast.tw16187830160744951170 : True := trivial
theorem PySem.W.Fast.tw13734840897128125508 : True := trivial
theorem PySem.W.Fast.tw6580366264281537736 : True := trivial
theorem PySem.W.Fast.tw851428892060885381 : True := trivial
theorem PySem.W.Fast.tw12214243721637300646 : True := trivial
theorem PySem.W.Fast.tw12896175035284754574 : True := trivial
theorem PySem.W.Fast.tw11302640566278749249 : True := trivial
theorem PySem.W.Fast.tw7727518632251108131 : True := trivial
theorem PySem.W.Fast.tw3404243752607799928 : True := trivial
theorem PySem.W.Fast.tw5373983991856193549 : True := trivial
theorem PySem.W.Fast.tw3503219464887575099 : True := trivial
theorem PySem.W.Fast.tw12227849761506976680 : True := trivial
theorem PySem.W.Fast.tw8363069094257268181 : True := trivial
theorem PySem.W.Fast.tw12543840172900660716 : True := trivial
theorem PySem.W.Fast.tw5485318327543651399 : True := trivial
theorem PySem.W.Fast.tw5097887445749114189 : True := trivial
theorem PySem.W.Fast.tw10186907511050997132 : True := trivial
theorem PySem.W.Fast.tw17436172651149080953 : True := trivial
theorem PySem.W.Fast.tw6540985114318308537 : True := trivial
theorem PySem.W.Fast.tw1979685673268033414 : True := trivial
theorem PySem.W.Fast.tw5834729557233031712 : True := trivial
theorem PySem.W.Fast.tw6083903415065808200 : True := trivial
theorem PySem.W.Fast.tw3749211964024132379 : True := trivial
theorem PySem.W.Fast.tw2820752481921388326 : True := trivial
theorem PySem.W.Fast.tw2546839000372843455 : True := trivial
theorem PySem.W.Fast.tw11041743717897006233 : True := trivial
theorem PySem.W.Fast.tw6907548121475029666 : True := trivial
theorem PySem.W.Fast.tw1885826637033018150 : True := trivial
theorem PySem.W.Fast.tw6581286457968193789 : True := trivial
theorem PySem.W.Fast.tw8555169028410357357 : True := trivial
theorem PySem.W.Fast.tw16695728308271746566 : True := trivial
theorem PySem.W.Fast.tw7646469961181975175 : True := trivial
theorem PySem.W.Fast.tw15194505022648130084 : True := trivial
theorem PySem.W.Fast.tw786459164282341590 : True := trivial
theorem PySem.W.Fast.tw15804176674476766953 : True := trivial
theorem PySem.W.Fast.tw13478476954442300806 : True := trivial
theorem PySem.W.Fast.tw12983632028702850733 : True := trivial
theorem PySem.W.Fast.tw17257532981394653480 : True := trivial
theorem PySem.W.Fast.tw7316217356710810972 : True := trivial
theorem PySem.W.Fast.tw175670326874723484 : True := trivial
theorem PySem.W.Fast.tw6335764556993651156 : True := trivial
theorem PySem.W.Fast.tw510456530013574087 : True := trivial
theorem PySem.W.Fast.tw2223481052065397530 : True := trivial
theorem PySem.W.Fast.tw16546168375810098646 : True := trivial
theorem PySem.W.Fast.tw18181518816630828168 : True := trivial
theorem PySem.W.Fast.tw8621712023758339764 : True := trivial
theorem PySem.W.Fast.tw14394780679463397301 : True := trivial
theorem PySem.W.Fast.tw13411955622144049925 : True := trivial
theorem PySem.W.Fast.tw1215162170503935491 : True := trivial
theorem PySem.W.Fast.tw8629158625804799608 : True := trivial
theorem PySem.W.Fast.tw15906413369756773668 : True := trivial
theorem PySem.W.Fast.tw763730758131993671 : True := trivial
theorem PySem.W.Fast.tw6554522522138472289 : True := trivial
theorem PySem.W.Fast.tw15632163277774317970 : True := trivial
theorem PySem.W.Fast.tw18118760040105233203 : True := trivial
theorem PySem.W.Fast.tw11252414065899320015 : True := trivial
theorem PySem.W.Fast.tw11594341895309584186 : True := trivial
theorem PySem.W.Fast.tw16310083310135493331 : True := trivial
theorem PySem.W.Fast.tw5603588414779912795 : True := trivial
theorem PySem.W.Fast.tw3715444405897617469 : True := trivial
theorem PySem.W.Fast.tw15348469591079281304 : True := trivial
theorem PySem.W.Fast.tw9873118406491140474 : True := trivial
theorem PySem.W.Fast.tw16654281169005855448 : True := trivial
theorem PySem.W.Fast.tw12045630597549356116 : True := trivial
theorem PySem.W.Fast.tw9706593652148149139 : True := trivial
theorem PySem.W.Fast.tw16756149292906254727 : True := trivial
theorem PySem.W.Fast.tw13635711052126406981 : True := trivial
theorem PySem.W.Fast.tw17572419544057511379 : True := trivial
theorem PySem.W.Fast.tw18347885112991128595 : True := trivial
theorem PySem.W.Fast.tw13002306995217127270 : True := trivial
theorem PySem.W.Fast.tw2849127789784611744 : True := trivial
theorem PySem.W.Fast.tw2920789917310497592 : True := trivial
theorem PySem.W.Fast.tw13829494028524473527 : True := trivial
theorem PySem.W.Fast.tw6938962271280430011 : True := trivial
theorem PySem.W.Fast.tw13770268022245199059 : True := trivial
theorem PySem.W.Fast.tw10785908872075676098 : True := trivial
theorem PySem.W.Fast.tw13445196141076876314 : True := trivial
theorem PySem.W.Fast.tw13324997160757146630 : True := trivial
theorem PySem.W.Fast.tw2472265473555002878 : True := trivial
theorem PySem.W.Fast.tw10346021287308213073 : True := trivial
theorem PySem.W.Fast.tw4459250907754508031 : True := trivial
theorem PySem.W.Fast.tw7485769522182423495 : True := trivial
theorem PySem.W.Fast.tw557055671400545298 : True := trivial
theorem PySem.W.Fast.tw9466915427204974737 : True := trivial
theorem PySem.W.Fast.tw5895980261702858114 : True := trivial
theorem PySem.W.Fast.tw1545186897710929121 : True := trivial
theorem PySem.W.Fast.tw2963582402213102248 : True := trivial
theorem PySem.W.Fast.tw7211463550512220654 : True := trivial
theorem PySem.W.Fast.tw12620082053703626650 : True := trivial
theorem PySem.W.Fast.tw14844101300875331737 : True := trivial
theorem PySem.W.Fast.tw5266028872312132903 : True := trivial
theorem PySem.W.Fast.tw3914402538446611349 : True := trivial
theorem PySem.W.Fast.tw8181123295545026526 : True := trivial
theorem PySem.W.Fast.tw2695821269114169439 : True := trivial
theorem PySem.W.Fast.tw2657912405218116066 : True := trivial
theorem PySem.W.Fast.tw1645762557025974475 : True := trivial
theorem PySem.W.Fast.tw9929803688444166476 : True := trivial
theorem PySem.W.Fast.tw15355305609040325808 : True := trivial
theorem PySem.W.Fast.tw15191018602259787497 : True := trivial
theorem PySem.W.Fast.tw3061857706779303503 : True := trivial
theorem PySem.W.Fast.tw5219549565030483981 : True := trivial
theorem PySem.W.Fast.tw5851883052209684758 : True := trivial
theorem PySem.W.Fast.tw7350540671447568683 : True := trivial
theorem PySem.W.Fast.tw16774498470234792782 : True := trivial
theorem PySem.W.Fast.tw9912027247332133542 : True := trivial
theorem PySem.W.Fast.tw7657539588874710456 : True := trivial
theorem PySem.W.Fast.tw5408221466632617153 : True := trivial
theorem PySem.W.Fast.tw6267586989728072041 : True := trivial
theorem PySem.W.Fast.tw6828302920263997555 : True := trivial
theorem PySem.W.Fast.tw16389511075879763512 : True := trivial
theorem PySem.W.Fast.tw13236433852933885495 : True := trivial
theorem PySem.W.Fast.tw15561948409300631698 : True := trivial
theorem PySem.W.Fast.tw2873816831304253415 : True := trivial
theorem PySem.W.Fast.tw3770748457611179137 : True := trivial
theorem PySem.W.Fast.tw6658386264852314870 : True := trivial
theorem PySem.W.Fast.tw2565339547552720663 : True := trivial
theorem PySem.W.Fast.tw17290168440788439050 : True := trivial
theorem PySem.W.Fast.tw17529102996465535369 : True := trivial
theorem PySem.W.Fast.tw6396343812645731536 : True := trivial
theorem PySem.W.Fast.tw11456219158996432738 : True := trivial
theorem PySem.W.Fast.tw12021423613903877332 : True := trivial
theorem PySem.W.Fast.tw14123728165666051923 : True := trivial
theorem PySem.W.Fast.tw4831823822206959453 : True := trivial
theorem PySem.W.Fast.tw16379844547746233698 : True := trivial
theorem PySem.W.Fast.tw11742181017157340189 : True := trivial
theorem PySem.W.Fast.tw4107205679068161999 : True := trivial
theorem PySem.W.Fast.tw9195893987612255046 : True := trivial
theorem PySem.W.Fast.tw18181235009834954743 : True := trivial
theorem PySem.W.Fast.tw12571273620617576917 : True := trivial
theorem PySem.W.Fast.tw14859859737785880083 : True := trivial
theorem PySem.W.Fast.tw3019589159999417819 : True := trivial
theorem PySem.W.Fast.tw4823848454798312851 : True := trivial
theorem PySem.W.Fast.tw3757381268024801053 : True := trivial
theorem PySem.W.Fast.tw8416034932815548115 : True := trivial
theorem PySem.W.Fast.tw16937174750627313871 : True := trivial
theorem PySem.W.Fast.tw15646437196056704242 : True := trivial
theorem PySem.W.Fast.tw1529976587980436587 : True := trivial
theorem PySem.W.Fast.tw14297345895001922637 : True := trivial
theorem PySem.W.Fast.tw12421057178951428010 : True := trivial
theorem PySem.W.Fast.tw5775851033299039001 : True := trivial
theorem PySem.W.Fast.tw11665525478457043156 : True := trivial
theorem PySem.W.Fast.tw3402850151729843947 : True := trivial
theorem PySem.W.Fast.tw8939840130487727184 : True := trivial
theorem PySem.W.Fast.tw3753007315548148049 : True := trivial
theorem PySem.W.Fast.tw8935901084776505150 : True := trivial
theorem PySem.W.Fast.tw9217045450351688511 : True := trivial
theorem PySem.W.Fast.tw2970925541046163434 : True := trivial
theorem PySem.W.Fast.tw8619762417492080367 : True := trivial
theorem PySem.W.Fast.tw2943987325629188087 : True := trivial
theorem PySem.W.Fast.tw1670162727005760971 : True := trivial
theorem PySem.W.Fast.tw15646146740765770691 : True := trivial
theorem PySem.W.Fast.tw6753959587862120330 : True := trivial
theorem PySem.W.Fast.tw9070061945513382669 : True := trivial
theorem PySem.W.Fast.tw3220263053386868518 : True := trivial
theorem PySem.W.Fast.tw10330343262906224892 : True := trivial
theorem PySem.W.Fast.tw6332095621658044243 : True := trivial
theorem PySem.W.Fast.tw12297998074217869756 : True := trivial
theorem PySem.W.Fast.tw7199964382388266259 : True := trivial
theorem PySem.W.Fast.tw12797863333447286292 : True := trivial
theorem PySem.W.Fast.tw4845901360137685320 : True := trivial
theorem PySem.W.Fast.tw14011375083153686731 : True := trivial
theorem PySem.W.Fast.tw5604361359166829552 : True := trivial
theorem PySem.W.Fast.tw3258000961005867214 : True := trivial
theorem PySem.W.Fast.tw12940621113946898166 : True := trivial
theorem PySem.W.Fast.tw10808742370090600608 : True := trivial
theorem PySem.W.Fast.tw7542424190851193714 : True := trivial
theorem PySem.W.Fast.tw14556037142952116478 : True := trivial
theorem PySem.W.Fast.tw14788925561669997495 : True := trivial
theorem PySem.W.Fast.tw15745071917701095106 : True := trivial
theorem PySem.W.Fast.tw288708101947889052 : True := trivial
theorem PySem.W.Fast.tw14892427842758820771 : True := trivial
theorem PySem.W.Fast.tw1713240882238362542 : True := trivial
theorem PySem.W.Fast.tw3809179963451271867 : True := trivial
theorem PySem.W.Fast.tw4778652614503101850 : True := trivial
theorem PySem.W.Fast.tw1876146427159438465 : True := trivial
theorem PySem.W.Fast.tw4879728756625767277 : True := trivial
theorem PySem.W.Fast.tw12617425898101927684 : True := trivial
theorem PySem.W.Fast.tw10054563236438212618 : True := trivial
theorem PySem.W.Fast.tw875671533523826640 : True := trivial
theorem PySem.W.Fast.tw14930680882011580929 : True := trivial
theorem PySem.W.Fast.tw14097420048983781542 : True := trivial
theorem PySem.W.Fast.tw1632129892197980627 : True := trivial
theorem PySem.W.Fast.tw9655949257069612694 : True := trivial
theorem PySem.W.Fast.tw15052164761946666609 : True := trivial
theorem PySem.W.Fast.tw11612171737288760663 : True := trivial
theorem PySem.W.Fast.tw16492443993588120218 : True := trivial
theorem PySem.W.Fast.tw18156262692508871139 : True := trivial
theorem PySem.W.Fast.tw10364885106170911426 : True := trivial
theorem PySem.W.Fast.tw9297003033588941043 : True := trivial
theorem PySem.W.Fast.tw7405509577162393989 : True := trivial
theorem PySem.W.Fast.tw9099658608156671474 : True := trivial
theorem PySem.W.Fast.tw1619989927036670823 : True := trivial
theorem PySem.W.Fast.tw13741086289199165317 : True := trivial
theorem PySem.W.Fast.tw8587133714288372798 : True := trivial
theorem PySem.W.Fast.tw7426268542297091 : True := trivial
theorem PySem.W.Fast.tw16019465577266684475 : True := trivial
theorem PySem.W.Fast.tw11204363894819948184 : True := trivial
theorem PySem.W.Fast.tw143035274332483297 : True := trivial
theorem PySem.W.Fast.tw2413328996359352248 : True := trivial
theorem PySem.W.Fast.tw3418529957005355734 : True := trivial
theorem PySem.W.Fast.tw15229458519765063428 : True := trivial
theorem PySem.W.Fast.tw11167092984724667530 : True := trivial
theorem PySem.W.Fast.tw791150449975939923 : True := trivial
theorem PySem.W.Fast.tw9542233423993060440 : True := trivial
theorem PySem.W.Fast.tw17759982130502934499 : True := trivial
theorem PySem.W.Fast.tw8181083360432294660 : True := trivial
theorem PySem.W.Fast.tw4772865411886865645 : True := trivial
theorem PySem.W.Fast.tw6406141919949858740 : True := trivial
theorem PySem.W.Fast.tw15468688749354368171 : True := trivial
theorem PySem.W.Fast.tw8561669455404183254 : True := trivial
theorem PySem.W.Fast.tw2705201259311205417 : True := trivial
theorem PySem.W.Fast.tw2147698154008252074 : True := trivial
theorem PySem.W.Fast.tw6048481448613021756 : True := trivial
theorem PySem.W.Fast.tw4831978606863850080 : True := trivial
theorem PySem.W.Fast.tw5086909774405290574 : True := trivial
theorem PySem.W.Fast.tw74530991601738996 : True := trivial
theorem PySem.W.Fast.tw15610300310692081011 : True := trivial
theorem PySem.W.Fast.tw5988761588120581487 : True := trivial
theorem PySem.W.Fast.tw5143244504395652636 : True := trivial
theorem PySem.W.Fast.tw14031329415800274258 : True := trivial
theorem PySem.W.Fast.tw5485218711798850278 : True := trivial
theorem PySem.W.Fast.tw11468241847366617218 : True := trivial
theorem PySem.W.Fast.tw9714470794633876242 : True := trivial
theorem PySem.W.Fast.tw477601986457844891 : True := trivial
theorem PySem.W.Fast.tw2845370625728892853 : True := trivial
theorem PySem.W.Fast.tw15485299805752603592 : True := trivial
theorem PySem.W.Fast.tw1961558915678380313 : True := trivial
theorem PySem.W.Fast.tw5921378708403943281 : True := trivial
theorem PySem.W.Fast.tw6538604720003289866 : True := trivial
theorem PySem.W.Fast.tw13614272275224884441 : True := trivial
theorem PySem.W.Fast.tw15386535047579809856 : True := trivial
theorem PySem.W.Fast.tw13288516208870806810 : True := trivial
theorem PySem.W.Fast.tw10871137024257067338 : True := trivial
theorem PySem.W.Fast.tw12744221646323596024 : True := trivial
theorem PySem.W.Fast.tw817139275577694393 : True := trivial
theorem PySem.W.Fast.tw2457784017234952247 : True := trivial
theorem PySem.W.Fast.tw9380630129411508035 : True := trivial
theorem PySem.W.Fast.tw6077039596422344019 : True := trivial
theorem PySem.W.Fast.tw11641106857556661648 : True := trivial
theorem PySem.W.Fast.tw10801280246159259434 : True := trivial
theorem PySem.W.Fast.tw11635790336604151587 : True := trivial
theorem PySem.W.Fast.tw15213801949215564328 : True := trivial
theorem PySem.W.Fast.tw17764824542965404406 : True := trivial
theorem PySem.W.Fast.tw9025074556639704894 : True := trivial
theorem PySem.W.Fast.tw9540869377823575836 : True := trivial
theorem PySem.W.Fast.tw16841947978670769882 : True := trivial
theorem PySem.W.Fast.tw16507958127337933623 : True := trivial
theorem PySem.W.Fast.tw6165292283966634646 : True := trivial
theorem PySem.W.Fast.tw8860901991695224945 : True := trivial
theorem PySem.W.Fast.tw9540500509491757118 : True := trivial
theorem PySem.W.Fast.tw15951104847459579584 : True := trivial
theorem PySem.W.Fast.tw15965794624778455381 : True := trivial
theorem PySem.W.Fast.tw5432938810949182493 : True := trivial
theorem PySem.W.Fast.tw11017658082059896963 : True := trivial
theorem PySem.W.Fast.tw3330321336668049196 : True := trivial
theorem PySem.W.Fast.tw7490542201684347458 : True := trivial
theorem PySem.W.Fast.tw10504631424637424370 : True := trivial
theorem PySem.W.Fast.tw5516047670059818975 : True := trivial
theorem PySem.W.Fast.tw2754976529198137303 : True := trivial
theorem PySem.W.Fast.tw9681282820043850013 : True := trivial
theorem PySem.W.Fast.tw6748518556073508318 : True := trivial
theorem PySem.W.Fast.tw17212142409295552820 : True := trivial
theorem PySem.W.Fast.tw9726225980906941408 : True := trivial
theorem PySem.W.Fast.tw3176852654063617217 : True := trivial
theorem PySem.W.Fast.tw16102105205456851695 : True := trivial
theorem PySem.W.Fast.tw7266633126665152013 : True := trivial
theorem PySem.W.Fast.tw6719839280863650214 : True := trivial
theorem PySem.W.Fast.tw17044494378240534955 : True := trivial
theorem PySem.W.Fast.tw2024325605623379207 : True := trivial
theorem PySem.W.Fast.tw1656855199617700563 : True := trivial
theorem PySem.W.Fast.tw595790881720208805 : True := trivial
theorem PySem.W.Fast.tw2727879655738220557 : True := trivial
theorem PySem.W.Fast.tw4014410866440923075 : True := trivial
theorem PySem.W.Fast.tw2670244261373996043 : True := trivial
theorem PySem.W.Fast.tw15576791601199697228 : True := trivial
theorem PySem.W.Fast.tw15008690271451908531 : True := trivial
theorem PySem.W.Fast.tw9640979251173190349 : True := trivial
theorem PySem.W.Fast.tw1178154404046491324 : True := trivial
theorem PySem.W.Fast.tw3666719529710890868 : True := trivial
theorem PySem.W.Fast.tw9748185411659357041 : True := trivial
theorem PySem.W.Fast.tw749966351696344747 : True := trivial
theorem PySem.W.Fast.tw1298674150373766213 : True := trivial
theorem PySem.W.Fast.tw6695992632545701618 : True := trivial
theorem PySem.W.Fast.tw13523139841671642564 : True := trivial
theorem PySem.W.Fast.tw8646608423799492022 : True := trivial
theorem PySem.W.Fast.tw101273576122783625 : True := trivial
theorem PySem.W.Fast.tw15391464353318797562 : True := trivial
theorem PySem.W.Fast.tw5346314275877745380 : True := trivial
theorem PySem.W.Fast.tw12380026946141926693 : True := trivial
theorem PySem.W.Fast.tw734617118377164315 : True := trivial
theorem PySem.W.Fast.tw12211795907620240581 : True := trivial
theorem PySem.W.Fast.tw6584463212821510978 : True := trivial
theorem PySem.W.Fast.tw11956873478145829314 : True := trivial
theorem PySem.W.Fast.tw1934864252674251882 : True := trivial
theorem PySem.W.Fast.tw8304262631995883956 : True := trivial
theorem PySem.W.Fast.tw2910111312720184742 : True := trivial
theorem PySem.W.Fast.tw14092163022420529047 : True := trivial
theorem PySem.W.Fast.tw6850028505856500393 : True := trivial
theorem PySem.W.Fast.tw9353333151004663756 : True := trivial
theorem PySem.W.Fast.tw17686271805403612372 : True := trivial
theorem PySem.W.Fast.tw9985808229605370530 : True := trivial
theorem PySem.W.Fast.tw1234288187861603046 : True := trivial
theorem PySem.W.Fast.tw3376362100115671902 : True := trivial
theorem PySem.W.Fast.tw688764166217921373 : True := trivial
theorem PySem.W.Fast.tw10663593895289597913 : True := trivial
theorem PySem.W.Fast.tw15445466592595324566 : True := trivial
theorem PySem.W.Fast.tw16616482553773579945 : True := trivial
theorem PySem.W.Fast.tw15596509954862093259 : True := trivial
theorem PySem.W.Fast.tw6787381779837593102 : True := trivial
theorem PySem.W.Fast.tw15695410581512762534 : True := trivial
theorem PySem.W.Fast.tw12744085975599379034 : True := trivial
theorem PySem.W.Fast.tw10066430833189715204 : True := trivial
theorem PySem.W.Fast.tw8864875937313464190 : True := trivial
theorem PySem.W.Fast.tw16475537844960026975 : True := trivial
theorem PySem.W.Fast.tw16873204470430983893 : True := trivial
theorem PySem.W.Fast.tw2129931654682162159 : True := trivial
theorem PySem.W.Fast.tw2518520636129178704 : True := trivial
theorem PySem.W.Fast.tw10434183760336704767 : True := trivial
theorem PySem.W.Fast.tw14591250749292787168 : True := trivial
theorem PySem.W.Fast.tw2115075504827554529 : True := trivial
theorem PySem.W.Fast.tw15181079066117438801 : True := trivial
theorem PySem.W.Fast.tw1407994091705237270 : True := trivial
theorem PySem.W.Fast.tw17120952782619297297 : True := trivial
theorem PySem.W.Fast.tw13060162037904406123 : True := trivial
theorem PySem.W.Fast.tw6379713069979261487 : True := trivial
theorem PySem.W.Fast.tw2083960147933294107 : True := trivial
theorem PySem.W.Fast.tw3885417564575595670 : True := trivial
theorem PySem.W.Fast.tw8282219876786136933 : True := trivial
theorem PySem.W.Fast.tw6920092161904159567 : True := trivial
theorem PySem.W.Fast.tw687164380879354075 : True := trivial
theorem PySem.W.Fast.tw12861491791747257328 : True := trivial
theorem PySem.W.Fast.tw16571375144389861427 : True := trivial
theorem PySem.W.Fast.tw10342347253136632598 : True := trivial
theorem PySem.W.Fast.tw1860257608928817874 : True := trivial
theorem PySem.W.Fast.tw18033856063276275452 : True := trivial
theorem PySem.W.Fast.tw3268467629173576202 : True := trivial
theorem PySem.W.Fast.tw10883939696478694567 : True := trivial
theorem PySem.W.Fast.tw4859154981585434746 : True := trivial
theorem PySem.W.Fast.tw503472879785481968 : True := trivial
theorem PySem.W.Fast.tw12219095408287306829 : True := trivial
theorem PySem.W.Fast.tw12796546704275067091 : True := trivial
theorem PySem.W.Fast.tw8942141956930990791 : True := trivial
theorem PySem.W.Fast.tw12716015198594408738 : True := trivial
theorem PySem.W.Fast.tw3369334077735773973 : True := trivial
theorem PySem.W.Fast.tw1005105225608932572 : True := trivial
theorem PySem.W.Fast.tw16638516604545233290 : True := trivial
theorem PySem.W.Fast.tw76057127348636211 : True := trivial
theorem PySem.W.Fast.tw17828185839308085643 : True := trivial
theorem PySem.W.Fast.tw17228347002387823005 : True := trivial
theorem PySem.W.Fast.tw4167331382286030474 : True := trivial
theorem PySem.W.Fast.tw6957722330550149520 : True := trivial
theorem PySem.W.Fast.tw2722304803107332004 : True := trivial
theorem PySem.W.Fast.tw6374543509183051803 : True := trivial
theorem PySem.W.Fast.tw4514034243889434839 : True := trivial
theorem PySem.W.Fast.tw1349849524883800897 : True := trivial
theorem PySem.W.Fast.tw1466291985958373135 : True := trivial
theorem PySem.W.Fast.tw6741324024284223702 : True := trivial
theorem PySem.W.Fast.tw7765318405888203847 : True := trivial
theorem PySem.W.Fast.tw2323055644783343193 : True := trivial
theorem PySem.W.Fast.tw942764731841302925 : True := trivial
theorem PySem.W.Fast.tw2413977348773370517 : True := trivial
theorem PySem.W.Fast.tw17543010541104140649 : True := trivial
theorem PySem.W.Fast.tw612044560415303412 : True := trivial
theorem PySem.W.Fast.tw12560193284890747361 : True := trivial
theorem PySem.W.Fast.tw4849438096341764520 : True := trivial
theorem PySem.W.Fast.tw1981810666543828904 : True := trivial
theorem PySem.W.Fast.tw7872378715858305747 : True := trivial
theorem PySem.W.Fast.tw4428648305825706298 : True := trivial
theorem PySem.W.Fast.tw13340431397801281013 : True := trivial
theorem PySem.W.Fast.tw3807729210674079189 : True := trivial
theorem PySem.W.Fast.tw14752645410675382107 : True := trivial
theorem PySem.W.Fast.tw1178260635569852470 : True := trivial
theorem PySem.W.Fast.tw17911169408587118243 : True := trivial
theorem PySem.W.Fast.tw5063841795254438309 : True := trivial
theorem PySem.W.Fast.tw4281241831435649199 : True := trivial
theorem PySem.W.Fast.tw10918772985823701839 : True := trivial
theorem PySem.W.Fast.tw377449156019919328 : True := trivial
theorem PySem.W.Fast.tw6869976362827654868 : True := trivial
theorem PySem.W.Fast.tw15251556713044191748 : True := trivial
theorem PySem.W.Fast.tw16966426096151049592 : True := trivial
theorem PySem.W.Fast.tw1858790855367863159 : True := trivial
theorem PySem.W.Fast.tw1456505378987871842 : True := trivial
theorem PySem.W.Fast.tw14810579471713219936 : True := trivial
theorem PySem.W.Fast.tw17192673337887380983 : True := trivial
theorem PySem.W.Fast.tw2094655105514901824 : True := trivial
theorem PySem.W.Fast.tw15542375489691746222 : True := trivial
theorem PySem.W.Fast.tw9857499848272352832 : True := trivial
theorem PySem.W.Fast.tw13273416581733713512 : True := trivial
theorem PySem.W.Fast.tw4871299052280916145 : True := trivial
theorem PySem.W.Fast.tw7521074822977574476 : True := trivial
theorem PySem.W.Fast.tw6578776384028737271 : True := trivial
theorem PySem.W.Fast.tw5373685279367457972 : True := trivial
theorem PySem.W.Fast.tw142028868115611257 : True := trivial
theorem PySem.W.Fast.tw12088700060271248669 : True := trivial
theorem PySem.W.Fast.tw13464847755668683342 : True := trivial
theorem PySem.W.Fast.tw17344054582934677235 : True := trivial
theorem PySem.W.Fast.tw767953512268892056 : True := trivial
theorem PySem.W.Fast.tw4075936912398918421 : True := trivial
theorem PySem.W.Fast.tw9418746050609991245 : True := trivial
theorem PySem.W.Fast.tw5233442785803259907 : True := trivial
theorem PySem.W.Fast.tw5881321666319326487 : True := trivial
theorem PySem.W.Fast.tw10650173164658986924 : True := trivial
theorem PySem.W.Fast.tw523811212914052061 : True := trivial
theorem PySem.W.Fast.tw3821025130339610182 : True := trivial
theorem PySem.W.Fast.tw9149450159703988648 : True := trivial
theorem PySem.W.Fast.tw3689298765569590276 : True := trivial
theorem PySem.W.Fast.tw16432493428940889913 : True := trivial
theorem PySem.W.Fast.tw9692019485418870400 : True := trivial
theorem PySem.W.Fast.tw7160403759231489822 : True := trivial
theorem PySem.W.Fast.tw4075181405459845846 : True := trivial
theorem PySem.W.Fast.tw2291149023912280896 : True := trivial
theorem PySem.W.Fast.tw5022690278785207146 : True := trivial
theorem PySem.W.Fast.tw862202077508806744 : True := trivial
theorem PySem.W.Fast.tw2405886803731143957 : True := trivial
theorem PySem.W.Fast.tw1533357073924055222 : True := trivial
theorem PySem.W.Fast.tw17822027601554305635 : True := trivial
theorem PySem.W.Fast.tw10399019693656971544 : True := trivial
theorem PySem.W.Fast.tw15942803425139711090 : True := trivial
theorem PySem.W.Fast.tw7195050953267989078 : True := trivial
theorem PySem.W.Fast.tw7691651011883774142 : True := trivial
theorem PySem.W.Fast.tw13405303234618376159 : True := trivial
theorem PySem.W.Fast.tw6414346807299700466 : True := trivial
theorem PySem.W.Fast.tw9215562992657343175 : True := trivial
theorem PySem.W.Fast.tw1376220625648799419 : True := trivial
theorem PySem.W.Fast.tw8680843927930244527 : True := trivial
theorem PySem.W.Fast.tw3840396590105656694 : True := trivial
theorem PySem.W.Fast.tw15349329803836858922 : True := trivial
theorem PySem.W.Fast.tw5349574547747808236 : True := trivial
theorem PySem.W.Fast.tw11561708535923162450 : True := trivial
theorem PySem.W.Fast.tw9096714719682551545 : True := trivial
theorem PySem.W.Fast.tw17776106565012934456 : True := trivial
theorem PySem.W.Fast.tw6923499188546637624 : True := trivial
theorem PySem.W.Fast.tw15933478308321647471 : True := trivial
theorem PySem.W.Fast.tw7896959256234139053 : True := trivial
theorem PySem.W.Fast.tw6161947992200202721 : True := trivial
theorem PySem.W.Fast.tw11750170728397523509 : True := trivial
theorem PySem.W.Fast.tw5546133458815140797 : True := trivial
theorem PySem.W.Fast.tw14540564726594634169 : True := trivial
theorem PySem.W.Fast.tw16627761509390592667 : True := trivial
theorem PySem.W.Fast.tw11692664852500252050 : True := trivial
theorem PySem.W.Fast.tw11692615893578275531 : True := trivial
theorem PySem.W.Fast.tw17706239562674567127 : True := trivial
theorem PySem.W.Fast.tw6199793825116512936 : True := trivial
theorem PySem.W.Fast.tw7123184736133383015 : True := trivial
theorem PySem.W.Fast.tw11077233622787950451 : True := trivial
theorem PySem.W.Fast.tw10597048063204057573 : True := trivial
theorem PySem.W.Fast.tw9367996308730164452 : True := trivial
theorem PySem.W.Fast.tw9197747648518578428 : True := trivial
theorem PySem.W.Fast.tw15148250108901645982 : True := trivial
theorem PySem.W.Fast.tw11218780605921035280 : True := trivial
theorem PySem.W.Fast.tw12007673954211201936 : True := trivial
theorem PySem.W.Fast.tw10851725433422611740 : True := trivial
theorem PySem.W.Fast.tw9475391856771043345 : True := trivial
theorem PySem.W.Fast.tw2400743288339926639 : True := trivial
theorem PySem.W.Fast.tw7602292610710544964 : True := trivial
theorem PySem.W.Fast.tw774053181052637605 : True := trivial
theorem PySem.W.Fast.tw5690330612105493644 : True := trivial
theorem PySem.W.Fast.tw4072086064103066899 : True := trivial
theorem PySem.W.Fast.tw9280896784249501770 : True := trivial
theorem PySem.W.Fast.tw2121650547437526475 : True := trivial
theorem PySem.W.Fast.tw17684049713812938816 : True := trivial
theorem PySem.W.Fast.tw10511470976568604291 : True := trivial
theorem PySem.W.Fast.tw9308517480146581325 : True := trivial
theorem PySem.W.Fast.tw13338097530947253474 : True := trivial
theorem PySem.W.Fast.tw3425052180905030210 : True := trivial
theorem PySem.W.Fast.tw6310167226247565482 : True := trivial
theorem PySem.W.Fast.tw6646257190820409844 : True := trivial
theorem PySem.W.Fast.tw12805742430928874576 : True := trivial
theorem PySem.W.Fast.tw8622183569841284269 : True := trivial
theorem PySem.W.Fast.tw11027119781080340301 : True := trivial
theorem PySem.W.Fast.tw17240289652441246213 : True := trivial
theorem PySem.W.Fast.tw14582315827942588538 : True := trivial
theorem PySem.W.Fast.tw14811883008474637042 : True := trivial
theorem PySem.W.Fast.tw9024647310829717196 : True := trivial
theorem PySem.W.Fast.tw13351039899290854899 : True := trivial
theorem PySem.W.Fast.tw14619511495305478877 : True := trivial
theorem PySem.W.Fast.tw3779305871243022550 : True := trivial
theorem PySem.W.Fast.tw8822795267830370054 : True := trivial
theorem PySem.W.Fast.tw15238291214228472033 : True := trivial
theorem PySem.W.Fast.tw9551824321300514089 : True := trivial
theorem PySem.W.Fast.tw3820525472040976541 : True := trivial
theorem PySem.W.Fast.tw7788497412747623589 : True := trivial
theorem PySem.W.Fast.tw12609191531533366477 : True := trivial
theorem PySem.W.Fast.tw16678720871727722648 : True := trivial
theorem PySem.W.Fast.tw15259336531092787918 : True := trivial
theorem PySem.W.Fast.tw15890105115901945666 : True := trivial
theorem PySem.W.Fast.tw3055103785908629980 : True := trivial
theorem PySem.W.Fast.tw675153713302942325 : True := trivial
theorem PySem.W.Fast.tw3056732608014420719 : True := trivial
theorem PySem.W.Fast.tw6357137643925898940 : True := trivial
theorem PySem.W.Fast.tw12940750112655098036 : True := trivial
theorem PySem.W.Fast.tw17399734282002978213 : True := trivial
theorem PySem.W.Fast.tw8723723032482089281 : True := trivial
theorem PySem.W.Fast.tw246583450648171468 : True := trivial
theorem PySem.W.Fast.tw9705950129041244264 : True := trivial
theorem PySem.W.Fast.tw17239635029352048892 : True := trivial
theorem PySem.W.Fast.tw1217198633438314639 : True := trivial
theorem PySem.W.Fast.tw147119480127428387 : True := trivial
theorem PySem.W.Fast.tw17040683814247656128 : True := trivial
theorem PySem.W.Fast.tw1898900199689584626 : True := trivial
theorem PySem.W.Fast.tw16460956467032457909 : True := trivial
theorem PySem.W.Fast.tw5921084244909665188 : True := trivial
theorem PySem.W.Fast.tw15105222279000956782 : True := trivial
theorem PySem.W.Fast.tw774691717940636368 : True := trivial
theorem PySem.W.Fast.tw12417737947245488450 : True := trivial
theorem PySem.W.Fast.tw8849271924847576314 : True := trivial
theorem PySem.W.Fast.tw302084566260153338 : True := trivial
theorem PySem.W.Fast.tw6956813527863542447 : True := trivial
theorem PySem.W.Fast.tw4034021446837416372 : True := trivial
theorem PySem.W.Fast.tw5489194131594951436 : True := trivial
set_option maxRecDepth 100000 in
set_option maxHeartbeats 0 in
theorem PySem.Challenge.cw_asofhall_k72_closes_taken_back_holds : PySem.Challenge.rw_asofhall_k72_closes_taken_back.Holds := by
  w_on; o_law; k_head; (case hw => w_witness2)
  k_fill
  refine Ash.walk (l := PySem.Challenge.rw_asofhall_k72_closes_taken_back) rfl rfl (fun w h Y => PySem.W.kIn_of Y) ?F
  case F =>
    intro w mg fa h KX G hmg
    refine' Ash.all_mk KX G hmg ?law0 ?law1 ?law2 ?law3
      { len := (PySem.W.mg_none_of KX G ?h_B_len), int := (PySem.W.mg_none_of KX G ?h_B_int), bool := (PySem.W.mg_none_of KX G ?h_B_bool), str := (PySem.W.mg_none_of KX G ?h_B_str), list := (PySem.W.mg_none_of KX G ?h_B_list), tuple := (PySem.W.mg_none_of KX G ?h_B_tuple), dict := (PySem.W.mg_none_of KX G ?h_B_dict), isinstance := (PySem.W.mg_none_of KX G ?h_B_isinstance), all := (PySem.W.mg_none_of KX G ?h_B_all), range := (PySem.W.mg_none_of KX G ?h_B_range), enumerate := (PySem.W.mg_none_of KX G ?h_B_enumerate), sorted := (PySem.W.mg_none_of KX G ?h_B_sorted), min := (PySem.W.mg_none_of KX G ?h_B_min), max := (PySem.W.mg_none_of KX G ?h_B_max), set := (PySem.W.mg_none_of KX G ?h_B_set) }
      ⟨(Ash.ex_str KX G ?h_Cs_0), (Ash.ex_int KX G ?h_Cs_1), (Ash.ex_int KX G ?h_Cs_2), (Ash.ex_int KX G ?h_Cs_3), (Ash.ex_int KX G ?h_Cs_4)⟩
      ⟨⟨?h_TB_0_0, ?h_TB_0_1, ?h_TB_0_2, ?h_TB_0_3⟩, ?h_TB_1, (PySem.W.mg_of KX G ?h_TB_2)⟩
      ⟨⟨?h_T_0_0, ?h_T_0_1, ?h_T_0_2, ?h_T_0_3⟩, ?h_T_1, ?h_T_2, ?h_T_3, (PySem.W.mg_of KX G ?h_T_4)⟩
      ⟨(PySem.W.mg_of KX G ?h_Tt_0), (Ash.tt_mk ?h_Tt_1_0)⟩
      (PySem.W.mg_of KX G ?h_cE)
      (Ash.txt_mk KX G ?h_TE_0 ?h_TE_1 ?h_TE_2 ?h_TE_3 ?h_TE_4 ?h_TE_5 ?h_TE_6 ?h_TE_7 ?h_TE_8 ?h_TE_9 ?h_TE_10 ?h_TE_11 ?h_TE_12 ?h_TE_13 ?h_TE_14 ?h_TE_15 ?h_TE_16 ?h_TE_17 ?h_TE_18 ?h_TE_19 ?h_TE_20 ?h_TE_21 ?h_TE_22 ?h_TE_23 ?h_TE_24 ?h_TE_25 ?h_TE_26 ?h_TE_27 ?h_TE_28 ?h_TE_29)
      ⟨?h_bi_0, ?h_bi_1, ?h_bi_2, ?h_bi_3⟩
      ⟨?h_ji_0, ?h_ji_1, ?h_ji_2, ?h_ji_3⟩
      ?h_mkB
      ?h_kB
      ⟨(Ash.ex_int KX G ?h_C2_0)⟩
      ⟨(PySem.W.mg_none_of KX G ?h_C3_0)⟩
      ⟨⟨?h_TO_0_0, ?h_TO_0_1, ?h_TO_0_2, ?h_TO_0_3⟩, ?h_TO_1, ?h_TO_2, ?h_TO_3, ?h_TO_4, ?h_TO_5, ?h_TO_6, (PySem.W.mg_of KX G ?h_TO_7)⟩
      ⟨⟨?h_TD_0_0, ?h_TD_0_1, ?h_TD_0_2, ?h_TD_0_3⟩, ?h_TD_1, ?h_TD_2, (PySem.W.mg_of KX G ?h_TD_3)⟩
      (PySem.W.mg_of KX G ?h_cI)
      (PySem.W.mg_of KX G ?h_cY)
      (PySem.W.mg_of KX G ?h_cS)
      (PySem.W.mg_of KX G ?h_cM)
      (PySem.W.mg_of KX G ?h_cN)
      (PySem.W.mg_of KX G ?h_cT)
      (Ash.txt_mk KX G ?h_TI_0 ?h_TI_1 ?h_TI_2 ?h_TI_3 ?h_TI_4 ?h_TI_5 ?h_TI_6 ?h_TI_7 ?h_TI_8 ?h_TI_9 ?h_TI_10 ?h_TI_11 ?h_TI_12 ?h_TI_13 ?h_TI_14 ?h_TI_15 ?h_TI_16 ?h_TI_17 ?h_TI_18 ?h_TI_19 ?h_TI_20 ?h_TI_21 ?h_TI_22 ?h_TI_23 ?h_TI_24 ?h_TI_25 ?h_TI_26 ?h_TI_27 ?h_TI_28 ?h_TI_29)
      (Ash.txt_mk KX G ?h_TY_0 ?h_TY_1 ?h_TY_2 ?h_TY_3 ?h_TY_4 ?h_TY_5 ?h_TY_6 ?h_TY_7 ?h_TY_8 ?h_TY_9 ?h_TY_10 ?h_TY_11 ?h_TY_12 ?h_TY_13 ?h_TY_14 ?h_TY_15 ?h_TY_16 ?h_TY_17 ?h_TY_18 ?h_TY_19 ?h_TY_20 ?h_TY_21 ?h_TY_22 ?h_TY_23 ?h_TY_24 ?h_TY_25 ?h_TY_26 ?h_TY_27 ?h_TY_28 ?h_TY_29)
      (Ash.txt_mk KX G ?h_TS_0 ?h_TS_1 ?h_TS_2 ?h_TS_3 ?h_TS_4 ?h_TS_5 ?h_TS_6 ?h_TS_7 ?h_TS_8 ?h_TS_9 ?h_TS_10 ?h_TS_11 ?h_TS_12 ?h_TS_13 ?h_TS_14 ?h_TS_15 ?h_TS_16 ?h_TS_17 ?h_TS_18 ?h_TS_19 ?h_TS_20 ?h_TS_21 ?h_TS_22 ?h_TS_23 ?h_TS_24 ?h_TS_25 ?h_TS_26 ?h_TS_27 ?h_TS_28 ?h_TS_29)
      (Ash.txt_mk KX G ?h_TM_0 ?h_TM_1 ?h_TM_2 ?h_TM_3 ?h_TM_4 ?h_TM_5 ?h_TM_6 ?h_TM_7 ?h_TM_8 ?h_TM_9 ?h_TM_10 ?h_TM_11 ?h_TM_12 ?h_TM_13 ?h_TM_14 ?h_TM_15 ?h_TM_16 ?h_TM_17 ?h_TM_18 ?h_TM_19 ?h_TM_20 ?h_TM_21 ?h_TM_22 ?h_TM_23 ?h_TM_24 ?h_TM_25 ?h_TM_26 ?h_TM_27 ?h_TM_28 ?h_TM_29)
      (Ash.txt_mk KX G ?h_TN_0 ?h_TN_1 ?h_TN_2 ?h_TN_3 ?h_TN_4 ?h_TN_5 ?h_TN_6 ?h_TN_7 ?h_TN_8 ?h_TN_9 ?h_TN_10 ?h_TN_11 ?h_TN_12 ?h_TN_13 ?h_TN_14 ?h_TN_15 ?h_TN_16 ?h_TN_17 ?h_TN_18 ?h_TN_19 ?h_TN_20 ?h_TN_21 ?h_TN_22 ?h_TN_23 ?h_TN_24 ?h_TN_25 ?h_TN_26 ?h_TN_27 ?h_TN_28 ?h_TN_29)
      (Ash.exc_mk ?h_xT_0 ?h_xT_1 ?h_xT_2 ?h_xT_3 ?h_xT_4 ?h_xT_5 ?h_xT_6 ?h_xT_7)
      ?h_kT
      ?h_bT
      ?h_tT
      (Ash.exm_me ?h_nTT_0 ?h_nTT_1 ?h_nTT_2 ?h_nTT_3)
      (Ash.exm_no ?h_nYI_0 ?h_nYI_1 ?h_nYI_2 ?h_nYI_3)
      (Ash.exm_no ?h_nSI_0 ?h_nSI_1 ?h_nSI_2 ?h_nSI_3)
      (Ash.exm_no ?h_nSY_0 ?h_nSY_1 ?h_nSY_2 ?h_nSY_3)
      (Ash.exm_no ?h_nEI_0 ?h_nEI_1 ?h_nEI_2 ?h_nEI_3)
      (Ash.exm_no ?h_nEY_0 ?h_nEY_1 ?h_nEY_2 ?h_nEY_3)
      (Ash.exm_no ?h_nES_0 ?h_nES_1 ?h_nES_2 ?h_nES_3)
      (Ash.exm_no ?h_nMI_0 ?h_nMI_1 ?h_nMI_2 ?h_nMI_3)
      (Ash.exm_no ?h_nMY_0 ?h_nMY_1 ?h_nMY_2 ?h_nMY_3)
      (Ash.exm_no ?h_nMS_0 ?h_nMS_1 ?h_nMS_2 ?h_nMS_3)
      (Ash.exm_no ?h_nME_0 ?h_nME_1 ?h_nME_2 ?h_nME_3)
      (Ash.exm_no ?h_nNI_0 ?h_nNI_1 ?h_nNI_2 ?h_nNI_3)
      (Ash.exm_no ?h_nNY_0 ?h_nNY_1 ?h_nNY_2 ?h_nNY_3)
      (Ash.exm_no ?h_nNS_0 ?h_nNS_1 ?h_nNS_2 ?h_nNS_3)
      (Ash.exm_no ?h_nNE_0 ?h_nNE_1 ?h_nNE_2 ?h_nNE_3)
      (Ash.exm_no ?h_nNM_0 ?h_nNM_1 ?h_nNM_2 ?h_nNM_3)
      (Ash.exm_no ?h_nTI_0 ?h_nTI_1 ?h_nTI_2 ?h_nTI_3)
      (Ash.exm_no ?h_nTY_0 ?h_nTY_1 ?h_nTY_2 ?h_nTY_3)
      (Ash.exm_no ?h_nTS_0 ?h_nTS_1 ?h_nTS_2 ?h_nTS_3)
      (Ash.exm_no ?h_nTE_0 ?h_nTE_1 ?h_nTE_2 ?h_nTE_3)
      (Ash.exm_no ?h_nTM_0 ?h_nTM_1 ?h_nTM_2 ?h_nTM_3)
      (Ash.exm_no ?h_nTN_0 ?h_nTN_1 ?h_nTN_2 ?h_nTN_3)
      ?h_mkD
      ?h_kD
      (Ash.dnn ?h_m_OI_0 ?h_m_OI_1 ?h_m_OI_2 ?h_m_OI_3 ?h_m_OI_4 ?h_m_OI_5 ?h_m_OI_6 ?h_m_OI_7)
      (Ash.d1 KX G ?h_d_is_integer_0 ?h_d_is_integer_1 ?h_d_is_integer_2 ?h_d_is_integer_3)
      (Ash.d1 KX G ?h_d_is_natural_0 ?h_d_is_natural_1 ?h_d_is_natural_2 ?h_d_is_natural_3)
      (Ash.d1 KX G ?h_d_is_name_0 ?h_d_is_name_1 ?h_d_is_name_2 ?h_d_is_name_3)
      (Ash.d1 KX G ?h_d_are_integers_0 ?h_d_are_integers_1 ?h_d_are_integers_2 ?h_d_are_integers_3)
      (Ash.d1 KX G ?h_d_is_late_0 ?h_d_is_late_1 ?h_d_is_late_2 ?h_d_is_late_3)
      (Ash.d1 KX G ?h_d_is_lates_0 ?h_d_is_lates_1 ?h_d_is_lates_2 ?h_d_is_lates_3)
      (Ash.d1 KX G ?h_d_is_entry_0 ?h_d_is_entry_1 ?h_d_is_entry_2 ?h_d_is_entry_3)
      (Ash.d1 KX G ?h_d_arrival_of_0 ?h_d_arrival_of_1 ?h_d_arrival_of_2 ?h_d_arrival_of_3)
      (Ash.d1 KX G ?h_d_placed_0 ?h_d_placed_1 ?h_d_placed_2 ?h_d_placed_3)
      (Ash.d1 KX G ?h_d_row_behind_0 ?h_d_row_behind_1 ?h_d_row_behind_2 ?h_d_row_behind_3)
      (Ash.d1 KX G ?h_d_walked_0 ?h_d_walked_1 ?h_d_walked_2 ?h_d_walked_3)
      (Ash.d1 KX G ?h_d_is_row_0 ?h_d_is_row_1 ?h_d_is_row_2 ?h_d_is_row_3)
      (Ash.dm ?h_m_Init_0 ?h_m_Init_1 ?h_m_Init_2 ?h_m_Init_3 ?h_m_Init_4)
      (Ash.dm ?h_m_Has_0 ?h_m_Has_1 ?h_m_Has_2 ?h_m_Has_3 ?h_m_Has_4)
      (Ash.dm ?h_m_Late_0 ?h_m_Late_1 ?h_m_Late_2 ?h_m_Late_3 ?h_m_Late_4)
      (Ash.dd ?h_m_J_0 ?h_m_J_1 ?h_m_J_2 ?h_m_J_3 ?h_m_J_4 ?h_m_J_5 ?h_m_J_6 ?h_m_J_7)
      (Ash.dm ?h_m_Then_0 ?h_m_Then_1 ?h_m_Then_2 ?h_m_Then_3 ?h_m_Then_4)
      (Ash.dm ?h_m_Len_0 ?h_m_Len_1 ?h_m_Len_2 ?h_m_Len_3 ?h_m_Len_4)
      (Ash.dq ?h_m_Beq_0 ?h_m_Beq_1 ?h_m_Beq_2 ?h_m_Beq_3 ?h_m_Beq_4)
      (Ash.ne_mk ?h_bne_0 ?h_bne_1 ?h_bne_2 ?h_bne_3 ?h_bne_4 ?h_bne_5 ?h_bne_6)
      (Ash.dm ?h_m_DInit_0 ?h_m_DInit_1 ?h_m_DInit_2 ?h_m_DInit_3 ?h_m_DInit_4)
      (Ash.dm ?h_m_DraftOf_0 ?h_m_DraftOf_1 ?h_m_DraftOf_2 ?h_m_DraftOf_3 ?h_m_DraftOf_4)
      (Ash.dm ?h_m_Begin_0 ?h_m_Begin_1 ?h_m_Begin_2 ?h_m_Begin_3 ?h_m_Begin_4)
      (Ash.dm ?h_m_Put_0 ?h_m_Put_1 ?h_m_Put_2 ?h_m_Put_3 ?h_m_Put_4)
      (Ash.dm ?h_m_Row_0 ?h_m_Row_1 ?h_m_Row_2 ?h_m_Row_3 ?h_m_Row_4)
      (Ash.dm ?h_m_Fix_0 ?h_m_Fix_1 ?h_m_Fix_2 ?h_m_Fix_3 ?h_m_Fix_4)
      (Ash.dm ?h_m_Gone_0 ?h_m_Gone_1 ?h_m_Gone_2 ?h_m_Gone_3 ?h_m_Gone_4)
      (Ash.dm ?h_m_Drop_0 ?h_m_Drop_1 ?h_m_Drop_2 ?h_m_Drop_3 ?h_m_Drop_4)
      (Ash.dm ?h_m_Tell_0 ?h_m_Tell_1 ?h_m_Tell_2 ?h_m_Tell_3 ?h_m_Tell_4)
      (Ash.dm ?h_m_Writers_0 ?h_m_Writers_1 ?h_m_Writers_2 ?h_m_Writers_3 ?h_m_Writers_4)
      (Ash.dm ?h_m_Fresh_0 ?h_m_Fresh_1 ?h_m_Fresh_2 ?h_m_Fresh_3 ?h_m_Fresh_4)
      (Ash.dm ?h_m_Behind_0 ?h_m_Behind_1 ?h_m_Behind_2 ?h_m_Behind_3 ?h_m_Behind_4)
      (Ash.dm ?h_m_Close_0 ?h_m_Close_1 ?h_m_Close_2 ?h_m_Close_3 ?h_m_Close_4)
      (Ash.dm ?h_m_Undo_0 ?h_m_Undo_1 ?h_m_Undo_2 ?h_m_Undo_3 ?h_m_Undo_4)
      (Ash.d1 KX G ?h_d__law_called_0 ?h_d__law_called_1 ?h_d__law_called_2 ?h_d__law_called_3)
      (Ash.d1 KX G ?h_d__law_done_0 ?h_d__law_done_1 ?h_d__law_done_2 ?h_d__law_done_3)
      (Ash.d1 KX G ?h_d__law_put_in_0 ?h_d__law_put_in_1 ?h_d__law_put_in_2 ?h_d__law_put_in_3)
      (Ash.d1 KX G ?h_d__law_pool_0 ?h_d__law_pool_1 ?h_d__law_pool_2 ?h_d__law_pool_3)
      (Ash.d1 KX G ?h_d__law_draw_0 ?h_d__law_draw_1 ?h_d__law_draw_2 ?h_d__law_draw_3)
      (Ash.d1 KX G ?h_d__law_names_0 ?h_d__law_names_1 ?h_d__law_names_2 ?h_d__law_names_3)
      (Ash.d1 KX G ?h_d__law_lates_0 ?h_d__law_lates_1 ?h_d__law_lates_2 ?h_d__law_lates_3)
      (Ash.d1 KX G ?h_d__law_amount_0 ?h_d__law_amount_1 ?h_d__law_amount_2 ?h_d__law_amount_3)
      (Ash.d1 KX G ?h_d__law_entry_0 ?h_d__law_entry_1 ?h_d__law_entry_2 ?h_d__law_entry_3)
      (Ash.d1 KX G ?h_d__law_put_0 ?h_d__law_put_1 ?h_d__law_put_2 ?h_d__law_put_3)
      (Ash.d1 KX G ?h_d__law_entries_0 ?h_d__law_entries_1 ?h_d__law_entries_2 ?h_d__law_entries_3)
      (Ash.d1 KX G ?h_d__law_states_0 ?h_d__law_states_1 ?h_d__law_states_2 ?h_d__law_states_3)
      (Ash.d1 KX G ?h_d__law_drafted_0 ?h_d__law_drafted_1 ?h_d__law_drafted_2 ?h_d__law_drafted_3)
      (Ash.d1 KX G ?h_d__law_is_good_0 ?h_d__law_is_good_1 ?h_d__law_is_good_2 ?h_d__law_is_good_3)
      (Ash.d1 KX G ?h_d__law_bad_from_0 ?h_d__law_bad_from_1 ?h_d__law_bad_from_2 ?h_d__law_bad_from_3)
      (Ash.d1 KX G ?h_d__law_closed_0 ?h_d__law_closed_1 ?h_d__law_closed_2 ?h_d__law_closed_3)
    (case h_Cs_0 => k_is)
    (case h_Cs_1 => k_is)
    (case h_Cs_2 => k_is)
    (case h_Cs_3 => k_is)
    (case h_Cs_4 => k_is)
    (case h_TB_2 => k_is)
    (case h_T_4 => k_is)
    (case h_Tt_0 => k_is)
    (case h_cE => k_is)
    (case h_C2_0 => k_is)
    (case h_TO_7 => k_is)
    (case h_TD_3 => k_is)
    (case h_cI => k_is)
    (case h_cY => k_is)
    (case h_cS => k_is)
    (case h_cM => k_is)
    (case h_cN => k_is)
    (case h_cT => k_is)
    (case law0 => k_is)
    (case law1 => k_is)
    (case law2 => k_is)
    (case law3 => k_is)
    (case h_B_len => k_is)
    (case h_B_int => k_is)
    (case h_B_bool => k_is)
    (case h_B_str => k_is)
    (case h_B_list => k_is)
    (case h_B_tuple => k_is)
    (case h_B_dict => k_is)
    (case h_B_isinstance => k_is)
    (case h_B_all => k_is)
    (case h_B_range => k_is)
    (case h_B_enumerate => k_is)
    (case h_B_sorted => k_is)
    (case h_B_min => k_is)
    (case h_B_max => k_is)
    (case h_B_set => k_is)
    (case h_TB_0_0 => k_is)
    (case h_TB_0_1 => k_is)
    (case h_TB_0_2 => k_is)
    (case h_TB_0_3 => k_is)
    (case h_TB_1 => delta L2.NoAttr; k_is)
    (case h_T_0_0 => k_is)
    (case h_T_0_1 => k_is)
    (case h_T_0_2 => k_is)
    (case h_T_0_3 => k_is)
    (case h_T_1 => delta L2.NoAttr; k_is)
    (case h_T_2 => delta L2.NoAttr; k_is)
    (case h_T_3 => delta L2.NoAttr; k_is)
    (case h_Tt_1_0 => k_is)
    (case h_TE_0 => k_is)
    (case h_TE_2 => k_is)
    (case h_TE_3 => k_is)
    (case h_TE_4 => k_is)
    (case h_TE_5 => k_is)
    (case h_TE_6 => k_is)
    (case h_TE_7 => k_is)
    (case h_TE_8 => k_is)
    (case h_TE_9 => k_is)
    (case h_TE_10 => k_is)
    (case h_TE_11 => k_is)
    (case h_TE_12 => k_is)
    (case h_TE_13 => k_is)
    (case h_TE_14 => k_is)
    (case h_TE_15 => k_is)
    (case h_TE_17 => k_is)
    (case h_TE_18 => k_is)
    (case h_TE_20 => k_is)
    (case h_TE_21 => k_is)
    (case h_TE_25 => k_is)
    (case h_TE_29 => k_is)
    (case h_bi_0 => k_is)
    (case h_bi_1 => k_is)
    (case h_bi_2 => k_is)
    (case h_bi_3 => k_is)
    (case h_ji_0 => k_is)
    (case h_ji_1 => k_is)
    (case h_ji_2 => k_is)
    (case h_ji_3 => k_is)
    (case h_mkB => k_is)
    (case h_kB => k_is)
    (case h_C3_0 => k_is)
    (case h_TO_0_0 => k_is)
    (case h_TO_0_1 => k_is)
    (case h_TO_0_2 => k_is)
    (case h_TO_0_3 => k_is)
    (case h_TO_1 => delta L2.NoAttr; k_is)
    (case h_TO_2 => delta L2.NoAttr; k_is)
    (case h_TO_3 => delta L2.NoAttr; k_is)
    (case h_TO_4 => delta L2.NoAttr; k_is)
    (case h_TO_5 => delta L2.NoAttr; k_is)
    (case h_TO_6 => delta L2.NoAttr; k_is)
    (case h_TD_0_0 => k_is)
    (case h_TD_0_1 => k_is)
    (case h_TD_0_2 => k_is)
    (case h_TD_0_3 => k_is)
    (case h_TD_1 => delta L2.NoAttr; k_is)
    (case h_TD_2 => delta L2.NoAttr; k_is)
    (case h_TI_0 => k_is)
    (case h_TI_2 => k_is)
    (case h_TI_3 => k_is)
    (case h_TI_4 => k_is)
    (case h_TI_5 => k_is)
    (case h_TI_6 => k_is)
    (case h_TI_7 => k_is)
    (case h_TI_8 => k_is)
    (case h_TI_9 => k_is)
    (case h_TI_10 => k_is)
    (case h_TI_11 => k_is)
    (case h_TI_12 => k_is)
    (case h_TI_13 => k_is)
    (case h_TI_14 => k_is)
    (case h_TI_15 => k_is)
    (case h_TI_17 => k_is)
    (case h_TI_18 => k_is)
    (case h_TI_20 => k_is)
    (case h_TI_21 => k_is)
    (case h_TI_25 => k_is)
    (case h_TI_29 => k_is)
    (case h_TY_0 => k_is)
    (case h_TY_2 => k_is)
    (case h_TY_3 => k_is)
    (case h_TY_4 => k_is)
    (case h_TY_5 => k_is)
    (case h_TY_6 => k_is)
    (case h_TY_7 => k_is)
    (case h_TY_8 => k_is)
    (case h_TY_9 => k_is)
    (case h_TY_10 => k_is)
    (case h_TY_11 => k_is)
    (case h_TY_12 => k_is)
    (case h_TY_13 => k_is)
    (case h_TY_14 => k_is)
    (case h_TY_15 => k_is)
    (case h_TY_17 => k_is)
    (case h_TY_18 => k_is)
    (case h_TY_20 => k_is)
    (case h_TY_21 => k_is)
    (case h_TY_25 => k_is)
    (case h_TY_29 => k_is)
    (case h_TS_0 => k_is)
    (case h_TS_2 => k_is)
    (case h_TS_3 => k_is)
    (case h_TS_4 => k_is)
    (case h_TS_5 => k_is)
    (case h_TS_6 => k_is)
    (case h_TS_7 => k_is)
    (case h_TS_8 => k_is)
    (case h_TS_9 => k_is)
    (case h_TS_10 => k_is)
    (case h_TS_11 => k_is)
    (case h_TS_12 => k_is)
    (case h_TS_13 => k_is)
    (case h_TS_14 => k_is)
    (case h_TS_15 => k_is)
    (case h_TS_17 => k_is)
    (case h_TS_18 => k_is)
    (case h_TS_20 => k_is)
    (case h_TS_21 => k_is)
    (case h_TS_25 => k_is)
    (case h_TS_29 => k_is)
    (case h_TM_0 => k_is)
    (case h_TM_2 => k_is)
    (case h_TM_3 => k_is)
    (case h_TM_4 => k_is)
    (case h_TM_5 => k_is)
    (case h_TM_6 => k_is)
    (case h_TM_7 => k_is)
    (case h_TM_8 => k_is)
    (case h_TM_9 => k_is)
    (case h_TM_10 => k_is)
    (case h_TM_11 => k_is)
    (case h_TM_12 => k_is)
    (case h_TM_13 => k_is)
    (case h_TM_14 => k_is)
    (case h_TM_15 => k_is)
    (case h_TM_17 => k_is)
    (case h_TM_18 => k_is)
    (case h_TM_20 => k_is)
    (case h_TM_21 => k_is)
    (case h_TM_25 => k_is)
    (case h_TM_29 => k_is)
    (case h_TN_0 => k_is)
    (case h_TN_2 => k_is)
    (case h_TN_3 => k_is)
    (case h_TN_4 => k_is)
    (case h_TN_5 => k_is)
    (case h_TN_6 => k_is)
    (case h_TN_7 => k_is)
    (case h_TN_8 => k_is)
    (case h_TN_9 => k_is)
    (case h_TN_10 => k_is)
    (case h_TN_11 => k_is)
    (case h_TN_12 => k_is)
    (case h_TN_13 => k_is)
    (case h_TN_14 => k_is)
    (case h_TN_15 => k_is)
    (case h_TN_17 => k_is)
    (case h_TN_18 => k_is)
    (case h_TN_20 => k_is)
    (case h_TN_21 => k_is)
    (case h_TN_25 => k_is)
    (case h_TN_29 => k_is)
    (case h_xT_0 => k_is)
    (case h_xT_1 => k_is)
    (case h_xT_3 => k_is)
    (case h_xT_4 => k_is)
    (case h_xT_5 => k_is)
    (case h_xT_7 => k_is)
    (case h_kT => k_is)
    (case h_bT => k_is)
    (case h_tT => k_is)
    (case h_nTT_0 => k_is)
    (case h_nTT_1 => k_is)
    (case h_nTT_2 => k_is)
    (case h_nTT_3 => k_is)
    (case h_nYI_0 => k_is)
    (case h_nYI_1 => k_is)
    (case h_nYI_2 => k_is)
    (case h_nYI_3 => k_is)
    (case h_nSI_0 => k_is)
    (case h_nSI_1 => k_is)
    (case h_nSI_2 => k_is)
    (case h_nSI_3 => k_is)
    (case h_nSY_0 => k_is)
    (case h_nSY_1 => k_is)
    (case h_nSY_2 => k_is)
    (case h_nSY_3 => k_is)
    (case h_nEI_0 => k_is)
    (case h_nEI_1 => k_is)
    (case h_nEI_2 => k_is)
    (case h_nEI_3 => k_is)
    (case h_nEY_0 => k_is)
    (case h_nEY_1 => k_is)
    (case h_nEY_2 => k_is)
    (case h_nEY_3 => k_is)
    (case h_nES_0 => k_is)
    (case h_nES_1 => k_is)
    (case h_nES_2 => k_is)
    (case h_nES_3 => k_is)
    (case h_nMI_0 => k_is)
    (case h_nMI_1 => k_is)
    (case h_nMI_2 => k_is)
    (case h_nMI_3 => k_is)
    (case h_nMY_0 => k_is)
    (case h_nMY_1 => k_is)
    (case h_nMY_2 => k_is)
    (case h_nMY_3 => k_is)
    (case h_nMS_0 => k_is)
    (case h_nMS_1 => k_is)
    (case h_nMS_2 => k_is)
    (case h_nMS_3 => k_is)
    (case h_nME_0 => k_is)
    (case h_nME_1 => k_is)
    (case h_nME_2 => k_is)
    (case h_nME_3 => k_is)
    (case h_nNI_0 => k_is)
    (case h_nNI_1 => k_is)
    (case h_nNI_2 => k_is)
    (case h_nNI_3 => k_is)
    (case h_nNY_0 => k_is)
    (case h_nNY_1 => k_is)
    (case h_nNY_2 => k_is)
    (case h_nNY_3 => k_is)
    (case h_nNS_0 => k_is)
    (case h_nNS_1 => k_is)
    (case h_nNS_2 => k_is)
    (case h_nNS_3 => k_is)
    (case h_nNE_0 => k_is)
    (case h_nNE_1 => k_is)
    (case h_nNE_2 => k_is)
    (case h_nNE_3 => k_is)
    (case h_nNM_0 => k_is)
    (case h_nNM_1 => k_is)
    (case h_nNM_2 => k_is)
    (case h_nNM_3 => k_is)
    (case h_nTI_0 => k_is)
    (case h_nTI_1 => k_is)
    (case h_nTI_2 => k_is)
    (case h_nTI_3 => k_is)
    (case h_nTY_0 => k_is)
    (case h_nTY_1 => k_is)
    (case h_nTY_2 => k_is)
    (case h_nTY_3 => k_is)
    (case h_nTS_0 => k_is)
    (case h_nTS_1 => k_is)
    (case h_nTS_2 => k_is)
    (case h_nTS_3 => k_is)
    (case h_nTE_0 => k_is)
    (case h_nTE_1 => k_is)
    (case h_nTE_2 => k_is)
    (case h_nTE_3 => k_is)
    (case h_nTM_0 => k_is)
    (case h_nTM_1 => k_is)
    (case h_nTM_2 => k_is)
    (case h_nTM_3 => k_is)
    (case h_nTN_0 => k_is)
    (case h_nTN_1 => k_is)
    (case h_nTN_2 => k_is)
    (case h_nTN_3 => k_is)
    (case h_mkD => k_is)
    (case h_kD => k_is)
    (case h_m_OI_0 => k_is)
    (case h_m_OI_1 => k_is)
    (case h_m_OI_2 => k_is)
    (case h_m_OI_3 => k_is)
    (case h_m_OI_4 => k_is)
    (case h_m_OI_5 => k_is)
    (case h_m_OI_6 => k_is)
    (case h_m_OI_7 => k_is)
    (case h_d_is_integer_0 => k_is)
    (case h_d_is_integer_1 => k_is)
    (case h_d_is_integer_2 => k_is)
    (case h_d_is_integer_3 => k_is)
    (case h_d_is_natural_0 => k_is)
    (case h_d_is_natural_1 => k_is)
    (case h_d_is_natural_2 => k_is)
    (case h_d_is_natural_3 => k_is)
    (case h_d_is_name_0 => k_is)
    (case h_d_is_name_1 => k_is)
    (case h_d_is_name_2 => k_is)
    (case h_d_is_name_3 => k_is)
    (case h_d_are_integers_0 => k_is)
    (case h_d_are_integers_1 => k_is)
    (case h_d_are_integers_2 => k_is)
    (case h_d_are_integers_3 => k_is)
    (case h_d_is_late_0 => k_is)
    (case h_d_is_late_1 => k_is)
    (case h_d_is_late_2 => k_is)
    (case h_d_is_late_3 => k_is)
    (case h_d_is_lates_0 => k_is)
    (case h_d_is_lates_1 => k_is)
    (case h_d_is_lates_2 => k_is)
    (case h_d_is_lates_3 => k_is)
    (case h_d_is_entry_0 => k_is)
    (case h_d_is_entry_1 => k_is)
    (case h_d_is_entry_2 => k_is)
    (case h_d_is_entry_3 => k_is)
    (case h_d_arrival_of_0 => k_is)
    (case h_d_arrival_of_1 => k_is)
    (case h_d_arrival_of_2 => k_is)
    (case h_d_arrival_of_3 => k_is)
    (case h_d_placed_0 => k_is)
    (case h_d_placed_1 => k_is)
    (case h_d_placed_2 => k_is)
    (case h_d_placed_3 => k_is)
    (case h_d_row_behind_0 => k_is)
    (case h_d_row_behind_1 => k_is)
    (case h_d_row_behind_2 => k_is)
    (case h_d_row_behind_3 => k_is)
    (case h_d_walked_0 => k_is)
    (case h_d_walked_1 => k_is)
    (case h_d_walked_2 => k_is)
    (case h_d_walked_3 => k_is)
    (case h_d_is_row_0 => k_is)
    (case h_d_is_row_1 => k_is)
    (case h_d_is_row_2 => k_is)
    (case h_d_is_row_3 => k_is)
    (case h_m_Init_0 => k_is)
    (case h_m_Init_1 => k_is)
    (case h_m_Init_2 => k_is)
    (case h_m_Init_3 => k_is)
    (case h_m_Init_4 => k_is)
    (case h_m_Has_0 => k_is)
    (case h_m_Has_1 => k_is)
    (case h_m_Has_2 => k_is)
    (case h_m_Has_3 => k_is)
    (case h_m_Has_4 => k_is)
    (case h_m_Late_0 => k_is)
    (case h_m_Late_1 => k_is)
    (case h_m_Late_2 => k_is)
    (case h_m_Late_3 => k_is)
    (case h_m_Late_4 => k_is)
    (case h_m_J_0 => k_is)
    (case h_m_J_1 => k_is)
    (case h_m_J_2 => k_is)
    (case h_m_J_3 => k_is)
    (case h_m_J_4 => k_is)
    (case h_m_J_5 => k_is)
    (case h_m_J_6 => k_is)
    (case h_m_J_7 => k_is)
    (case h_m_Then_0 => k_is)
    (case h_m_Then_1 => k_is)
    (case h_m_Then_2 => k_is)
    (case h_m_Then_3 => k_is)
    (case h_m_Then_4 => k_is)
    (case h_m_Len_0 => k_is)
    (case h_m_Len_1 => k_is)
    (case h_m_Len_2 => k_is)
    (case h_m_Len_3 => k_is)
    (case h_m_Len_4 => k_is)
    (case h_m_Beq_0 => k_is)
    (case h_m_Beq_1 => k_is)
    (case h_m_Beq_2 => k_is)
    (case h_m_Beq_3 => k_is)
    (case h_m_Beq_4 => k_is)
    (case h_bne_0 => k_is)
    (case h_bne_1 => k_is)
    (case h_bne_3 => k_is)
    (case h_bne_4 => k_is)
    (case h_bne_5 => k_is)
    (case h_m_DInit_0 => k_is)
    (case h_m_DInit_1 => k_is)
    (case h_m_DInit_2 => k_is)
    (case h_m_DInit_3 => k_is)
    (case h_m_DInit_4 => k_is)
    (case h_m_DraftOf_0 => k_is)
    (case h_m_DraftOf_1 => k_is)
    (case h_m_DraftOf_2 => k_is)
    (case h_m_DraftOf_3 => k_is)
    (case h_m_DraftOf_4 => k_is)
    (case h_m_Begin_0 => k_is)
    (case h_m_Begin_1 => k_is)
    (case h_m_Begin_2 => k_is)
    (case h_m_Begin_3 => k_is)
    (case h_m_Begin_4 => k_is)
    (case h_m_Put_0 => k_is)
    (case h_m_Put_1 => k_is)
    (case h_m_Put_2 => k_is)
    (case h_m_Put_3 => k_is)
    (case h_m_Put_4 => k_is)
    (case h_m_Row_0 => k_is)
    (case h_m_Row_1 => k_is)
    (case h_m_Row_2 => k_is)
    (case h_m_Row_3 => k_is)
    (case h_m_Row_4 => k_is)
    (case h_m_Fix_0 => k_is)
    (case h_m_Fix_1 => k_is)
    (case h_m_Fix_2 => k_is)
    (case h_m_Fix_3 => k_is)
    (case h_m_Fix_4 => k_is)
    (case h_m_Gone_0 => k_is)
    (case h_m_Gone_1 => k_is)
    (case h_m_Gone_2 => k_is)
    (case h_m_Gone_3 => k_is)
    (case h_m_Gone_4 => k_is)
    (case h_m_Drop_0 => k_is)
    (case h_m_Drop_1 => k_is)
    (case h_m_Drop_2 => k_is)
    (case h_m_Drop_3 => k_is)
    (case h_m_Drop_4 => k_is)
    (case h_m_Tell_0 => k_is)
    (case h_m_Tell_1 => k_is)
    (case h_m_Tell_2 => k_is)
    (case h_m_Tell_3 => k_is)
    (case h_m_Tell_4 => k_is)
    (case h_m_Writers_0 => k_is)
    (case h_m_Writers_1 => k_is)
    (case h_m_Writers_2 => k_is)
    (case h_m_Writers_3 => k_is)
    (case h_m_Writers_4 => k_is)
    (case h_m_Fresh_0 => k_is)
    (case h_m_Fresh_1 => k_is)
    (case h_m_Fresh_2 => k_is)
    (case h_m_Fresh_3 => k_is)
    (case h_m_Fresh_4 => k_is)
    (case h_m_Behind_0 => k_is)
    (case h_m_Behind_1 => k_is)
    (case h_m_Behind_2 => k_is)
    (case h_m_Behind_3 => k_is)
    (case h_m_Behind_4 => k_is)
    (case h_m_Close_0 => k_is)
    (case h_m_Close_1 => k_is)
    (case h_m_Close_2 => k_is)
    (case h_m_Close_3 => k_is)
    (case h_m_Close_4 => k_is)
    (case h_m_Undo_0 => k_is)
    (case h_m_Undo_1 => k_is)
    (case h_m_Undo_2 => k_is)
    (case h_m_Undo_3 => k_is)
    (case h_m_Undo_4 => k_is)
    (case h_d__law_called_0 => k_is)
    (case h_d__law_called_1 => k_is)
    (case h_d__law_called_2 => k_is)
    (case h_d__law_called_3 => k_is)
    (case h_d__law_done_0 => k_is)
    (case h_d__law_done_1 => k_is)
    (case h_d__law_done_2 => k_is)
    (case h_d__law_done_3 => k_is)
    (case h_d__law_put_in_0 => k_is)
    (case h_d__law_put_in_1 => k_is)
    (case h_d__law_put_in_2 => k_is)
    (case h_d__law_put_in_3 => k_is)
    (case h_d__law_pool_0 => k_is)
    (case h_d__law_pool_1 => k_is)
    (case h_d__law_pool_2 => k_is)
    (case h_d__law_pool_3 => k_is)
    (case h_d__law_draw_0 => k_is)
    (case h_d__law_draw_1 => k_is)
    (case h_d__law_draw_2 => k_is)
    (case h_d__law_draw_3 => k_is)
    (case h_d__law_names_0 => k_is)
    (case h_d__law_names_1 => k_is)
    (case h_d__law_names_2 => k_is)
    (case h_d__law_names_3 => k_is)
    (case h_d__law_lates_0 => k_is)
    (case h_d__law_lates_1 => k_is)
    (case h_d__law_lates_2 => k_is)
    (case h_d__law_lates_3 => k_is)
    (case h_d__law_amount_0 => k_is)
    (case h_d__law_amount_1 => k_is)
    (case h_d__law_amount_2 => k_is)
    (case h_d__law_amount_3 => k_is)
    (case h_d__law_entry_0 => k_is)
    (case h_d__law_entry_1 => k_is)
    (case h_d__law_entry_2 => k_is)
    (case h_d__law_entry_3 => k_is)
    (case h_d__law_put_0 => k_is)
    (case h_d__law_put_1 => k_is)
    (case h_d__law_put_2 => k_is)
    (case h_d__law_put_3 => k_is)
    (case h_d__law_entries_0 => k_is)
    (case h_d__law_entries_1 => k_is)
    (case h_d__law_entries_2 => k_is)
    (case h_d__law_entries_3 => k_is)
    (case h_d__law_states_0 => k_is)
    (case h_d__law_states_1 => k_is)
    (case h_d__law_states_2 => k_is)
    (case h_d__law_states_3 => k_is)
    (case h_d__law_drafted_0 => k_is)
    (case h_d__law_drafted_1 => k_is)
    (case h_d__law_drafted_2 => k_is)
    (case h_d__law_drafted_3 => k_is)
    (case h_d__law_is_good_0 => k_is)
    (case h_d__law_is_good_1 => k_is)
    (case h_d__law_is_good_2 => k_is)
    (case h_d__law_is_good_3 => k_is)
    (case h_d__law_bad_from_0 => k_is)
    (case h_d__law_bad_from_1 => k_is)
    (case h_d__law_bad_from_2 => k_is)
    (case h_d__law_bad_from_3 => k_is)
    (case h_d__law_closed_0 => k_is)
    (case h_d__law_closed_1 => k_is)
    (case h_d__law_closed_2 => k_is)
    (case h_d__law_closed_3 => k_is)
    (case h_TE_1 => decide +kernel)
    (case h_TE_16 => ks_is)
    (case h_TE_19 => decide +kernel)
    (case h_TE_22 => exact rfl)
    (case h_TE_23 => exact rfl)
    (case h_TE_24 => exact fun s u v => .of_eq rfl)
    (case h_TE_26 => exact rfl)
    (case h_TE_27 => decide +kernel)
    (case h_TE_28 => decide +kernel)
    (case h_TI_1 => decide +kernel)
    (case h_TI_16 => ks_is)
    (case h_TI_19 => decide +kernel)
    (case h_TI_22 => exact rfl)
    (case h_TI_23 => exact rfl)
    (case h_TI_24 => exact fun s u v => .of_eq rfl)
    (case h_TI_26 => exact rfl)
    (case h_TI_27 => decide +kernel)
    (case h_TI_28 => decide +kernel)
    (case h_TY_1 => decide +kernel)
    (case h_TY_16 => ks_is)
    (case h_TY_19 => decide +kernel)
    (case h_TY_22 => exact rfl)
    (case h_TY_23 => exact rfl)
    (case h_TY_24 => exact fun s u v => .of_eq rfl)
    (case h_TY_26 => exact rfl)
    (case h_TY_27 => decide +kernel)
    (case h_TY_28 => decide +kernel)
    (case h_TS_1 => decide +kernel)
    (case h_TS_16 => ks_is)
    (case h_TS_19 => decide +kernel)
    (case h_TS_22 => exact rfl)
    (case h_TS_23 => exact rfl)
    (case h_TS_24 => exact fun s u v => .of_eq rfl)
    (case h_TS_26 => exact rfl)
    (case h_TS_27 => decide +kernel)
    (case h_TS_28 => decide +kernel)
    (case h_TM_1 => decide +kernel)
    (case h_TM_16 => ks_is)
    (case h_TM_19 => decide +kernel)
    (case h_TM_22 => exact rfl)
    (case h_TM_23 => exact rfl)
    (case h_TM_24 => exact fun s u v => .of_eq rfl)
    (case h_TM_26 => exact rfl)
    (case h_TM_27 => decide +kernel)
    (case h_TM_28 => decide +kernel)
    (case h_TN_1 => decide +kernel)
    (case h_TN_16 => ks_is)
    (case h_TN_19 => decide +kernel)
    (case h_TN_22 => exact rfl)
    (case h_TN_23 => exact rfl)
    (case h_TN_24 => exact fun s u v => .of_eq rfl)
    (case h_TN_26 => exact rfl)
    (case h_TN_27 => decide +kernel)
    (case h_TN_28 => decide +kernel)
    (case h_xT_2 => first | rfl | decide +kernel)
    (case h_xT_6 => first | rfl | decide +kernel)
    (case h_bne_2 => first | rfl | decide +kernel)
    (case h_bne_6 => rfl)

