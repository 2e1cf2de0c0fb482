import PyProof.Rows.All
import Wide.All
import OpenK.AllK
import Wide.FinOn
import PyProof.EqAt
import PyProof.EqKinds
import PyProof.TupleCall
import KE.KExcSuper
import HandS.ForMost
import HandS.ForExc
import HandS.ExcInit
import HandS.IsInst
import HandS.Wide
import HandS.Star
import HandS.CallSlots
import HandS.DictComp
import HandS.OwnEq
import HandS.Codes
import HandS.Defaults
import HandS.Walk
import PySem.Challenge.RW_asofhall_k74_whole_closed_one_behind_the
import HandS.More
import KE.GoesMore
import HandS.ExcCtx
import HandS.HotCalls
import HandS.SuiteRaise
import HandS.RaiseFrom
import PyProof.NeKinds
import HandS.Zip
import HandS.Deep
import PyProof.InstNe
import OpenK.KOwn
import OpenK.KOps
import HandS.Sort
import PyProof.DelItemList
import HandS.Flow
import HandS.Small
import HandS.ExcOwn
import HandS.TupAny
import HandS.Exc
import HandS.TryMany
set_option Elab.async false
set_option linter.all false
set_option maxRecDepth 100000
set_option maxHeartbeats 4000000
namespace PySem
namespace BadX
open PySem.W PySem.Calls PyProof.Rows PySem.HandSPX
/-- super().__init__(text); self.fl = par -/
def shape (tx par fl : Str) (p0 p1 p2 p3 p4 p5 p6 p7 p8 p9 : Pos) (j : Nat) : List Stmt :=
  [.Expr (.Call (.Attribute (.Call (.Name "super" p0) [] [] p1) "__init__" p2) [.Constant (.str tx) j p3] [] p4) p5,
   .Assign [.Attribute (.Name "self" p6) fl p7] (.Name par p8) p9]
def sco (par : Str) : Scope := { kind := .function, names := [(PySem.Str.ofString "self", .local), (par, .local), (PySem.Str.ofString "__class__", .free), (PySem.Str.ofString "super", .globalImplicit)], isGenerator := false, isCoroutine := false, more := [] }
/-- what the written part says of an own error's class at C, its __init__ at fI, whose one field is fl -/
structure Txt (P : Program) (K : Frag) (mg : Str → Option Value) (par fl : Str) (C fI : Addr) : Prop where
  cls : ∃ nm q N bs bm sn sub ab col dd k0 k1 k2 k3 k5, K.lookup C = some (excClassObj nm q C N bs bm true sn sub ab col dd k0 k1 k2 k3 k5 "ValueError.__new__") ∧ refsVE bm = true
  sa : findIn K (.ref C) "__setattr__" = some (some (.builtin "object.__setattr__"))
  ga : findIn K (.ref C) "__getattribute__" = some (some (.builtin "BaseException.__getattribute__"))
  gg : findIn K (.ref C) "__getattr__" = some none
  noN : findIn K (.ref C) fl = some none
  iC : findIn K (.ref C) "__init__" = some (some (.ref fI))
  tC : typeIn K (.ref fI) = some (.type "function")
  kC : keepIn K (.ref C) = true
  exC : subIn K (.ref C) (.type "BaseException") = some true
  veC : subIn K (.ref C) (.type "ValueError") = some true
  slf : mroIn K C (.ref C) = some true
  tyC : typeIn K (.ref C) = some (.type "type")
  hdC : hasDictIn K C = true
  te : exmOne K (.ref C) (.ref C) = some true
  along : ks_superIn K C C "__init__" = some (some (.builtin "ValueError.__init__"))
  opq : nsIn K cStatics "thirdparty.any" = some none
  sup : mg "super" = none
  top : (P.main.scope.names.lookup ("super" : Str)).isSome = false
  fn : ∃ (oc : Value) (od : Option Addr) (qual tx : Str) (doc pm : Value) (an : Option Addr) (cda cc : Addr) (ct : Value) (osl : Array (Option Value)) (pa : Arguments) (p0 p1 p2 p3 p4 p5 p6 p7 p8 p9 : Pos) (j : Nat) (a0 : Arg),
    K.lookup fI = some ⟨oc, od, .func (ksFn "__init__" qual pa (shape tx par fl p0 p1 p2 p3 p4 p5 p6 p7 p8 p9 j) (sco par) .none .none doc pm an (.ref cda) ct cc), osl⟩ ∧ codeIn K (.ref cda) qual = true ∧
    (pa.posonlyargs ++ pa.args).head? = some a0 ∧ a0.arg = "self" ∧
    (∀ (s : Shared) (u v : Value), BindsTo s (ksFn "__init__" qual pa (shape tx par fl p0 p1 p2 p3 p4 p5 p6 p7 p8 p9 j) (sco par) .none .none doc pm an (.ref cda) ct cc) ⟨[u, v], []⟩ [("self", u), (par, v)]) ∧
    (∃ ccl cdd vs ccs file tf, K.lookup cda = some ⟨ccl, cdd, .fields vs, ccs⟩ ∧ vs[2]? = some (.str file tf) ∧ ((P.main.file : Str) == file) = true) ∧
    (p2.endLine == p4.line) = true ∧
    (∃ cl cld csl, K.lookup cc = some ⟨cl, cld, .cell (some (.ref C)), csl⟩)
/-- what __init__ leaves of a fresh exception at x -/
structure Left (fl : Str) (h h' : Heap) (x C dx t1 : Addr) (v : Value) : Prop where
  keep : ∀ b o, b ≠ x → h.get? b = some o → h'.get? b = some o
  obj : h'.get? x = some { cls := .ref C, dict := some dx, data := .fields #[.ref t1, .none, .none, .none, .bool false, .none] }
  dbig : h.objs.size ≤ dx
  dne : dx ≠ x
  ns : h'.Ns1 dx (fun y => if y = fl then some v else none)
section
variable {prog : Program} {w : World} {A : Around} {E : Value → Shared → Prop} {R : Result → Shared → Prop} {s : Shared} {K : Frag} {mg mb : Str → Option Value} {C fI : Addr} {par fl : Str}
/-- the wrapper of ValueError.__init__, bound to x, called -/
theorem call_bound {h : Heap} {g : Array GenState} {d : Drawn} {t : Nat} {os : OsState} {u x t0 : Addr} {rest : List Value} {Q : Value → Shared → Prop} {nm q : Str} {N : Addr} {bs bm : List Value} {sn : List Str} {sub : List Value} {ab : Bool} {col : Option Bool} {dd : Option Addr} {k0 k1 k2 k3 k5 : Option Value}
    (hC : h.get? C = some (excClassObj nm q C N bs bm true sn sub ab col dd k0 k1 k2 k3 k5 "ValueError.__new__")) (hx : h.get? x = some (excO C t0)) (hu : h.get? u = some (kxs_mw "ValueError.__init__" x)) (hr : rest.length ≤ sizeLine)
    (hq : ∀ h', (∀ b o, b ≠ x → h.get? b = some o → h'.get? b = some o) → h'.get? x = some (excO C h.objs.size) → Q .none ⟨h', g, d, t, os⟩) :
    wpAny (model prog w) A (call (.ref u) rest) Q E ⟨h, g, d, t, os⟩ := by
  have FB := F.excBase_ValueError
  refine wpAny_call (codeAny_of_tree ?_)
  show wpAny _ A.in1 (callAny (.ref u) ⟨rest, []⟩) _ _ _
  simp only [callAny]
  refine wpAny_bind (wpAny_load hu ?_)
  have c1 : (Value.type "method-wrapper" == Value.type "method" || Value.type "method-wrapper" == Value.type "builtin_function_or_method" || Value.type "method-wrapper" == Value.type "method-wrapper") = true := by decide
  simp only [kxs_mw, c1, if_true]
  refine KFB.if_so (by decide) (wpAny_bind (check_bound_init FB.toExcCallFacts hC hx rfl (wpAny_bind (wpAny_pure (wpAny_pure ⟨plainId_quiet FB.init.plain _, codeAny_builtin FB.initEntry ?_⟩)))))
  exact exc_init_tree (cls := .ref C) (t0 := t0) (dv := none) (c2 := .none) (c3 := .none) (b4 := .bool false) hx hr fun h' k e' _ => hq h' k e'
theorem init_ok {x t0 : Addr} {v : Value} (T : Txt prog K mg par fl C fI) (X : K.In s.heap) (G : s.heap.Ns mainGlobals mg) (B : s.heap.Ns builtinsNs mb) (hb : mb "super" = some (.type "super")) (hlim : s.heap.NoLimit)
    (hx : s.heap.get? x = some (excO C t0)) (hnx : K.lookup x = none) (hroom : A.depth < recursionLimit) (hp1 : (par == ("__debug__" : Str)) = false) (hp2 : ¬ par = "self")
    (hloc : (sco par).names.lookup par = some .local) (hks : (sco par).names.lookup ("super" : Str) = some .globalImplicit) (hkc : (sco par).names.lookup ("__class__" : Str) = some .free)
    (hq : ∀ h' tk t1 dx, Left fl s.heap h' x C dx t1 v → R (.ok (.ret .none)) { s with heap := h', toks := tk }) :
    codeAny (model prog w) A (.call (.ref fI) ⟨[.ref x, v], []⟩) R s := by
  obtain ⟨oc, od, qual, tx, doc, pm, an, cda, cc, ct, osl, pa, p0, p1, p2, p3, p4, p5, p6, p7, p8, p9, j, a0, ho, hcd, ha0, ha1, hbd, ⟨ccl, cdd, vs, ccs, file, tf, hcode, hvs, hfile⟩, hpe, ⟨cl, cld, csl, hcell⟩⟩ := T.fn
  obtain ⟨nm, q, N, bs, bm, sn, sub, ab, col, dd, k0, k1, k2, k3, k5, hC, hbm⟩ := T.cls
  have hcl : clsIn K C = some { name := nm, bases := bs, mro := .ref C :: bm, ns := N, qualname := q, hasDict := true, slotNames := sn, subclasses := sub, abstract := ab, collection := col, hasDel := false } := by unfold clsIn; rw [hC] <;> rfl
  refine ks_codeAny_call_defAt (binds := [("self", .ref x), (par, v)]) hroom (X _ _ ho) rfl hlim (codeRec_of X hcd) rfl (hbd s (.ref x) v) ?_ ?_ (fun h₁ hns hk₁ => ?_)
  · intro y hy
    have : y ∈ [(PySem.Str.ofString "self", NameKind.local), (par, .local), (PySem.Str.ofString "__class__", .free), (PySem.Str.ofString "super", .globalImplicit)] := hy
    simp only [List.mem_cons, List.not_mem_nil, or_false] at this
    rcases this with rfl | rfl | rfl | rfl <;> (intro z; cases z)
  · intro y hy
    simp only [List.mem_cons, List.not_mem_nil, or_false] at hy
    rcases hy with rfl | rfl
    · exact (by rfl : (sco par).names.lookup ("self" : Str) = some .local)
    · exact hloc
  have hself : ([(("self" : Str), Value.ref x), (par, v)] : List (Str × Value)).reverse.lookup ("self" : Str) = some (Value.ref x) := by
    show List.lookup ("self" : Str) [(par, v), (("self" : Str), Value.ref x)] = _
    have e1 : (("self" : Str) == par) = false := by simpa using fun z => hp2 z.symm
    simp [List.lookup, e1]
  have hpar : ([(("self" : Str), Value.ref x), (par, v)] : List (Str × Value)).reverse.lookup par = some v := by
    show List.lookup par [(par, v), (("self" : Str), Value.ref x)] = _
    simp [List.lookup]
  have X₁ : K.In h₁ := X.keeps hk₁
  have hx₁ := hk₁ _ _ hx
  refine ks_wpAt_execs_cons (ks_wpAt_Expr_any (ks_wpAt_MethodCall (pl := ?pl) ?_ ?he))
  case he =>
    rw [arm_eval_Call]
    unfold methodCall methodCallPos
    rw [hpe]
    with_unfolding_all rfl
  refine ks_wpAt_super_base (hks := hks) (hkc := hkc) (by decide +kernel) rfl (X₁ _ _ ho) rfl ha0 rfl (X₁ _ _ hcode) rfl hvs hfile T.top ?_
  refine ks_loadName_global rfl hks (loadGlobal_builtin (G.keeps hk₁) T.sup (B.keeps hk₁) hb ⟨rfl, ?_⟩)
  refine wpAny_loadName_free rfl hkc rfl ⟨_, X₁ _ _ hcell, rfl⟩ ?_
  rw [ha1]
  refine wpAny_loadName_local rfl rfl hns hself ?_
  refine ks_wpAny_isType_cls (X₁ _ _ hC) rfl ⟨rfl, ?_⟩
  refine ks_wpAny_call_super (X₁ _ _ hC) rfl hx₁ rfl (fun c e => by cases e) (looks_mroIn X₁ T.slf) (fun h₂ e₂ k₂ => ?_)
  have X₂ : K.In h₂ := X₁.keeps k₂
  have hx₂ := k₂ _ _ hx₁
  have I₂ : InstAt h₂ x (excO C t0) C none := ⟨hx₂, rfl, rfl, trivial⟩
  have hal := T.along
  unfold ks_superIn at hal
  rw [hcl] at hal
  refine kxs_getMethod kxs_ValueError e₂ (looks_opaque X₂ T.opq) (l₀ := .ref C :: bm) ?_ rfl X₂ hal (I₂.type.andThen (looks_subIn X₂ T.veC)) (ks_ne X₂ I₂ hcl) (by decide +kernel) ?_
  · exact fun A Q E s k q => wpAny_bind ((looks_clsIn X₂ hcl) A _ E s k (wpAny_pure q))
  have hu : (h₂.push (kxs_mw "ValueError.__init__" x)).get? h₂.objs.size = some (kxs_mw "ValueError.__init__" x) := Heap.get?_push_at rfl rfl
  have k₃ : ∀ b o, h₂.get? b = some o → (h₂.push (kxs_mw "ValueError.__init__" x)).get? b = some o := fun b o e => Heap.get?_push_of_some _ e
  let H₃ := h₂.push (kxs_mw "ValueError.__init__" x)
  refine kxs_callWith1 (i := "ValueError.__init__") (x := x) (u := h₂.objs.size) (h₀ := Att.noObjs H₃) (L := h₂.objs.size + 7) (news := [(h₂.objs.size, kxs_mw "ValueError.__init__" x)]) (fun q hq => ?_) (List.Mem.head _) ?_
  · rcases List.mem_cons.mp hq with rfl | hq
    · exact ⟨hu, by show h₂.objs.size ≠ h₂.objs.size + 7; omega, Att.noObjs_get _ _⟩
    · cases hq
  refine wpAny_items_cons (Constant_str ?_)
  refine wpAny_items_nil ⟨hu, ?_⟩
  have X₃ : K.In (h₂.push (kxs_mw "ValueError.__init__" x)) := X₂.keeps k₃
  refine call_bound (X₃ _ _ hC) (k₃ _ _ hx₂) hu (by rw [sizeLine_eq]; exact (by decide : 1 ≤ 16777216)) fun h₄ k₄ e₄ => ?_
  -- self.fl = par
  have k14 : ∀ b o, b ≠ x → h₁.get? b = some o → h₄.get? b = some o := fun b o hb e => k₄ b o hb (k₃ b o (k₂ b o e))
  have xL : s.heap.objs.size ≠ x := Nat.ne_of_gt (Heap.lt_size hx)
  obtain ⟨oL, es, ep, hL, hr⟩ := hns
  have hns₄ : h₄.Ns s.heap.objs.size (fun y => ([(("self" : Str), Value.ref x), (par, v)] : List (Str × Value)).reverse.lookup y) := ⟨oL, es, ep, k14 _ _ xL hL, hr⟩
  have X₄ : K.In h₄ := fun a o e => k₄ a o (fun z => by rw [z, hnx] at e; cases e) (X₃ a o e)
  refine wpAt_of_wpAny (wpAny_execs_cons (plainObj_wpAny_Assign_Attribute ?_))
  refine wpAny_Name (wpAny_loadName_local rfl hloc hns₄ hpar ?_) hp1
  refine wpAny_Name (wpAny_loadName_local rfl rfl hns₄ hself ?_) (by decide)
  refine set_plain X₄ (ox := excO C h₂.objs.size.succ) (od := none) ⟨?_, rfl, rfl, trivial⟩ T.sa ?_
  · show h₄.get? x = some (excO C h₂.objs.size.succ)
    rw [e₄, Heap.size_push]
  have e₄' : h₄.get? x = some (excO C h₂.objs.size.succ) := by
    rw [e₄, Heap.size_push]
  refine exc_osa X₄ e₄' hcl (show refsVE (.ref C :: bm) = true from hbm) rfl T.noN (fun h₅ tk₅ dx k₅ dn dne hx₅ hn₅ => ?_)
  have z1 : s.heap.objs.size < h₄.objs.size := Heap.lt_size (k14 _ _ xL hL)
  refine wpAny_execs_nil (hq h₅ tk₅ _ dx ⟨fun b o hb e => k₅ b o hb (k14 b o hb (hk₁ b o e)), hx₅, Nat.le_of_lt (Nat.lt_of_lt_of_le z1 dn), dne, hn₅⟩)
theorem one_le (v : Value) : [v].length ≤ sizeLine := by
  rw [sizeLine_eq]
  exact (by decide : 1 ≤ 16777216)
/-- a made error -/
structure Made (fl : Str) (h h' : Heap) (e C d : Addr) (v : Value) : Prop where
  keep : ∀ b o, h.get? b = some o → h'.get? b = some o
  new : h.objs.size ≤ e
  obj : ∃ oe vs, h'.get? e = some oe ∧ oe.cls = .ref C ∧ oe.dict = some d ∧ oe.data = .fields vs ∧ vs[1]? = some .none ∧ vs[2]? = some .none ∧ 4 < vs.size
  dbig : h.objs.size ≤ d
  dne : d ≠ e
  ns : h'.Ns1 d (fun y => if y = fl then some v else none)
/-- the names of such an __init__ -/
structure Par (par : Str) : Prop where
  p1 : (par == ("__debug__" : Str)) = false
  p2 : ¬ par = "self"
  p3 : (sco par).names.lookup par = some .local
  p4 : (sco par).names.lookup ("super" : Str) = some .globalImplicit
  p5 : (sco par).names.lookup ("__class__" : Str) = some .free
theorem made_ok {v : Value} (T : Txt prog K mg par fl C fI) (p : Par par) (X : K.In s.heap) (G : s.heap.Ns mainGlobals mg) (B : s.heap.Ns builtinsNs mb) (hb : mb "super" = some (.type "super")) (hlim : s.heap.NoLimit) (hroom : A.depth + 1 < recursionLimit)
    (hq : ∀ h' tk e d, Made fl s.heap h' e C d v → R (.ok (.ret (.ref e))) { s with heap := h', toks := tk }) :
    codeAny (model prog w) A (.call (.ref C) ⟨[v], []⟩) R s := by
  obtain ⟨nm, q, N, bs, bm, sn, sub, ab, col, dd, k0, k1, k2, k3, k5, hC, hbm⟩ := T.cls
  obtain ⟨hp, g, dr, tk, os⟩ := s
  let hp2 := (hp.push (kdv_tup [v])).push (excO C hp.objs.size)
  have k : ∀ b o, hp.get? b = some o → hp2.get? b = some o := fun b o e => Heap.get?_push_of_some _ (Heap.get?_push_of_some _ e)
  have hget : hp2.get? (hp.objs.size + 1) = some (excO C hp.objs.size) := by
    show ((hp.push (kdv_tup [v])).push (excO C hp.objs.size)).get? (hp.objs.size + 1) = _
    heap_get
  have hsz : hp2.objs.size = hp.objs.size + 2 := by
    show ((hp.push (kdv_tup [v])).push (excO C hp.objs.size)).objs.size = _
    rw [Heap.size_push, Heap.size_push]
  have hnx : K.lookup (hp.objs.size + 1) = none := by
    cases e : K.lookup (hp.objs.size + 1) with
    | none => rfl
    | some o => exact absurd (Nat.lt_of_succ_lt (Heap.lt_size (show hp.get? _ = some o from X _ _ e))) (Nat.lt_irrefl _)
  refine call_own F.excBase_ValueError (fun Y => refsVE_contains Y bm hbm) (X _ _ hC) (looks_findIn X T.iC) (fun self => bind_fn X self T.tC) (one_le v) ?_
  refine init_ok (s := ⟨hp2, g, dr, tk, os⟩) T (X.keeps k) (G.keeps k) (B.keeps k) hb (hlim.keeps k) hget hnx (show A.depth + 1 < recursionLimit from hroom) p.p1 p.p2 p.p3 p.p4 p.p5 fun h' tk' t1 dx ⟨k', hx, dn, dne, hns⟩ => ?_
  have old : ∀ b o, hp.get? b = some o → h'.get? b = some o := fun b o e => k' b o (Nat.ne_of_lt (Nat.lt_succ_of_lt (Heap.lt_size e))) (k b o e)
  have dn' : hp2.objs.size ≤ dx := dn
  rw [hsz] at dn'
  exact ⟨rfl, hq h' tk' (hp.objs.size + 1) dx ⟨old, Nat.le_succ _, ⟨_, _, hx, rfl, rfl, rfl, rfl, rfl, (show 4 < 6 by decide)⟩, (by show hp.objs.size ≤ dx; omega), dne, hns⟩⟩
end
end BadX
end PySem
namespace L2
open PySem PySem.Spec PyProof.Rows
theorem relO_one {v : V} {v' : Value} (r : RelV v v') (fl f : Str) : RelO (List.lookup f [(fl, v)]) (if f = fl then some v' else none) := by
  by_cases hw : f = fl
  · subst hw
    rw [if_pos rfl]
    have q : List.lookup f [(f, v)] = some v := by simp [List.lookup]
    rw [q]
    exact r
  · rw [if_neg hw]
    have qw : (f == fl) = false := by simpa using hw
    have q2 : List.lookup f [(fl, v)] = none := by simp [List.lookup, qw]
    rw [q2]
    trivial
section
variable {X : Cx} {C fI : Addr}
/-- Cls(e), an own error with the one field fl -/
def tMkB (fl : Str) (C : Addr) (ta : TA) : St → Hp → XK → Prop := fun σ H Q => ta σ H fun vs H1 => ∃ v, vs = [v] ∧ ∀ d, H1 d = none → Q (.ref C) (some d) (upd H1 d (.xd [(fl, v)]))
theorem pmk_bad {x par fl : Str} {a : Expr} {ta : TA} {p pos : Pos} {k : Nat} (T : PySem.BadX.Txt X.prog X.K X.mg par fl C fI) (pr : PySem.BadX.Par par) (hm : X.mg x = some (.ref C)) (hr : Room k X.A) (ha : PA X [a] ta) (hg : Gl X x)
    (hdb : (x == ("__debug__" : Str)) = false := by decide)
    (he : starEach (a :: []) X.env = (false, eval a X.env) :: starEach [] X.env := by rfl) (hpl : (backTo pos (starEach [] X.env)).any (·.1) = false := by rfl) :
    PMk X (.Call (.Name x p) [a] [] pos) (tMkB fl C ta) := by
  intro pins s σ H Q I h
  refine wpAny_Call_Name_kw (ld_glob I hg hm ?_ hdb)
  refine PySem.W.callWith_K (h₀ := X.base) I.ok.mod.kin T.kC (thn (ha.run pos pins s σ H _ I h) fun us s1 hh => ?_) he hpl
  obtain ⟨vs, H1, I1, r1, v, ev, q1⟩ := hh
  subst ev
  refine ⟨I1.kIn, ?_⟩
  cases r1 with
  | cons rv rn =>
    rename_i v' us'
    cases rn
    show wpAny _ _ (call (.ref C) [v']) _ _ _
    have hlim := I1.nolimit
    obtain ⟨mb, hb1, hb2⟩ := I1.mod.blt
    have Gn : s1.heap.Ns mainGlobals X.mg := I1.mod.glob.keeps I1.bk
    have Bn : s1.heap.Ns builtinsNs mb := hb1.keeps I1.bk
    have hbs : mb "super" = some (.type "super") := (hb2 _ (by decide +kernel)).trans (by first | boot_by_name | rfl | kernel_rfl)
    obtain ⟨hp, g, dr, tk, os⟩ := s1
    refine wpAny_call (PySem.BadX.made_ok T pr I1.kIn Gn Bn hbs hlim (by have := hr.dp; omega) fun h' tk' e d M => ?_)
    show MkP X pins σ Q (.ref e) ⟨h', g, dr, tk', os⟩
    obtain ⟨oe, fv, hoe, hc, hd, hdat, h1, _⟩ := M.obj
    have hns := M.ns
    obtain ⟨G', g1, g2⟩ := restrict h' fun b => decide (b ≠ e)
    have gk : ∀ b, b ≠ e → G'.get? b = h'.get? b := fun b hb => g1 b (decide_eq_true hb)
    have ge : G'.get? e = none := g2 e (by simp)
    have old : ∀ b o, hp.get? b = some o → G'.get? b = some o := fun b o q => (gk b (Nat.ne_of_lt (Nat.lt_of_lt_of_le (Heap.lt_size q) M.new))).trans (M.keep b o q)
    have ob : ObjOk X.prog X.w (upd H1 d (.xd [(fl, v)])) G' d (.xd [(fl, v)]) :=
      ⟨_, hns.at (fun o q => (gk d M.dne).trans q), fun f => relO_one rv fl f⟩
    have J : Inv X pins σ (upd H1 d (.xd [(fl, v)])) ⟨G', g, dr, tk', os⟩ := I1.laid (t' := tk') old M.dbig ob
    refine ⟨e, oe, fv, ⟨G', g, dr, tk', os⟩, _, .ref C, some d, rfl, J, fun b o q => ?_, ge, hoe, ⟨hc, hd⟩, hdat, h1, ?_, rfl, I1.bare, raises_own T.exC T.tyC, q1 d (I1.hok.fresh M.dbig)⟩
    · by_cases hb : b = e
      · have q' : G'.get? b = some o := q
        rw [hb, ge] at q'; cases q'
      · exact (gk b hb).symm.trans q
    · rw [upd_ne (Ne.symm M.dne)]
      exact I1.hok.fresh M.new
/-- raise Cls(e) -/
def tRaiseB (fl : Str) (C : Addr) (W : WX) (ta : TA) : TS := fun _ σ H => tMkB fl C ta σ H fun cls d H' => W cls d σ H'
theorem ps_raiseB {x par fl : Str} {a : Expr} {ta : TA} {W : WX} {p pos pos2 : Pos} {k : Nat} (hc : X.calm = true) (T : PySem.BadX.Txt X.prog X.K X.mg par fl C fI) (pr : PySem.BadX.Par par) (hm : X.mg x = some (.ref C)) (hr : Room k X.A) (tk : Takes X W) (ha : PA X [a] ta) (hg : Gl X x)
    (hdb : (x == ("__debug__" : Str)) = false := by decide)
    (he : starEach (a :: []) X.env = (false, eval a X.env) :: starEach [] X.env := by rfl) (hpl : (backTo pos (starEach [] X.env)).any (·.1) = false := by rfl) :
    PS X (.Raise (some (.Call (.Name x p) [a] [] pos)) none pos2) (tRaiseB fl C W ta) := ps_raise hc tk (pmk_bad T pr hm hr ha hg hdb he hpl)
end
end L2

set_option Elab.async false
set_option linter.all false
set_option maxRecDepth 100000
set_option maxHeartbeats 4000000
namespace Ash
open PySem PySem.Spec PyProof.Rows L2
abbrev topS (i : Nat) : Stmt := PySem.Challenge.pw_asofhall_k74_whole_closed_one_behind_the.main.body.getD i (.Pass ⟨0, 0, 0, 0⟩)
/-- a def of the top by its name, with its promise -/
structure Cal (P : Program) (w : World) (K : PySem.W.Frag) (mg : Str → Option Value) (base : Heap) (CX : CXT) (x : Str) (k : Nat) (ps : List Str) (sp : Sp) : Prop where
  ex : ∃ f fd, mg x = some (.ref f) ∧ PySem.W.keepIn K (.ref f) = true ∧ Binds K fd ps [] ∧ FnOk P w K mg base CX k f fd ps sp
section
variable {X : Cx} {CX : CXT} {k j : Nat} {ps : List Str} {sp : Sp} {E : XK} {x : Str} {p pos : Pos} {e : Expr} {es : List Expr} {t : TA}
theorem pe_cal (G : Cal X.prog X.w X.K X.mg X.base CX x k ps sp) (hr : Room k X.A) (hx : Passes CX X E) (ha : PA X (e :: es) t) (hg : Gl X x := by rfl)
    (hdb : (x == ("__debug__" : Str)) = false := by decide) (he : starEach (e :: es) X.env = (false, eval e X.env) :: starEach es X.env := by rfl) (hpl : (backTo pos (starEach es X.env)).any (·.1) = false := by rfl) :
    PE X (.Call (.Name x p) (e :: es) [] pos) (tCall sp [] E t) := by
  obtain ⟨f, fd, hm, hk, hb, F⟩ := G.ex
  exact pe_call F hr hg hm hk hb .nil hx ha hdb he hpl
theorem pe_calS {E : L2.St → XK} (G : Cal X.prog X.w X.K X.mg X.base CX x k ps sp) (hr : Room k X.A) (hx : ∀ σ, PassesAt CX X σ (E σ)) (ha : PA X (e :: es) t) (hg : Gl X x := by rfl)
    (hdb : (x == ("__debug__" : Str)) = false := by decide) (he : starEach (e :: es) X.env = (false, eval e X.env) :: starEach es X.env := by rfl) (hpl : (backTo pos (starEach es X.env)).any (·.1) = false := by rfl) :
    PE X (.Call (.Name x p) (e :: es) [] pos) (tCallSD sp [] E t) := by
  obtain ⟨f, fd, hm, hk, hb, F⟩ := G.ex
  exact pe_callSD F hr hg hm hk hb .nil hx ha hdb he hpl
/-- a class by its name, with its __init__'s promise -/
structure Mak (P : Program) (w : World) (K : PySem.W.Frag) (mg : Str → Option Value) (base : Heap) (CX : CXT) (x : Str) (C : Addr) (k : Nat) (ps : List Str) (sp : Sp) : Prop where
  ex : ∃ f fd, Mk K C f ∧ mg x = some (.ref C) ∧ Binds K fd ps [] ∧ FnOk P w K mg base CX k f fd ps sp
theorem pe_mak {C : Addr} (G : Mak X.prog X.w X.K X.mg X.base CX x C k ps sp) (hr : Room (k + 1) X.A) (hx : Passes CX X E) (ha : PA X (e :: es) t) (hg : Gl X x := by rfl)
    (hdb : (x == ("__debug__" : Str)) = false := by decide) (he : starEach (e :: es) X.env = (false, eval e X.env) :: starEach es X.env := by rfl) (hpl : (backTo pos (starEach es X.env)).any (·.1) = false := by rfl) :
    PE X (.Call (.Name x p) (e :: es) [] pos) (tMake C sp [] E t) := by
  obtain ⟨f, fd, M, hm, hb, F⟩ := G.ex
  exact pe_make M F hr hg hm hb .nil hx ha hdb he hpl
/-- int(n) of an int -/
theorem call_intI : CallR X (.type "int") (fun xs H Q => ∃ i, xs = [.int i] ∧ Q (.int i) H) := by
  intro pins s σ H xs us Q I r h
  exact call_int1 pins s σ H xs us Q I r (.inl h)
end
/-- what is wanted of an exception at any slots of the def -/
def WEl (X : Cx) (W : WX) : XK := fun cls d H => ∀ σ : L2.St, σ.length = X.N.length → W cls d σ H
theorem passW {X : Cx} {W : WX} (tk : Takes X W) : Passes (L2.CX X.prog X.w) X (WEl X W) := fun _ σ _ _ e s' I c => tk e s' (XE.of_call I (fun cls d H' h => h σ I.len) c)
theorem passE {X : Cx} {E : XK} (tk : Takes X (fun cls d _ H => E cls d H)) : Passes (L2.CX X.prog X.w) X E := passes_call tk fun _ _ _ _ h => h
/-- a method of a class, with its promise -/
structure Met (P : Program) (w : World) (K : PySem.W.Frag) (mg : Str → Option Value) (base : Heap) (CX : CXT) (C : Addr) (m : Str) (k : Nat) (ps : List Str) (sp : Sp) : Prop where
  ex : ∃ f fd, Meth K C m f ∧ Binds K fd ps [] ∧ FnOk P w K mg base CX k f fd ps sp
/-- a dict comprehension over a walk: as lc_it -/
theorem dc_it {J : It} {n : Nat} {W0 : Hp → Prop} {Y : Nat → Hp → V → Hp → Prop} (wk : Walk J n W0 Y) {g : TG} {tt : TT} {tk tv : TE} {vs : List Nat} {σ : L2.St} {H1 : Hp} {D : Addr} {Qd : Hp → Prop} (Pv : Nat → Hp → Prop) (h0 : Pv 0 (upd H1 D (.dK []))) (hG : ∀ i H, i ≤ n → Pv i H → W0 H)
    (hs : ∀ i x H H', i < n → Pv i H → Y i H x H' → g x (wipe σ vs) H' fun σ2 H2 => wipe σ2 vs = wipe σ vs ∧ tt σ2 H2 fun b H3 =>
      if b = true then tk σ2 H3 fun y H4 => tv σ2 H4 fun z H5 => ∃ kvs k, y = kV k ∧ H5 D = some (.dK kvs) ∧ kvs.length < sizeLine ∧ Pv (i + 1) (upd H5 D (.dK (putK kvs k z))) else Pv (i + 1) H3) (hd : ∀ H, Pv n H → Qd H) :
    ∃ W : Nat → Nat → Hp → Prop, (∃ m, W 0 m (upd H1 D (.dK []))) ∧ ∀ i m H, W i m H →
      (J.stop i H ∧ Qd H) ∨ (J.go i H ∧ ∃ Nx : Hp → Prop, (∀ H', Nx H' → ∃ m', m' < m ∧ W (i + 1) m' H') ∧ ∀ x H', J.yld i H x H' → g x (wipe σ vs) H' fun σ2 H2 => wipe σ2 vs = wipe σ vs ∧ tt σ2 H2 fun b H3 =>
        if b = true then tk σ2 H3 fun y H4 => tv σ2 H4 fun z H5 => ∃ kvs k, y = kV k ∧ H5 D = some (.dK kvs) ∧ kvs.length < sizeLine ∧ Nx (upd H5 D (.dK (putK kvs k z))) else Nx H3) := by
  refine ⟨fun i m H => (m + i = n) ∧ Pv i H, ⟨n, rfl, h0⟩, ?_⟩
  rintro i m H ⟨hm, pv⟩
  by_cases c : i < n
  · refine .inr ⟨wk.goes i H c (hG i H (by omega) pv), Pv (i + 1), fun H' pv' => ⟨m - 1, by omega, by omega, pv'⟩, fun x H' y => ?_⟩
    exact hs i x H H' c pv (wk.yields i H x H' c (hG i H (by omega) pv) y)
  · have : i = n := by omega
    subst this
    exact .inl ⟨wk.stops H (hG _ H (Nat.le_refl _) pv), hd H pv⟩
/-- the built-in names that the top leaves alone -/
structure Blt (mg : Str → Option Value) : Prop where
  len : mg "len" = none
  int : mg "int" = none
  bool : mg "bool" = none
  str : mg "str" = none
  list : mg "list" = none
  tuple : mg "tuple" = none
  dict : mg "dict" = none
  isinstance : mg "isinstance" = none
  all : mg "all" = none
  range : mg "range" = none
  enumerate : mg "enumerate" = none
  sorted : mg "sorted" = none
  min : mg "min" = none
  max : mg "max" = none
  set : mg "set" = none
/-- data without depth -/
def flatD : PyData → Bool
  | .none => true
  | .bool _ => true
  | .int _ => true
  | .str x => PyData.strOk x
  | _ => false
theorem flat_lay : ∀ {ds : List PyData}, ds.all flatD = true → PyData.canLayAll0 ds = true ∧ PyData.depthAll ds ≤ 1
  | [], _ => by simp [PyData.canLayAll0, PyData.depthAll]
  | d :: ds, h => by
    rw [List.all_cons, Bool.and_eq_true] at h
    obtain ⟨h1, h2⟩ := flat_lay h.2
    cases d with
    | none => simp [PyData.canLayAll0, PyData.depthAll, PyData.canLay0, PyData.depth, h1, h2]
    | bool b => simp [PyData.canLayAll0, PyData.depthAll, PyData.canLay0, PyData.depth, h1, h2]
    | int b => simp [PyData.canLayAll0, PyData.depthAll, PyData.canLay0, PyData.depth, h1, h2]
    | str b =>
      have hb : PyData.strOk b = true := h.1
      simp [PyData.canLayAll0, PyData.depthAll, PyData.canLay0, PyData.depth, h1, h2, hb]
    | _ => exact absurd h.1 (by simp [flatD])
theorem shaped_flat {ds : List PyData} (h : ds.all flatD = true) : SeqAt.shaped (.tuple ds) = true := by
  obtain ⟨h1, h2⟩ := flat_lay h
  unfold SeqAt.shaped
  simp [PyData.canLay0, PyData.depth, h1]
  omega
/-- all but p stands -/
def But (p : Addr) (H H' : Hp) : Prop := ∀ b o, H b = some o → b ≠ p → H' b = some o
theorem But.refl (p : Addr) (H : Hp) : But p H H := fun _ _ h _ => h
theorem But.trans {p : Addr} {H H1 H2 : Hp} (a : But p H H1) (b : But p H1 H2) : But p H H2 := fun c o h n => b c o (a c o h n) n
theorem But.upd {p : Addr} {H H' : Hp} {o : HO} (a : But p H H') : But p H (L2.upd H' p o) := fun c u h n => by rw [upd_ne n]; exact a c u h n
theorem But.new {p q : Addr} {H H' : Hp} {o : HO} (a : But p H H') (h : H' q = none) (hp : H q = none ∨ q ≠ p := by first | exact .inl ‹_› | exact .inr ‹_›) : But p H (L2.upd H' q o) := fun c u hc n => by
  rw [upd_ne]
  · exact a c u hc n
  · intro z
    subst z
    rw [a c u hc n] at h
    cases h
theorem But.at {p q : Addr} {H H' : Hp} {o : HO} (a : But p H H') (h : H q = none) : But p H (L2.upd H' q o) := fun c u hc n => by
  rw [upd_ne (ne_of_none hc h)]
  exact a c u hc n
theorem sameAt {q : Addr} {H H' : Hp} {o : HO} (a : Same H H') (h : H q = none) : Same H (L2.upd H' q o) := fun c u hc => by
  rw [upd_ne (ne_of_none hc h)]
  exact a c u hc
theorem But.same {p : Addr} {H H' : Hp} (a : Same H H') : But p H H' := fun c o h _ => a c o h
theorem Same.new {q : Addr} {H H' : Hp} {o : HO} (a : Same H H') (h : H' q = none) : Same H (upd H' q o) := fun c u hc => by
  rw [upd_ne (ne_of_none (a c u hc) h)]
  exact a c u hc
theorem But.seq {K : PySem.W.Frag} {p a : Addr} {H H' : Hp} {xs : List V} (e : But p H H') (hn : ∀ o, H p = some o → ∀ ys, o ≠ .lst ys → True) (h : H a = some (.lst xs)) (n : a ≠ p) : SqL K H' a xs := .of (e _ _ h n)
end Ash

set_option Elab.async false
set_option linter.all false
set_option maxRecDepth 100000
set_option maxHeartbeats 4000000
namespace Ash
open PySem PySem.Spec PyProof.Rows L2
open C8 (pss_cut)
/-- the pool of drawn numbers at p, the script's copy at s -/
def PoolAt (H : Hp) (p s : Addr) : Prop := ∃ (ns : List Int) (i c k n : Int), H p = some (.lst [.ref s, .int i, .int c, .int k, .int n]) ∧ H s = some (.lst (ns.map V.int)) ∧ 0 ≤ i ∧ s ≠ p
theorem PoolAt.same {H H' : Hp} {p s : Addr} (h : PoolAt H p s) (e : Same H H') : PoolAt H' p s := by
  obtain ⟨ns, i, c, k, n, h1, h2, h3, h4⟩ := h
  exact ⟨ns, i, c, k, n, e _ _ h1, e _ _ h2, h3, h4⟩
theorem PoolAt.off {H : Hp} {p s q : Addr} {o : HO} (h : PoolAt H p s) (hp : q ≠ p) (hs : q ≠ s) : PoolAt (L2.upd H q o) p s := by
  obtain ⟨ns, i, c, k, n, h1, h2, h3, h4⟩ := h
  exact ⟨ns, i, c, k, n, by rw [upd_ne hp.symm]; exact h1, by rw [upd_ne hs.symm]; exact h2, h3, h4⟩
/-- from H0 to H nothing that was tracked has changed but the pool -/
structure Pl (H0 H : Hp) (p s : Addr) : Prop where
  now : PoolAt H p s
  op : H0 p ≠ none
  os : H0 s ≠ none
  but : But p H0 H
section
variable {H0 H H1 : Hp} {p s q : Addr} {o : HO}
theorem PoolAt.ne (h : PoolAt H p s) : H p ≠ none ∧ H s ≠ none := by
  obtain ⟨ns, i, c, k, n, h1, h2, h3, h4⟩ := h
  rw [h1, h2]
  exact ⟨Option.some_ne_none _, Option.some_ne_none _⟩
theorem Pl.refl (h : PoolAt H p s) : Pl H H p s := ⟨h, h.ne.1, h.ne.2, But.refl p H⟩
theorem Pl.at (h : Pl H0 H p s) (hq : H0 q = none) : Pl H0 (L2.upd H q o) p s :=
  ⟨h.now.off (fun z => h.op (z ▸ hq)) (fun z => h.os (z ▸ hq)), h.op, h.os, h.but.at hq⟩
theorem Pl.keep (h : Pl H0 H p s) {b : Addr} {u : HO} (e : H0 b = some u) (n : b ≠ p) : H b = some u := h.but b u e n
theorem Pl.free (h : Pl H0 H p s) (hq : H q = none) : H0 q = none := by
  cases e : H0 q with
  | none => rfl
  | some u =>
    by_cases hp : q = p
    · exact absurd (hp ▸ hq) h.now.ne.1
    · rw [h.but q u e hp] at hq
      cases hq
theorem Pl.trans (a : Pl H0 H p s) (b : Pl H H1 p s) : Pl H0 H1 p s := ⟨b.now, a.op, a.os, a.but.trans b.but⟩
/-- a new thing -/
theorem Pl.new (h : Pl H0 H p s) (hq : H q = none) : Pl H0 (L2.upd H q o) p s := h.at (h.free hq)
theorem Pl.same (h : Pl H0 H p s) (e : Same H H1) : Pl H0 H1 p s := ⟨h.now.same e, h.op, h.os, fun b u hb n => e b u (h.but b u hb n)⟩
end
def spPool (K : PySem.W.Frag) : Sp := fun vs H Q _ => ∃ (a : Addr) (ns : List Int), vs = [.ref a] ∧ SqL K H a (ns.map V.int) ∧ ∀ p s H', H p = none → PoolAt H' p s → Same H H' → Q (.ref p) H'
def spDraw : Sp := fun vs H Q _ => ∃ (p s : Addr) (many : Int), vs = [.ref p, .int many] ∧ PoolAt H p s ∧ 0 < many ∧ many < 2 ^ 200 ∧ ∀ (d : Int) H', 0 ≤ d → d < many → Pl H H' p s → Q (.int d) H'
section
variable {P : Program} {w : World} {K : PySem.W.Frag} {mg : Str → Option Value} {base : Heap}
abbrev s_l_pool : Stmt := topS 41
theorem sc_l_pool : FnScope ["_law_script"] ["_law_script"] (defScope s_l_pool) := ⟨rfl, rfl, rfl, by decide +kernel, rfl, by decide +kernel, by decide +kernel⟩
theorem ok_pool {f : Addr} {fd : FuncData} (F : Fun K "_law_pool" "_law_pool" s_l_pool f fd) (B : Blt mg) : FnOk P w K mg base CX0 1 f fd ["_law_script"] (spPool K) := by
  refine F.ok sc_l_pool (fun vs H Q E h => ?_) (fun cdv A outer s H vs Q E hr h => ?_)
  · obtain ⟨a, ns, rfl, _⟩ := h
    rfl
  · obtain ⟨a, ns, rfl, hS, k⟩ := h
    refine ⟨_, (pss_one (ps_ret (pe_lst (pa_cons (pe_callTy call_list_of (by rfl) B.list (by decide +kernel) (pa_cons (pv 0) pa_nil)) (pa_cons pe_int (pa_cons pe_int (pa_cons pe_int (pa_cons pe_int pa_nil)))))))), ?_⟩
    refine ⟨_, rfl, _, _, rfl, .inl hS, fun l hl => ⟨(by show 5 ≤ sizeLine; decide), fun p hp => ?_⟩⟩
    have hpl : l ≠ p := fun z => by rw [z, upd_same] at hp; cases hp
    have hp0 : H p = none := by rw [upd_ne (Ne.symm hpl)] at hp; exact hp
    refine k p l _ hp0 ⟨ns, _, _, _, _, upd_same, (by rw [upd_ne hpl, upd_same]), (by decide), hpl⟩ ?_
    exact Same.new (Same.new (Same.refl H) hl) hp
abbrev s_l_draw : Stmt := topS 42
theorem sc_l_draw : FnScope ["_law_pool_here", "_law_many", "_law_cell", "_law_digit", "_law_number"] ["_law_pool_here", "_law_many"] (defScope s_l_draw) := ⟨rfl, rfl, rfl, by decide +kernel, rfl, by decide +kernel, by decide +kernel⟩
theorem ok_draw {f : Addr} {fd : FuncData} (F : Fun K "_law_draw" "_law_draw" s_l_draw f fd) (B : Blt mg) : FnOk P w K mg base CX0 1 f fd ["_law_pool_here", "_law_many"] spDraw := by
  refine F.ok sc_l_draw (fun vs H Q E h => ?_) (fun cdv A outer s H vs Q E hr h => ?_)
  · obtain ⟨p, _, many, rfl, _⟩ := h
    rfl
  · obtain ⟨p, s, many, rfl, hPP, hm, hm2, kk⟩ := h
    obtain ⟨ns, i, c, k, n, hp, hs, hi, hsp⟩ := id hPP
    refine ⟨_, (pss_cons (ps_asg (pe_op op_add (pe_ix ix_list (pv 0) pe_int (fun _ _ => rfl)) pe_int) (pg_sub (pv 0) pe_int set_list))
    (pss_cut (ps_if (PW.pt (pw_and (pt_cmpR op_eq (pe_ix ix_list (pv 0) pe_int (fun _ _ => rfl)) pe_int (nomark _)) (pw_and1 (pt_cmpR op_lt (pe_ix ix_list (pv 0) pe_int (fun _ _ => rfl)) (pe_callB call_len_seq (by rfl) B.len (by decide +kernel) (pa_cons (pe_ix ix_list (pv 0) pe_int (fun _ _ => rfl)) pa_nil)) (nomark _)))))
      (pss_cons (ps_set (i := 2) sc_l_draw.nd rfl (Or.inl rfl) (pe_callTy call_intI (by rfl) B.int (by decide +kernel) (pa_cons (pe_ix ix_list (pe_ix ix_list (pv 0) pe_int (fun _ _ => rfl)) (pe_ix ix_list (pv 0) pe_int (fun _ _ => rfl)) (fun _ _ => rfl)) pa_nil)))
      (pss_cons (ps_asg (pe_op op_add (pe_ix ix_list (pv 0) pe_int (fun _ _ => rfl)) pe_int) (pg_sub (pv 0) pe_int set_list))
      (pss_one (ps_if (pt_cmpR op_ge (pv 2) (pe_op op_pow pe_int pe_int) (nomark _))
        (pss_one (ps_asg (pv 2) (pg_sub (pv 0) pe_int set_list)))
        (pss_one (ps_asg (pe_op op_mod (pe_callTy call_intI (by rfl) B.int (by decide +kernel) (pa_cons (pe_op op_add (pe_op op_add (pe_op op_mul (pe_ix ix_list (pv 0) pe_int (fun _ _ => rfl)) pe_int) (pe_op op_mul (pv 2) pe_int)) pe_int) pa_nil)) pe_int) (pg_sub (pv 0) pe_int set_list)))))))
      pss_nil)
    (pss_cons (ps_if (pt_cmpR op_gt (pe_ix ix_list (pv 0) pe_int (fun _ _ => rfl)) pe_int (nomark _))
      (pss_cons (ps_set (i := 3) sc_l_draw.nd rfl (Or.inl rfl) (pe_op op_mod (pe_callTy call_intI (by rfl) B.int (by decide +kernel) (pa_cons (pe_ix ix_list (pv 0) pe_int (fun _ _ => rfl)) pa_nil)) (pv 1)))
      (pss_cons (ps_asg (pe_op op_fdivW (pe_callTy call_intI (by rfl) B.int (by decide +kernel) (pa_cons (pe_ix ix_list (pv 0) pe_int (fun _ _ => rfl)) pa_nil)) (pv 1)) (pg_sub (pv 0) pe_int set_list))
      (pss_one (ps_ret (pv 3)))))
      pss_nil)
    (pss_cons (ps_set (i := 4) sc_l_draw.nd rfl (Or.inl rfl) (pe_op op_mod (pe_callTy call_intI (by rfl) B.int (by decide +kernel) (pa_cons (pe_op op_add (pe_op op_add (pe_ix ix_list (pv 0) pe_int (fun _ _ => rfl)) (pe_op op_mul (pe_ix ix_list (pv 0) pe_int (fun _ _ => rfl)) pe_int)) pe_int) pa_nil)) pe_int))
    (pss_cons (ps_set (i := 4) sc_l_draw.nd rfl (Or.inl rfl) (pe_op op_mod (pe_callTy call_intI (by rfl) B.int (by decide +kernel) (pa_cons (pe_op op_mul (pv 4) (pe_op op_add (pe_op op_fdiv (pv 4) pe_int) pe_int)) pa_nil)) pe_int))
    (pss_cons (ps_set (i := 4) sc_l_draw.nd rfl (Or.inl rfl) (pe_op op_mod (pe_callTy call_intI (by rfl) B.int (by decide +kernel) (pa_cons (pe_op op_mul (pv 4) (pe_op op_add (pe_op op_fdiv (pv 4) pe_int) pe_int)) pa_nil)) pe_int))
    (pss_cons (ps_asg (pv 4) (pg_sub (pv 0) pe_int set_list))
    (pss_one (ps_ret (pe_op op_mod (pe_callTy call_intI (by rfl) B.int (by decide +kernel) (pa_cons (pe_op op_fdiv (pv 4) pe_int) pa_nil)) (pv 1))))))))))), ?_⟩
    -- pool[3] = pool[3] + 1
    refine ⟨_, rfl, _, _, _, _, rfl, rfl, SqL.of hp, rfl, _, _, rfl, rfl, _, rfl, _, _, _, _, rfl, rfl, hp, rfl, ?_⟩
    -- the first if
    refine ⟨fun σ H1 => (∃ cell, σ = [some (.ref p), some (.int many), cell, none, none]) ∧ ∃ (i c k n : Int), H1 p = some (.lst [.ref s, .int i, .int c, .int k, .int n]) ∧ H1 s = some (.lst (ns.map V.int)) ∧ 0 ≤ i ∧ But p H H1, ?_, ?_⟩
    · generalize eH : upd H p (.lst _) = H1
      have hp1 : H1 p = some (.lst [.ref s, .int i, .int c, .int (k + 1), .int n]) := by rw [← eH]; exact upd_same
      have hs1 : H1 s = some (.lst (ns.map V.int)) := by rw [← eH, upd_ne hsp]; exact hs
      have hb1 : But p H H1 := by rw [← eH]; exact (But.refl p H).upd
      clear eH
      refine ⟨_, rfl, _, _, _, _, rfl, rfl, SqL.of hp1, rfl, rfl, _, rfl, ?_⟩
      refine ite2 (fun c2 => ?_) (fun c2 => ?_)
      · refine ⟨_, rfl, _, _, _, _, rfl, rfl, SqL.of hp1, rfl, _, rfl, _, _, _, _, rfl, rfl, SqL.of hp1, rfl, _, _, rfl, .inl (SqL.of hs1), _, _, rfl, rfl, _, rfl, ?_⟩
        refine ite2 (fun c3 => ?_) (fun c3 => ?_)
        · have c3' : i < (ns.map V.int).length := of_decide_eq_true c3
          obtain ⟨j, rfl⟩ : ∃ j : Nat, i = (j : Int) := ⟨i.toNat, by omega⟩
          have hj : j < ns.length := by rw [List.length_map] at c3'; omega
          -- cell = int(pool[0][pool[1]])
          refine ⟨_, rfl, _, _, _, _, rfl, rfl, SqL.of hp1, rfl, _, rfl, _, _, _, _, rfl, rfl, SqL.of hp1, rfl, _, _, _, V.int ns[j], rfl, rfl, SqL.of hs1, atI_nat (by rw [List.getElem?_map, List.getElem?_eq_getElem hj]; rfl), _, rfl, ?_⟩
          refine ⟨_, rfl, _, _, _, _, rfl, rfl, SqL.of hp1, rfl, _, _, rfl, rfl, _, rfl, _, _, _, _, rfl, rfl, hp1, rfl, ?_⟩
          refine ⟨_, rfl, _, _, rfl, rfl, ⟨by decide, by decide, by decide⟩, _, _, rfl, rfl, _, rfl, ?_⟩
          refine ite2 (fun c4 => ?_) (fun c4 => ?_)
          · refine ⟨_, rfl, _, rfl, _, _, _, _, rfl, rfl, upd_same, rfl, ⟨_, rfl⟩, _, _, _, _, upd_same, (by rw [upd_ne hsp, upd_ne hsp]; exact hs1), (by omega), hb1.upd.upd⟩
          · refine ⟨_, rfl, _, _, _, _, rfl, rfl, SqL.of upd_same, rfl, _, _, rfl, rfl, .inr ⟨by decide, by decide⟩, _, rfl, _, _, rfl, rfl, .inr ⟨by decide, by decide⟩, _, _, rfl, rfl, _, _, rfl, rfl, _, rfl, _, _, rfl, rfl, (by show (0 : Int) < 2147483647; decide), _, rfl, _, _, _, _, rfl, rfl, upd_same, rfl, ⟨_, rfl⟩, _, _, _, _, upd_same, (by rw [upd_ne hsp, upd_ne hsp]; exact hs1), (by omega), hb1.upd.upd⟩
        · exact ⟨⟨_, rfl⟩, _, _, _, _, hp1, hs1, hi, hb1⟩
      · exact ⟨⟨_, rfl⟩, _, _, _, _, hp1, hs1, hi, hb1⟩
    · rintro σ' H1 ⟨⟨cell, rfl⟩, i, c, k, n, hp1, hs1, hi, hb1⟩
      refine ⟨_, rfl, _, _, _, _, rfl, rfl, SqL.of hp1, rfl, _, _, rfl, rfl, _, rfl, ?_⟩
      refine ite2 (fun c2 => ?_) (fun c2 => ?_)
      · refine ⟨_, rfl, _, _, _, _, rfl, rfl, SqL.of hp1, rfl, _, rfl, _, rfl, _, _, rfl, rfl, hm, _, rfl, _, _, _, _, rfl, rfl, SqL.of hp1, rfl, _, rfl, _, rfl, _, _, rfl, rfl, wide_div (b := 200) hm (by omega) (by decide) (by decide), _, rfl, _, _, _, _, rfl, rfl, hp1, rfl, _, rfl, ?_⟩
        refine kk _ _ (Int.emod_nonneg _ (by omega)) (Int.emod_lt_of_pos _ hm) ⟨⟨ns, _, _, _, _, upd_same, (by rw [upd_ne hsp]; exact hs1), hi, hsp⟩, hPP.ne.1, hPP.ne.2, hb1.upd⟩
      · refine ⟨_, rfl, _, _, _, _, rfl, rfl, SqL.of hp1, rfl, _, rfl, _, _, _, _, rfl, rfl, SqL.of hp1, rfl, _, _, rfl, rfl, .inr ⟨by decide, by decide⟩, _, _, rfl, rfl, _, _, rfl, rfl, _, rfl, _, _, rfl, rfl, (by show (0 : Int) < 2147483647; decide), ?_⟩
        generalize ea : (n + k * 104729 + 1) % 2147483647 = a
        have a0 : 0 ≤ a := by rw [← ea]; exact Int.emod_nonneg _ (by decide)
        have a1 : a < 2147483647 := by rw [← ea]; exact Int.emod_lt_of_pos _ (by decide)
        refine ⟨_, rfl, _, rfl, _, _, rfl, rfl, ⟨by decide, by decide⟩, _, _, rfl, rfl, _, _, rfl, rfl, .inl ⟨by omega, by omega⟩, _, rfl, _, _, rfl, rfl, (by show (0 : Int) < 2147483647; decide), ?_⟩
        generalize eb : a * (a / 1009 + 69621) % 2147483647 = b
        have b0 : 0 ≤ b := by rw [← eb]; exact Int.emod_nonneg _ (by decide)
        have b1 : b < 2147483647 := by rw [← eb]; exact Int.emod_lt_of_pos _ (by decide)
        refine ⟨_, rfl, _, rfl, _, _, rfl, rfl, ⟨by decide, by decide⟩, _, _, rfl, rfl, _, _, rfl, rfl, .inl ⟨by omega, by omega⟩, _, rfl, _, _, rfl, rfl, (by show (0 : Int) < 2147483399; decide), ?_⟩
        refine ⟨_, rfl, _, rfl, _, _, _, _, rfl, rfl, hp1, rfl, _, rfl, _, _, rfl, rfl, ⟨by decide, by decide⟩, _, rfl, _, rfl, _, _, rfl, rfl, hm, ?_⟩
        refine kk _ _ (Int.emod_nonneg _ (by omega)) (Int.emod_lt_of_pos _ hm) ⟨⟨ns, _, _, _, _, upd_same, (by rw [upd_ne hsp]; exact hs1), hi, hsp⟩, hPP.ne.1, hPP.ne.2, hb1.upd⟩
end
end Ash

set_option Elab.async false
set_option linter.all false
set_option maxRecDepth 100000
set_option maxHeartbeats 4000000
namespace Ash
open PySem PySem.Spec PyProof.Rows L2
open C8 (pss_cut)
/-! ### names -/
def LET : List Nat := [97, 98, 99, 100, 101, 102, 103, 104, 105, 106, 107, 108, 109, 110, 111, 112, 113, 114, 115, 116, 117, 118, 119, 120, 121, 122]
abbrev abc : Str := "abcdefghijklmnopqrstuvwxyz"
theorem abc_let : abc.cps.toList = LET := by decide +kernel
theorem abc_size : abc.cps.size = 26 := by decide +kernel
/-- a name: 1 to 8 letters -/
def IsNm (z : Str) : Prop := 1 ≤ z.length ∧ z.length ≤ 8 ∧ ∀ c ∈ z.cps.toList, c ∈ LET
theorem let_small : ∀ c ∈ LET, c < 0x110000 := by decide
theorem nm_ok {z : Str} (h : IsNm z) : PyData.strOk z = true := by
  unfold PyData.strOk
  rw [← Array.all_toList, List.all_eq_true]
  exact fun c hc => decide_eq_true (let_small c (h.2.2 c hc))
theorem append_length (a b : Str) : (a ++ b).length = a.length + b.length := by
  show (a.cps ++ b.cps).size = a.cps.size + b.cps.size
  rw [Array.size_append]
theorem append_list (a b : Str) : (a ++ b).cps.toList = a.cps.toList ++ b.cps.toList := by
  show (a.cps ++ b.cps).toList = _
  rw [Array.toList_append]
theorem one_nm {c : Nat} (h : c ∈ LET) : IsNm ⟨#[c]⟩ := ⟨Nat.le_refl 1, (by show 1 ≤ 8; decide), fun d hd => by
  have e : d = c := by simpa using hd
  rw [e]
  exact h⟩
theorem inV_str {z : Str} : ∀ {l : List Str}, inV (.str z) (l.map V.str) = decide (z ∈ l)
  | [] => by simp [inV]
  | a :: l => by
    have ih := inV_str (z := z) (l := l)
    unfold inV at ih ⊢
    rw [List.map_cons, List.any_cons, ih]
    show ((a == z) || decide (z ∈ l)) = decide (z ∈ a :: l)
    by_cases h : a = z
    · subst h
      simp
    · have h' : ¬ z = a := fun q => h q.symm
      by_cases h2 : z ∈ l <;> simp [h, h', h2]
theorem flat_strs (l : List Str) : (l.map V.str).all flatV = true := by
  induction l with
  | nil => rfl
  | cons a l ih =>
    rw [List.map_cons, List.all_cons, ih]
    rfl
theorem sub_len {α : Type} [DecidableEq α] : ∀ {l m : List α}, l.Nodup → (∀ x ∈ l, x ∈ m) → l.length ≤ m.length
  | [], m, _, _ => Nat.zero_le _
  | a :: l, m, hn, h => by
    obtain ⟨h1, h2⟩ := List.nodup_cons.mp hn
    have ha : a ∈ m := h a List.mem_cons_self
    have ih := sub_len (l := l) (m := m.erase a) h2 fun x hx => (List.mem_erase_of_ne (fun z => h1 (by rw [← z]; exact hx))).mpr (h x (List.mem_cons_of_mem _ hx))
    rw [List.length_erase_of_mem ha] at ih
    have : 0 < m.length := List.length_pos_of_mem ha
    rw [List.length_cons]
    omega
theorem atI_natC {α : Type} {xs : List α} {j : Nat} (h : j < xs.length) : atI xs (j : Int) = some xs[j] := by
  unfold atI ixN
  rw [if_pos (by omega), if_pos (by omega), Option.bind_some, Int.toNat_natCast]
  exact List.getElem?_eq_getElem h
theorem let_strs : (LET.map fun c => (⟨#[c]⟩ : Str)).Nodup := by decide +kernel
theorem not_all {l : List Str} (hl : l.length ≤ 25) (h : ∀ c ∈ LET, (⟨#[c]⟩ : Str) ∈ l) : False := by
  have := sub_len let_strs (m := l) fun x hx => by
    obtain ⟨c, hc, rfl⟩ := List.mem_map.mp hx
    exact h c hc
  have e : (LET.map fun c => (⟨#[c]⟩ : Str)).length = 26 := by decide +kernel
  omega
def spNames : Sp := fun vs H Q _ => ∃ (p s : Addr) (many : Int), vs = [.ref p, .int many] ∧ PoolAt H p s ∧ 0 ≤ many ∧ many ≤ 25 ∧
  ∀ (q : Addr) (l : List Str) H', H q = none → H' q = some (.lst (l.map V.str)) → l.length = many.toNat → l.Nodup → (∀ z ∈ l, IsNm z) → Pl H H' p s → Q (.ref q) H'
section
variable {P : Program} {w : World} {K : PySem.W.Frag} {mg : Str → Option Value} {base : Heap}
abbrev CDraw (P : Program) (w : World) (K : PySem.W.Frag) (mg : Str → Option Value) (base : Heap) : Prop := Cal P w K mg base CX0 "_law_draw" 1 ["_law_pool_here", "_law_many"] spDraw
structure G1 (P : Program) (w : World) (K : PySem.W.Frag) (mg : Str → Option Value) (base : Heap) : Prop where
  law_draw : CDraw P w K mg base
abbrev s_l_names : Stmt := topS 43
theorem sc_l_names : FnScope ["_law_pool_here", "_law_many", "_law_letters", "_law_names_here", "_law_k", "_law_length", "_law_name", "_law_at", "_law_letter"] ["_law_pool_here", "_law_many"] (defScope s_l_names) := ⟨rfl, rfl, rfl, by decide +kernel, rfl, by decide +kernel, by decide +kernel⟩
theorem ok_names {f : Addr} {fd : FuncData} (F : Fun K "_law_names" "_law_names" s_l_names f fd) (B : Blt mg) (G : G1 P w K mg base) : FnOk P w K mg base CX0 2 f fd ["_law_pool_here", "_law_many"] spNames := by
  refine F.ok sc_l_names (fun vs H Q E h => ?_) (fun cdv A outer s H vs Q E hr h => ?_)
  · obtain ⟨p, _, many, rfl, _⟩ := h
    rfl
  · obtain ⟨p, s0, many, rfl, hP, hm, hm2, kk⟩ := h
    refine ⟨_, (pss_cons (ps_set (i := 2) sc_l_names.nd rfl (Or.inl rfl) pe_str)
    (pss_cons (ps_set (i := 3) sc_l_names.nd rfl (Or.inl rfl) (pe_lst pa_nil))
    (pss_cons (ps_for PassesOwn.never rfl (pi_range1 (by rfl) B.range (pa_cons (pv 1) pa_nil)) (pg_name (i := 4) sc_l_names.nd rfl (Or.inl rfl))
      (pss_cons (ps_set (i := 5) sc_l_names.nd rfl (Or.inl rfl) pe_int)
      (pss_cut (ps_if (pt_cmpR op_eq (pe_cal G.law_draw (hr.mono (by decide)) pass0 (pa_cons (pv 0) (pa_cons pe_int pa_nil))) pe_int (nomark _))
        (pss_one (ps_set (i := 5) sc_l_names.nd rfl (Or.inl rfl) (pe_op op_add pe_int (pe_cal G.law_draw (hr.mono (by decide)) pass0 (pa_cons (pv 0) (pa_cons pe_int pa_nil))))))
        pss_nil)
      (pss_cons (ps_set (i := 6) sc_l_names.nd rfl (Or.inl rfl) pe_str)
      (pss_cut (ps_for PassesOwn.never rfl (pi_range1 (by rfl) B.range (pa_cons (pv 5) pa_nil)) (pg_name (i := 7) sc_l_names.nd rfl (Or.inl rfl))
        (pss_one (ps_set (i := 6) sc_l_names.nd rfl (Or.inl rfl) (pe_op op_add_str (pv 6) (pe_ix ix_str (pv 2) (pe_cal G.law_draw (hr.mono (by decide)) pass0 (pa_cons (pv 0) (pa_cons pe_int pa_nil))) (fun _ _ => rfl))))))
      (pss_cut (ps_for PassesOwn.never rfl (pi_str (pv 2)) (pg_name (i := 8) sc_l_names.nd rfl (Or.inl rfl))
        (pss_one (ps_if (PW.pt (pw_and (pt_cmpR op_in_seq (pv 6) (pv 3) rfl) (pw_and1 (pt_cmpR op_notIn_seq (pv 8) (pv 3) rfl))))
          (pss_one (ps_set (i := 6) sc_l_names.nd rfl (Or.inl rfl) (pv 8)))
          pss_nil)))
      (pss_one (ps_expr (pe_bm PySem.F.plainAttrs_list PySem.F.slot_list_append PySem.F.type_list_append mt_append (pv 3) (pa_cons (pv 6) pa_nil))))))))))
    (pss_one (ps_ret (pv 3)))))), ?_⟩
    refine ⟨(by show 0 ≤ sizeLine; decide), fun q hq => ?_⟩
    have hr1 : Room 1 _ := hr.mono (by decide)
    refine ⟨_, rfl, _, rfl, (by omega), (by omega), for_range (n := many.toNat) (fun i σ H1 => (∃ a b c d e, σ = [some (.ref p), some (.int many), some (.str abc), some (.ref q), a, b, c, d, e]) ∧ ∃ l : List Str, H1 q = some (.lst (l.map V.str)) ∧ l.length = i ∧ l.Nodup ∧ (∀ z ∈ l, IsNm z) ∧ Pl H H1 p s0) ?_ ?_ ?_⟩
    · exact ⟨⟨_, _, _, _, _, rfl⟩, [], upd_same, rfl, List.nodup_nil, (fun z hz => nomatch hz), (Pl.refl hP).at hq⟩
    · rintro i σ H1 hi ⟨⟨a, b, c, d, e, rfl⟩, l, hl, hlen, hnd, hnm, PL⟩
      have hqp : q ≠ p := fun z => hP.ne.1 (z ▸ hq)
      -- length
      refine ⟨fun σ H2 => (∃ k len c d e, σ = [some (.ref p), some (.int many), some (.str abc), some (.ref q), k, some (.int len), c, d, e] ∧ 1 ≤ len ∧ len ≤ 8) ∧ Pl H1 H2 p s0, ?_, ?_⟩
      · refine ⟨_, rfl, p, s0, 3, rfl, PL.now, (by decide), (by decide), fun x H2 h0 h3 P2 => ⟨rfl, _, rfl, ?_⟩⟩
        refine ite2 (fun c2 => ?_) (fun c2 => ?_)
        · refine ⟨_, rfl, p, s0, 8, rfl, P2.now, (by decide), (by decide), fun y H3 y0 y8 P3 => ?_⟩
          exact ⟨_, _, rfl, rfl, ⟨_, _, _, _, _, rfl, by omega, by omega⟩, P2.trans P3⟩
        · exact ⟨⟨_, _, _, _, _, rfl, by omega, by omega⟩, P2⟩
      rintro σ H2 ⟨⟨k, len, c, d, e, rfl, hlo, hhi⟩, P2⟩
      -- name
      refine ⟨fun σ H3 => (∃ k len nm d e, σ = [some (.ref p), some (.int many), some (.str abc), some (.ref q), k, len, some (.str nm), d, e] ∧ IsNm nm) ∧ Pl H1 H3 p s0, ?_, ?_⟩
      · refine ⟨_, rfl, _, rfl, (by omega), (by omega), for_range (n := len.toNat) (fun j σ H3 => (∃ d nm, σ = [some (.ref p), some (.int many), some (.str abc), some (.ref q), k, some (.int len), some (.str nm), d, e] ∧ nm.length = j ∧ ∀ c ∈ nm.cps.toList, c ∈ LET) ∧ Pl H1 H3 p s0) ?_ ?_ ?_⟩
        · exact ⟨⟨_, _, rfl, rfl, fun c hc => by cases hc⟩, P2⟩
        · rintro j σ H3 hj ⟨⟨d, nm, rfl, hnl, hnc⟩, P3⟩
          refine ⟨_, rfl, _, rfl, _, rfl, p, s0, 26, rfl, P3.now, (by decide), (by decide), fun x H4 x0 x26 P4 => ?_⟩
          obtain ⟨g, rfl⟩ : ∃ g : Nat, x = (g : Int) := ⟨x.toNat, by omega⟩
          have hg : g < LET.length := by show g < 26; omega
          refine ⟨_, _, LET[g], rfl, rfl, (by show abc.cps.size ≤ sizeLine; rw [abc_size]; decide), (by rw [abc_let]; exact atI_natC hg), _, _, rfl, rfl, ?_, ?_⟩
          · show nm.length + 1 ≤ sizeLine
            rw [sizeLine_eq]
            omega
          · refine ⟨⟨_, _, rfl, ?_, ?_⟩, P3.trans P4⟩
            · rw [append_length, hnl]
              rfl
            · intro c hc
              rw [append_list] at hc
              rcases List.mem_append.mp hc with hc | hc
              · exact hnc c hc
              · have e : c = LET[g] := by simpa using hc
                rw [e]
                exact List.getElem_mem hg
        · rintro σ H3 ⟨⟨d, nm, rfl, hnl, hnc⟩, P3⟩
          exact ⟨⟨_, _, _, _, _, rfl, by omega, by omega, hnc⟩, P3⟩
      rintro σ H3 ⟨⟨k, len, nm, d, e, rfl, hN⟩, P3⟩
      -- another name
      have hq3 : H3 q = some (.lst (l.map V.str)) := P3.keep hl hqp
      refine ⟨fun σ H4 => (∃ k len nm d e, σ = [some (.ref p), some (.int many), some (.str abc), some (.ref q), k, len, some (.str nm), d, e] ∧ IsNm nm ∧ nm ∉ l) ∧ H4 = H3, ?_, ?_⟩
      · refine ⟨_, rfl, _, rfl, for_it (walk_str (z := abc)) (fun j σ H4 => (∃ nm e, σ = [some (.ref p), some (.int many), some (.str abc), some (.ref q), k, len, some (.str nm), d, e] ∧ IsNm nm ∧ (nm ∈ l → ∀ (i : Nat) (x : Nat), i < j → LET[i]? = some x → (⟨#[x]⟩ : Str) ∈ l)) ∧ H4 = H3) ?_ (fun _ _ _ _ _ => trivial) ?_ ?_⟩
        · exact ⟨⟨_, _, rfl, hN, fun _ i x hi => by omega⟩, rfl⟩
        · rintro j x σ H4 H5 hj ⟨⟨nm, e, rfl, hN, hall⟩, rfl⟩ ⟨rfl, c, hc, rfl⟩
          have hc' : LET[j]? = some c := by
            rw [← abc_let, Array.getElem?_toList]
            exact hc
          have hcm : c ∈ LET := List.mem_of_getElem? hc'
          refine ⟨_, rfl, _, rfl, _, _, rfl, .inl (SqL.of hq3), rfl, flat_strs l, _, rfl, ?_⟩
          rw [if_neg (by decide), inV_str]
          refine ite2 (fun c2 => ?_) (fun c2 => ?_)
          · have c2 : nm ∈ l := of_decide_eq_true c2
            refine ⟨_, rfl, _, rfl, _, _, rfl, .inl (SqL.of hq3), rfl, flat_strs l, _, rfl, ?_⟩
            rw [if_pos rfl, inV_str]
            refine ite2 (fun c3 => ?_) (fun c3 => ?_)
            · have c3 : ¬ (⟨#[c]⟩ : Str) ∈ l := by simpa using c3
              exact ⟨_, rfl, ⟨_, _, rfl, one_nm hcm, fun z => absurd z c3⟩, rfl⟩
            · have c3 : (⟨#[c]⟩ : Str) ∈ l := by simpa using c3
              refine ⟨⟨_, _, rfl, hN, fun _ i x hi hx => ?_⟩, rfl⟩
              by_cases hij : i < j
              · exact hall c2 i x hij hx
              · have : i = j := by omega
                subst this
                rw [hc'] at hx
                cases hx
                exact c3
          · have c2 : ¬ nm ∈ l := by simpa using c2
            exact ⟨⟨_, _, rfl, hN, fun z => absurd z c2⟩, rfl⟩
        · rintro σ H4 ⟨⟨nm, e, rfl, hN, hall⟩, rfl⟩
          refine ⟨⟨_, _, _, _, _, rfl, hN, fun z => ?_⟩, rfl⟩
          refine not_all (l := l) (by omega) fun c hc => ?_
          obtain ⟨i, hi, e2⟩ := List.getElem_of_mem hc
          exact hall z i c (by rw [abc_size]; exact hi) (by rw [List.getElem?_eq_getElem hi, e2])
      rintro σ H4 ⟨⟨k, len, nm, d, e, rfl, hN, hnl⟩, rfl⟩
      refine ⟨_, rfl, .inl ⟨rfl, _, SqL.of hq3⟩, _, rfl, q, _, _, rfl, rfl, hq3, (by rw [List.length_map]; exact small1000 (by omega)), ?_⟩
      refine ⟨⟨_, _, _, _, _, rfl⟩, l ++ [nm], ?_, ?_, nd_snoc hnd hnl, ?_, (PL.trans P3).at hq⟩
      · rw [upd_same, List.map_append]
        rfl
      · rw [List.length_append, hlen]
        rfl
      · intro z hz
        rcases List.mem_append.mp hz with hz | hz
        · exact hnm z hz
        · rw [List.mem_singleton.mp hz]
          exact hN
    · rintro σ H1 ⟨⟨a, b, c, d, e, rfl⟩, l, hl, hlen, hnd, hnm, PL⟩
      exact ⟨_, rfl, kk q l H1 hq hl hlen hnd hnm PL⟩
end
end Ash

set_option Elab.async false
set_option linter.all false
set_option maxRecDepth 100000
set_option maxHeartbeats 4000000
namespace Ash
open PySem PySem.Spec PyProof.Rows L2
open C8 (pss_cut)
/-- a book's lates as a dict's pairs -/
def LK (L : List (Str × Int)) : List (Key × V) := L.map fun x => (Sum.inr x.1, V.int x.2)
structure Lates (L : List (Str × Int)) : Prop where
  some_ : 1 ≤ L.length
  few : L.length ≤ 8
  nd : (L.map (·.1)).Nodup
  nm : ∀ x ∈ L, IsNm x.1
  lo : ∀ x ∈ L, 0 ≤ x.2
  hi : ∀ x ∈ L, x.2 ≤ 1000000
theorem LK_len (L : List (Str × Int)) : (LK L).length = L.length := List.length_map _
theorem LK_val : ∀ (L : List (Str × Int)) (z : Str), valV (LK L) (Sum.inr z : Key) = (L.lookup z).map V.int
  | [], z => rfl
  | a :: L, z => by
    have ih := LK_val L z
    by_cases h : a.1 = z
    · have h' : (z == a.1) = true := by simpa using h.symm
      show valV ((Sum.inr a.1, V.int a.2) :: LK L) (Sum.inr z : Key) = _
      rw [valV_pos (by rw [h])]
      obtain ⟨a1, a2⟩ := a
      simp only [List.lookup, h', Option.map_some]
    · have h' : (z == a.1) = false := by simpa using fun q => h q.symm
      show valV ((Sum.inr a.1, V.int a.2) :: LK L) (Sum.inr z : Key) = _
      rw [valV_neg (fun q => h (Sum.inr.inj q)), ih]
      obtain ⟨a1, a2⟩ := a
      simp only [List.lookup, h']
theorem lookup_none : ∀ {L : List (Str × Int)} {z : Str}, z ∉ L.map (·.1) → L.lookup z = none
  | [], _, _ => rfl
  | (a1, a2) :: L, z, h => by
    have h1 : ¬ z = a1 := fun q => h (by rw [q]; exact List.mem_cons_self)
    have h' : (z == a1) = false := by simpa using h1
    simp only [List.lookup, h']
    exact lookup_none fun q => h (List.mem_cons_of_mem _ q)
def spLates : Sp := fun vs H Q _ => ∃ (p s : Addr), vs = [.ref p] ∧ PoolAt H p s ∧
  ∀ (d : Addr) (L : List (Str × Int)) H', H d = none → H' d = some (.dK (LK L)) → Lates L → Pl H H' p s → Q (.ref d) H'
section
variable {P : Program} {w : World} {K : PySem.W.Frag} {mg : Str → Option Value} {base : Heap}
structure G2 (P : Program) (w : World) (K : PySem.W.Frag) (mg : Str → Option Value) (base : Heap) : Prop extends G1 P w K mg base where
  law_names : Cal P w K mg base CX0 "_law_names" 2 ["_law_pool_here", "_law_many"] spNames
abbrev s_l_lates : Stmt := topS 44
theorem sc_l_lates : FnScope ["_law_pool_here", "_law_many", "_law_lates_here", "_law_name", "_law_kind"] ["_law_pool_here"] (defScope s_l_lates) := ⟨rfl, rfl, rfl, by decide +kernel, rfl, by decide +kernel, by decide +kernel⟩
theorem ok_lates {f : Addr} {fd : FuncData} (F : Fun K "_law_lates" "_law_lates" s_l_lates f fd) (B : Blt mg) (G : G2 P w K mg base) : FnOk P w K mg base CX0 3 f fd ["_law_pool_here"] spLates := by
  refine F.ok sc_l_lates (fun vs H Q E h => ?_) (fun cdv A outer s H vs Q E hr h => ?_)
  · obtain ⟨p, _, rfl, _⟩ := h
    rfl
  · obtain ⟨p, s0, rfl, hP, kk⟩ := h
    have hu := hu_of hr
    refine ⟨_, (pss_cons (ps_set (i := 1) sc_l_lates.nd rfl (Or.inl rfl) (pe_op op_add pe_int (pe_cal G.law_draw (hr.mono (by decide)) pass0 (pa_cons (pv 0) (pa_cons pe_int pa_nil)))))
    (pss_cut (ps_if (pt_cmpR op_eq (pe_cal G.law_draw (hr.mono (by decide)) pass0 (pa_cons (pv 0) (pa_cons pe_int pa_nil))) pe_int (nomark _))
      (pss_one (ps_set (i := 1) sc_l_lates.nd rfl (Or.inl rfl) (pe_op op_add pe_int (pe_cal G.law_draw (hr.mono (by decide)) pass0 (pa_cons (pv 0) (pa_cons pe_int pa_nil))))))
      pss_nil)
    (pss_cons (ps_set (i := 2) sc_l_lates.nd rfl (Or.inl rfl) pe_dnewK)
    (pss_cons (ps_for PassesOwn.never rfl (pi_list (pe_cal G.law_names (hr.mono (by decide)) pass0 (pa_cons (pv 0) (pa_cons (pv 1) pa_nil)))) (pg_name (i := 3) sc_l_lates.nd rfl (Or.inl rfl))
      (pss_cons (ps_set (i := 4) sc_l_lates.nd rfl (Or.inl rfl) (pe_cal G.law_draw (hr.mono (by decide)) pass0 (pa_cons (pv 0) (pa_cons pe_int pa_nil))))
      (pss_one (ps_dput hu (pv 2) (pv 3) (pe_ix ix_list (pe_lst (pa_cons pe_int (pa_cons (pe_cal G.law_draw (hr.mono (by decide)) pass0 (pa_cons (pv 0) (pa_cons pe_int pa_nil))) (pa_cons (pe_cal G.law_draw (hr.mono (by decide)) pass0 (pa_cons (pv 0) (pa_cons pe_int pa_nil))) (pa_cons (pe_cal G.law_draw (hr.mono (by decide)) pass0 (pa_cons (pv 0) (pa_cons (pe_op op_add (pe_op op_pow pe_int pe_int) pe_int) pa_nil))) pa_nil))))) (pv 4) (fun _ _ => rfl)) rfl))))
    (pss_one (ps_ret (pv 2))))))), ?_⟩
    -- many
    refine ⟨_, rfl, p, s0, 3, rfl, hP, (by decide), (by decide), fun x H1 x0 x3 P1 => ⟨_, _, rfl, rfl, ?_⟩⟩
    refine ⟨fun σ H2 => (∃ many b c d, σ = [some (.ref p), some (.int many), b, c, d] ∧ 1 ≤ many ∧ many ≤ 8) ∧ Pl H H2 p s0, ?_, ?_⟩
    · refine ⟨_, rfl, p, s0, 12, rfl, P1.now, (by decide), (by decide), fun y H2 y0 y3 P2 => ⟨rfl, _, rfl, ?_⟩⟩
      refine ite2 (fun c2 => ?_) (fun c2 => ?_)
      · exact ⟨_, rfl, p, s0, 8, rfl, P2.now, (by decide), (by decide), fun z H3 z0 z3 P3 => ⟨_, _, rfl, rfl, ⟨_, _, _, _, rfl, by omega, by omega⟩, (P1.trans P2).trans P3⟩⟩
      · exact ⟨⟨_, _, _, _, rfl, by omega, by omega⟩, P1.trans P2⟩
    rintro σ H2 ⟨⟨many, b, c, e, rfl, m1, m8⟩, P2⟩
    intro d hd
    have hd0 := P2.free hd
    have P3 : Pl H (upd H2 d (.dK [])) p s0 := P2.at hd0
    refine ⟨_, rfl, _, rfl, p, s0, many, rfl, P3.now, (by omega), (by omega), fun q l H4 hq hl hlen hnd hnm P4 => ?_⟩
    have hdp : d ≠ p := fun z => by rw [z] at hd; exact P2.now.ne.1 hd
    have hd4 : H4 d = some (.dK []) := P4.keep upd_same hdp
    have hdq : q ≠ d := fun z => by rw [z, upd_same] at hq; cases hq
    have hqp : q ≠ p := fun z => by rw [z] at hq; exact P3.now.ne.1 hq
    have hq0 : H q = none := P3.free hq
    refine ⟨q, rfl, ⟨_, SqL.of hl⟩, for_list (K := K) (a := q) (xs := l.map V.str) (fun i σ H5 => (∃ a b, σ = [some (.ref p), some (.int many), some (.ref d), a, b]) ∧ H5 q = some (.lst (l.map V.str)) ∧ (∃ L : List (Str × Int), H5 d = some (.dK (LK L)) ∧ L.map (·.1) = l.take i ∧ ∀ x ∈ L, 0 ≤ x.2 ∧ x.2 ≤ 1000000) ∧ Pl H H5 p s0) ?_ (fun i σ H5 _ hv => SqL.of hv.2.1) ?_ ?_⟩
    · exact ⟨⟨_, _, rfl⟩, hl, ⟨[], hd4, rfl, fun x hx => nomatch hx⟩, P3.trans P4⟩
    · rintro i y σ H5 hi ⟨⟨a, b, rfl⟩, hq5, ⟨L, hd5, hL, hLb⟩, P5⟩
      obtain ⟨nm, hn, rfl⟩ : ∃ nm, l[i]? = some nm ∧ y = V.str nm := by
        rw [List.getElem?_map] at hi
        cases e : l[i]? with
        | none => rw [e] at hi; cases hi
        | some z => rw [e] at hi; exact ⟨z, rfl, (Option.some.inj hi).symm⟩
      have hil : i < l.length := (List.getElem?_eq_some_iff.mp hn).1
      have hnL : nm ∉ L.map (·.1) := by
        rw [hL]
        intro hm
        obtain ⟨j, hj, e⟩ := List.getElem_of_mem hm
        rw [List.length_take] at hj
        rw [List.getElem_take] at e
        have := nd_ix hnd (List.getElem?_eq_some_iff.mpr ⟨by omega, e⟩) hn
        omega
      have hLl : L.length = i := by
        have := congrArg List.length hL
        rw [List.length_map, List.length_take] at this
        omega
      refine ⟨_, rfl, p, s0, 4, rfl, P5.now, (by decide), (by decide), fun kind H6 k0 k4 P6 => ?_⟩
      refine ⟨_, rfl, p, s0, 4, rfl, P6.now, (by decide), (by decide), fun v1 H7 a0 a1 P7 => ?_⟩
      refine ⟨_, rfl, p, s0, 8, rfl, P7.now, (by decide), (by decide), fun v2 H8 b0 b1 P8 => ?_⟩
      refine ⟨_, rfl, _, _, rfl, rfl, ⟨by decide, by decide, by decide⟩, _, _, rfl, rfl, p, s0, _, rfl, P8.now, (by decide), (by decide), fun v3 H9 c0 c1 P9 => ⟨(by show 4 ≤ sizeLine; decide), fun u hu9 => ?_⟩⟩
      have c1 : v3 < 1000001 := c1
      have P59 : Pl H5 H9 p s0 := ((P6.trans P7).trans P8).trans P9
      have hdu : d ≠ u := fun z => by rw [← z, P59.keep hd5 hdp] at hu9; cases hu9
      have hqu : q ≠ u := fun z => by rw [← z, P59.keep hq5 hqp] at hu9; cases hu9
      obtain ⟨v, hv, vge, vle⟩ : ∃ v : Int, atI ([V.int 0, V.int v1, V.int v2, V.int v3]) kind = some (V.int v) ∧ 0 ≤ v ∧ v ≤ 1000000 := by
        have : kind = 0 ∨ kind = 1 ∨ kind = 2 ∨ kind = 3 := by omega
        rcases this with rfl | rfl | rfl | rfl
        · exact ⟨0, rfl, by omega, by omega⟩
        · exact ⟨v1, rfl, by omega, by omega⟩
        · exact ⟨v2, rfl, by omega, by omega⟩
        · exact ⟨v3, rfl, by omega, by omega⟩
      have hdX : (upd H9 u (.lst [V.int 0, V.int v1, V.int v2, V.int v3])) d = some (.dK (LK L)) := by rw [upd_ne hdu]; exact P59.keep hd5 hdp
      refine ⟨_, rfl, _, _, _, _, rfl, rfl, SqL.of upd_same, hv, _, rfl, _, rfl, d, _, rfl, DPut.k (k := Sum.inr nm) hdX (by rw [LK_len]; exact small1000 (by omega)), ?_⟩
      have hput : putK (LK L) (Sum.inr nm : Key) (V.int v) = LK (L ++ [(nm, v)]) := by
        rw [putK_new _ (by rw [LK_val, lookup_none hnL]; rfl)]
        unfold LK
        rw [List.map_append]
        rfl
      rw [hput]
      refine ⟨⟨_, _, rfl⟩, ?_, ⟨L ++ [(nm, v)], upd_same, ?_, ?_⟩, ?_⟩
      · rw [upd_ne hdq, upd_ne hqu]
        exact P59.keep hq5 hqp
      · rw [List.map_append, hL, List.take_add_one, hn]
        rfl
      · intro x hx
        rcases List.mem_append.mp hx with hx | hx
        · exact hLb x hx
        · rw [List.mem_singleton.mp hx]
          exact ⟨vge, vle⟩
      · exact (((P5.trans P59).new hu9).at hd0)
    · rintro σ H5 ⟨⟨a, b, rfl⟩, hq5, ⟨L, hd5, hL, hLb⟩, P5⟩
      rw [List.length_map, List.take_length] at hL
      have hLl : L.length = l.length := by rw [← hL, List.length_map]
      refine ⟨_, rfl, kk d L H5 hd0 hd5 ⟨by omega, by omega, by rw [hL]; exact hnd, fun x hx => hnm _ (by rw [← hL]; exact List.mem_map_of_mem hx), fun x hx => (hLb x hx).1, fun x hx => (hLb x hx).2⟩ P5⟩
end
end Ash

set_option Elab.async false
set_option linter.all false
set_option maxRecDepth 100000
set_option maxHeartbeats 4000000
namespace Ash
open PySem PySem.Spec PyProof.Rows L2
open C8 (pss_cut)
/-! ### kinds of values -/
def NotInt (K : PySem.W.Frag) (H : Hp) (v : V) : Prop := ∃ t bi bb, TyX K H v t ∧ PySem.W.kitOne K t (.type "int") = some bi ∧ PySem.W.kitOne K t (.type "bool") = some bb ∧ (bi && !bb) = false
def NotStr (K : PySem.W.Frag) (H : Hp) (v : V) : Prop := ∃ t, TyX K H v t ∧ PySem.W.kitOne K t (.type "str") = some false
def NotTup (K : PySem.W.Frag) (H : Hp) (v : V) : Prop := ∃ t, TyX K H v t ∧ PySem.W.kitOne K t (.type "tuple") = some false
def spIsInt (K : PySem.W.Frag) : Sp := fun vs H Q _ => ∃ v, vs = [v] ∧ ((∃ n, v = .int n ∧ Q (.bl true) H) ∨ (NotInt K H v ∧ Q (.bl false) H))
def spIsNat (K : PySem.W.Frag) : Sp := fun vs H Q _ => ∃ v, vs = [v] ∧ ((∃ n, v = .int n ∧ Q (.bl (decide (0 ≤ n))) H) ∨ (NotInt K H v ∧ Q (.bl false) H))
/-- the test of names -/
def nmB (z : Str) : Bool := decide (1 ≤ z.length ∧ z.length ≤ 8) && z.cps.toList.all fun c => decide (c ∈ LET)
theorem nmB_iff (z : Str) : nmB z = true ↔ IsNm z := by
  unfold nmB IsNm
  simp only [Bool.and_eq_true, decide_eq_true_eq, List.all_eq_true]
  exact ⟨fun ⟨⟨a, b⟩, c⟩ => ⟨a, b, c⟩, fun ⟨a, b, c⟩ => ⟨⟨a, b⟩, c⟩⟩
def spIsName (K : PySem.W.Frag) : Sp := fun vs H Q _ => ∃ v, vs = [v] ∧ ((∃ z, v = .str z ∧ z.length ≤ sizeLine ∧ ∀ H', Same H H' → Q (.bl (nmB z)) H') ∨ (NotStr K H v ∧ Q (.bl false) H))
def spAreInts (K : PySem.W.Frag) : Sp := fun vs H Q _ => ∃ (a : Addr) (ns : List Int), vs = [.ref a] ∧ SqT K H a (ns.map V.int) ∧ ns.length ≤ 100 ∧ ∀ H', Same H H' → Q (.bl true) H'
def spIsLate (K : PySem.W.Frag) : Sp := fun vs H Q _ => ∃ n : Int, vs = [.int n] ∧ Q (.bl (decide (0 ≤ n ∧ n ≤ 1000000))) H
def spIsLates (K : PySem.W.Frag) : Sp := fun vs H Q _ => ∃ (d : Addr) (L : List (Str × Int)), vs = [.ref d] ∧ H d = some (.dK (LK L)) ∧ Lates L ∧ ∀ H', Same H H' → Q (.bl true) H'
theorem list_take {α : Type} {l : List α} {i : Nat} {x : α} (h : l[i]? = some x) : l.take (i + 1) = l.take i ++ [x] := by
  rw [List.take_add_one, h]
  rfl
theorem list_lit (l : List Nat) : ∀ i x, l[i]? = some x → l.take (i + 1) = l.take i ++ [x] := fun i x h => by
  rw [List.take_add_one, h]
  rfl
structure Cst (mg : Str → Option Value) : Prop where
  k_LETTERS : ∃ t, mg "LETTERS" = some (.str abc t)
  k_LONGEST_NAME : ∃ t, mg "LONGEST_NAME" = some (.int 8 t)
  k_MOST_STREAMS : ∃ t, mg "MOST_STREAMS" = some (.int 8 t)
  k_MOST_LATE : ∃ t, mg "MOST_LATE" = some (.int 1000000 t)
  k_MOST_ENTRIES : ∃ t, mg "MOST_ENTRIES" = some (.int 400 t)
section
variable {P : Program} {w : World} {K : PySem.W.Frag} {mg : Str → Option Value} {base : Heap}
structure K1 (P : Program) (w : World) (K : PySem.W.Frag) (mg : Str → Option Value) (base : Heap) : Prop where
  is_integer : Cal P w K mg base CX0 "is_integer" 1 ["thing"] (spIsInt K)
abbrev s_is_integer : Stmt := topS 15
theorem sc_is_integer : FnScope ["thing"] ["thing"] (defScope s_is_integer) := ⟨rfl, rfl, rfl, by decide +kernel, rfl, by decide +kernel, by decide +kernel⟩
theorem ok_is_integer {f : Addr} {fd : FuncData} (F : Fun K "is_integer" "is_integer" s_is_integer f fd) (B : Blt mg) : FnOk P w K mg base CX0 1 f fd ["thing"] (spIsInt K) := by
  refine F.ok sc_is_integer (fun vs H Q E h => ?_) (fun cdv A outer s H vs Q E hr h => ?_)
  · obtain ⟨v, rfl, _⟩ := h
    rfl
  · obtain ⟨v, rfl, hv⟩ := h
    refine ⟨_, (pss_one (ps_ret (pe_and (pe_callB call_isi (by rfl) B.isinstance (by decide +kernel) (pa_cons (pv 0) (pa_cons (pe_bltn (v := .ty "int") (by rfl) B.int (by decide +kernel) rfl) pa_nil))) (pe_one (pe_not (pe_callB call_isi (by rfl) B.isinstance (by decide +kernel) (pa_cons (pv 0) (pa_cons (pe_bltn (v := .ty "bool") (by rfl) B.bool (by decide +kernel) rfl) pa_nil)))))))), ?_⟩
    rcases hv with ⟨n, rfl, q⟩ | ⟨⟨t, bi, bb, ty, e1, e2, e3⟩, q⟩
    · refine ⟨_, rfl, _, _, _, _, true, rfl, ClsV.ty _, .base (.int n), kit_ty (by decide +kernel), _, rfl, iteT ?_⟩
      refine ⟨_, rfl, _, _, _, _, false, rfl, ClsV.ty _, .base (.int n), kit_ty (by decide +kernel), _, rfl, q⟩
    · refine ⟨_, rfl, _, _, _, _, bi, rfl, ClsV.ty _, ty, e1, _, rfl, ?_⟩
      cases bi with
      | false => exact iteF q
      | true =>
        refine iteT ⟨_, rfl, _, _, _, _, bb, rfl, ClsV.ty _, ty, e2, _, rfl, ?_⟩
        have e3 : (!bb) = false := e3
        rw [e3]
        exact q
abbrev s_is_natural : Stmt := topS 16
theorem sc_is_natural : FnScope ["thing"] ["thing"] (defScope s_is_natural) := ⟨rfl, rfl, rfl, by decide +kernel, rfl, by decide +kernel, by decide +kernel⟩
theorem ok_is_natural {f : Addr} {fd : FuncData} (F : Fun K "is_natural" "is_natural" s_is_natural f fd) (B : Blt mg) (G : K1 P w K mg base) : FnOk P w K mg base CX0 2 f fd ["thing"] (spIsNat K) := by
  refine F.ok sc_is_natural (fun vs H Q E h => ?_) (fun cdv A outer s H vs Q E hr h => ?_)
  · obtain ⟨v, rfl, _⟩ := h
    rfl
  · obtain ⟨v, rfl, hv⟩ := h
    refine ⟨_, (pss_one (ps_ret (pe_and (pe_cal G.is_integer (hr.mono (by decide)) pass0 (pa_cons (pv 0) pa_nil)) (pe_one (pe_cmpR op_ge (pv 0) pe_int (nomark _)))))), ?_⟩
    rcases hv with ⟨n, rfl, q⟩ | ⟨ni, q⟩
    · exact ⟨_, rfl, _, rfl, .inl ⟨n, rfl, _, rfl, iteT ⟨_, rfl, _, _, rfl, rfl, q⟩⟩⟩
    · exact ⟨_, rfl, _, rfl, .inr ⟨ni, _, rfl, iteF q⟩⟩
abbrev s_is_name : Stmt := topS 17
theorem sc_is_name : FnScope ["thing", "letter"] ["thing"] (defScope s_is_name) := ⟨rfl, rfl, rfl, by decide +kernel, rfl, by decide +kernel, by decide +kernel⟩
theorem ok_is_name {f : Addr} {fd : FuncData} (F : Fun K "is_name" "is_name" s_is_name f fd) (B : Blt mg) (Cs : Cst mg) : FnOk P w K mg base CX0 1 f fd ["thing"] (spIsName K) := by
  obtain ⟨t1, g_LETTERS⟩ := Cs.k_LETTERS
  obtain ⟨t2, g_LONGEST_NAME⟩ := Cs.k_LONGEST_NAME
  refine F.ok sc_is_name (fun vs H Q E h => ?_) (fun cdv A outer s H vs Q E hr h => ?_)
  · obtain ⟨v, rfl, _⟩ := h
    rfl
  · obtain ⟨v, rfl, hv⟩ := h
    refine ⟨_, (pss_cons (ps_if (PW.pt (pw_or (pt_not (pt_val (pe_callB call_isi (by rfl) B.isinstance (by decide +kernel) (pa_cons (pv 0) (pa_cons (pe_bltn (v := .ty "str") (by rfl) B.str (by decide +kernel) rfl) pa_nil))))) (pw_or1 (pt_not (pt_chain op_le op_le pe_int (pe_callB call_len_str (by rfl) B.len (by decide +kernel) (pa_cons (pv 0) pa_nil)) (pe_glob (v := .int 8) (by rfl) g_LONGEST_NAME ⟨_, rfl⟩))))))
      (pss_one (ps_ret pe_bl))
      pss_nil)
    (pss_one (ps_ret (pe_callB (cr_all rfl) (by rfl) B.all (by decide +kernel) (pa_cons (pe_lc (own := [("letter", 1)]) (g := gName 1) (tt := tYes) (by rfl) sc_is_name.nd (pi_str (pv 0)) (blkOk_by (own := [("letter", 1)]) (N := ["thing", "letter"]) (sc := defScope s_is_name) (by decide +kernel)) (fun _ _ _ _ _ => (pg_name (i := 1) sc_is_name.nd rfl (Or.inl rfl))) (fun _ _ _ _ _ => pts_nil) (fun _ _ _ _ _ => (pe_cmpR op_in_sign (pv 1) (pe_glob (v := .str "abcdefghijklmnopqrstuvwxyz") (by rfl) g_LETTERS ⟨_, rfl⟩) rfl))) pa_nil))))), ?_⟩
    rcases hv with ⟨z, rfl, hz, q⟩ | ⟨⟨t, ty, e1⟩, q⟩
    · refine ⟨_, rfl, _, _, _, _, true, rfl, ClsV.ty _, .base (.str z), kit_ty (by decide +kernel), _, rfl, iteF ?_⟩
      refine ⟨_, rfl, _, rfl, hz, _, _, rfl, rfl, _, rfl, ?_⟩
      refine ite2 (fun c1 => ?_) (fun c1 => ?_)
      · have c1 : (1 : Int) ≤ z.length := of_decide_eq_true c1
        refine ⟨_, _, rfl, rfl, _, rfl, ?_⟩
        by_cases c8 : (z.length : Int) ≤ 8
        · refine iteNS c8 ?_
          refine ⟨_, rfl, z, rfl, fun D hD => lc_it (walk_str (z := z)) (fun i H1 => H1 D = some (.lst (((z.cps.toList.take i).map fun c => decide (c ∈ LET)).map V.bl)) ∧ Same H H1) ⟨upd_same, sameAt (Same.refl H) hD⟩ (fun _ _ _ _ => trivial) ?_ ?_⟩
          · rintro i x H1 H2 hi ⟨hD1, hs⟩ ⟨rfl, c, hc, rfl⟩
            have hc' : z.cps.toList[i]? = some c := by rw [Array.getElem?_toList]; exact hc
            have hlen : (z.cps.toList.take i).length ≤ 8 := by
              have : i < z.length := hi
              rw [List.length_take]
              omega
            refine ⟨rfl, _, rfl, c, abc, rfl, rfl, _, hD1, (by rw [List.length_map, List.length_map]; exact small1000 (by omega)), ?_, sameAt hs hD⟩
            rw [upd_same, list_lit _ _ _ hc', abc_let, List.map_append, List.map_append]
            rfl
          · rintro H1 ⟨hD1, hs⟩
            have e : z.cps.toList.take z.cps.size = z.cps.toList := by rw [← Array.length_toList, List.take_length]
            rw [e] at hD1
            refine ⟨D, _, rfl, SqL.of hD1, ?_⟩
            have e2 : ((z.cps.toList.map fun c => decide (c ∈ LET)).all id) = nmB z := by
              unfold nmB
              rw [decide_eq_true (show 1 ≤ z.length ∧ z.length ≤ 8 by omega), Bool.true_and, List.all_map]
              rfl
            rw [e2]
            exact q _ hs
        · rw [decide_eq_false c8]
          refine iteT ?_
          have e2 : nmB z = false := by
            unfold nmB
            rw [decide_eq_false (show ¬ (1 ≤ z.length ∧ z.length ≤ 8) by omega), Bool.false_and]
          have := q H (Same.refl H)
          rw [e2] at this
          exact this
      · have c1 : ¬ (1 : Int) ≤ z.length := by simpa using c1
        refine ⟨_, rfl, iteT ?_⟩
        have e2 : nmB z = false := by
          unfold nmB
          rw [decide_eq_false (show ¬ (1 ≤ z.length ∧ z.length ≤ 8) by omega), Bool.false_and]
        have := q H (Same.refl H)
        rw [e2] at this
        exact this
    · refine ⟨_, rfl, _, _, _, _, false, rfl, ClsV.ty _, ty, e1, _, rfl, iteT q⟩
structure K2 (P : Program) (w : World) (K : PySem.W.Frag) (mg : Str → Option Value) (base : Heap) : Prop extends K1 P w K mg base where
  is_natural : Cal P w K mg base CX0 "is_natural" 2 ["thing"] (spIsNat K)
  is_name : Cal P w K mg base CX0 "is_name" 1 ["thing"] (spIsName K)
abbrev s_are_integers : Stmt := topS 19
theorem sc_are_integers : FnScope ["things", "thing"] ["things"] (defScope s_are_integers) := ⟨rfl, rfl, rfl, by decide +kernel, rfl, by decide +kernel, by decide +kernel⟩
theorem ok_are_integers {f : Addr} {fd : FuncData} (F : Fun K "are_integers" "are_integers" s_are_integers f fd) (B : Blt mg) (G : K2 P w K mg base) : FnOk P w K mg base CX0 2 f fd ["things"] (spAreInts K) := by
  refine F.ok sc_are_integers (fun vs H Q E h => ?_) (fun cdv A outer s H vs Q E hr h => ?_)
  · obtain ⟨a, ns, rfl, _⟩ := h
    rfl
  · obtain ⟨a, ns, rfl, hS, hn, q⟩ := h
    refine ⟨_, (pss_one (ps_ret (pe_callB (cr_all rfl) (by rfl) B.all (by decide +kernel) (pa_cons (pe_lc (own := [("thing", 1)]) (g := gName 1) (tt := tYes) (by rfl) sc_are_integers.nd (pi_tup (pv 0)) (blkOk_by (own := [("thing", 1)]) (N := ["things", "thing"]) (sc := defScope s_are_integers) (by decide +kernel)) (fun _ _ _ _ _ => (pg_name (i := 1) sc_are_integers.nd rfl (Or.inl rfl))) (fun _ _ _ _ _ => pts_nil) (fun _ _ _ _ _ => (pe_cal G.is_integer (hr.mono (by decide)) pass0 (pa_cons (pv 1) pa_nil)))) pa_nil)))), ?_⟩
    refine ⟨_, rfl, a, rfl, ⟨_, hS⟩, fun D hD => lc_it (walk_tup (xs := ns.map V.int)) (fun i H1 => H1 D = some (.lst ((List.replicate i true).map V.bl)) ∧ Same H H1) ⟨upd_same, sameAt (Same.refl H) hD⟩ (fun i H1 _ hv => ?_) ?_ ?_⟩
    · rcases hS with (h | ⟨o, h⟩) | h
      · exact .inl (.inl (hv.2 _ _ h))
      · exact .inl (.inr ⟨o, hv.2 _ _ h⟩)
      · exact .inr h
    · rintro i x H1 H2 hi ⟨hD1, hs⟩ ⟨rfl, hx⟩
      obtain ⟨z, rfl⟩ : ∃ z, x = V.int z := by
        rw [List.getElem?_map] at hx
        cases e : ns[i]? with
        | none => rw [e] at hx; cases hx
        | some z => rw [e] at hx; exact ⟨z, (Option.some.inj hx).symm⟩
      rw [List.length_map] at hi
      refine ⟨rfl, _, rfl, _, rfl, .inl ⟨z, rfl, _, hD1, (by rw [List.length_map, List.length_replicate]; exact small1000 (by omega)), ?_, sameAt hs hD⟩⟩
      rw [upd_same, List.replicate_succ', List.map_append]
      rfl
    · rintro H1 ⟨hD1, hs⟩
      refine ⟨D, _, rfl, SqL.of hD1, ?_⟩
      rw [List.length_map] at hD1 ⊢
      have e2 : ((List.replicate ns.length true).all id) = true := by simp
      rw [e2]
      exact q _ hs
abbrev s_is_late : Stmt := topS 25
theorem sc_is_late : FnScope ["thing"] ["thing"] (defScope s_is_late) := ⟨rfl, rfl, rfl, by decide +kernel, rfl, by decide +kernel, by decide +kernel⟩
theorem ok_is_late {f : Addr} {fd : FuncData} (F : Fun K "is_late" "is_late" s_is_late f fd) (B : Blt mg) (Cs : Cst mg) (G : K2 P w K mg base) : FnOk P w K mg base CX0 2 f fd ["thing"] (spIsLate K) := by
  obtain ⟨t1, g_MOST_LATE⟩ := Cs.k_MOST_LATE
  refine F.ok sc_is_late (fun vs H Q E h => ?_) (fun cdv A outer s H vs Q E hr h => ?_)
  · obtain ⟨n, rfl, _⟩ := h
    rfl
  · obtain ⟨n, rfl, q⟩ := h
    refine ⟨_, (pss_one (ps_ret (pe_and (pe_cal G.is_integer (hr.mono (by decide)) pass0 (pa_cons (pv 0) pa_nil)) (pe_one (pe_chain op_le op_le pe_int (pv 0) (pe_glob (v := .int 1000000) (by rfl) g_MOST_LATE ⟨_, rfl⟩)))))), ?_⟩
    refine ⟨_, rfl, _, rfl, .inl ⟨n, rfl, _, rfl, iteT ⟨_, rfl, _, _, rfl, rfl, _, rfl, ?_⟩⟩⟩
    refine ite2 (fun c1 => ?_) (fun c1 => ?_)
    · have c1 : 0 ≤ n := of_decide_eq_true c1
      refine ⟨_, _, rfl, rfl, ?_⟩
      have e : decide (0 ≤ n ∧ n ≤ 1000000) = decide (n ≤ 1000000) := by simp [c1]
      rw [e] at q
      exact q
    · have c1 : ¬ 0 ≤ n := by simpa using c1
      have e : decide (0 ≤ n ∧ n ≤ 1000000) = false := by simp [c1]
      rw [e] at q
      exact q
structure K3 (P : Program) (w : World) (K : PySem.W.Frag) (mg : Str → Option Value) (base : Heap) : Prop extends K2 P w K mg base where
  are_integers : Cal P w K mg base CX0 "are_integers" 2 ["things"] (spAreInts K)
  is_late : Cal P w K mg base CX0 "is_late" 2 ["thing"] (spIsLate K)
abbrev s_is_lates : Stmt := topS 24
theorem sc_is_lates : FnScope ["thing", "stream", "late"] ["thing"] (defScope s_is_lates) := ⟨rfl, rfl, rfl, by decide +kernel, rfl, by decide +kernel, by decide +kernel⟩
theorem ok_is_lates {f : Addr} {fd : FuncData} (F : Fun K "is_lates" "is_lates" s_is_lates f fd) (B : Blt mg) (Cs : Cst mg) (G : K3 P w K mg base) : FnOk P w K mg base CX0 3 f fd ["thing"] (spIsLates K) := by
  obtain ⟨t1, g_MOST_STREAMS⟩ := Cs.k_MOST_STREAMS
  refine F.ok sc_is_lates (fun vs H Q E h => ?_) (fun cdv A outer s H vs Q E hr h => ?_)
  · obtain ⟨d, L, rfl, _⟩ := h
    rfl
  · obtain ⟨d, L, rfl, hd, LL, q⟩ := h
    refine ⟨_, (pss_cons (ps_if (PW.pt (pw_or (pt_not (pt_val (pe_callB call_isi (by rfl) B.isinstance (by decide +kernel) (pa_cons (pv 0) (pa_cons (pe_bltn (v := .ty "dict") (by rfl) B.dict (by decide +kernel) rfl) pa_nil))))) (pw_or1 (pt_not (pt_chain op_le op_le pe_int (pe_callB call_lenD (by rfl) B.len (by decide +kernel) (pa_cons (pv 0) pa_nil)) (pe_glob (v := .int 8) (by rfl) g_MOST_STREAMS ⟨_, rfl⟩))))))
      (pss_one (ps_ret pe_bl))
      pss_nil)
    (pss_one (ps_ret (pe_callB (cr_all rfl) (by rfl) B.all (by decide +kernel) (pa_cons (pe_lock (pe_lc (own := [("stream", 1), ("late", 2)]) (g := gTup K 2 (gCons (gName 1) (gCons (gName 2) gNil))) (tt := tYes) (by rfl) sc_is_lates.nd (pi_items (pv 0)) (blkOk_by (own := [("stream", 1), ("late", 2)]) (N := ["thing", "stream", "late"]) (sc := defScope s_is_lates) (by decide +kernel)) (fun _ _ _ _ _ => (pg_tup (by rfl) (pgs_cons (pg_name (i := 1) sc_is_lates.nd rfl (Or.inl rfl)) (pgs_cons (pg_name (i := 2) sc_is_lates.nd rfl (Or.inl rfl)) pgs_nil)))) (fun _ _ _ _ _ => pts_nil) (fun _ _ _ _ _ => (pe_and (pe_cal G.is_name (hr.mono (by decide)) pass0 (pa_cons (pv 1) pa_nil)) (pe_one (pe_cal G.is_late (hr.mono (by decide)) pass0 (pa_cons (pv 2) pa_nil))))))) pa_nil))))), ?_⟩
    refine ⟨_, rfl, _, _, _, _, true, rfl, ClsV.ty _, .base (.dK hd), kit_ty (by decide +kernel), _, rfl, iteF ?_⟩
    refine ⟨_, rfl, d, _, rfl, hd, _, _, rfl, rfl, _, rfl, ?_⟩
    rw [LK_len]
    have l1 := LL.some_
    have l2 := LL.few
    rw [decide_eq_true (show (1 : Int) ≤ (L.length : Int) by omega)]
    refine iteT ⟨_, _, rfl, rfl, _, rfl, iteNS (by omega) ?_⟩
    refine ⟨d, _, hd, trivial, fun od => ?_⟩
    have hDd : ∀ {D : Addr}, (upd H d (.frz od (.dK (LK L)))) D = none → D ≠ d := fun h z => by rw [z, upd_same] at h; cases h
    refine ⟨_, rfl, d, od, _, rfl, upd_same, fun D hD => lc_it (walk_items (kvs := LK L)) (fun i H1 => H1 D = some (.lst ((List.replicate i true).map V.bl)) ∧ Same (upd H d (.frz od (.dK (LK L)))) H1) ⟨upd_same, sameAt (Same.refl _) hD⟩ (fun i H1 _ hv => hv.2 _ _ upd_same) ?_ ?_⟩
    · rintro i x H1 H2 hi ⟨hD1, hs⟩ ⟨T, x1, x2, rfl, hT, rfl, h1, h2⟩
      rw [LK_len] at hi
      have hx : (LK L)[i]? = some (Sum.inr L[i].1, V.int L[i].2) := by
        unfold LK
        rw [List.getElem?_map, List.getElem?_eq_getElem hi]
        rfl
      simp only [hx, Option.map_some] at h1 h2
      cases h1
      cases h2
      have hm : L[i] ∈ L := List.getElem_mem hi
      have hDT : D ≠ T := fun z => by rw [← z, hD1] at hT; cases hT
      have nmz : nmB L[i].1 = true := (nmB_iff _).mpr (LL.nm _ hm)
      have lz : decide (0 ≤ L[i].2 ∧ L[i].2 ≤ 1000000) = true := decide_eq_true ⟨LL.lo _ hm, LL.hi _ hm⟩
      refine ⟨T, _, rfl, SqT.of upd_same, rfl, _, _, rfl, _, _, rfl, rfl, rfl, ?_⟩
      refine ⟨_, rfl, _, rfl, .inl ⟨L[i].1, rfl, (by have := (LL.nm _ hm).2.1; rw [sizeLine_eq]; omega), fun H3 s3 => ⟨_, rfl, ?_⟩⟩⟩
      rw [nmz]
      refine iteT ⟨_, rfl, L[i].2, rfl, ?_⟩
      rw [lz]
      refine ⟨_, s3 _ _ (by rw [upd_ne hDT]; exact hD1), (by rw [List.length_map, List.length_replicate]; exact small1000 (by omega)), ?_, fun b o hb => ?_⟩
      · rw [upd_same, List.replicate_succ', List.map_append]
        rfl
      · rw [upd_ne (ne_of_none hb hD)]
        refine s3 _ _ ?_
        rw [upd_ne (ne_of_none (hs _ _ hb) hT)]
        exact hs _ _ hb
    · rintro H1 ⟨hD1, hs⟩
      refine ⟨hs _ _ upd_same, D, _, rfl, SqL.of (by rw [upd_ne (hDd hD)]; exact hD1), ?_⟩
      have e2 : ((List.replicate (LK L).length true).all id) = true := by simp
      rw [e2]
      refine q _ fun b o hb => ?_
      by_cases e : b = d
      · rw [e, hd] at hb
        cases hb
        rw [e, upd_same]
      · rw [upd_ne e]
        exact hs _ _ (by rw [upd_ne e]; exact hb)
end
end Ash

set_option Elab.async false
set_option linter.all false
set_option maxRecDepth 100000
set_option maxHeartbeats 4000000
namespace Ash
open PySem PySem.Spec PyProof.Rows L2
open C8 (pss_cut)
/-! ### books -/
def BookAt (CB : Addr) (H : Hp) (b : Addr) (L : List (Str × Int)) : Prop := ∃ dx d L', H b = some (.ins CB dx [("_lates", .ref d)]) ∧ H d = some (.dK (LK L')) ∧ (∀ z, L'.lookup z = L.lookup z) ∧ (L'.map (·.1)).Nodup
theorem BookAt.same {CB : Addr} {H H' : Hp} {b : Addr} {L : List (Str × Int)} (h : BookAt CB H b L) (s : Same H H') : BookAt CB H' b L := by
  obtain ⟨dx, d, L', h1, h2, h3⟩ := h
  exact ⟨dx, d, L', s _ _ h1, s _ _ h2, h3⟩
theorem BookAt.pl {CB : Addr} {H H' : Hp} {b p s : Addr} {L : List (Str × Int)} (h : BookAt CB H b L) (P0 : PoolAt H p s) (P : Pl H H' p s) : BookAt CB H' b L := by
  obtain ⟨dx, d, L', h1, h2, h3⟩ := h
  obtain ⟨ns, i, c, k, n, hp, _⟩ := P0
  exact ⟨dx, d, L', P.keep h1 (ne_of h1 hp (by intro z; cases z)), P.keep h2 (ne_of h2 hp (by intro z; cases z)), h3⟩
theorem lookup_perm {L : List (Str × Int)} (hn : (L.map (·.1)).Nodup) {ys : List Str} (hp : ys.Perm (L.map (·.1))) (f : Str → Int) (hf : ∀ x ∈ L, f x.1 = x.2) (z : Str) : (ys.map fun y => (y, f y)).lookup z = L.lookup z := by
  by_cases hz : z ∈ L.map (·.1)
  · have hy : z ∈ ys := hp.mem_iff.mpr hz
    have a1 : ∀ (l : List Str), z ∈ l → (l.map fun y => (y, f y)).lookup z = some (f z) := fun l => by
      induction l with
      | nil => intro h; cases h
      | cons a l ih =>
        intro h
        by_cases e : z = a
        · subst e
          simp [List.lookup]
        · have h' : (z == a) = false := by simpa using e
          show List.lookup z ((a, f a) :: l.map fun y => (y, f y)) = _
          simp only [List.lookup, h']
          exact ih ((List.mem_cons.mp h).resolve_left e)
    have a2 : ∀ (l : List (Str × Int)), (∀ x ∈ l, f x.1 = x.2) → z ∈ l.map (·.1) → l.lookup z = some (f z) := fun l => by
      induction l with
      | nil => intro _ h; cases h
      | cons a l ih =>
        intro hf h
        obtain ⟨a1, a2⟩ := a
        by_cases e : z = a1
        · subst e
          have := hf _ List.mem_cons_self
          simp only [List.lookup, beq_self_eq_true]
          exact congrArg some this.symm
        · have h' : (z == a1) = false := by simpa using e
          simp only [List.lookup, h']
          exact ih (fun x hx => hf x (List.mem_cons_of_mem _ hx)) ((List.mem_cons.mp h).resolve_left e)
    rw [a1 ys hy, a2 L hf hz]
  · rw [lookup_none hz, lookup_none (L := ys.map fun y => (y, f y))]
    rw [List.map_map]
    show z ∉ ys.map fun y => y
    rw [List.map_id']
    exact fun h => hz (hp.mem_iff.mp h)
theorem lookup_mem : ∀ {L : List (Str × Int)} {x : Str × Int}, (L.map (·.1)).Nodup → x ∈ L → L.lookup x.1 = some x.2
  | [], x, _, h => nomatch h
  | (a1, a2) :: L, x, hn, h => by
    obtain ⟨h1, h2⟩ := List.nodup_cons.mp (show (a1 :: L.map (·.1)).Nodup from hn)
    rcases List.mem_cons.mp h with rfl | h
    · simp [List.lookup]
    · have e : ¬ x.1 = a1 := fun z => h1 (by rw [← z]; exact List.mem_map_of_mem h)
      have h' : (x.1 == a1) = false := by simpa using e
      simp only [List.lookup, h']
      exact lookup_mem h2 h
def spBookInit (CB : Addr) : Sp := fun vs H Q _ => ∃ (b dx d : Addr) (L : List (Str × Int)), vs = [.ref b, .ref d] ∧ H b = some (.ins CB dx []) ∧ H d = some (.dK (LK L)) ∧ Lates L ∧
  ∀ H', BookAt CB H' b L → (∀ c o, H c = some o → c ≠ b → H' c = some o) → Q .non H'
/-- has(stream) of a text -/
def spHas (CB : Addr) : Sp := fun vs H Q _ => ∃ (b : Addr) (L : List (Str × Int)) (z : Str), vs = [.ref b, .str z] ∧ BookAt CB H b L ∧ IsNm z ∧ ∀ H', Same H H' → Q (.bl (L.lookup z).isSome) H'
def spLate (CB : Addr) : Sp := fun vs H Q _ => ∃ (b : Addr) (L : List (Str × Int)) (z : Str) (n : Int), vs = [.ref b, .str z] ∧ BookAt CB H b L ∧ IsNm z ∧ L.lookup z = some n ∧ ∀ H', Same H H' → Q (.int n) H'
structure Cb (K : PySem.W.Frag) (mg : Str → Option Value) (CB : Addr) : Prop where
  cl : Cls K CB
  nL : NoAttr K CB "_lates"
  c : mg "Book" = some (.ref CB)
section
variable {P : Program} {w : World} {K : PySem.W.Frag} {mg : Str → Option Value} {base : Heap}
structure K4 (P : Program) (w : World) (K : PySem.W.Frag) (mg : Str → Option Value) (base : Heap) : Prop extends K3 P w K mg base where
  is_lates : Cal P w K mg base CX0 "is_lates" 3 ["thing"] (spIsLates K)
abbrev s_Book_init : Stmt := inClass (topS 23) 0
theorem sc_Book_init : FnScope ["self", "lates", "stream"] ["self", "lates"] (defScope s_Book_init) := ⟨rfl, rfl, rfl, by decide +kernel, rfl, by decide +kernel, by decide +kernel⟩
theorem ok_book_init {f CB : Addr} {fd : FuncData} (F : Fun K "__init__" "Book.__init__" s_Book_init f fd) (B : Blt mg) (T : Cb K mg CB) (G : K4 P w K mg base) : FnOk P w K mg base CX0 4 f fd ["self", "lates"] (spBookInit CB) := by
  refine F.ok sc_Book_init (fun vs H Q E h => ?_) (fun cdv A outer s H vs Q E hr h => ?_)
  · obtain ⟨b, dx, d, L, rfl, _⟩ := h
    rfl
  · obtain ⟨b, dx, d, L, rfl, hb, hd, LL, q⟩ := h
    have hu := hu_of hr
    refine ⟨_, (pss_cons (ps_if (pt_not (pt_val (pe_cal G.is_lates (hr.mono (by decide)) pass0 (pa_cons (pv 1) pa_nil))))
      (pss_one ps_never)
      pss_nil)
    (pss_one (ps_fld (pv 0) (pe_dc (own := [("stream", 2)]) (g := gName 2) (tt := tYes) (by rfl) sc_Book_init.nd (pi_list (pe_callB cr_sortedS (by rfl) B.sorted (by decide +kernel) (pa_cons (pe_callTy (call_listD (by rfl)) (by rfl) B.list (by decide +kernel) (pa_cons (pv 1) pa_nil)) pa_nil))) (blkOk_by (own := [("stream", 2)]) (N := ["self", "lates", "stream"]) (sc := defScope s_Book_init) (by decide +kernel)) (fun _ _ _ _ _ => (pg_name (i := 2) sc_Book_init.nd rfl (Or.inl rfl))) (fun _ _ _ _ _ => pts_nil) (fun _ _ _ _ _ => (pv 2)) (fun _ _ _ _ _ => (pe_dget hu (pv 1) (pv 2) (fun _ _ => rfl)))) rfl))), ?_⟩
    refine ⟨_, rfl, d, L, rfl, hd, LL, fun H1 s1 => ⟨_, rfl, iteF ?_⟩⟩
    refine ⟨_, rfl, d, _, rfl, .of (s1 _ _ hd), fun l hl => ?_⟩
    have e1 : (LK L).map (fun kv => kV kv.1) = (L.map (·.1)).map V.str := by
      unfold LK
      rw [List.map_map, List.map_map]
      rfl
    rw [e1]
    have l8 := LL.few
    refine ⟨l, _, rfl, SqL.of upd_same, (by rw [List.length_map]; omega), fun ys q1 hperm hsort hq1 => ?_⟩
    have hln : l ≠ q1 := fun z => by rw [← z, upd_same] at hq1; cases hq1
    have s2 : Same H (upd (upd H1 l (.lst ((L.map (·.1)).map V.str))) q1 (.lst (ys.map V.str))) := (s1.trans (sameAt (Same.refl H1) hl)).trans (sameAt (Same.refl _) hq1)
    have hlenY : ys.length ≤ 8 := by rw [hperm.length_eq, List.length_map]; exact l8
    have fOf : ∀ z, z ∈ L.map (·.1) → L.lookup z = some ((L.lookup z).getD 0) := fun z hz => by
      obtain ⟨x, hx, rfl⟩ := List.mem_map.mp hz
      rw [lookup_mem LL.nd hx]
      rfl
    refine ⟨q1, rfl, ⟨_, SqL.of upd_same⟩, fun D hD => dc_it (walk_list (xs := ys.map V.str)) (fun i H3 => H3 D = some (.dK (LK ((ys.take i).map fun y => (y, (L.lookup y).getD 0)))) ∧ Same (upd (upd H1 l (.lst ((L.map (·.1)).map V.str))) q1 (.lst (ys.map V.str))) H3) ⟨upd_same, sameAt (Same.refl _) hD⟩ (fun i H3 _ hv => SqL.of (hv.2 _ _ upd_same)) ?_ ?_⟩
    · rintro i x H3 H4 hi ⟨hD3, s3⟩ ⟨rfl, hx⟩
      obtain ⟨z, hz, rfl⟩ : ∃ z, ys[i]? = some z ∧ x = V.str z := by
        rw [List.getElem?_map] at hx
        cases e : ys[i]? with
        | none => rw [e] at hx; cases hx
        | some z => rw [e] at hx; exact ⟨z, rfl, (Option.some.inj hx).symm⟩
      have hzL : z ∈ L.map (·.1) := hperm.mem_iff.mp (List.mem_of_getElem? hz)
      have hd3 : H4 d = some (.dK (LK L)) := s3 _ _ (s2 _ _ hd)
      have hyn : ys.Nodup := hperm.symm.nodup LL.nd
      rw [List.length_map] at hi
      have hg := DGet.k (k := Sum.inr z) hd3
      rw [LK_val, fOf z hzL, Option.map_some] at hg
      refine ⟨rfl, _, rfl, _, rfl, _, rfl, d, _, rfl, hg, _, Sum.inr z, rfl, hD3, (by rw [LK_len, List.length_map, List.length_take]; exact small1000 (by omega)), ?_, sameAt s3 hD⟩
      rw [upd_same, putK_new]
      · rw [list_take hz, List.map_append]
        unfold LK
        rw [List.map_append]
        rfl
      · rw [LK_val, lookup_none]
        · rfl
        · rw [List.map_map]
          show z ∉ (ys.take i).map fun y => y
          rw [List.map_id']
          intro hm
          obtain ⟨j, hj, e⟩ := List.getElem_of_mem hm
          rw [List.length_take] at hj
          rw [List.getElem_take] at e
          have := nd_ix hyn (List.getElem?_eq_some_iff.mpr ⟨by omega, e⟩) hz
          omega
    · rintro H3 ⟨hD3, s3⟩
      rw [List.length_map, List.take_length] at hD3
      have hb3 : H3 b = some (.ins CB dx []) := s3 _ _ (s2 _ _ hb)
      have hbD : D ≠ b := fun z => by rw [z] at hD; exact absurd (s2 _ _ hb) (by rw [hD]; simp)
      refine ⟨_, rfl, b, CB, dx, [], rfl, hb3, T.cl, T.nL, (by show 0 < 1000; decide), ?_⟩
      refine q _ ⟨dx, D, _, upd_same, (by rw [upd_ne hbD]; exact hD3), fun z => ?_, ?_⟩ fun c o hc hn => ?_
      · exact lookup_perm LL.nd hperm _ (fun x hx => by rw [lookup_mem LL.nd hx]; rfl) z
      · rw [List.map_map]
        show (ys.map fun y => y).Nodup
        rw [List.map_id']
        exact hperm.symm.nodup LL.nd
      · rw [upd_ne hn]
        exact s3 _ _ (s2 _ _ hc)
abbrev s_Book_has : Stmt := inClass (topS 23) 3
theorem sc_Book_has : FnScope ["self", "stream"] ["self", "stream"] (defScope s_Book_has) := ⟨rfl, rfl, rfl, by decide +kernel, rfl, by decide +kernel, by decide +kernel⟩
theorem ok_book_has {f CB : Addr} {fd : FuncData} (F : Fun K "has" "Book.has" s_Book_has f fd) (B : Blt mg) (T : Cb K mg CB) (G : K4 P w K mg base) : FnOk P w K mg base CX0 2 f fd ["self", "stream"] (spHas CB) := by
  refine F.ok sc_Book_has (fun vs H Q E h => ?_) (fun cdv A outer s H vs Q E hr h => ?_)
  · obtain ⟨b, L, z, rfl, _⟩ := h
    rfl
  · obtain ⟨b, L, z, rfl, hB, hz, q⟩ := h
    have hu := hu_of hr
    refine ⟨_, (pss_one (ps_ret (pe_and (pe_cal G.is_name (hr.mono (by decide)) pass0 (pa_cons (pv 1) pa_nil)) (pe_one (pe_cmp (pc_din hu (pv 1) (pe_fld (pv 0) rfl)) rfl))))), ?_⟩
    refine ⟨_, rfl, _, rfl, .inl ⟨z, rfl, (by have := hz.2.1; rw [sizeLine_eq]; omega), fun H1 s1 => ⟨_, rfl, ?_⟩⟩⟩
    rw [(nmB_iff z).mpr hz]
    obtain ⟨dx, d, L', h1, h2, h3, _⟩ := hB.same s1
    refine iteT ⟨_, rfl, _, rfl, b, CB, dx, _, _, rfl, h1, T.cl, T.nL, rfl, d, _, rfl, DGet.k (k := Sum.inr z) h2, ?_⟩
    have e : (valV (LK L') (Sum.inr z : Key)).isSome = (L.lookup z).isSome := by rw [LK_val, Option.isSome_map, h3]
    rw [e]
    exact q H1 s1
abbrev s_Book_late : Stmt := inClass (topS 23) 4
theorem sc_Book_late : FnScope ["self", "stream"] ["self", "stream"] (defScope s_Book_late) := ⟨rfl, rfl, rfl, by decide +kernel, rfl, by decide +kernel, by decide +kernel⟩
theorem ok_book_late {f fh CB : Addr} {fd fdh : FuncData} (F : Fun K "late" "Book.late" s_Book_late f fd) (B : Blt mg) (T : Cb K mg CB) (M_has : Meth K CB "has" fh) (b_has : Binds K fdh ["self", "stream"] []) (F_has : FnOk P w K mg base CX0 2 fh fdh ["self", "stream"] (spHas CB)) : FnOk P w K mg base CX0 3 f fd ["self", "stream"] (spLate CB) := by
  refine F.ok sc_Book_late (fun vs H Q E h => ?_) (fun cdv A outer s H vs Q E hr h => ?_)
  · obtain ⟨b, L, z, n, rfl, _⟩ := h
    rfl
  · obtain ⟨b, L, z, n, rfl, hB, hz, hn, q⟩ := h
    have hu := hu_of hr
    refine ⟨_, (pss_cons (ps_if (pt_not (pt_val (pe_meth (pv 0) T.cl M_has F_has (hr.mono (by decide)) b_has .nil pass0 (pa_cons (pv 1) pa_nil))))
      (pss_one ps_never)
      pss_nil)
    (pss_one (ps_ret (pe_dget hu (pe_fld (pv 0) rfl) (pv 1) (fun _ _ => rfl))))), ?_⟩
    obtain ⟨dx, d, L', h1, h2, h3, _⟩ := id hB
    refine ⟨_, rfl, b, dx, _, rfl, h1, rfl, _, rfl, b, L, z, rfl, hB, hz, fun H1 s1 => ⟨_, rfl, ?_⟩⟩
    rw [hn]
    refine iteF ?_
    have hg := DGet.k (k := Sum.inr z) (s1 _ _ h2)
    rw [LK_val, h3, hn] at hg
    exact ⟨_, rfl, b, CB, dx, _, _, rfl, s1 _ _ h1, T.cl, T.nL, rfl, _, rfl, d, _, rfl, hg, q H1 s1⟩
end
end Ash

set_option Elab.async false
set_option linter.all false
set_option maxRecDepth 100000
set_option maxHeartbeats 4000000
namespace Ash
open PySem PySem.Spec PyProof.Rows L2
open C8 (pss_cut)
/-! ### entries -/
inductive Ent where
  | row (id : Int) (s k : Str) (m a r : Int)
  | fix (id m a r : Int)
  | gone (id r : Int)
  deriving DecidableEq
def Ent.vs : Ent → List V
  | .row id s k m a r => [.str "row", .int id, .str s, .str k, .int m, .int a, .int r]
  | .fix id m a r => [.str "fix", .int id, .int m, .int a, .int r]
  | .gone id r => [.str "gone", .int id, .int r]
def Ent.id : Ent → Int
  | .row id _ _ _ _ _ => id
  | .fix id _ _ _ => id
  | .gone id _ => id
def Ent.arr : Ent → Int
  | .row _ _ _ _ _ r => r
  | .fix _ _ _ r => r
  | .gone _ r => r
def Ent.ok (x : Ent) : Prop := 0 ≤ x.id ∧ ∀ id s k m a r, x = .row id s k m a r → IsNm s ∧ IsNm k
def EntAt (H : Hp) (e : Addr) (x : Ent) : Prop := H e = some (.tup x.vs)
/-- what is known of a row: taken back, or what it is -/
inductive RowSt where
  | tb
  | at_ (s k : Str) (m a : Int)
def RowV (aT : Addr) (H : Hp) : Option V → Option RowSt → Prop
  | none, none => True
  | some v, some .tb => v = .ref aT
  | some v, some (.at_ s k m a) => ∃ t, v = .ref t ∧ H t = some (.tup [.str s, .str k, .int m, .int a])
  | _, _ => False
theorem RowV.same {aT : Addr} {H H' : Hp} {v : Option V} {o : Option RowSt} (h : RowV aT H v o) (s : Same H H') : RowV aT H' v o := by
  cases v with
  | none => cases o <;> exact h
  | some v =>
    cases o with
    | none => exact h
    | some o =>
      cases o with
      | tb => exact h
      | at_ z k m a =>
        obtain ⟨t, e, h⟩ := h
        exact ⟨t, e, s _ _ h⟩
/-- what an entry makes of its row -/
def behind (L : List (Str × Int)) : Ent → Option RowSt → Option RowSt
  | .row _ s k m a r, none => (L.lookup s).bind fun l => if m ≤ r ∧ r ≤ m + l then some (.at_ s k m a) else none
  | .fix _ m a r, some (.at_ s k m0 _) => (L.lookup s).bind fun l => if r ≤ m0 + l ∧ m ≤ r ∧ r ≤ m + l then some (.at_ s k m a) else none
  | .gone _ r, some (.at_ s _ m0 _) => (L.lookup s).bind fun l => if r ≤ m0 + l then some .tb else none
  | _, _ => none
def spIsEntry (K : PySem.W.Frag) : Sp := fun vs H Q _ => ∃ v, vs = [v] ∧ ((∃ e x, v = .ref e ∧ EntAt H e x ∧ x.ok ∧ ∀ H', Same H H' → Q (.bl true) H') ∨ (NotTup K H v ∧ Q (.bl false) H) ∨
  ∃ e xs, v = .ref e ∧ H e = some (.tup xs) ∧ xs.length < 3 ∧ Q (.bl false) H)
def spArr (K : PySem.W.Frag) : Sp := fun vs H Q _ => ∃ e x, vs = [.ref e] ∧ EntAt H e x ∧ Q (.int x.arr) H
def spPlaced (CB : Addr) : Sp := fun vs H Q _ => ∃ (b t : Addr) (L : List (Str × Int)) (s k : Str) (m a r l : Int), vs = [.ref b, .ref t, .int r] ∧ BookAt CB H b L ∧ H t = some (.tup [.str s, .str k, .int m, .int a]) ∧ IsNm s ∧ L.lookup s = some l ∧
  ∀ H', Same H H' → Q (if m ≤ r ∧ r ≤ m + l then .ref t else .non) H'
def spBehind (aT CB : Addr) : Sp := fun vs H Q _ => ∃ (b e : Addr) (L : List (Str × Int)) (x : Ent) (ov : Option V) (o : Option RowSt), vs = [.ref b, .ref e, ov.getD .non] ∧ BookAt CB H b L ∧ EntAt H e x ∧ x.ok ∧ RowV aT H ov o ∧
  (∀ s k m a, o = some (.at_ s k m a) → IsNm s ∧ IsNm k ∧ (L.lookup s).isSome) ∧
  ∀ v H', Same H H' → ((behind L x o = none ∧ v = .non) ∨ (v ≠ .non ∧ ∃ y, behind L x o = some y ∧ RowV aT H' (some v) (some y))) → Q v H'
section
variable {P : Program} {w : World} {K : PySem.W.Frag} {mg : Str → Option Value} {base : Heap}
abbrev s_is_entry : Stmt := topS 28
theorem sc_is_entry : FnScope ["thing"] ["thing"] (defScope s_is_entry) := ⟨rfl, rfl, rfl, by decide +kernel, rfl, by decide +kernel, by decide +kernel⟩
theorem ok_is_entry {f : Addr} {fd : FuncData} (F : Fun K "is_entry" "is_entry" s_is_entry f fd) (B : Blt mg) (G : K3 P w K mg base) : FnOk P w K mg base CX0 3 f fd ["thing"] (spIsEntry K) := by
  refine F.ok sc_is_entry (fun vs H Q E h => ?_) (fun cdv A outer s H vs Q E hr h => ?_)
  · obtain ⟨v, rfl, _⟩ := h
    rfl
  · obtain ⟨v, rfl, hv⟩ := h
    refine ⟨_, (pss_cons (ps_if (PW.pt (pw_or (pt_not (pt_val (pe_callB call_isi (by rfl) B.isinstance (by decide +kernel) (pa_cons (pv 0) (pa_cons (pe_bltn (v := .ty "tuple") (by rfl) B.tuple (by decide +kernel) rfl) pa_nil))))) (pw_or (pt_cmpR op_lt (pe_callB call_len_seq (by rfl) B.len (by decide +kernel) (pa_cons (pv 0) pa_nil)) pe_int (nomark _)) (pw_or1 (pt_not (pt_val (pe_cal G.is_natural (hr.mono (by decide)) pass0 (pa_cons (pe_ix ix_tup (pv 0) pe_int (fun _ _ => rfl)) pa_nil))))))))
      (pss_one (ps_ret pe_bl))
      pss_nil)
    (pss_cons (ps_if (pt_cmpR op_eq (pe_ix ix_tup (pv 0) pe_int (fun _ _ => rfl)) pe_str (nomark _))
      (pss_one (ps_ret (pe_and (pe_cmpR op_eq (pe_callB call_len_seq (by rfl) B.len (by decide +kernel) (pa_cons (pv 0) pa_nil)) pe_int (nomark _)) (pe_and (pe_cal G.is_name (hr.mono (by decide)) pass0 (pa_cons (pe_ix ix_tup (pv 0) pe_int (fun _ _ => rfl)) pa_nil)) (pe_and (pe_cal G.is_name (hr.mono (by decide)) pass0 (pa_cons (pe_ix ix_tup (pv 0) pe_int (fun _ _ => rfl)) pa_nil)) (pe_one (pe_cal G.are_integers (hr.mono (by decide)) pass0 (pa_cons (pe_slice sl_tup (pv 0) (po_some pe_int) po_none) pa_nil))))))))
      pss_nil)
    (pss_cons (ps_if (pt_cmpR op_eq (pe_ix ix_tup (pv 0) pe_int (fun _ _ => rfl)) pe_str (nomark _))
      (pss_one (ps_ret (pe_and (pe_cmpR op_eq (pe_callB call_len_seq (by rfl) B.len (by decide +kernel) (pa_cons (pv 0) pa_nil)) pe_int (nomark _)) (pe_one (pe_cal G.are_integers (hr.mono (by decide)) pass0 (pa_cons (pe_slice sl_tup (pv 0) (po_some pe_int) po_none) pa_nil))))))
      pss_nil)
    (pss_one (ps_ret (pe_and (pe_cmpR op_eq (pe_ix ix_tup (pv 0) pe_int (fun _ _ => rfl)) pe_str (nomark _)) (pe_and (pe_cmpR op_eq (pe_callB call_len_seq (by rfl) B.len (by decide +kernel) (pa_cons (pv 0) pa_nil)) pe_int (nomark _)) (pe_one (pe_cal G.are_integers (hr.mono (by decide)) pass0 (pa_cons (pe_slice sl_tup (pv 0) (po_some pe_int) po_none) pa_nil)))))))))), ?_⟩
    rcases hv with ⟨e, x, rfl, hx, hok, q⟩ | ⟨⟨t, ty, e1⟩, q⟩ | ⟨e, xs, rfl, hx, hl, q⟩
    · refine ⟨_, rfl, _, _, _, _, true, rfl, ClsV.ty _, .base (.tup hx), kit_ty (by decide +kernel), _, rfl, iteF ?_⟩
      refine ⟨_, rfl, e, _, rfl, .inr (SqT.of hx), _, _, rfl, rfl, _, rfl, ?_⟩
      cases x with
      | row id s k m a r =>
        obtain ⟨h0, hn⟩ := hok
        obtain ⟨hs, hk⟩ := hn _ _ _ _ _ _ rfl
        refine iteF ⟨_, rfl, _, _, _, _, rfl, rfl, SqT.of hx, rfl, _, rfl, .inl ⟨id, rfl, _, rfl, ?_⟩⟩
        rw [decide_eq_true (show 0 ≤ id from h0)]
        refine iteF ⟨_, rfl, _, _, _, _, rfl, rfl, SqT.of hx, rfl, rfl, _, rfl, ?_⟩
        refine iteT ⟨_, rfl, e, _, rfl, .inr (SqT.of hx), rfl, _, rfl, iteT ?_⟩
        refine ⟨_, rfl, _, _, _, _, rfl, rfl, SqT.of hx, rfl, _, rfl, .inl ⟨s, rfl, (by have := hs.2.1; rw [sizeLine_eq]; omega), fun H1 s1 => ⟨_, rfl, ?_⟩⟩⟩
        rw [(nmB_iff s).mpr hs]
        have hx1 := s1 _ _ hx
        refine iteT ⟨_, rfl, _, _, _, _, rfl, rfl, SqT.of hx1, rfl, _, rfl, .inl ⟨k, rfl, (by have := hk.2.1; rw [sizeLine_eq]; omega), fun H2 s2 => ⟨_, rfl, ?_⟩⟩⟩
        rw [(nmB_iff k).mpr hk]
        have hx2 := s2 _ _ hx1
        refine iteT ⟨_, rfl, _, rfl, e, _, rfl, SqT.of hx2, (by show ¬ (HT.sIx 7 0 (some 4) = 0 ∧ HT.sIx 7 7 none = 7); decide), fun p hp => ?_⟩
        refine ⟨p, [m, a, r], rfl, SqT.of upd_same, (by show 3 ≤ 100; decide), fun H3 s3 => q _ ?_⟩
        exact ((s1.trans s2).trans (sameAt (Same.refl _) hp)).trans s3
      | fix id m a r =>
        obtain ⟨h0, hn⟩ := hok
        refine iteF ⟨_, rfl, _, _, _, _, rfl, rfl, SqT.of hx, rfl, _, rfl, .inl ⟨id, rfl, _, rfl, ?_⟩⟩
        rw [decide_eq_true (show 0 ≤ id from h0)]
        refine iteF ⟨_, rfl, _, _, _, _, rfl, rfl, SqT.of hx, rfl, rfl, _, rfl, ?_⟩
        refine iteF ⟨_, rfl, _, _, _, _, rfl, rfl, SqT.of hx, rfl, rfl, _, rfl, ?_⟩
        refine iteT ⟨_, rfl, e, _, rfl, .inr (SqT.of hx), rfl, _, rfl, iteT ?_⟩
        refine ⟨_, rfl, _, rfl, e, _, rfl, SqT.of hx, (by show ¬ (HT.sIx 5 0 (some 2) = 0 ∧ HT.sIx 5 5 none = 5); decide), fun p hp => ?_⟩
        refine ⟨p, [m, a, r], rfl, SqT.of upd_same, (by show 3 ≤ 100; decide), fun H3 s3 => q _ ?_⟩
        exact (sameAt (Same.refl _) hp).trans s3
      | gone id r =>
        obtain ⟨h0, hn⟩ := hok
        refine iteF ⟨_, rfl, _, _, _, _, rfl, rfl, SqT.of hx, rfl, _, rfl, .inl ⟨id, rfl, _, rfl, ?_⟩⟩
        rw [decide_eq_true (show 0 ≤ id from h0)]
        refine iteF ⟨_, rfl, _, _, _, _, rfl, rfl, SqT.of hx, rfl, rfl, _, rfl, ?_⟩
        refine iteF ⟨_, rfl, _, _, _, _, rfl, rfl, SqT.of hx, rfl, rfl, _, rfl, ?_⟩
        refine iteF ⟨_, rfl, _, _, _, _, rfl, rfl, SqT.of hx, rfl, rfl, _, rfl, iteT ?_⟩
        refine ⟨_, rfl, e, _, rfl, .inr (SqT.of hx), rfl, _, rfl, iteT ?_⟩
        refine ⟨_, rfl, _, rfl, e, _, rfl, SqT.of hx, (by show ¬ (HT.sIx 3 0 (some 2) = 0 ∧ HT.sIx 3 3 none = 3); decide), fun p hp => ?_⟩
        refine ⟨p, [r], rfl, SqT.of upd_same, (by show 1 ≤ 100; decide), fun H3 s3 => q _ ?_⟩
        exact (sameAt (Same.refl _) hp).trans s3
    · exact ⟨_, rfl, _, _, _, _, false, rfl, ClsV.ty _, ty, e1, _, rfl, iteT q⟩
    · refine ⟨_, rfl, _, _, _, _, true, rfl, ClsV.ty _, .base (.tup hx), kit_ty (by decide +kernel), _, rfl, iteF ?_⟩
      refine ⟨_, rfl, e, _, rfl, .inr (SqT.of hx), _, _, rfl, rfl, _, rfl, ?_⟩
      rw [decide_eq_true (show (xs.length : Int) < 3 by omega)]
      exact iteT q
abbrev s_arrival_of : Stmt := topS 29
theorem sc_arrival_of : FnScope ["entry"] ["entry"] (defScope s_arrival_of) := ⟨rfl, rfl, rfl, by decide +kernel, rfl, by decide +kernel, by decide +kernel⟩
theorem ok_arrival_of {f : Addr} {fd : FuncData} (F : Fun K "arrival_of" "arrival_of" s_arrival_of f fd) (B : Blt mg) : FnOk P w K mg base CX0 1 f fd ["entry"] (spArr K) := by
  refine F.ok sc_arrival_of (fun vs H Q E h => ?_) (fun cdv A outer s H vs Q E hr h => ?_)
  · obtain ⟨e, x, rfl, _⟩ := h
    rfl
  · obtain ⟨e, x, rfl, hx, q⟩ := h
    refine ⟨_, (pss_one (ps_ret (pe_ix ix_tup (pv 0) (pe_un un_neg pe_int) (fun _ _ => rfl)))), ?_⟩
    cases x with
    | row id s k m a r => exact ⟨_, rfl, _, rfl, _, _, _, _, rfl, rfl, SqT.of hx, rfl, q⟩
    | fix id m a r => exact ⟨_, rfl, _, rfl, _, _, _, _, rfl, rfl, SqT.of hx, rfl, q⟩
    | gone id r => exact ⟨_, rfl, _, rfl, _, _, _, _, rfl, rfl, SqT.of hx, rfl, q⟩
abbrev s_placed : Stmt := topS 31
theorem sc_placed : FnScope ["book", "row", "arrival", "stream", "moment"] ["book", "row", "arrival"] (defScope s_placed) := ⟨rfl, rfl, rfl, by decide +kernel, rfl, by decide +kernel, by decide +kernel⟩
theorem ok_placed {f fl CB : Addr} {fd fdl : FuncData} (F : Fun K "placed" "placed" s_placed f fd) (B : Blt mg) (T : Cb K mg CB) (M_late : Meth K CB "late" fl) (b_late : Binds K fdl ["self", "stream"] []) (F_late : FnOk P w K mg base CX0 3 fl fdl ["self", "stream"] (spLate CB)) : FnOk P w K mg base CX0 4 f fd ["book", "row", "arrival"] (spPlaced CB) := by
  refine F.ok sc_placed (fun vs H Q E h => ?_) (fun cdv A outer s H vs Q E hr h => ?_)
  · obtain ⟨b, t, L, z, k, m, a, r, l, rfl, _⟩ := h
    rfl
  · obtain ⟨b, t, L, z, k, m, a, r, l, rfl, hB, ht, hz, hl, q⟩ := h
    refine ⟨_, (pss_cons (ps_par (i := 3) (j := 4) (by rfl) sc_placed.nd rfl rfl (by decide) rfl rfl (pa_cons (pe_ix ix_tup (pv 1) pe_int (fun _ _ => rfl)) (pa_cons (pe_ix ix_tup (pv 1) pe_int (fun _ _ => rfl)) pa_nil)) (by rfl))
    (pss_cons (ps_if (pt_chain op_le op_le (pv 4) (pv 2) (pe_op op_add (pv 4) (pe_meth (pv 0) T.cl M_late F_late (hr.mono (by decide)) b_late .nil pass0 (pa_cons (pv 3) pa_nil))))
      (pss_one (ps_ret (pv 1)))
      pss_nil)
    (pss_one (ps_ret pe_non)))), ?_⟩
    refine ⟨_, rfl, _, _, _, _, rfl, rfl, SqT.of ht, rfl, _, rfl, _, _, _, _, rfl, rfl, SqT.of ht, rfl, _, _, rfl, ?_⟩
    obtain ⟨dx, d, L', h1, h2, h3⟩ := id hB
    refine ⟨_, rfl, _, rfl, _, _, rfl, rfl, _, rfl, ?_⟩
    refine ite2 (fun c1 => ?_) (fun c1 => ?_)
    · have c1 : m ≤ r := of_decide_eq_true c1
      refine ⟨_, rfl, _, rfl, b, dx, _, rfl, h1, rfl, _, rfl, b, L, z, l, rfl, hB, hz, hl, fun H1 s1 => ⟨_, _, rfl, rfl, _, _, rfl, rfl, _, rfl, ?_⟩⟩
      refine ite2 (fun c2 => ?_) (fun c2 => ?_)
      · have c2 : r ≤ m + l := of_decide_eq_true c2
        have := q H1 s1
        rw [if_pos ⟨c1, c2⟩] at this
        exact ⟨_, rfl, this⟩
      · have c2 : ¬ r ≤ m + l := by simpa using c2
        have := q H1 s1
        rw [if_neg (fun z => c2 z.2)] at this
        exact this
    · have c1 : ¬ m ≤ r := by simpa using c1
      have := q H (Same.refl H)
      rw [if_neg (fun z => c1 z.1)] at this
      exact ⟨_, rfl, iteF this⟩
structure K5 (P : Program) (w : World) (K : PySem.W.Frag) (mg : Str → Option Value) (base : Heap) (CB : Addr) : Prop extends K4 P w K mg base where
  is_entry : Cal P w K mg base CX0 "is_entry" 3 ["thing"] (spIsEntry K)
  arrival_of : Cal P w K mg base CX0 "arrival_of" 1 ["entry"] (spArr K)
  placed : Cal P w K mg base CX0 "placed" 4 ["book", "row", "arrival"] (spPlaced CB)
/-- the written () -/
structure Tb (K : PySem.W.Frag) (mg : Str → Option Value) (aT : Addr) : Prop where
  g : mg "TAKEN_BACK" = some (.ref aT)
  t : ∃ (o : Obj) (n : Nat), K.lookup aT = some o ∧ o.cls = .type "tuple" ∧ o.data = .seq #[] n
theorem Tb.sq {aT : Addr} (h : Tb K mg aT) (H : Hp) : SqT K H aT [] := by
  obtain ⟨o, n, h1, h2, h3⟩ := h.t
  exact .inr ⟨o, #[], n, h1, h2, h3, Nat.zero_le _, .nil⟩
abbrev s_row_behind : Stmt := topS 30
theorem sc_row_behind : FnScope ["book", "entry", "old", "stream", "key", "moment", "_"] ["book", "entry", "old"] (defScope s_row_behind) := ⟨rfl, rfl, rfl, by decide +kernel, rfl, by decide +kernel, by decide +kernel⟩
theorem ok_row_behind {f fh fl CB a_TAKEN_BACK : Addr} {fd fdh fdl : FuncData} (F : Fun K "row_behind" "row_behind" s_row_behind f fd) (B : Blt mg) (T : Cb K mg CB) (TB : Tb K mg a_TAKEN_BACK) (G : K5 P w K mg base CB) (M_has : Meth K CB "has" fh) (b_has : Binds K fdh ["self", "stream"] []) (F_has : FnOk P w K mg base CX0 2 fh fdh ["self", "stream"] (spHas CB))
    (M_late : Meth K CB "late" fl) (b_late : Binds K fdl ["self", "stream"] []) (F_late : FnOk P w K mg base CX0 3 fl fdl ["self", "stream"] (spLate CB)) : FnOk P w K mg base CX0 5 f fd ["book", "entry", "old"] (spBehind a_TAKEN_BACK CB) := by
  have g_TAKEN_BACK := TB.g
  refine F.ok sc_row_behind (fun vs H Q E h => ?_) (fun cdv A outer s H vs Q E hr h => ?_)
  · obtain ⟨b, e, L, x, ov, o, rfl, _⟩ := h
    rfl
  · obtain ⟨b, e, L, x, ov, o, rfl, hB, hx, hok, hV, hNm, q⟩ := h
    have hu := hu_of hr
    obtain ⟨dx, d, L', h1, h2, h3⟩ := id hB
    refine ⟨_, (pss_cons (ps_if (pt_cmpR op_eq (pe_ix ix_tup (pv 1) pe_int (fun _ _ => rfl)) pe_str (nomark _))
      (pss_cons (ps_if (PW.pt (pw_or (pt_cmpR op_notN (pv 2) pe_non (nomark _)) (pw_or1 (pt_not (pt_val (pe_meth (pv 0) T.cl M_has F_has (hr.mono (by decide)) b_has .nil pass0 (pa_cons (pe_ix ix_tup (pv 1) pe_int (fun _ _ => rfl)) pa_nil)))))))
        (pss_one (ps_ret pe_non))
        pss_nil)
      (pss_one (ps_ret (pe_cal G.placed (hr.mono (by decide)) pass0 (pa_cons (pv 0) (pa_cons (pe_slice sl_tup (pv 1) (po_some pe_int) (po_some pe_int)) (pa_cons (pe_cal G.arrival_of (hr.mono (by decide)) pass0 (pa_cons (pv 1) pa_nil)) pa_nil)))))))
      pss_nil)
    (pss_cons (ps_if (PW.pt (pw_or (pt_cmpR op_isN (pv 2) pe_non (nomark _)) (pw_or1 (pt_cmpR (op_eqD hr.units) (pv 2) (pe_glob (v := .ref a_TAKEN_BACK) (by rfl) g_TAKEN_BACK rfl) (nomark _)))))
      (pss_one (ps_ret pe_non))
      pss_nil)
    (pss_cons (ps_asg (pv 2) (pg_tup (by rfl) (pgs_cons (pg_name (i := 3) sc_row_behind.nd rfl (Or.inl rfl)) (pgs_cons (pg_name (i := 4) sc_row_behind.nd rfl (Or.inl rfl)) (pgs_cons (pg_name (i := 5) sc_row_behind.nd rfl (Or.inl rfl)) (pgs_cons (pg_name (i := 6) sc_row_behind.nd rfl (Or.inl rfl)) pgs_nil))))))
    (pss_cons (ps_if (pt_cmpR op_gt (pe_cal G.arrival_of (hr.mono (by decide)) pass0 (pa_cons (pv 1) pa_nil)) (pe_op op_add (pv 5) (pe_meth (pv 0) T.cl M_late F_late (hr.mono (by decide)) b_late .nil pass0 (pa_cons (pv 3) pa_nil))) (nomark _))
      (pss_one (ps_ret pe_non))
      pss_nil)
    (pss_cons (ps_if (pt_cmpR op_eq (pe_ix ix_tup (pv 1) pe_int (fun _ _ => rfl)) pe_str (nomark _))
      (pss_one (ps_ret (pe_glob (v := .ref a_TAKEN_BACK) (by rfl) g_TAKEN_BACK rfl)))
      pss_nil)
    (pss_one (ps_ret (pe_cal G.placed (hr.mono (by decide)) pass0 (pa_cons (pv 0) (pa_cons (pe_tup (pa_cons (pv 3) (pa_cons (pv 4) (pa_cons (pe_ix ix_tup (pv 1) pe_int (fun _ _ => rfl)) (pa_cons (pe_ix ix_tup (pv 1) pe_int (fun _ _ => rfl)) pa_nil))))) (pa_cons (pe_cal G.arrival_of (hr.mono (by decide)) pass0 (pa_cons (pv 1) pa_nil)) pa_nil))))))))))), ?_⟩
    cases x with
    | row id s k m a r =>
      obtain ⟨hs, hk⟩ := hok.2 _ _ _ _ _ _ rfl
      refine ⟨_, rfl, _, _, _, _, rfl, rfl, SqT.of hx, rfl, rfl, _, rfl, iteT ?_⟩
      cases ov with
      | some v =>
        have hvn : v ≠ .non := by
          cases o with
          | none => exact absurd hV (fun z => z)
          | some o =>
            cases o with
            | tb => obtain rfl : v = .ref a_TAKEN_BACK := hV; exact fun z => nomatch z
            | at_ s k m a => obtain ⟨t, rfl, _⟩ := hV; exact fun z => nomatch z
        refine ⟨_, rfl, rfl, _, rfl, ?_⟩
        show if (!decide (v = .non)) = true then _ else _
        rw [decide_eq_false hvn]
        refine iteT (q _ H (Same.refl H) (.inl ⟨?_, rfl⟩))
        cases o with
        | none => exact absurd hV (fun z => z)
        | some o => cases o <;> rfl
      | none =>
        cases o with
        | some o => exact absurd hV (fun z => z)
        | none =>
          refine ⟨_, rfl, rfl, _, rfl, iteF ?_⟩
          refine ⟨_, rfl, b, dx, _, rfl, h1, rfl, _, rfl, _, _, _, _, rfl, rfl, SqT.of hx, rfl, b, L, s, rfl, hB, hs, fun H1 s1 => ⟨_, rfl, ?_⟩⟩
          cases el : L.lookup s with
          | none =>
            refine iteT (q _ H1 s1 (.inl ⟨?_, rfl⟩))
            show (L.lookup s).bind _ = none
            rw [el]
            rfl
          | some l =>
            have hx1 := s1 _ _ hx
            refine iteF ⟨_, rfl, _, rfl, _, rfl, _, rfl, e, _, rfl, SqT.of hx1, (by show ¬ (HT.sIx 7 0 (some 2) = 0 ∧ HT.sIx 7 7 (some 6) = 7); decide), fun p hp => ?_⟩
            have hs2 : Same H (upd H1 p (.tup [.str s, .str k, .int m, .int a])) := s1.trans (sameAt (Same.refl _) hp)
            have hx2 : EntAt (upd H1 p (.tup [.str s, .str k, .int m, .int a])) e (.row id s k m a r) := hs2 _ _ hx
            refine ⟨_, rfl, e, _, rfl, hx2, b, p, L, s, k, m, a, r, l, rfl, hB.same hs2, upd_same, hs, el, fun H3 s3 => ?_⟩
            refine q _ H3 (hs2.trans s3) ?_
            by_cases c : m ≤ r ∧ r ≤ m + l
            · rw [if_pos c]
              refine .inr ⟨(fun z => nomatch z), .at_ s k m a, ?_, p, rfl, s3 _ _ upd_same⟩
              show (L.lookup s).bind _ = _
              rw [el, Option.bind_some, if_pos c]
            · rw [if_neg c]
              refine .inl ⟨?_, rfl⟩
              show (L.lookup s).bind _ = _
              rw [el, Option.bind_some, if_neg c]
    | fix id m a r =>
      refine ⟨_, rfl, _, _, _, _, rfl, rfl, SqT.of hx, rfl, rfl, _, rfl, iteF ?_⟩
      cases ov with
      | none =>
        cases o with
        | some o => exact absurd hV (fun z => z)
        | none => exact ⟨_, rfl, rfl, _, rfl, iteT (q _ H (Same.refl H) (.inl ⟨rfl, rfl⟩))⟩
      | some v =>
        cases o with
        | none => exact absurd hV (fun z => z)
        | some o =>
          cases o with
          | tb =>
            obtain rfl : v = .ref a_TAKEN_BACK := hV
            exact ⟨_, rfl, rfl, _, rfl, iteF ⟨_, rfl, .tuple [], .tuple [], .tup (TB.sq H) .nil, .tup (TB.sq H) .nil, rfl, rfl, _, rfl, iteT (q _ H (Same.refl H) (.inl ⟨rfl, rfl⟩))⟩⟩
          | at_ z k m0 a0 =>
            obtain ⟨t, rfl, ht⟩ := hV
            obtain ⟨hz, hk0, hzl⟩ := hNm _ _ _ _ rfl
            obtain ⟨l, el⟩ := Option.isSome_iff_exists.mp hzl
            refine ⟨_, rfl, rfl, _, rfl, iteF ⟨_, rfl, .tuple [.str z, .str k, .int m0, .int a0], .tuple [], .tup (SqT.of ht) (.cons (.str _) (.cons (.str _) (.cons (.int _) (.cons (.int _) .nil)))), .tup (TB.sq H) .nil, shaped_flat (by simp [flatD, nm_ok hz, nm_ok hk0]), rfl, _, rfl, iteF ?_⟩⟩
            refine ⟨_, rfl, t, _, rfl, SqT.of ht, rfl, _, _, rfl, _, _, rfl, _, _, rfl, _, _, rfl, rfl, ?_⟩
            refine ⟨_, rfl, e, _, rfl, hx, _, rfl, _, rfl, b, dx, _, rfl, h1, rfl, _, rfl, b, L, z, l, rfl, hB, hz, el, fun H1 s1 => ⟨_, _, rfl, rfl, _, _, rfl, rfl, _, rfl, ?_⟩⟩
            have hx1 : EntAt H1 e (.fix id m a r) := s1 _ _ hx
            have hB1 := hB.same s1
            refine ite2 (fun c1 => ?_) (fun c1 => ?_)
            · have c1 : m0 + l < r := of_decide_eq_true c1
              refine q _ H1 s1 (.inl ⟨?_, rfl⟩)
              show (L.lookup z).bind _ = none
              rw [el, Option.bind_some, if_neg (by omega)]
            · have c1 : ¬ m0 + l < r := fun z => c1 (decide_eq_true z)
              refine ⟨_, rfl, _, _, _, _, rfl, rfl, SqT.of hx1, rfl, rfl, _, rfl, iteF ?_⟩
              refine ⟨_, rfl, _, rfl, _, rfl, _, rfl, _, _, _, _, rfl, rfl, SqT.of hx1, rfl, _, rfl, _, _, _, _, rfl, rfl, SqT.of hx1, rfl, (by show 4 ≤ sizeLine; decide), fun p hp => ?_⟩
              have s2 : Same H (upd H1 p (.tup [.str z, .str k, .int m, .int a])) := s1.trans (sameAt (Same.refl _) hp)
              have hx2 : EntAt (upd H1 p (.tup [.str z, .str k, .int m, .int a])) e (.fix id m a r) := s2 _ _ hx
              refine ⟨_, rfl, e, _, rfl, hx2, b, p, L, z, k, m, a, r, l, rfl, hB.same s2, upd_same, hz, el, fun H3 s3 => ?_⟩
              refine q _ H3 (s2.trans s3) ?_
              by_cases c : m ≤ r ∧ r ≤ m + l
              · rw [if_pos c]
                refine .inr ⟨(fun z => nomatch z), .at_ z k m a, ?_, p, rfl, s3 _ _ upd_same⟩
                show (L.lookup z).bind _ = _
                rw [el, Option.bind_some, if_pos ⟨by omega, c.1, c.2⟩]
              · rw [if_neg c]
                refine .inl ⟨?_, rfl⟩
                show (L.lookup z).bind _ = _
                rw [el, Option.bind_some, if_neg (fun y => c y.2)]
    | gone id r =>
      refine ⟨_, rfl, _, _, _, _, rfl, rfl, SqT.of hx, rfl, rfl, _, rfl, iteF ?_⟩
      cases ov with
      | none =>
        cases o with
        | some o => exact absurd hV (fun z => z)
        | none => exact ⟨_, rfl, rfl, _, rfl, iteT (q _ H (Same.refl H) (.inl ⟨rfl, rfl⟩))⟩
      | some v =>
        cases o with
        | none => exact absurd hV (fun z => z)
        | some o =>
          cases o with
          | tb =>
            obtain rfl : v = .ref a_TAKEN_BACK := hV
            exact ⟨_, rfl, rfl, _, rfl, iteF ⟨_, rfl, .tuple [], .tuple [], .tup (TB.sq H) .nil, .tup (TB.sq H) .nil, rfl, rfl, _, rfl, iteT (q _ H (Same.refl H) (.inl ⟨rfl, rfl⟩))⟩⟩
          | at_ z k m0 a0 =>
            obtain ⟨t, rfl, ht⟩ := hV
            obtain ⟨hz, hk0, hzl⟩ := hNm _ _ _ _ rfl
            obtain ⟨l, el⟩ := Option.isSome_iff_exists.mp hzl
            refine ⟨_, rfl, rfl, _, rfl, iteF ⟨_, rfl, .tuple [.str z, .str k, .int m0, .int a0], .tuple [], .tup (SqT.of ht) (.cons (.str _) (.cons (.str _) (.cons (.int _) (.cons (.int _) .nil)))), .tup (TB.sq H) .nil, shaped_flat (by simp [flatD, nm_ok hz, nm_ok hk0]), rfl, _, rfl, iteF ?_⟩⟩
            refine ⟨_, rfl, t, _, rfl, SqT.of ht, rfl, _, _, rfl, _, _, rfl, _, _, rfl, _, _, rfl, rfl, ?_⟩
            refine ⟨_, rfl, e, _, rfl, hx, _, rfl, _, rfl, b, dx, _, rfl, h1, rfl, _, rfl, b, L, z, l, rfl, hB, hz, el, fun H1 s1 => ⟨_, _, rfl, rfl, _, _, rfl, rfl, _, rfl, ?_⟩⟩
            have hx1 : EntAt H1 e (.gone id r) := s1 _ _ hx
            refine ite2 (fun c1 => ?_) (fun c1 => ?_)
            · have c1 : m0 + l < r := of_decide_eq_true c1
              refine q _ H1 s1 (.inl ⟨?_, rfl⟩)
              show (L.lookup z).bind _ = none
              rw [el, Option.bind_some, if_neg (by omega)]
            · have c1 : ¬ m0 + l < r := fun z => c1 (decide_eq_true z)
              refine ⟨_, rfl, _, _, _, _, rfl, rfl, SqT.of hx1, rfl, rfl, _, rfl, iteT ?_⟩
              refine q _ H1 s1 (.inr ⟨(fun z => nomatch z), .tb, ?_, rfl⟩)
              show (L.lookup z).bind _ = _
              rw [el, Option.bind_some, if_pos (by omega)]
end
end Ash

set_option Elab.async false
set_option linter.all false
set_option maxRecDepth 100000
set_option maxHeartbeats 4000000
namespace PySem
open Sem (wp)
open AutoSeq1 (wpAny_loadPart')
theorem ash_enum_newT (l : Addr) (its : Array Value) (n : Nat) (dc : Option Addr) (sl : Array (Option Value)) :
    Meets (Builtin.«enumerate.__new__» ⟨[.type "enumerate", .ref l], []⟩) (fun _ R s => s.heap.get? l = some { cls := .type "tuple", dict := dc, data := .seq its n, slots := sl } ∧
      R (.ok (.ret (.ref (s.heap.push { cls := .type "tuple_iterator", data := .fields #[.ref l, .int 0 0] }).objs.size)))
        { s with heap := (s.heap.push { cls := .type "tuple_iterator", data := .fields #[.ref l, .int 0 0] }).push { cls := .type "enumerate", data := .fields #[.none, .bool false, .ref s.heap.objs.size, rawInt 0, .none, .none] } }) :=
  .of_wp fun prog w A R s h => by
    obtain ⟨hp, g, d, tk, os⟩ := s
    obtain ⟨ht, h⟩ := h
    have hsub := sub_enumerate
    have hT : Heap.IsTuple (Shared.heap ⟨hp, g, d, tk, os⟩) l its := ⟨_, ht, rfl, n, rfl⟩
    wp_walk using wpAny_loadPart' ht
    refine wpAny_stack_any fun st => wpAny_pure ?_
    split
    · rename_i c _ _ _ _ _
      cases (c == Value.type "enumerate") <;>
      · wp_walk using wpAny_loadPart' ht, wpAny_pyIter_tuple hT
        exact ⟨_, rfl, h⟩
    · wp_walk using wpAny_loadPart' ht, wpAny_pyIter_tuple hT
      exact ⟨_, rfl, h⟩
section
variable {prog : Program} {w : World} {A : Around} {E : Value → Shared → Prop} {s : Shared}
theorem ash_call_enumT {l : Addr} {its : Array Value} {Q : Value → Shared → Prop} (hT : s.heap.IsTuple l its)
    (h : ∀ h', IsEnum h' (s.heap.objs.size + 1) s.heap.objs.size 0 .none → h'.IsTupleIter s.heap.objs.size l 0 →
      (∀ b o, s.heap.get? b = some o → h'.get? b = some o) → Q (.ref (s.heap.objs.size + 1)) { s with heap := h' }) :
    wpAny (model prog w) A (call (.type "enumerate") [.ref l]) Q E s := by
  obtain ⟨⟨c, dc, dt, sl⟩, hl, hc, n, hd⟩ := hT
  replace hc : c = .type "tuple" := hc
  replace hd : dt = .seq its n := hd
  subst hc hd
  refine callType_new F.called_enumerate (by decide) (F.typeCall_enumerate_1 _) (F.newCall_enumerate_1 _) (fun o => F.args_object_init_2 o _) F.entry_enumerate_new (ash_enum_newT l its n dc sl) ⟨hl, ?_⟩
  let oi : Obj := { cls := .type "tuple_iterator", data := .fields #[.ref l, .int 0 0] }
  let oe : Obj := { cls := .type "enumerate", data := .fields #[.none, .bool false, .ref s.heap.objs.size, rawInt 0, .none, .none] }
  have hz : (s.heap.push oi).objs.size = s.heap.objs.size + 1 := Heap.size_push ..
  have he : IsEnum ((s.heap.push oi).push oe) (s.heap.objs.size + 1) s.heap.objs.size 0 .none := by
    have q := Heap.get?_push_size (s.heap.push oi) (o := oe) rfl
    rw [hz] at q
    exact q
  show _ ∧ _
  rw [hz]
  exact ⟨⟨_, he, rfl⟩, h _ he ⟨_, Heap.get?_push_of_some _ (Heap.get?_push_size _ rfl), rfl, rfl⟩ fun b o x => Heap.get?_push_of_some _ (Heap.get?_push_of_some _ x)⟩
end
end PySem
namespace Ash
open PySem PySem.Spec PyProof.Rows L2
/-- enumerate of a tuple: its items in new pairs -/
def Itet (K : PySem.W.Frag) (a : Addr) : It :=
  ⟨fun i H => ∃ (xs : List V) (x : V), SqT K H a xs ∧ xs[i]? = some x, fun i H v H' => ∃ T x, v = .ref T ∧ H T = none ∧ H' = upd H T (.tup [.int (i : Nat), x]) ∧ ∀ xs, SqT K H a xs → xs[i]? = some x, fun i H => ∃ xs : List V, SqT K H a xs ∧ xs.length ≤ i⟩
theorem turn_enumT {P : Program} {w : World} {K : PySem.W.Frag} {elts : List Expr} {kk : Nat} {tpos : Pos} (a e it : Addr) :
    Turn P w K (.Tuple elts kk tpos) (Itet K a) [e, it] e (fun i h => (∃ old, IsEnum h e it ((i : Nat) : Int) old) ∧ h.IsTupleIter it a i ∧ e ≠ it) where
  mem := by simp
  obj := fun i h st b hb => by
    obtain ⟨⟨old, he⟩, ⟨o, ho, hc, hd⟩, _⟩ := st
    rcases (show b = e ∨ b = it by simpa using hb) with z | z
    · subst z
      exact ⟨_, he, fun v q => nomatch q⟩
    · exact ⟨o, by rw [z]; exact ho, fun v q => by rw [hd] at q; cases q⟩
  keep := fun i h h' st k => by
    obtain ⟨⟨old, he⟩, hi, hne⟩ := st
    exact ⟨⟨old, k e (by simp) _ he⟩, hi.at fun o q => k it (by simp) o q, hne⟩
  item := by
    intro X hP hw hK hc i pins s σ H E I hf st hg
    subst hP hw hK
    obtain ⟨⟨old, he⟩, hit, hne⟩ := st
    obtain ⟨xs, x, hq, hx⟩ := hg
    obtain ⟨its, rv, p, hz⟩ := I.tuple hq
    obtain ⟨u, hu, ru⟩ := rv.get hx
    have hpT : s.heap.IsTuple a its.toArray := p
    have hel : e < s.heap.objs.size := Heap.lt_size he
    have hil : it < s.heap.objs.size := by
      obtain ⟨_, q, _⟩ := hit
      exact Heap.lt_size q
    have hae : e ≠ a := fun z => by
      obtain ⟨o, q1, q2, _⟩ := hpT
      rw [← z] at q1
      have q3 : s.heap.get? e = some _ := he
      rw [q3] at q1
      cases q1
      exact absurd (Value.type.inj q2) (by decide)
    have hai : a ≠ it := fun z => by
      obtain ⟨o, q1, q2, _⟩ := hpT
      obtain ⟨o2, q3, q4, _⟩ := hit
      rw [z, q3] at q1
      cases q1
      rw [q4] at q2
      exact absurd (Value.type.inj q2) (by decide)
    have hh : X.A.in1.handled = none := I.ok.hd hc
    have D := Draws.tuple (prog := X.prog) (w := X.w) hh it a hai its.toArray
    have hlt : i < its.toArray.size := by
      have := (List.getElem?_eq_some_iff.mp hu).1
      simpa using this
    refine wpAny_pyNext_enum_itemD D he ⟨hit, hpT⟩ hlt hne (by simp [hne, hae]) fun y h' tk hy ho hst hT hsz hk => ?_
    have hyu : y = u := by
      have q : its[i]? = some y := by simpa using hy
      rw [hu] at q
      exact (Option.some.inj q).symm
    subst hyu
    refine ⟨_, rfl, wpAny_letOwnedTupleGo_enum (s := { s with heap := h', toks := tk + 1 }) ho fun h'' he' sb => ?_⟩
    have hT2 : h''.get? s.heap.objs.size = some { cls := .type "tuple", data := .seq #[.int i tk, y] } := (sb.2 _ (Nat.ne_of_gt hel)).trans hT
    have new : ObjOk X.prog X.w (upd H s.heap.objs.size (.tup [.int (i : Nat), x])) h'' s.heap.objs.size (.tup [.int (i : Nat), x]) :=
      ⟨by show 2 ≤ sizeLine; decide, [.int i tk, y], .cons ⟨_, rfl⟩ (.cons ru .nil), ⟨_, hT2, rfl, _, rfl⟩⟩
    have I1 : Inv X pins σ (upd H s.heap.objs.size (.tup [.int (i : Nat), x])) { s with heap := h'', toks := tk + 1 } :=
      I.turnedNew (ch := [e, it]) (fun b o hb q => (sb.2 b (fun z => hb (by simp [z]))).trans (hk b o (fun z => hb (by simp [z])) (fun z => hb (by simp [z])) q)) hf (Nat.le_refl _) new
    refine ⟨.ref s.heap.objs.size, _, I1, rfl, ⟨_, x, rfl, I.hok.fresh (Nat.le_refl _), rfl, fun ys hy => by rw [I.tuple_inj hy hq]; exact hx⟩, ⟨⟨y, ?_⟩, hst.1.at fun o q => (sb.2 it (Ne.symm hne)).trans q, hne⟩, fun b hb => ?_⟩
    · rw [show ((i + 1 : Nat) : Int) = (i : Int) + 1 by omega]
      exact he'
    · have hb' : b < s.heap.objs.size := by
        rcases (show b = e ∨ b = it by simpa using hb) with z | z <;> rw [z] <;> assumption
      rw [upd_ne (Nat.ne_of_lt hb')]
      exact (hf b hb).1
  done := by
    intro X hP hw hK hc i pins s σ H E I hf st hg
    subst hP hw hK
    obtain ⟨⟨old, he⟩, hit, hne⟩ := st
    obtain ⟨xs, hq, hx⟩ := hg
    obtain ⟨its, rv, p, hz⟩ := I.tuple hq
    have hpT : s.heap.IsTuple a its.toArray := p
    obtain ⟨f0, f1, f2, f3, f4, f5⟩ := hf it (by simp)
    have hl := rv.length
    have hh : X.A.in1.handled = none := I.ok.hd hc
    have hT : s.TypeIs (.ref e) "enumerate" := ⟨_, he, rfl⟩
    unfold pyNext
    refine wpAny_bind (wpAny_attempt (wpAny_callSpecial?_slot (name := Str.ofString "__next__") hT F.slot_enumerate_next
      (wpAny_call_entry F.slot_enumerate_next hT F.entry_enumerate_next ?_ (F.args_enumerate_next_1 _))))
    show wpAny _ _ (field (.ref e) 2 >>= _) _ _ _
    refine wpAny_bind (wpAny_field he rfl (x := .ref it) rfl (wpAny_bind (wpAny_nextOf_tuple_end hh hit hpT (by simp; omega) fun h' x hb ⟨o, ho, hco⟩ => ?_)))
    refine wpAny_bind (wpAny_isInstance (T := "StopIteration") (b := true) ⟨o, ho, hco⟩ isSubtype_stop ?_)
    exact wpAny_pure ⟨rfl, I.turned (t' := s.toks) (fun b o hn q => hb b o hn q) f0 f1 f3 f4 f5⟩
  self := fun A i s Q E st h => by
    obtain ⟨⟨_, he⟩, _⟩ := st
    exact wpAny_pyIter_enum he h
/-- enumerate of a list or a tuple -/
def iEnumS (K : PySem.W.Frag) (ta : TA) : TI := fun σ H R => ta σ H fun vs H1 => ∃ a, vs = [.ref a] ∧ ((∃ xs, SqL K H1 a xs ∧ R (Ite K a) H1) ∨ ∃ xs, SqT K H1 a xs ∧ R (Itet K a) H1)
theorem pi_enumS {X : Cx} {e : Expr} {ta : TA} {p pos tpos : Pos} {elts : List Expr} {kk : Nat} (hg : Gl X "enumerate") (hm : X.mg "enumerate" = none) (ha : PA X [e] ta) (hs : starEach [e] X.env = [(false, eval e X.env)] := by rfl) :
    PI X (.Tuple elts kk tpos) (.Call (.Name "enumerate" p) [e] [] pos) (iEnumS X.K ta) := by
  refine ⟨fun pins s σ H R I h => ?_⟩
  refine Call_ (ld_blt I hg hm boot_enumerate (PyProof.Rows.callWith_type1 (thn (ha.run pos pins s σ H _ I h) fun us s1 ⟨vs, H1, I1, r1, a, ex, q1⟩ => ?_) hs rfl))
  subst ex
  have fresh : ∀ b, b ∈ [s1.heap.objs.size + 1, s1.heap.objs.size] → FpOk X pins H1 b := fun b hb => by
    have hle : s1.heap.objs.size ≤ b := by
      rcases (show b = s1.heap.objs.size + 1 ∨ b = s1.heap.objs.size by simpa using hb) with z | z <;> omega
    exact I1.fpOk hle (I1.hok.fresh hle)
  cases r1 with
  | cons r rr =>
    cases rr
    cases r
    rcases q1 with ⟨xs, hq, q⟩ | ⟨xs, hq, q⟩
    · obtain ⟨its, rv, p', hz⟩ := I1.list hq
      exact call_enumerate_list p'.isList fun h' he hit _ hk => wpAny_pyIter_enum he ⟨_, _, _, _, H1, rfl, I1.kept (t' := s1.toks) hk, turn_enum a _ _, ⟨⟨.none, he⟩, hit, Nat.succ_ne_self _⟩, fresh, q⟩
    · obtain ⟨its, rv, p', hz⟩ := I1.tuple hq
      exact ash_call_enumT (show s1.heap.IsTuple a its.toArray from p') fun h' he hit hk => wpAny_pyIter_enum he ⟨_, _, _, _, H1, rfl, I1.kept (t' := s1.toks) hk, turn_enumT a _ _, ⟨⟨.none, he⟩, hit, Nat.succ_ne_self _⟩, fresh, q⟩
theorem walk_enumT {K : PySem.W.Frag} {a : Addr} {xs : List V} : Walk (Itet K a) xs.length (fun H => SqT K H a xs) (YPair (fun i => some (.int (i : Nat))) (fun i => xs[i]?)) := by
  refine ⟨fun i _ hi q => ⟨xs, xs[i], q, by simp [hi]⟩, fun _ q => ⟨xs, q, Nat.le_refl _⟩, fun i H v H' _ q y => ?_⟩
  obtain ⟨T, x, h1, h2, h3, h4⟩ := y
  exact ⟨T, .int (i : Nat), x, h1, h2, h3, rfl, h4 xs q⟩
end Ash

set_option Elab.async false
set_option linter.all false
set_option maxRecDepth 100000
set_option maxHeartbeats 4000000
namespace Ash
open PySem PySem.Spec PyProof.Rows L2
open C8 (pss_cut)
/-! ### rows of things that may be entries -/
abbrev Kn := Int → Option RowSt
def late? (l : Option Int) (r : Int) : Bool := match l with
  | some t => decide (r < t)
  | none => false
/-- the index of the first thing that is not a good entry, and what is known ahead of it -/
def wk (L : List (Str × Int)) : List (Option Ent) → Nat → Kn → Option Int → Option Nat × Kn
  | [], _, S, _ => (none, S)
  | none :: _, i, S, _ => (some i, S)
  | some x :: r, i, S, l => if late? l x.arr = true then (some i, S) else match behind L x (S x.id) with
    | none => (some i, S)
    | some y => wk L r (i + 1) (fun j => if j = x.id then some y else S j) (some x.arr)
def ThAt (K : PySem.W.Frag) (H : Hp) (v : V) : Option Ent → Prop
  | some x => ∃ e, v = .ref e ∧ EntAt H e x ∧ x.ok
  | none => NotTup K H v ∨ ∃ e xs, v = .ref e ∧ H e = some (.tup xs) ∧ xs.length < 3
/-- a dict with keys that are ints, each once -/
structure KLen (kvs : List (Key × V)) (n : Nat) : Prop where
  len : kvs.length ≤ n
  nd : (kvs.map (·.1)).Nodup
  ik : ∀ kv ∈ kvs, ∃ id, kv.1 = Sum.inl id
theorem KLen.mono {kvs : List (Key × V)} {n m : Nat} (h : KLen kvs n) (l : n ≤ m) : KLen kvs m := ⟨Nat.le_trans h.len l, h.nd, h.ik⟩
theorem KLen.nil {n : Nat} : KLen [] n := ⟨Nat.zero_le _, .nil, fun _ h => nomatch h⟩
theorem KLen.put {kvs : List (Key × V)} {n : Nat} (h : KLen kvs n) (id : Int) (v : V) : KLen (putK kvs (Sum.inl id : Key) v) (n + 1) := by
  have hl := length_putK kvs (Sum.inl id : Key) v
  have h1 := h.len
  refine ⟨by omega, ?_, ?_⟩
  · unfold putK
    split
    · rw [List.map_map]
      have e : ((fun x : Key × V => x.1) ∘ fun kv : Key × V => if kv.1 = Sum.inl id then (kv.1, v) else kv) = fun x => x.1 := by
        funext x
        show (if x.1 = Sum.inl id then (x.1, v) else x).1 = x.1
        split <;> rfl
      first
        | exact e ▸ h.nd
        | (rw [show (kvs.map _) = kvs.map (·.1) from List.map_congr_left fun x _ => by
            show (if x.1 = Sum.inl id then _ else _ : Key × V).1 = x.1
            split <;> simp_all]
           exact h.nd)
    · rename_i c
      rw [List.map_append, List.nodup_append]
      refine ⟨h.nd, by simp, fun a ha b hb => ?_⟩
      obtain ⟨x, hx, rfl⟩ := List.mem_map.mp ha
      have : b = Sum.inl id := by simpa using hb
      subst this
      intro z
      exact c (List.any_eq_true.mpr ⟨x, hx, by simp [z]⟩)
  · intro kv hkv
    unfold putK at hkv
    split at hkv
    · obtain ⟨x, hx, rfl⟩ := List.mem_map.mp hkv
      obtain ⟨j, hj⟩ := h.ik x hx
      split
      · exact ⟨j, hj⟩
      · exact ⟨j, hj⟩
    · rcases List.mem_append.mp hkv with hk | hk
      · exact h.ik kv hk
      · rw [List.mem_singleton.mp hk]
        exact ⟨id, rfl⟩
def KnAt (aT : Addr) (H : Hp) (d : Addr) (S : Kn) (n : Nat) : Prop := ∃ kvs : List (Key × V), H d = some (.dK kvs) ∧ KLen kvs n ∧ ∀ id, RowV aT H (valV kvs (Sum.inl id)) (S id)
def KnOk (L : List (Str × Int)) (S : Kn) : Prop := ∀ id s k m a, S id = some (.at_ s k m a) → IsNm s ∧ IsNm k ∧ (L.lookup s).isSome
theorem tyx_same {K : PySem.W.Frag} {H H' : Hp} {v : V} {t : Value} (h : TyX K H v t) (s : Same H H') : TyX K H' v t := by
  cases h with
  | base b =>
    refine .base ?_
    cases b with
    | non => exact .non
    | bl x => exact .bl x
    | int x => exact .int x
    | str x => exact .str x
    | flt x => exact .flt x
    | lst e => exact .lst (s _ _ e)
    | frz e => exact .frz (s _ _ e)
    | tup e => exact .tup (s _ _ e)
    | dK e => exact .dK (s _ _ e)
    | dT e => exact .dT (s _ _ e)
    | ins e c a b d f => exact .ins (s _ _ e) c a b d f
  | byt b => exact .byt b
  | set e => exact .set (s _ _ e)
  | kList e c => exact .kList e c
  | kTuple e c => exact .kTuple e c
  | kDict e c => exact .kDict e c
  | fTuple e => exact .fTuple (s _ _ e)
  | fDict e => exact .fDict (s _ _ e)
theorem ThAt.same {K : PySem.W.Frag} {H H' : Hp} {v : V} {o : Option Ent} (h : ThAt K H v o) (s : Same H H') : ThAt K H' v o := by
  cases o with
  | some x =>
    obtain ⟨e, h1, h2, h3⟩ := h
    exact ⟨e, h1, s _ _ h2, h3⟩
  | none =>
    rcases h with ⟨t, h1, h2⟩ | ⟨e, xs, h1, h2, h3⟩
    · exact .inl ⟨t, tyx_same h1 s, h2⟩
    · exact .inr ⟨e, xs, h1, s _ _ h2, h3⟩
theorem behind_ok {L : List (Str × Int)} {x : Ent} {o : Option RowSt} {y : RowSt} (hx : x.ok) (ho : ∀ s k m a, o = some (.at_ s k m a) → IsNm s ∧ IsNm k ∧ (L.lookup s).isSome) (h : behind L x o = some y) :
    ∀ s k m a, y = .at_ s k m a → IsNm s ∧ IsNm k ∧ (L.lookup s).isSome := by
  rintro s k m a rfl
  cases x with
  | row id s' k' m' a' r =>
    cases o with
    | some o => cases h
    | none =>
      have h : (L.lookup s').bind _ = _ := h
      cases el : L.lookup s' with
      | none => rw [el] at h; cases h
      | some l =>
        rw [el, Option.bind_some] at h
        split at h
        · cases h
          obtain ⟨h1, h2⟩ := hx.2 _ _ _ _ _ _ rfl
          exact ⟨h1, h2, by rw [el]; rfl⟩
        · cases h
  | fix id m' a' r =>
    cases o with
    | none => cases h
    | some o =>
      cases o with
      | tb => cases h
      | at_ s' k' m0 a0 =>
        have h : (L.lookup s').bind _ = _ := h
        cases el : L.lookup s' with
        | none => rw [el] at h; cases h
        | some l =>
          rw [el, Option.bind_some] at h
          split at h
          · cases h
            exact ho _ _ _ _ rfl
          · cases h
  | gone id r =>
    cases o with
    | none => cases h
    | some o =>
      cases o with
      | tb => cases h
      | at_ s' k' m0 a0 =>
        have h : (L.lookup s').bind _ = _ := h
        cases el : L.lookup s' with
        | none => rw [el] at h; cases h
        | some l =>
          rw [el, Option.bind_some] at h
          split at h <;> cases h
def atV : Option Nat → V
  | none => .non
  | some i => .int (i : Int)
def spWalked (K : PySem.W.Frag) (aT CB : Addr) : Sp := fun vs H Q _ => ∃ (b a : Addr) (L : List (Str × Int)) (us : List V) (ths : List (Option Ent)), vs = [.ref b, .ref a] ∧ BookAt CB H b L ∧ (SqL K H a us ∨ SqT K H a us) ∧ us.length ≤ 1000 ∧ us.length = ths.length ∧
  (∀ (i : Nat) v o, us[i]? = some v → ths[i]? = some o → ThAt K H v o) ∧
  ∀ t kd H', H kd = none → Same H H' → H' t = some (.tup [atV (wk L ths 0 (fun _ => none) none).1, .ref kd]) → KnAt aT H' kd (wk L ths 0 (fun _ => none) none).2 us.length → Q (.ref t) H'
theorem pk_len {κ : Type} [DecidableEq κ] (c : List (κ × V)) (k : κ) (x : V) : (putK c k x).length ≤ c.length + 1 := by
  unfold putK
  split
  · rw [List.length_map]
    omega
  · rw [List.length_append]
    exact Nat.le_refl _
theorem seqS {K : PySem.W.Frag} {H H' : Hp} {a : Addr} {us : List V} (h : SqT K H a us) (s : Same H H') : SqT K H' a us := by
  rcases h with (h | ⟨o, h⟩) | h
  · exact .inl (.inl (s _ _ h))
  · exact .inl (.inr ⟨o, s _ _ h⟩)
  · exact .inr h
theorem rowV_off {aT d : Addr} {H : Hp} {kvs : List (Key × V)} {o' : HO} {w : Option V} {o : Option RowSt} (h : RowV aT H w o) (hd : H d = some (.dK kvs)) : RowV aT (upd H d o') w o := by
  cases w with
  | none => cases o <;> exact h
  | some v =>
    cases o with
    | none => exact h
    | some o =>
      cases o with
      | tb => exact h
      | at_ z k m a =>
        obtain ⟨t, e, h⟩ := h
        exact ⟨t, e, by rw [upd_ne (ne_of h hd (by intro z; cases z))]; exact h⟩
def latV : Option Int → V
  | none => .non
  | some n => .int n
theorem ent_id (y : Ent) : atI y.vs 1 = some (.int y.id) := by cases y <;> rfl
theorem wk_odd (L : List (Str × Int)) (r : List (Option Ent)) (i : Nat) (S : Kn) (l : Option Int) : wk L (none :: r) i S l = (some i, S) := rfl
theorem wk_late {L : List (Str × Int)} {x : Ent} {r : List (Option Ent)} {i : Nat} {S : Kn} {l : Option Int} (h : late? l x.arr = true) : wk L (some x :: r) i S l = (some i, S) := by
  show (if late? l x.arr = true then _ else _) = _
  rw [if_pos h]
theorem wk_bad {L : List (Str × Int)} {x : Ent} {r : List (Option Ent)} {i : Nat} {S : Kn} {l : Option Int} (h : late? l x.arr = false) (hb : behind L x (S x.id) = none) : wk L (some x :: r) i S l = (some i, S) := by
  show (if late? l x.arr = true then _ else _) = _
  rw [h, if_neg Bool.false_ne_true, hb]
theorem wk_go {L : List (Str × Int)} {x : Ent} {r : List (Option Ent)} {i : Nat} {S : Kn} {l : Option Int} {y : RowSt} (h : late? l x.arr = false) (hb : behind L x (S x.id) = some y) : wk L (some x :: r) i S l = wk L r (i + 1) (fun j => if j = x.id then some y else S j) (some x.arr) := by
  show (if late? l x.arr = true then _ else _) = _
  rw [h, if_neg Bool.false_ne_true, hb]
section
variable {P : Program} {w : World} {K : PySem.W.Frag} {mg : Str → Option Value} {base : Heap}
structure K6 (P : Program) (w : World) (K : PySem.W.Frag) (mg : Str → Option Value) (base : Heap) (CB aT : Addr) : Prop extends K5 P w K mg base CB where
  row_behind : Cal P w K mg base CX0 "row_behind" 5 ["book", "entry", "old"] (spBehind aT CB)
abbrev s_walked : Stmt := topS 32
theorem sc_walked : FnScope ["book", "things", "known", "latest", "at", "thing", "row"] ["book", "things"] (defScope s_walked) := ⟨rfl, rfl, rfl, by decide +kernel, rfl, by decide +kernel, by decide +kernel⟩
theorem ok_walked {f CB a_TAKEN_BACK : Addr} {fd : FuncData} (F : Fun K "walked" "walked" s_walked f fd) (B : Blt mg) (G : K6 P w K mg base CB a_TAKEN_BACK) : FnOk P w K mg base CX0 6 f fd ["book", "things"] (spWalked K a_TAKEN_BACK CB) := by
  refine F.ok sc_walked (fun vs H Q E h => ?_) (fun cdv A outer s H vs Q E hr h => ?_)
  · obtain ⟨b, a, L, us, ths, rfl, _⟩ := h
    rfl
  · obtain ⟨b, a, L, us, ths, rfl, hB, hS, hn, hlen, hT3, q⟩ := h
    have hu := hu_of hr
    refine ⟨_, (pss_cons (ps_set (i := 2) sc_walked.nd rfl (Or.inl rfl) pe_dnewK)
    (pss_cons (ps_set (i := 3) sc_walked.nd rfl (Or.inl rfl) pe_non)
    (pss_cons (ps_for PassesOwn.never rfl (pi_enumS (by rfl) B.enumerate (pa_cons (pv 1) pa_nil)) (pg_tup (by rfl) (pgs_cons (pg_name (i := 4) sc_walked.nd rfl (Or.inl rfl)) (pgs_cons (pg_name (i := 5) sc_walked.nd rfl (Or.inl rfl)) pgs_nil)))
      (pss_cut (ps_if (PW.pt (pw_or (pt_not (pt_val (pe_cal G.is_entry (hr.mono (by decide)) pass0 (pa_cons (pv 5) pa_nil)))) (pw_or1 (PW.pt (pw_and (pt_cmpR op_notN (pv 3) pe_non (nomark _)) (pw_and1 (pt_cmpR op_lt (pe_cal G.arrival_of (hr.mono (by decide)) pass0 (pa_cons (pv 5) pa_nil)) (pv 3) (nomark _))))))))
        (pss_one (ps_ret (pe_tup (pa_cons (pv 4) (pa_cons (pv 2) pa_nil)))))
        pss_nil)
      (pss_cons (ps_set (i := 6) sc_walked.nd rfl (Or.inl rfl) (pe_cal G.row_behind (hr.mono (by decide)) pass0 (pa_cons (pv 0) (pa_cons (pv 5) (pa_cons (pe_dget1 hu (pv 2) (pe_ix ix_tup (pv 5) pe_int (fun _ _ => rfl)) ⟨rfl, rfl, rfl, rfl⟩) pa_nil)))))
      (pss_cons (ps_if (pt_cmpR op_isN (pv 6) pe_non (nomark _))
        (pss_one (ps_ret (pe_tup (pa_cons (pv 4) (pa_cons (pv 2) pa_nil)))))
        pss_nil)
      (pss_cons (ps_dput hu (pv 2) (pe_ix ix_tup (pv 5) pe_int (fun _ _ => rfl)) (pv 6) rfl)
      (pss_one (ps_set (i := 3) sc_walked.nd rfl (Or.inl rfl) (pe_cal G.arrival_of (hr.mono (by decide)) pass0 (pa_cons (pv 5) pa_nil)))))))))
    (pss_one (ps_ret (pe_tup (pa_cons pe_non (pa_cons (pv 2) pa_nil)))))))), ?_⟩
    intro d hd
    rcases hS with hS | hS
    · refine ⟨_, rfl, a, rfl, .inl ⟨_, (sameAt (Same.refl H) hd).seq hS, for_it walk_enum (fun i σ H1 => ∃ (S : Kn) (lo : Option Int), (∃ a1 a2 a3, σ = [some (.ref b), some (.ref a), some (.ref d), some (latV lo), a1, a2, a3]) ∧ wk L ths 0 (fun _ => none) none = wk L (ths.drop i) i S lo ∧ KnAt a_TAKEN_BACK H1 d S i ∧ Same H H1 ∧ KnOk L S) ?_ (fun i σ H1 _ hv => by
        obtain ⟨S, lo, _, _, _, s1, _⟩ := hv
        exact s1.seq hS) ?_ ?_⟩⟩
      · exact ⟨fun _ => none, none, ⟨_, _, _, rfl⟩, rfl, ⟨[], upd_same, KLen.nil, fun id => trivial⟩, sameAt (Same.refl H) hd, fun _ _ _ _ _ z => nomatch z⟩
      · rintro i x σ H1 H2 hi ⟨S, lo, ⟨a1, a2, a3, rfl⟩, hw, ⟨kvs, hk1, hk2, hk3⟩, s1, hKn⟩ ⟨T, x1, x2, rfl, hT, rfl, e1, e2⟩
        cases e1
        have hil : i < ths.length := by rw [← hlen]; exact hi
        obtain ⟨o, ho⟩ : ∃ o, ths[i]? = some o := ⟨_, List.getElem?_eq_getElem hil⟩
        have s2 : Same H (upd H1 T (.tup [.int (i : Nat), x2])) := s1.trans (sameAt (Same.refl _) hT)
        have hdT : d ≠ T := fun z => by rw [← z, hk1] at hT; cases hT
        have hkd2 : (upd H1 T (.tup [.int (i : Nat), x2])) d = some (.dK kvs) := by rw [upd_ne hdT]; exact hk1
        have hth := hT3 i x2 o e2 ho
        have hdrop : ths.drop i = o :: ths.drop (i + 1) := by
          rw [List.drop_eq_getElem_cons hil]
          rw [List.getElem?_eq_getElem hil] at ho
          rw [Option.some.inj ho]
        rw [hdrop] at hw
        refine ⟨T, _, rfl, SqT.of upd_same, rfl, _, _, rfl, _, _, rfl, rfl, ?_⟩
        have bad : ∀ H3, Same (upd H1 T (.tup [.int (i : Nat), x2])) H3 → wk L (o :: ths.drop (i + 1)) i S lo = (some i, S) →
            ∀ (p : Addr), H3 p = none → Q (.ref p) (upd H3 p (.tup [.int (i : Nat), .ref d])) := fun H3 s3 hbad p hp => by
          have s4 := s3.trans (sameAt (Same.refl H3) hp (o := .tup [.int (i : Nat), .ref d]))
          rw [hbad] at hw
          refine q p d _ hd (s2.trans s4) ?_ ?_
          · rw [upd_same, hw]
            rfl
          · rw [hw]
            exact ⟨kvs, s4 _ _ hkd2, hk2.mono (Nat.le_of_lt hi), fun id => (hk3 id).same ((sameAt (Same.refl H1) hT).trans s4)⟩
        refine ⟨fun σ' H3 => (∃ e y a3, o = some y ∧ x2 = .ref e ∧ EntAt H e y ∧ y.ok ∧ σ' = [some (.ref b), some (.ref a), some (.ref d), some (latV lo), some (.int (i : Nat)), some (.ref e), a3] ∧ late? lo y.arr = false) ∧ Same (upd H1 T (.tup [.int (i : Nat), x2])) H3, ?_, ?_⟩
        · cases o with
          | none =>
            refine ⟨_, rfl, x2, rfl, .inr ?_⟩
            rcases hth.same s2 with nt | ⟨e, xs, rfl, hx, hx3⟩
            · exact .inl ⟨nt, _, rfl, iteT ⟨_, rfl, _, rfl, (by show 2 ≤ sizeLine; decide), fun p hp => bad _ (Same.refl _) rfl p hp⟩⟩
            · exact .inr ⟨e, xs, rfl, hx, hx3, _, rfl, iteT ⟨_, rfl, _, rfl, (by show 2 ≤ sizeLine; decide), fun p hp => bad _ (Same.refl _) rfl p hp⟩⟩
          | some y =>
            obtain ⟨e, rfl, hx, hok⟩ := hth
            refine ⟨_, rfl, _, rfl, .inl ⟨e, y, rfl, s2 _ _ hx, hok, fun H3 s3 => ⟨_, rfl, iteF ?_⟩⟩⟩
            have hx3 : EntAt H3 e y := s3 _ _ (s2 _ _ hx)
            cases lo with
            | none => exact ⟨_, rfl, rfl, _, rfl, iteF ⟨⟨e, y, _, rfl, rfl, hx, hok, rfl, rfl⟩, s3⟩⟩
            | some n =>
              refine ⟨_, rfl, rfl, _, rfl, iteT ⟨_, rfl, e, y, rfl, hx3, _, rfl, _, _, rfl, rfl, _, rfl, ?_⟩⟩
              refine ite2 (fun c1 => ?_) (fun c1 => ?_)
              · exact ⟨_, rfl, _, rfl, (by show 2 ≤ sizeLine; decide), fun p hp => bad _ s3 (wk_late c1) p hp⟩
              · exact ⟨⟨e, y, _, rfl, rfl, hx, hok, rfl, Bool.eq_false_iff.mpr c1⟩, s3⟩
        · rintro σ' H3 ⟨⟨e, y, a3, rfl, rfl, hx, hok, rfl, hlt⟩, s3⟩
          have s23 := s2.trans s3
          have hx3 : EntAt H3 e y := s23 _ _ hx
          have hkd3 : H3 d = some (.dK kvs) := s3 _ _ hkd2
          have s13 : Same H1 H3 := (sameAt (Same.refl H1) hT).trans s3
          refine ⟨_, rfl, _, rfl, _, rfl, d, rfl, .inl ⟨_, .of hkd3⟩, _, rfl, _, _, _, _, rfl, rfl, SqT.of hx3, ent_id y, _, DGet.k (k := Sum.inl y.id) hkd3, b, e, L, y, _, S y.id, rfl, hB.same s23, hx3, hok, (hk3 y.id).same s13, hKn y.id, fun v H4 s4 hv => ?_⟩
          have s34 := s3.trans s4
          rcases hv with ⟨hb, rfl⟩ | ⟨hvn, z, hb, hvz⟩
          · exact ⟨_, rfl, rfl, _, rfl, iteT ⟨_, rfl, _, rfl, (by show 2 ≤ sizeLine; decide), fun p hp => bad _ s34 (wk_bad hlt hb) p hp⟩⟩
          · refine ⟨_, rfl, rfl, _, rfl, ?_⟩
            rw [decide_eq_false hvn]
            have hx4 : EntAt H4 e y := s4 _ _ hx3
            have hkd4 : H4 d = some (.dK kvs) := s4 _ _ hkd3
            refine iteF ⟨_, rfl, _, rfl, _, rfl, _, _, _, _, rfl, rfl, SqT.of hx4, ent_id y, d, _, rfl, DPut.k (k := Sum.inl y.id) hkd4 (small1000 (by have := hk2.len; omega)), ?_⟩
            have hed : e ≠ d := fun q => by rw [q] at hx4; rw [show H4 d = _ from hx4] at hkd4; cases hkd4
            have hx5 : EntAt (upd H4 d (.dK (putK kvs (Sum.inl y.id) v))) e y := by show upd _ _ _ _ = _; rw [upd_ne hed]; exact hx4
            have s5 : Same H (upd H4 d (.dK (putK kvs (Sum.inl y.id) v))) := sameAt (s23.trans s4) hd
            refine ⟨_, rfl, e, y, rfl, hx5, (fun j => if j = y.id then some z else S j), some y.arr, ⟨_, _, _, rfl⟩, ?_, ⟨_, upd_same, hk2.put _ _, fun id => ?_⟩, s5, ?_⟩
            · rw [hw, wk_go hlt hb]
            · rw [valV_put]
              show RowV _ _ _ (if id = y.id then some z else S id)
              have rv : ∀ {w : Option V} {o : Option RowSt}, RowV a_TAKEN_BACK H4 w o → RowV a_TAKEN_BACK (upd H4 d (.dK (putK kvs (Sum.inl y.id) v))) w o := fun {w o} h => rowV_off h hkd4
              by_cases ej : id = y.id
              · rw [if_pos (by rw [ej]), if_pos ej]
                exact rv hvz
              · rw [if_neg (fun q => ej (Sum.inl.inj q)), if_neg ej]
                exact rv (((hk3 id).same s13).same s4)
            · intro id z1 k m a' he
              by_cases ej : id = y.id
              · have he : (if id = y.id then some z else S id) = some (.at_ z1 k m a') := he
                rw [if_pos ej] at he
                exact behind_ok hok (hKn y.id) hb _ _ _ _ (Option.some.inj he)
              · have he : (if id = y.id then some z else S id) = some (.at_ z1 k m a') := he
                rw [if_neg ej] at he
                exact hKn id _ _ _ _ he
      · rintro σ H1 ⟨S, lo, ⟨a1, a2, a3, rfl⟩, hw, hk, s1, hKn⟩
        have e : ths.drop us.length = [] := by rw [hlen]; exact List.drop_length
        rw [e] at hw
        refine ⟨_, rfl, (by show 2 ≤ sizeLine; decide), fun p hp => ?_⟩
        have s4 := sameAt (Same.refl H1) hp (o := .tup [.non, .ref d])
        obtain ⟨kvs, hk1, hk2, hk3⟩ := hk
        refine q p d _ hd (s1.trans s4) ?_ ?_
        · rw [upd_same, hw]
          rfl
        · rw [hw]
          exact ⟨kvs, s4 _ _ hk1, hk2, fun id => (hk3 id).same s4⟩
    · refine ⟨_, rfl, a, rfl, .inr ⟨_, seqS hS (sameAt (Same.refl H) hd), for_it walk_enumT (fun i σ H1 => ∃ (S : Kn) (lo : Option Int), (∃ a1 a2 a3, σ = [some (.ref b), some (.ref a), some (.ref d), some (latV lo), a1, a2, a3]) ∧ wk L ths 0 (fun _ => none) none = wk L (ths.drop i) i S lo ∧ KnAt a_TAKEN_BACK H1 d S i ∧ Same H H1 ∧ KnOk L S) ?_ (fun i σ H1 _ hv => by
        obtain ⟨S, lo, _, _, _, s1, _⟩ := hv
        exact seqS hS s1) ?_ ?_⟩⟩
      · exact ⟨fun _ => none, none, ⟨_, _, _, rfl⟩, rfl, ⟨[], upd_same, KLen.nil, fun id => trivial⟩, sameAt (Same.refl H) hd, fun _ _ _ _ _ z => nomatch z⟩
      · rintro i x σ H1 H2 hi ⟨S, lo, ⟨a1, a2, a3, rfl⟩, hw, ⟨kvs, hk1, hk2, hk3⟩, s1, hKn⟩ ⟨T, x1, x2, rfl, hT, rfl, e1, e2⟩
        cases e1
        have hil : i < ths.length := by rw [← hlen]; exact hi
        obtain ⟨o, ho⟩ : ∃ o, ths[i]? = some o := ⟨_, List.getElem?_eq_getElem hil⟩
        have s2 : Same H (upd H1 T (.tup [.int (i : Nat), x2])) := s1.trans (sameAt (Same.refl _) hT)
        have hdT : d ≠ T := fun z => by rw [← z, hk1] at hT; cases hT
        have hkd2 : (upd H1 T (.tup [.int (i : Nat), x2])) d = some (.dK kvs) := by rw [upd_ne hdT]; exact hk1
        have hth := hT3 i x2 o e2 ho
        have hdrop : ths.drop i = o :: ths.drop (i + 1) := by
          rw [List.drop_eq_getElem_cons hil]
          rw [List.getElem?_eq_getElem hil] at ho
          rw [Option.some.inj ho]
        rw [hdrop] at hw
        refine ⟨T, _, rfl, SqT.of upd_same, rfl, _, _, rfl, _, _, rfl, rfl, ?_⟩
        have bad : ∀ H3, Same (upd H1 T (.tup [.int (i : Nat), x2])) H3 → wk L (o :: ths.drop (i + 1)) i S lo = (some i, S) →
            ∀ (p : Addr), H3 p = none → Q (.ref p) (upd H3 p (.tup [.int (i : Nat), .ref d])) := fun H3 s3 hbad p hp => by
          have s4 := s3.trans (sameAt (Same.refl H3) hp (o := .tup [.int (i : Nat), .ref d]))
          rw [hbad] at hw
          refine q p d _ hd (s2.trans s4) ?_ ?_
          · rw [upd_same, hw]
            rfl
          · rw [hw]
            exact ⟨kvs, s4 _ _ hkd2, hk2.mono (Nat.le_of_lt hi), fun id => (hk3 id).same ((sameAt (Same.refl H1) hT).trans s4)⟩
        refine ⟨fun σ' H3 => (∃ e y a3, o = some y ∧ x2 = .ref e ∧ EntAt H e y ∧ y.ok ∧ σ' = [some (.ref b), some (.ref a), some (.ref d), some (latV lo), some (.int (i : Nat)), some (.ref e), a3] ∧ late? lo y.arr = false) ∧ Same (upd H1 T (.tup [.int (i : Nat), x2])) H3, ?_, ?_⟩
        · cases o with
          | none =>
            refine ⟨_, rfl, x2, rfl, .inr ?_⟩
            rcases hth.same s2 with nt | ⟨e, xs, rfl, hx, hx3⟩
            · exact .inl ⟨nt, _, rfl, iteT ⟨_, rfl, _, rfl, (by show 2 ≤ sizeLine; decide), fun p hp => bad _ (Same.refl _) rfl p hp⟩⟩
            · exact .inr ⟨e, xs, rfl, hx, hx3, _, rfl, iteT ⟨_, rfl, _, rfl, (by show 2 ≤ sizeLine; decide), fun p hp => bad _ (Same.refl _) rfl p hp⟩⟩
          | some y =>
            obtain ⟨e, rfl, hx, hok⟩ := hth
            refine ⟨_, rfl, _, rfl, .inl ⟨e, y, rfl, s2 _ _ hx, hok, fun H3 s3 => ⟨_, rfl, iteF ?_⟩⟩⟩
            have hx3 : EntAt H3 e y := s3 _ _ (s2 _ _ hx)
            cases lo with
            | none => exact ⟨_, rfl, rfl, _, rfl, iteF ⟨⟨e, y, _, rfl, rfl, hx, hok, rfl, rfl⟩, s3⟩⟩
            | some n =>
              refine ⟨_, rfl, rfl, _, rfl, iteT ⟨_, rfl, e, y, rfl, hx3, _, rfl, _, _, rfl, rfl, _, rfl, ?_⟩⟩
              refine ite2 (fun c1 => ?_) (fun c1 => ?_)
              · exact ⟨_, rfl, _, rfl, (by show 2 ≤ sizeLine; decide), fun p hp => bad _ s3 (wk_late c1) p hp⟩
              · exact ⟨⟨e, y, _, rfl, rfl, hx, hok, rfl, Bool.eq_false_iff.mpr c1⟩, s3⟩
        · rintro σ' H3 ⟨⟨e, y, a3, rfl, rfl, hx, hok, rfl, hlt⟩, s3⟩
          have s23 := s2.trans s3
          have hx3 : EntAt H3 e y := s23 _ _ hx
          have hkd3 : H3 d = some (.dK kvs) := s3 _ _ hkd2
          have s13 : Same H1 H3 := (sameAt (Same.refl H1) hT).trans s3
          refine ⟨_, rfl, _, rfl, _, rfl, d, rfl, .inl ⟨_, .of hkd3⟩, _, rfl, _, _, _, _, rfl, rfl, SqT.of hx3, ent_id y, _, DGet.k (k := Sum.inl y.id) hkd3, b, e, L, y, _, S y.id, rfl, hB.same s23, hx3, hok, (hk3 y.id).same s13, hKn y.id, fun v H4 s4 hv => ?_⟩
          have s34 := s3.trans s4
          rcases hv with ⟨hb, rfl⟩ | ⟨hvn, z, hb, hvz⟩
          · exact ⟨_, rfl, rfl, _, rfl, iteT ⟨_, rfl, _, rfl, (by show 2 ≤ sizeLine; decide), fun p hp => bad _ s34 (wk_bad hlt hb) p hp⟩⟩
          · refine ⟨_, rfl, rfl, _, rfl, ?_⟩
            rw [decide_eq_false hvn]
            have hx4 : EntAt H4 e y := s4 _ _ hx3
            have hkd4 : H4 d = some (.dK kvs) := s4 _ _ hkd3
            refine iteF ⟨_, rfl, _, rfl, _, rfl, _, _, _, _, rfl, rfl, SqT.of hx4, ent_id y, d, _, rfl, DPut.k (k := Sum.inl y.id) hkd4 (small1000 (by have := hk2.len; omega)), ?_⟩
            have hed : e ≠ d := fun q => by rw [q] at hx4; rw [show H4 d = _ from hx4] at hkd4; cases hkd4
            have hx5 : EntAt (upd H4 d (.dK (putK kvs (Sum.inl y.id) v))) e y := by show upd _ _ _ _ = _; rw [upd_ne hed]; exact hx4
            have s5 : Same H (upd H4 d (.dK (putK kvs (Sum.inl y.id) v))) := sameAt (s23.trans s4) hd
            refine ⟨_, rfl, e, y, rfl, hx5, (fun j => if j = y.id then some z else S j), some y.arr, ⟨_, _, _, rfl⟩, ?_, ⟨_, upd_same, hk2.put _ _, fun id => ?_⟩, s5, ?_⟩
            · rw [hw, wk_go hlt hb]
            · rw [valV_put]
              show RowV _ _ _ (if id = y.id then some z else S id)
              have rv : ∀ {w : Option V} {o : Option RowSt}, RowV a_TAKEN_BACK H4 w o → RowV a_TAKEN_BACK (upd H4 d (.dK (putK kvs (Sum.inl y.id) v))) w o := fun {w o} h => rowV_off h hkd4
              by_cases ej : id = y.id
              · rw [if_pos (by rw [ej]), if_pos ej]
                exact rv hvz
              · rw [if_neg (fun q => ej (Sum.inl.inj q)), if_neg ej]
                exact rv (((hk3 id).same s13).same s4)
            · intro id z1 k m a' he
              by_cases ej : id = y.id
              · have he : (if id = y.id then some z else S id) = some (.at_ z1 k m a') := he
                rw [if_pos ej] at he
                exact behind_ok hok (hKn y.id) hb _ _ _ _ (Option.some.inj he)
              · have he : (if id = y.id then some z else S id) = some (.at_ z1 k m a') := he
                rw [if_neg ej] at he
                exact hKn id _ _ _ _ he
      · rintro σ H1 ⟨S, lo, ⟨a1, a2, a3, rfl⟩, hw, hk, s1, hKn⟩
        have e : ths.drop us.length = [] := by rw [hlen]; exact List.drop_length
        rw [e] at hw
        refine ⟨_, rfl, (by show 2 ≤ sizeLine; decide), fun p hp => ?_⟩
        have s4 := sameAt (Same.refl H1) hp (o := .tup [.non, .ref d])
        obtain ⟨kvs, hk1, hk2, hk3⟩ := hk
        refine q p d _ hd (s1.trans s4) ?_ ?_
        · rw [upd_same, hw]
          rfl
        · rw [hw]
          exact ⟨kvs, s4 _ _ hk1, hk2, fun id => (hk3 id).same s4⟩
end
end Ash

set_option Elab.async false
set_option linter.all false
set_option maxRecDepth 100000
set_option maxHeartbeats 4000000
namespace Ash
open PySem PySem.Spec PyProof.Rows L2
open C8 (pss_cut)
/-! ### journals -/
def jf (b t kd : Addr) : List (Str × V) := putF "_known" (.ref kd) (putF "entries" (.ref t) (putF "book" (.ref b) []))
theorem jf_b (b t kd : Addr) : (jf b t kd).lookup ("book" : Str) = some (.ref b) := by
  unfold jf
  rw [lookup_putF, if_neg (by decide +kernel), lookup_putF, if_neg (by decide +kernel), lookup_putF, if_pos rfl]
theorem jf_e (b t kd : Addr) : (jf b t kd).lookup ("entries" : Str) = some (.ref t) := by
  unfold jf
  rw [lookup_putF, if_neg (by decide +kernel), lookup_putF, if_pos rfl]
theorem jf_k (b t kd : Addr) : (jf b t kd).lookup ("_known" : Str) = some (.ref kd) := by
  unfold jf
  rw [lookup_putF, if_pos rfl]
theorem jf_no (b t kd : Addr) {m : Str} (h1 : ¬ m = "_known") (h2 : ¬ m = "entries") (h3 : ¬ m = "book") : (jf b t kd).lookup m = none := by
  unfold jf
  rw [lookup_putF, if_neg h1, lookup_putF, if_neg h2, lookup_putF, if_neg h3]
  rfl
/-- a journal of the book at b with the things us, which are the entries xs -/
def JAt (K : PySem.W.Frag) (aT CJ CB : Addr) (H : Hp) (j b : Addr) (L : List (Str × Int)) (us : List V) (xs : List Ent) : Prop := ∃ dx t kd, H j = some (.ins CJ dx (jf b t kd)) ∧ BookAt CB H b L ∧ SqT K H t us ∧ us.length = xs.length ∧
  (∀ (i : Nat) v x, us[i]? = some v → xs[i]? = some x → ThAt K H v (some x)) ∧ (wk L (xs.map some) 0 (fun _ => none) none).1 = none ∧ KnAt aT H kd (wk L (xs.map some) 0 (fun _ => none) none).2 us.length
theorem KnAt.same {aT : Addr} {H H' : Hp} {d : Addr} {S : Kn} {n : Nat} (h : KnAt aT H d S n) (s : Same H H') : KnAt aT H' d S n := by
  obtain ⟨kvs, h1, h2, h3⟩ := h
  exact ⟨kvs, s _ _ h1, h2, fun id => (h3 id).same s⟩
theorem JAt.same {K : PySem.W.Frag} {aT CJ CB : Addr} {H H' : Hp} {j b : Addr} {L : List (Str × Int)} {us : List V} {xs : List Ent} (h : JAt K aT CJ CB H j b L us xs) (s : Same H H') : JAt K aT CJ CB H' j b L us xs := by
  obtain ⟨dx, t, kd, h1, h2, h3, h4, h5, h6, h7⟩ := h
  exact ⟨dx, t, kd, s _ _ h1, h2.same s, seqS h3 s, h4, fun i v x a b => (h5 i v x a b).same s, h6, h7.same s⟩
def spIsRow (K : PySem.W.Frag) : Sp := fun vs H Q _ => ∃ (a : Addr) (us : List V), vs = [.ref a] ∧ (H a = some (.lst us) ∨ SqT K H a us) ∧ ∀ H', Same H H' → Q (.bl true) H'
/-- the made error's dict -/
def Xd (H : Hp) (d : Addr) (fl : Str) (v : V) : Prop := H d = some (.xd [(fl, v)])
def spJInit (K : PySem.W.Frag) (aT CJ CB CE : Addr) : Sp := fun vs H Q E => ∃ (j dx b a : Addr) (L : List (Str × Int)) (us : List V) (ths : List (Option Ent)), vs = [.ref j, .ref b, .ref a] ∧ H j = some (.ins CJ dx []) ∧ BookAt CB H b L ∧ (H a = some (.lst us) ∨ SqT K H a us) ∧ us.length ≤ 400 ∧ us.length = ths.length ∧
  (∀ (i : Nat) v o, us[i]? = some v → ths[i]? = some o → ThAt K H v o) ∧
  (∀ H' xs, ths = xs.map some → (wk L ths 0 (fun _ => none) none).1 = none → JAt K aT CJ CB H' j b L us xs → (∃ dx t kd, H' j = some (.ins CJ dx (jf b t kd)) ∧ H kd = none) → (∀ c o, H c = some o → c ≠ j → H' c = some o) → Q .non H') ∧
  (∀ i d H', (wk L ths 0 (fun _ => none) none).1 = some i → Same H H' → Xd H' d "at" (.int (i : Int)) → E (.ref CE) (some d) H')
/-- what the top says of Journal and of the errors -/
structure Cj (P : Program) (K : PySem.W.Frag) (mg : Str → Option Value) (CJ CB : Addr) : Prop where
  cl : Cls K CJ
  nB : NoAttr K CJ "book"
  nE : NoAttr K CJ "entries"
  nK : NoAttr K CJ "_known"
  c : mg "Journal" = some (.ref CJ)
theorem wk_some {L : List (Str × Int)} : ∀ {ths : List (Option Ent)} {i : Nat} {S : Kn} {l : Option Int}, (wk L ths i S l).1 = none → ∃ xs : List Ent, ths = xs.map some
  | [], _, _, _, _ => ⟨[], rfl⟩
  | none :: r, i, S, l, h => by
    rw [wk_odd] at h
    cases h
  | some x :: r, i, S, l, h => by
    by_cases c : late? l x.arr = true
    · rw [wk_late c] at h
      cases h
    · have c : late? l x.arr = false := Bool.eq_false_iff.mpr c
      cases hb : behind L x (S x.id) with
      | none =>
        rw [wk_bad c hb] at h
        cases h
      | some y =>
        rw [wk_go c hb] at h
        obtain ⟨xs, e⟩ := wk_some h
        exact ⟨x :: xs, by rw [e]; rfl⟩
/-- all but an instance stands -/
theorem BookAt.chg {CB j C dx : Addr} {H H' : Hp} {b : Addr} {L : List (Str × Int)} (h : BookAt CB H b L) (hj : H j = some (.ins C dx [])) (k : ∀ c o, H c = some o → c ≠ j → H' c = some o) : BookAt CB H' b L := by
  obtain ⟨dx, d, L', h1, h2, h3⟩ := h
  exact ⟨dx, d, L', k _ _ h1 (ne_of h1 hj (by intro z; cases z)), k _ _ h2 (ne_of h2 hj (by intro z; cases z)), h3⟩
theorem seqC {K : PySem.W.Frag} {H H' : Hp} {a j C dx : Addr} {us : List V} (h : SqT K H a us) (hj : H j = some (.ins C dx [])) (k : ∀ c o, H c = some o → c ≠ j → H' c = some o) : SqT K H' a us := by
  rcases h with (h | ⟨o, h⟩) | h
  · exact .inl (.inl (k _ _ h (ne_of h hj (by intro z; cases z))))
  · exact .inl (.inr ⟨o, k _ _ h (ne_of h hj (by intro z; cases z))⟩)
  · exact .inr h
theorem knC {aT j : Addr} {H H' : Hp} {d : Addr} {S : Kn} {n : Nat} (h : KnAt aT H d S n) (k : ∀ c o, H c = some o → c ≠ j → H' c = some o) (hj : ∃ C dx fs, H j = some (.ins C dx fs)) : KnAt aT H' d S n := by
  obtain ⟨kvs, h1, h2, h3⟩ := h
  obtain ⟨C, dx, fs, hj⟩ := hj
  refine ⟨kvs, k _ _ h1 (ne_of h1 hj (by intro z; cases z)), h2, fun id => ?_⟩
  have q := h3 id
  cases e : valV kvs (Sum.inl id : Key) with
  | none => rw [e] at q; cases eS : S id <;> (rw [eS] at q; exact q)
  | some v =>
    rw [e] at q
    cases eS : S id with
    | none => rw [eS] at q; exact q
    | some o =>
      rw [eS] at q
      cases o with
      | tb => exact q
      | at_ z kk m a =>
        obtain ⟨t, e1, e2⟩ := q
        exact ⟨t, e1, k _ _ e2 (ne_of e2 hj (by intro z; cases z))⟩
theorem thC {K : PySem.W.Frag} {H H' : Hp} {j C dx : Addr} {v : V} {x : Ent} (h : ThAt K H v (some x)) (hj : H j = some (.ins C dx [])) (k : ∀ c o, H c = some o → c ≠ j → H' c = some o) : ThAt K H' v (some x) := by
  obtain ⟨e, h1, h2, h3⟩ := h
  exact ⟨e, h1, k _ _ h2 (ne_of h2 hj (by intro z; cases z)), h3⟩
section
variable {P : Program} {w : World} {K : PySem.W.Frag} {mg : Str → Option Value} {base : Heap}
abbrev s_is_row : Stmt := topS 18
theorem sc_is_row : FnScope ["thing"] ["thing"] (defScope s_is_row) := ⟨rfl, rfl, rfl, by decide +kernel, rfl, by decide +kernel, by decide +kernel⟩
theorem ok_is_row {f : Addr} {fd : FuncData} (F : Fun K "is_row" "is_row" s_is_row f fd) (B : Blt mg) : FnOk P w K mg base CX0 1 f fd ["thing"] (spIsRow K) := by
  refine F.ok sc_is_row (fun vs H Q E h => ?_) (fun cdv A outer s H vs Q E hr h => ?_)
  · obtain ⟨a, us, rfl, _⟩ := h
    rfl
  · obtain ⟨a, us, rfl, hS, q⟩ := h
    refine ⟨_, (pss_one (ps_ret (pe_callB call_isiT (by rfl) B.isinstance (by decide +kernel) (pa_cons (pv 0) (pa_cons (pe_tup (pa_cons (pe_bltn (v := .ty "list") (by rfl) B.list (by decide +kernel) rfl) (pa_cons (pe_bltn (v := .ty "tuple") (by rfl) B.tuple (by decide +kernel) rfl) pa_nil))) pa_nil))))), ?_⟩
    refine ⟨_, rfl, (by show 2 ≤ sizeLine; decide), fun p hp => ?_⟩
    rcases hS with hS | hS
    · refine ⟨_, p, _, .type "list", [.type "list", .type "tuple"], true, rfl, upd_same, .cons (ClsV.ty _) (.cons (ClsV.ty _) .nil), .base (.lst (by rw [upd_ne (ne_of_none hS hp)]; exact hS)), kitAny_cons (b := true) (kit_ty (by decide +kernel)) (fun z => by cases z) (fun _ => rfl), q _ (sameAt (Same.refl H) hp)⟩
    · have ty : TyX K (upd H p (.tup [.ty "list", .ty "tuple"])) (.ref a) (.type "tuple") := by
        rcases hS with (h | ⟨o, h⟩) | ⟨o, its, n, h1, h2, h3⟩
        · exact .base (.tup (by rw [upd_ne (ne_of_none h hp)]; exact h))
        · exact .fTuple (by rw [upd_ne (ne_of_none h hp)]; exact h)
        · exact .kTuple h1 h2
      refine ⟨_, p, _, .type "tuple", [.type "list", .type "tuple"], true, rfl, upd_same, .cons (ClsV.ty _) (.cons (ClsV.ty _) .nil), ty, kitAny_cons (b := false) (kit_ty (by decide +kernel)) (fun _ => kitAny_cons (b := true) (kit_ty (by decide +kernel)) (fun z => by cases z) (fun _ => rfl)) (fun z => by cases z), q _ (sameAt (Same.refl H) hp)⟩
structure K7 (P : Program) (w : World) (K : PySem.W.Frag) (mg : Str → Option Value) (base : Heap) (CB aT : Addr) : Prop extends K6 P w K mg base CB aT where
  walked : Cal P w K mg base CX0 "walked" 6 ["book", "things"] (spWalked K aT CB)
  is_row : Cal P w K mg base CX0 "is_row" 1 ["thing"] (spIsRow K)
theorem par_at : PySem.BadX.Par "at" := ⟨by decide, by decide +kernel, by decide +kernel, by decide +kernel, by decide +kernel⟩
theorem par_value : PySem.BadX.Par "value" := ⟨by decide, by decide +kernel, by decide +kernel, by decide +kernel, by decide +kernel⟩
abbrev s_Journal_init : Stmt := inClass (topS 35) 0
theorem sc_Journal_init : FnScope ["self", "book", "entries", "at", "known"] ["self", "book", "entries"] (defScope s_Journal_init) := ⟨rfl, rfl, rfl, by decide +kernel, rfl, by decide +kernel, by decide +kernel⟩
theorem ok_j_init {f CJ CBook CE fE aT aE : Addr} {fd : FuncData} (F : FunD K "__init__" "Journal.__init__" (defArgs s_Journal_init) (defBody s_Journal_init) (defScope s_Journal_init) [.ref aE] [] f fd) (B : Blt mg) (Cs : Cst mg) (T : Cj P K mg CJ CBook) (TB : Cb K mg CBook) (TE : PySem.BadX.Txt P K mg "at" "at" CE fE) (c_BadEntry : mg "BadEntry" = some (.ref CE))
    (bk : ∀ H b dx fs, H b = some (.ins CBook dx fs) → TyX K H (.ref b) (.ref CBook)) (G : K7 P w K mg base CBook aT) : FnOk P w K mg base (L2.CX P w) 7 f fd ["self", "book", "entries"] (spJInit K aT CJ CBook CE) := by
  obtain ⟨t1, g_MOST_ENTRIES⟩ := Cs.k_MOST_ENTRIES
  have c_Book := TB.c
  refine F.ok (CX := L2.CX P w) sc_Journal_init (fun vs H Q E h => ?_) (fun cdv A outer s H vs Q E hr h => ?_)
  · obtain ⟨j, dx, b, a, L, us, ths, rfl, _⟩ := h
    rfl
  · obtain ⟨j, dx, b, a, L, us, ths, rfl, hj, hB, hS, h4, hlen, hT, qg, qb⟩ := h
    have hu := hu_of hr
    refine ⟨_, (pss_cons (ps_if (pt_not (pt_val (pe_callB call_isi (by rfl) B.isinstance (by decide +kernel) (pa_cons (pv 1) (pa_cons (pe_glob (v := .ref CBook) (by rfl) c_Book rfl) pa_nil)))))
      (pss_one ps_never)
      pss_nil)
    (pss_cons (ps_if (PW.pt (pw_or (pt_not (pt_val (pe_cal G.is_row (hr.mono (by decide)) pass0 (pa_cons (pv 2) pa_nil)))) (pw_or1 (pt_cmpR op_gt (pe_callB call_len_seq (by rfl) B.len (by decide +kernel) (pa_cons (pv 2) pa_nil)) (pe_glob (v := .int 400) (by rfl) g_MOST_ENTRIES ⟨_, rfl⟩) (nomark _)))))
      (pss_one ps_never)
      pss_nil)
    (pss_cons (ps_asg (pe_cal G.walked (hr.mono (by decide)) pass0 (pa_cons (pv 1) (pa_cons (pv 2) pa_nil))) (pg_tup (by rfl) (pgs_cons (pg_name (i := 3) sc_Journal_init.nd rfl (Or.inl rfl)) (pgs_cons (pg_name (i := 4) sc_Journal_init.nd rfl (Or.inl rfl)) pgs_nil))))
    (pss_cons (ps_if (pt_cmpR op_notN (pv 3) pe_non (nomark _))
      (pss_one (ps_raiseB rfl TE par_at c_BadEntry (hr.mono (Nat.zero_le _)) (takes_of rfl rfl rfl rfl) (pa_cons (pv 3) pa_nil) (by rfl)))
      pss_nil)
    (pss_cons (ps_fld (pv 0) (pv 1) rfl)
    (pss_cons (ps_fld (pv 0) (pe_callTy call_tuple_of (by rfl) B.tuple (by decide +kernel) (pa_cons (pv 2) pa_nil)) rfl)
    (pss_one (ps_fld (pv 0) (pv 4) rfl)))))))), ?_⟩
    obtain ⟨bx, bd, L', b1, b2, b3⟩ := id hB
    refine ⟨_, rfl, _, _, _, _, true, rfl, ClsV.own _, bk _ _ _ _ b1, (by show PySem.W.kitOne K _ _ = _; unfold PySem.W.kitOne; rw [if_pos (by simp)]), _, rfl, iteF ?_⟩
    refine ⟨_, rfl, a, us, rfl, hS, fun H1 s1 => ⟨_, rfl, iteF ?_⟩⟩
    have hS1 : SqL K H1 a us ∨ SqT K H1 a us := by
      rcases hS with h | h
      · exact .inl (SqL.of (s1 _ _ h))
      · exact .inr (seqS h s1)
    refine ⟨_, rfl, a, us, rfl, hS1, _, _, rfl, rfl, _, rfl, ?_⟩
    rw [decide_eq_false (show ¬ (400 : Int) < (us.length : Int) by omega)]
    refine iteF ⟨_, rfl, _, rfl, b, a, L, us, ths, rfl, hB.same s1, hS1, by omega, hlen, fun i v o x y => (hT i v o x y).same s1, fun t kd H2 hkn s2 ht hk => ?_⟩
    have s12 := s1.trans s2
    have hkd0 : H kd = none := by
      cases e : H kd with
      | none => rfl
      | some o => rw [s1 _ _ e] at hkn; cases hkn
    refine ⟨t, _, rfl, SqT.of ht, rfl, _, _, rfl, _, _, rfl, rfl, ?_⟩
    have hj2 : H2 j = some (.ins CJ dx []) := s12 _ _ hj
    cases hw : (wk L ths 0 (fun _ => none) none).1 with
    | some i =>
      refine ⟨_, rfl, rfl, _, rfl, ?_⟩
      show if (!decide (atV (some i) = V.non)) = true then _ else _
      exact iteT ⟨_, rfl, _, rfl, fun d hd => qb i d _ hw (s12.trans (sameAt (Same.refl H2) hd)) upd_same⟩
    | none =>
      refine ⟨_, rfl, rfl, _, rfl, ?_⟩
      show if (!decide (atV none = V.non)) = true then _ else _
      refine iteF ?_
      obtain ⟨xs, hxs⟩ := wk_some hw
      have hlx : us.length = xs.length := by rw [hlen, hxs, List.length_map]
      have hTx : ∀ (i : Nat) v x, us[i]? = some v → xs[i]? = some x → ThAt K H v (some x) := fun i v x a b => hT i v (some x) a (by rw [hxs, List.getElem?_map, b]; rfl)
      have fin : ∀ H', (∀ c o, H2 c = some o → c ≠ j → H' c = some o) → (∃ t, H' j = some (.ins CJ dx (jf b t kd)) ∧ SqT K H' t us) → Q .non H' := fun H' kk2 ⟨t, h1, h2⟩ => by
        have kk : ∀ c o, H c = some o → c ≠ j → H' c = some o := fun c o h n => kk2 c o (s12 _ _ h) n
        refine qg H' xs hxs hw ⟨dx, t, kd, h1, hB.chg hj kk, h2, hlx, fun i v x a b => thC (hTx i v x a b) hj kk, by rw [← hxs]; exact hw, by rw [← hxs]; exact knC hk kk2 ⟨_, _, _, hj2⟩⟩ ⟨dx, t, kd, h1, hkd0⟩ kk
      refine ⟨_, rfl, _, rfl, j, CJ, dx, [], rfl, hj2, T.cl, T.nB, (by show 0 < 1000; decide), ?_⟩
      generalize eA : upd H2 j (.ins CJ dx (putF "book" (.ref b) [])) = HA
      have hA : HA j = some (.ins CJ dx (putF "book" (.ref b) [])) := by rw [← eA]; exact upd_same
      have kA2 : ∀ c o, H2 c = some o → c ≠ j → HA c = some o := fun c o h n => by rw [← eA, upd_ne n]; exact h
      have kA : ∀ c o, H c = some o → c ≠ j → HA c = some o := fun c o h n => kA2 c o (s12 _ _ h) n
      clear eA
      rcases hS with hS | hS
      · have haj : a ≠ j := ne_of hS hj (by intro z; cases z)
        refine ⟨_, rfl, a, us, rfl, .inl ⟨SqL.of (kA _ _ hS haj), fun l hl => ?_⟩⟩
        have hlj : l ≠ j := fun z => by rw [z, hA] at hl; cases hl
        refine ⟨_, rfl, j, CJ, dx, _, rfl, (by rw [upd_ne hlj.symm]; exact hA), T.cl, T.nE, (by show 1 < 1000; decide), ?_⟩
        refine ⟨_, rfl, _, rfl, j, CJ, dx, _, rfl, upd_same, T.cl, T.nK, (by show 2 < 1000; decide), ?_⟩
        refine fin _ (fun c o h n => ?_) ⟨l, upd_same, SqT.of (by rw [upd_ne hlj, upd_ne hlj, upd_same])⟩
        have hcl : c ≠ l := fun z => by rw [← z, kA2 c o h n] at hl; cases hl
        rw [upd_ne n, upd_ne n, upd_ne hcl]
        exact kA2 c o h n
      · refine ⟨_, rfl, a, us, rfl, .inr ⟨seqC hS hj kA, ?_⟩⟩
        refine ⟨_, rfl, j, CJ, dx, _, rfl, hA, T.cl, T.nE, (by show 1 < 1000; decide), ?_⟩
        refine ⟨_, rfl, _, rfl, j, CJ, dx, _, rfl, upd_same, T.cl, T.nK, (by show 2 < 1000; decide), ?_⟩
        have kF : ∀ c o, H2 c = some o → c ≠ j → (upd (upd HA j (.ins CJ dx (putF "entries" (.ref a) (putF "book" (.ref b) [])))) j (.ins CJ dx (putF "_known" (.ref kd) (putF "entries" (.ref a) (putF "book" (.ref b) []))))) c = some o := fun c o h n => by
          rw [upd_ne n, upd_ne n]
          exact kA2 c o h n
        exact fin _ kF ⟨a, upd_same, seqC hS hj fun c o h n => kF c o (s12 _ _ h) n⟩
structure K8 (P : Program) (w : World) (K : PySem.W.Frag) (mg : Str → Option Value) (base : Heap) (CB aT CJ CE : Addr) : Prop extends K7 P w K mg base CB aT where
  Journal : Mak P w K mg base (L2.CX P w) "Journal" CJ 7 ["self", "book", "entries"] (spJInit K aT CJ CB CE)
theorem wk_ge {L : List (Str × Int)} : ∀ {xs : List Ent} {i : Nat} {S : Kn} {t : Int}, (wk L (xs.map some) i S (some t)).1 = none → ∀ x ∈ xs, t ≤ x.arr
  | [], _, _, _, _, x, hx => nomatch hx
  | y :: r, i, S, t, h, x, hx => by
    have h : (wk L (some y :: r.map some) i S (some t)).1 = none := h
    by_cases c : late? (some t) y.arr = true
    · rw [wk_late c] at h
      cases h
    · have c0 : late? (some t) y.arr = false := Bool.eq_false_iff.mpr c
      have c1 : ¬ y.arr < t := fun z => c (decide_eq_true z)
      cases hb : behind L y (S y.id) with
      | none =>
        rw [wk_bad c0 hb] at h
        cases h
      | some z =>
        rw [wk_go c0 hb] at h
        rcases List.mem_cons.mp hx with rfl | hx
        · omega
        · have := wk_ge h x hx
          omega
theorem wk_cut {L : List (Str × Int)} (n : Int) : ∀ {xs : List Ent} {i : Nat} {S : Kn} {l : Option Int}, (wk L (xs.map some) i S l).1 = none →
    ∃ k, k ≤ xs.length ∧ (∀ (j : Nat) x, xs[j]? = some x → (x.arr ≤ n ↔ j < k)) ∧ (wk L ((xs.take k).map some) i S l).1 = none ∧ xs.filter (fun x => decide (x.arr ≤ n)) = xs.take k
  | [], _, _, _, _ => ⟨0, Nat.le_refl _, fun j x h => by simp at h, rfl, rfl⟩
  | y :: r, i, S, l, h => by
    have h : (wk L (some y :: r.map some) i S l).1 = none := h
    by_cases c : late? l y.arr = true
    · rw [wk_late c] at h
      cases h
    · have c0 : late? l y.arr = false := Bool.eq_false_iff.mpr c
      cases hb : behind L y (S y.id) with
      | none =>
        rw [wk_bad c0 hb] at h
        cases h
      | some z =>
        rw [wk_go c0 hb] at h
        by_cases cn : y.arr ≤ n
        · obtain ⟨k, k1, k2, k3, k4⟩ := wk_cut n h
          refine ⟨k + 1, by rw [List.length_cons]; omega, fun j x hj => ?_, ?_, ?_⟩
          · cases j with
            | zero =>
              have : y = x := Option.some.inj hj
              subst this
              exact ⟨fun _ => Nat.succ_pos _, fun _ => cn⟩
            | succ j =>
              have := k2 j x hj
              omega
          · show (wk L (some y :: (r.take k).map some) i S l).1 = none
            rw [wk_go c0 hb]
            exact k3
          · rw [List.filter_cons, if_pos (decide_eq_true cn), k4]
            rfl
        · refine ⟨0, Nat.zero_le _, fun j x hj => ?_, rfl, ?_⟩
          · have hx := List.mem_of_getElem? hj
            have : n < x.arr := by
              rcases List.mem_cons.mp hx with rfl | hx
              · omega
              · have := wk_ge h x hx
                omega
            omega
          · rw [List.filter_eq_nil_iff.mpr]
            · rfl
            · intro x hx
              rcases List.mem_cons.mp hx with rfl | hx
              · simpa using cn
              · have := wk_ge h x hx
                simp
                omega
def spThen (K : PySem.W.Frag) (aT CJ CB CE : Addr) : Sp := fun vs H Q E => ∃ (j b : Addr) (L : List (Str × Int)) (us : List V) (xs : List Ent) (v : V) (o : Option Ent), vs = [.ref j, v] ∧ JAt K aT CJ CB H j b L us xs ∧ us.length < 400 ∧ ThAt K H v o ∧
  (∀ j' H' x, o = some x → (wk L ((xs ++ [x]).map some) 0 (fun _ => none) none).1 = none → Same H H' → JAt K aT CJ CB H' j' b L (us ++ [v]) (xs ++ [x]) → Q (.ref j') H') ∧
  (∀ i d H', (wk L (xs.map some ++ [o]) 0 (fun _ => none) none).1 = some i → Same H H' → Xd H' d "at" (.int (i : Int)) → E (.ref CE) (some d) H')
def spHeard (K : PySem.W.Frag) (aT CJ CB CM : Addr) : Sp := fun vs H Q E => ∃ (j b : Addr) (L : List (Str × Int)) (us : List V) (xs : List Ent) (v : V), vs = [.ref j, v] ∧ JAt K aT CJ CB H j b L us xs ∧ us.length ≤ 400 ∧
  ((∃ n, v = .int n ∧ ∀ k j' H', xs.filter (fun x => decide (x.arr ≤ n)) = xs.take k → Same H H' → JAt K aT CJ CB H' j' b L (us.take k) (xs.take k) → Q (.ref j') H') ∨
   (NotInt K H v ∧ ∀ d H', Same H H' → Xd H' d "value" v → E (.ref CM) (some d) H'))
theorem mk_same {H H' : Hp} {x dx C : Addr} (nx : H x = none) (nd : H dx = none) (k : ∀ c o, (upd (upd H dx (.own x)) x (.ins C dx [])) c = some o → c ≠ x → H' c = some o) : Same H H' := fun c o h =>
  k c o (by rw [upd_ne (ne_of_none h nx), upd_ne (ne_of_none h nd)]; exact h) (ne_of_none h nx)
end
end Ash

set_option Elab.async false
set_option linter.all false
set_option maxRecDepth 100000
set_option maxHeartbeats 4000000
namespace Ash
open PySem PySem.Spec PyProof.Rows L2
open C8 (pss_cut)
section
variable {P : Program} {w : World} {K : PySem.W.Frag} {mg : Str → Option Value} {base : Heap}
abbrev s_Journal_heard : Stmt := inClass (topS 35) 6
theorem sc_Journal_heard : FnScope ["self", "h", "entry"] ["self", "h"] (defScope s_Journal_heard) := ⟨rfl, rfl, rfl, by decide +kernel, rfl, by decide +kernel, by decide +kernel⟩
theorem ok_heard {f CJ CB CE CM fM aT : Addr} {fd : FuncData} (F : Fun K "heard" "Journal.heard" s_Journal_heard f fd) (B : Blt mg) (T : Cj P K mg CJ CB) (TM : PySem.BadX.Txt P K mg "value" "value" CM fM) (c_BadMoment : mg "BadMoment" = some (.ref CM)) (G : K8 P w K mg base CB aT CJ CE) : FnOk P w K mg base (L2.CX P w) 9 f fd ["self", "h"] (spHeard K aT CJ CB CM) := by
  refine F.okX sc_Journal_heard (fun vs H Q E h => ?_) (fun cdv A outer s H vs Q E hr h => ?_)
  · obtain ⟨j, b, L, us, xs, v, rfl, _⟩ := h
    rfl
  · obtain ⟨j, b, L, us, xs, v, rfl, hJ, h4, hv⟩ := h
    refine ⟨_, (pss_cons (ps_if (pt_not (pt_val (pe_cal G.is_integer (hr.mono (by decide)) pass0 (pa_cons (pv 1) pa_nil))))
      (pss_one (ps_raiseB rfl TM par_value c_BadMoment (hr.mono (Nat.zero_le _)) (takes_of rfl rfl rfl rfl) (pa_cons (pv 1) pa_nil) (by rfl)))
      pss_nil)
    (pss_one (ps_ret (pe_mak G.Journal (hr.mono (by decide)) (passE (takes_of rfl rfl rfl rfl)) (pa_cons (pe_fld (pv 0) rfl) (pa_cons (pe_lc (own := [("entry", 2)]) (g := gName 2) (by rfl) sc_Journal_heard.nd (pi_tup (pe_fld (pv 0) rfl)) (blkOk_by (own := [("entry", 2)]) (N := ["self", "h", "entry"]) (sc := defScope s_Journal_heard) (by decide +kernel)) (fun _ _ _ _ _ => (pg_name (i := 2) sc_Journal_heard.nd rfl (Or.inl rfl))) (fun _ _ _ _ _ => pts_one (pt_cmpR op_le (pe_cal G.arrival_of (hr.mono (by decide)) pass0 (pa_cons (pv 2) pa_nil)) (pv 1) (nomark _))) (fun _ _ _ _ _ => (pv 2))) pa_nil)))))), ?_⟩
    obtain ⟨dx, t, kd, h1, h2, h3, hl, h5, h6, h7⟩ := id hJ
    rcases hv with ⟨n, rfl, q⟩ | ⟨ni, q⟩
    · refine ⟨_, rfl, _, rfl, .inl ⟨n, rfl, _, rfl, iteF ?_⟩⟩
      obtain ⟨k, k1, k2, k3, k4⟩ := wk_cut n h6
      refine ⟨_, rfl, j, CJ, dx, _, _, rfl, h1, T.cl, T.nB, jf_b _ _ _, _, rfl, j, CJ, dx, _, _, rfl, h1, T.cl, T.nE, jf_e _ _ _, t, rfl, ⟨_, h3⟩, fun D hD => lc_it (walk_tup (xs := us)) (fun i H1 => H1 D = some (.lst (us.take (min i k))) ∧ Same H H1) ⟨by rw [Nat.zero_min]; exact upd_same, sameAt (Same.refl H) hD⟩ (fun i H1 _ hv => seqS h3 hv.2) ?_ ?_⟩
      · rintro i v H1 H2 hi ⟨hD1, s1⟩ ⟨rfl, hvi⟩
        have hix : i < xs.length := by rw [← hl]; exact hi
        obtain ⟨x, hx⟩ : ∃ x, xs[i]? = some x := ⟨_, List.getElem?_eq_getElem hix⟩
        obtain ⟨e, rfl, he, hok⟩ := h5 i v x hvi hx
        refine ⟨rfl, _, rfl, e, x, rfl, s1 _ _ he, _, rfl, _, _, rfl, rfl, _, rfl, ?_⟩
        refine ite2 (fun c => ?_) (fun c => ?_)
        · have c : x.arr ≤ n := of_decide_eq_true c
          have ik := (k2 i x hx).mp c
          refine ⟨_, rfl, _, hD1, (by rw [List.length_take]; exact small1000 (by omega)), ?_, sameAt s1 hD⟩
          rw [upd_same, Nat.min_eq_left (Nat.le_of_lt ik), Nat.min_eq_left (by omega), list_take hvi]
        · have c : ¬ x.arr ≤ n := fun z => c (decide_eq_true z)
          have ik : k ≤ i := Nat.le_of_not_lt fun z => c ((k2 i x hx).mpr z)
          refine ⟨?_, s1⟩
          rw [hD1, Nat.min_eq_right ik, Nat.min_eq_right (by omega)]
      · rintro H1 ⟨hD1, s1⟩
        rw [Nat.min_eq_right (by omega)] at hD1
        intro x dx' nx ndx nex
        have sX : Same H1 (upd (upd H1 dx' (.own x)) x (.ins CJ dx' [])) := (sameAt (Same.refl _) ndx).trans (sameAt (Same.refl _) (by rw [upd_ne (Ne.symm nex)]; exact nx))
        refine ⟨x, dx', b, D, L, us.take k, (xs.take k).map some, rfl, upd_same, h2.same (s1.trans sX), .inl (sX _ _ hD1), by rw [List.length_take]; omega, by rw [List.length_take, List.length_map, List.length_take, hl], fun i v' o' hi ho => ?_, fun H' ys hys hw hJ' _ kk => ⟨rfl, ?_⟩, fun i d H' hw s hx => ?_⟩
        · have hik : i < k := by
            have := (List.getElem?_eq_some_iff.mp hi).1
            rw [List.length_take] at this
            omega
          rw [List.getElem?_take_of_lt hik] at hi
          rw [List.getElem?_map, List.getElem?_take_of_lt hik] at ho
          cases e : xs[i]? with
          | none => rw [e] at ho; cases ho
          | some y =>
            rw [e] at ho
            cases ho
            exact (h5 i v' y hi e).same (s1.trans sX)
        · have e : ys = xs.take k := (List.map_inj_right (fun a b h => Option.some.inj h)).mp hys.symm
          subst e
          exact q k x H' k4 (s1.trans (mk_same nx ndx kk)) hJ'
        · rw [k3] at hw
          cases hw
    · refine ⟨_, rfl, _, rfl, .inr ⟨ni, _, rfl, iteT ?_⟩⟩
      exact ⟨_, rfl, _, rfl, fun d hd => q d _ (sameAt (Same.refl H) hd) upd_same⟩
end
end Ash

set_option Elab.async false
set_option linter.all false
set_option maxRecDepth 100000
set_option maxHeartbeats 4000000
/-! ### own errors in a suite that handles one, and out of it -/
namespace L2H
open PySem PySem.Spec PyProof.Rows L2 HotX
theorem roomM {k : Nat} {A : Around} {h : Option Value} (r : Room k A) : RoomH 0 (A.mark h) := ⟨by have := r.dp; show A.depth + 3 * 0 + 5 < _; omega, by have := r.un; show A.units + 16 * 0 + 200 < _; omega⟩
section
variable {X : Cx} {C fI : Addr}
theorem pmk_bad5 {x par fl : Str} {a : Expr} {ta : TA} {p pos : Pos} {k : Nat} (T : PySem.BadX.Txt X.prog X.K X.mg par fl C fI) (pr : PySem.BadX.Par par) (hm : X.mg x = some (.ref C)) (hr : RoomH k X.A) (ha : PA X [a] ta) (hg : Gl X x)
    (hdb : (x == ("__debug__" : Str)) = false := by decide)
    (he : starEach (a :: []) X.env = (false, eval a X.env) :: starEach [] X.env := by rfl) (hpl : (backTo pos (starEach [] X.env)).any (·.1) = false := by rfl) :
    PMk5 X (.Call (.Name x p) [a] [] pos) (tMkB fl C ta) := by
  intro pins s σ H Q I h
  refine wpAny_Call_Name_kw (ld_glob I hg hm ?_ hdb)
  refine PySem.W.callWith_K (h₀ := X.base) I.ok.mod.kin T.kC (thn (ha.run pos pins s σ H _ I h) fun us s1 hh => ?_) he hpl
  obtain ⟨vs, H1, I1, r1, v, ev, q1⟩ := hh
  subst ev
  refine ⟨I1.kIn, ?_⟩
  cases r1 with
  | cons rv rn =>
    rename_i v' us'
    cases rn
    show wpAny _ _ (call (.ref C) [v']) _ _ _
    have hlim := I1.nolimit
    obtain ⟨mb, hb1, hb2⟩ := I1.mod.blt
    have Gn : s1.heap.Ns mainGlobals X.mg := I1.mod.glob.keeps I1.bk
    have Bn : s1.heap.Ns builtinsNs mb := hb1.keeps I1.bk
    have hbs : mb "super" = some (.type "super") := (hb2 _ (by decide +kernel)).trans (by first | boot_by_name | rfl | kernel_rfl)
    obtain ⟨hp, g, dr, tk, os⟩ := s1
    refine wpAny_call (PySem.BadX.made_ok T pr I1.kIn Gn Bn hbs hlim (by have := hr.dp; omega) fun h' tk' e d M => ?_)
    show L2N.MkP X pins σ Q (.ref e) ⟨h', g, dr, tk', os⟩ ∧ Six (.ref e) ⟨h', g, dr, tk', os⟩
    obtain ⟨oe, fv, hoe, hc, hd, hdat, h1, h2, h4⟩ := M.obj
    have hns := M.ns
    obtain ⟨G', g1, g2⟩ := restrict h' fun b => decide (b ≠ e)
    have gk : ∀ b, b ≠ e → G'.get? b = h'.get? b := fun b hb => g1 b (decide_eq_true hb)
    have ge : G'.get? e = none := g2 e (by simp)
    have old : ∀ b o, hp.get? b = some o → G'.get? b = some o := fun b o q => (gk b (Nat.ne_of_lt (Nat.lt_of_lt_of_le (Heap.lt_size q) M.new))).trans (M.keep b o q)
    have ob : ObjOk X.prog X.w (upd H1 d (.xd [(fl, v)])) G' d (.xd [(fl, v)]) :=
      ⟨_, hns.at (fun o q => (gk d M.dne).trans q), fun f => relO_one rv fl f⟩
    have J : Inv X pins σ (upd H1 d (.xd [(fl, v)])) ⟨G', g, dr, tk', os⟩ := I1.laid (t' := tk') old M.dbig ob
    refine ⟨⟨e, oe, fv, ⟨G', g, dr, tk', os⟩, _, .ref C, some d, rfl, J, fun b o q => ?_, ge, hoe, ⟨hc, hd, fun vs q => ?_⟩, hdat, h1, ?_, rfl, I1.bare, raises_own T.exC T.tyC, q1 d (I1.hok.fresh M.dbig)⟩, fun a' oe' vs' ea hg' hd' => ?_⟩
    · by_cases hb : b = e
      · have q' : G'.get? b = some o := q
        rw [hb, ge] at q'; cases q'
      · exact (gk b hb).symm.trans q
    · rw [hdat] at q
      cases q
      exact h2
    · rw [upd_ne (Ne.symm M.dne)]
      exact I1.hok.fresh M.new
    · cases ea
      have hg2 : h'.get? e = some oe' := hg'
      rw [hoe] at hg2
      cases hg2
      rw [hdat] at hd'
      cases hd'
      exact h4
theorem ps_raiseBN {x par fl : Str} {a : Expr} {ta : TA} {W : WX} {p pos pos2 : Pos} {k : Nat} (hc : X.calm = true) (T : PySem.BadX.Txt X.prog X.K X.mg par fl C fI) (pr : PySem.BadX.Par par) (hm : X.mg x = some (.ref C)) (hr : Room k X.A) (tk : L2N.Takes X W) (ha : PA X [a] ta) (hg : Gl X x)
    (hdb : (x == ("__debug__" : Str)) = false := by decide)
    (he : starEach (a :: []) X.env = (false, eval a X.env) :: starEach [] X.env := by rfl) (hpl : (backTo pos (starEach [] X.env)).any (·.1) = false := by rfl) :
    PS X (.Raise (some (.Call (.Name x p) [a] [] pos)) none pos2) (tRaiseB fl C W ta) := L2N.ps_raise hc tk (pmk_bad5 T pr hm (roomH_of hr) ha hg hdb he hpl).pmk
/-- try: .. except Cls: a suite that raises -/
def tTryX (K : PySem.W.Frag) (c : Value) (tb : WX → TS) (ts : Addr → Value → Option Addr → TS) (Wout : WX) : TS := fun D σ H => tb (wOnly K c ts Wout D) D σ H
theorem ps_tryX {x : Str} {c : Value} {body suite : List Stmt} {b₀ : Stmt} {np pos pos' : Pos} {tb : WX → TS} {ts : Addr → Value → Option Addr → TS} {Wout : WX} (hs : X.stack = X.env :: X.outer) (hf : X.env.frame = some X.env.locals) (hc : Names X x c) (hpa : ∀ hd : Option Value, PassesOwnAt (model X.prog X.w) (X.A.mark hd) X.A X.env X.xe) (tk : L2.Takes X Wout)
    (hb : ∀ (W : WX) (pn : List (Addr × Obj)) (xe : Value → Shared → Prop), L2N.Takes (X.tr pn xe) W → L2.Takes (X.tr pn xe) (wPass X.K c Wout) → PassesOwn (model X.prog X.w) X.A X.env xe → PSs (X.tr pn xe) body (tb W))
    (hsu : ∀ (a : Addr) (oe : Obj) (cls : Value) (d : Option Addr) (pn : List (Addr × Obj)), L2N.Zn cls d oe → (∃ vs, oe.data = .fields vs) → L2.Takes (suiteX X a ((a, oe) :: pn)) Wout → HotC (suiteX X a ((a, oe) :: pn)) → PSs (suiteX X a ((a, oe) :: pn)) (b₀ :: suite) (ts a cls d)) :
    PS X (.Try body [.ExceptHandler (some (.Name x np)) none (b₀ :: suite) pos'] [] [] pos) (tTryX X.K c tb ts Wout) := ps_try_onlyX hs hf hc hpa tk hb hsu
/-- raise Cls(e) from None, in a suite -/
theorem ps_raiseBF {x par fl : Str} {a : Expr} {ta : TA} {W : WX} {p pos pos2 cpos : Pos} {j k : Nat} (hc : HotC X) (T : PySem.BadX.Txt X.prog X.K X.mg par fl C fI) (pr : PySem.BadX.Par par) (hm : X.mg x = some (.ref C)) (hr : RoomH k X.A) (tk : L2.Takes X W) (ha : PA X [a] ta) (hg : Gl X x)
    (hdb : (x == ("__debug__" : Str)) = false := by decide)
    (he : starEach (a :: []) X.env = (false, eval a X.env) :: starEach [] X.env := by rfl) (hpl : (backTo pos (starEach [] X.env)).any (·.1) = false := by rfl) :
    PS X (.Raise (some (.Call (.Name x p) [a] [] pos)) (some (.Constant .none j cpos)) pos2) (tRaiseB fl C W ta) := ps_raiseHN hc tk (pmk_bad5 T pr hm hr ha hg hdb he hpl)
/-- raise Cls(e), in a suite -/
theorem ps_raiseBH {x par fl : Str} {a : Expr} {ta : TA} {W : WX} {p pos pos2 : Pos} {k : Nat} (hc : HotC X) (T : PySem.BadX.Txt X.prog X.K X.mg par fl C fI) (pr : PySem.BadX.Par par) (hm : X.mg x = some (.ref C)) (hr : RoomH k X.A) (tk : L2.Takes X W) (ha : PA X [a] ta) (hg : Gl X x)
    (hdb : (x == ("__debug__" : Str)) = false := by decide)
    (he : starEach (a :: []) X.env = (false, eval a X.env) :: starEach [] X.env := by rfl) (hpl : (backTo pos (starEach [] X.env)).any (·.1) = false := by rfl) :
    PS X (.Raise (some (.Call (.Name x p) [a] [] pos)) none pos2) (tRaiseB fl C W ta) := ps_raiseH hc tk (pmk_bad5 T pr hm hr ha hg hdb he hpl).pmk
end
end L2H
namespace Ash
open PySem PySem.Spec PyProof.Rows L2
section
variable {P : Program} {w : World} {K : PySem.W.Frag} {mg : Str → Option Value} {base : Heap}
theorem okN {x qual : Str} {st : Stmt} {f : Addr} {fd : FuncData} {N ps : List Str} {k : Nat} {sp : Sp} (F : Fun K x qual st f fd) (S : FnScope N ps (defScope st)) (len : ∀ vs H Q E, sp vs H Q E → vs.length = ps.length)
    (hbody : ∀ (cdv : Value) (A : Around) (outer : List Env) (s : Shared) (H : Hp) (vs : List V) (Q : VK) (E : XK), Room k (A.deeper (envOfC qual (defScope st) s.heap.objs.size f cdv)) → sp vs H Q E →
      ∃ t, PSs (cxOf (L2N.CX P w) P w K mg base N qual (defScope st) f cdv A outer s H E) (defBody st) t ∧ t { nx := fun _ H' => Q .non H', rt := Q } (start N vs) H) : FnOk P w K mg base (L2N.CX P w) (k + 1) f fd ps sp := by
  obtain ⟨oc, od, kV, doc, pm, an, cdv, ct, osl, rfl, lk, hcd⟩ := F.ex
  exact fn_of lk hcd S len fun A outer s H vs Q E hr hsp => hbody cdv A outer s H vs Q E hr hsp
theorem cxN {outer : List Env} {H : Hp} {s : Shared} {E : XK} {u : Value} {s' : Shared} (h : L2N.CX P w outer H s E u s') : L2.CX P w outer H s E u s' := by
  obtain ⟨a, B, H', cls, d, e, fl, r⟩ := h
  exact ⟨a, B, H', cls, d, e, L2H.flyingZ_imp (fun o z => L2N.Zn.zc z) fl, r⟩
theorem ofN {k : Nat} {f : Addr} {fd : FuncData} {ps : List Str} {sp : Sp} (F : FnOk P w K mg base (L2N.CX P w) k f fd ps sp) : FnOk P w K mg base (L2.CX P w) k f fd ps sp :=
  ⟨F.len, fun A outer s H args us vs Q E hr he hb hv hs => by
    have h := F.run A outer s H args us vs Q E hr he hb hv hs
    exact codeAny_mono h (fun o s1 c => match o, c with
      | .ok (.ret _), c => c
      | .error _, c => cxN c)⟩
end
end Ash

set_option Elab.async false
set_option linter.all false
set_option maxRecDepth 100000
set_option maxHeartbeats 4000000
namespace Ash
open PySem PySem.Spec PyProof.Rows L2
open C8 (pss_cut)
/-! ### journals whose errors may be caught and raised on -/
theorem passEN {X : Cx} {E : XK} (tk : L2N.Takes X (fun cls d _ H => E cls d H)) : Passes (L2N.CX X.prog X.w) X E := L2N.passes_call tk fun _ _ _ _ h => h
section
variable {P : Program} {w : World} {K : PySem.W.Frag} {mg : Str → Option Value} {base : Heap}
structure K8N (P : Program) (w : World) (K : PySem.W.Frag) (mg : Str → Option Value) (base : Heap) (CB aT CJ CE : Addr) : Prop extends K7 P w K mg base CB aT where
  Journal : Mak P w K mg base (L2N.CX P w) "Journal" CJ 7 ["self", "book", "entries"] (spJInit K aT CJ CB CE)
theorem makN {x : Str} {C : Addr} {k : Nat} {ps : List Str} {sp : Sp} (M : Mak P w K mg base (L2N.CX P w) x C k ps sp) : Mak P w K mg base (L2.CX P w) x C k ps sp := by
  obtain ⟨f, fd, a, b, c, d⟩ := M.ex
  exact ⟨f, fd, a, b, c, ofN d⟩
theorem metN {C : Addr} {m : Str} {k : Nat} {ps : List Str} {sp : Sp} (M : Met P w K mg base (L2N.CX P w) C m k ps sp) : Met P w K mg base (L2.CX P w) C m k ps sp := by
  obtain ⟨f, fd, a, b, d⟩ := M.ex
  exact ⟨f, fd, a, b, ofN d⟩
theorem K8N.k8 {CB aT CJ CE : Addr} (G : K8N P w K mg base CB aT CJ CE) : K8 P w K mg base CB aT CJ CE := ⟨G.toK7, makN G.Journal⟩
def spThenN (K : PySem.W.Frag) (aT CJ CB CE : Addr) : Sp := fun vs H Q E => ∃ (j b : Addr) (L : List (Str × Int)) (us : List V) (xs : List Ent) (v : V) (o : Option Ent), vs = [.ref j, v] ∧ JAt K aT CJ CB H j b L us xs ∧ ThAt K H v o ∧ us.length ≤ 400 ∧
  (∀ j' H' x, o = some x → (wk L ((xs ++ [x]).map some) 0 (fun _ => none) none).1 = none → Same H H' → JAt K aT CJ CB H' j' b L (us ++ [v]) (xs ++ [x]) → us.length < 400 → H j' = none → (∃ dx t kd, H' j' = some (.ins CJ dx (jf b t kd)) ∧ H kd = none) → Q (.ref j') H') ∧
  (∀ i d H', (wk L (xs.map some ++ [o]) 0 (fun _ => none) none).1 = some i → Same H H' → Xd H' d "at" (.int (i : Int)) → us.length < 400 → E (.ref CE) (some d) H') ∧
  (us.length = 400 → ∀ d H', Same H H' → Xd H' d "at" (.int 400) → E (.ref CE) (some d) H')
theorem ok_j_initN {f CJ CBook CE fE aT aE : Addr} {fd : FuncData} (F : FunD K "__init__" "Journal.__init__" (defArgs s_Journal_init) (defBody s_Journal_init) (defScope s_Journal_init) [.ref aE] [] f fd) (B : Blt mg) (Cs : Cst mg) (T : Cj P K mg CJ CBook) (TB : Cb K mg CBook) (TE : PySem.BadX.Txt P K mg "at" "at" CE fE) (c_BadEntry : mg "BadEntry" = some (.ref CE))
    (bk : ∀ H b dx fs, H b = some (.ins CBook dx fs) → TyX K H (.ref b) (.ref CBook)) (G : K7 P w K mg base CBook aT) : FnOk P w K mg base (L2N.CX P w) 7 f fd ["self", "book", "entries"] (spJInit K aT CJ CBook CE) := by
  obtain ⟨t1, g_MOST_ENTRIES⟩ := Cs.k_MOST_ENTRIES
  have c_Book := TB.c
  refine F.ok (CX := L2N.CX P w) sc_Journal_init (fun vs H Q E h => ?_) (fun cdv A outer s H vs Q E hr h => ?_)
  · obtain ⟨j, dx, b, a, L, us, ths, rfl, _⟩ := h
    rfl
  · obtain ⟨j, dx, b, a, L, us, ths, rfl, hj, hB, hS, h4, hlen, hT, qg, qb⟩ := h
    have hu := hu_of hr
    refine ⟨_, (pss_cons (ps_if (pt_not (pt_val (pe_callB call_isi (by rfl) B.isinstance (by decide +kernel) (pa_cons (pv 1) (pa_cons (pe_glob (v := .ref CBook) (by rfl) c_Book rfl) pa_nil)))))
      (pss_one ps_never)
      pss_nil)
    (pss_cons (ps_if (PW.pt (pw_or (pt_not (pt_val (pe_cal G.is_row (hr.mono (by decide)) pass0 (pa_cons (pv 2) pa_nil)))) (pw_or1 (pt_cmpR op_gt (pe_callB call_len_seq (by rfl) B.len (by decide +kernel) (pa_cons (pv 2) pa_nil)) (pe_glob (v := .int 400) (by rfl) g_MOST_ENTRIES ⟨_, rfl⟩) (nomark _)))))
      (pss_one ps_never)
      pss_nil)
    (pss_cons (ps_asg (pe_cal G.walked (hr.mono (by decide)) pass0 (pa_cons (pv 1) (pa_cons (pv 2) pa_nil))) (pg_tup (by rfl) (pgs_cons (pg_name (i := 3) sc_Journal_init.nd rfl (Or.inl rfl)) (pgs_cons (pg_name (i := 4) sc_Journal_init.nd rfl (Or.inl rfl)) pgs_nil))))
    (pss_cons (ps_if (pt_cmpR op_notN (pv 3) pe_non (nomark _))
      (pss_one (L2H.ps_raiseBN rfl TE par_at c_BadEntry (hr.mono (Nat.zero_le _)) (L2N.takes_of rfl rfl rfl rfl) (pa_cons (pv 3) pa_nil) (by rfl)))
      pss_nil)
    (pss_cons (ps_fld (pv 0) (pv 1) rfl)
    (pss_cons (ps_fld (pv 0) (pe_callTy call_tuple_of (by rfl) B.tuple (by decide +kernel) (pa_cons (pv 2) pa_nil)) rfl)
    (pss_one (ps_fld (pv 0) (pv 4) rfl)))))))), ?_⟩
    obtain ⟨bx, bd, L', b1, b2, b3⟩ := id hB
    refine ⟨_, rfl, _, _, _, _, true, rfl, ClsV.own _, bk _ _ _ _ b1, (by show PySem.W.kitOne K _ _ = _; unfold PySem.W.kitOne; rw [if_pos (by simp)]), _, rfl, iteF ?_⟩
    refine ⟨_, rfl, a, us, rfl, hS, fun H1 s1 => ⟨_, rfl, iteF ?_⟩⟩
    have hS1 : SqL K H1 a us ∨ SqT K H1 a us := by
      rcases hS with h | h
      · exact .inl (SqL.of (s1 _ _ h))
      · exact .inr (seqS h s1)
    refine ⟨_, rfl, a, us, rfl, hS1, _, _, rfl, rfl, _, rfl, ?_⟩
    rw [decide_eq_false (show ¬ (400 : Int) < (us.length : Int) by omega)]
    refine iteF ⟨_, rfl, _, rfl, b, a, L, us, ths, rfl, hB.same s1, hS1, by omega, hlen, fun i v o x y => (hT i v o x y).same s1, fun t kd H2 hkn s2 ht hk => ?_⟩
    have s12 := s1.trans s2
    have hkd0 : H kd = none := by
      cases e : H kd with
      | none => rfl
      | some o => rw [s1 _ _ e] at hkn; cases hkn
    refine ⟨t, _, rfl, SqT.of ht, rfl, _, _, rfl, _, _, rfl, rfl, ?_⟩
    have hj2 : H2 j = some (.ins CJ dx []) := s12 _ _ hj
    cases hw : (wk L ths 0 (fun _ => none) none).1 with
    | some i =>
      refine ⟨_, rfl, rfl, _, rfl, ?_⟩
      show if (!decide (atV (some i) = V.non)) = true then _ else _
      exact iteT ⟨_, rfl, _, rfl, fun d hd => qb i d _ hw (s12.trans (sameAt (Same.refl H2) hd)) upd_same⟩
    | none =>
      refine ⟨_, rfl, rfl, _, rfl, ?_⟩
      show if (!decide (atV none = V.non)) = true then _ else _
      refine iteF ?_
      obtain ⟨xs, hxs⟩ := wk_some hw
      have hlx : us.length = xs.length := by rw [hlen, hxs, List.length_map]
      have hTx : ∀ (i : Nat) v x, us[i]? = some v → xs[i]? = some x → ThAt K H v (some x) := fun i v x a b => hT i v (some x) a (by rw [hxs, List.getElem?_map, b]; rfl)
      have fin : ∀ H', (∀ c o, H2 c = some o → c ≠ j → H' c = some o) → (∃ t, H' j = some (.ins CJ dx (jf b t kd)) ∧ SqT K H' t us) → Q .non H' := fun H' kk2 ⟨t, h1, h2⟩ => by
        have kk : ∀ c o, H c = some o → c ≠ j → H' c = some o := fun c o h n => kk2 c o (s12 _ _ h) n
        refine qg H' xs hxs hw ⟨dx, t, kd, h1, hB.chg hj kk, h2, hlx, fun i v x a b => thC (hTx i v x a b) hj kk, by rw [← hxs]; exact hw, by rw [← hxs]; exact knC hk kk2 ⟨_, _, _, hj2⟩⟩ ⟨dx, t, kd, h1, hkd0⟩ kk
      refine ⟨_, rfl, _, rfl, j, CJ, dx, [], rfl, hj2, T.cl, T.nB, (by show 0 < 1000; decide), ?_⟩
      generalize eA : upd H2 j (.ins CJ dx (putF "book" (.ref b) [])) = HA
      have hA : HA j = some (.ins CJ dx (putF "book" (.ref b) [])) := by rw [← eA]; exact upd_same
      have kA2 : ∀ c o, H2 c = some o → c ≠ j → HA c = some o := fun c o h n => by rw [← eA, upd_ne n]; exact h
      have kA : ∀ c o, H c = some o → c ≠ j → HA c = some o := fun c o h n => kA2 c o (s12 _ _ h) n
      clear eA
      rcases hS with hS | hS
      · have haj : a ≠ j := ne_of hS hj (by intro z; cases z)
        refine ⟨_, rfl, a, us, rfl, .inl ⟨SqL.of (kA _ _ hS haj), fun l hl => ?_⟩⟩
        have hlj : l ≠ j := fun z => by rw [z, hA] at hl; cases hl
        refine ⟨_, rfl, j, CJ, dx, _, rfl, (by rw [upd_ne hlj.symm]; exact hA), T.cl, T.nE, (by show 1 < 1000; decide), ?_⟩
        refine ⟨_, rfl, _, rfl, j, CJ, dx, _, rfl, upd_same, T.cl, T.nK, (by show 2 < 1000; decide), ?_⟩
        refine fin _ (fun c o h n => ?_) ⟨l, upd_same, SqT.of (by rw [upd_ne hlj, upd_ne hlj, upd_same])⟩
        have hcl : c ≠ l := fun z => by rw [← z, kA2 c o h n] at hl; cases hl
        rw [upd_ne n, upd_ne n, upd_ne hcl]
        exact kA2 c o h n
      · refine ⟨_, rfl, a, us, rfl, .inr ⟨seqC hS hj kA, ?_⟩⟩
        refine ⟨_, rfl, j, CJ, dx, _, rfl, hA, T.cl, T.nE, (by show 1 < 1000; decide), ?_⟩
        refine ⟨_, rfl, _, rfl, j, CJ, dx, _, rfl, upd_same, T.cl, T.nK, (by show 2 < 1000; decide), ?_⟩
        have kF : ∀ c o, H2 c = some o → c ≠ j → (upd (upd HA j (.ins CJ dx (putF "entries" (.ref a) (putF "book" (.ref b) [])))) j (.ins CJ dx (putF "_known" (.ref kd) (putF "entries" (.ref a) (putF "book" (.ref b) []))))) c = some o := fun c o h n => by
          rw [upd_ne n, upd_ne n]
          exact kA2 c o h n
        exact fin _ kF ⟨a, upd_same, seqC hS hj fun c o h n => kF c o (s12 _ _ h) n⟩
abbrev s_Journal_then : Stmt := inClass (topS 35) 5
theorem sc_Journal_then : FnScope ["self", "entry"] ["self", "entry"] (defScope s_Journal_then) := ⟨rfl, rfl, rfl, by decide +kernel, rfl, by decide +kernel, by decide +kernel⟩
theorem ok_thenN {f CJ CB CE aT fE : Addr} {fd : FuncData} (F : Fun K "then" "Journal.then" s_Journal_then f fd) (B : Blt mg) (Cs : Cst mg) (T : Cj P K mg CJ CB) (TE : PySem.BadX.Txt P K mg "at" "at" CE fE) (c_BadEntry : mg "BadEntry" = some (.ref CE)) (G : K8N P w K mg base CB aT CJ CE) : FnOk P w K mg base (L2N.CX P w) 9 f fd ["self", "entry"] (spThenN K aT CJ CB CE) := by
  obtain ⟨t1, g_MOST_ENTRIES⟩ := Cs.k_MOST_ENTRIES
  refine okN F sc_Journal_then (fun vs H Q E h => ?_) (fun cdv A outer s H vs Q E hr h => ?_)
  · obtain ⟨j, b, L, us, xs, v, o, rfl, _⟩ := h
    rfl
  · obtain ⟨j, b, L, us, xs, v, o, rfl, hJ, hT, h4, qg, qb, qf⟩ := h
    refine ⟨_, (pss_cons (ps_if (pt_cmpR op_eq (pe_callB call_len_seq (by rfl) B.len (by decide +kernel) (pa_cons (pe_fld (pv 0) rfl) pa_nil)) (pe_glob (v := .int 400) (by rfl) g_MOST_ENTRIES ⟨_, rfl⟩) (nomark _))
      (pss_one (L2H.ps_raiseBN rfl TE par_at c_BadEntry (hr.mono (Nat.zero_le _)) (L2N.takes_of rfl rfl rfl rfl) (pa_cons (pe_glob (v := .int 400) (by rfl) g_MOST_ENTRIES ⟨_, rfl⟩) pa_nil) (by rfl)))
      pss_nil)
    (pss_one (ps_ret (pe_mak G.Journal (hr.mono (by decide)) (passEN (L2N.takes_of rfl rfl rfl rfl)) (pa_cons (pe_fld (pv 0) rfl) (pa_cons (pe_lst (StX.pa_star (pe_fld (pv 0) rfl) (pa_cons (pv 1) pa_nil))) pa_nil)))))), ?_⟩
    obtain ⟨dx, t, kd, h1, h2, h3, hl, h5, h6, h7⟩ := id hJ
    refine ⟨_, rfl, j, CJ, dx, _, _, rfl, h1, T.cl, T.nE, jf_e _ _ _, t, us, rfl, .inr h3, rfl, _, rfl, ?_⟩
    by_cases h5f : us.length = 400
    · rw [h5f, decide_eq_true (show (V.int ((400 : Nat) : Int) = V.int 400) from rfl)]
      exact iteT ⟨_, rfl, fun d hd => qf h5f d _ (sameAt (Same.refl H) hd) upd_same⟩
    have h4 : us.length < 400 := by omega
    rw [decide_eq_false (show ¬ (V.int (us.length : Int) = V.int 400) from fun z => by have := V.int.inj z; omega)]
    refine iteF ⟨_, rfl, j, CJ, dx, _, _, rfl, h1, T.cl, T.nB, jf_b _ _ _, _, rfl, j, CJ, dx, _, _, rfl, h1, T.cl, T.nE, jf_e _ _ _, t, us, rfl, .inl h3, _, rfl, (by rw [List.length_append]; exact Nat.le_of_lt (small1000 (by show us.length + 1 ≤ 1000; omega))), fun a ha => ?_⟩
    intro x dx' nx ndx nex
    have sA : Same H (upd H a (.lst (us ++ [v]))) := sameAt (Same.refl H) ha
    have sX : Same H (upd (upd (upd H a (.lst (us ++ [v]))) dx' (.own x)) x (.ins CJ dx' [])) := (sA.trans (sameAt (Same.refl _) ndx)).trans (sameAt (Same.refl _) (by rw [upd_ne (Ne.symm nex)]; exact nx))
    have haX : (upd (upd (upd H a (.lst (us ++ [v]))) dx' (.own x)) x (.ins CJ dx' [])) a = some (.lst (us ++ [v])) := by
      rw [upd_ne (fun z => by rw [← z, upd_same] at nx; cases nx), upd_ne (fun z => by rw [← z, upd_same] at ndx; cases ndx), upd_same]
    refine ⟨x, dx', b, a, L, us ++ [v], xs.map some ++ [o], rfl, upd_same, h2.same sX, .inl haX, by rw [List.length_append]; show us.length + 1 ≤ 400; omega, by rw [List.length_append, List.length_append, List.length_map, hl]; rfl, fun i v' o' hi ho => ?_, fun H' ys hys hw hJ' hkd kk => ⟨rfl, ?_⟩, fun i d H' hw s hx => ?_⟩
    · by_cases hil : i < us.length
      · rw [List.getElem?_append_left hil] at hi
        rw [List.getElem?_append_left (by rw [List.length_map, ← hl]; exact hil), List.getElem?_map] at ho
        cases e : xs[i]? with
        | none => rw [e] at ho; cases ho
        | some y =>
          rw [e] at ho
          cases ho
          exact (h5 i v' y hi e).same sX
      · have hi' : i = us.length := by
          have := (List.getElem?_eq_some_iff.mp hi).1
          rw [List.length_append] at this
          have : i < us.length + 1 := this
          omega
        subst hi'
        rw [List.getElem?_append_right (Nat.le_refl _), Nat.sub_self] at hi
        rw [hl, List.getElem?_append_right (by rw [List.length_map]; exact Nat.le_refl _), List.length_map, Nat.sub_self] at ho
        cases hi
        cases ho
        exact hT.same sX
    · obtain ⟨y, rfl⟩ : ∃ y, o = some y := by
        cases o with
        | none =>
          have hm : (none : Option Ent) ∈ ys.map some := by rw [← hys]; simp
          obtain ⟨y, _, e⟩ := List.mem_map.mp hm
          cases e
        | some y => exact ⟨y, rfl⟩
      have e : ys = xs ++ [y] := by
        have e2 : (xs ++ [y]).map some = ys.map some := by rw [← hys, List.map_append]; rfl
        exact (List.map_inj_right (fun a b h => Option.some.inj h)).mp e2.symm
      subst e
      obtain ⟨dx2, t2, kd2, hk1, hk2⟩ := hkd
      refine qg x H' y rfl (by rw [← hys]; exact hw) ?_ hJ' h4 (by
        cases e : H x with
        | none => rfl
        | some u => rw [sA _ _ e] at nx; cases nx) ⟨dx2, t2, kd2, hk1, (by
        cases e : H kd2 with
        | none => rfl
        | some u => rw [sX _ _ e] at hk2; cases hk2)⟩
      exact sA.trans (mk_same nx ndx kk)
    · exact qb i d H' hw (sX.trans s) hx h4
end
end Ash

set_option Elab.async false
set_option linter.all false
set_option maxRecDepth 100000
set_option maxHeartbeats 4000000
namespace Ash
open PySem PySem.Spec PyProof.Rows L2
/-! ### equality by identity, item by item -/
def SameV (x y : V) : Prop := (flatV x = true ∧ flatV y = true ∧ eqV x y = true) ∨ (x = y ∧ ∃ a, x = .ref a)
def SeqS (K : PySem.W.Frag) (H : Hp) (x y : V) : Prop := ∃ a b xs ys, x = .ref a ∧ y = .ref b ∧ SqT K H a xs ∧ SqT K H b ys ∧ xs.length = ys.length ∧ ∀ (i : Nat) u v, xs[i]? = some u → ys[i]? = some v → SameV u v
section
variable {X : Cx}
theorem same_at {A : Around} {s : Shared} {x y : V} {u v : Value} (h : SameV x y) (rx : RelV x u) (ry : RelV y v) : SeqAt.EqAt A s u v true := by
  rcases h with ⟨fx, fy, e⟩ | ⟨rfl, a, rfl⟩
  · have q := eqAt_V (A := A) (s := s) rx ry fx fy
    rw [e] at q
    exact q
  · cases (show u = Value.ref a from rx)
    cases (show v = Value.ref a from ry)
    exact SeqAt.EqAt.same _
theorem op_neS (hu : X.A.units < cLine) : OpR X (compareOp .NotEq) (fun x y H Q => SeqS X.K H x y ∧ Q (.bl false) H) := by
  intro pins s σ H x y v u Q I rx ry ⟨h, q⟩
  obtain ⟨a, b, xs, ys, rfl, rfl, ha, hb, hl, hi⟩ := h
  cases (show v = Value.ref a from rx)
  cases (show u = Value.ref b from ry)
  obtain ⟨i1, r1, t1, z1⟩ := I.tuple ha
  obtain ⟨i2, r2, t2, z2⟩ := I.tuple hb
  have l1 := r1.length
  have l2 := r2.length
  have e : (!((List.range (min i1.toArray.size i2.toArray.size)).all (fun _ => true) && i1.toArray.size == i2.toArray.size)) = false := by
    have : i1.toArray.size = i2.toArray.size := by simp; omega
    simp [this]
  have key := SeqAt.RcNeAt.tuples (A := X.A) (s := s) (e := fun _ => true) (show s.heap.IsTuple a i1.toArray from t1) (show s.heap.IsTuple b i2.toArray from t2) hu fun j h1 h2 => by
    have h1' : j < i1.length := by simpa using h1
    have h2' : j < i2.length := by simpa using h2
    have x1 : xs[j]? = some xs[j] := List.getElem?_eq_getElem (by omega)
    have y1 : ys[j]? = some ys[j] := List.getElem?_eq_getElem (by omega)
    obtain ⟨u1, e1, q1⟩ := r1.get x1
    obtain ⟨u2, e2, q2⟩ := r2.get y1
    have e1' : i1.toArray[j] = u1 := by
      rw [List.getElem?_eq_getElem h1'] at e1
      simpa using Option.some.inj e1
    have e2' : i2.toArray[j] = u2 := by
      rw [List.getElem?_eq_getElem h2'] at e2
      simpa using Option.some.inj e2
    rw [e1', e2']
    exact same_at (hi j _ _ x1 y1) q1 q2
  rw [e] at key
  exact key X.prog X.w X.xe _ ⟨.bl false, H, I, rfl, q⟩
end
/-! ### entries as data -/
def Ent.data : Ent → PyData
  | .row id s k m a r => .tuple [.str "row", .int id, .str s, .str k, .int m, .int a, .int r]
  | .fix id m a r => .tuple [.str "fix", .int id, .int m, .int a, .int r]
  | .gone id r => .tuple [.str "gone", .int id, .int r]
theorem ent_dp {K : PySem.W.Frag} {H : Hp} {e : Addr} {x : Ent} (h : EntAt H e x) : Dp K H (.ref e) x.data := by
  cases x with
  | row id s k m a r => exact .tup (SqT.of h) (.cons (.str _) (.cons (.int _) (.cons (.str _) (.cons (.str _) (.cons (.int _) (.cons (.int _) (.cons (.int _) .nil)))))))
  | fix id m a r => exact .tup (SqT.of h) (.cons (.str _) (.cons (.int _) (.cons (.int _) (.cons (.int _) (.cons (.int _) .nil)))))
  | gone id r => exact .tup (SqT.of h) (.cons (.str _) (.cons (.int _) (.cons (.int _) .nil)))
theorem ent_lay {x : Ent} (h : x.ok) : x.data.canLay0 = true ∧ x.data.depth ≤ 2 := by
  have key : ∀ ds : List PyData, ds.all flatD = true → (PyData.tuple ds).canLay0 = true ∧ (PyData.tuple ds).depth ≤ 2 := fun ds hd => by
    obtain ⟨h1, h2⟩ := flat_lay hd
    simp [PyData.canLay0, PyData.depth, h1]
    omega
  cases x with
  | row id s k m a r =>
    obtain ⟨h1, h2⟩ := h.2 _ _ _ _ _ _ rfl
    have hr : PyData.strOk "row" = true := by decide +kernel
    exact key _ (by simp [flatD, nm_ok h1, nm_ok h2, hr])
  | fix id m a r =>
    have hr : PyData.strOk "fix" = true := by decide +kernel
    exact key _ (by simp [flatD, hr])
  | gone id r =>
    have hr : PyData.strOk "gone" = true := by decide +kernel
    exact key _ (by simp [flatD, hr])
theorem ents_lay : ∀ {xs : List Ent}, (∀ x ∈ xs, x.ok) → PyData.canLayAll0 (xs.map Ent.data) = true ∧ PyData.depthAll (xs.map Ent.data) ≤ 2
  | [], _ => by simp [PyData.canLayAll0, PyData.depthAll]
  | x :: xs, h => by
    obtain ⟨h1, h2⟩ := ents_lay fun y hy => h y (List.mem_cons_of_mem _ hy)
    obtain ⟨h3, h4⟩ := ent_lay (h x List.mem_cons_self)
    rw [List.map_cons]
    simp only [PyData.canLayAll0, PyData.depthAll, h1, h3, Bool.and_self, true_and]
    exact Nat.max_le.mpr ⟨h4, h2⟩
/-- us are the entries xs -/
def Ents (H : Hp) (us : List V) (xs : List Ent) : Prop := us.length = xs.length ∧ ∀ (i : Nat) v x, us[i]? = some v → xs[i]? = some x → ∃ e, v = .ref e ∧ EntAt H e x ∧ x.ok
theorem Ents.same {H H' : Hp} {us : List V} {xs : List Ent} (h : Ents H us xs) (s : Same H H') : Ents H' us xs := ⟨h.1, fun i v x a b => by
  obtain ⟨e, h1, h2, h3⟩ := h.2 i v x a b
  exact ⟨e, h1, s _ _ h2, h3⟩⟩
theorem Ents.dp {K : PySem.W.Frag} {H : Hp} : ∀ {us : List V} {xs : List Ent}, Ents H us xs → DpAll K H us (xs.map Ent.data)
  | [], [], _ => .nil
  | [], _ :: _, h => by have := h.1; simp at this
  | _ :: _, [], h => by have := h.1; simp at this
  | v :: us, x :: xs, h => by
    obtain ⟨e, rfl, h2, _⟩ := h.2 0 v x rfl rfl
    exact .cons (ent_dp h2) (Ents.dp ⟨by have := h.1; simpa using this, fun i v x a b => h.2 (i + 1) v x a b⟩)
theorem Ents.ok {H : Hp} {us : List V} {xs : List Ent} (h : Ents H us xs) : ∀ x ∈ xs, x.ok := fun x hx => by
  obtain ⟨i, hi, e⟩ := List.getElem_of_mem hx
  have hu : i < us.length := by rw [h.1]; exact hi
  obtain ⟨_, _, _, h3⟩ := h.2 i us[i] x (List.getElem?_eq_getElem hu) (by rw [List.getElem?_eq_getElem hi, e])
  exact h3
theorem told_shaped {xs : List Ent} {w : Str} (hw : PyData.strOk w = true) (h : ∀ x ∈ xs, x.ok) : SeqAt.shaped (.tuple [.str w, .list (xs.map Ent.data)]) = true := by
  obtain ⟨h1, h2⟩ := ents_lay h
  unfold SeqAt.shaped
  simp [PyData.canLay0, PyData.canLayAll0, PyData.depth, PyData.depthAll, h1, hw]
  omega
theorem list_shaped {xs : List Ent} (h : ∀ x ∈ xs, x.ok) : SeqAt.shaped (.list (xs.map Ent.data)) = true := by
  obtain ⟨h1, h2⟩ := ents_lay h
  unfold SeqAt.shaped
  simp [PyData.canLay0, PyData.depth, h1]
  omega
end Ash

set_option Elab.async false
set_option linter.all false
set_option maxRecDepth 100000
set_option maxHeartbeats 4000000
namespace Ash
open PySem PySem.Spec PyProof.Rows L2
open C8 (pss_cut)
/-! ### the law's own draws -/
def spInt : Sp := fun vs H Q _ => ∃ (p s : Addr), vs = [.ref p] ∧ PoolAt H p s ∧ ∀ (n : Int) H', Pl H H' p s → Q (.int n) H'
def SV (H : Hp) : Option V → Option RowSt → Prop
  | none, none => True
  | some v, some .tb => v = .non
  | some v, some (.at_ s k m a) => ∃ t, v = .ref t ∧ H t = some (.tup [.str s, .str k, .int m, .int a])
  | _, _ => False
theorem SV.but {H H' : Hp} {v : Option V} {o : Option RowSt} (h : SV H v o) (s : ∀ t xs, H t = some (.tup xs) → H' t = some (.tup xs)) : SV H' v o := by
  cases v with
  | none => cases o <;> exact h
  | some v =>
    cases o with
    | none => exact h
    | some o =>
      cases o with
      | tb => exact h
      | at_ z k m a =>
        obtain ⟨t, e, h⟩ := h
        exact ⟨t, e, s _ _ h⟩
/-- the law's states: a dict from ids to None or what is known -/
def StAt (H : Hp) (d : Addr) (S : Kn) (n : Nat) : Prop := ∃ kvs : List (Key × V), H d = some (.dK kvs) ∧ kvs.length ≤ n ∧ (∀ kv ∈ kvs, ∃ id, kv.1 = Sum.inl id) ∧ ∀ id, SV H (valV kvs (Sum.inl id)) (S id)
theorem StAt.same {H H' : Hp} {d : Addr} {S : Kn} {n : Nat} (h : StAt H d S n) (s : Same H H') : StAt H' d S n := by
  obtain ⟨kvs, h1, h2, h3, h4⟩ := h
  exact ⟨kvs, s _ _ h1, h2, h3, fun id => (h4 id).but fun t xs e => s _ _ e⟩
theorem StAt.pl {H H' : Hp} {d p s : Addr} {S : Kn} {n : Nat} (h : StAt H d S n) (P0 : PoolAt H p s) (P : Pl H H' p s) : StAt H' d S n := by
  obtain ⟨kvs, h1, h2, h3, h4⟩ := h
  obtain ⟨ns, i, c, k, m, hp, _⟩ := P0
  exact ⟨kvs, P.keep h1 (ne_of h1 hp (by intro z; cases z)), h2, h3, fun id => (h4 id).but fun t xs e => P.keep e (ne_of e hp (by intro z; cases z))⟩
theorem Pl.dk {H H' : Hp} {p s d : Addr} {kvs : List (Key × V)} (P : Pl H H' p s) (P0 : PoolAt H p s) (h : H d = some (.dK kvs)) : H' d = some (.dK kvs) := by
  obtain ⟨ns, i, c, k, m, hp, _⟩ := P0
  exact P.keep h (ne_of h hp (by intro z; cases z))
theorem Pl.tp {H H' : Hp} {p s d : Addr} {xs : List V} (P : Pl H H' p s) (P0 : PoolAt H p s) (h : H d = some (.tup xs)) : H' d = some (.tup xs) := by
  obtain ⟨ns, i, c, k, m, hp, _⟩ := P0
  exact P.keep h (ne_of h hp (by intro z; cases z))
theorem strs_ne {ns : List Int} {r : Addr} {a b c d : Int} {ks : List Str} : (HO.lst (ks.map V.str)) ≠ .lst [.ref r, .int a, .int b, .int c, .int d] := fun z => by
  injection z with z
  cases ks with
  | nil => cases z
  | cons k ks => injection z with z1 _; cases z1
theorem Pl.sl {H H' : Hp} {p s d : Addr} {ks : List Str} (P : Pl H H' p s) (P0 : PoolAt H p s) (h : H d = some (.lst (ks.map V.str))) : H' d = some (.lst (ks.map V.str)) := by
  obtain ⟨ns, i, c, k, m, hp, _⟩ := P0
  exact P.keep h (ne_of h hp (strs_ne (ns := ns)))
theorem mem_val {kvs : List (Key × V)} {kv : Key × V} (h : kv ∈ kvs) : ∃ v, valV kvs kv.1 = some v := by
  have q : (kvs.any fun x => decide (x.1 = kv.1)) = true := List.any_eq_true.mpr ⟨kv, h, decide_eq_true rfl⟩
  rw [valV_any] at q
  exact Option.isSome_iff_exists.mp q
/-- what the entry is drawn from -/
structure Draw (H : Hp) (p s dl dk ds : Addr) (L : List (Str × Int)) (ks : List Str) (S : Kn) : Prop where
  pool : PoolAt H p s
  dl : H dl = some (.dK (LK L))
  LL : Lates L
  dk : H dk = some (.lst (ks.map V.str))
  k1 : 1 ≤ ks.length
  k2 : ks.length ≤ 30
  kn : ∀ z ∈ ks, IsNm z
  st : StAt H ds S 500
  ok : KnOk L S
  pos : ∀ id, S id ≠ none → 0 ≤ id
/-- a row of one of the keys -/
def KIn (ks : List Str) (x : Ent) : Prop := ∀ id s k m a r, x = .row id s k m a r → k ∈ ks
def spEntry : Sp := fun vs H Q _ => ∃ (p s dl dk ds : Addr) (L : List (Str × Int)) (ks : List Str) (S : Kn) (number arrival : Int), vs = [.ref p, .ref dl, .ref dk, .ref ds, .int number, .int arrival] ∧ Draw H p s dl dk ds L ks S ∧ 0 ≤ number ∧ S number = none ∧
  ∀ e x y H', EntAt H' e x → x.ok → KIn ks x → x.arr = arrival → behind L x (S x.id) = some y → (x.id = number ∨ S x.id ≠ none) → Pl H H' p s → Q (.ref e) H'
section
variable {P : Program} {w : World} {K : PySem.W.Frag} {mg : Str → Option Value} {base : Heap}
abbrev s_l_amount : Stmt := topS 45
theorem sc_l_amount : FnScope ["_law_pool_here"] ["_law_pool_here"] (defScope s_l_amount) := ⟨rfl, rfl, rfl, by decide +kernel, rfl, by decide +kernel, by decide +kernel⟩
theorem ok_amount {f : Addr} {fd : FuncData} (F : Fun K "_law_amount" "_law_amount" s_l_amount f fd) (B : Blt mg) (G : G2 P w K mg base) : FnOk P w K mg base CX0 2 f fd ["_law_pool_here"] spInt := by
  refine F.ok sc_l_amount (fun vs H Q E h => ?_) (fun cdv A outer s H vs Q E hr h => ?_)
  · obtain ⟨p, s, rfl, _⟩ := h
    rfl
  · obtain ⟨p, s0, rfl, hP, q⟩ := h
    refine ⟨_, (pss_cons (ps_if (pt_cmpR op_eq (pe_cal G.law_draw (hr.mono (by decide)) pass0 (pa_cons (pv 0) (pa_cons pe_int pa_nil))) pe_int (nomark _))
      (pss_one (ps_ret (pe_op op_sub (pe_cal G.law_draw (hr.mono (by decide)) pass0 (pa_cons (pv 0) (pa_cons (pe_op op_mul pe_int (pe_op op_pow pe_int pe_int)) pa_nil))) (pe_op op_pow pe_int pe_int))))
      pss_nil)
    (pss_one (ps_ret (pe_op op_sub (pe_cal G.law_draw (hr.mono (by decide)) pass0 (pa_cons (pv 0) (pa_cons pe_int pa_nil))) pe_int)))), ?_⟩
    refine ⟨_, rfl, p, s0, 6, rfl, hP, (by decide), (by decide), fun x H1 x0 x6 P1 => ⟨rfl, _, rfl, ?_⟩⟩
    refine ite2 (fun c => ?_) (fun c => ?_)
    · exact ⟨_, rfl, _, _, rfl, rfl, ⟨by decide, by decide, by decide⟩, _, _, rfl, rfl, .inl ⟨by decide, by decide⟩, p, s0, _, rfl, P1.now, (by decide), (by decide), fun y H2 y0 y6 P2 => ⟨_, _, rfl, rfl, ⟨by decide, by decide, by decide⟩, _, _, rfl, rfl, q _ H2 (P1.trans P2)⟩⟩
    · exact ⟨_, rfl, p, s0, 21, rfl, P1.now, (by decide), (by decide), fun y H2 y0 y6 P2 => ⟨_, _, rfl, rfl, q _ H2 (P1.trans P2)⟩⟩
abbrev s_l_begin : Stmt := topS 49
theorem sc_l_begin : FnScope ["_law_pool_here"] ["_law_pool_here"] (defScope s_l_begin) := ⟨rfl, rfl, rfl, by decide +kernel, rfl, by decide +kernel, by decide +kernel⟩
theorem ok_begin {f : Addr} {fd : FuncData} (F : Fun K "_law_begin" "_law_begin" s_l_begin f fd) (B : Blt mg) (G : G2 P w K mg base) : FnOk P w K mg base CX0 2 f fd ["_law_pool_here"] spInt := by
  refine F.ok sc_l_begin (fun vs H Q E h => ?_) (fun cdv A outer s H vs Q E hr h => ?_)
  · obtain ⟨p, s, rfl, _⟩ := h
    rfl
  · obtain ⟨p, s0, rfl, hP, q⟩ := h
    refine ⟨_, (pss_cons (ps_if (pt_cmpR op_eq (pe_cal G.law_draw (hr.mono (by decide)) pass0 (pa_cons (pv 0) (pa_cons pe_int pa_nil))) pe_int (nomark _))
      (pss_one (ps_ret (pe_op op_sub (pe_cal G.law_draw (hr.mono (by decide)) pass0 (pa_cons (pv 0) (pa_cons (pe_op op_mul pe_int (pe_op op_pow pe_int pe_int)) pa_nil))) (pe_op op_pow pe_int pe_int))))
      pss_nil)
    (pss_one (ps_ret (pe_op op_sub (pe_cal G.law_draw (hr.mono (by decide)) pass0 (pa_cons (pv 0) (pa_cons pe_int pa_nil))) pe_int)))), ?_⟩
    refine ⟨_, rfl, p, s0, 3, rfl, hP, (by decide), (by decide), fun x H1 x0 x6 P1 => ⟨rfl, _, rfl, ?_⟩⟩
    refine ite2 (fun c => ?_) (fun c => ?_)
    · exact ⟨_, rfl, _, _, rfl, rfl, ⟨by decide, by decide, by decide⟩, _, _, rfl, rfl, .inl ⟨by decide, by decide⟩, p, s0, _, rfl, P1.now, (by decide), (by decide), fun y H2 y0 y6 P2 => ⟨_, _, rfl, rfl, ⟨by decide, by decide, by decide⟩, _, _, rfl, rfl, q _ H2 (P1.trans P2)⟩⟩
    · exact ⟨_, rfl, p, s0, 21, rfl, P1.now, (by decide), (by decide), fun y H2 y0 y6 P2 => ⟨_, _, rfl, rfl, q _ H2 (P1.trans P2)⟩⟩
structure G3 (P : Program) (w : World) (K : PySem.W.Frag) (mg : Str → Option Value) (base : Heap) : Prop extends G2 P w K mg base where
  law_lates : Cal P w K mg base CX0 "_law_lates" 3 ["_law_pool_here"] spLates
  law_amount : Cal P w K mg base CX0 "_law_amount" 2 ["_law_pool_here"] spInt
abbrev s_l_entry : Stmt := topS 46
theorem sc_l_entry : FnScope ["_law_pool_here", "_law_lates_here", "_law_keys", "_law_states_here", "_law_number", "_law_arrival", "_law_open_ones", "_law_other", "_law_kind", "_law_stream", "_law_moment"] ["_law_pool_here", "_law_lates_here", "_law_keys", "_law_states_here", "_law_number", "_law_arrival"] (defScope s_l_entry) := ⟨rfl, rfl, rfl, by decide +kernel, rfl, by decide +kernel, by decide +kernel⟩
theorem ok_entry {f : Addr} {fd : FuncData} (F : Fun K "_law_entry" "_law_entry" s_l_entry f fd) (B : Blt mg) (G : G3 P w K mg base) : FnOk P w K mg base CX0 3 f fd ["_law_pool_here", "_law_lates_here", "_law_keys", "_law_states_here", "_law_number", "_law_arrival"] spEntry := by
  refine F.ok sc_l_entry (fun vs H Q E h => ?_) (fun cdv A outer s H vs Q E hr h => ?_)
  · obtain ⟨p, s, dl, dk, ds, L, ks, S, number, arrival, rfl, _⟩ := h
    rfl
  · obtain ⟨p, s0, dl, dk, ds, L, ks, S, number, arrival, rfl, D, hn, hSn, q⟩ := h
    have hu := hu_of hr
    refine ⟨_, (pss_cons (ps_set (i := 6) sc_l_entry.nd rfl (Or.inl rfl) (pe_lst pa_nil))
    (pss_cut (ps_for PassesOwn.never rfl (pi_list (pe_callTy (call_listD (by rfl)) (by rfl) B.list (by decide +kernel) (pa_cons (pv 3) pa_nil))) (pg_name (i := 7) sc_l_entry.nd rfl (Or.inl rfl))
      (pss_one (ps_if (PW.pt (pw_and (pt_cmpR op_notN (pe_dget hu (pv 3) (pv 7) (fun _ _ => rfl)) pe_non (nomark _)) (pw_and1 (pt_cmpR op_le (pv 5) (pe_op op_add (pe_ix ix_tup (pe_dget hu (pv 3) (pv 7) (fun _ _ => rfl)) pe_int (fun _ _ => rfl)) (pe_dget hu (pv 1) (pe_ix ix_tup (pe_dget hu (pv 3) (pv 7) (fun _ _ => rfl)) pe_int (fun _ _ => rfl)) (fun _ _ => rfl))) (nomark _)))))
        (pss_one (ps_expr (pe_bm PySem.F.plainAttrs_list PySem.F.slot_list_append PySem.F.type_list_append mt_append (pv 6) (pa_cons (pv 7) pa_nil))))
        pss_nil)))
    (pss_cons (ps_set (i := 8) sc_l_entry.nd rfl (Or.inl rfl) (pe_cal G.law_draw (hr.mono (by decide)) pass0 (pa_cons (pv 0) (pa_cons pe_int pa_nil))))
    (pss_cons (ps_if (PW.pt (pw_or (pt_cmpR op_lt (pv 8) pe_int (nomark _)) (pw_or1 (pt_cmpR op_eq (pe_callB call_len_seq (by rfl) B.len (by decide +kernel) (pa_cons (pv 6) pa_nil)) pe_int (nomark _)))))
      (pss_cons (ps_set (i := 9) sc_l_entry.nd rfl (Or.inl rfl) (pe_ix ix_list (pe_callTy (call_listD (by rfl)) (by rfl) B.list (by decide +kernel) (pa_cons (pv 1) pa_nil)) (pe_cal G.law_draw (hr.mono (by decide)) pass0 (pa_cons (pv 0) (pa_cons (pe_callB call_lenD (by rfl) B.len (by decide +kernel) (pa_cons (pv 1) pa_nil)) pa_nil))) (fun _ _ => rfl)))
      (pss_cons (ps_set (i := 10) sc_l_entry.nd rfl (Or.inl rfl) (pe_op op_sub (pv 5) (pe_cal G.law_draw (hr.mono (by decide)) pass0 (pa_cons (pv 0) (pa_cons (pe_op op_add (pe_dget hu (pv 1) (pv 9) (fun _ _ => rfl)) pe_int) pa_nil)))))
      (pss_one (ps_ret (pe_tup (pa_cons pe_str (pa_cons (pv 4) (pa_cons (pv 9) (pa_cons (pe_ix ix_list (pv 2) (pe_cal G.law_draw (hr.mono (by decide)) pass0 (pa_cons (pv 0) (pa_cons (pe_callB call_len_seq (by rfl) B.len (by decide +kernel) (pa_cons (pv 2) pa_nil)) pa_nil))) (fun _ _ => rfl)) (pa_cons (pv 10) (pa_cons (pe_cal G.law_amount (hr.mono (by decide)) pass0 (pa_cons (pv 0) pa_nil)) (pa_cons (pv 5) pa_nil))))))))))))
      pss_nil)
    (pss_cons (ps_set (i := 7) sc_l_entry.nd rfl (Or.inl rfl) (pe_ix ix_list (pv 6) (pe_cal G.law_draw (hr.mono (by decide)) pass0 (pa_cons (pv 0) (pa_cons (pe_callB call_len_seq (by rfl) B.len (by decide +kernel) (pa_cons (pv 6) pa_nil)) pa_nil))) (fun _ _ => rfl)))
    (pss_cons (ps_if (pt_cmpR op_eq (pv 8) pe_int (nomark _))
      (pss_cons (ps_set (i := 10) sc_l_entry.nd rfl (Or.inl rfl) (pe_op op_sub (pv 5) (pe_cal G.law_draw (hr.mono (by decide)) pass0 (pa_cons (pv 0) (pa_cons (pe_op op_add (pe_dget hu (pv 1) (pe_ix ix_tup (pe_dget hu (pv 3) (pv 7) (fun _ _ => rfl)) pe_int (fun _ _ => rfl)) (fun _ _ => rfl)) pe_int) pa_nil)))))
      (pss_one (ps_ret (pe_tup (pa_cons pe_str (pa_cons (pv 7) (pa_cons (pv 10) (pa_cons (pe_cal G.law_amount (hr.mono (by decide)) pass0 (pa_cons (pv 0) pa_nil)) (pa_cons (pv 5) pa_nil)))))))))
      pss_nil)
    (pss_one (ps_ret (pe_tup (pa_cons pe_str (pa_cons (pv 7) (pa_cons (pv 5) pa_nil)))))))))))), ?_⟩
    refine ⟨(by show 0 ≤ sizeLine; decide), fun q0 hq0 => ?_⟩
    obtain ⟨kvs, hst, hst1, hst2, hst3⟩ := D.st
    have s0' := sameAt (Same.refl H) hq0 (o := .lst [])
    -- open_ones
    refine ⟨fun σ H1 => (∃ a b c d, ∃ ids : List Int, σ = [some (.ref p), some (.ref dl), some (.ref dk), some (.ref ds), some (.int number), some (.int arrival), some (.ref q0), a, b, c, d] ∧ H1 q0 = some (.lst (ids.map V.int)) ∧ ids.length ≤ 500 ∧
      ∀ id ∈ ids, ∃ z k m a l, S id = some (.at_ z k m a) ∧ L.lookup z = some l ∧ arrival ≤ m + l) ∧ Same H H1, ?_, ?_⟩
    · refine ⟨_, rfl, ds, kvs, rfl, .of (s0' _ _ hst), fun l hl => ⟨l, rfl, ⟨_, SqL.of upd_same⟩, ?_⟩⟩
      have e1 : kvs.map (fun kv => kV kv.1) = kvs.map (fun kv => kV kv.1) := rfl
      have s1 : Same H (upd (upd H q0 (.lst [])) l (.lst (kvs.map fun kv => kV kv.1))) := s0'.trans (sameAt (Same.refl _) hl)
      have hql : q0 ≠ l := fun z => by rw [← z, upd_same] at hl; cases hl
      refine for_list (K := K) (a := l) (xs := kvs.map fun kv => kV kv.1) (fun i σ H1 => (∃ a b c d, ∃ ids : List Int, σ = [some (.ref p), some (.ref dl), some (.ref dk), some (.ref ds), some (.int number), some (.int arrival), some (.ref q0), a, b, c, d] ∧ H1 q0 = some (.lst (ids.map V.int)) ∧ ids.length ≤ i ∧
        ∀ id ∈ ids, ∃ z k m a l, S id = some (.at_ z k m a) ∧ L.lookup z = some l ∧ arrival ≤ m + l) ∧ H1 l = some (.lst (kvs.map fun kv => kV kv.1)) ∧ Same H H1) ?_ (fun i σ H1 _ hv => SqL.of hv.2.1) ?_ ?_
      · exact ⟨⟨_, _, _, _, [], rfl, by rw [upd_ne hql]; exact upd_same, Nat.le_refl _, fun _ h => nomatch h⟩, upd_same, s1⟩
      · rintro i x σ H1 hi ⟨⟨a, b, c, d, ids, rfl, hq1, hlen, hids⟩, hl1, s2⟩
        obtain ⟨kv, hkv, rfl⟩ : ∃ kv, kvs[i]? = some kv ∧ x = kV kv.1 := by
          rw [List.getElem?_map] at hi
          cases e : kvs[i]? with
          | none => rw [e] at hi; cases hi
          | some z => rw [e] at hi; exact ⟨z, rfl, (Option.some.inj hi).symm⟩
        have hil : i < kvs.length := (List.getElem?_eq_some_iff.mp hkv).1
        have hm := List.mem_of_getElem? hkv
        obtain ⟨id, hid⟩ := hst2 _ hm
        obtain ⟨v, hv⟩ := mem_val hm
        rw [hid] at hv ⊢
        have hs1 := s2 _ _ hst
        have hd1 := s2 _ _ D.dl
        have sv := (hst3 id).but (fun t xs e => s2 _ _ e)
        rw [hv] at sv
        have hg := DGet.k (k := Sum.inl id) hs1
        rw [hv] at hg
        cases eS : S id with
        | none => rw [eS] at sv; exact absurd sv (fun z => z)
        | some r =>
          rw [eS] at sv
          cases r with
          | tb =>
            obtain rfl : v = .non := sv
            refine ⟨_, rfl, _, rfl, ds, _, rfl, hg, rfl, _, rfl, iteF ?_⟩
            exact ⟨⟨_, _, _, _, ids, rfl, hq1, by omega, hids⟩, hl1, s2⟩
          | at_ z k m am =>
            obtain ⟨t, rfl, ht⟩ := sv
            obtain ⟨_, _, hz⟩ := D.ok _ _ _ _ _ eS
            obtain ⟨lt, hlt⟩ := Option.isSome_iff_exists.mp hz
            have hgl := DGet.k (k := Sum.inr z) hd1
            rw [LK_val, hlt] at hgl
            refine ⟨_, rfl, _, rfl, ds, _, rfl, hg, rfl, _, rfl, iteT ?_⟩
            refine ⟨_, rfl, _, rfl, _, rfl, ds, _, rfl, hg, _, _, _, _, rfl, rfl, SqT.of ht, rfl, _, rfl, _, rfl, _, rfl, ds, _, rfl, hg, _, _, _, _, rfl, rfl, SqT.of ht, rfl, dl, _, rfl, hgl, _, _, rfl, rfl, _, _, rfl, rfl, _, rfl, ?_⟩
            refine ite2 (fun c1 => ?_) (fun c1 => ?_)
            · have c1 : arrival ≤ m + lt := of_decide_eq_true c1
              refine ⟨_, rfl, .inl ⟨rfl, _, SqL.of hq1⟩, _, rfl, q0, _, _, rfl, rfl, hq1, (by rw [List.length_map]; exact small1000 (by omega)), ?_⟩
              refine ⟨⟨_, _, _, _, ids ++ [id], rfl, ?_, by rw [List.length_append]; show ids.length + 1 ≤ i + 1; omega, fun id' hid' => ?_⟩, ?_, ?_⟩
              · rw [upd_same, List.map_append]
                rfl
              · rcases List.mem_append.mp hid' with h | h
                · exact hids _ h
                · rw [List.mem_singleton.mp h]
                  exact ⟨z, k, m, am, lt, eS, hlt, c1⟩
              · rw [upd_ne (Ne.symm hql)]
                exact hl1
              · exact sameAt s2 hq0
            · exact ⟨⟨_, _, _, _, ids, rfl, hq1, by omega, hids⟩, hl1, s2⟩
      · rintro σ H1 ⟨⟨a, b, c, d, ids, rfl, hq1, hlen, hids⟩, hl1, s2⟩
        rw [List.length_map] at hlen
        exact ⟨⟨_, _, _, _, ids, rfl, hq1, by omega, hids⟩, s2⟩
    rintro σ H1 ⟨⟨a, b, c, d, ids, rfl, hq1, hlen, hids⟩, s1⟩
    have P1 := D.pool.same s1
    refine ⟨_, rfl, p, s0, 4, rfl, P1, (by decide), (by decide), fun kind H2 k0 k4 P2 => ?_⟩
    have PP2 : Pl H H2 p s0 := ⟨P2.now, D.pool.ne.1, D.pool.ne.2, fun b o hb hn => P2.keep (s1 _ _ hb) hn⟩
    have hqp : q0 ≠ p := fun z => D.pool.ne.1 (z ▸ hq0)
    have hq2 : H2 q0 = some (.lst (ids.map V.int)) := P2.keep hq1 hqp
    have hd2 : H2 dl = some (.dK (LK L)) := PP2.dk D.pool D.dl
    have hk2 : H2 dk = some (.lst (ks.map V.str)) := PP2.sl D.pool D.dk
    have l1 := D.LL.some_
    have l8 := D.LL.few
    refine ⟨_, rfl, _, _, rfl, rfl, _, rfl, ?_⟩
    refine ite2 (fun c1 => ?_) (fun c1 => ?_)
    · skip
      refine ⟨_, rfl, dl, _, rfl, .of hd2, fun l hl => ?_⟩
      have e1 : (LK L).map (fun kv => kV kv.1) = (L.map (·.1)).map V.str := by
        unfold LK
        rw [List.map_map, List.map_map]
        rfl
      rw [e1]
      have PP3 : Pl H (upd H2 l (.lst ((L.map (·.1)).map V.str))) p s0 := PP2.new hl
      have hlp : l ≠ p := fun z => P2.now.ne.1 (z ▸ hl)
      refine ⟨_, rfl, _, rfl, dl, _, rfl, PP3.dk D.pool D.dl, p, s0, _, rfl, PP3.now, (by rw [LK_len]; omega), (by rw [LK_len]; omega), fun g H4 g0 g1 P4 => ?_⟩
      rw [LK_len] at g1
      obtain ⟨g, rfl⟩ : ∃ n : Nat, g = (n : Int) := ⟨g.toNat, by omega⟩
      have hg : g < L.length := by omega
      have PP4 := PP3.trans P4
      have hm : L[g] ∈ L := List.getElem_mem hg
      have hlk : L.lookup L[g].1 = some L[g].2 := lookup_mem D.LL.nd hm
      have b0 := D.LL.lo _ hm
      have b1 := D.LL.hi _ hm
      refine ⟨_, _, _, V.str L[g].1, rfl, rfl, SqL.of (P4.keep upd_same hlp), atI_nat (by rw [List.getElem?_map, List.getElem?_map, List.getElem?_eq_getElem hg]; rfl), ?_⟩
      have hgl := DGet.k (k := Sum.inr L[g].1) (PP4.dk D.pool D.dl)
      rw [LK_val, hlk] at hgl
      refine ⟨_, rfl, _, rfl, _, rfl, _, rfl, dl, _, rfl, hgl, _, _, rfl, rfl, p, s0, _, rfl, PP4.now, (by omega), (by omega), fun dd H5 d0 d1 P5 => ⟨_, _, rfl, rfl, ?_⟩⟩
      have PP5 := PP4.trans P5
      have k1 := D.k1
      have k2 := D.k2
      refine ⟨_, rfl, _, rfl, _, rfl, _, rfl, _, rfl, dk, _, rfl, .inl (SqL.of (PP5.sl D.pool D.dk)), p, s0, _, rfl, PP5.now, (by rw [List.length_map]; omega), (by rw [List.length_map]; omega), fun gk H6 gk0 gk1 P6 => ?_⟩
      rw [List.length_map] at gk1
      obtain ⟨gk, rfl⟩ : ∃ n : Nat, gk = (n : Int) := ⟨gk.toNat, by omega⟩
      have hgk : gk < ks.length := by omega
      have PP6 := PP5.trans P6
      refine ⟨_, _, _, V.str ks[gk], rfl, rfl, SqL.of (PP6.sl D.pool D.dk), atI_nat (by rw [List.getElem?_map, List.getElem?_eq_getElem hgk]; rfl), _, rfl, _, rfl, p, s0, rfl, PP6.now, fun am H7 P7 => ⟨_, rfl, (by show 7 ≤ sizeLine; decide), fun e he => ?_⟩⟩
      refine q e (.row number L[g].1 ks[gk] (arrival - dd) am arrival) (.at_ L[g].1 ks[gk] (arrival - dd) am) _ upd_same ⟨hn, fun _ _ _ _ _ _ z => by
        cases z
        exact ⟨D.LL.nm _ hm, D.kn _ (List.getElem_mem hgk)⟩⟩ (fun _ _ _ _ _ _ z => by cases z; exact List.getElem_mem hgk) rfl ?_ (.inl rfl) ((PP6.trans P7).new he)
      show behind L _ (S number) = _
      rw [hSn]
      show (L.lookup L[g].1).bind _ = _
      rw [hlk, Option.bind_some, if_pos ⟨by omega, by omega⟩]
    · refine ⟨_, rfl, q0, _, rfl, .inl (SqL.of hq2), rfl, _, rfl, ?_⟩
      refine ite2 (fun c2 => ?_) (fun c2 => ?_)
      · skip
        refine ⟨_, rfl, dl, _, rfl, .of hd2, fun l hl => ?_⟩
        have e1 : (LK L).map (fun kv => kV kv.1) = (L.map (·.1)).map V.str := by
          unfold LK
          rw [List.map_map, List.map_map]
          rfl
        rw [e1]
        have PP3 : Pl H (upd H2 l (.lst ((L.map (·.1)).map V.str))) p s0 := PP2.new hl
        have hlp : l ≠ p := fun z => P2.now.ne.1 (z ▸ hl)
        refine ⟨_, rfl, _, rfl, dl, _, rfl, PP3.dk D.pool D.dl, p, s0, _, rfl, PP3.now, (by rw [LK_len]; omega), (by rw [LK_len]; omega), fun g H4 g0 g1 P4 => ?_⟩
        rw [LK_len] at g1
        obtain ⟨g, rfl⟩ : ∃ n : Nat, g = (n : Int) := ⟨g.toNat, by omega⟩
        have hg : g < L.length := by omega
        have PP4 := PP3.trans P4
        have hm : L[g] ∈ L := List.getElem_mem hg
        have hlk : L.lookup L[g].1 = some L[g].2 := lookup_mem D.LL.nd hm
        have b0 := D.LL.lo _ hm
        have b1 := D.LL.hi _ hm
        refine ⟨_, _, _, V.str L[g].1, rfl, rfl, SqL.of (P4.keep upd_same hlp), atI_nat (by rw [List.getElem?_map, List.getElem?_map, List.getElem?_eq_getElem hg]; rfl), ?_⟩
        have hgl := DGet.k (k := Sum.inr L[g].1) (PP4.dk D.pool D.dl)
        rw [LK_val, hlk] at hgl
        refine ⟨_, rfl, _, rfl, _, rfl, _, rfl, dl, _, rfl, hgl, _, _, rfl, rfl, p, s0, _, rfl, PP4.now, (by omega), (by omega), fun dd H5 d0 d1 P5 => ⟨_, _, rfl, rfl, ?_⟩⟩
        have PP5 := PP4.trans P5
        have k1 := D.k1
        have k2 := D.k2
        refine ⟨_, rfl, _, rfl, _, rfl, _, rfl, _, rfl, dk, _, rfl, .inl (SqL.of (PP5.sl D.pool D.dk)), p, s0, _, rfl, PP5.now, (by rw [List.length_map]; omega), (by rw [List.length_map]; omega), fun gk H6 gk0 gk1 P6 => ?_⟩
        rw [List.length_map] at gk1
        obtain ⟨gk, rfl⟩ : ∃ n : Nat, gk = (n : Int) := ⟨gk.toNat, by omega⟩
        have hgk : gk < ks.length := by omega
        have PP6 := PP5.trans P6
        refine ⟨_, _, _, V.str ks[gk], rfl, rfl, SqL.of (PP6.sl D.pool D.dk), atI_nat (by rw [List.getElem?_map, List.getElem?_eq_getElem hgk]; rfl), _, rfl, _, rfl, p, s0, rfl, PP6.now, fun am H7 P7 => ⟨_, rfl, (by show 7 ≤ sizeLine; decide), fun e he => ?_⟩⟩
        refine q e (.row number L[g].1 ks[gk] (arrival - dd) am arrival) (.at_ L[g].1 ks[gk] (arrival - dd) am) _ upd_same ⟨hn, fun _ _ _ _ _ _ z => by
          cases z
          exact ⟨D.LL.nm _ hm, D.kn _ (List.getElem_mem hgk)⟩⟩ (fun _ _ _ _ _ _ z => by cases z; exact List.getElem_mem hgk) rfl ?_ (.inl rfl) ((PP6.trans P7).new he)
        show behind L _ (S number) = _
        rw [hSn]
        show (L.lookup L[g].1).bind _ = _
        rw [hlk, Option.bind_some, if_pos ⟨by omega, by omega⟩]
      · have hne : 0 < ids.length := by
          refine Nat.pos_of_ne_zero fun z => c2 (decide_eq_true ?_)
          rw [List.length_map, z]
          rfl
        refine ⟨_, rfl, _, rfl, _, rfl, q0, _, rfl, .inl (SqL.of hq2), p, s0, _, rfl, PP2.now, (by rw [List.length_map]; omega), (by rw [List.length_map]; omega), fun g H3 g0 g1 P3 => ?_⟩
        rw [List.length_map] at g1
        obtain ⟨g, rfl⟩ : ∃ n : Nat, g = (n : Int) := ⟨g.toNat, by omega⟩
        have hg : g < ids.length := by omega
        have PP3 := PP2.trans P3
        obtain ⟨z, k, m, a0, lt, eS, hlt, hend⟩ := hids _ (List.getElem_mem hg)
        obtain ⟨hzn, hkn, _⟩ := D.ok _ _ _ _ _ eS
        have hpos : 0 ≤ ids[g] := D.pos _ (by rw [eS]; exact fun z => nomatch z)
        have hlo : 0 ≤ lt ∧ lt ≤ 1000000 := by
          have hzm : z ∈ L.map (·.1) := by
            by_cases hz : z ∈ L.map (·.1)
            · exact hz
            · rw [lookup_none hz] at hlt
              cases hlt
          obtain ⟨x, hx, rfl⟩ := List.mem_map.mp hzm
          rw [lookup_mem D.LL.nd hx] at hlt
          cases hlt
          exact ⟨D.LL.lo _ hx, D.LL.hi _ hx⟩
        have sv := (hst3 ids[g]).but (fun t xs e => PP3.tp D.pool e)
        rw [eS] at sv
        obtain ⟨v, hv⟩ : ∃ v, valV kvs (Sum.inl ids[g]) = some v := by
          cases e : valV kvs (Sum.inl ids[g] : Key) with
          | none => rw [e] at sv; exact absurd sv (fun z => z)
          | some v => exact ⟨v, rfl⟩
        rw [hv] at sv
        obtain ⟨t, rfl, ht⟩ := sv
        have hgs := DGet.k (k := Sum.inl ids[g]) (PP3.dk D.pool hst)
        rw [hv] at hgs
        have hgl := DGet.k (k := Sum.inr z) (PP3.dk D.pool D.dl)
        rw [LK_val, hlt] at hgl
        refine ⟨_, _, _, V.int ids[g], rfl, rfl, SqL.of (P3.keep hq2 hqp), atI_nat (by rw [List.getElem?_map, List.getElem?_eq_getElem hg]; rfl), _, rfl, rfl, _, rfl, ?_⟩
        refine ite2 (fun c3 => ?_) (fun c3 => ?_)
        · refine ⟨_, rfl, _, rfl, _, rfl, _, rfl, _, rfl, ds, _, rfl, hgs, _, _, _, _, rfl, rfl, SqT.of ht, rfl, dl, _, rfl, hgl, _, _, rfl, rfl, p, s0, _, rfl, PP3.now, (by omega), (by omega), fun dd H4 d0 d1 P4 => ⟨_, _, rfl, rfl, ?_⟩⟩
          have PP4 := PP3.trans P4
          refine ⟨_, rfl, _, rfl, _, rfl, p, s0, rfl, PP4.now, fun am H5 P5 => ⟨_, rfl, (by show 5 ≤ sizeLine; decide), fun e he => ?_⟩⟩
          refine q e (.fix ids[g] (arrival - dd) am arrival) (.at_ z k (arrival - dd) am) _ upd_same ⟨hpos, fun _ _ _ _ _ _ z => by cases z⟩ (fun _ _ _ _ _ _ z => by cases z) rfl ?_ (.inr (by show S ids[g] ≠ none; rw [eS]; exact fun z => nomatch z)) ((PP4.trans P5).new he)
          show behind L _ (S ids[g]) = _
          rw [eS]
          show (L.lookup z).bind _ = _
          rw [hlt, Option.bind_some, if_pos ⟨hend, by omega, by omega⟩]
        · refine ⟨_, rfl, _, rfl, (by show 3 ≤ sizeLine; decide), fun e he => ?_⟩
          refine q e (.gone ids[g] arrival) .tb _ upd_same ⟨hpos, fun _ _ _ _ _ _ z => by cases z⟩ (fun _ _ _ _ _ _ z => by cases z) rfl ?_ (.inr (by show S ids[g] ≠ none; rw [eS]; exact fun z => nomatch z)) (PP3.new he)
          show behind L _ (S ids[g]) = _
          rw [eS]
          show (L.lookup z).bind _ = _
          rw [hlt, Option.bind_some, if_pos hend]
end
end Ash

set_option Elab.async false
set_option linter.all false
set_option maxRecDepth 100000
set_option maxHeartbeats 4000000
namespace Ash
open PySem PySem.Spec PyProof.Rows L2
open C8 (pss_cut)
/-! ### states that change -/
def TK (H H' : Hp) : Prop := ∀ t xs, H t = some (.tup xs) → H' t = some (.tup xs)
theorem Ents.tk {H H' : Hp} {us : List V} {xs : List Ent} (h : Ents H us xs) (s : TK H H') : Ents H' us xs := ⟨h.1, fun i v x a b => by
  obtain ⟨e, h1, h2, h3⟩ := h.2 i v x a b
  exact ⟨e, h1, s _ _ h2, h3⟩⟩
theorem Pl.tk {H H' : Hp} {p s : Addr} (P : Pl H H' p s) (P0 : PoolAt H p s) : TK H H' := fun t xs h => P.tp P0 h
theorem tk_same {H H' : Hp} (s : Same H H') : TK H H' := fun t xs h => s _ _ h
theorem TK.trans {H H1 H2 : Hp} (a : TK H H1) (b : TK H1 H2) : TK H H2 := fun t xs h => b t xs (a t xs h)
theorem tk_off {H : Hp} {q : Addr} {o u : HO} (h : H q = some u) (hu : ∀ xs, u ≠ .tup xs) : TK H (upd H q o) := fun t xs e => by
  rw [upd_ne (ne_of e h (fun z => hu xs z.symm))]
  exact e
theorem mem_putK {kvs : List (Key × V)} {id : Int} {v : V} (h : ∀ kv ∈ kvs, ∃ id, kv.1 = Sum.inl id) : ∀ kv ∈ putK kvs (Sum.inl id : Key) v, ∃ id, kv.1 = Sum.inl id := by
  intro kv hkv
  unfold putK at hkv
  split at hkv
  · obtain ⟨x, hx, rfl⟩ := List.mem_map.mp hkv
    obtain ⟨j, hj⟩ := h x hx
    split
    · exact ⟨j, hj⟩
    · exact ⟨j, hj⟩
  · rcases List.mem_append.mp hkv with hk | hk
    · exact h kv hk
    · rw [List.mem_singleton.mp hk]
      exact ⟨id, rfl⟩
def setK (S : Kn) (id : Int) (y : RowSt) : Kn := fun j => if j = id then some y else S j
theorem StAt.put {H H1 : Hp} {ds : Addr} {S : Kn} {n : Nat} {kvs : List (Key × V)} {id : Int} {v : V} {y : RowSt} (h1 : H ds = some (.dK kvs)) (h2 : kvs.length ≤ n) (h3 : ∀ kv ∈ kvs, ∃ id, kv.1 = Sum.inl id) (h4 : ∀ id, SV H (valV kvs (Sum.inl id)) (S id))
    (s : Same H H1) (hv : SV H1 (some v) (some y)) : StAt (upd H1 ds (.dK (putK kvs (Sum.inl id) v))) ds (setK S id y) (n + 1) := by
  refine ⟨_, upd_same, Nat.le_trans (pk_len _ _ _) (by omega), mem_putK h3, fun j => ?_⟩
  have tk : TK H1 (upd H1 ds (.dK (putK kvs (Sum.inl id) v))) := tk_off (s _ _ h1) (fun xs z => by cases z)
  rw [valV_put]
  show SV _ _ (if j = id then some y else S j)
  by_cases e : j = id
  · rw [if_pos (by rw [e]), if_pos e]
    exact hv.but tk
  · rw [if_neg (fun q => e (Sum.inl.inj q)), if_neg e]
    exact ((h4 j).but fun t xs z => s _ _ z).but tk
theorem behind_row {L : List (Str × Int)} {id : Int} {s k : Str} {m a r : Int} {o : Option RowSt} {y : RowSt} (h : behind L (.row id s k m a r) o = some y) : y = .at_ s k m a := by
  cases o with
  | some o => cases h
  | none =>
    have h : (L.lookup s).bind _ = _ := h
    cases e : L.lookup s with
    | none => rw [e] at h; cases h
    | some l =>
      rw [e, Option.bind_some] at h
      split at h
      · exact (Option.some.inj h).symm
      · cases h
theorem behind_fix {L : List (Str × Int)} {id m a r : Int} {o : Option RowSt} {y : RowSt} (h : behind L (.fix id m a r) o = some y) : ∃ s k m0 a0, o = some (.at_ s k m0 a0) ∧ y = .at_ s k m a := by
  cases o with
  | none => cases h
  | some o =>
    cases o with
    | tb => cases h
    | at_ s k m0 a0 =>
      have h : (L.lookup s).bind _ = _ := h
      cases e : L.lookup s with
      | none => rw [e] at h; cases h
      | some l =>
        rw [e, Option.bind_some] at h
        split at h
        · exact ⟨s, k, m0, a0, rfl, (Option.some.inj h).symm⟩
        · cases h
theorem behind_gone {L : List (Str × Int)} {id r : Int} {o : Option RowSt} {y : RowSt} (h : behind L (.gone id r) o = some y) : y = .tb := by
  cases o with
  | none => cases h
  | some o =>
    cases o with
    | tb => cases h
    | at_ s k m0 a0 =>
      have h : (L.lookup s).bind _ = _ := h
      cases e : L.lookup s with
      | none => rw [e] at h; cases h
      | some l =>
        rw [e, Option.bind_some] at h
        split at h
        · exact (Option.some.inj h).symm
        · cases h
def spPut : Sp := fun vs H Q _ => ∃ (ds e : Addr) (L : List (Str × Int)) (S : Kn) (n : Nat) (x : Ent) (y : RowSt), vs = [.ref ds, .ref e] ∧ StAt H ds S n ∧ n ≤ 900 ∧ EntAt H e x ∧ behind L x (S x.id) = some y ∧
  ∀ H', StAt H' ds (setK S x.id y) (n + 1) → (∀ c o, H c = some o → c ≠ ds → H' c = some o) → Q .non H'
/-- the latest arrival -/
def lastA : List Ent → Option Int → Option Int
  | [], l => l
  | x :: r, _ => lastA r (some x.arr)
theorem lastA_snoc : ∀ (xs : List Ent) (x : Ent) (l : Option Int), lastA (xs ++ [x]) l = some x.arr
  | [], _, _ => rfl
  | _ :: r, x, _ => lastA_snoc r x _
theorem wk_app {L : List (Str × Int)} {S1 : Kn} (rest : List (Option Ent)) : ∀ {xs : List Ent} {i : Nat} {S : Kn} {l : Option Int}, wk L (xs.map some) i S l = (none, S1) → wk L (xs.map some ++ rest) i S l = wk L rest (i + xs.length) S1 (lastA xs l)
  | [], i, S, l, h => by
    have h : ((none : Option Nat), S) = (none, S1) := h
    cases h
    rfl
  | x :: r, i, S, l, h => by
    have h : wk L (some x :: r.map some) i S l = (none, S1) := h
    show wk L (some x :: (r.map some ++ rest)) i S l = _
    by_cases c : late? l x.arr = true
    · rw [wk_late c] at h
      cases h
    · have c0 : late? l x.arr = false := Bool.eq_false_iff.mpr c
      cases hb : behind L x (S x.id) with
      | none =>
        rw [wk_bad c0 hb] at h
        cases h
      | some z =>
        rw [wk_go c0 hb] at h ⊢
        rw [wk_app rest h]
        show wk L rest (i + 1 + r.length) S1 _ = wk L rest (i + (r.length + 1)) S1 _
        rw [show i + 1 + r.length = i + (r.length + 1) by omega]
        rfl
/-- what is left of the heap when the pool and the states have changed -/
structure Pd (H0 H : Hp) (p s ds : Addr) : Prop where
  now : PoolAt H p s
  op : H0 p ≠ none
  os : H0 s ≠ none
  but : ∀ b o, H0 b = some o → b ≠ p → b ≠ ds → H b = some o
theorem Pd.pl {H0 H H1 : Hp} {p s ds : Addr} (a : Pd H0 H p s ds) (b : Pl H H1 p s) : Pd H0 H1 p s ds := ⟨b.now, a.op, a.os, fun c o h n1 n2 => b.keep (a.but c o h n1 n2) n1⟩
theorem Pd.chg {H0 H H1 : Hp} {p s ds : Addr} {kvs : List (Key × V)} (a : Pd H0 H p s ds) (hd : H ds = some (.dK kvs)) (k : ∀ c o, H c = some o → c ≠ ds → H1 c = some o) : Pd H0 H1 p s ds := by
  refine ⟨?_, a.op, a.os, fun c o h n1 n2 => k _ _ (a.but c o h n1 n2) n2⟩
  obtain ⟨ns, i, c, kk, n, h1, h2, h3, h4⟩ := a.now
  exact ⟨ns, i, c, kk, n, k _ _ h1 (ne_of h1 hd (by intro z; cases z)), k _ _ h2 (ne_of h2 hd (by intro z; cases z)), h3, h4⟩
theorem Pd.at {H0 H : Hp} {p s ds q : Addr} {o : HO} (a : Pd H0 H p s ds) (hq : H0 q = none) : Pd H0 (upd H q o) p s ds :=
  ⟨a.now.off (fun z => a.op (z ▸ hq)) (fun z => a.os (z ▸ hq)), a.op, a.os, fun c o h n1 n2 => by rw [upd_ne (ne_of_none h hq)]; exact a.but c o h n1 n2⟩
theorem Pd.free {H0 H : Hp} {p s ds q : Addr} (a : Pd H0 H p s ds) (hd : H ds ≠ none) (hq : H q = none) : H0 q = none := by
  cases e : H0 q with
  | none => rfl
  | some u =>
    by_cases h1 : q = p
    · exact absurd (h1 ▸ hq) a.now.ne.1
    · by_cases h2 : q = ds
      · exact absurd (h2 ▸ hq) hd
      · rw [a.but q u e h1 h2] at hq
        cases hq
theorem Ents.snoc {H : Hp} {us : List V} {xs : List Ent} {e : Addr} {x : Ent} (h : Ents H us xs) (he : EntAt H e x) (hok : x.ok) : Ents H (us ++ [.ref e]) (xs ++ [x]) := by
  refine ⟨by rw [List.length_append, List.length_append, h.1]; rfl, fun i v y a b => ?_⟩
  by_cases hi : i < us.length
  · rw [List.getElem?_append_left hi] at a
    rw [List.getElem?_append_left (by rw [← h.1]; exact hi)] at b
    exact h.2 i v y a b
  · have hi' : i = us.length := by
      have := (List.getElem?_eq_some_iff.mp a).1
      rw [List.length_append] at this
      have : i < us.length + 1 := this
      omega
    subst hi'
    rw [List.getElem?_append_right (Nat.le_refl _), Nat.sub_self] at a
    rw [h.1, List.getElem?_append_right (Nat.le_refl _), Nat.sub_self] at b
    cases a
    cases b
    exact ⟨e, rfl, he, hok⟩
def spEntries : Sp := fun vs H Q _ => ∃ (p s dl dk ds : Addr) (L : List (Str × Int)) (ks : List Str) (S0 : Kn) (n0 : Nat) (number arrival many : Int), vs = [.ref p, .ref dl, .ref dk, .ref ds, .int number, .int arrival, .int many] ∧ Draw H p s dl dk ds L ks S0 ∧ StAt H ds S0 n0 ∧ 0 ≤ many ∧ many ≤ 100 ∧ (n0 : Int) + many ≤ 500 ∧
  0 ≤ number ∧ (∀ id, S0 id ≠ none → id < number) ∧ ds ≠ dl ∧
  ∀ (q : Addr) us xs S1 H', H q = none → H' q = some (.lst us) → Ents H' us xs → (xs.length : Int) = many → (∀ l, (∀ t, l = some t → t ≤ arrival) → ∀ i, wk L (xs.map some) i S0 l = (none, S1)) → (∀ x ∈ xs, arrival ≤ x.arr) →
    StAt H' ds S1 (n0 + xs.length) → KnOk L S1 → (∀ id, S1 id ≠ none → 0 ≤ id ∧ id < number + 3 * many) → Pd H H' p s ds → Q (.ref q) H'
section
variable {P : Program} {w : World} {K : PySem.W.Frag} {mg : Str → Option Value} {base : Heap}
abbrev s_l_put : Stmt := topS 47
theorem sc_l_put : FnScope ["_law_states_here", "_law_entry_here", "_law_old"] ["_law_states_here", "_law_entry_here"] (defScope s_l_put) := ⟨rfl, rfl, rfl, by decide +kernel, rfl, by decide +kernel, by decide +kernel⟩
theorem ok_put {f : Addr} {fd : FuncData} (F : Fun K "_law_put" "_law_put" s_l_put f fd) (B : Blt mg) : FnOk P w K mg base CX0 1 f fd ["_law_states_here", "_law_entry_here"] spPut := by
  refine F.ok sc_l_put (fun vs H Q E h => ?_) (fun cdv A outer s H vs Q E hr h => ?_)
  · obtain ⟨ds, e, L, S, n, x, y, rfl, _⟩ := h
    rfl
  · obtain ⟨ds, e, L, S, n, x, y, rfl, hst, hn, hx, hb, q⟩ := h
    have hu := hu_of hr
    obtain ⟨kvs, h1, h2, h3, h4⟩ := id hst
    refine ⟨_, (pss_one (ps_if (pt_cmpR op_eq (pe_ix ix_tup (pv 1) pe_int (fun _ _ => rfl)) pe_str (nomark _))
      (pss_one (ps_dput hu (pv 0) (pe_ix ix_tup (pv 1) pe_int (fun _ _ => rfl)) (pe_tup (pa_cons (pe_ix ix_tup (pv 1) pe_int (fun _ _ => rfl)) (pa_cons (pe_ix ix_tup (pv 1) pe_int (fun _ _ => rfl)) (pa_cons (pe_ix ix_tup (pv 1) pe_int (fun _ _ => rfl)) (pa_cons (pe_ix ix_tup (pv 1) pe_int (fun _ _ => rfl)) pa_nil))))) rfl))
      (pss_one (ps_if (pt_cmpR op_eq (pe_ix ix_tup (pv 1) pe_int (fun _ _ => rfl)) pe_str (nomark _))
        (pss_cons (ps_set (i := 2) sc_l_put.nd rfl (Or.inl rfl) (pe_dget hu (pv 0) (pe_ix ix_tup (pv 1) pe_int (fun _ _ => rfl)) (fun _ _ => rfl)))
        (pss_one (ps_dput hu (pv 0) (pe_ix ix_tup (pv 1) pe_int (fun _ _ => rfl)) (pe_tup (pa_cons (pe_ix ix_tup (pv 2) pe_int (fun _ _ => rfl)) (pa_cons (pe_ix ix_tup (pv 2) pe_int (fun _ _ => rfl)) (pa_cons (pe_ix ix_tup (pv 1) pe_int (fun _ _ => rfl)) (pa_cons (pe_ix ix_tup (pv 1) pe_int (fun _ _ => rfl)) pa_nil))))) rfl)))
        (pss_one (ps_dput hu (pv 0) (pe_ix ix_tup (pv 1) pe_int (fun _ _ => rfl)) pe_non rfl)))))), ?_⟩
    cases x with
    | row id z k m a r =>
      obtain rfl := behind_row hb
      refine ⟨_, rfl, _, _, _, _, rfl, rfl, SqT.of hx, rfl, rfl, _, rfl, iteT ?_⟩
      refine ⟨_, rfl, _, _, _, _, rfl, rfl, SqT.of hx, rfl, _, rfl, _, _, _, _, rfl, rfl, SqT.of hx, rfl, _, rfl, _, _, _, _, rfl, rfl, SqT.of hx, rfl, _, rfl, _, _, _, _, rfl, rfl, SqT.of hx, rfl, (by show 4 ≤ sizeLine; decide), fun t ht => ?_⟩
      have s1 := sameAt (Same.refl H) ht (o := .tup [.str z, .str k, .int m, .int a])
      have hx1 : EntAt (upd H t (.tup [.str z, .str k, .int m, .int a])) e (.row id z k m a r) := s1 _ _ hx
      refine ⟨_, rfl, _, rfl, _, _, _, _, rfl, rfl, SqT.of hx1, rfl, ds, _, rfl, DPut.k (k := Sum.inl id) (s1 _ _ h1) (small1000 (by omega)), ?_⟩
      exact q _ (StAt.put h1 h2 h3 h4 s1 ⟨t, rfl, upd_same⟩) fun c o hc hn => by rw [upd_ne hn]; exact s1 _ _ hc
    | fix id m a r =>
      obtain ⟨z, k, m0, a0, eS, rfl⟩ := behind_fix hb
      have sv := h4 id
      have eS : S id = some (.at_ z k m0 a0) := eS
      rw [eS] at sv
      obtain ⟨v, hv⟩ : ∃ v, valV kvs (Sum.inl id) = some v := by
        cases e : valV kvs (Sum.inl id : Key) with
        | none => rw [e] at sv; exact absurd sv (fun z => z)
        | some v => exact ⟨v, rfl⟩
      rw [hv] at sv
      obtain ⟨t0, rfl, ht0⟩ := sv
      have hg := DGet.k (k := Sum.inl id) h1
      rw [hv] at hg
      refine ⟨_, rfl, _, _, _, _, rfl, rfl, SqT.of hx, rfl, rfl, _, rfl, iteF ?_⟩
      refine ⟨_, rfl, _, _, _, _, rfl, rfl, SqT.of hx, rfl, rfl, _, rfl, iteT ?_⟩
      refine ⟨_, rfl, _, rfl, _, _, _, _, rfl, rfl, SqT.of hx, rfl, ds, _, rfl, hg, ?_⟩
      refine ⟨_, rfl, _, _, _, _, rfl, rfl, SqT.of ht0, rfl, _, rfl, _, _, _, _, rfl, rfl, SqT.of ht0, rfl, _, rfl, _, _, _, _, rfl, rfl, SqT.of hx, rfl, _, rfl, _, _, _, _, rfl, rfl, SqT.of hx, rfl, (by show 4 ≤ sizeLine; decide), fun t ht => ?_⟩
      have s1 := sameAt (Same.refl H) ht (o := .tup [.str z, .str k, .int m, .int a])
      have hx1 : EntAt (upd H t (.tup [.str z, .str k, .int m, .int a])) e (.fix id m a r) := s1 _ _ hx
      refine ⟨_, rfl, _, rfl, _, _, _, _, rfl, rfl, SqT.of hx1, rfl, ds, _, rfl, DPut.k (k := Sum.inl id) (s1 _ _ h1) (small1000 (by omega)), ?_⟩
      exact q _ (StAt.put h1 h2 h3 h4 s1 ⟨t, rfl, upd_same⟩) fun c o hc hn => by rw [upd_ne hn]; exact s1 _ _ hc
    | gone id r =>
      obtain rfl := behind_gone hb
      refine ⟨_, rfl, _, _, _, _, rfl, rfl, SqT.of hx, rfl, rfl, _, rfl, iteF ?_⟩
      refine ⟨_, rfl, _, _, _, _, rfl, rfl, SqT.of hx, rfl, rfl, _, rfl, iteF ?_⟩
      refine ⟨_, rfl, _, rfl, _, _, _, _, rfl, rfl, SqT.of hx, rfl, ds, _, rfl, DPut.k (k := Sum.inl id) h1 (small1000 (by omega)), ?_⟩
      exact q _ (StAt.put h1 h2 h3 h4 (Same.refl H) rfl) fun c o hc hn => by rw [upd_ne hn]; exact hc
structure G4 (P : Program) (w : World) (K : PySem.W.Frag) (mg : Str → Option Value) (base : Heap) : Prop extends G3 P w K mg base where
  law_entry : Cal P w K mg base CX0 "_law_entry" 3 ["_law_pool_here", "_law_lates_here", "_law_keys", "_law_states_here", "_law_number", "_law_arrival"] spEntry
  law_put : Cal P w K mg base CX0 "_law_put" 1 ["_law_states_here", "_law_entry_here"] spPut
abbrev s_l_entries : Stmt := topS 48
theorem sc_l_entries : FnScope ["_law_pool_here", "_law_lates_here", "_law_keys", "_law_states_here", "_law_number", "_law_arrival", "_law_many", "_law_entries_here", "_law_k", "_law_entry_here"] ["_law_pool_here", "_law_lates_here", "_law_keys", "_law_states_here", "_law_number", "_law_arrival", "_law_many"] (defScope s_l_entries) := ⟨rfl, rfl, rfl, by decide +kernel, rfl, by decide +kernel, by decide +kernel⟩
theorem ok_entries {f : Addr} {fd : FuncData} (F : Fun K "_law_entries" "_law_entries" s_l_entries f fd) (B : Blt mg) (G : G4 P w K mg base) : FnOk P w K mg base CX0 4 f fd ["_law_pool_here", "_law_lates_here", "_law_keys", "_law_states_here", "_law_number", "_law_arrival", "_law_many"] spEntries := by
  refine F.ok sc_l_entries (fun vs H Q E h => ?_) (fun cdv A outer s H vs Q E hr h => ?_)
  · obtain ⟨p, s, dl, dk, ds, L, ks, S, n0, number, arrival, many, rfl, _⟩ := h
    rfl
  · obtain ⟨p, s0, dl, dk, ds, L, ks, S0, n0, number, arrival, many, rfl, D, hst, hm0, hm1, hm5, hn0, hids, hdd, q⟩ := h
    refine ⟨_, (pss_cons (ps_set (i := 7) sc_l_entries.nd rfl (Or.inl rfl) (pe_lst pa_nil))
    (pss_cons (ps_for PassesOwn.never rfl (pi_range1 (by rfl) B.range (pa_cons (pv 6) pa_nil)) (pg_name (i := 8) sc_l_entries.nd rfl (Or.inl rfl))
      (pss_cons (ps_set (i := 5) sc_l_entries.nd rfl (Or.inl rfl) (pe_op op_add (pv 5) (pe_ix ix_list (pe_lst (pa_cons pe_int (pa_cons pe_int (pa_cons pe_int (pa_cons pe_int (pa_cons pe_int (pa_cons pe_int (pa_cons pe_int (pa_cons (pe_cal G.law_draw (hr.mono (by decide)) pass0 (pa_cons (pv 0) (pa_cons (pe_op op_pow pe_int pe_int) pa_nil))) pa_nil))))))))) (pe_cal G.law_draw (hr.mono (by decide)) pass0 (pa_cons (pv 0) (pa_cons pe_int pa_nil))) (fun _ _ => rfl))))
      (pss_cons (ps_set (i := 9) sc_l_entries.nd rfl (Or.inl rfl) (pe_cal G.law_entry (hr.mono (by decide)) pass0 (pa_cons (pv 0) (pa_cons (pv 1) (pa_cons (pv 2) (pa_cons (pv 3) (pa_cons (pe_op op_add (pe_op op_add (pv 4) (pe_op op_mul pe_int (pv 8))) (pe_cal G.law_draw (hr.mono (by decide)) pass0 (pa_cons (pv 0) (pa_cons pe_int pa_nil)))) (pa_cons (pv 5) pa_nil))))))))
      (pss_cons (ps_expr (pe_cal G.law_put (hr.mono (by decide)) pass0 (pa_cons (pv 3) (pa_cons (pv 9) pa_nil))))
      (pss_one (ps_expr (pe_bm PySem.F.plainAttrs_list PySem.F.slot_list_append PySem.F.type_list_append mt_append (pv 7) (pa_cons (pv 9) pa_nil))))))))
    (pss_one (ps_ret (pv 7))))), ?_⟩
    refine ⟨(by show 0 ≤ sizeLine; decide), fun q0 hq0 => ?_⟩
    have PD0 : Pd H (upd H q0 (.lst [])) p s0 ds := (⟨D.pool, D.pool.ne.1, D.pool.ne.2, fun b o h _ _ => h⟩ : Pd H H p s0 ds).at hq0
    refine ⟨_, rfl, _, rfl, (by omega), (by omega), for_range (n := many.toNat) (fun k σ H1 => ∃ (us : List V) (xs : List Ent) (S : Kn) (ar : Int), (∃ a b, σ = [some (.ref p), some (.ref dl), some (.ref dk), some (.ref ds), some (.int number), some (.int ar), some (.int many), some (.ref q0), a, b]) ∧ H1 q0 = some (.lst us) ∧ Ents H1 us xs ∧ xs.length = k ∧
      (∀ l, (∀ t, l = some t → t ≤ arrival) → (∀ i, wk L (xs.map some) i S0 l = (none, S)) ∧ ∀ t, lastA xs l = some t → t ≤ ar) ∧ arrival ≤ ar ∧ (∀ x ∈ xs, arrival ≤ x.arr) ∧ StAt H1 ds S (n0 + k) ∧ KnOk L S ∧ (∀ id, S id ≠ none → 0 ≤ id ∧ id < number + 3 * (k : Int)) ∧ Pd H H1 p s0 ds) ?_ ?_ ?_⟩
    · refine ⟨[], [], S0, arrival, ⟨_, _, rfl⟩, upd_same, ⟨rfl, fun i v x a b => by simp at a⟩, rfl, fun l hl => ⟨fun i => rfl, hl⟩, Int.le_refl _, (fun x hx => nomatch hx), hst.same (sameAt (Same.refl H) hq0), D.ok, (fun id h => ⟨D.pos id h, by have := hids id h; omega⟩), PD0⟩
    · rintro k σ H1 hk ⟨us, xs, S, ar, ⟨a, b, rfl⟩, hq1, hE, hlen, hwk, har, harr, hst1, hok, hpos, PD⟩
      have hqp : q0 ≠ p := fun z => D.pool.ne.1 (z ▸ hq0)
      obtain ⟨kvs0, hst0, _⟩ := id hst
      have hqd : q0 ≠ ds := fun z => by rw [z, hst0] at hq0; cases hq0
      obtain ⟨ns, i1, c1, k1, m1, hp1, _⟩ := id D.pool
      have dlp : dl ≠ p := ne_of D.dl hp1 (by intro z; cases z)
      have dkp : dk ≠ p := ne_of D.dk hp1 (strs_ne (ns := ns))
      have dkd : dk ≠ ds := ne_of D.dk hst0 (by intro z; cases z)
      obtain ⟨kvs1, hst1', _⟩ := id hst1
      -- arrival
      refine ⟨_, rfl, _, rfl, _, _, rfl, rfl, ⟨by decide, by decide, by decide⟩, p, s0, _, rfl, PD.now, (by decide), (by decide), fun v H2 v0 v1 P2 => ⟨(by show 8 ≤ sizeLine; decide), fun u hu2 => ?_⟩⟩
      have v1 : v < 1000000 := v1
      have PD2 := PD.pl P2
      have hd2 := P2.dk PD.now hst1'
      have hu0 : H u = none := PD2.free (by rw [hd2]; exact fun z => nomatch z) hu2
      have PD3 : Pd H (upd H2 u (.lst [V.int 0, V.int 0, V.int 1, V.int 1, V.int 2, V.int 3, V.int 7, V.int v])) p s0 ds := PD2.at hu0
      have hup : u ≠ p := fun z => D.pool.ne.1 (z ▸ hu0)
      have hud : u ≠ ds := fun z => by rw [z, hst0] at hu0; cases hu0
      refine ⟨_, rfl, p, s0, 8, rfl, PD3.now, (by decide), (by decide), fun g H4 g0 g1 P4 => ?_⟩
      obtain ⟨inc, hinc, inc0⟩ : ∃ inc : Int, atI ([V.int 0, V.int 0, V.int 1, V.int 1, V.int 2, V.int 3, V.int 7, V.int v]) g = some (V.int inc) ∧ 0 ≤ inc := by
        have : g = 0 ∨ g = 1 ∨ g = 2 ∨ g = 3 ∨ g = 4 ∨ g = 5 ∨ g = 6 ∨ g = 7 := by omega
        rcases this with rfl | rfl | rfl | rfl | rfl | rfl | rfl | rfl
        · exact ⟨0, rfl, by omega⟩
        · exact ⟨0, rfl, by omega⟩
        · exact ⟨1, rfl, by omega⟩
        · exact ⟨1, rfl, by omega⟩
        · exact ⟨2, rfl, by omega⟩
        · exact ⟨3, rfl, by omega⟩
        · exact ⟨7, rfl, by omega⟩
        · exact ⟨v, rfl, v0⟩
      have PD4 := PD3.pl P4
      refine ⟨_, _, _, V.int inc, rfl, rfl, SqL.of (P4.keep upd_same hup), hinc, _, _, rfl, rfl, ?_⟩
      -- entry
      refine ⟨_, rfl, _, rfl, _, rfl, _, rfl, _, rfl, _, rfl, _, _, rfl, rfl, .inl ⟨by decide, by decide⟩, _, _, rfl, rfl, _, rfl, p, s0, 3, rfl, PD4.now, (by decide), (by decide), fun g3 H5 g30 g33 P5 => ⟨_, _, rfl, rfl, _, rfl, ?_⟩⟩
      have PD5 := PD4.pl P5
      have tk15 : TK H1 H5 := (((P2.tk PD.now).trans (tk_same (sameAt (Same.refl H2) hu2))).trans (P4.tk PD3.now)).trans (P5.tk PD4.now)
      have st5 : StAt H5 ds S (n0 + k) := ((((hst1.pl PD.now P2).same (sameAt (Same.refl H2) hu2)).pl PD3.now P4).pl PD4.now P5)
      have D5 : Draw H5 p s0 dl dk ds L ks S := ⟨PD5.now, PD5.but _ _ D.dl dlp (Ne.symm hdd), D.LL, PD5.but _ _ D.dk dkp dkd, D.k1, D.k2, D.kn, by
        obtain ⟨kk, a1, a2, a3, a4⟩ := st5
        exact ⟨kk, a1, by omega, a3, a4⟩, hok, fun id h => (hpos id h).1⟩
      refine ⟨p, s0, dl, dk, ds, L, ks, S, _, _, rfl, D5, (by omega), ?_, fun e x y H6 he hxok _ hxarr hbh hid P6 => ?_⟩
      · cases eS : S (number + 3 * (0 + (k : Int)) + g3) with
        | none => rfl
        | some r =>
          have := (hpos _ (by rw [eS]; exact fun z => nomatch z)).2
          omega
      have PD6 := PD5.pl P6
      have st6 := st5.pl PD5.now P6
      obtain ⟨kvs6, hd6, _⟩ := id st6
      refine ⟨_, rfl, _, rfl, ds, e, L, S, n0 + k, x, y, rfl, st6, (by omega), he, hbh, fun H7 st7 k7 => ?_⟩
      have PD7 := PD6.chg hd6 k7
      have tk67 : TK H6 H7 := fun t zs h => k7 _ _ h (ne_of h hd6 (by intro z; cases z))
      have keepq : H7 q0 = some (.lst us) := by
        have a2 := P2.keep hq1 hqp
        have a3 : (upd H2 u (.lst [V.int 0, V.int 0, V.int 1, V.int 1, V.int 2, V.int 3, V.int 7, V.int v])) q0 = some (.lst us) := by rw [upd_ne (ne_of_none a2 hu2)]; exact a2
        exact k7 _ _ (P6.keep (P5.keep (P4.keep a3 hqp) hqp) hqp) hqd
      refine ⟨_, rfl, .inl ⟨rfl, _, SqL.of keepq⟩, _, rfl, q0, us, _, rfl, rfl, keepq, (by rw [hE.1]; exact small1000 (by omega)), ?_⟩
      have tk78 : TK H7 (upd H7 q0 (.lst (us ++ [.ref e]))) := tk_off keepq (fun xs z => by cases z)
      have tkAll := ((tk15.trans (P6.tk PD5.now)).trans tk67).trans tk78
      refine ⟨us ++ [.ref e], xs ++ [x], setK S x.id y, ar + inc, ⟨_, _, rfl⟩, upd_same, (hE.tk tkAll).snoc ((tk67.trans tk78) _ _ he) hxok, by rw [List.length_append, hlen]; rfl, fun l hl => ⟨fun i => ?_, fun t ht => ?_⟩, by omega, fun z hz => ?_, ?_, ?_, fun id hid' => ?_, PD7.at hq0⟩
      · rw [List.map_append]
        show wk L (xs.map some ++ [some x]) i S0 l = _
        rw [wk_app [some x] ((hwk l hl).1 i)]
        have hlt : late? (lastA xs l) x.arr = false := by
          cases e : lastA xs l with
          | none => rfl
          | some t =>
            have := (hwk l hl).2 t e
            exact decide_eq_false (by omega)
        rw [wk_go hlt hbh]
        rfl
      · rw [lastA_snoc] at ht
        cases ht
        omega
      · rcases List.mem_append.mp hz with hz | hz
        · exact harr z hz
        · rw [List.mem_singleton.mp hz]
          omega
      · obtain ⟨kk, a1, a2, a3, a4⟩ := st7
        exact ⟨kk, by rw [upd_ne (Ne.symm hqd)]; exact a1, by omega, a3, fun id => (a4 id).but tk78⟩
      · intro id z1 kk m a' he'
        have he' : (if id = x.id then some y else S id) = some (.at_ z1 kk m a') := he'
        by_cases ej : id = x.id
        · rw [if_pos ej] at he'
          exact behind_ok hxok (hok x.id) hbh _ _ _ _ (Option.some.inj he')
        · rw [if_neg ej] at he'
          exact hok id _ _ _ _ he'
      · have hid' : (if id = x.id then some y else S id) ≠ none := hid'
        by_cases ej : id = x.id
        · have hx0 : 0 ≤ x.id := hxok.1
          rw [ej]
          refine ⟨hx0, ?_⟩
          rcases hid with h | h
          · omega
          · have := (hpos _ h).2
            omega
        · rw [if_neg ej] at hid'
          have := hpos _ hid'
          omega
    · rintro σ H1 ⟨us, xs, S, ar, ⟨a, b, rfl⟩, hq1, hE, hlen, hwk, har, harr, hst1, hok, hpos, PD⟩
      refine ⟨_, rfl, q q0 us xs S H1 hq0 hq1 hE (by omega) (fun l hl => (hwk l hl).1) harr (by rw [hlen]; exact hst1) hok (fun id h => ⟨(hpos id h).1, by have := (hpos id h).2; omega⟩) PD⟩
end
end Ash

set_option Elab.async false
set_option linter.all false
set_option maxRecDepth 100000
set_option maxHeartbeats 4000000
namespace Ash
open PySem PySem.Spec PyProof.Rows L2
open C8 (pss_cut)
theorem wk_step {L : List (Str × Int)} {x : Ent} {r : List Ent} {i : Nat} {S S1 : Kn} {l : Option Int} (h : wk L ((x :: r).map some) i S l = (none, S1)) : late? l x.arr = false ∧ ∃ y, behind L x (S x.id) = some y ∧ wk L (r.map some) (i + 1) (fun j => if j = x.id then some y else S j) (some x.arr) = (none, S1) := by
  have h : wk L (some x :: r.map some) i S l = (none, S1) := h
  by_cases c : late? l x.arr = true
  · rw [wk_late c] at h
    cases h
  · have c0 : late? l x.arr = false := Bool.eq_false_iff.mpr c
    cases hb : behind L x (S x.id) with
    | none =>
      rw [wk_bad c0 hb] at h
      cases h
    | some y =>
      rw [wk_go c0 hb] at h
      exact ⟨c0, y, rfl, h⟩
theorem list_take' {xs : List Ent} {i : Nat} {x : Ent} (h : xs[i]? = some x) : xs.take (i + 1) = xs.take i ++ [x] := by
  have := (List.getElem?_eq_some_iff.mp h)
  obtain ⟨l, e⟩ := this
  rw [List.take_succ, h]
  rfl
/-! ### states made of entries, their rows -/
/-- StAt, each key once -/
def StK (H : Hp) (d : Addr) (S : Kn) (n : Nat) : Prop := ∃ kvs : List (Key × V), H d = some (.dK kvs) ∧ kvs.length ≤ n ∧ ((∀ kv ∈ kvs, ∃ id, kv.1 = Sum.inl id) ∧ (kvs.map (·.1)).Nodup) ∧ ∀ id, SV H (valV kvs (Sum.inl id)) (S id)
theorem StK.put {H H1 : Hp} {ds : Addr} {S : Kn} {n : Nat} {kvs : List (Key × V)} {id : Int} {v : V} {y : RowSt} (h1 : H ds = some (.dK kvs)) (h2 : kvs.length ≤ n) (h3 : (∀ kv ∈ kvs, ∃ id, kv.1 = Sum.inl id) ∧ (kvs.map (·.1)).Nodup) (h4 : ∀ id, SV H (valV kvs (Sum.inl id)) (S id))
    (s : Same H H1) (hv : SV H1 (some v) (some y)) : StK (upd H1 ds (.dK (putK kvs (Sum.inl id) v))) ds (setK S id y) (n + 1) := by
  obtain ⟨kk, a1, a2, a3, a4⟩ := StAt.put h1 h2 h3.1 h4 s hv
  rw [upd_same] at a1
  cases a1
  have q := (KLen.put (n := n) ⟨h2, h3.2, h3.1⟩ id v)
  exact ⟨_, upd_same, a2, ⟨a3, q.nd⟩, a4⟩
def spPutK : Sp := fun vs H Q _ => ∃ (ds e : Addr) (L : List (Str × Int)) (S : Kn) (n : Nat) (x : Ent) (y : RowSt), vs = [.ref ds, .ref e] ∧ StK H ds S n ∧ n ≤ 900 ∧ EntAt H e x ∧ behind L x (S x.id) = some y ∧
  ∀ H', StK H' ds (setK S x.id y) (n + 1) → (∀ c o, H c = some o → c ≠ ds → H' c = some o) → Q .non H'
def spStates : Sp := fun vs H Q _ => ∃ (a : Addr) (L : List (Str × Int)) (us : List V) (xs : List Ent) (S1 : Kn), vs = [.ref a] ∧ H a = some (.lst us) ∧ Ents H us xs ∧ xs.length ≤ 900 ∧ wk L (xs.map some) 0 (fun _ => none) none = (none, S1) ∧
  ∀ d H', H d = none → StK H' d S1 xs.length → Same H H' → Q (.ref d) H'
theorem wk_pre {L : List (Str × Int)} : ∀ {xs : List Ent} {i : Nat} {S S1 : Kn} {l : Option Int}, wk L (xs.map some) i S l = (none, S1) → ∀ k, ∃ Sk, wk L ((xs.take k).map some) i S l = (none, Sk)
  | [], _, S, _, _, _, k => ⟨S, by rw [List.take_nil]; rfl⟩
  | x :: xs, i, S, S1, l, h, 0 => ⟨S, rfl⟩
  | x :: xs, i, S, S1, l, h, k + 1 => by
    obtain ⟨c, y, h2, h3⟩ := wk_step h
    obtain ⟨Sk, hk⟩ := wk_pre h3 k
    refine ⟨Sk, ?_⟩
    rw [List.take_succ_cons]
    show wk L (some x :: (xs.take k).map some) i S l = _
    rw [wk_go c h2]
    exact hk
theorem wk_nth {L : List (Str × Int)} {xs : List Ent} {S S1 Sk : Kn} {l : Option Int} {k : Nat} {x : Ent} (h : wk L (xs.map some) 0 S l = (none, S1)) (hx : xs[k]? = some x) (hk : wk L ((xs.take k).map some) 0 S l = (none, Sk)) :
    ∃ y, behind L x (Sk x.id) = some y ∧ wk L ((xs.take (k + 1)).map some) 0 S l = (none, setK Sk x.id y) := by
  obtain ⟨S2, h2⟩ := wk_pre h (k + 1)
  have h2' := h2
  rw [list_take' hx, List.map_append] at h2
  have h2 : wk L ((xs.take k).map some ++ [some x]) 0 S l = _ := h2
  rw [wk_app [some x] hk] at h2
  obtain ⟨c, y, b, e⟩ := wk_step (r := []) h2
  refine ⟨y, b, ?_⟩
  rw [h2', ← e]
  rfl
section
variable {P : Program} {w : World} {K : PySem.W.Frag} {mg : Str → Option Value} {base : Heap}
theorem ok_putk {f : Addr} {fd : FuncData} (F : Fun K "_law_put" "_law_put" s_l_put f fd) (B : Blt mg) : FnOk P w K mg base CX0 1 f fd ["_law_states_here", "_law_entry_here"] spPutK := by
  refine F.ok sc_l_put (fun vs H Q E h => ?_) (fun cdv A outer s H vs Q E hr h => ?_)
  · obtain ⟨ds, e, L, S, n, x, y, rfl, _⟩ := h
    rfl
  · obtain ⟨ds, e, L, S, n, x, y, rfl, hst, hn, hx, hb, q⟩ := h
    have hu := hu_of hr
    obtain ⟨kvs, h1, h2, h3, h4⟩ := id hst
    refine ⟨_, (pss_one (ps_if (pt_cmpR op_eq (pe_ix ix_tup (pv 1) pe_int (fun _ _ => rfl)) pe_str (nomark _))
      (pss_one (ps_dput hu (pv 0) (pe_ix ix_tup (pv 1) pe_int (fun _ _ => rfl)) (pe_tup (pa_cons (pe_ix ix_tup (pv 1) pe_int (fun _ _ => rfl)) (pa_cons (pe_ix ix_tup (pv 1) pe_int (fun _ _ => rfl)) (pa_cons (pe_ix ix_tup (pv 1) pe_int (fun _ _ => rfl)) (pa_cons (pe_ix ix_tup (pv 1) pe_int (fun _ _ => rfl)) pa_nil))))) rfl))
      (pss_one (ps_if (pt_cmpR op_eq (pe_ix ix_tup (pv 1) pe_int (fun _ _ => rfl)) pe_str (nomark _))
        (pss_cons (ps_set (i := 2) sc_l_put.nd rfl (Or.inl rfl) (pe_dget hu (pv 0) (pe_ix ix_tup (pv 1) pe_int (fun _ _ => rfl)) (fun _ _ => rfl)))
        (pss_one (ps_dput hu (pv 0) (pe_ix ix_tup (pv 1) pe_int (fun _ _ => rfl)) (pe_tup (pa_cons (pe_ix ix_tup (pv 2) pe_int (fun _ _ => rfl)) (pa_cons (pe_ix ix_tup (pv 2) pe_int (fun _ _ => rfl)) (pa_cons (pe_ix ix_tup (pv 1) pe_int (fun _ _ => rfl)) (pa_cons (pe_ix ix_tup (pv 1) pe_int (fun _ _ => rfl)) pa_nil))))) rfl)))
        (pss_one (ps_dput hu (pv 0) (pe_ix ix_tup (pv 1) pe_int (fun _ _ => rfl)) pe_non rfl)))))), ?_⟩
    cases x with
    | row id z k m a r =>
      obtain rfl := behind_row hb
      refine ⟨_, rfl, _, _, _, _, rfl, rfl, SqT.of hx, rfl, rfl, _, rfl, iteT ?_⟩
      refine ⟨_, rfl, _, _, _, _, rfl, rfl, SqT.of hx, rfl, _, rfl, _, _, _, _, rfl, rfl, SqT.of hx, rfl, _, rfl, _, _, _, _, rfl, rfl, SqT.of hx, rfl, _, rfl, _, _, _, _, rfl, rfl, SqT.of hx, rfl, (by show 4 ≤ sizeLine; decide), fun t ht => ?_⟩
      have s1 := sameAt (Same.refl H) ht (o := .tup [.str z, .str k, .int m, .int a])
      have hx1 : EntAt (upd H t (.tup [.str z, .str k, .int m, .int a])) e (.row id z k m a r) := s1 _ _ hx
      refine ⟨_, rfl, _, rfl, _, _, _, _, rfl, rfl, SqT.of hx1, rfl, ds, _, rfl, DPut.k (k := Sum.inl id) (s1 _ _ h1) (small1000 (by omega)), ?_⟩
      exact q _ (StK.put h1 h2 h3 h4 s1 ⟨t, rfl, upd_same⟩) fun c o hc hn => by rw [upd_ne hn]; exact s1 _ _ hc
    | fix id m a r =>
      obtain ⟨z, k, m0, a0, eS, rfl⟩ := behind_fix hb
      have sv := h4 id
      have eS : S id = some (.at_ z k m0 a0) := eS
      rw [eS] at sv
      obtain ⟨v, hv⟩ : ∃ v, valV kvs (Sum.inl id) = some v := by
        cases e : valV kvs (Sum.inl id : Key) with
        | none => rw [e] at sv; exact absurd sv (fun z => z)
        | some v => exact ⟨v, rfl⟩
      rw [hv] at sv
      obtain ⟨t0, rfl, ht0⟩ := sv
      have hg := DGet.k (k := Sum.inl id) h1
      rw [hv] at hg
      refine ⟨_, rfl, _, _, _, _, rfl, rfl, SqT.of hx, rfl, rfl, _, rfl, iteF ?_⟩
      refine ⟨_, rfl, _, _, _, _, rfl, rfl, SqT.of hx, rfl, rfl, _, rfl, iteT ?_⟩
      refine ⟨_, rfl, _, rfl, _, _, _, _, rfl, rfl, SqT.of hx, rfl, ds, _, rfl, hg, ?_⟩
      refine ⟨_, rfl, _, _, _, _, rfl, rfl, SqT.of ht0, rfl, _, rfl, _, _, _, _, rfl, rfl, SqT.of ht0, rfl, _, rfl, _, _, _, _, rfl, rfl, SqT.of hx, rfl, _, rfl, _, _, _, _, rfl, rfl, SqT.of hx, rfl, (by show 4 ≤ sizeLine; decide), fun t ht => ?_⟩
      have s1 := sameAt (Same.refl H) ht (o := .tup [.str z, .str k, .int m, .int a])
      have hx1 : EntAt (upd H t (.tup [.str z, .str k, .int m, .int a])) e (.fix id m a r) := s1 _ _ hx
      refine ⟨_, rfl, _, rfl, _, _, _, _, rfl, rfl, SqT.of hx1, rfl, ds, _, rfl, DPut.k (k := Sum.inl id) (s1 _ _ h1) (small1000 (by omega)), ?_⟩
      exact q _ (StK.put h1 h2 h3 h4 s1 ⟨t, rfl, upd_same⟩) fun c o hc hn => by rw [upd_ne hn]; exact s1 _ _ hc
    | gone id r =>
      obtain rfl := behind_gone hb
      refine ⟨_, rfl, _, _, _, _, rfl, rfl, SqT.of hx, rfl, rfl, _, rfl, iteF ?_⟩
      refine ⟨_, rfl, _, _, _, _, rfl, rfl, SqT.of hx, rfl, rfl, _, rfl, iteF ?_⟩
      refine ⟨_, rfl, _, rfl, _, _, _, _, rfl, rfl, SqT.of hx, rfl, ds, _, rfl, DPut.k (k := Sum.inl id) h1 (small1000 (by omega)), ?_⟩
      exact q _ (StK.put h1 h2 h3 h4 (Same.refl H) rfl) fun c o hc hn => by rw [upd_ne hn]; exact hc
structure G4k (P : Program) (w : World) (K : PySem.W.Frag) (mg : Str → Option Value) (base : Heap) : Prop where
  law_put : Cal P w K mg base CX0 "_law_put" 1 ["_law_states_here", "_law_entry_here"] spPutK
abbrev s_l_states : Stmt := topS 50
theorem sc_l_states : FnScope ["_law_entries_here", "_law_states_here", "_law_entry_here"] ["_law_entries_here"] (defScope s_l_states) := ⟨rfl, rfl, rfl, by decide +kernel, rfl, by decide +kernel, by decide +kernel⟩
theorem ok_states {f : Addr} {fd : FuncData} (F : Fun K "_law_states" "_law_states" s_l_states f fd) (B : Blt mg) (G : G4k P w K mg base) : FnOk P w K mg base CX0 2 f fd ["_law_entries_here"] spStates := by
  refine F.ok sc_l_states (fun vs H Q E h => ?_) (fun cdv A outer s H vs Q E hr h => ?_)
  · obtain ⟨a, L, us, xs, S1, rfl, _⟩ := h
    rfl
  · obtain ⟨a, L, us, xs, S1, rfl, ha, hE, h9, hw, q⟩ := h
    refine ⟨_, (pss_cons (ps_set (i := 1) sc_l_states.nd rfl (Or.inl rfl) pe_dnewK)
    (pss_cons (ps_for PassesOwn.never rfl (pi_list (pv 0)) (pg_name (i := 2) sc_l_states.nd rfl (Or.inl rfl))
      (pss_one (ps_expr (pe_cal G.law_put (hr.mono (by decide)) pass0 (pa_cons (pv 1) (pa_cons (pv 2) pa_nil))))))
    (pss_one (ps_ret (pv 1))))), ?_⟩
    intro d hd
    have s1 := sameAt (Same.refl H) hd (o := .dK [])
    refine ⟨_, rfl, a, rfl, ⟨_, SqL.of (s1 _ _ ha)⟩, for_list (K := K) (a := a) (xs := us) (fun i σ H1 => (∃ b, σ = [some (.ref a), some (.ref d), b]) ∧ H1 a = some (.lst us) ∧ (∃ Si, wk L ((xs.take i).map some) 0 (fun _ => none) none = (none, Si) ∧ StK H1 d Si i) ∧ Same H H1) ?_ (fun i σ H1 _ hv => SqL.of hv.2.1) ?_ ?_⟩
    · exact ⟨⟨_, rfl⟩, s1 _ _ ha, ⟨_, rfl, [], upd_same, Nat.zero_le _, ⟨(fun _ h => nomatch h), .nil⟩, fun id => True.intro⟩, s1⟩
    · rintro i v σ H1 hi ⟨⟨b, rfl⟩, ha1, ⟨Si, hwi, hst⟩, sH⟩
      have hil := (List.getElem?_eq_some_iff.mp hi).1
      obtain ⟨x, hx⟩ : ∃ x, xs[i]? = some x := ⟨_, List.getElem?_eq_getElem (by rw [← hE.1]; exact hil)⟩
      obtain ⟨e, rfl, he, hok⟩ := hE.2 i v x hi hx
      obtain ⟨y, hb, hw1⟩ := wk_nth hw hx hwi
      have := hE.1
      obtain ⟨kvs, hd1, _⟩ := id hst
      refine ⟨_, rfl, _, rfl, d, e, L, Si, i, x, y, rfl, hst, by omega, sH _ _ he, hb, fun H2 st2 k2 => ?_⟩
      have sd : Same H H2 := fun c o hc => k2 c o (sH _ _ hc) (fun z => by rw [z, hd] at hc; cases hc)
      exact ⟨⟨_, rfl⟩, k2 _ _ ha1 (fun z => by rw [z, hd1] at ha1; cases ha1), ⟨_, hw1, st2⟩, sd⟩
    · rintro σ H1 ⟨⟨b, rfl⟩, ha1, ⟨Si, hwi, hst⟩, sH⟩
      rw [hE.1] at hwi hst
      rw [List.take_length, hw] at hwi
      cases hwi
      exact ⟨_, rfl, q d _ hd hst sH⟩
structure G5k (P : Program) (w : World) (K : PySem.W.Frag) (mg : Str → Option Value) (base : Heap) : Prop extends G4k P w K mg base where
  law_states : Cal P w K mg base CX0 "_law_states" 2 ["_law_entries_here"] spStates
end
end Ash

set_option Elab.async false
set_option linter.all false
set_option maxRecDepth 100000
set_option maxHeartbeats 4000000
namespace Ash
open PySem PySem.Spec PyProof.Rows L2
open C8 (pss_cut)
/-! ### entries of a draft: without their arrival -/
def DAt (H : Hp) (e : Addr) (x : Ent) : Prop := H e = some (.tup x.vs.dropLast)
/-- what a drafted entry may be -/
def DOk (L : List (Str × Int)) (x : Ent) : Prop := x.ok ∧ ∀ id s k m a r, x = .row id s k m a r → (L.lookup s).isSome
def spDrafted : Sp := fun vs H Q _ => ∃ (p s dl dk de : Addr) (L : List (Str × Int)) (ks : List Str) (us : List V) (xs : List Ent) (S1 : Kn) (number now : Int), vs = [.ref p, .ref dl, .ref dk, .ref de, .int number, .int now] ∧ PoolAt H p s ∧ H dl = some (.dK (LK L)) ∧ Lates L ∧ H dk = some (.lst (ks.map V.str)) ∧ 1 ≤ ks.length ∧ ks.length ≤ 30 ∧ (∀ z ∈ ks, IsNm z) ∧ H de = some (.lst us) ∧ Ents H us xs ∧ xs.length ≤ 450 ∧ wk L (xs.map some) 0 (fun _ => none) none = (none, S1) ∧ (∀ id, S1 id ≠ none → 0 ≤ id) ∧ 0 ≤ number ∧
  ∀ e x H', DAt H' e x → DOk L x → (x.id = number ∨ S1 x.id ≠ none) → Pl H H' p s → Q (.ref e) H'
section
variable {P : Program} {w : World} {K : PySem.W.Frag} {mg : Str → Option Value} {base : Heap}
structure G6d (P : Program) (w : World) (K : PySem.W.Frag) (mg : Str → Option Value) (base : Heap) : Prop extends G3 P w K mg base where
  law_states : Cal P w K mg base CX0 "_law_states" 2 ["_law_entries_here"] spStates
abbrev s_l_drafted : Stmt := topS 56
theorem sc_l_drafted : FnScope ["_law_pool_here", "_law_lates_here", "_law_keys", "_law_entries_here", "_law_number", "_law_now", "_law_states_here", "_law_other", "_law_standing", "_law_kind", "_law_stream", "_law_moment"] ["_law_pool_here", "_law_lates_here", "_law_keys", "_law_entries_here", "_law_number", "_law_now"] (defScope s_l_drafted) := ⟨rfl, rfl, rfl, by decide +kernel, rfl, by decide +kernel, by decide +kernel⟩
theorem ok_drafted {f : Addr} {fd : FuncData} (F : Fun K "_law_drafted" "_law_drafted" s_l_drafted f fd) (B : Blt mg) (G : G6d P w K mg base) : FnOk P w K mg base CX0 4 f fd ["_law_pool_here", "_law_lates_here", "_law_keys", "_law_entries_here", "_law_number", "_law_now"] spDrafted := by
  refine F.ok sc_l_drafted (fun vs H Q E h => ?_) (fun cdv A outer s H vs Q E hr h => ?_)
  · obtain ⟨p, s, dl, dk, de, L, ks, us, xs, S1, number, now, rfl, _⟩ := h
    rfl
  · obtain ⟨p, s0, dl, dk, de, L, ks, us, xs, S1, number, now, rfl, hP, hdl, LL, hdk, k1, k2, kn, hde, hE, h9, hw, pos, hn, q⟩ := h
    have hu := hu_of hr
    refine ⟨_, (pss_cons (ps_set (i := 6) sc_l_drafted.nd rfl (Or.inr rfl) (pe_cal G.law_states (hr.mono (by decide)) pass0 (pa_cons (pv 3) pa_nil)))
    (pss_cons (ps_setLc (i := 8) (own := [("_law_other", 7)]) (g := gName 7) (by rfl) sc_l_drafted.nd rfl rfl (sw_true rfl rfl rfl (by decide +kernel)) (pi_list (pe_callTy (call_listD (by rfl)) (by rfl) B.list (by decide +kernel) (pa_cons (pv 6) pa_nil))) (blkOk_by (own := [("_law_other", 7)]) (N := ["_law_pool_here", "_law_lates_here", "_law_keys", "_law_entries_here", "_law_number", "_law_now", "_law_states_here", "_law_other", "_law_standing", "_law_kind", "_law_stream", "_law_moment"]) (sc := defScope s_l_drafted) (by decide +kernel)) (fun _ _ _ _ _ => (pg_name (i := 7) sc_l_drafted.nd rfl (Or.inl rfl))) (fun _ _ _ _ _ => pts_one (pt_cmpR op_notN (pe_dget hu (pv 6) (pv 7) (fun _ _ => rfl)) pe_non (nomark _))) (fun _ _ _ _ _ => (pv 7)))
    (pss_cons (ps_set (i := 9) sc_l_drafted.nd rfl (Or.inl rfl) (pe_cal G.law_draw (hr.mono (by decide)) pass0 (pa_cons (pv 0) (pa_cons pe_int pa_nil))))
    (pss_cons (ps_if (PW.pt (pw_or (pt_cmpR op_lt (pv 9) pe_int (nomark _)) (pw_or1 (pt_cmpR op_eq (pe_callB call_len_seq (by rfl) B.len (by decide +kernel) (pa_cons (pv 8) pa_nil)) pe_int (nomark _)))))
      (pss_cons (ps_set (i := 10) sc_l_drafted.nd rfl (Or.inl rfl) (pe_ix ix_list (pe_callTy (call_listD (by rfl)) (by rfl) B.list (by decide +kernel) (pa_cons (pv 1) pa_nil)) (pe_cal G.law_draw (hr.mono (by decide)) pass0 (pa_cons (pv 0) (pa_cons (pe_callB call_lenD (by rfl) B.len (by decide +kernel) (pa_cons (pv 1) pa_nil)) pa_nil))) (fun _ _ => rfl)))
      (pss_cons (ps_set (i := 11) sc_l_drafted.nd rfl (Or.inl rfl) (pe_op op_add (pe_op op_sub (pv 5) (pe_cal G.law_draw (hr.mono (by decide)) pass0 (pa_cons (pv 0) (pa_cons (pe_op op_add (pe_callB (call_min2 rfl) (by rfl) B.min (by decide +kernel) (pa_cons (pe_dget hu (pv 1) (pv 10) (fun _ _ => rfl)) (pa_cons pe_int pa_nil))) pe_int) pa_nil)))) (pe_callTy call_int1 (by rfl) B.int (by decide +kernel) (pa_cons (pe_cmpR op_eq (pe_cal G.law_draw (hr.mono (by decide)) pass0 (pa_cons (pv 0) (pa_cons pe_int pa_nil))) pe_int (nomark _)) pa_nil))))
      (pss_one (ps_ret (pe_tup (pa_cons pe_str (pa_cons (pv 4) (pa_cons (pv 10) (pa_cons (pe_ix ix_list (pv 2) (pe_cal G.law_draw (hr.mono (by decide)) pass0 (pa_cons (pv 0) (pa_cons (pe_callB call_len_seq (by rfl) B.len (by decide +kernel) (pa_cons (pv 2) pa_nil)) pa_nil))) (fun _ _ => rfl)) (pa_cons (pv 11) (pa_cons (pe_cal G.law_amount (hr.mono (by decide)) pass0 (pa_cons (pv 0) pa_nil)) pa_nil)))))))))))
      pss_nil)
    (pss_cons (ps_set (i := 7) sc_l_drafted.nd rfl (Or.inl rfl) (pe_ix ix_list (pv 8) (pe_cal G.law_draw (hr.mono (by decide)) pass0 (pa_cons (pv 0) (pa_cons (pe_callB call_len_seq (by rfl) B.len (by decide +kernel) (pa_cons (pv 8) pa_nil)) pa_nil))) (fun _ _ => rfl)))
    (pss_cons (ps_if (pt_cmpR op_eq (pv 9) pe_int (nomark _))
      (pss_one (ps_ret (pe_tup (pa_cons pe_str (pa_cons (pv 7) (pa_cons (pe_op op_sub (pv 5) (pe_cal G.law_draw (hr.mono (by decide)) pass0 (pa_cons (pv 0) (pa_cons pe_int pa_nil)))) (pa_cons (pe_cal G.law_amount (hr.mono (by decide)) pass0 (pa_cons (pv 0) pa_nil)) pa_nil)))))))
      pss_nil)
    (pss_one (ps_ret (pe_tup (pa_cons pe_str (pa_cons (pv 7) pa_nil))))))))))), ?_⟩
    refine ⟨_, rfl, de, L, us, xs, S1, rfl, hde, hE, by omega, hw, fun d H1 hd hst s1 => ?_⟩
    obtain ⟨kvs, hd1, hkl, ⟨hk2, hkn⟩, hsv⟩ := id hst
    have hP1 := hP.same s1
    refine ⟨_, rfl, d, kvs, rfl, .of hd1, fun lo hlo => ⟨lo, rfl, ⟨_, SqL.of upd_same⟩, ?_⟩⟩
    have s2 : Same H1 (upd H1 lo (.lst (kvs.map fun kv => kV kv.1))) := sameAt (Same.refl _) hlo
    have hlo2 : (upd H1 lo (.lst (kvs.map fun kv => kV kv.1))) lo = some (.lst (kvs.map fun kv => kV kv.1)) := upd_same
    generalize (upd H1 lo (.lst (kvs.map fun kv => kV kv.1))) = H2 at s2 hlo2 ⊢
    refine fun D hD => lc_list (a := lo) (xs := kvs.map fun kv => kV kv.1) (fun i H3 => ∃ ids : List Int, H3 D = some (.lst (ids.map V.int)) ∧ ids.length ≤ i ∧ (∀ id ∈ ids, ∃ z k m a, S1 id = some (.at_ z k m a)) ∧ Same H2 H3) ⟨[], upd_same, Nat.zero_le _, (fun _ h => nomatch h), sameAt (Same.refl _) hD⟩ (fun i H3 _ hv => by obtain ⟨_, _, _, _, h⟩ := hv; exact SqL.of (h _ _ hlo2)) ?_ ?_
    · rintro i v H3 hvi ⟨ids, hD3, hln, hids, s3⟩
      rw [List.getElem?_map] at hvi
      obtain ⟨kv, hkv, rfl⟩ : ∃ kv, kvs[i]? = some kv ∧ v = kV kv.1 := by
        cases e : kvs[i]? with
        | none => rw [e] at hvi; cases hvi
        | some z => rw [e] at hvi; exact ⟨z, rfl, (Option.some.inj hvi).symm⟩
      have hil := (List.getElem?_eq_some_iff.mp hkv).1
      have hm := List.mem_of_getElem? hkv
      obtain ⟨id, hid⟩ := hk2 _ hm
      obtain ⟨v, hv⟩ := mem_val hm
      rw [hid] at hv ⊢
      have hs1 := s3 _ _ (s2 _ _ hd1)
      have sv := (hsv id).but (fun t xs e => s3 _ _ (s2 _ _ e))
      rw [hv] at sv
      have hg := DGet.k (k := Sum.inl id) hs1
      rw [hv] at hg
      cases eS : S1 id with
      | none => rw [eS] at sv; exact absurd sv (fun z => z)
      | some r =>
        rw [eS] at sv
        cases r with
        | tb =>
          obtain rfl : v = .non := sv
          refine ⟨rfl, _, rfl, _, rfl, d, _, rfl, hg, rfl, _, rfl, iteF ?_⟩
          exact ⟨ids, hD3, by omega, hids, s3⟩
        | at_ z k m am =>
          obtain ⟨t, rfl, ht⟩ := sv
          refine ⟨rfl, _, rfl, _, rfl, d, _, rfl, hg, rfl, _, rfl, iteT ?_⟩
          refine ⟨_, rfl, _, hD3, (by rw [List.length_map]; exact small1000 (by omega)), ids ++ [id], ?_, by rw [List.length_append]; show ids.length + 1 ≤ i + 1; omega, fun id' hid' => ?_, ?_⟩
          · rw [upd_same, List.map_append]
            rfl
          · rcases List.mem_append.mp hid' with h | h
            · exact hids _ h
            · rw [List.mem_singleton.mp h]
              exact ⟨z, k, m, am, eS⟩
          · exact sameAt s3 hD
    rintro H3 ⟨ids, hD3, hln, hids, s3⟩
    rw [List.length_map] at hln
    have hP3 := hP1.same (s2.trans s3)
    have sA : Same H H3 := s1.trans (s2.trans s3)
    have Dp : D ≠ p := fun z => (hP1.same s2).ne.1 (z ▸ hD)
    have l1 := LL.some_
    have l8 := LL.few
    refine ⟨_, rfl, p, s0, 5, rfl, hP3, (by decide), (by decide), fun kind H4 q0 q5 P4 => ?_⟩
    have PP4 : Pl H H4 p s0 := ⟨P4.now, hP.ne.1, hP.ne.2, fun b o hb hn => P4.keep (sA _ _ hb) hn⟩
    have hD4 := P4.keep hD3 Dp
    refine ⟨_, rfl, _, _, rfl, rfl, _, rfl, ?_⟩
    refine ite2 (fun c1 => ?_) (fun c1 => ?_)
    · skip
      refine ⟨_, rfl, dl, _, rfl, .of (PP4.dk hP hdl), fun l hl => ?_⟩
      have e1 : (LK L).map (fun kv => kV kv.1) = (L.map (·.1)).map V.str := by
        unfold LK
        rw [List.map_map, List.map_map]
        rfl
      rw [e1]
      have PP5 : Pl H (upd H4 l (.lst ((L.map (·.1)).map V.str))) p s0 := PP4.new hl
      have hlp : l ≠ p := fun z => P4.now.ne.1 (z ▸ hl)
      refine ⟨_, rfl, _, rfl, dl, _, rfl, PP5.dk hP hdl, p, s0, _, rfl, PP5.now, (by rw [LK_len]; omega), (by rw [LK_len]; omega), fun g H6 g0 g1 P6 => ?_⟩
      rw [LK_len] at g1
      obtain ⟨g, rfl⟩ : ∃ n : Nat, g = (n : Int) := ⟨g.toNat, by omega⟩
      have hg : g < L.length := by omega
      have PP6 := PP5.trans P6
      have hm : L[g] ∈ L := List.getElem_mem hg
      have hlk : L.lookup L[g].1 = some L[g].2 := lookup_mem LL.nd hm
      have b0 := LL.lo _ hm
      have b1 := LL.hi _ hm
      refine ⟨_, _, _, V.str L[g].1, rfl, rfl, SqL.of (P6.keep upd_same hlp), atI_nat (by rw [List.getElem?_map, List.getElem?_map, List.getElem?_eq_getElem hg]; rfl), ?_⟩
      have hgl := DGet.k (k := Sum.inr L[g].1) (PP6.dk hP hdl)
      rw [LK_val, hlk] at hgl
      refine ⟨_, rfl, _, rfl, _, rfl, _, rfl, dl, _, rfl, hgl, _, _, rfl, _, _, rfl, rfl, p, s0, _, rfl, PP6.now, (by split <;> omega), (by split <;> omega), fun dd H7 d0 d1 P7 => ⟨_, _, rfl, rfl, _, rfl, p, s0, 9, rfl, (PP6.trans P7).now, (by decide), (by decide), fun ee H8 e0 e9 P8 => ⟨rfl, .inr ⟨_, rfl, _, _, rfl, rfl, ?_⟩⟩⟩⟩
      have PP8 := (PP6.trans P7).trans P8
      refine ⟨_, rfl, _, rfl, _, rfl, _, rfl, _, rfl, dk, _, rfl, .inl (SqL.of (PP8.sl hP hdk)), p, s0, _, rfl, PP8.now, (by rw [List.length_map]; omega), (by rw [List.length_map]; omega), fun gk H9 gk0 gk1 P9 => ?_⟩
      rw [List.length_map] at gk1
      obtain ⟨gk, rfl⟩ : ∃ n : Nat, gk = (n : Int) := ⟨gk.toNat, by omega⟩
      have hgk : gk < ks.length := by omega
      have PP9 := PP8.trans P9
      refine ⟨_, _, _, V.str ks[gk], rfl, rfl, SqL.of (PP9.sl hP hdk), atI_nat (by rw [List.getElem?_map, List.getElem?_eq_getElem hgk]; rfl), _, rfl, _, rfl, p, s0, rfl, PP9.now, fun am H10 P10 => ⟨(by show 6 ≤ sizeLine; decide), fun e he => ?_⟩⟩
      exact q e (.row number L[g].1 ks[gk] _ am 0) _ upd_same ⟨⟨hn, fun _ _ _ _ _ _ z => by
        cases z
        exact ⟨LL.nm _ hm, kn _ (List.getElem_mem hgk)⟩⟩, fun _ _ _ _ _ _ z => by cases z; rw [hlk]; rfl⟩ (.inl rfl) ((PP9.trans P10).new he)
    · refine ⟨_, rfl, D, _, rfl, .inl (SqL.of hD4), rfl, _, rfl, ?_⟩
      refine ite2 (fun c2 => ?_) (fun c2 => ?_)
      · skip
        refine ⟨_, rfl, dl, _, rfl, .of (PP4.dk hP hdl), fun l hl => ?_⟩
        have e1 : (LK L).map (fun kv => kV kv.1) = (L.map (·.1)).map V.str := by
          unfold LK
          rw [List.map_map, List.map_map]
          rfl
        rw [e1]
        have PP5 : Pl H (upd H4 l (.lst ((L.map (·.1)).map V.str))) p s0 := PP4.new hl
        have hlp : l ≠ p := fun z => P4.now.ne.1 (z ▸ hl)
        refine ⟨_, rfl, _, rfl, dl, _, rfl, PP5.dk hP hdl, p, s0, _, rfl, PP5.now, (by rw [LK_len]; omega), (by rw [LK_len]; omega), fun g H6 g0 g1 P6 => ?_⟩
        rw [LK_len] at g1
        obtain ⟨g, rfl⟩ : ∃ n : Nat, g = (n : Int) := ⟨g.toNat, by omega⟩
        have hg : g < L.length := by omega
        have PP6 := PP5.trans P6
        have hm : L[g] ∈ L := List.getElem_mem hg
        have hlk : L.lookup L[g].1 = some L[g].2 := lookup_mem LL.nd hm
        have b0 := LL.lo _ hm
        have b1 := LL.hi _ hm
        refine ⟨_, _, _, V.str L[g].1, rfl, rfl, SqL.of (P6.keep upd_same hlp), atI_nat (by rw [List.getElem?_map, List.getElem?_map, List.getElem?_eq_getElem hg]; rfl), ?_⟩
        have hgl := DGet.k (k := Sum.inr L[g].1) (PP6.dk hP hdl)
        rw [LK_val, hlk] at hgl
        refine ⟨_, rfl, _, rfl, _, rfl, _, rfl, dl, _, rfl, hgl, _, _, rfl, _, _, rfl, rfl, p, s0, _, rfl, PP6.now, (by split <;> omega), (by split <;> omega), fun dd H7 d0 d1 P7 => ⟨_, _, rfl, rfl, _, rfl, p, s0, 9, rfl, (PP6.trans P7).now, (by decide), (by decide), fun ee H8 e0 e9 P8 => ⟨rfl, .inr ⟨_, rfl, _, _, rfl, rfl, ?_⟩⟩⟩⟩
        have PP8 := (PP6.trans P7).trans P8
        refine ⟨_, rfl, _, rfl, _, rfl, _, rfl, _, rfl, dk, _, rfl, .inl (SqL.of (PP8.sl hP hdk)), p, s0, _, rfl, PP8.now, (by rw [List.length_map]; omega), (by rw [List.length_map]; omega), fun gk H9 gk0 gk1 P9 => ?_⟩
        rw [List.length_map] at gk1
        obtain ⟨gk, rfl⟩ : ∃ n : Nat, gk = (n : Int) := ⟨gk.toNat, by omega⟩
        have hgk : gk < ks.length := by omega
        have PP9 := PP8.trans P9
        refine ⟨_, _, _, V.str ks[gk], rfl, rfl, SqL.of (PP9.sl hP hdk), atI_nat (by rw [List.getElem?_map, List.getElem?_eq_getElem hgk]; rfl), _, rfl, _, rfl, p, s0, rfl, PP9.now, fun am H10 P10 => ⟨(by show 6 ≤ sizeLine; decide), fun e he => ?_⟩⟩
        exact q e (.row number L[g].1 ks[gk] _ am 0) _ upd_same ⟨⟨hn, fun _ _ _ _ _ _ z => by
          cases z
          exact ⟨LL.nm _ hm, kn _ (List.getElem_mem hgk)⟩⟩, fun _ _ _ _ _ _ z => by cases z; rw [hlk]; rfl⟩ (.inl rfl) ((PP9.trans P10).new he)
      · have hne : 0 < ids.length := by
          refine Nat.pos_of_ne_zero fun z => c2 (decide_eq_true ?_)
          rw [List.length_map, z]
          rfl
        refine ⟨_, rfl, _, rfl, _, rfl, D, _, rfl, .inl (SqL.of hD4), p, s0, _, rfl, PP4.now, (by rw [List.length_map]; omega), (by rw [List.length_map]; omega), fun g H5 g0 g1 P5 => ?_⟩
        rw [List.length_map] at g1
        obtain ⟨g, rfl⟩ : ∃ n : Nat, g = (n : Int) := ⟨g.toNat, by omega⟩
        have hg : g < ids.length := by omega
        have PP5 := PP4.trans P5
        obtain ⟨z, k, m, a0, eS⟩ := hids _ (List.getElem_mem hg)
        have hS : S1 ids[g] ≠ none := by rw [eS]; exact fun z => nomatch z
        have hpos : 0 ≤ ids[g] := pos _ hS
        refine ⟨_, _, _, V.int ids[g], rfl, rfl, SqL.of (P5.keep hD4 Dp), atI_nat (by rw [List.getElem?_map, List.getElem?_eq_getElem hg]; rfl), _, rfl, rfl, _, rfl, ?_⟩
        refine ite2 (fun c3 => ?_) (fun c3 => ?_)
        · refine ⟨_, rfl, _, rfl, _, rfl, p, s0, 3, rfl, PP5.now, (by decide), (by decide), fun dd H6 d0 d3 P6 => ⟨_, _, rfl, rfl, _, rfl, p, s0, rfl, (PP5.trans P6).now, fun am H7 P7 => ⟨(by show 4 ≤ sizeLine; decide), fun e he => ?_⟩⟩⟩
          exact q e (.fix ids[g] (now - dd) am 0) _ upd_same ⟨⟨hpos, fun _ _ _ _ _ _ z => by cases z⟩, fun _ _ _ _ _ _ z => by cases z⟩ (.inr hS) (((PP5.trans P6).trans P7).new he)
        · refine ⟨_, rfl, (by show 2 ≤ sizeLine; decide), fun e he => ?_⟩
          exact q e (.gone ids[g] 0) _ upd_same ⟨⟨hpos, fun _ _ _ _ _ _ z => by cases z⟩, fun _ _ _ _ _ _ z => by cases z⟩ (.inr hS) (PP5.new he)
end
end Ash

set_option Elab.async false
set_option linter.all false
set_option maxRecDepth 100000
set_option maxHeartbeats 4000000
namespace Ash
open PySem PySem.Spec PyProof.Rows L2
open C8 (pss_cut)
/-! ### is an entry good behind what is known -/
def LastV : Option Int → V
  | none => .non
  | some t => .int t
def good? (L : List (Str × Int)) (S : Kn) (l : Option Int) (x : Ent) : Bool := !late? l x.arr && (behind L x (S x.id)).isSome
/-- streams of the lates alone -/
def InL (L : List (Str × Int)) (S : Kn) (x : Ent) : Prop := (∀ id s k m a, S id = some (.at_ s k m a) → (L.lookup s).isSome) ∧ ∀ id s k m a r, x = .row id s k m a r → (L.lookup s).isSome
def spGood : Sp := fun vs H Q _ => ∃ (dl ds e : Addr) (L : List (Str × Int)) (S : Kn) (n : Nat) (l : Option Int) (x : Ent), vs = [.ref dl, .ref ds, LastV l, .ref e] ∧ H dl = some (.dK (LK L)) ∧ StK H ds S n ∧ EntAt H e x ∧ InL L S x ∧ Q (.bl (good? L S l x)) H
section
variable {P : Program} {w : World} {K : PySem.W.Frag} {mg : Str → Option Value} {base : Heap}
abbrev s_l_is_good : Stmt := topS 52
theorem sc_l_is_good : FnScope ["_law_lates_here", "_law_states_here", "_law_last", "_law_entry_here", "_law_arrival", "_law_old", "_law_late"] ["_law_lates_here", "_law_states_here", "_law_last", "_law_entry_here"] (defScope s_l_is_good) := ⟨rfl, rfl, rfl, by decide +kernel, rfl, by decide +kernel, by decide +kernel⟩
theorem ok_good {f : Addr} {fd : FuncData} (F : Fun K "_law_is_good" "_law_is_good" s_l_is_good f fd) (B : Blt mg) : FnOk P w K mg base CX0 1 f fd ["_law_lates_here", "_law_states_here", "_law_last", "_law_entry_here"] spGood := by
  refine F.ok sc_l_is_good (fun vs H Q E h => ?_) (fun cdv A outer s H vs Q E hr h => ?_)
  · obtain ⟨dl, ds, e, L, S, n, l, x, rfl, _⟩ := h
    rfl
  · obtain ⟨dl, ds, e, L, S, n, l, x, rfl, hdl, hst, he, hI, q⟩ := h
    have hu := hu_of hr
    obtain ⟨kvs, hd1, hkl, ⟨hk2, hkn⟩, hsv⟩ := id hst
    refine ⟨_, (pss_cons (ps_set (i := 4) sc_l_is_good.nd rfl (Or.inl rfl) (pe_ix ix_tup (pv 3) (pe_op op_sub (pe_callB call_len_seq (by rfl) B.len (by decide +kernel) (pa_cons (pv 3) pa_nil)) pe_int) (fun _ _ => rfl)))
    (pss_cons (ps_if (PW.pt (pw_and (pt_cmpR op_notN (pv 2) pe_non (nomark _)) (pw_and1 (pt_cmpR op_lt (pv 4) (pv 2) (nomark _)))))
      (pss_one (ps_ret pe_bl))
      pss_nil)
    (pss_cons (ps_if (pt_cmpR op_eq (pe_ix ix_tup (pv 3) pe_int (fun _ _ => rfl)) pe_str (nomark _))
      (pss_one (ps_ret (pe_and (pe_cmp (pc_dnotin hu (pe_ix ix_tup (pv 3) pe_int (fun _ _ => rfl)) (pv 1)) rfl) (pe_one (pe_chain op_le op_le (pe_ix ix_tup (pv 3) pe_int (fun _ _ => rfl)) (pv 4) (pe_op op_add (pe_ix ix_tup (pv 3) pe_int (fun _ _ => rfl)) (pe_dget hu (pv 0) (pe_ix ix_tup (pv 3) pe_int (fun _ _ => rfl)) (fun _ _ => rfl))))))))
      pss_nil)
    (pss_cons (ps_if (PW.pt (pw_or (pt_cmp (pc_dnotin hu (pe_ix ix_tup (pv 3) pe_int (fun _ _ => rfl)) (pv 1)) rfl) (pw_or1 (pt_cmpR op_isN (pe_dget hu (pv 1) (pe_ix ix_tup (pv 3) pe_int (fun _ _ => rfl)) (fun _ _ => rfl)) pe_non (nomark _)))))
      (pss_one (ps_ret pe_bl))
      pss_nil)
    (pss_cons (ps_set (i := 5) sc_l_is_good.nd rfl (Or.inl rfl) (pe_dget hu (pv 1) (pe_ix ix_tup (pv 3) pe_int (fun _ _ => rfl)) (fun _ _ => rfl)))
    (pss_cons (ps_set (i := 6) sc_l_is_good.nd rfl (Or.inl rfl) (pe_dget hu (pv 0) (pe_ix ix_tup (pv 5) pe_int (fun _ _ => rfl)) (fun _ _ => rfl)))
    (pss_cons (ps_if (pt_cmpR op_gt (pv 4) (pe_op op_add (pe_ix ix_tup (pv 5) pe_int (fun _ _ => rfl)) (pv 6)) (nomark _))
      (pss_one (ps_ret pe_bl))
      pss_nil)
    (pss_one (ps_ret (pe_or (pe_cmpR op_eq (pe_ix ix_tup (pv 3) pe_int (fun _ _ => rfl)) pe_str (nomark _)) (pe_one (pe_chain op_le op_le (pe_ix ix_tup (pv 3) pe_int (fun _ _ => rfl)) (pv 4) (pe_op op_add (pe_ix ix_tup (pv 3) pe_int (fun _ _ => rfl)) (pv 6)))))))))))))), ?_⟩
    have no (b : Bool) (e0 : good? L S l x = b) : Q (.bl b) H := e0 ▸ q
    have lk (s : Str) (hs : (L.lookup s).isSome) : ∃ lt, L.lookup s = some lt ∧ DGet H dl (.str s) (some (.int lt)) := by
      obtain ⟨lt, hlt⟩ := Option.isSome_iff_exists.mp hs
      have := DGet.k (k := Sum.inr s) hdl
      rw [LK_val, hlt] at this
      exact ⟨lt, hlt, this⟩
    have st (id : Int) : (S id = none ∧ DGet H ds (.int id) none) ∨ (S id = some .tb ∧ DGet H ds (.int id) (some .non)) ∨ ∃ s k m a t, S id = some (.at_ s k m a) ∧ DGet H ds (.int id) (some (.ref t)) ∧ H t = some (.tup [.str s, .str k, .int m, .int a]) := by
      have sv := hsv id
      have hg := DGet.k (k := Sum.inl id) hd1
      cases ev : valV kvs (Sum.inl id : Key) with
      | none =>
        rw [ev] at sv hg
        cases eS : S id with
        | none => exact .inl ⟨rfl, hg⟩
        | some y => rw [eS] at sv; exact absurd sv (fun z => z)
      | some v =>
        rw [ev] at sv hg
        cases eS : S id with
        | none => rw [eS] at sv; exact absurd sv (fun z => z)
        | some y =>
          rw [eS] at sv
          cases y with
          | tb => obtain rfl : v = .non := sv; exact .inr (.inl ⟨rfl, hg⟩)
          | at_ s k m a => obtain ⟨t, rfl, ht⟩ := sv; exact .inr (.inr ⟨s, k, m, a, t, rfl, hg, ht⟩)
    cases x with
    | row id s k m a r =>
      refine ⟨_, rfl, _, rfl, e, _, rfl, .inr (SqT.of he), _, _, rfl, rfl, _, _, _, _, rfl, rfl, SqT.of he, rfl, ?_⟩
      cases l with
      | none =>
        have hl : late? none r = false := rfl
        refine ⟨_, rfl, rfl, _, rfl, iteF ?_⟩
        have ge (o) (eS : S id = o) : good? L S none (.row id s k m a r) = (behind L (.row id s k m a r) o).isSome := by
          show (!late? _ r && (behind L _ (S id)).isSome) = _
          rw [hl, eS]; rfl
        obtain ⟨lt, hlt, hgl⟩ := lk s (hI.2 _ _ _ _ _ _ rfl)
        refine ⟨_, rfl, _, _, _, _, rfl, rfl, SqT.of he, rfl, rfl, _, rfl, iteT ?_⟩
        rcases st id with ⟨eS, hg⟩ | h
        · refine ⟨_, rfl, _, _, _, _, rfl, rfl, SqT.of he, rfl, _, rfl, ds, _, rfl, hg, _, rfl, iteT ?_⟩
          have e0 := ge _ eS
          have e1 : (behind L (.row id s k m a r) none).isSome = decide (m ≤ r ∧ r ≤ m + lt) := by
            show ((L.lookup s).bind _).isSome = _
            rw [hlt, Option.bind_some]
            split
            · rename_i c; rw [decide_eq_true c]; rfl
            · rename_i c; rw [decide_eq_false c]; rfl
          rw [e1] at e0
          by_cases c1 : m ≤ r
          · refine ⟨_, rfl, _, _, _, _, rfl, rfl, SqT.of he, rfl, _, rfl, _, _, rfl, rfl, true, congrArg V.bl (decide_eq_true c1), iteT ⟨_, rfl, _, _, _, _, rfl, rfl, SqT.of he, rfl, _, rfl, _, rfl, _, _, _, _, rfl, rfl, SqT.of he, rfl, dl, _, rfl, hgl, _, _, rfl, rfl, _, _, rfl, rfl, ?_⟩⟩
            exact no _ (e0.trans (by congr 1; exact propext ⟨fun z => z.2, fun z => ⟨c1, z⟩⟩))
          · refine ⟨_, rfl, _, _, _, _, rfl, rfl, SqT.of he, rfl, _, rfl, _, _, rfl, rfl, false, congrArg V.bl (decide_eq_false c1), iteF ?_⟩
            exact no _ (e0.trans (decide_eq_false fun z => c1 z.1))
        · have h2 : ∃ y v, S id = some y ∧ DGet H ds (.int id) (some v) := by
            rcases h with ⟨eS, hg⟩ | ⟨_, _, _, _, _, eS, hg, _⟩
            · exact ⟨_, _, eS, hg⟩
            · exact ⟨_, _, eS, hg⟩
          obtain ⟨y, v, eS, hg⟩ := h2
          refine ⟨_, rfl, _, _, _, _, rfl, rfl, SqT.of he, rfl, _, rfl, ds, _, rfl, hg, _, rfl, iteF ?_⟩
          exact no _ (ge _ eS)

      | some t0 =>
        refine ⟨_, rfl, rfl, _, rfl, iteT ⟨_, rfl, _, rfl, _, _, rfl, rfl, _, rfl, ?_⟩⟩
        refine ite2 (fun c => ?_) (fun c => ?_)
        · exact no false (by have c := of_decide_eq_true c; show (!decide (r < t0) && _) = false; rw [decide_eq_true c]; rfl)
        · have hl : late? (some t0) r = false := decide_eq_false fun z => c (decide_eq_true z)
          have ge (o) (eS : S id = o) : good? L S (some t0) (.row id s k m a r) = (behind L (.row id s k m a r) o).isSome := by
            show (!late? _ r && (behind L _ (S id)).isSome) = _
            rw [hl, eS]; rfl
          obtain ⟨lt, hlt, hgl⟩ := lk s (hI.2 _ _ _ _ _ _ rfl)
          refine ⟨_, rfl, _, _, _, _, rfl, rfl, SqT.of he, rfl, rfl, _, rfl, iteT ?_⟩
          rcases st id with ⟨eS, hg⟩ | h
          · refine ⟨_, rfl, _, _, _, _, rfl, rfl, SqT.of he, rfl, _, rfl, ds, _, rfl, hg, _, rfl, iteT ?_⟩
            have e0 := ge _ eS
            have e1 : (behind L (.row id s k m a r) none).isSome = decide (m ≤ r ∧ r ≤ m + lt) := by
              show ((L.lookup s).bind _).isSome = _
              rw [hlt, Option.bind_some]
              split
              · rename_i c; rw [decide_eq_true c]; rfl
              · rename_i c; rw [decide_eq_false c]; rfl
            rw [e1] at e0
            by_cases c1 : m ≤ r
            · refine ⟨_, rfl, _, _, _, _, rfl, rfl, SqT.of he, rfl, _, rfl, _, _, rfl, rfl, true, congrArg V.bl (decide_eq_true c1), iteT ⟨_, rfl, _, _, _, _, rfl, rfl, SqT.of he, rfl, _, rfl, _, rfl, _, _, _, _, rfl, rfl, SqT.of he, rfl, dl, _, rfl, hgl, _, _, rfl, rfl, _, _, rfl, rfl, ?_⟩⟩
              exact no _ (e0.trans (by congr 1; exact propext ⟨fun z => z.2, fun z => ⟨c1, z⟩⟩))
            · refine ⟨_, rfl, _, _, _, _, rfl, rfl, SqT.of he, rfl, _, rfl, _, _, rfl, rfl, false, congrArg V.bl (decide_eq_false c1), iteF ?_⟩
              exact no _ (e0.trans (decide_eq_false fun z => c1 z.1))
          · have h2 : ∃ y v, S id = some y ∧ DGet H ds (.int id) (some v) := by
              rcases h with ⟨eS, hg⟩ | ⟨_, _, _, _, _, eS, hg, _⟩
              · exact ⟨_, _, eS, hg⟩
              · exact ⟨_, _, eS, hg⟩
            obtain ⟨y, v, eS, hg⟩ := h2
            refine ⟨_, rfl, _, _, _, _, rfl, rfl, SqT.of he, rfl, _, rfl, ds, _, rfl, hg, _, rfl, iteF ?_⟩
            exact no _ (ge _ eS)

    | fix id m a r =>
      refine ⟨_, rfl, _, rfl, e, _, rfl, .inr (SqT.of he), _, _, rfl, rfl, _, _, _, _, rfl, rfl, SqT.of he, rfl, ?_⟩
      cases l with
      | none =>
        have hl : late? none r = false := rfl
        refine ⟨_, rfl, rfl, _, rfl, iteF ?_⟩
        have ge (o) (eS : S id = o) : good? L S none (.fix id m a r) = (behind L (.fix id m a r) o).isSome := by
          show (!late? _ r && (behind L _ (S id)).isSome) = _
          rw [hl, eS]; rfl
        refine ⟨_, rfl, _, _, _, _, rfl, rfl, SqT.of he, rfl, rfl, _, rfl, iteF ?_⟩
        rcases st id with ⟨eS, hg⟩ | ⟨eS, hg⟩ | ⟨s, k, m0, a0, t, eS, hg, ht⟩
        · refine ⟨_, rfl, _, _, _, _, rfl, rfl, SqT.of he, rfl, _, rfl, ds, _, rfl, hg, _, rfl, iteT ?_⟩
          exact no _ (ge _ eS)
        · refine ⟨_, rfl, _, _, _, _, rfl, rfl, SqT.of he, rfl, _, rfl, ds, _, rfl, hg, _, rfl, iteF ⟨_, rfl, _, rfl, _, _, _, _, rfl, rfl, SqT.of he, rfl, ds, _, rfl, hg, rfl, _, rfl, iteT ?_⟩⟩
          exact no _ (ge _ eS)
        obtain ⟨lt, hlt, hgl⟩ := lk s (hI.1 _ _ _ _ _ eS)
        refine ⟨_, rfl, _, _, _, _, rfl, rfl, SqT.of he, rfl, _, rfl, ds, _, rfl, hg, _, rfl, iteF ⟨_, rfl, _, rfl, _, _, _, _, rfl, rfl, SqT.of he, rfl, ds, _, rfl, hg, rfl, _, rfl, iteF ?_⟩⟩
        refine ⟨_, rfl, _, rfl, _, _, _, _, rfl, rfl, SqT.of he, rfl, ds, _, rfl, hg, _, rfl, _, rfl, _, _, _, _, rfl, rfl, SqT.of ht, rfl, dl, _, rfl, hgl, _, rfl, _, rfl, _, _, _, _, rfl, rfl, SqT.of ht, rfl, _, rfl, _, _, rfl, rfl, _, _, rfl, rfl, _, rfl, ?_⟩
        have e0 := ge _ eS
        have e1 : (behind L (.fix id m a r) (some (.at_ s k m0 a0))).isSome = decide (r ≤ m0 + lt ∧ m ≤ r ∧ r ≤ m + lt) := by
          show ((L.lookup s).bind _).isSome = _
          rw [hlt, Option.bind_some]
          split
          · rename_i c; rw [decide_eq_true c]; rfl
          · rename_i c; rw [decide_eq_false c]; rfl
        rw [e1] at e0
        refine ite2 (fun c => ?_) (fun c => ?_)
        · have c := of_decide_eq_true c
          exact no _ (e0.trans (decide_eq_false fun z => by have := z.1; omega))
        · have c : ¬ m0 + lt < r := fun z => c (decide_eq_true z)
          refine ⟨_, rfl, _, _, _, _, rfl, rfl, SqT.of he, rfl, rfl, _, rfl, iteF ?_⟩
          by_cases c1 : m ≤ r
          · refine ⟨_, rfl, _, _, _, _, rfl, rfl, SqT.of he, rfl, _, rfl, _, _, rfl, rfl, true, congrArg V.bl (decide_eq_true c1), iteT ⟨_, rfl, _, _, _, _, rfl, rfl, SqT.of he, rfl, _, rfl, _, _, rfl, rfl, _, _, rfl, rfl, ?_⟩⟩
            exact no _ (e0.trans (by congr 1; exact propext ⟨fun z => z.2.2, fun z => ⟨by omega, c1, z⟩⟩))
          · refine ⟨_, rfl, _, _, _, _, rfl, rfl, SqT.of he, rfl, _, rfl, _, _, rfl, rfl, false, congrArg V.bl (decide_eq_false c1), iteF ?_⟩
            exact no _ (e0.trans (decide_eq_false fun z => c1 z.2.1))

      | some t0 =>
        refine ⟨_, rfl, rfl, _, rfl, iteT ⟨_, rfl, _, rfl, _, _, rfl, rfl, _, rfl, ?_⟩⟩
        refine ite2 (fun c => ?_) (fun c => ?_)
        · exact no false (by have c := of_decide_eq_true c; show (!decide (r < t0) && _) = false; rw [decide_eq_true c]; rfl)
        · have hl : late? (some t0) r = false := decide_eq_false fun z => c (decide_eq_true z)
          have ge (o) (eS : S id = o) : good? L S (some t0) (.fix id m a r) = (behind L (.fix id m a r) o).isSome := by
            show (!late? _ r && (behind L _ (S id)).isSome) = _
            rw [hl, eS]; rfl
          refine ⟨_, rfl, _, _, _, _, rfl, rfl, SqT.of he, rfl, rfl, _, rfl, iteF ?_⟩
          rcases st id with ⟨eS, hg⟩ | ⟨eS, hg⟩ | ⟨s, k, m0, a0, t, eS, hg, ht⟩
          · refine ⟨_, rfl, _, _, _, _, rfl, rfl, SqT.of he, rfl, _, rfl, ds, _, rfl, hg, _, rfl, iteT ?_⟩
            exact no _ (ge _ eS)
          · refine ⟨_, rfl, _, _, _, _, rfl, rfl, SqT.of he, rfl, _, rfl, ds, _, rfl, hg, _, rfl, iteF ⟨_, rfl, _, rfl, _, _, _, _, rfl, rfl, SqT.of he, rfl, ds, _, rfl, hg, rfl, _, rfl, iteT ?_⟩⟩
            exact no _ (ge _ eS)
          obtain ⟨lt, hlt, hgl⟩ := lk s (hI.1 _ _ _ _ _ eS)
          refine ⟨_, rfl, _, _, _, _, rfl, rfl, SqT.of he, rfl, _, rfl, ds, _, rfl, hg, _, rfl, iteF ⟨_, rfl, _, rfl, _, _, _, _, rfl, rfl, SqT.of he, rfl, ds, _, rfl, hg, rfl, _, rfl, iteF ?_⟩⟩
          refine ⟨_, rfl, _, rfl, _, _, _, _, rfl, rfl, SqT.of he, rfl, ds, _, rfl, hg, _, rfl, _, rfl, _, _, _, _, rfl, rfl, SqT.of ht, rfl, dl, _, rfl, hgl, _, rfl, _, rfl, _, _, _, _, rfl, rfl, SqT.of ht, rfl, _, rfl, _, _, rfl, rfl, _, _, rfl, rfl, _, rfl, ?_⟩
          have e0 := ge _ eS
          have e1 : (behind L (.fix id m a r) (some (.at_ s k m0 a0))).isSome = decide (r ≤ m0 + lt ∧ m ≤ r ∧ r ≤ m + lt) := by
            show ((L.lookup s).bind _).isSome = _
            rw [hlt, Option.bind_some]
            split
            · rename_i c; rw [decide_eq_true c]; rfl
            · rename_i c; rw [decide_eq_false c]; rfl
          rw [e1] at e0
          refine ite2 (fun c => ?_) (fun c => ?_)
          · have c := of_decide_eq_true c
            exact no _ (e0.trans (decide_eq_false fun z => by have := z.1; omega))
          · have c : ¬ m0 + lt < r := fun z => c (decide_eq_true z)
            refine ⟨_, rfl, _, _, _, _, rfl, rfl, SqT.of he, rfl, rfl, _, rfl, iteF ?_⟩
            by_cases c1 : m ≤ r
            · refine ⟨_, rfl, _, _, _, _, rfl, rfl, SqT.of he, rfl, _, rfl, _, _, rfl, rfl, true, congrArg V.bl (decide_eq_true c1), iteT ⟨_, rfl, _, _, _, _, rfl, rfl, SqT.of he, rfl, _, rfl, _, _, rfl, rfl, _, _, rfl, rfl, ?_⟩⟩
              exact no _ (e0.trans (by congr 1; exact propext ⟨fun z => z.2.2, fun z => ⟨by omega, c1, z⟩⟩))
            · refine ⟨_, rfl, _, _, _, _, rfl, rfl, SqT.of he, rfl, _, rfl, _, _, rfl, rfl, false, congrArg V.bl (decide_eq_false c1), iteF ?_⟩
              exact no _ (e0.trans (decide_eq_false fun z => c1 z.2.1))

    | gone id r =>
      refine ⟨_, rfl, _, rfl, e, _, rfl, .inr (SqT.of he), _, _, rfl, rfl, _, _, _, _, rfl, rfl, SqT.of he, rfl, ?_⟩
      cases l with
      | none =>
        have hl : late? none r = false := rfl
        refine ⟨_, rfl, rfl, _, rfl, iteF ?_⟩
        have ge (o) (eS : S id = o) : good? L S none (.gone id r) = (behind L (.gone id r) o).isSome := by
          show (!late? _ r && (behind L _ (S id)).isSome) = _
          rw [hl, eS]; rfl
        refine ⟨_, rfl, _, _, _, _, rfl, rfl, SqT.of he, rfl, rfl, _, rfl, iteF ?_⟩
        rcases st id with ⟨eS, hg⟩ | ⟨eS, hg⟩ | ⟨s, k, m0, a0, t, eS, hg, ht⟩
        · refine ⟨_, rfl, _, _, _, _, rfl, rfl, SqT.of he, rfl, _, rfl, ds, _, rfl, hg, _, rfl, iteT ?_⟩
          exact no _ (ge _ eS)
        · refine ⟨_, rfl, _, _, _, _, rfl, rfl, SqT.of he, rfl, _, rfl, ds, _, rfl, hg, _, rfl, iteF ⟨_, rfl, _, rfl, _, _, _, _, rfl, rfl, SqT.of he, rfl, ds, _, rfl, hg, rfl, _, rfl, iteT ?_⟩⟩
          exact no _ (ge _ eS)
        obtain ⟨lt, hlt, hgl⟩ := lk s (hI.1 _ _ _ _ _ eS)
        refine ⟨_, rfl, _, _, _, _, rfl, rfl, SqT.of he, rfl, _, rfl, ds, _, rfl, hg, _, rfl, iteF ⟨_, rfl, _, rfl, _, _, _, _, rfl, rfl, SqT.of he, rfl, ds, _, rfl, hg, rfl, _, rfl, iteF ?_⟩⟩
        refine ⟨_, rfl, _, rfl, _, _, _, _, rfl, rfl, SqT.of he, rfl, ds, _, rfl, hg, _, rfl, _, rfl, _, _, _, _, rfl, rfl, SqT.of ht, rfl, dl, _, rfl, hgl, _, rfl, _, rfl, _, _, _, _, rfl, rfl, SqT.of ht, rfl, _, rfl, _, _, rfl, rfl, _, _, rfl, rfl, _, rfl, ?_⟩
        have e0 := ge _ eS
        have e1 : (behind L (.gone id r) (some (.at_ s k m0 a0))).isSome = decide (r ≤ m0 + lt) := by
          show ((L.lookup s).bind _).isSome = _
          rw [hlt, Option.bind_some]
          split
          · rename_i c; rw [decide_eq_true c]; rfl
          · rename_i c; rw [decide_eq_false c]; rfl
        rw [e1] at e0
        refine ite2 (fun c => ?_) (fun c => ?_)
        · have c := of_decide_eq_true c
          exact no _ (e0.trans (decide_eq_false (by omega)))
        · have c : ¬ m0 + lt < r := fun z => c (decide_eq_true z)
          refine ⟨_, rfl, _, _, _, _, rfl, rfl, SqT.of he, rfl, rfl, _, rfl, iteT ?_⟩
          exact no _ (e0.trans (decide_eq_true (by omega)))

      | some t0 =>
        refine ⟨_, rfl, rfl, _, rfl, iteT ⟨_, rfl, _, rfl, _, _, rfl, rfl, _, rfl, ?_⟩⟩
        refine ite2 (fun c => ?_) (fun c => ?_)
        · exact no false (by have c := of_decide_eq_true c; show (!decide (r < t0) && _) = false; rw [decide_eq_true c]; rfl)
        · have hl : late? (some t0) r = false := decide_eq_false fun z => c (decide_eq_true z)
          have ge (o) (eS : S id = o) : good? L S (some t0) (.gone id r) = (behind L (.gone id r) o).isSome := by
            show (!late? _ r && (behind L _ (S id)).isSome) = _
            rw [hl, eS]; rfl
          refine ⟨_, rfl, _, _, _, _, rfl, rfl, SqT.of he, rfl, rfl, _, rfl, iteF ?_⟩
          rcases st id with ⟨eS, hg⟩ | ⟨eS, hg⟩ | ⟨s, k, m0, a0, t, eS, hg, ht⟩
          · refine ⟨_, rfl, _, _, _, _, rfl, rfl, SqT.of he, rfl, _, rfl, ds, _, rfl, hg, _, rfl, iteT ?_⟩
            exact no _ (ge _ eS)
          · refine ⟨_, rfl, _, _, _, _, rfl, rfl, SqT.of he, rfl, _, rfl, ds, _, rfl, hg, _, rfl, iteF ⟨_, rfl, _, rfl, _, _, _, _, rfl, rfl, SqT.of he, rfl, ds, _, rfl, hg, rfl, _, rfl, iteT ?_⟩⟩
            exact no _ (ge _ eS)
          obtain ⟨lt, hlt, hgl⟩ := lk s (hI.1 _ _ _ _ _ eS)
          refine ⟨_, rfl, _, _, _, _, rfl, rfl, SqT.of he, rfl, _, rfl, ds, _, rfl, hg, _, rfl, iteF ⟨_, rfl, _, rfl, _, _, _, _, rfl, rfl, SqT.of he, rfl, ds, _, rfl, hg, rfl, _, rfl, iteF ?_⟩⟩
          refine ⟨_, rfl, _, rfl, _, _, _, _, rfl, rfl, SqT.of he, rfl, ds, _, rfl, hg, _, rfl, _, rfl, _, _, _, _, rfl, rfl, SqT.of ht, rfl, dl, _, rfl, hgl, _, rfl, _, rfl, _, _, _, _, rfl, rfl, SqT.of ht, rfl, _, rfl, _, _, rfl, rfl, _, _, rfl, rfl, _, rfl, ?_⟩
          have e0 := ge _ eS
          have e1 : (behind L (.gone id r) (some (.at_ s k m0 a0))).isSome = decide (r ≤ m0 + lt) := by
            show ((L.lookup s).bind _).isSome = _
            rw [hlt, Option.bind_some]
            split
            · rename_i c; rw [decide_eq_true c]; rfl
            · rename_i c; rw [decide_eq_false c]; rfl
          rw [e1] at e0
          refine ite2 (fun c => ?_) (fun c => ?_)
          · have c := of_decide_eq_true c
            exact no _ (e0.trans (decide_eq_false (by omega)))
          · have c : ¬ m0 + lt < r := fun z => c (decide_eq_true z)
            refine ⟨_, rfl, _, _, _, _, rfl, rfl, SqT.of he, rfl, rfl, _, rfl, iteT ?_⟩
            exact no _ (e0.trans (decide_eq_true (by omega)))

end
end Ash

set_option Elab.async false
set_option linter.all false
set_option maxRecDepth 100000
set_option maxHeartbeats 4000000
namespace Ash
open PySem PySem.Spec PyProof.Rows L2
open C8 (pss_cut)
/-! ### the first bad one of a row of entries -/
def numV : Option Nat → V
  | none => .non
  | some i => .int i
def RowsIn (L : List (Str × Int)) (xs : List Ent) : Prop := ∀ x ∈ xs, ∀ id s k m a r, x = .row id s k m a r → (L.lookup s).isSome
theorem behind_in {L : List (Str × Int)} {x : Ent} {o : Option RowSt} {s k : Str} {m a : Int} (h : behind L x o = some (.at_ s k m a)) : (L.lookup s).isSome := by
  cases x with
  | row id z k1 m1 a1 r =>
    cases o with
    | some o => exact nomatch h
    | none =>
      have h : (L.lookup z).bind _ = some (RowSt.at_ s k m a) := h
      cases e : L.lookup z with
      | none => rw [e] at h; cases h
      | some l =>
        rw [e, Option.bind_some] at h
        split at h
        · cases h; rw [e]; rfl
        · cases h
  | fix id m1 a1 r =>
    cases o with
    | none => exact nomatch h
    | some o =>
      cases o with
      | tb => exact nomatch h
      | at_ z k1 m0 a0 =>
        have h : (L.lookup z).bind _ = some (RowSt.at_ s k m a) := h
        cases e : L.lookup z with
        | none => rw [e] at h; cases h
        | some l =>
          rw [e, Option.bind_some] at h
          split at h
          · cases h; rw [e]; rfl
          · cases h
  | gone id r =>
    cases o with
    | none => exact nomatch h
    | some o =>
      cases o with
      | tb => exact nomatch h
      | at_ z k1 m0 a0 =>
        have h : (L.lookup z).bind _ = some (RowSt.at_ s k m a) := h
        cases e : L.lookup z with
        | none => rw [e] at h; cases h
        | some l =>
          rw [e, Option.bind_some] at h
          split at h <;> cases h
def StIn (L : List (Str × Int)) (S : Kn) : Prop := ∀ id s k m a, S id = some (.at_ s k m a) → (L.lookup s).isSome
theorem StIn.put {L : List (Str × Int)} {S : Kn} {x : Ent} {y : RowSt} (h : StIn L S) (hb : behind L x (S x.id) = some y) : StIn L (setK S x.id y) := by
  intro id s k m a e
  by_cases c : id = x.id
  · have e' : some y = some (.at_ s k m a) := by rw [← e]; show _ = (if id = x.id then _ else _); rw [if_pos c]
    cases e'
    exact behind_in hb
  · have e' : S id = some (.at_ s k m a) := by rw [← e]; show _ = (if id = x.id then _ else _); rw [if_neg c]
    exact h _ _ _ _ _ e'
theorem good_step {L : List (Str × Int)} {xs : List Ent} {i : Nat} {x : Ent} {S : Kn} (hx : xs[i]? = some x) (hk : wk L ((xs.take i).map some) 0 (fun _ => none) none = (none, S)) :
    (good? L S (lastA (xs.take i) none) x = true ∧ ∃ y, behind L x (S x.id) = some y ∧ wk L ((xs.take (i + 1)).map some) 0 (fun _ => none) none = (none, setK S x.id y)) ∨
    (good? L S (lastA (xs.take i) none) x = false ∧ (wk L (xs.map some) 0 (fun _ => none) none).1 = some i ∧ ∀ n, i < n → n ≤ xs.length → ∀ S2, wk L ((xs.take n).map some) 0 (fun _ => none) none ≠ (none, S2)) := by
  have hil := (List.getElem?_eq_some_iff.mp hx).1
  have all (n : Nat) (hn : i < n) : ∃ r, wk L ((xs.take n).map some) 0 (fun _ => none) none = wk L (some x :: r) i S (lastA (xs.take i) none) := by
    obtain ⟨j, rfl⟩ : ∃ j, n = i + 1 + j := ⟨n - (i + 1), by omega⟩
    have e : xs.take (i + 1 + j) = xs.take i ++ x :: ((xs.drop (i + 1)).take j) := by
      rw [List.take_add, list_take' hx, List.append_assoc]; rfl
    refine ⟨((xs.drop (i + 1)).take j).map some, ?_⟩
    rw [e, List.map_append, wk_app _ hk, List.length_take, Nat.min_eq_left (by omega), Nat.zero_add]
    rfl
  by_cases c : late? (lastA (xs.take i) none) x.arr = true
  · refine .inr ⟨by unfold good?; rw [c]; rfl, ?_, fun n h1 _ S2 e => ?_⟩
    · obtain ⟨r, e⟩ := all xs.length hil
      rw [List.take_length] at e
      rw [e, wk_late c]
    · obtain ⟨r, e1⟩ := all n h1
      rw [e1, wk_late c] at e
      cases e
  · have c : late? (lastA (xs.take i) none) x.arr = false := Bool.eq_false_iff.mpr c
    cases hb : behind L x (S x.id) with
    | none =>
      refine .inr ⟨by unfold good?; rw [c, hb]; rfl, ?_, fun n h1 _ S2 e => ?_⟩
      · obtain ⟨r, e⟩ := all xs.length hil
        rw [List.take_length] at e
        rw [e, wk_bad c hb]
      · obtain ⟨r, e1⟩ := all n h1
        rw [e1, wk_bad c hb] at e
        cases e
    | some y =>
      refine .inl ⟨by unfold good?; rw [c, hb]; rfl, y, rfl, ?_⟩
      rw [list_take' hx, List.map_append, wk_app _ hk]
      show wk L [some x] _ S _ = _
      rw [wk_go c hb]
      rfl
def spBad : Sp := fun vs H Q _ => ∃ (dl a : Addr) (L : List (Str × Int)) (us : List V) (xs : List Ent) (n : Nat), vs = [.ref dl, .ref a, .int n] ∧ H dl = some (.dK (LK L)) ∧ H a = some (.lst us) ∧ Ents H us xs ∧ xs.length ≤ 450 ∧ n ≤ xs.length ∧ (∃ S0, wk L ((xs.take n).map some) 0 (fun _ => none) none = (none, S0)) ∧ RowsIn L xs ∧
  ∀ H', Same H H' → Q (numV (wk L (xs.map some) 0 (fun _ => none) none).1) H'
section
variable {P : Program} {w : World} {K : PySem.W.Frag} {mg : Str → Option Value} {base : Heap}
structure G7d (P : Program) (w : World) (K : PySem.W.Frag) (mg : Str → Option Value) (base : Heap) : Prop where
  law_put : Cal P w K mg base CX0 "_law_put" 1 ["_law_states_here", "_law_entry_here"] spPutK
  law_is_good : Cal P w K mg base CX0 "_law_is_good" 1 ["_law_lates_here", "_law_states_here", "_law_last", "_law_entry_here"] spGood
abbrev s_l_bad_from : Stmt := topS 53
theorem sc_l_bad_from : FnScope ["_law_lates_here", "_law_entries_here", "_law_begin_here", "_law_states_here", "_law_last", "_law_at"] ["_law_lates_here", "_law_entries_here", "_law_begin_here"] (defScope s_l_bad_from) := ⟨rfl, rfl, rfl, by decide +kernel, rfl, by decide +kernel, by decide +kernel⟩
theorem ok_bad {f : Addr} {fd : FuncData} (F : Fun K "_law_bad_from" "_law_bad_from" s_l_bad_from f fd) (B : Blt mg) (G : G7d P w K mg base) : FnOk P w K mg base CX0 2 f fd ["_law_lates_here", "_law_entries_here", "_law_begin_here"] spBad := by
  refine F.ok sc_l_bad_from (fun vs H Q E h => ?_) (fun cdv A outer s H vs Q E hr h => ?_)
  · obtain ⟨dl, a, L, us, xs, n, rfl, _⟩ := h
    rfl
  · obtain ⟨dl, a, L, us, xs, n, rfl, hdl, ha, hE, h9, hn, ⟨S0, hw0⟩, hR, q⟩ := h
    have hu := hu_of hr
    refine ⟨_, (pss_cons (ps_set (i := 3) sc_l_bad_from.nd rfl (Or.inl rfl) pe_dnewK)
    (pss_cons (ps_set (i := 4) sc_l_bad_from.nd rfl (Or.inl rfl) pe_non)
    (pss_cons (ps_for PassesOwn.never rfl (pi_range1 (by rfl) B.range (pa_cons (pe_callB call_len_seq (by rfl) B.len (by decide +kernel) (pa_cons (pv 1) pa_nil)) pa_nil)) (pg_name (i := 5) sc_l_bad_from.nd rfl (Or.inl rfl))
      (pss_cons (ps_if (PW.pt (pw_and (pt_cmpR op_ge (pv 5) (pv 2) (nomark _)) (pw_and1 (pt_not (pt_val (pe_cal G.law_is_good (hr.mono (by decide)) pass0 (pa_cons (pv 0) (pa_cons (pv 3) (pa_cons (pv 4) (pa_cons (pe_ix ix_list (pv 1) (pv 5) (fun _ _ => rfl)) pa_nil))))))))))
        (pss_one (ps_ret (pv 5)))
        pss_nil)
      (pss_cons (ps_expr (pe_cal G.law_put (hr.mono (by decide)) pass0 (pa_cons (pv 3) (pa_cons (pe_ix ix_list (pv 1) (pv 5) (fun _ _ => rfl)) pa_nil))))
      (pss_one (ps_set (i := 4) sc_l_bad_from.nd rfl (Or.inl rfl) (pe_ix ix_tup (pe_ix ix_list (pv 1) (pv 5) (fun _ _ => rfl)) (pe_op op_sub (pe_callB call_len_seq (by rfl) B.len (by decide +kernel) (pa_cons (pe_ix ix_list (pv 1) (pv 5) (fun _ _ => rfl)) pa_nil)) pe_int) (fun _ _ => rfl)))))))
    (pss_one (ps_ret pe_non))))), ?_⟩
    intro d hd
    have s1 := sameAt (Same.refl H) hd (o := .dK [])
    have hEl := hE.1
    refine ⟨_, rfl, a, _, rfl, .inl (SqL.of (s1 _ _ ha)), _, rfl, (by omega), (by omega), for_range (n := us.length) (fun i σ H1 => ∃ Si, (∃ b, σ = [some (.ref dl), some (.ref a), some (.int n), some (.ref d), some (LastV (lastA (xs.take i) none)), b]) ∧ wk L ((xs.take i).map some) 0 (fun _ => none) none = (none, Si) ∧ StIn L Si ∧ StK H1 d Si i ∧ Same H H1) ?_ ?_ ?_⟩
    · exact ⟨fun _ => none, ⟨_, rfl⟩, rfl, (fun _ _ _ _ _ h => nomatch h), ⟨[], upd_same, Nat.zero_le _, ⟨(fun _ h => nomatch h), .nil⟩, fun id => True.intro⟩, s1⟩
    · rintro i σ H1 hi ⟨Si, ⟨b, rfl⟩, hw, hSt, hst, sH⟩
      rw [show ((0 : Int) + (i : Int)) = i from Int.zero_add _]
      obtain ⟨x, hx⟩ : ∃ x, xs[i]? = some x := ⟨_, List.getElem?_eq_getElem (by omega)⟩
      obtain ⟨v, hv⟩ : ∃ v, us[i]? = some v := ⟨_, List.getElem?_eq_getElem hi⟩
      obtain ⟨e, rfl, he, hok⟩ := hE.2 i v x hv hx
      have hu1 := hv
      refine ⟨_, rfl, _, rfl, _, _, rfl, rfl, _, rfl, ?_⟩
      refine ite2 (fun c => ?_) (fun c => ?_)
      · refine ⟨_, rfl, _, rfl, _, rfl, _, rfl, _, rfl, _, _, _, V.ref e, rfl, rfl, SqL.of (sH _ _ ha), atI_nat hu1, dl, d, e, L, Si, i, lastA (xs.take i) none, x, rfl, sH _ _ hdl, hst, sH _ _ he, ⟨hSt, hR x (List.mem_of_getElem? hx)⟩, _, rfl, ?_⟩
        rcases good_step hx hw with ⟨hg, y, hb, hw1⟩ | ⟨hg, hr1, _⟩
        · rw [hg]
          refine iteF ?_
          have hHa := ha
          refine ⟨_, rfl, _, rfl, _, rfl, _, _, _, V.ref e, rfl, rfl, SqL.of (sH _ _ ha), atI_nat hu1, d, e, L, Si, i, x, y, rfl, hst, (by omega), sH _ _ he, hb, fun H2 st2 k2 => ?_⟩
          have sd : Same H H2 := fun c o hc => k2 c o (sH _ _ hc) (fun z => by rw [z, hd] at hc; cases hc)
          refine ⟨_, rfl, _, rfl, _, _, _, V.ref e, rfl, rfl, SqL.of (sd _ _ ha), atI_nat hu1, _, rfl, _, rfl, _, _, _, V.ref e, rfl, rfl, SqL.of (sd _ _ ha), atI_nat hu1, e, _, rfl, .inr (SqT.of (sd _ _ he)), _, _, rfl, rfl, _, _, _, V.int x.arr, rfl, rfl, SqT.of (sd _ _ he), (by cases x <;> rfl), ?_⟩
          exact ⟨setK Si x.id y, ⟨_, by rw [list_take' hx, lastA_snoc]; rfl⟩, hw1, hSt.put hb, st2, sd⟩
        · rw [hg]
          refine iteT ⟨_, rfl, ?_⟩
          have := q H1 sH
          rw [hr1] at this
          exact this
      · have c : ¬ (n : Int) ≤ i := fun z => c (decide_eq_true z)
        rcases good_step hx hw with ⟨hg, y, hb, hw1⟩ | ⟨_, _, h3⟩
        · skip
          have hHa := ha
          refine ⟨_, rfl, _, rfl, _, rfl, _, _, _, V.ref e, rfl, rfl, SqL.of (sH _ _ ha), atI_nat hu1, d, e, L, Si, i, x, y, rfl, hst, (by omega), sH _ _ he, hb, fun H2 st2 k2 => ?_⟩
          have sd : Same H H2 := fun c o hc => k2 c o (sH _ _ hc) (fun z => by rw [z, hd] at hc; cases hc)
          refine ⟨_, rfl, _, rfl, _, _, _, V.ref e, rfl, rfl, SqL.of (sd _ _ ha), atI_nat hu1, _, rfl, _, rfl, _, _, _, V.ref e, rfl, rfl, SqL.of (sd _ _ ha), atI_nat hu1, e, _, rfl, .inr (SqT.of (sd _ _ he)), _, _, rfl, rfl, _, _, _, V.int x.arr, rfl, rfl, SqT.of (sd _ _ he), (by cases x <;> rfl), ?_⟩
          exact ⟨setK Si x.id y, ⟨_, by rw [list_take' hx, lastA_snoc]; rfl⟩, hw1, hSt.put hb, st2, sd⟩
        · exact absurd hw0 (h3 n (by omega) hn S0)
    · rintro σ H1 ⟨Si, ⟨b, rfl⟩, hw, hSt, hst, sH⟩
      have := q H1 sH
      rw [hEl, List.take_length] at hw
      rw [hw] at this
      exact this
end
end Ash

set_option Elab.async false
set_option linter.all false
set_option maxRecDepth 100000
set_option maxHeartbeats 4000000
namespace Ash
open PySem PySem.Spec PyProof.Rows L2
open C8 (pss_cut)
/-! ### drafts -/
/-- a draft: since which close, the list of its entries -/
def dftF (n : Int) (l : Addr) : List (Str × V) := [("begun", .int n), ("entries", .ref l)]
structure Cd (K : PySem.W.Frag) (mg : Str → Option Value) (CD : Addr) : Prop where
  cl : Cls K CD
  nB : NoAttr K CD "begun"
  nE : NoAttr K CD "entries"
  c : mg "Draft" = some (.ref CD)
def spDraftInit (CD : Addr) : Sp := fun vs H Q _ => ∃ (o dx : Addr) (n : Int), vs = [.ref o, .int n] ∧ H o = some (.ins CD dx []) ∧
  ∀ l H', H l = none → H' o = some (.ins CD dx (dftF n l)) → H' l = some (.lst []) → (∀ c x, H c = some x → c ≠ o → H' c = some x) → Q .non H'
section
variable {P : Program} {w : World} {K : PySem.W.Frag} {mg : Str → Option Value} {base : Heap}
abbrev s_Draft_init : Stmt := inClass (topS 38) 0
theorem sc_Draft_init : FnScope ["self", "begun"] ["self", "begun"] (defScope s_Draft_init) := ⟨rfl, rfl, rfl, by decide +kernel, rfl, by decide +kernel, by decide +kernel⟩
theorem ok_draft_init {f CD : Addr} {fd : FuncData} (F : Fun K "__init__" "Draft.__init__" s_Draft_init f fd) (T : Cd K mg CD) : FnOk P w K mg base CX0 1 f fd ["self", "begun"] (spDraftInit CD) := by
  refine F.ok sc_Draft_init (fun vs H Q E h => ?_) (fun cdv A outer s H vs Q E hr h => ?_)
  · obtain ⟨o, dx, n, rfl, _⟩ := h
    rfl
  · obtain ⟨o, dx, n, rfl, ho, q⟩ := h
    have hu := hu_of hr
    refine ⟨_, (pss_cons (ps_fld (pv 0) (pv 1) rfl)
    (pss_one (ps_fld (pv 0) (pe_lst pa_nil) rfl))), ?_⟩
    refine ⟨_, rfl, _, rfl, o, CD, dx, [], rfl, ho, T.cl, T.nB, (by show 0 < 1000; decide), ?_⟩
    refine ⟨(by show 0 ≤ sizeLine; decide), fun l hl => ?_⟩
    have hlo : l ≠ o := fun z => by rw [z, upd_same] at hl; cases hl
    have hl0 : H l = none := by rw [upd_ne hlo] at hl; exact hl
    refine ⟨_, rfl, o, CD, dx, _, rfl, (by rw [upd_ne (Ne.symm hlo)]; exact upd_same), T.cl, T.nE, (by show 1 < 1000; decide), ?_⟩
    refine q l _ hl0 upd_same (by rw [upd_ne hlo]; exact upd_same) fun c x hc hn => ?_
    have hcl : c ≠ l := fun z => by rw [z, hl0] at hc; cases hc
    rw [upd_ne hn, upd_ne hcl, upd_ne hn]
    exact hc
end
end Ash

set_option Elab.async false
set_option linter.all false
set_option maxRecDepth 100000
set_option maxHeartbeats 4000000
namespace Ash
open PySem PySem.Spec PyProof.Rows L2
open C8 (pss_cut)
/-! ### offices -/
def ofF (b j dd pa : Addr) (cl : Int) (cb : Addr) : List (Str × V) := [("_book", .ref b), ("journal", .ref j), ("_drafts", .ref dd), ("_past", .ref pa), ("_closes", .int cl), ("_closed_by", .ref cb)]
/-- the drafts by their writers -/
def DK (ds : List (Str × Addr)) : List (Key × V) := ds.map fun x => (Sum.inr x.1, V.ref x.2)
theorem DK_val : ∀ (ds : List (Str × Addr)) (z : Str), valV (DK ds) (Sum.inr z : Key) = (ds.lookup z).map V.ref
  | [], z => rfl
  | a :: ds, z => by
    have ih := DK_val ds z
    by_cases h : a.1 = z
    · have h' : (z == a.1) = true := by simpa using h.symm
      show valV ((Sum.inr a.1, V.ref a.2) :: DK ds) (Sum.inr z : Key) = _
      rw [valV_pos (by rw [h])]
      obtain ⟨a1, a2⟩ := a
      simp only [List.lookup, h', Option.map_some]
    · have h' : (z == a.1) = false := by simpa using fun q => h q.symm
      show valV ((Sum.inr a.1, V.ref a.2) :: DK ds) (Sum.inr z : Key) = _
      rw [valV_neg (fun q => h (Sum.inr.inj q)), ih]
      obtain ⟨a1, a2⟩ := a
      simp only [List.lookup, h']
theorem par_writer : PySem.BadX.Par "writer" := ⟨by decide, by decide +kernel, by decide +kernel, by decide +kernel, by decide +kernel⟩
structure Co (K : PySem.W.Frag) (mg : Str → Option Value) (CO : Addr) : Prop where
  cl : Cls K CO
  nB : NoAttr K CO "_book"
  nJ : NoAttr K CO "journal"
  nD : NoAttr K CO "_drafts"
  nP : NoAttr K CO "_past"
  nC : NoAttr K CO "_closes"
  nY : NoAttr K CO "_closed_by"
  c : mg "Office" = some (.ref CO)
def spDraftOf (CO CI : Addr) : Sp := fun vs H Q E => ∃ (o dx b j dd pa cb : Addr) (cl : Int) (ds : List (Str × Addr)) (z : Str), vs = [.ref o, .str z] ∧ H o = some (.ins CO dx (ofF b j dd pa cl cb)) ∧ H dd = some (.dK (DK ds)) ∧ IsNm z ∧
  ((∃ a, ds.lookup z = some a ∧ ∀ H', Same H H' → Q (.ref a) H') ∨ (ds.lookup z = none ∧ ∀ d H', Same H H' → Xd H' d "writer" (.str z) → E (.ref CI) (some d) H'))
section
variable {P : Program} {w : World} {K : PySem.W.Frag} {mg : Str → Option Value} {base : Heap}
abbrev s_Officedraft_of : Stmt := inClass (topS 39) 10
theorem sc_Officedraft_of : FnScope ["self", "writer"] ["self", "writer"] (defScope s_Officedraft_of) := ⟨rfl, rfl, rfl, by decide +kernel, rfl, by decide +kernel, by decide +kernel⟩
theorem ok_draft_of {f CO CI fI : Addr} {fd : FuncData} (F : Fun K "_draft_of" "Office._draft_of" s_Officedraft_of f fd) (T : Co K mg CO) (TI : PySem.BadX.Txt P K mg "writer" "writer" CI fI) (c_Idle : mg "Idle" = some (.ref CI)) (G : K4 P w K mg base) : FnOk P w K mg base (L2.CX P w) 2 f fd ["self", "writer"] (spDraftOf CO CI) := by
  refine F.okX sc_Officedraft_of (fun vs H Q E h => ?_) (fun cdv A outer s H vs Q E hr h => ?_)
  · obtain ⟨o, dx, b, j, dd, pa, cb, cl, ds, z, rfl, _⟩ := h
    rfl
  · obtain ⟨o, dx, b, j, dd, pa, cb, cl, ds, z, rfl, ho, hdd, hz, hv⟩ := h
    have hu := hu_of hr
    refine ⟨_, (pss_cons (ps_if (PW.pt (pw_or (pt_not (pt_val (pe_cal G.is_name (hr.mono (by decide)) pass0 (pa_cons (pv 1) pa_nil)))) (pw_or1 (pt_cmp (pc_dnotin hu (pv 1) (pe_fld (pv 0) rfl)) rfl))))
      (pss_one (ps_raiseB rfl TI par_writer c_Idle (hr.mono (Nat.zero_le _)) (takes_of rfl rfl rfl rfl) (pa_cons (pv 1) pa_nil) (by rfl)))
      pss_nil)
    (pss_one (ps_ret (pe_dget hu (pe_fld (pv 0) rfl) (pv 1) (fun _ _ => rfl))))), ?_⟩
    refine ⟨_, rfl, _, rfl, .inl ⟨z, rfl, (by have := hz.2.1; rw [sizeLine_eq]; omega), fun H1 s1 => ⟨_, rfl, ?_⟩⟩⟩
    rw [(nmB_iff z).mpr hz]
    have ho1 := s1 _ _ ho
    have hg := DGet.k (k := Sum.inr z) (s1 _ _ hdd)
    rw [DK_val] at hg
    rcases hv with ⟨a, ha, q⟩ | ⟨ha, q⟩
    · rw [ha] at hg
      refine iteF ⟨_, rfl, _, rfl, o, CO, dx, _, _, rfl, ho1, T.cl, T.nD, rfl, dd, _, rfl, hg, _, rfl, iteF ?_⟩
      exact ⟨_, rfl, o, CO, dx, _, _, rfl, ho1, T.cl, T.nD, rfl, _, rfl, dd, _, rfl, hg, q _ s1⟩
    · rw [ha] at hg
      refine iteF ⟨_, rfl, _, rfl, o, CO, dx, _, _, rfl, ho1, T.cl, T.nD, rfl, dd, _, rfl, hg, _, rfl, iteT ?_⟩
      exact ⟨_, rfl, _, rfl, fun d hd => q d _ (s1.trans (sameAt (Same.refl H1) hd)) upd_same⟩
end
end Ash

set_option Elab.async false
set_option linter.all false
set_option maxRecDepth 100000
set_option maxHeartbeats 4000000
namespace L2
open PySem PySem.Spec PyProof.Rows
section
variable {X : Cx} {C fI : Addr} {par fl : Str}
/-- n.f in the suite that caught an own error with the one field fl -/
def tByB (fl : Str) (C a : Addr) (cls : Value) (d : Option Addr) (te : TE) : TE := fun σ H Q => te σ H fun x H1 => x = .ref a ∧ cls = .ref C ∧ ∃ (dd : Addr) (v : V), d = some dd ∧ H1 dd = some (.xd [(fl, v)]) ∧ Q v H1
theorem pe_byB {a : Addr} {oe : Obj} {cls : Value} {d : Option Addr} {pn : List (Addr × Obj)} {e : Expr} {te : TE} {pos : Pos} (T : PySem.BadX.Txt X.prog X.K X.mg par fl C fI) (hz : Zc cls d oe) (hf : ∃ vs, oe.data = .fields vs) (he : PE (X.suite a ((a, oe) :: pn)) e te)
    (hb : attributeBase e fl X.env (eval e X.env) = eval e X.env := by rfl) :
    PE (X.suite a ((a, oe) :: pn)) (.Attribute e fl pos) (tByB fl C a cls d te) := by
  refine ⟨fun pins s σ H Q I h => ?_⟩
  refine attr_of hb (thn (he.run pins s σ H _ I h) fun u s1 hh => ?_)
  obtain ⟨x, H1, I1, rx, ex, ec, dd, v, ed, ea, q⟩ := hh
  subst ex
  obtain rfl : u = Value.ref a := rx
  subst ec
  subst ed
  obtain ⟨ha, _⟩ := I1.pin (a, oe) (List.mem_append_left _ List.mem_cons_self)
  obtain ⟨vs, hd⟩ := hf
  have hx : ObjOk X.prog X.w H1 s1.heap dd (.xd [(fl, v)]) := I1.hok dd _ ea
  obtain ⟨mA, hns, hr⟩ := hx
  obtain ⟨od, ho, hl⟩ := lookIn_ns hns
  have l : List.lookup fl [(fl, v)] = some v := by simp [List.lookup]
  obtain ⟨u, hu, ru⟩ := RelO.some_of (v := v) (o := mA fl) (by rw [← l]; exact hr fl)
  have J : PySem.W.InstAt s1.heap a oe C (some od) := ⟨ha, hz.1, by unfold PySem.W.notCls; rw [hd] <;> rfl, by rw [hz.2]; exact ho⟩
  exact HandSPX.exc_get I1.kIn J T.ga T.gg T.exC (PySem.W.findObj_own T.hdC T.noN rfl (by rw [hl, hu])) (handed_of ru) ⟨v, H1, I1.tok _, ru, q⟩
end
end L2
namespace Ash
open PySem PySem.Spec PyProof.Rows L2
open C8 (pss_cut)
/-- what is wanted of an exception at any n slots -/
def WEn (n : Nat) (W : WX) : XK := fun cls d H => ∀ σ : L2.St, σ.length = n → W cls d σ H
theorem passN {X : Cx} {W : WX} {n : Nat} (hn : X.N.length = n) (tk : Takes X W) : Passes (L2.CX X.prog X.w) X (WEn n W) := fun _ σ _ _ e s' I c => tk e s' (XE.of_call I (fun cls d H' h => h σ (I.len.trans hn)) c)
section
variable {X : Cx} {CX : CXT} {k : Nat} {ps : List Str} {sp : Sp} {E : XK} {o e : Expr} {es : List Expr} {ta : TE} {t : TA} {C : Addr} {m : Str} {apos pos : Pos}
theorem pe_met {pl : Sem Bool} (c : Cls X.K C) (G : Met X.prog X.w X.K X.mg X.base CX C m k ps sp) (hr : Room k X.A) (hx : Passes CX X E) (ho : PE X o ta) (ha : PA X (e :: es) t) 
    (he : starEach (e :: es) X.env = (false, eval e X.env) :: starEach es X.env := by rfl) (hpl : (backTo pos (starEach es X.env)).any (·.1) = false := by rfl)
    (ht : eval (.Call (.Attribute o m apos) (e :: es) [] pos) X.env = (do
      let ov ← eval o X.env
      standAt apos.atName
      let (f, first) ← holding [ov] (getMethod ov m pl)
      callWith pos f first (backTo pos (starEach (e :: es) X.env)) (backToKw pos (keywordEach [] X.env))) := by rfl) :
    PE X (.Call (.Attribute o m apos) (e :: es) [] pos) (tMeth C m sp [] E ta t) := by
  obtain ⟨f, fd, hm, hb, F⟩ := G.ex
  exact pe_meth ho c hm F hr hb .nil hx ha he hpl ht
end
section
variable {X : Cx} {CX : CXT} {k : Nat} {ps : List Str} {sp : Sp} {E : L2.St → XK} {o e : Expr} {es : List Expr} {ta : TE} {t : TA} {C : Addr} {m : Str} {apos pos : Pos}
/-- o.m(e, ..), what is raised being wished for at the caller's slots -/
def tMethS (C : Addr) (m : Str) (sp : Sp) (E : L2.St → XK) (ta : TE) (t : TA) : TE := fun σ H Q => ta σ H fun x H1 => ∃ a dx fs, x = .ref a ∧ H1 a = some (.ins C dx fs) ∧ fs.lookup m = none ∧ t σ H1 fun vs H2 => sp (x :: (vs ++ [])) H2 Q (E σ)
theorem pe_metS {pl : Sem Bool} (c : Cls X.K C) (G : Met X.prog X.w X.K X.mg X.base CX C m k ps sp) (hr : Room k X.A) (hx : ∀ σ, PassesAt CX X σ (E σ)) (ho : PE X o ta) (ha : PA X (e :: es) t) 
    (he : starEach (e :: es) X.env = (false, eval e X.env) :: starEach es X.env := by rfl) (hpl : (backTo pos (starEach es X.env)).any (·.1) = false := by rfl)
    (ht : eval (.Call (.Attribute o m apos) (e :: es) [] pos) X.env = (do
      let ov ← eval o X.env
      standAt apos.atName
      let (f, first) ← holding [ov] (getMethod ov m pl)
      callWith pos f first (backTo pos (starEach (e :: es) X.env)) (backToKw pos (keywordEach [] X.env))) := by rfl) :
    PE X (.Call (.Attribute o m apos) (e :: es) [] pos) (tMethS C m sp E ta t) := by
  obtain ⟨f, fd, hm, hb, F⟩ := G.ex
  refine ⟨fun pins s σ H Q I h => PySem.W.methodCall_KW (pl := pl) (thn (ho.run pins s σ H _ I h) fun u s1 ⟨x, H1, I1, rx, a, dx, fs, ex, ea, l, q⟩ => ?_) ht⟩
  cases ex
  cases (show u = Value.ref a from rx)
  refine getmeth_ok I1 ea c hm l (PySem.W.callWith_K (first := [.ref a]) (h₀ := X.base) I.ok.mod.kin hm.kp (thn (ha.run pos pins s1 σ H1 _ I1 q) fun us s2 ⟨vs, H2, I2, r, q2⟩ => ⟨I2.kIn, ?_⟩) he hpl)
  exact run_fnSD (us := .ref a :: us) (vs := .ref a :: vs) F hr hb .nil (hx σ) I2 (.cons rfl r) q2
theorem pe_metS0 {pl : Sem Bool} (c : Cls X.K C) (G : Met X.prog X.w X.K X.mg X.base CX C m k ps sp) (hr : Room k X.A) (hx : ∀ σ, PassesAt CX X σ (E σ)) (ho : PE X o ta)
    (ht : eval (.Call (.Attribute o m apos) [] [] pos) X.env = (do
      let ov ← eval o X.env
      standAt apos.atName
      let (f, first) ← holding [ov] (getMethod ov m pl)
      callWith pos f first (backTo pos (starEach [] X.env)) (backToKw pos (keywordEach [] X.env))) := by rfl) :
    PE X (.Call (.Attribute o m apos) [] [] pos) (tMethS C m sp E ta tNil) := by
  obtain ⟨f, fd, hm, hb, F⟩ := G.ex
  refine ⟨fun pins s σ H Q I h => PySem.W.methodCall_KW (pl := pl) (thn (ho.run pins s σ H _ I h) fun u s1 ⟨x, H1, I1, rx, a, dx, fs, ex, ea, l, q⟩ => ?_) ht⟩
  cases ex
  cases (show u = Value.ref a from rx)
  exact getmeth_ok I1 ea c hm l (PySem.W.callWith_K0 (first := [.ref a]) I1.kIn hm.kp (run_fnSD (us := [.ref a]) (vs := [.ref a]) F hr hb .nil (hx σ) I1 (.cons rfl .nil) q))
end
section
variable {X : Cx} {CX : CXT} {k : Nat} {ps : List Str} {sp : Sp} {E : XK} {o : Expr} {ta : TE} {C : Addr} {m : Str} {apos pos : Pos}
theorem pe_met0 {pl : Sem Bool} (c : Cls X.K C) (G : Met X.prog X.w X.K X.mg X.base CX C m k ps sp) (hr : Room k X.A) (hx : Passes CX X E) (ho : PE X o ta) 
    (ht : eval (.Call (.Attribute o m apos) [] [] pos) X.env = (do
      let ov ← eval o X.env
      standAt apos.atName
      let (f, first) ← holding [ov] (getMethod ov m pl)
      callWith pos f first (backTo pos (starEach [] X.env)) (backToKw pos (keywordEach [] X.env))) := by rfl) :
    PE X (.Call (.Attribute o m apos) [] [] pos) (tMeth C m sp [] E ta tNil) := by
  obtain ⟨f, fd, hm, hb, F⟩ := G.ex
  exact pe_meth0 ho c hm F hr hb .nil hx ht
end
section
variable {X : Cx} {CX : CXT} {k : Nat} {ps : List Str} {sp : Sp} {E : XK} {x : Str} {p pos : Pos} {e : Expr} {es : List Expr} {t : TA}
structure MakD (P : Program) (w : World) (K : PySem.W.Frag) (mg : Str → Option Value) (base : Heap) (CX : CXT) (x : Str) (C : Addr) (k : Nat) (ps : List Str) (dv : V) (sp : Sp) : Prop where
  ex : ∃ f fd u, Mk K C f ∧ mg x = some (.ref C) ∧ Binds K fd ps [u] ∧ RelV dv u ∧ FnOk P w K mg base CX k f fd ps sp
section
variable {X : Cx} {CX : CXT} {k j : Nat} {ps : List Str} {sp : Sp} {E : XK} {x : Str} {p pos : Pos} {e : Expr} {es : List Expr} {t : TA}
theorem pe_makD {C : Addr} {dv : V} (G : MakD X.prog X.w X.K X.mg X.base CX x C k ps dv sp) (hr : Room (k + 1) X.A) (hx : Passes CX X E) (ha : PA X (e :: es) t) (hg : Gl X x := by rfl)
    (hdb : (x == ("__debug__" : Str)) = false := by decide) (he : starEach (e :: es) X.env = (false, eval e X.env) :: starEach es X.env := by rfl) (hpl : (backTo pos (starEach es X.env)).any (·.1) = false := by rfl) :
    PE X (.Call (.Name x p) (e :: es) [] pos) (tMake C sp [dv] E t) := by
  obtain ⟨f, fd, u, M, hm, hb, hv, F⟩ := G.ex
  exact pe_make M F hr hg hm hb (.cons hv .nil) hx ha hdb he hpl
end
end
end Ash

set_option Elab.async false
set_option linter.all false
set_option maxRecDepth 100000
set_option maxHeartbeats 4000000
namespace RZ
open PySem PySem.Spec PyProof.Rows L2
open PySem.Sem (wp)
section
variable {prog : Program} {w : World} {A : Around} {E : Value → Shared → Prop} {s : Shared}
theorem zipM_next_item {z TI TO i1 i2 l1 l2 : Addr} {k1 k2 : Nat} {xs ys : Array Value} {x y a b : Value} {Q : Value → Shared → Prop} (D : ZipApart z TI TO i1 i2 l1 l2)
    (hz : IsZip s.heap z TI TO .none) (hTI : IsPair s.heap TI (.ref i1) (.ref i2)) (hTO : IsPair s.heap TO a b)
    (h1 : s.heap.IsTupleIter i1 l1 k1) (h2 : s.heap.IsListIter i2 l2 k2) (hl1 : s.heap.IsTuple l1 xs) (hl2 : s.heap.IsList l2 ys) (hx : xs[k1]? = some x) (hy : ys[k2]? = some y)
    (hQ : ∀ h', IsZip h' z TI TO (rawInt s.heap.objs.size) → IsPair h' TO x y → h'.IsTupleIter i1 l1 (k1 + 1) → h'.IsListIter i2 l2 (k2 + 1) → IsPair h' s.heap.objs.size x y → h'.objs.size = s.heap.objs.size + 1 →
      (∀ c o, c ≠ z → c ≠ TO → c ≠ i1 → c ≠ i2 → s.heap.get? c = some o → h'.get? c = some o) → Q (.ref s.heap.objs.size) { s with heap := h' }) :
    wpAny (model prog w) A (Builtin.«zip.__next__» ⟨[.ref z], []⟩) (fun fin s' => ∃ v, fin = .done (.ret v) ∧ Q v s') E s := by
  show wpAny _ _ (field (.ref z) 2 >>= _) _ _ _
  refine wpAny_bind (wpAny_field hz rfl (x := .bool false) rfl ?_)
  show wpAny _ _ (field (.ref z) 3 >>= _) _ _ _
  refine wpAny_bind (wpAny_field hz rfl (x := .ref TI) rfl ?_)
  refine wpAny_bind (wpAny_seqItems hTI rfl ?_)
  show wpAny _ _ (Builtin.SmallTypes.ownedTupleIsFree (.ref z) >>= _) _ _ _
  refine wpAny_bind ?_
  unfold Builtin.SmallTypes.ownedTupleIsFree
  refine wpAny_bind (wpAny_field hz rfl (x := .none) rfl (wpAny_pure ?_))
  simp only [if_true]
  refine wpAny_bind (wpAny_rule ?_)
  refine wpAny_bind (wpAny_field hz rfl (x := .ref TO) rfl ?_)
  refine wpAny_bind (wpAny_setField_rec hz (by simp) fun h₁ hz₁ hs₁ => ?_)
  replace hz₁ : IsZip h₁ z TI TO .ellipsis := hz₁
  refine wpAny_bind ?_
  simp only [List.zipIdx_cons, List.zipIdx_nil, List.forIn_cons, List.forIn_nil]

  refine wpAny_bind (wpAny_bind (wpAny_onRaise ?_))
  show wpAny _ _ (Builtin.SmallTypes.nextOf (.ref i1) >>= _) _ _ _
  refine wpAny_bind (nextOf_tuple_item (h1.extBut hs₁.extBut D.i1z) (hl1.extBut hs₁.extBut D.l1z) hx fun h₂ h1₂ hs₂ => wpAny_pure ?_)
  have hTO₂ : IsPair h₂ TO a b := hs₂.extBut _ _ D.TOi1 (hs₁.extBut _ _ D.TOz hTO)
  refine wpAny_bind (wpAny_seqItems hTO₂ rfl ?_)
  refine wpAny_bind (wpAny_updateSeq_pair hTO₂ fun h₃ hTO₃ hs₃ => ?_)
  replace hTO₃ : IsPair h₃ TO x b := hTO₃
  refine wpAny_bind (wpAny_letGo (wpAny_pure ?_))

  refine wpAny_bind (wpAny_bind (wpAny_onRaise ?_))
  show wpAny _ _ (Builtin.SmallTypes.nextOf (.ref i2) >>= _) _ _ _
  refine wpAny_bind (wpAny_nextOf_list_item (((h2.extBut hs₁.extBut D.i2z).extBut hs₂.extBut D.i12.symm).extBut hs₃.extBut D.TOi2.symm)
    (((hl2.extBut hs₁.extBut D.l2z).extBut hs₂.extBut D.l2i1).extBut hs₃.extBut D.l2TO) hy fun h₄ h2₄ hs₄ => wpAny_pure ?_)
  have hTO₄ : IsPair h₄ TO x b := hs₄.extBut _ _ D.TOi2 hTO₃
  refine wpAny_bind (wpAny_seqItems hTO₄ rfl ?_)
  refine wpAny_bind (wpAny_updateSeq_pair hTO₄ fun h₅ hTO₅ hs₅ => ?_)
  replace hTO₅ : IsPair h₅ TO x y := hTO₅
  refine wpAny_bind (wpAny_letGo (wpAny_pure (wpAny_pure ?_)))

  refine wpAny_bind (wpAny_seqItems hTO₅ rfl ?_)
  refine wpAny_bind (wpAny_newTuple ?_)
  have hsz : h₅.objs.size = s.heap.objs.size := by rw [hs₅.1, hs₄.1, hs₃.1, hs₂.1, hs₁.1]
  have hz₅ : IsZip h₅ z TI TO .ellipsis := hs₅.extBut _ _ D.TOz.symm (hs₄.extBut _ _ D.i2z.symm (hs₃.extBut _ _ D.TOz.symm (hs₂.extBut _ _ D.i1z.symm hz₁)))
  have hk₅ : ∀ c o, c ≠ z → c ≠ TO → c ≠ i1 → c ≠ i2 → s.heap.get? c = some o → h₅.get? c = some o := fun c o c1 c2 c3 c4 e =>
    hs₅.extBut _ _ c2 (hs₄.extBut _ _ c4 (hs₃.extBut _ _ c2 (hs₂.extBut _ _ c3 (hs₁.extBut _ _ c1 e))))
  have h1₅ : h₅.IsTupleIter i1 l1 (k1 + 1) := ((h1₂.extBut hs₃.extBut D.TOi1.symm).extBut hs₄.extBut D.i12).extBut hs₅.extBut D.TOi1.symm
  have h2₅ : h₅.IsListIter i2 l2 (k2 + 1) := h2₄.extBut hs₅.extBut D.TOi2.symm
  have hzlt : z < h₅.objs.size := Heap.lt_size hz₅
  have hTOlt : TO < h₅.objs.size := Heap.lt_size hTO₅
  have hi1lt : i1 < h₅.objs.size := by obtain ⟨_, e, _⟩ := h1₅; exact Heap.lt_size e
  have hi2lt : i2 < h₅.objs.size := by obtain ⟨_, e, _⟩ := h2₅; exact Heap.lt_size e
  show wpAny _ _ (Builtin.SmallTypes.ownedTupleHandOut (.ref z) (.ref h₅.objs.size) >>= _) _ _ _
  refine wpAny_bind ?_
  unfold Builtin.SmallTypes.ownedTupleHandOut
  have hz₆ : IsZip (h₅.push { cls := .type "tuple", data := .seq #[x, y] }) z TI TO .ellipsis := Heap.get?_push_of_some _ hz₅
  refine wpAny_bind (wpAny_setField_rec hz₆ (by simp) fun h₇ hz₇ hs₇ => ?_)
  replace hz₇ : IsZip h₇ z TI TO (rawInt h₅.objs.size) := hz₇
  refine wpAny_setField_rec hz₇ (by simp) fun h₈ hz₈ hs₈ => ?_
  replace hz₈ : IsZip h₈ z TI TO (rawInt h₅.objs.size) := hz₈
  have up : ∀ c o, c ≠ z → h₅.get? c = some o → h₈.get? c = some o := fun c o c1 e => hs₈.extBut _ _ c1 (hs₇.extBut _ _ c1 (Heap.get?_push_of_some _ e))
  have hT₈ : IsPair h₈ h₅.objs.size x y := hs₈.extBut _ _ (Nat.ne_of_gt hzlt) (hs₇.extBut _ _ (Nat.ne_of_gt hzlt) (Heap.get?_push_size _ rfl))
  have hz8 : h₈.objs.size = h₅.objs.size + 1 := by rw [hs₈.1, hs₇.1, Heap.size_push]
  rw [hsz] at hz₈ hT₈ hz8
  refine wpAny_pure ⟨_, rfl, ?_⟩
  show Q (.ref h₅.objs.size) _
  rw [hsz]
  exact hQ h₈ hz₈ (up _ _ D.TOz hTO₅) (h1₅.at fun o e => up _ o D.i1z e) (h2₅.at fun o e => up _ o D.i2z e) hT₈ hz8 fun c o c1 c2 c3 c4 e => up c o c1 (hk₅ c o c1 c2 c3 c4 e)

theorem zipM_next_end {z TI TO i1 i2 l1 l2 : Addr} {k1 k2 : Nat} {xs ys : Array Value} {a b : Value} {Q : Fin → Shared → Prop} (hh : A.handled = none) (D : ZipApart z TI TO i1 i2 l1 l2)
    (hz : IsZip s.heap z TI TO .none) (hTI : IsPair s.heap TI (.ref i1) (.ref i2)) (hTO : IsPair s.heap TO a b)
    (h1 : s.heap.IsTupleIter i1 l1 k1) (h2 : s.heap.IsListIter i2 l2 k2) (hl1 : s.heap.IsTuple l1 xs) (hl2 : s.heap.IsList l2 ys) (hend : xs[k1]? = none ∨ ys[k2]? = none)
    (hE : ∀ h' e, (∀ c o, c ≠ z → c ≠ TO → c ≠ i1 → c ≠ i2 → s.heap.get? c = some o → h'.get? c = some o) → (∃ o, h'.get? e = some o ∧ o.cls = .type "StopIteration") → E (.ref e) { s with heap := h' }) :
    wpAny (model prog w) A (Builtin.«zip.__next__» ⟨[.ref z], []⟩) Q E s := by
  show wpAny _ _ (field (.ref z) 2 >>= _) _ _ _
  refine wpAny_bind (wpAny_field hz rfl (x := .bool false) rfl ?_)
  show wpAny _ _ (field (.ref z) 3 >>= _) _ _ _
  refine wpAny_bind (wpAny_field hz rfl (x := .ref TI) rfl ?_)
  refine wpAny_bind (wpAny_seqItems hTI rfl ?_)
  show wpAny _ _ (Builtin.SmallTypes.ownedTupleIsFree (.ref z) >>= _) _ _ _
  refine wpAny_bind ?_
  unfold Builtin.SmallTypes.ownedTupleIsFree
  refine wpAny_bind (wpAny_field hz rfl (x := .none) rfl (wpAny_pure ?_))
  simp only [if_true]
  refine wpAny_bind (wpAny_rule ?_)
  refine wpAny_bind (wpAny_field hz rfl (x := .ref TO) rfl ?_)
  refine wpAny_bind (wpAny_setField_rec hz (by simp) fun h₁ hz₁ hs₁ => ?_)
  replace hz₁ : IsZip h₁ z TI TO .ellipsis := hz₁
  refine wpAny_bind ?_
  simp only [List.zipIdx_cons, List.zipIdx_nil, List.forIn_cons, List.forIn_nil]
  refine wpAny_bind (wpAny_bind (wpAny_onRaise ?_))
  show wpAny _ _ (Builtin.SmallTypes.nextOf (.ref i1) >>= _) _ _ _
  cases hx : xs[k1]? with
  | none =>
    refine wpAny_bind (nextOf_tuple_end hh (h1.extBut hs₁.extBut D.i1z) (hl1.extBut hs₁.extBut D.l1z) hx fun h₂ e hs₂ he => ?_)
    obtain ⟨oe, hoe, hce⟩ := he
    have hz₂ : IsZip h₂ z TI TO .ellipsis := hs₂ _ _ D.i1z.symm hz₁
    have hez : e ≠ z := fun x => by subst x; rw [hz₂] at hoe; cases hoe; simp at hce
    refine wpAny_setField_rec hz₂ (by simp) fun h₃ _ hs₃ => hE h₃ e (fun c o c1 _ c3 _ x => hs₃.extBut _ _ c1 (hs₂ _ _ c3 (hs₁.extBut _ _ c1 x))) ⟨oe, hs₃.extBut _ _ hez hoe, hce⟩
  | some x =>
    have hy : ys[k2]? = none := by rcases hend with h | h; rw [hx] at h; cases h; exact h
    refine wpAny_bind (nextOf_tuple_item (h1.extBut hs₁.extBut D.i1z) (hl1.extBut hs₁.extBut D.l1z) hx fun h₂ h1₂ hs₂ => wpAny_pure ?_)
    have hTO₂ : IsPair h₂ TO a b := hs₂.extBut _ _ D.TOi1 (hs₁.extBut _ _ D.TOz hTO)
    refine wpAny_bind (wpAny_seqItems hTO₂ rfl ?_)
    refine wpAny_bind (wpAny_updateSeq_pair hTO₂ fun h₃ hTO₃ hs₃ => ?_)
    refine wpAny_bind (wpAny_letGo (wpAny_pure ?_))
    refine wpAny_bind (wpAny_bind (wpAny_onRaise ?_))
    show wpAny _ _ (Builtin.SmallTypes.nextOf (.ref i2) >>= _) _ _ _
    refine wpAny_bind (wpAny_nextOf_list_end hh (((h2.extBut hs₁.extBut D.i2z).extBut hs₂.extBut D.i12.symm).extBut hs₃.extBut D.TOi2.symm)
      (((hl2.extBut hs₁.extBut D.l2z).extBut hs₂.extBut D.l2i1).extBut hs₃.extBut D.l2TO) hy fun h₄ e hs₄ he => ?_)
    obtain ⟨oe, hoe, hce⟩ := he
    have hz₄ : IsZip h₄ z TI TO .ellipsis := hs₄ _ _ D.i2z.symm (hs₃.extBut _ _ D.TOz.symm (hs₂.extBut _ _ D.i1z.symm hz₁))
    have hez : e ≠ z := fun x => by subst x; rw [hz₄] at hoe; cases hoe; simp at hce
    refine wpAny_setField_rec hz₄ (by simp) fun h₅ _ hs₅ => hE h₅ e (fun c o c1 c2 c3 c4 x => hs₅.extBut _ _ c1 (hs₄ _ _ c4 (hs₃.extBut _ _ c2 (hs₂.extBut _ _ c3 (hs₁.extBut _ _ c1 x))))) ⟨oe, hs₅.extBut _ _ hez hoe, hce⟩

theorem pyNext_zipM_item {z TI TO i1 i2 l1 l2 : Addr} {k1 k2 : Nat} {xs ys : Array Value} {x y a b : Value} {Q : Option Value → Shared → Prop} (D : ZipApart z TI TO i1 i2 l1 l2)
    (hz : IsZip s.heap z TI TO .none) (hTI : IsPair s.heap TI (.ref i1) (.ref i2)) (hTO : IsPair s.heap TO a b)
    (h1 : s.heap.IsTupleIter i1 l1 k1) (h2 : s.heap.IsListIter i2 l2 k2) (hl1 : s.heap.IsTuple l1 xs) (hl2 : s.heap.IsList l2 ys) (hx : xs[k1]? = some x) (hy : ys[k2]? = some y)
    (hQ : ∀ h', IsZip h' z TI TO (rawInt s.heap.objs.size) → IsPair h' TO x y → h'.IsTupleIter i1 l1 (k1 + 1) → h'.IsListIter i2 l2 (k2 + 1) → IsPair h' s.heap.objs.size x y → h'.objs.size = s.heap.objs.size + 1 →
      (∀ c o, c ≠ z → c ≠ TO → c ≠ i1 → c ≠ i2 → s.heap.get? c = some o → h'.get? c = some o) → Q (some (.ref s.heap.objs.size)) { s with heap := h' }) :
    wpAny (model prog w) A (pyNext (.ref z)) Q E s := by
  have hT : s.TypeIs (.ref z) "zip" := ⟨_, hz, rfl⟩
  unfold pyNext
  exact wpAny_bind (wpAny_attempt (wpAny_callSpecial?_slot (name := Str.ofString "__next__") hT F.slot_zip_next
    (wpAny_call_entry F.slot_zip_next hT F.entry_zip_next
      (zipM_next_item D hz hTI hTO h1 h2 hl1 hl2 hx hy fun h' a1 a2 a3 a4 a5 a6 a7 => wpAny_pure (hQ h' a1 a2 a3 a4 a5 a6 a7)) (F.args_zip_next_1 _))))

theorem pyNext_zipM_end {z TI TO i1 i2 l1 l2 : Addr} {k1 k2 : Nat} {xs ys : Array Value} {a b : Value} {Q : Option Value → Shared → Prop} (hh : A.handled = none) (D : ZipApart z TI TO i1 i2 l1 l2)
    (hz : IsZip s.heap z TI TO .none) (hTI : IsPair s.heap TI (.ref i1) (.ref i2)) (hTO : IsPair s.heap TO a b)
    (h1 : s.heap.IsTupleIter i1 l1 k1) (h2 : s.heap.IsListIter i2 l2 k2) (hl1 : s.heap.IsTuple l1 xs) (hl2 : s.heap.IsList l2 ys) (hend : xs[k1]? = none ∨ ys[k2]? = none)
    (hQ : ∀ h', (∀ c o, c ≠ z → c ≠ TO → c ≠ i1 → c ≠ i2 → s.heap.get? c = some o → h'.get? c = some o) → Q none { s with heap := h' }) : wpAny (model prog w) A (pyNext (.ref z)) Q E s := by
  have hT : s.TypeIs (.ref z) "zip" := ⟨_, hz, rfl⟩
  unfold pyNext
  refine wpAny_bind (wpAny_attempt (wpAny_callSpecial?_slot (name := Str.ofString "__next__") hT F.slot_zip_next
    (wpAny_call_entry F.slot_zip_next hT F.entry_zip_next (zipM_next_end hh D hz hTI hTO h1 h2 hl1 hl2 hend fun h' e hk he => ?_) (F.args_zip_next_1 _))))
  obtain ⟨o, ho, hc⟩ := he
  refine wpAny_bind (wpAny_isInstance (T := "StopIteration") (b := true) ⟨o, ho, hc⟩ isSubtype_stop ?_)
  exact wpAny_pure (hQ _ hk)
end

abbrev zipMH1 (h : Heap) (l1 : Addr) : Heap := h.push { cls := .type "tuple_iterator", data := .fields #[.ref l1, .int 0 0] }
abbrev zipMH2 (h : Heap) (l1 l2 : Addr) : Heap := (zipMH1 h l1).push { cls := .type "list_iterator", data := .fields #[.ref l2, .int 0 0] }
abbrev zipMH3 (h : Heap) (l1 l2 : Addr) : Heap := (zipMH2 h l1 l2).push { cls := .type "tuple", data := .seq #[.ref h.objs.size, .ref (zipMH1 h l1).objs.size] }
abbrev zipMH4 (h : Heap) (l1 l2 : Addr) : Heap := (zipMH3 h l1 l2).push { cls := .type "tuple", data := .seq #[.none, .none] }
abbrev zipMH5 (h : Heap) (l1 l2 : Addr) : Heap := (zipMH4 h l1 l2).push { cls := .type "zip", data := .fields #[.none, .bool false, .bool false, .ref (zipMH2 h l1 l2).objs.size, .ref (zipMH3 h l1 l2).objs.size] }

theorem meets_zipM_new (l1 l2 : Addr) (xs ys : Array Value) :
    Meets (Builtin.«zip.__new__» ⟨[.type "zip", .ref l1, .ref l2], []⟩) (fun _ R s => s.heap.IsTuple l1 xs ∧ s.heap.IsList l2 ys ∧
      R (.ok (.ret (.ref (zipMH4 s.heap l1 l2).objs.size))) { s with heap := zipMH5 s.heap l1 l2 }) :=
  .of_wp fun prog w A R s h => by
    obtain ⟨hp, g, d, tk, os⟩ := s; obtain ⟨hl1, hl2, h⟩ := h
    have hsub := sub_zip
    have hL1 : Heap.IsTuple (Shared.heap ⟨hp, g, d, tk, os⟩) l1 xs := hl1
    have hL2 : Heap.IsList (Shared.heap ⟨hp.push { cls := .type "tuple_iterator", data := .fields #[.ref l1, .int 0 0] }, g, d, tk, os⟩) l2 ys := Heap.IsList.push hl2 _
    wp_walk using wpAny_pyIter_tuple hL1, wpAny_pyIter_list hL2
    exact ⟨_, rfl, h⟩

section
variable {prog : Program} {w : World} {A : Around} {E : Value → Shared → Prop} {s : Shared}

theorem call_zipM {l1 l2 : Addr} {xs ys : Array Value} {Q : Value → Shared → Prop} (hl1 : s.heap.IsTuple l1 xs) (hl2 : s.heap.IsList l2 ys)
    (h : ∀ h', IsZip h' (s.heap.objs.size + 4) (s.heap.objs.size + 2) (s.heap.objs.size + 3) .none → IsPair h' (s.heap.objs.size + 2) (.ref s.heap.objs.size) (.ref (s.heap.objs.size + 1)) →
      IsPair h' (s.heap.objs.size + 3) .none .none → h'.IsTupleIter s.heap.objs.size l1 0 → h'.IsListIter (s.heap.objs.size + 1) l2 0 → h'.objs.size = s.heap.objs.size + 5 →
      (∀ c o, s.heap.get? c = some o → h'.get? c = some o) → Q (.ref (s.heap.objs.size + 4)) { s with heap := h' }) :
    wpAny (model prog w) A (call (.type "zip") [.ref l1, .ref l2]) Q E s := by
  refine callType_new F.called_zip (by decide) (F.typeCall_zip_2 _ _) (F.newCall_zip_2 _ _) (fun obj => F.args_object_init_3 obj _ _) F.entry_zip_new
    (meets_zipM_new l1 l2 xs ys) ⟨hl1, hl2, ?_⟩
  have z1 : (zipMH1 s.heap l1).objs.size = s.heap.objs.size + 1 := Heap.size_push ..
  have z2 : (zipMH2 s.heap l1 l2).objs.size = s.heap.objs.size + 2 := by rw [Heap.size_push, z1]
  have z3 : (zipMH3 s.heap l1 l2).objs.size = s.heap.objs.size + 3 := by rw [Heap.size_push, z2]
  have z4 : (zipMH4 s.heap l1 l2).objs.size = s.heap.objs.size + 4 := by rw [Heap.size_push, z3]
  have z5 : (zipMH5 s.heap l1 l2).objs.size = s.heap.objs.size + 5 := by rw [Heap.size_push, z4]
  have g5 : (zipMH5 s.heap l1 l2).get? (zipMH4 s.heap l1 l2).objs.size = some _ := Heap.get?_push_size _ rfl
  have g4 : (zipMH5 s.heap l1 l2).get? (zipMH3 s.heap l1 l2).objs.size = some _ := Heap.get?_push_of_some _ (Heap.get?_push_size _ rfl)
  have g3 : (zipMH5 s.heap l1 l2).get? (zipMH2 s.heap l1 l2).objs.size = some _ := Heap.get?_push_of_some _ (Heap.get?_push_of_some _ (Heap.get?_push_size _ rfl))
  have g2 : (zipMH5 s.heap l1 l2).get? (zipMH1 s.heap l1).objs.size = some _ := Heap.get?_push_of_some _ (Heap.get?_push_of_some _ (Heap.get?_push_of_some _ (Heap.get?_push_size _ rfl)))
  have g1 : (zipMH5 s.heap l1 l2).get? s.heap.objs.size = some _ := Heap.get?_push_of_some _ (Heap.get?_push_of_some _ (Heap.get?_push_of_some _ (Heap.get?_push_of_some _ (Heap.get?_push_size _ rfl))))
  show _ ∧ _
  rw [z2, z3, z4] at g5
  rw [z1, z2] at g3
  rw [z3] at g4
  rw [z1] at g2
  rw [z4]
  exact ⟨⟨_, g5, rfl⟩, h _ g5 g3 g4 ⟨_, g1, rfl, rfl⟩ ⟨_, g2, rfl, rfl⟩ z5 fun c o x =>
    Heap.get?_push_of_some _ (Heap.get?_push_of_some _ (Heap.get?_push_of_some _ (Heap.get?_push_of_some _ (Heap.get?_push_of_some _ x))))⟩
end
/-- the tuple at a and the list at b as they stand at each turn, the items in new pairs -/
def ItzM (K : PySem.W.Frag) (a b : Addr) : It :=
  ⟨fun i H => ∃ (xs ys : List V) (x y : V), SqT K H a xs ∧ SqL K H b ys ∧ xs[i]? = some x ∧ ys[i]? = some y,
    fun i H v H' => ∃ T x y, v = .ref T ∧ H T = none ∧ H' = upd H T (.tup [x, y]) ∧ (∀ xs, SqT K H a xs → xs[i]? = some x) ∧ ∀ ys, SqL K H b ys → ys[i]? = some y,
    fun i H => ∃ xs ys : List V, SqT K H a xs ∧ SqL K H b ys ∧ (xs.length ≤ i ∨ ys.length ≤ i)⟩
theorem turn_zipM {P : Program} {w : World} {K : PySem.W.Frag} {elts : List Expr} {kk : Nat} {tpos : Pos} {a b z TI TO i1 i2 : Addr} (D : ZipApart z TI TO i1 i2 a b) :
    Turn P w K (.Tuple elts kk tpos) (ItzM K a b) [z, TI, TO, i1, i2] z (fun i h => IsZip h z TI TO .none ∧ IsPair h TI (.ref i1) (.ref i2) ∧ (∃ x y, IsPair h TO x y) ∧ h.IsTupleIter i1 a i ∧ h.IsListIter i2 b i) where
  mem := by simp
  obj := fun i h st c hc => by
    obtain ⟨hz, hTI, ⟨x, y, hTO⟩, ⟨o1, e1, _, d1⟩, ⟨o2, e2, _, d2⟩⟩ := st
    have e' : c = z ∨ c = TI ∨ c = TO ∨ c = i1 ∨ c = i2 := by simpa using hc
    rcases e' with q | q | q | q | q
    · rw [q]; exact ⟨_, hz, fun v q => nomatch q⟩
    · rw [q]; exact ⟨_, hTI, fun v q => nomatch q⟩
    · rw [q]; exact ⟨_, hTO, fun v q => nomatch q⟩
    · rw [q]; exact ⟨o1, e1, fun v q => by rw [d1] at q; cases q⟩
    · rw [q]; exact ⟨o2, e2, fun v q => by rw [d2] at q; cases q⟩
  keep := fun i h h' st k => by
    obtain ⟨hz, hTI, ⟨x, y, hTO⟩, h1, h2⟩ := st
    exact ⟨k z (by simp) _ hz, k TI (by simp) _ hTI, ⟨x, y, k TO (by simp) _ hTO⟩, h1.at fun o q => k i1 (by simp) o q, h2.at fun o q => k i2 (by simp) o q⟩
  item := by
    intro X hP hw hK hc i pins s σ H E I hf st hg
    subst hP hw hK
    obtain ⟨hz, hTI, ⟨x0, y0, hTO⟩, h1, h2⟩ := st
    obtain ⟨xs, ys, x, y, hqx, hqy, hx, hy⟩ := hg
    obtain ⟨its, rv, p, _⟩ := I.tuple hqx
    obtain ⟨its2, rv2, p2, _⟩ := I.list hqy
    obtain ⟨u, hu, ru⟩ := rv.get hx
    obtain ⟨u2, hu2, ru2⟩ := rv2.get hy
    have hzl : z < s.heap.objs.size := Heap.lt_size hz
    refine pyNext_zipM_item D hz hTI hTO h1 h2 p p2.isList (x := u) (y := u2) (by simpa using hu) (by simpa using hu2) fun h' z' TO' h1' h2' hT hsz hk => ?_
    refine ⟨_, rfl, wpAny_letOwnedTupleGo_zip (s := { s with heap := h' }) z' fun h'' z'' sb => ?_⟩
    have hT2 : h''.get? s.heap.objs.size = some { cls := .type "tuple", data := .seq #[u, u2] } := (sb.2 _ (Nat.ne_of_gt hzl)).trans hT
    have new : ObjOk X.prog X.w (upd H s.heap.objs.size (.tup [x, y])) h'' s.heap.objs.size (.tup [x, y]) :=
      ⟨by show 2 ≤ sizeLine; decide, [u, u2], .cons ru (.cons ru2 .nil), ⟨_, hT2, rfl, _, rfl⟩⟩
    have I1 : Inv X pins σ (upd H s.heap.objs.size (.tup [x, y])) { s with heap := h'' } :=
      I.turnedNew (t' := s.toks) (ch := [z, TI, TO, i1, i2]) (fun c o hb q => (sb.2 c (fun q' => hb (by simp [q']))).trans (hk c o (fun q' => hb (by simp [q'])) (fun q' => hb (by simp [q'])) (fun q' => hb (by simp [q'])) (fun q' => hb (by simp [q'])) q)) hf (Nat.le_refl _) new
    refine ⟨.ref s.heap.objs.size, _, I1, rfl, ⟨_, x, y, rfl, I.hok.fresh (Nat.le_refl _), rfl, fun l hl => by rw [I.tuple_inj hl hqx]; exact hx, fun l hl => by rw [I.list_inj hl hqy]; exact hy⟩, ⟨z'', ?_, ⟨u, u2, ?_⟩, ?_, ?_⟩, fun c hcm => ?_⟩
    · exact (sb.2 _ D.TIz).trans (hk _ _ D.TIz D.TITO D.TIi1 D.TIi2 hTI)
    · exact (sb.2 _ D.TOz).trans TO'
    · exact h1'.at fun o q => (sb.2 _ D.i1z).trans q
    · exact h2'.at fun o q => (sb.2 _ D.i2z).trans q
    · have hlt : c < s.heap.objs.size := by
        have e' : c = z ∨ c = TI ∨ c = TO ∨ c = i1 ∨ c = i2 := by simpa using hcm
        rcases e' with q | q | q | q | q
        · rw [q]; exact hzl
        · rw [q]; exact Heap.lt_size hTI
        · rw [q]; exact Heap.lt_size hTO
        · rw [q]; obtain ⟨_, e1, _⟩ := h1; exact Heap.lt_size e1
        · rw [q]; obtain ⟨_, e2, _⟩ := h2; exact Heap.lt_size e2
      rw [upd_ne (Nat.ne_of_lt hlt)]
      exact (hf c hcm).1
  done := by
    intro X hP hw hK hc i pins s σ H E I hf st hg
    subst hP hw hK
    obtain ⟨hz, hTI, ⟨x0, y0, hTO⟩, h1, h2⟩ := st
    obtain ⟨xs, ys, hqx, hqy, hend⟩ := hg
    obtain ⟨its, rv, p, _⟩ := I.tuple hqx
    obtain ⟨its2, rv2, p2, _⟩ := I.list hqy
    have l1 := rv.length
    have l2 := rv2.length
    have he : its.toArray[i]? = none ∨ its2.toArray[i]? = none := by
      rcases hend with q | q
      · exact .inl (by simp; omega)
      · exact .inr (by simp; omega)
    exact pyNext_zipM_end (I.ok.hd hc) D hz hTI hTO h1 h2 p p2.isList he fun h' hk => ⟨rfl, I.turnedL (t' := s.toks) (ch := [z, TI, TO, i1, i2]) (fun c o hb q =>
      hk c o (fun q' => hb (by simp [q'])) (fun q' => hb (by simp [q'])) (fun q' => hb (by simp [q'])) (fun q' => hb (by simp [q'])) q) hf⟩
  self := fun A i s Q E st h => wpAny_pyIter_zip st.1 h

def iZipM (K : PySem.W.Frag) (ta : TA) : TI := fun σ H R => ta σ H fun vs H1 => ∃ a b xs ys, vs = [.ref a, .ref b] ∧ SqT K H1 a xs ∧ SqL K H1 b ys ∧ R (ItzM K a b) H1
theorem pi_zipM {X : Cx} {e e2 : Expr} {ta : TA} {p pos tpos : Pos} {elts : List Expr} {kk : Nat} (hg : Gl X "zip") (hm : X.mg "zip" = none) (ha : PA X [e, e2] ta)
    (hs : starEach [e, e2] X.env = (false, eval e X.env) :: starEach [e2] X.env := by rfl) (hpl : (backTo pos (starEach [e2] X.env)).any (·.1) = false := by rfl) :
    PI X (.Tuple elts kk tpos) (.Call (.Name "zip" p) [e, e2] [] pos) (iZipM X.K ta) := by
  refine ⟨fun pins s σ H R I h => ?_⟩
  refine Call_ (ld_blt I hg hm PyProof.Rows.boot_zip (PyProof.Rows.callWith_type1 (thn (ha.run pos pins s σ H _ I h) fun us s1 ⟨vs, H1, I1, r1, q1⟩ => ?_) hs hpl))
  obtain ⟨a, b, xs, ys, ex, q1⟩ := q1
  subst ex
  cases r1 with
  | cons r rr =>
    cases rr with
    | cons r' rr =>
      cases rr
      cases r
      cases r'
      have fresh5 : ∀ c, c ∈ [s1.heap.objs.size + 4, s1.heap.objs.size + 2, s1.heap.objs.size + 3, s1.heap.objs.size, s1.heap.objs.size + 1] → FpOk X pins H1 c := fun c hcm => by
        have e' : c = s1.heap.objs.size + 4 ∨ c = s1.heap.objs.size + 2 ∨ c = s1.heap.objs.size + 3 ∨ c = s1.heap.objs.size ∨ c = s1.heap.objs.size + 1 := by simpa using hcm
        have hle : s1.heap.objs.size ≤ c := by
          rcases e' with z | z | z | z | z
          · rw [z]; exact Nat.le_add_right _ _
          · rw [z]; exact Nat.le_add_right _ _
          · rw [z]; exact Nat.le_add_right _ _
          · rw [z]; exact Nat.le_refl _
          · rw [z]; exact Nat.le_add_right _ _
        exact I1.fpOk hle (I1.hok.fresh hle)
      obtain ⟨hqx, hqy, q⟩ := q1
      obtain ⟨its, rv, p1, _⟩ := I1.tuple hqx
      obtain ⟨its2, rv2, p2, _⟩ := I1.list hqy
      obtain ⟨o1, ho1, _⟩ := id p1
      refine call_zipM (show s1.heap.IsTuple a its.toArray from p1) p2.isList fun h' hz hTI hTO h1 h2 hsz hk => wpAny_pyIter_zip hz ?_
      have I2 : Inv X pins σ H1 { s1 with heap := h' } := I1.kept (t' := s1.toks) hk
      exact ⟨s1.heap.objs.size + 4, [s1.heap.objs.size + 4, s1.heap.objs.size + 2, s1.heap.objs.size + 3, s1.heap.objs.size, s1.heap.objs.size + 1], _, _, H1, rfl, I2, turn_zipM (PySem.W.ktu_apart s1.heap.objs.size a b (Heap.lt_size ho1) p2.lt), ⟨hz, hTI, ⟨_, _, hTO⟩, h1, h2⟩, fresh5, q⟩

/-- a loop over zip of a tuple and a list of one length -/
theorem for_zipM {K : PySem.W.Frag} {a b : Addr} {xs ys : List V} {g : TG} {tb : TS} {D : Ends} {σ : L2.St} {H : Hp} (hl : xs.length = ys.length) (Pv : Nat → L2.St → Hp → Prop) (h0 : Pv 0 σ H) (hq : ∀ i σ H, Pv i σ H → SqT K H a xs ∧ SqL K H b ys)
    (hs : ∀ (i : Nat) (x y : V) (T : Addr) (σ : L2.St) (H : Hp), xs[i]? = some x → ys[i]? = some y → Pv i σ H → H T = none → g (.ref T) σ (upd H T (.tup [x, y])) fun σ2 H2 => tb { D with nx := Pv (i + 1), ct := Pv (i + 1), bk := D.nx } σ2 H2) (hd : ∀ σ H, Pv xs.length σ H → D.nx σ H) :
    ∃ W : Nat → Nat → L2.St → Hp → Prop, (∃ m, W 0 m σ H) ∧ ∀ i m σ H, W i m σ H →
      ((ItzM K a b).stop i H ∧ D.nx σ H) ∨ ((ItzM K a b).go i H ∧ ∃ N : L2.St → Hp → Prop, (∀ σ' H', N σ' H' → ∃ m', m' < m ∧ W (i + 1) m' σ' H') ∧ ∀ v H', (ItzM K a b).yld i H v H' → g v σ H' fun σ2 H2 => tb { D with nx := N, ct := N, bk := D.nx } σ2 H2) := by
  refine ⟨fun i m σ H => m = xs.length - i ∧ i ≤ xs.length ∧ Pv i σ H, ⟨xs.length, rfl, Nat.zero_le _, h0⟩, ?_⟩
  rintro i m σ H ⟨rfl, hi, p⟩
  obtain ⟨qx, qy⟩ := hq i σ H p
  by_cases hlt : i < xs.length
  · have hx : xs[i]? = some xs[i] := List.getElem?_eq_getElem hlt
    have hlt2 : i < ys.length := by omega
    have hy : ys[i]? = some ys[i] := List.getElem?_eq_getElem hlt2
    refine .inr ⟨⟨xs, ys, _, _, qx, qy, hx, hy⟩, Pv (i + 1), fun σ' H' p' => ⟨xs.length - (i + 1), by omega, rfl, hlt, p'⟩, fun v H' y => ?_⟩
    obtain ⟨T, x', y', rfl, hT, rfl, f1, f2⟩ := y
    exact hs i x' y' T σ H (f1 xs qx) (f2 ys qy) p hT
  · have e : i = xs.length := by omega
    subst e
    exact .inl ⟨⟨xs, ys, qx, qy, Or.inl (Nat.le_refl _)⟩, hd σ H p⟩

end RZ

set_option Elab.async false
set_option linter.all false
set_option maxRecDepth 100000
set_option maxHeartbeats 4000000
namespace L2
open PySem PySem.Spec PyProof.Rows
/-! ### an own __eq__ asked by !=, an own __len__, list(d.values()) -/
/-- a name of a written namespace -/
theorem ns_at {K : PySem.W.Frag} {h : Heap} {N : Addr} {mN : Str → Option Value} {n : Str} {v : Value} (X : K.In h) (G : h.Ns N mN) (e : PySem.W.nsIn K N n = some (some v)) : mN n = some v := by
  obtain ⟨o, es, ep, ho, hd, _, hf⟩ := G
  unfold PySem.W.nsIn at e
  split at e
  case h_2 => cases e
  case h_1 c d es' n' sl q =>
    have z := X _ _ q
    rw [ho] at z
    cases z
    cases hd
    split at e
    case h_2 => split at e <;> cases e
    case h_1 en he =>
      cases e
      rw [← hf]
      unfold nsFind findBy
      rw [← Array.find?_toList, he]
      rfl
/-- a plain class with an own __eq__ and no __ne__ -/
structure NeC (K : PySem.W.Frag) (C f : Addr) : Prop where
  ex : ∃ (nm q : Str) (N : Addr) (bs : List Value) (hd : Bool) (sn : List Str) (sub : List Value) (ab : Bool) (col : Option Bool) (dd : Option Addr) (k0 k1 k2 k3 k5 : Option Value) (nid : String) (fo : Obj),
    K.lookup C = some (excClassObj nm q C N bs [.type "object"] hd sn sub ab col dd k0 k1 k2 k3 k5 nid) ∧ PySem.W.nsOkIn K N = true ∧ PySem.W.nsIn K N "__eq__" = some (some (.ref f)) ∧ PySem.W.nsIn K N "__ne__" = some none ∧ K.lookup f = some fo ∧ fo.cls = .type "function"
theorem obj_eq : ∃ y, typeLookup (.type "object") "__eq__" = pure y := ⟨_, PySem.F.cmp_object.eq.lookup⟩
section
variable {X : Cx} {n : Nat} {CX : CXT} {C f : Addr} {fd : FuncData} {ps : List Str} {R : Addr → Addr → Hp → Prop} {E : XK}
theorem op_neG (F : FnOk X.prog X.w X.K X.mg X.base CX n f fd ps (spEq R)) (Z : NeC X.K C f) (hb : Binds X.K fd ps []) (hx : Passes CX X E) (hr : Room (n + 2) X.A) :
    OpR X (compareOp .NotEq) (fun x y H Q => DIns C R x y H ∧ ∀ H', Ext H H' → Q (.bl false) H') := by
  intro pins s σ H x y v u Q I rx ry hq
  obtain ⟨⟨a, b, dx, dy, fs, gs, rfl, rfl, ha, hb', hR⟩, q⟩ := hq
  cases rx
  cases ry
  obtain ⟨mA, J, _⟩ := ins_get I.hok ha
  obtain ⟨mB, J', _⟩ := ins_get I.hok hb'
  obtain ⟨od, J, _⟩ := J.look
  obtain ⟨od', J', _⟩ := J'.look
  obtain ⟨nm, qn, N, bs, hd, sn, sub, ab, col, dd, k0, k1, k2, k3, k5, nid, fo, z1, z2, z3, z4, z5, z6⟩ := Z.ex
  have XK := I.kIn
  have Gn := Heap.Ns.of_isNs (PySem.W.isNs_of_in XK z2)
  obtain ⟨y0, hy0⟩ := obj_eq
  have Y : s.heap.OwnEqNoNe a C f "object" [.type "object"] := ⟨_, fo, nm, qn, N, bs, hd, sn, sub, ab, col, dd, k0, k1, k2, k3, k5, nid, _, y0, J.at_, J.cls, XK _ _ z1, Gn, ns_at XK Gn z3, XK _ _ z5, z6, PySem.F.mro_object, hy0, PySem.W.ns_none_of XK Gn z4⟩
  obtain ⟨hp, gg, dw, tk, os⟩ := s
  refine compareOp_ne_ownEq PySem.F.cmp_object Y J'.at_ J'.cls hr.in1.units0 ?_
  have hsp : spEq R [.ref a, .ref b] H (fun v H' => v = .bl true ∧ Ext H H') E := ⟨a, b, rfl, hR, fun H' e => ⟨rfl, e⟩⟩
  have e0 : Env0 X.prog X.w X.K X.mg X.base X.A.in1 X.stack ⟨hp, gg, dw, tk, os⟩ H := by
    have e := I.env0
    exact ⟨e.frames, e.mod, e.bs, e.bsz, e.funs, e.frf, e.hok, e.bare⟩
  have hl := F.len _ _ _ _ hsp
  have r2 : Vals [V.ref a, V.ref b] [Value.ref a, Value.ref b] := .cons rfl (.cons rfl .nil)
  refine wpAny_call (codeAny_mono (F.run X.A.in1 X.stack _ H ⟨[.ref a, .ref b], []⟩ [.ref a, .ref b] [.ref a, .ref b] _ E (hr.in1.mono (by omega)) e0 (by
    have := hb ⟨hp, gg, dw, tk, os⟩ [.ref a, .ref b] I.kIn (by simpa using hl)
    simpa using this) r2 hsp) fun r s' hq => ?_)
  cases r with
  | error e => exact hx pins σ H _ e s' I hq
  | ok fl =>
    cases fl with
    | ret w =>
      obtain ⟨z, H', I', rz, ez, ex⟩ := I.after hq
      subst ez
      cases rz
      exact ⟨true, rfl, .bl false, H', I', rfl, q H' ex⟩
    | next => exact False.elim hq
    | brk => exact False.elim hq
    | cont => exact False.elim hq
/-- len(o) by an own __len__ -/
theorem call_lenI {sp : Sp} (F : FnOk X.prog X.w X.K X.mg X.base CX n f fd ["self"] sp) (hs : PySem.W.findIn X.K (.ref C) "__len__" = some (some (.ref f))) (hf : PySem.W.isFn X.K (.ref f) = true) (hb : Binds X.K fd ["self"] []) (hx : Passes CX X E) (hr : Room (n + 1) X.A) :
    CallR X (.builtin "len") (fun xs H Q => ∃ a dx fs, xs = [.ref a] ∧ H a = some (.ins C dx fs) ∧ sp [.ref a] H (fun v H' => ∃ m : Nat, v = .int m ∧ m < 2 ^ 62 ∧ Q (.int m) H') E) := by
  intro pins s σ H xs us Q I r h
  obtain ⟨a, dx, fs, rfl, ha, h⟩ := h
  rw [Vals.ref1 r]
  obtain ⟨mA, J, _⟩ := ins_get I.hok ha
  obtain ⟨od, J, _⟩ := J.look
  obtain ⟨m, hF⟩ := I.fr
  refine PySem.W.len_K hF I.ok.mod.kin J hs hf ?_
  have e0 : Env0 X.prog X.w X.K X.mg X.base X.A.in1 X.stack s H := by
    have e := I.env0
    exact ⟨e.frames, e.mod, e.bs, e.bsz, e.funs, e.frf, e.hok, e.bare⟩
  have hl := F.len _ _ _ _ h
  refine wpAny_call (codeAny_mono (F.run X.A.in1 X.stack _ H ⟨[.ref a], []⟩ [.ref a] [.ref a] _ E (hr.in1.mono (by omega)) e0 (by
    have := hb s [.ref a] I.kIn (by simpa using hl)
    simpa using this) (.cons rfl .nil) h) fun r s' hq => ?_)
  cases r with
  | error e => exact hx pins σ H _ e s' I hq
  | ok fl =>
    cases fl with
    | ret w =>
      obtain ⟨z, H', I', rz, m, ez, hm, q⟩ := I.after hq
      subst ez
      obtain ⟨t, rfl⟩ := rz
      exact ⟨⟨Int.natCast_nonneg m, by omega⟩, .int m, H', I'.tok _, ⟨_, rfl⟩, q⟩
    | next => exact False.elim hq
    | brk => exact False.elim hq
    | cont => exact False.elim hq
/-- the same object -/
def DOne : Eqv := fun x y _ => x = y ∧ ∃ a, x = .ref a
theorem mon_one : Mon DOne := fun _ _ _ _ _ d => d
theorem eqG_one : EqG X 0 DOne := by
  intro A pins s σ H x y u v sb I rx ry d
  obtain ⟨rfl, a, rfl⟩ := d
  cases rx
  cases ry
  exact SeqAt.EqAt.same (A := A) (s := s) (.ref a) X.prog X.w X.xe _ ⟨rfl, H, I, Ext.rfl'⟩
end
section
variable {X : Cx} {o : Expr} {p pos apos mpos : Pos} {td : TE}
/-- list(o.values()) of a dict -/
def tListVals (td : TE) : TE := fun σ H Q => td σ H fun x H1 => ∃ a kvs, x = V.ref a ∧ H1 a = some (.dK kvs) ∧ ∀ l, H1 l = none → Q (.ref l) (upd H1 l (.lst (kvs.map (·.2))))
theorem vals_vals {kvs : List (Key × V)} {vs : List (Key × Value)} (r : KV kvs vs) {us : List Value} (hn : us.length = vs.length) (hu : ∀ (j : Nat) v, us[j]? = some v → ∃ k, vs[j]? = some (k, v)) : Vals (kvs.map (·.2)) us := by
  have e : us = vs.map (·.2) := PySem.W.kdl_vals_eq us hn hu
  subst e
  unfold KV at r
  clear hn hu
  induction r with
  | nil => exact .nil
  | cons h t ih => exact .cons h.2 ih
theorem pe_listVals (hcalm : X.calm = true) (hg : Gl X "list") (hm : X.mg "list" = none) (hd : PE X o td) (hbase : attributeBase o "values" X.env (eval o X.env) = eval o X.env := by rfl) (hline : (apos.endLine == mpos.line) = true := by rfl)
    (hse : starEach [Expr.Call (.Attribute o "values" apos) [] [] mpos] X.env = [(false, eval (Expr.Call (.Attribute o "values" apos) [] [] mpos) X.env)] := by rfl) :
    PE X (.Call (.Name "list" p) [.Call (.Attribute o "values" apos) [] [] mpos] [] pos) (tListVals td) := by
  refine ⟨fun pins s σ H Q I h => ?_⟩
  refine wpAny_Call_Name_kw (ld_blt I hg hm (u := .type "list") (by first | rfl | decide +kernel) ?_ (by first | decide +kernel | decide) (by first | decide +kernel | decide))
  rw [hse]
  refine PySem.callWith_type1 (wpAny_Call_method0_late hbase hline (thn (hd.run pins s σ H _ I h) fun v s1 ⟨x, H1, I1, r1, a, kvs, ex, ha, q⟩ => ?_))
  subst ex
  obtain rfl : v = Value.ref a := r1
  obtain ⟨hz, hsys, vs, rel, dof⟩ := dk_of I1.hok ha
  obtain ⟨ep, dat⟩ := dof.dictAt
  obtain ⟨ob, es, ho, ex, _⟩ := id dat
  refine ⟨"dict", "dict.values", F.plainAttrs_dict, F.slot_dict_values, F.type_dict_values, ⟨ob, ho, ex.1⟩, fun b e => ?_, Calls.callWith_builtin rfl (PySem.evalArgs_none ?_)⟩
  · cases e
    exact ⟨ob, ho, ex.2.1⟩
  refine call_meetsIn F.slot_dict_values ⟨ob, ho, ex.1⟩ F.entry_dict_values (F.args_dict_values_1 _) (meets_dict_values (mixKind X.prog X.w) a hsys) ⟨⟨vs, dof⟩, ?_⟩
  have up : ∀ b u, s1.heap.get? b = some u → (s1.heap.push { cls := .type "dict_values", data := .fields #[.ref a] }).get? b = some u := fun b u e => Heap.get?_push_of_some _ e
  have hlen : vs.length = kvs.length := (KV.length rel).symm
  refine PySem.W.kdl_call (PySem.W.kdl_values (knd := mixKind X.prog X.w) (kvs := vs) (ep := ep)) (I1.ok.hd hcalm) ⟨⟨_, Heap.get?_push_size _ rfl, rfl, rfl⟩, dat.keep up⟩ (by rw [hlen]; exact hz) fun h' tk acc c' hk hD hacc => ?_
  have hv : Vals (kvs.map (·.2)) acc.toList := vals_vals rel (by rw [Array.length_toList]; exact hacc.1) fun j v e => hacc.2 j v (by rw [← Array.getElem?_toList]; exact e)
  refine ⟨.ref _, upd H1 _ (.lst (kvs.map (·.2))), I1.laid (t' := tk) (fun b u e => hk b u (up b u e)) (Nat.le_of_lt (Nat.lt_of_lt_of_le (Nat.lt_succ_self _) (by rw [Heap.size_push]; exact Nat.le_refl _)))
    (show ObjOk X.prog X.w _ _ _ (.lst (kvs.map (·.2))) from ⟨by rw [List.length_map]; exact hz, acc.toList, c', hv, by rw [Array.toArray_toList]; exact hD⟩), rfl, q _ (I1.hok.fresh (Nat.le_of_lt (Nat.lt_of_lt_of_le (Nat.lt_succ_self _) (by rw [Heap.size_push]; exact Nat.le_refl _))))⟩
end
end L2

set_option Elab.async false
set_option linter.all false
set_option maxRecDepth 100000
set_option maxHeartbeats 4000000
namespace L2
open PySem PySem.Spec PyProof.Rows
/-! ### a, b, c = xs of a list -/
section
variable {prog : Program} {w : World} {A : Around} {E : Value → Shared → Prop}
theorem drawL {it l : Addr} {items : Array Value} (ne : l ≠ it) (n : Nat) : ∀ (i : Nat) (s : Shared) (Q : List Value → Shared → Prop), s.heap.IsListIter it l i → s.heap.IsList l items → i + n ≤ items.size →
    (∀ g, g.IsListIter it l (i + n) → Heap.SameBut it s.heap g → Q ((items.toList.drop i).take n) { s with heap := g }) → wpAny (model prog w) A (draw (.ref it) n) Q E s := by
  induction n with
  | zero =>
    intro i s Q hi _ _ q
    have q := q s.heap hi (Heap.SameBut.refl ..)
    rw [List.take_zero] at q
    exact (show wpAny _ _ (pure []) Q E s from wpAny_pure q)
  | succ n ih =>
    intro i s Q hi hl le q
    have lt : i < items.size := by omega
    refine (show wpAny _ _ (pyNext (.ref it) >>= _) Q E s from wpAny_bind (wpAny_pyNext_list_item hi hl (x := items[i]) (by simp [lt]) fun g1 i1 s1 => wpAny_bind (wpAny_holding (ih (i + 1) _ _ i1 (hl.extBut s1.extBut ne) (by omega) fun g2 i2 s2 => wpAny_pure ?_))))
    have q := q g2 (by rw [show i + (n + 1) = i + 1 + n by omega]; exact i2) (s1.trans s2)
    rw [List.drop_eq_getElem_cons (by simpa using lt), List.take_succ_cons] at q
    simpa using q
theorem unpL {l : Addr} {items : Array Value} {s : Shared} {Q : List Value → Shared → Prop} (hh : A.handled = none) (hl : s.heap.IsList l items)
    (q : ∀ g, Heap.ExtBut s.heap.objs.size s.heap g → Q items.toList { s with heap := g }) : wpAny (model prog w) A (unpackItems (.ref l) items.size none) Q E s := by
  have ne : l ≠ s.heap.objs.size := by
    obtain ⟨o, ho, _⟩ := hl
    exact Nat.ne_of_lt (Heap.lt_size ho)
  unfold unpackItems
  refine wpAny_bind ?_
  unfold notIterableAtAll
  refine wpAny_bind (wpAny_specialOf hl.typeIs slot_list_iter.lookup (wpAny_pure ?_))
  simp only [Bool.false_eq_true, if_false]
  refine wpAny_bind (wpAny_holding (wpAny_pyIter_list hl (wpAny_bind (wpAny_holding (drawL ne items.size 0 _ _ ⟨_, Heap.get?_push_size _ rfl, rfl, rfl⟩ (hl.push _) (by omega) fun g1 i1 s1 => ?_)))))
  rw [List.drop_zero, List.take_of_length_le (by simp), if_neg (by simp)]
  refine wpAny_bind (wpAny_holding (wpAny_pyNext_list_end hh i1 ((hl.push _).extBut s1.extBut ne) (by simp) fun g2 e2 => ?_))
  simp only [Option.isSome_none, Bool.false_eq_true, if_false]
  exact wpAny_pure (q g2 fun b o hb e => e2 b o hb (s1.extBut b o hb (Heap.get?_push_of_some _ e)))
end
section
variable {X : Cx} {pos : Pos}
/-- a, b, c = xs: a list of as many items -/
def gTupL (n : Nat) (t : TGs) : TG := fun v σ H Q => ∃ a xs, v = .ref a ∧ H a = some (.lst xs) ∧ xs.length = n ∧ t xs σ H Q
theorem pg_tupL {es : List Expr} {k : Nat} {t : TGs} {n : Nat} (hc : X.calm = true) (h : PGs X es t) (hn : (assignEach es X.env).length = n := by rfl) (hst : (assignEach es X.env).findIdx? (·.1) = none := by rfl) : PG X (.Tuple es k pos) (gTupL n t) := by
  refine ⟨fun pins s σ H v u Q I r hw => ?_⟩
  obtain ⟨a, xs, e1, ha, hl, hw⟩ := hw
  subst e1
  cases r
  obtain ⟨z, its, c, rv, e⟩ := I.hok a _ ha
  have isl : s.heap.IsList a its.toArray := ⟨_, e, rfl, c, rfl⟩
  rw [assign_Tuple]
  refine wpAny_bind (wpAny_standAt ?_)
  unfold unpack
  rw [hst, show (assignEach es X.env).length = its.toArray.size by rw [hn, ← hl, rv.length, List.size_toArray]]
  refine wpAny_bind (wpAny_holding (unpL (I.ok.hd hc) isl fun g hx => ?_))
  have I1 : Inv X pins σ H { s with heap := g } := I.kept (t' := s.toks) fun b o e => hx b o (Nat.ne_of_lt (Heap.lt_size e)) e
  exact h.run pins _ σ H xs _ Q I1 (by simpa using rv) hw
end
/-! ### dicts compared that may differ -/
/-- the entries of ks are in ls -/
def eqD {κ : Type} [DecidableEq κ] (ls ks : List (κ × V)) : Bool := ks.all fun p => match valV ls p.1 with
  | some v => eqV p.2 v
  | none => false
theorem hits_any {A : Around} {s : Shared} {ls : List (Key × V)} {vb : List (Key × Value)} (rb : KV ls vb) (fl : ∀ k v, valV ls k = some v → flatV v = true) {ks : List (Key × V)} {va : List (Key × Value)} (ra : KV ks va) (fk : ∀ p ∈ ks, flatV p.2 = true) :
    PySem.W.KeqHits A s vb va (eqD ls ks) := by
  unfold KV at ra
  induction ra with
  | nil => exact .nil
  | @cons p q ps qs h t ih =>
    obtain ⟨h1, h2⟩ := h
    obtain ⟨k, v⟩ := q
    have h1 : p.1 = k := h1
    have h2 : RelV p.2 v := h2
    have st : eqD ls (p :: ps) = ((match valV ls p.1 with
      | some v => eqV p.2 v
      | none => false) && eqD ls ps) := rfl
    have rr := rb.val p.1
    rw [st]
    cases e : valV ls p.1 with
    | none =>
      rw [e] at rr
      have rr := rr.none_of
      rw [h1] at rr
      exact .miss rr
    | some y =>
      rw [e] at rr
      obtain ⟨u, hu, ru⟩ := rr.some_of
      rw [h1] at hu
      exact .hit hu (eqAt_V h2 ru (fk p List.mem_cons_self) (fl _ _ e)) (ih fun z hz => fk z (List.mem_cons_of_mem _ hz))
section
variable {X : Cx}
def rEqDB : R2 := fun x y H Q => ∃ a b ks ls, x = .ref a ∧ y = .ref b ∧ H a = some (.dK ks) ∧ H b = some (.dK ls) ∧ (∀ p ∈ ks, flatV p.2 = true) ∧ (∀ k v, valV ls k = some v → flatV v = true) ∧ Q (.bl (decide (ks.length = ls.length) && eqD ls ks)) H
theorem op_eq_dictB (hu : X.A.units < cLine) : OpR X (compareOp .Eq) rEqDB := by
  intro pins s σ H x y v u Q I rx ry h
  obtain ⟨a, b, ks, ls, rfl, rfl, ea, eb, fk, fl, q⟩ := h
  obtain rfl : v = Value.ref a := rx
  obtain rfl : u = Value.ref b := ry
  obtain ⟨_, ya, va, ra, da⟩ := (show ObjOk X.prog X.w H s.heap a (.dK ks) from I.hok a _ ea)
  obtain ⟨_, yb, vb, rb, db⟩ := (show ObjOk X.prog X.w H s.heap b (.dK ls) from I.hok b _ eb)
  refine PySem.W.keq_eq (knd := mixKind X.prog X.w) (r := eqD ls ks) ya yb da db hu (fun _ => hits_any rb fl ra fk) (fin_bl I q ?_)
  rw [ra.length, rb.length]
  rfl
end
/-! ### != by an own __eq__, whatever it says -/
section
variable {X : Cx} {n : Nat} {CX : CXT} {C f : Addr} {fd : FuncData} {ps : List Str} {E : XK} {sp : Sp}
theorem op_neV (F : FnOk X.prog X.w X.K X.mg X.base CX n f fd ps sp) (Z : NeC X.K C f) (hb : Binds X.K fd ps []) (hx : Passes CX X E) (hr : Room (n + 2) X.A) :
    OpR X (compareOp .NotEq) (fun x y H Q => ∃ a b dx dy fs gs, x = .ref a ∧ y = .ref b ∧ H a = some (.ins C dx fs) ∧ H b = some (.ins C dy gs) ∧ sp [.ref a, .ref b] H (fun v H' => ∃ r, v = .bl r ∧ Q (.bl (!r)) H') E) := by
  intro pins s σ H x y v u Q I rx ry hq
  obtain ⟨a, b, dx, dy, fs, gs, rfl, rfl, ha, hb', hsp⟩ := hq
  cases rx
  cases ry
  obtain ⟨mA, J, _⟩ := ins_get I.hok ha
  obtain ⟨mB, J', _⟩ := ins_get I.hok hb'
  obtain ⟨od, J, _⟩ := J.look
  obtain ⟨od', J', _⟩ := J'.look
  obtain ⟨nm, qn, N, bs, hd, sn, sub, ab, col, dd, k0, k1, k2, k3, k5, nid, fo, z1, z2, z3, z4, z5, z6⟩ := Z.ex
  have XK := I.kIn
  have Gn := Heap.Ns.of_isNs (PySem.W.isNs_of_in XK z2)
  obtain ⟨y0, hy0⟩ := obj_eq
  have Y : s.heap.OwnEqNoNe a C f "object" [.type "object"] := ⟨_, fo, nm, qn, N, bs, hd, sn, sub, ab, col, dd, k0, k1, k2, k3, k5, nid, _, y0, J.at_, J.cls, XK _ _ z1, Gn, ns_at XK Gn z3, XK _ _ z5, z6, PySem.F.mro_object, hy0, PySem.W.ns_none_of XK Gn z4⟩
  obtain ⟨hp, gg, dw, tk, os⟩ := s
  refine compareOp_ne_ownEq PySem.F.cmp_object Y J'.at_ J'.cls hr.in1.units0 ?_
  have e0 : Env0 X.prog X.w X.K X.mg X.base X.A.in1 X.stack ⟨hp, gg, dw, tk, os⟩ H := by
    have e := I.env0
    exact ⟨e.frames, e.mod, e.bs, e.bsz, e.funs, e.frf, e.hok, e.bare⟩
  have hl := F.len _ _ _ _ hsp
  have r2 : Vals [V.ref a, V.ref b] [Value.ref a, Value.ref b] := .cons rfl (.cons rfl .nil)
  refine wpAny_call (codeAny_mono (F.run X.A.in1 X.stack _ H ⟨[.ref a, .ref b], []⟩ [.ref a, .ref b] [.ref a, .ref b] _ E (hr.in1.mono (by omega)) e0 (by
    have := hb ⟨hp, gg, dw, tk, os⟩ [.ref a, .ref b] I.kIn (by simpa using hl)
    simpa using this) r2 hsp) fun r s' hq => ?_)
  cases r with
  | error e => exact hx pins σ H _ e s' I hq
  | ok fl =>
    cases fl with
    | ret w =>
      obtain ⟨z, H', I', rz, r0, ez, q⟩ := I.after hq
      subst ez
      cases rz
      exact ⟨r0, rfl, .bl (!r0), H', I', rfl, q⟩
    | next => exact False.elim hq
    | brk => exact False.elim hq
    | cont => exact False.elim hq
end
end L2

set_option Elab.async false
set_option linter.all false
set_option maxRecDepth 100000
set_option maxHeartbeats 4000000
namespace Ash
open PySem PySem.Spec PyProof.Rows L2
open C8 (pss_cut)
open C8 (pss_cut)
def spBookEqV (CB : Addr) : Sp := fun vs H Q _ => ∃ (a b : Addr) (L M : List (Str × Int)), vs = [.ref a, .ref b] ∧ BookAt CB H a L ∧ BookAt CB H b M ∧
  (((∀ z, L.lookup z = M.lookup z) ∧ ∀ H', Ext H H' → Q (.bl true) H') ∨ ((∃ z n m, L.lookup z = some n ∧ M.lookup z = some m ∧ n ≠ m) ∧ ∀ H', Ext H H' → Q (.bl false) H'))
/-- the pairs of a book's dict -/
theorem lk_val : ∀ {L : List (Str × Int)} (z : Str), valV (LK L) (Sum.inr z : Key) = (L.lookup z).map V.int
  | [], z => rfl
  | (y, n) :: r, z => by
    show valV ((Sum.inr y, V.int n) :: LK r) (Sum.inr z) = _
    rw [List.lookup_cons]
    by_cases c : z = y
    · subst c
      rw [beq_self_eq_true]
      exact valV_pos (p := ((Sum.inr z : Key), V.int n)) rfl
    · rw [beq_false_of_ne c]
      rw [valV_neg (p := ((Sum.inr y : Key), V.int n)) (fun e => c (Sum.inr.inj e).symm)]
      exact lk_val z
theorem lk_mem : ∀ {L : List (Str × Int)} {z : Str} {n : Int}, (L.map (·.1)).Nodup → (z, n) ∈ L → L.lookup z = some n
  | [], _, _, _, h => nomatch h
  | (y, m) :: r, z, n, nd, h => by
    rw [List.lookup_cons]
    rw [List.map_cons, List.nodup_cons] at nd
    rcases List.mem_cons.mp h with e | h
    · cases e
      rw [beq_self_eq_true]
    · have c : z ≠ y := fun e => nd.1 (e ▸ List.mem_map.mpr ⟨(z, n), h, rfl⟩)
      rw [beq_false_of_ne c]
      exact lk_mem nd.2 h
theorem lk_has : ∀ {L : List (Str × Int)} {z : Str} {n : Int}, L.lookup z = some n → (z, n) ∈ L
  | [], _, _, h => by cases h
  | (y, m) :: r, z, n, h => by
    rw [List.lookup_cons] at h
    by_cases c : z = y
    · subst c
      rw [beq_self_eq_true] at h
      cases h
      exact List.mem_cons_self
    · rw [beq_false_of_ne c] at h
      exact List.mem_cons_of_mem _ (lk_has h)
theorem lk_sub {L M : List (Str × Int)} (h : ∀ z, L.lookup z = M.lookup z) (nl : (L.map (·.1)).Nodup) : ∀ z ∈ L.map (·.1), z ∈ M.map (·.1) := fun z hz => by
  obtain ⟨⟨y, n⟩, hy, rfl⟩ := List.mem_map.mp hz
  have := lk_mem nl hy
  rw [h] at this
  exact List.mem_map.mpr ⟨_, lk_has this, rfl⟩
theorem lk_len {L M : List (Str × Int)} (h : ∀ z, L.lookup z = M.lookup z) (nl : (L.map (·.1)).Nodup) (nm : (M.map (·.1)).Nodup) : L.length = M.length := by
  have p : (L.map (·.1)).Perm (M.map (·.1)) := (List.perm_ext_iff_of_nodup nl nm).mpr fun z => ⟨lk_sub h nl z, lk_sub (fun z => (h z).symm) nm z⟩
  have := p.length_eq
  rw [List.length_map, List.length_map] at this
  exact this
theorem lk_eqD {L M : List (Str × Int)} (nl : (L.map (·.1)).Nodup) (h : ∀ z, L.lookup z = M.lookup z) : eqD (LK M) (LK L) = true := by
  unfold eqD
  rw [List.all_eq_true]
  intro p hp
  obtain ⟨⟨z, n⟩, hz, rfl⟩ := List.mem_map.mp hp
  show (match valV (LK M) (Sum.inr z) with | some v => eqV (.int n) v | none => false) = true
  rw [lk_val, ← h, lk_mem nl hz]
  show eqV (.int n) (.int n) = true
  simp [eqV]
theorem lk_neD {L M : List (Str × Int)} {z : Str} {n m : Int} (h1 : L.lookup z = some n) (h2 : M.lookup z = some m) (ne : n ≠ m) : eqD (LK M) (LK L) = false := by
  unfold eqD
  rw [List.all_eq_false]
  refine ⟨_, List.mem_map.mpr ⟨(z, n), lk_has h1, rfl⟩, ?_⟩
  show ¬ (match valV (LK M) (Sum.inr z) with | some v => eqV (.int n) v | none => false) = true
  rw [lk_val, h2]
  show ¬ eqV (.int n) (.int m) = true
  intro e
  have e : (n == m) = true := e
  exact ne (by simpa using e)
theorem lk_flat {L : List (Str × Int)} : ∀ p ∈ LK L, flatV p.2 = true := fun p hp => by
  obtain ⟨x, _, rfl⟩ := List.mem_map.mp hp
  rfl
theorem lk_flat' {L : List (Str × Int)} : ∀ k v, valV (LK L) k = some v → flatV v = true := fun k v h => by
  unfold valV at h
  cases e : (LK L).find? (fun kv => decide (kv.1 = k)) with
  | none => rw [e] at h; cases h
  | some p =>
    rw [e] at h
    cases h
    exact lk_flat p (List.mem_of_find?_eq_some e)
section
variable {P : Program} {w : World} {K : PySem.W.Frag} {mg : Str → Option Value} {base : Heap}
abbrev s_Book_eq : Stmt := inClass (topS 23) 1
theorem sc_Book_eq : FnScope ["self", "other"] ["self", "other"] (defScope s_Book_eq) := ⟨rfl, rfl, rfl, by decide +kernel, rfl, by decide +kernel, by decide +kernel⟩
theorem ok_book_eqV {f CBook : Addr} {fd : FuncData} (F : Fun K "__eq__" "Book.__eq__" s_Book_eq f fd) (B : Blt mg) (T : Cb K mg CBook) (bk : ∀ H b dx fs, H b = some (.ins CBook dx fs) → TyX K H (.ref b) (.ref CBook)) : FnOk P w K mg base CX0 1 f fd ["self", "other"] (spBookEqV CBook) := by
  have c_Book := T.c
  refine F.ok sc_Book_eq (fun vs H Q E h => ?_) (fun cdv A outer s H vs Q E hr h => ?_)
  · obtain ⟨a, b, L, M, rfl, _⟩ := h
    rfl
  · obtain ⟨a, b, L, M, rfl, hA, hB, q⟩ := h
    have hu := hu_of hr
    have hu0 : (A.deeper (envOfC "Book.__eq__" (defScope s_Book_eq) s.heap.objs.size f cdv)).units < cLine := by omega
    refine ⟨_, (pss_one (ps_ret (pe_and (pe_callB call_isi (by rfl) B.isinstance (by decide +kernel) (pa_cons (pv 1) (pa_cons (pe_glob (v := .ref CBook) (by rfl) c_Book rfl) pa_nil))) (pe_one (pe_cmpR (op_eq_dictB hu0) (pe_fld (pv 0) rfl) (pe_fld (pv 1) rfl) (nomark _)))))), ?_⟩
    obtain ⟨dx, d, L', h1, h2, h3, nd⟩ := id hA
    obtain ⟨dy, e, M', g1, g2, g3, ne⟩ := id hB
    refine ⟨_, rfl, _, _, _, _, true, rfl, ClsV.own _, bk _ _ _ _ g1, (by show PySem.W.kitOne K _ _ = _; unfold PySem.W.kitOne; rw [if_pos (by simp)]), _, rfl, iteT ?_⟩
    refine ⟨_, rfl, a, CBook, dx, _, _, rfl, h1, T.cl, T.nL, rfl, _, rfl, b, CBook, dy, _, _, rfl, g1, T.cl, T.nL, rfl, d, e, _, _, rfl, rfl, h2, g2, lk_flat, lk_flat', ?_⟩
    rcases q with ⟨q0, q⟩ | ⟨⟨z, n, m, q1, q2, q3⟩, q⟩
    · have hlk : ∀ z, L'.lookup z = M'.lookup z := fun z => by rw [h3, q0, g3]
      rw [lk_eqD nd hlk, decide_eq_true (show (LK L').length = (LK M').length by unfold LK; rw [List.length_map, List.length_map]; exact lk_len hlk nd ne)]
      exact q H Ext.rfl'
    · rw [lk_neD (by rw [h3]; exact q1) (by rw [g3]; exact q2) q3, Bool.and_false]
      exact q H Ext.rfl'

/-- books that tell the same -/
def EqBk (CB : Addr) : Addr → Addr → Hp → Prop := fun a b H => ∃ L M, BookAt CB H a L ∧ BookAt CB H b M ∧ ∀ z, L.lookup z = M.lookup z
theorem ok_book_eqE {f CBook : Addr} {fd : FuncData} (F : Fun K "__eq__" "Book.__eq__" s_Book_eq f fd) (B : Blt mg) (T : Cb K mg CBook) (bk : ∀ H b dx fs, H b = some (.ins CBook dx fs) → TyX K H (.ref b) (.ref CBook)) : FnOk P w K mg base CX0 1 f fd ["self", "other"] (spEq (EqBk CBook)) := by
  have o := ok_book_eqV (P := P) (w := w) (base := base) F B T bk
  exact o.imp fun vs H Q E ⟨a, b, e, ⟨L, M, h1, h2, h3⟩, q⟩ => ⟨a, b, L, M, e, h1, h2, .inl ⟨h3, q⟩⟩
end
end Ash

set_option Elab.async false
set_option linter.all false
set_option maxRecDepth 100000
set_option maxHeartbeats 4000000
namespace Ash
open PySem PySem.Spec PyProof.Rows L2
open C8 (pss_cut)
def spJLen (K : PySem.W.Frag) (aT CJ CB : Addr) : Sp := fun vs H Q _ => ∃ (j b : Addr) (L : List (Str × Int)) (us : List V) (xs : List Ent), vs = [.ref j] ∧ JAt K aT CJ CB H j b L us xs ∧ Q (.int us.length) H
section
variable {P : Program} {w : World} {K : PySem.W.Frag} {mg : Str → Option Value} {base : Heap}
abbrev s_Journal_len : Stmt := inClass (topS 35) 2
theorem sc_Journal_len : FnScope ["self"] ["self"] (defScope s_Journal_len) := ⟨rfl, rfl, rfl, by decide +kernel, rfl, by decide +kernel, by decide +kernel⟩
theorem ok_jlen {f CJ CB aT : Addr} {fd : FuncData} (F : Fun K "__len__" "Journal.__len__" s_Journal_len f fd) (B : Blt mg) (T : Cj P K mg CJ CB) : FnOk P w K mg base CX0 1 f fd ["self"] (spJLen K aT CJ CB) := by
  refine F.ok sc_Journal_len (fun vs H Q E h => ?_) (fun cdv A outer s H vs Q E hr h => ?_)
  · obtain ⟨j, b, L, us, xs, rfl, _⟩ := h
    rfl
  · obtain ⟨j, b, L, us, xs, rfl, hJ, q⟩ := h
    refine ⟨_, (pss_one (ps_ret (pe_callB call_len_seq (by rfl) B.len (by decide +kernel) (pa_cons (pe_fld (pv 0) rfl) pa_nil)))), ?_⟩
    obtain ⟨dx, t, kd, h1, h2, h3, hl, h5, h6, h7⟩ := id hJ
    exact ⟨_, rfl, j, CJ, dx, _, _, rfl, h1, T.cl, T.nE, jf_e _ _ _, t, us, rfl, .inr h3, q⟩
end
end Ash

set_option Elab.async false
set_option linter.all false
set_option maxRecDepth 100000
set_option maxHeartbeats 4000000
namespace Ash
open PySem PySem.Spec PyProof.Rows L2
open C8 (pss_cut)
/-! ### what stays: a heap without the places that change -/
open Classical in
noncomputable def cutH (B : Addr → Prop) (H : Hp) : Hp := fun c => if B c then none else H c
theorem cut_at {B : Addr → Prop} {H : Hp} {c : Addr} {x : HO} (n : ¬ B c) (h : H c = some x) : cutH B H c = some x := by
  unfold cutH
  rw [if_neg n]
  exact h
theorem cut_of {B : Addr → Prop} {H : Hp} {c : Addr} {x : HO} (h : cutH B H c = some x) : ¬ B c ∧ H c = some x := by
  unfold cutH at h
  by_cases c : B c
  · rw [if_pos c] at h
    cases h
  · rw [if_neg c] at h
    exact ⟨c, h⟩
theorem cut_same (B : Addr → Prop) (H : Hp) : Same (cutH B H) H := fun _ _ h => (cut_of h).2
theorem cut_step {B B' : Addr → Prop} {H H' : Hp} (k : ∀ c x, H c = some x → ¬ B c → H' c = some x) (g : ∀ c, B' c → B c ∨ H c = none) : Same (cutH B H) (cutH B' H') := fun c x h => by
  obtain ⟨n, h⟩ := cut_of h
  refine cut_at (fun b => ?_) (k c x h n)
  rcases g c b with b | b
  · exact n b
  · rw [h] at b; cases b
abbrev uni (B A : Addr → Prop) : Addr → Prop := fun c => B c ∨ A c
/-- all but the places of A stands; A grows by new places -/
structure Fr (A : Addr → Prop) (H : Hp) (A' : Addr → Prop) (H' : Hp) : Prop where
  k : ∀ c x, H c = some x → ¬ A c → H' c = some x
  g : ∀ c, A' c → A c ∨ H c = none
theorem Fr.cut {A A' B : Addr → Prop} {H H' : Hp} (f : Fr A H A' H') (s : ∀ c, A c → B c) : Same (cutH B H) (cutH (uni B A') H') :=
  cut_step (fun c x h n => f.k c x h fun a => n (s c a)) fun c b => b.elim .inl fun a => (f.g c a).imp (s c) id
theorem Fr.of_same {A : Addr → Prop} {H H' : Hp} (s : Same H H') : Fr A H A H' := ⟨fun c x h _ => s c x h, fun c h => .inl h⟩
theorem no_of {H0 H : Hp} {c : Addr} (sm : Same H0 H) (h0 : H c = none) : H0 c = none := by
  cases e : H0 c with
  | none => rfl
  | some x => rw [sm _ _ e] at h0; cases h0
/-! ### an office -/
structure Dr where
  z : Str
  t : Addr
  l : Addr
  n : Int
  es : List Ent
def DrK (ps : List Dr) : List (Key × V) := ps.map fun d => (Sum.inr d.z, V.ref d.t)
theorem DrK_val : ∀ (ps : List Dr) (z : Str), valV (DrK ps) (Sum.inr z : Key) = (ps.find? fun d => decide (d.z = z)).map fun d => V.ref d.t
  | [], z => rfl
  | a :: ps, z => by
    have ih := DrK_val ps z
    by_cases h : a.z = z
    · show valV ((Sum.inr a.z, V.ref a.t) :: DrK ps) (Sum.inr z : Key) = _
      rw [valV_pos (by rw [h]), List.find?_cons_of_pos (by simpa using h)]
      rfl
    · show valV ((Sum.inr a.z, V.ref a.t) :: DrK ps) (Sum.inr z : Key) = _
      rw [valV_neg (fun q => h (Sum.inr.inj q)), ih, List.find?_cons_of_neg (by simpa using h)]
def DEnts (H : Hp) (us : List V) (es : List Ent) : Prop := us.length = es.length ∧ ∀ (i : Nat) v x, us[i]? = some v → es[i]? = some x → ∃ e, v = .ref e ∧ DAt H e x ∧ x.ok
theorem DEnts.same {H H' : Hp} {us : List V} {es : List Ent} (h : DEnts H us es) (s : Same H H') : DEnts H' us es := ⟨h.1, fun i v x a b => by
  obtain ⟨e, h1, h2, h3⟩ := h.2 i v x a b
  exact ⟨e, h1, s _ _ h2, h3⟩⟩
theorem DEnts.snoc {H : Hp} {us : List V} {es : List Ent} {e : Addr} {x : Ent} (h : DEnts H us es) (he : DAt H e x) (ok : x.ok) : DEnts H (us ++ [.ref e]) (es ++ [x]) := by
  obtain ⟨hl, h⟩ := h
  refine ⟨by rw [List.length_append, List.length_append, hl]; rfl, fun i v y a b => ?_⟩
  by_cases c : i < us.length
  · rw [List.getElem?_append_left c] at a
    rw [List.getElem?_append_left (by omega)] at b
    exact h i v y a b
  · have hi : i = us.length := by
      have := (List.getElem?_eq_some_iff.mp a).1
      rw [List.length_append] at this
      have : i < us.length + 1 := this
      omega
    subst hi
    rw [List.getElem?_append_right (Nat.le_refl _), Nat.sub_self] at a
    rw [hl, List.getElem?_append_right (Nat.le_refl _), Nat.sub_self] at b
    cases a
    cases b
    exact ⟨e, rfl, he, ok⟩
def DrAt (CD : Addr) (B A : Addr → Prop) (H : Hp) (d : Dr) : Prop := ∃ tx us, cutH B H d.t = some (.ins CD tx (dftF d.n d.l)) ∧ A d.l ∧ H d.l = some (.lst us) ∧ DEnts (cutH B H) us d.es
structure OA where
  o : Addr
  dx : Addr
  b : Addr
  j : Addr
  bj : Addr
  dd : Addr
  pa : Addr
  cb : Addr
structure OS where
  L : List (Str × Int)
  xs : List Ent
  us : List V
  ps : List Dr
  past : List Nat
  cl : Int
  cb : List Int
def OS.find (S : OS) (z : Str) : Option Dr := S.ps.find? fun d => decide (d.z = z)
structure Cls6 where
  K : PySem.W.Frag
  aT : Addr
  CJ : Addr
  CB : Addr
  CO : Addr
  CD : Addr
/-- what may change: lists, dicts and the office itself -/
def MuO (CO : Addr) : HO → Prop
  | .lst _ => True
  | .dK _ => True
  | .ins C _ _ => C = CO
  | _ => False
def Mu (CO : Addr) (o : Option HO) : Prop := ∃ u, o = some u ∧ MuO CO u
/-- the places of an office are A (within B, the places that change), its addresses a, its state S -/
structure OfM (c : Cls6) (B A : Addr → Prop) (H : Hp) (a : OA) (S : OS) : Prop where
  o : H a.o = some (.ins c.CO a.dx (ofF a.b a.j a.dd a.pa S.cl a.cb))
  dd : H a.dd = some (.dK (DrK S.ps))
  pa : H a.pa = some (.lst (S.past.map fun (n : Nat) => V.int (n : Int)))
  cb : H a.cb = some (.lst (S.cb.map V.int))
  Ao : A a.o
  Add : A a.dd
  Apa : A a.pa
  Acb : A a.cb
  AB : ∀ x, A x → B x
  BT : ∀ x, B x → Mu c.CO (H x)
  ne : a.pa ≠ a.cb
  bk : BookAt c.CB (cutH B H) a.b S.L
  jr : JAt c.K c.aT c.CJ c.CB (cutH B H) a.j a.bj S.L S.us S.xs
  x4 : S.us.length ≤ 400
  dr : ∀ d ∈ S.ps, DrAt c.CD B A H d ∧ d.l ≠ a.pa ∧ d.l ≠ a.cb ∧ IsNm d.z ∧ d.es.length ≤ 20
  ndl : (S.ps.map (·.l)).Nodup
  ndz : (S.ps.map (·.z)).Nodup
  cbl : S.cb.length = S.xs.length
  pst : (S.past ++ [S.xs.length]).Pairwise (· ≤ ·)
section
variable {c : Cls6} {B A : Addr → Prop} {H : Hp} {a : OA} {S : OS}
theorem OfM.find (h : OfM c B A H a S) {z : Str} {d : Dr} (e : S.find z = some d) : d ∈ S.ps ∧ d.z = z := ⟨List.mem_of_find?_eq_some e, by simpa using List.find?_some e⟩
theorem OfM.keep {B' : Addr → Prop} {H' : Hp} (h : OfM c B A H a S) (kA : ∀ p x, A p → H p = some x → H' p = some x) (kB : ∀ p x, H p = some x → ¬ B p → H' p = some x) (g1 : ∀ p, B p → B' p) (g2 : ∀ p, B' p → B p ∨ H p = none) (gH : ∀ p, B' p → Mu c.CO (H' p)) : OfM c B' A H' a S := by
  have s := cut_step kB g2
  exact ⟨kA _ _ h.Ao h.o, kA _ _ h.Add h.dd, kA _ _ h.Apa h.pa, kA _ _ h.Acb h.cb, h.Ao, h.Add, h.Apa, h.Acb, fun x hx => g1 x (h.AB x hx), gH, h.ne, h.bk.same s, h.jr.same s, h.x4, fun d hd => by
    obtain ⟨⟨tx, us, h1, h2, h3, h4⟩, r⟩ := h.dr d hd
    exact ⟨⟨tx, us, s _ _ h1, h2, kA _ _ h2 h3, h4.same s⟩, r⟩, h.ndl, h.ndz, h.cbl, h.pst⟩
theorem OfM.same {H' : Hp} (h : OfM c B A H a S) (s : Same H H') : OfM c B A H' a S :=
  h.keep (fun p x _ e => s _ _ e) (fun p x e _ => s _ _ e) (fun _ x => x) (fun _ x => .inl x) fun p b => by
    obtain ⟨u, e, m⟩ := h.BT p b
    exact ⟨u, s _ _ e, m⟩
/-- behind a draw -/
theorem OfM.pl {H' : Hp} {p s : Addr} (h : OfM c B A H a S) (P : Pl H H' p s) (np : ¬ A p) (bp : B p) : OfM c B A H' a S :=
  h.keep (fun q x hq e => P.keep e (fun z => np (z ▸ hq))) (fun q x e n => P.keep e (fun z => n (z ▸ bp))) (fun _ x => x) (fun _ x => .inl x) fun q b => by
    by_cases z : q = p
    · subst z
      obtain ⟨_, _, _, _, _, e, _⟩ := P.now
      exact ⟨_, e, trivial⟩
    · obtain ⟨u, e, m⟩ := h.BT q b
      exact ⟨u, P.keep e z, m⟩
theorem OfM.free (h : OfM c B A H a S) {q : Addr} (hq : H q = none) : ¬ B q := fun b => by
  obtain ⟨u, e, _⟩ := h.BT q b
  rw [hq] at e; cases e
theorem OfM.tup (h : OfM c B A H a S) {q : Addr} {xs : List V} (hq : H q = some (.tup xs)) : ¬ B q := fun b => by
  obtain ⟨u, e, m⟩ := h.BT q b
  rw [hq] at e
  cases e
  exact m
theorem DrAt.mono {CD : Addr} {B B' A A' : Addr → Prop} {H H' : Hp} {d : Dr} (h : DrAt CD B A H d) (s : Same (cutH B H) (cutH B' H')) (ha : A d.l → A' d.l) (hl : H' d.l = H d.l) : DrAt CD B' A' H' d := by
  obtain ⟨tx, us, h1, h2, h3, h4⟩ := h
  exact ⟨tx, us, s _ _ h1, ha h2, by rw [hl]; exact h3, h4.same s⟩
/-- a step of the office: its places A grow to A' -/
theorem OfM.to {A' : Addr → Prop} {H' : Hp} {a' : OA} {S' : OS} (h : OfM c B A H a S) (f : Fr A H A' H') (sub : ∀ p, A p → A' p) (hA : ∀ p, A' p → Mu c.CO (H' p)) (e1 : a'.o = a.o) (e2 : a'.dd = a.dd) (e3 : a'.pa = a.pa) (e4 : a'.cb = a.cb) (eb : a'.b = a.b) (eL : S'.L = S.L)
    (ho : H' a.o = some (.ins c.CO a'.dx (ofF a'.b a'.j a'.dd a'.pa S'.cl a'.cb))) (hdd : H' a.dd = some (.dK (DrK S'.ps))) (hpa : H' a.pa = some (.lst (S'.past.map fun (n : Nat) => V.int (n : Int)))) (hcb : H' a.cb = some (.lst (S'.cb.map V.int)))
    (jr : Same (cutH B H) (cutH (uni B A') H') → JAt c.K c.aT c.CJ c.CB (cutH (uni B A') H') a'.j a'.bj S'.L S'.us S'.xs) (x4 : S'.us.length ≤ 400)
    (dr : Same (cutH B H) (cutH (uni B A') H') → ∀ d ∈ S'.ps, DrAt c.CD (uni B A') A' H' d ∧ d.l ≠ a.pa ∧ d.l ≠ a.cb ∧ IsNm d.z ∧ d.es.length ≤ 20) (ndl : (S'.ps.map (·.l)).Nodup) (ndz : (S'.ps.map (·.z)).Nodup) (cbl : S'.cb.length = S'.xs.length) (pst : (S'.past ++ [S'.xs.length]).Pairwise (· ≤ ·)) : OfM c (uni B A') A' H' a' S' := by
  have s := f.cut h.AB
  obtain ⟨o', dx', b', j', bj', dd', pa', cb'⟩ := a'
  cases e1; cases e2; cases e3; cases e4; cases eb
  refine ⟨ho, hdd, hpa, hcb, sub _ h.Ao, sub _ h.Add, sub _ h.Apa, sub _ h.Acb, fun x hx => .inr hx, fun x hx => ?_, h.ne, by rw [eL]; exact h.bk.same s, jr s, x4, dr s, ndl, ndz, cbl, pst⟩
  rcases hx with hx | hx
  · by_cases c : A x
    · exact hA x (sub x c)
    · obtain ⟨u, e, m⟩ := h.BT x hx
      exact ⟨u, f.k _ _ e c, m⟩
  · exact hA x hx
theorem nodup_at {α β : Type} {f : α → β} : ∀ {l : List α}, (l.map f).Nodup → ∀ x ∈ l, ∀ y ∈ l, f x = f y → x = y
  | [], _, _, h, _, _, _ => nomatch h
  | a :: l, h, x, hx, y, hy, e => by
    rw [List.map_cons, List.nodup_cons] at h
    rcases List.mem_cons.mp hx with rfl | hx1
    · rcases List.mem_cons.mp hy with rfl | hy1
      · rfl
      · exact absurd (show f x ∈ l.map f from List.mem_map.mpr ⟨y, hy1, e.symm⟩) h.1
    · rcases List.mem_cons.mp hy with rfl | hy1
      · exact absurd (show f y ∈ l.map f from List.mem_map.mpr ⟨x, hx1, e⟩) h.1
      · exact nodup_at h.2 x hx1 y hy1 e
/-- one more entry in a draft -/
def OS.putd (S : OS) (z : Str) (x : Ent) : OS := { S with ps := S.ps.map fun d => if d.z = z then { d with es := d.es ++ [x] } else d }
theorem putd_map {γ : Type} (f : Dr → γ) (hf : ∀ d es, f { d with es := es } = f d) (S : OS) (z : Str) (x : Ent) : ((S.putd z x).ps.map f) = S.ps.map f := by
  show (S.ps.map _).map f = _
  rw [List.map_map]
  refine List.map_congr_left fun d _ => ?_
  show f (if d.z = z then { d with es := d.es ++ [x] } else d) = f d
  split
  · exact hf d _
  · rfl
theorem OfM.lne (h : OfM c B A H a S) {d : Dr} (hd : d ∈ S.ps) : d.l ≠ a.o ∧ d.l ≠ a.dd ∧ d.l ≠ a.pa ∧ d.l ≠ a.cb := by
  obtain ⟨⟨tx, us, h1, h2, h3, h4⟩, n1, n2, _⟩ := h.dr d hd
  exact ⟨ne_of h3 h.o (by intro z; cases z), ne_of h3 h.dd (by intro z; cases z), n1, n2⟩
theorem OfM.put (h : OfM c B A H a S) {H1 : Hp} {d : Dr} {e : Addr} {x : Ent} {us : List V} (s1 : Same H H1) (hd : d ∈ S.ps) (hl : H d.l = some (.lst us)) (hus : DEnts (cutH B H) us d.es) (he : DAt H1 e x) (ok : x.ok) (l20 : d.es.length < 20) :
    Fr A H A (upd H1 d.l (.lst (us ++ [.ref e]))) ∧ OfM c (uni B A) A (upd H1 d.l (.lst (us ++ [.ref e]))) a (S.putd d.z x) := by
  obtain ⟨n1, n2, n3, n4⟩ := h.lne hd
  obtain ⟨⟨tx, us0, h1, h2, h3, h4⟩, _⟩ := h.dr d hd
  have f : Fr A H A (upd H1 d.l (.lst (us ++ [.ref e]))) := ⟨fun q y hq nq => by rw [upd_ne (fun z : q = d.l => nq (by rw [z]; exact h2))]; exact s1 _ _ hq, fun _ q => .inl q⟩
  have hlk : H1 d.l = some (.lst us) := s1 _ _ hl
  have he' : cutH (uni B A) (upd H1 d.l (.lst (us ++ [.ref e]))) e = some (.tup x.vs.dropLast) := by
    have nb : ¬ B e := fun b => by
      obtain ⟨u, e1, m⟩ := h.BT e b
      have := s1 _ _ e1
      rw [he] at this
      cases this
      exact m
    refine cut_at (fun z => z.elim nb fun q => nb (h.AB _ q)) ?_
    have he0 : H1 e = some (.tup x.vs.dropLast) := he
    rw [upd_ne (fun z => by rw [z, hlk] at he0; cases he0)]
    exact he0
  refine ⟨f, h.to f (fun _ x => x) (fun p hp => ?_) rfl rfl rfl rfl rfl rfl (by rw [upd_ne n1.symm]; exact s1 _ _ h.o) ?_ (by rw [upd_ne n3.symm]; exact s1 _ _ h.pa) (by rw [upd_ne n4.symm]; exact s1 _ _ h.cb) (fun s => h.jr.same s) h.x4 (fun s d' hd' => ?_) ?_ ?_ h.cbl h.pst⟩
  · by_cases z : p = d.l
    · subst z
      exact ⟨_, upd_same, trivial⟩
    · obtain ⟨u, e1, m⟩ := h.BT p (h.AB p hp)
      exact ⟨u, by rw [upd_ne z]; exact s1 _ _ e1, m⟩
  · rw [upd_ne n2.symm]
    have e0 : DrK (S.putd d.z x).ps = DrK S.ps := putd_map (fun d => ((Sum.inr d.z : Key), V.ref d.t)) (fun _ _ => rfl) S d.z x
    rw [e0]
    exact s1 _ _ h.dd
  · obtain ⟨d0, hd0, e0⟩ := List.mem_map.mp (show d' ∈ S.ps.map fun d' => if d'.z = d.z then { d' with es := d'.es ++ [x] } else d' from hd')
    obtain ⟨D0, m1, m2, m3, m4⟩ := h.dr d0 hd0
    by_cases cz : d0.z = d.z
    · have : d0 = d := nodup_at h.ndz _ hd0 _ hd cz
      subst this
      rw [if_pos rfl] at e0
      subst e0
      refine ⟨⟨tx, us ++ [.ref e], s _ _ h1, h2, upd_same, (hus.same s).snoc he' ok⟩, m1, m2, m3, ?_⟩
      show (d0.es ++ [x]).length ≤ 20
      rw [List.length_append]
      exact l20
    · rw [if_neg cz] at e0
      subst e0
      have nl : d0.l ≠ d.l := fun z => cz (congrArg Dr.z (nodup_at h.ndl _ hd0 _ hd z))
      refine ⟨D0.mono s (fun x => x) ?_, m1, m2, m3, m4⟩
      rw [upd_ne nl]
      obtain ⟨_, _, _, _, q, _⟩ := D0
      rw [q, s1 _ _ q]
  · rw [putd_map (·.l) (fun _ _ => rfl)]
    exact h.ndl
  · rw [putd_map (·.z) (fun _ _ => rfl)]
    exact h.ndz
/-- a draft is gone -/
def OS.dropd (S : OS) (z : Str) : OS := { S with ps := S.ps.filter fun d => decide (d.z ≠ z) }
theorem DrK_drop (S : OS) (z : Str) : dropK (DrK S.ps) (Sum.inr z : Key) = DrK (S.dropd z).ps := by
  unfold dropK DrK OS.dropd
  rw [List.filter_map]
  congr 1
  refine List.filter_congr fun d _ => ?_
  show decide ((Sum.inr d.z : Key) ≠ Sum.inr z) = decide (d.z ≠ z)
  exact decide_eq_decide.mpr ⟨fun q e => q (congrArg _ e), fun q e => q (Sum.inr.inj e)⟩
theorem OfM.drop (h : OfM c B A H a S) {H1 : Hp} (s1 : Same H H1) (z : Str) : Fr A H A (upd H1 a.dd (.dK (DrK (S.dropd z).ps))) ∧ OfM c (uni B A) A (upd H1 a.dd (.dK (DrK (S.dropd z).ps))) a (S.dropd z) := by
  have f : Fr A H A (upd H1 a.dd (.dK (DrK (S.dropd z).ps))) := ⟨fun q y hq nq => by rw [upd_ne (fun z : q = a.dd => nq (by rw [z]; exact h.Add))]; exact s1 _ _ hq, fun _ q => .inl q⟩
  have no : a.o ≠ a.dd := ne_of h.o h.dd (by intro z; cases z)
  have np : a.pa ≠ a.dd := ne_of h.pa h.dd (by intro z; cases z)
  have nc : a.cb ≠ a.dd := ne_of h.cb h.dd (by intro z; cases z)
  refine ⟨f, h.to f (fun _ x => x) (fun p hp => ?_) rfl rfl rfl rfl rfl rfl (by rw [upd_ne no]; exact s1 _ _ h.o) upd_same (by rw [upd_ne np]; exact s1 _ _ h.pa) (by rw [upd_ne nc]; exact s1 _ _ h.cb) (fun s => h.jr.same s) h.x4 (fun s d' hd' => ?_) ?_ ?_ h.cbl h.pst⟩
  · by_cases q : p = a.dd
    · subst q
      exact ⟨_, upd_same, trivial⟩
    · obtain ⟨u, e1, m⟩ := h.BT p (h.AB p hp)
      exact ⟨u, by rw [upd_ne q]; exact s1 _ _ e1, m⟩
  · have hd0 : d' ∈ S.ps := (List.mem_filter.mp hd').1
    obtain ⟨D0, m⟩ := h.dr d' hd0
    refine ⟨D0.mono s (fun x => x) ?_, m⟩
    rw [upd_ne (h.lne hd0).2.1]
    obtain ⟨_, _, _, _, q, _⟩ := D0
    rw [q, s1 _ _ q]
  · exact h.ndl.sublist ((List.filter_sublist).map _)
  · exact h.ndz.sublist ((List.filter_sublist).map _)
theorem OfM.val (h : OfM c B A H a S) (z : Str) : valV (DrK S.ps) (Sum.inr z : Key) = (S.find z).map fun d => V.ref d.t := DrK_val S.ps z
end
end Ash

set_option Elab.async false
set_option linter.all false
set_option maxRecDepth 100000
set_option maxHeartbeats 4000000
namespace Ash
open PySem PySem.Spec PyProof.Rows L2
open C8 (pss_cut)
/-! ### the office's smaller deeds -/
def StrOk (K : PySem.W.Frag) (H : Hp) (v : V) : Prop := (∃ z, v = .str z ∧ z.length ≤ sizeLine) ∨ NotStr K H v
def wfind (S : OS) : V → Option Dr
  | .str z => S.find z
  | _ => none
def isNmV : V → Bool
  | .str z => nmB z
  | _ => false
def spDraftO (c : Cls6) (CI : Addr) : Sp := fun vs H Q E => ∃ (B A : Addr → Prop) (a : OA) (S : OS) (v : V), vs = [.ref a.o, v] ∧ OfM c B A H a S ∧ StrOk c.K H v ∧
  (∀ d H', wfind S v = some d → Same H H' → Q (.ref d.t) H') ∧ (∀ e H', wfind S v = none → Same H H' → Xd H' e "writer" v → E (.ref CI) (some e) H')
def spBeginO (c : Cls6) (CN CY : Addr) : Sp := fun vs H Q E => ∃ (B A : Addr → Prop) (a : OA) (S : OS) (v : V), vs = [.ref a.o, v] ∧ OfM c B A H a S ∧ StrOk c.K H v ∧ S.ps.length < 900 ∧
  (∀ z t l A' H', v = .str z → nmB z = true → S.find z = none → Fr A H A' H' → (∀ p, A' p ↔ A p ∨ p = l) → OfM c (uni B A') A' H' a { S with ps := S.ps ++ [⟨z, t, l, S.cl, []⟩] } → Q .non H') ∧
  (∀ d e H', wfind S v = some d → Same H H' → Xd H' e "writer" v → E (.ref CY) (some e) H') ∧
  (∀ e H', isNmV v = false → Same H H' → Xd H' e "value" v → E (.ref CN) (some e) H')
def InB (L : List (Str × Int)) (x : Ent) : Prop := ∀ id s k m a r, x = .row id s k m a r → (L.lookup s).isSome
def spPutO (c : Cls6) (CI CE : Addr) : Sp := fun vs H Q E => ∃ (B A : Addr → Prop) (a : OA) (S : OS) (v : V) (en : Addr) (x : Ent), vs = [.ref a.o, v, .ref en] ∧ OfM c B A H a S ∧ StrOk c.K H v ∧ DAt H en x ∧ x.ok ∧
  (∀ d H', wfind S v = some d → d.es.length < 20 → InB S.L x → Fr A H A H' → OfM c (uni B A) A H' a (S.putd d.z x) → Q .non H') ∧
  (∀ d e H', wfind S v = some d → (d.es.length = 20 ∨ ¬ InB S.L x) → Same H H' → Xd H' e "at" (.int d.es.length) → E (.ref CE) (some e) H') ∧
  (∀ e H', wfind S v = none → Same H H' → Xd H' e "writer" v → E (.ref CI) (some e) H')
def spDropO (c : Cls6) (CI : Addr) : Sp := fun vs H Q E => ∃ (B A : Addr → Prop) (a : OA) (S : OS) (v : V), vs = [.ref a.o, v] ∧ OfM c B A H a S ∧ StrOk c.K H v ∧
  (∀ d H', wfind S v = some d → Fr A H A H' → OfM c (uni B A) A H' a (S.dropd d.z) → Q .non H') ∧
  (∀ e H', wfind S v = none → Same H H' → Xd H' e "writer" v → E (.ref CI) (some e) H')
def WithN (H : Hp) (us : List V) (es : List Ent) (w : V) : Prop := us.length = es.length ∧ ∀ (i : Nat) v x, us[i]? = some v → es[i]? = some x → ∃ e, v = .ref e ∧ H e = some (.tup (x.vs.dropLast ++ [w])) ∧ x.ok
def spTellO (c : Cls6) (CI : Addr) : Sp := fun vs H Q E => ∃ (B A : Addr → Prop) (a : OA) (S : OS) (v : V), vs = [.ref a.o, v] ∧ OfM c B A H a S ∧ StrOk c.K H v ∧
  (∀ d l us H', wfind S v = some d → Same H H' → H l = none → H' l = some (.lst us) → WithN H' us d.es .non → Q (.ref l) H') ∧
  (∀ e H', wfind S v = none → Same H H' → Xd H' e "writer" v → E (.ref CI) (some e) H')
def spWritersO (c : Cls6) : Sp := fun vs H Q _ => ∃ (B A : Addr → Prop) (a : OA) (S : OS), vs = [.ref a.o] ∧ OfM c B A H a S ∧ S.ps.length < 64 ∧
  ∀ ys l H', ys.Perm (S.ps.map (·.z)) → sortedS ys = true → Same H H' → H l = none → H' l = some (.lst (ys.map V.str)) → Q (.ref l) H'
structure Cst2 (mg : Str → Option Value) : Prop where
  k_LD : ∃ t, mg "LONGEST_DRAFT" = some (.int 20 t)
section
variable {P : Program} {w : World} {mg : Str → Option Value} {base : Heap} {c : Cls6}
/-- what the office's deeds rest on -/
structure GO (P : Program) (w : World) (mg : Str → Option Value) (base : Heap) (c : Cls6) (CE CI CN CY fE fI fN fY : Addr) : Prop extends K8N P w c.K mg base c.CB c.aT c.CJ CE where
  T : Co c.K mg c.CO
  TB : Cb c.K mg c.CB
  TJ : Cj P c.K mg c.CJ c.CB
  TD : Cd c.K mg c.CD
  TE : PySem.BadX.Txt P c.K mg "at" "at" CE fE
  TI : PySem.BadX.Txt P c.K mg "writer" "writer" CI fI
  TN : PySem.BadX.Txt P c.K mg "value" "value" CN fN
  TY : PySem.BadX.Txt P c.K mg "writer" "writer" CY fY
  c_BadEntry : mg "BadEntry" = some (.ref CE)
  c_Idle : mg "Idle" = some (.ref CI)
  c_BadName : mg "BadName" = some (.ref CN)
  c_Busy : mg "Busy" = some (.ref CY)
  Draft : Mak P w c.K mg base CX0 "Draft" c.CD 1 ["self", "begun"] (spDraftInit c.CD)
  has : Met P w c.K mg base CX0 c.CB "has" 2 ["self", "stream"] (spHas c.CB)
  C1 : Cst mg
  C2 : Cst2 mg
variable {CE CI CN CY fE fI fN fY : Addr}
theorem notStr_nm {K : PySem.W.Frag} {H : Hp} {v : V} (h : NotStr K H v) : isNmV v = false := by
  cases v with
  | str z =>
    obtain ⟨t, ty, k⟩ := h
    cases ty with
    | base b =>
      cases b with
      | _ =>
        rw [show PySem.W.kitOne K (.type "str") (.type "str") = some true from kit_ty (by decide +kernel)] at k
        cases k
  | _ => rfl
theorem OfM.named {B A : Addr → Prop} {H : Hp} {a : OA} {S : OS} (h : OfM c B A H a S) {z : Str} (n : nmB z = false) : S.find z = none := by
  cases e : S.find z with
  | none => rfl
  | some d =>
    obtain ⟨h1, h2⟩ := h.find e
    rw [← h2, (nmB_iff _).mpr (h.dr d h1).2.2.2.1] at n
    cases n
theorem OfM.getd {B A : Addr → Prop} {H : Hp} {a : OA} {S : OS} (h : OfM c B A H a S) {v : V} (n : isNmV v = false) : wfind S v = none := by
  cases v with
  | str z => exact h.named n
  | _ => rfl
theorem ok_draftO {f : Addr} {fd : FuncData} (F : Fun c.K "_draft_of" "Office._draft_of" s_Officedraft_of f fd) (G : GO P w mg base c CE CI CN CY fE fI fN fY) : FnOk P w c.K mg base (L2.CX P w) 2 f fd ["self", "writer"] (spDraftO c CI) := by
  have T := G.T
  have TI := G.TI
  have c_Idle := G.c_Idle
  refine F.okX sc_Officedraft_of (fun vs H Q E h => ?_) (fun cdv A0 outer s H vs Q E hr h => ?_)
  · obtain ⟨B, A, a, S, v, rfl, _⟩ := h
    rfl
  · obtain ⟨B, A, a, S, v, rfl, M, hv, q, qi⟩ := h
    have hu := hu_of hr
    refine ⟨_, (pss_cons (ps_if (PW.pt (pw_or (pt_not (pt_val (pe_cal G.is_name (hr.mono (by decide)) pass0 (pa_cons (pv 1) pa_nil)))) (pw_or1 (pt_cmp (pc_dnotin hu (pv 1) (pe_fld (pv 0) rfl)) rfl))))
      (pss_one (ps_raiseB rfl TI par_writer c_Idle (hr.mono (Nat.zero_le _)) (takes_of rfl rfl rfl rfl) (pa_cons (pv 1) pa_nil) (by rfl)))
      pss_nil)
    (pss_one (ps_ret (pe_dget hu (pe_fld (pv 0) rfl) (pv 1) (fun _ _ => rfl))))), ?_⟩
    rcases hv with ⟨z, rfl, hz⟩ | hn
    rotate_left
    · exact ⟨_, rfl, v, rfl, .inr ⟨hn, ⟨_, rfl, iteT ⟨_, rfl, _, rfl, fun d hd => qi d _ (M.getd (notStr_nm hn)) (sameAt (Same.refl H) hd) upd_same⟩⟩⟩⟩
    refine ⟨_, rfl, _, rfl, .inl ⟨z, rfl, hz, fun H1 s1 => ⟨_, rfl, ?_⟩⟩⟩
    cases eN : nmB z with
    | false => exact iteT ⟨_, rfl, _, rfl, fun d hd => qi d _ (M.named eN) (s1.trans (sameAt (Same.refl H1) hd)) upd_same⟩
    | true =>
      have M1 := M.same s1
      have hg := DGet.k (k := Sum.inr z) M1.dd
      rw [M1.val] at hg
      cases ez : S.find z with
      | none =>
        rw [ez] at hg
        refine iteF ⟨_, rfl, _, rfl, a.o, c.CO, a.dx, _, _, rfl, M1.o, T.cl, T.nD, rfl, a.dd, _, rfl, hg, _, rfl, iteT ?_⟩
        exact ⟨_, rfl, _, rfl, fun d hd => qi d _ ez (s1.trans (sameAt (Same.refl H1) hd)) upd_same⟩
      | some d =>
        rw [ez] at hg
        refine iteF ⟨_, rfl, _, rfl, a.o, c.CO, a.dx, _, _, rfl, M1.o, T.cl, T.nD, rfl, a.dd, _, rfl, hg, _, rfl, iteF ?_⟩
        exact ⟨_, rfl, a.o, c.CO, a.dx, _, _, rfl, M1.o, T.cl, T.nD, rfl, _, rfl, a.dd, _, rfl, hg, q d _ ez s1⟩
theorem OfM.begin_ {B A : Addr → Prop} {H : Hp} {a : OA} {S : OS} (h : OfM c B A H a S) {H1 : Hp} (s1 : Same H H1) {z : Str} {t tx l : Addr} (hz : IsNm z) (ez : S.find z = none) (nl : H l = none) (ht : H1 t = some (.ins c.CD tx (dftF S.cl l))) (nt : H t = none) (hl : H1 l = some (.lst [])) :
    Fr A H (fun p => A p ∨ p = l) (upd H1 a.dd (.dK (DrK (S.ps ++ [⟨z, t, l, S.cl, []⟩])))) ∧ OfM c (uni B fun p => A p ∨ p = l) (fun p => A p ∨ p = l) (upd H1 a.dd (.dK (DrK (S.ps ++ [⟨z, t, l, S.cl, []⟩])))) a { S with ps := S.ps ++ [⟨z, t, l, S.cl, []⟩] } := by
  have f : Fr A H (fun p => A p ∨ p = l) (upd H1 a.dd (.dK (DrK (S.ps ++ [⟨z, t, l, S.cl, []⟩])))) := ⟨fun q y hq nq => by rw [upd_ne (fun z : q = a.dd => nq (by rw [z]; exact h.Add))]; exact s1 _ _ hq, fun p q => q.imp id fun e => by rw [e]; exact nl⟩
  have no : a.o ≠ a.dd := ne_of h.o h.dd (by intro z; cases z)
  have np : a.pa ≠ a.dd := ne_of h.pa h.dd (by intro z; cases z)
  have nc : a.cb ≠ a.dd := ne_of h.cb h.dd (by intro z; cases z)
  have ld : l ≠ a.dd := fun z => by rw [z, h.dd] at nl; cases nl
  have td : t ≠ a.dd := fun z => by rw [z, h.dd] at nt; cases nt
  refine ⟨f, h.to f (fun _ x => .inl x) (fun p hp => ?_) rfl rfl rfl rfl rfl rfl (by rw [upd_ne no]; exact s1 _ _ h.o) upd_same (by rw [upd_ne np]; exact s1 _ _ h.pa) (by rw [upd_ne nc]; exact s1 _ _ h.cb) (fun s => h.jr.same s) h.x4 (fun s d' hd' => ?_) ?_ ?_ h.cbl h.pst⟩
  · by_cases q : p = a.dd
    · subst q
      exact ⟨_, upd_same, trivial⟩
    · rcases hp with hp | rfl
      · obtain ⟨u, e1, m⟩ := h.BT p (h.AB p hp)
        exact ⟨u, by rw [upd_ne q]; exact s1 _ _ e1, m⟩
      · exact ⟨.lst [], by rw [upd_ne q]; exact hl, trivial⟩
  · rcases List.mem_append.mp hd' with hd0 | hd0
    · obtain ⟨D0, m⟩ := h.dr d' hd0
      refine ⟨D0.mono s (fun x => .inl x) ?_, m⟩
      rw [upd_ne (h.lne hd0).2.1]
      obtain ⟨_, _, _, _, q, _⟩ := D0
      rw [q, s1 _ _ q]
    · obtain rfl := List.mem_singleton.mp hd0
      refine ⟨⟨tx, [], cut_at (fun b => ?_) ?_, .inr rfl, ?_, rfl, fun i v x e => nomatch e⟩, ?_, ?_, hz, Nat.zero_le _⟩
      · rcases b with b | b | b
        · exact h.free nt b
        · exact h.free nt (h.AB _ b)
        · have b : t = l := b
          rw [b, hl] at ht
          cases ht
      · show upd _ _ _ t = _
        rw [upd_ne td]
        exact ht
      · show upd _ _ _ l = _
        rw [upd_ne ld]
        exact hl
      · exact fun z => by have z : l = a.pa := z; rw [z, h.pa] at nl; cases nl
      · exact fun z => by have z : l = a.cb := z; rw [z, h.cb] at nl; cases nl
  · show ((S.ps ++ [_]).map _).Nodup
    rw [List.map_append, List.nodup_append]
    refine ⟨h.ndl, List.pairwise_singleton _ _, fun x hx y hy e => ?_⟩
    obtain ⟨d0, hd0, rfl⟩ := List.mem_map.mp hx
    obtain rfl := List.mem_singleton.mp hy
    obtain ⟨⟨_, _, _, _, q, _⟩, _⟩ := h.dr d0 hd0
    rw [e] at q
    rw [nl] at q
    cases q
  · show ((S.ps ++ [_]).map _).Nodup
    rw [List.map_append, List.nodup_append]
    refine ⟨h.ndz, List.pairwise_singleton _ _, fun x hx y hy e => ?_⟩
    obtain ⟨d0, hd0, rfl⟩ := List.mem_map.mp hx
    obtain rfl := List.mem_singleton.mp hy
    have := (List.find?_eq_none.mp ez) d0 hd0
    exact this (by simpa using e)
abbrev s_Office_begin : Stmt := inClass (topS 39) 2
theorem sc_Office_begin : FnScope ["self", "writer"] ["self", "writer"] (defScope s_Office_begin) := ⟨rfl, rfl, rfl, by decide +kernel, rfl, by decide +kernel, by decide +kernel⟩
theorem ok_beginO {f : Addr} {fd : FuncData} (F : Fun c.K "begin" "Office.begin" s_Office_begin f fd) (G : GO P w mg base c CE CI CN CY fE fI fN fY) : FnOk P w c.K mg base (L2.CX P w) 3 f fd ["self", "writer"] (spBeginO c CN CY) := by
  have T := G.T
  refine F.okX sc_Office_begin (fun vs H Q E h => ?_) (fun cdv A0 outer s H vs Q E hr h => ?_)
  · obtain ⟨B, A, a, S, v, rfl, _⟩ := h
    rfl
  · obtain ⟨B, A, a, S, v, rfl, M, hv, h9, q, qy, qn⟩ := h
    have hu := hu_of hr
    refine ⟨_, (pss_cons (ps_if (pt_not (pt_val (pe_cal G.is_name (hr.mono (by decide)) pass0 (pa_cons (pv 1) pa_nil))))
      (pss_one (ps_raiseB rfl G.TN par_value G.c_BadName (hr.mono (Nat.zero_le _)) (takes_of rfl rfl rfl rfl) (pa_cons (pv 1) pa_nil) (by rfl)))
      pss_nil)
    (pss_cons (ps_if (pt_cmp (pc_din hu (pv 1) (pe_fld (pv 0) rfl)) rfl)
      (pss_one (ps_raiseB rfl G.TY par_writer G.c_Busy (hr.mono (Nat.zero_le _)) (takes_of rfl rfl rfl rfl) (pa_cons (pv 1) pa_nil) (by rfl)))
      pss_nil)
    (pss_one (ps_dput hu (pe_fld (pv 0) rfl) (pv 1) (pe_mak G.Draft (hr.mono (by decide)) pass0 (pa_cons (pe_fld (pv 0) rfl) pa_nil)) rfl)))), ?_⟩
    rcases hv with ⟨z, rfl, hz⟩ | hn
    rotate_left
    · exact ⟨_, rfl, v, rfl, .inr ⟨hn, ⟨_, rfl, iteT ⟨_, rfl, _, rfl, fun d hd => qn d _ (notStr_nm hn) (sameAt (Same.refl H) hd) upd_same⟩⟩⟩⟩
    refine ⟨_, rfl, _, rfl, .inl ⟨z, rfl, hz, fun H1 s1 => ⟨_, rfl, ?_⟩⟩⟩
    cases eN : nmB z with
    | false => exact iteT ⟨_, rfl, _, rfl, fun d hd => qn d _ eN (s1.trans (sameAt (Same.refl H1) hd)) upd_same⟩
    | true =>
      have M1 := M.same s1
      have hg := DGet.k (k := Sum.inr z) M1.dd
      rw [M1.val] at hg
      cases ez : S.find z with
      | some d =>
        rw [ez] at hg
        refine iteF ⟨_, rfl, _, rfl, a.o, c.CO, a.dx, _, _, rfl, M1.o, T.cl, T.nD, rfl, a.dd, _, rfl, hg, _, rfl, iteT ?_⟩
        exact ⟨_, rfl, _, rfl, fun e hd => qy d e _ ez (s1.trans (sameAt (Same.refl H1) hd)) upd_same⟩
      | none =>
        rw [ez] at hg
        refine iteF ⟨_, rfl, _, rfl, a.o, c.CO, a.dx, _, _, rfl, M1.o, T.cl, T.nD, rfl, a.dd, _, rfl, hg, _, rfl, iteF ?_⟩
        refine ⟨_, rfl, a.o, c.CO, a.dx, _, _, rfl, M1.o, T.cl, T.nC, rfl, fun t tx nt ntx ne => ?_⟩
        have s2 : Same H1 (upd (upd H1 tx (.own t)) t (.ins c.CD tx [])) := (sameAt (Same.refl _) ntx).trans (sameAt (Same.refl _) (by rw [upd_ne (Ne.symm ne)]; exact nt))
        have ht2 : (upd (upd H1 tx (.own t)) t (.ins c.CD tx [])) t = some (.ins c.CD tx []) := upd_same
        refine ⟨t, tx, S.cl, rfl, ht2, fun l H3 hl h3t h3l k3 => ?_⟩
        have s13 : Same H1 H3 := fun c x hc => k3 c x (s2 _ _ hc) (fun e => by rw [e, nt] at hc; cases hc)
        have M3 := M1.same s13
        refine ⟨rfl, _, rfl, a.o, c.CO, a.dx, _, _, rfl, M3.o, T.cl, T.nD, rfl, _, rfl, a.dd, _, rfl, DPut.k (k := Sum.inr z) M3.dd (small1000 (by unfold DrK; rw [List.length_map]; omega)), ?_⟩
        have e0 : putK (DrK S.ps) (Sum.inr z) (V.ref t) = DrK (S.ps ++ [⟨z, t, l, S.cl, []⟩]) := by
          rw [putK_new _ (by rw [DrK_val]; show Option.map _ (S.find z) = none; rw [ez]; rfl)]
          unfold DrK
          rw [List.map_append]
          rfl
        rw [e0]
        have ht0 := no_of s1 nt
        have hl0 := no_of (s1.trans s2) hl
        obtain ⟨fr, MF⟩ := M.begin_ (s1.trans s13) ((nmB_iff z).mp eN) ez hl0 h3t ht0 h3l
        exact q z t l _ _ rfl eN ez fr (fun p => Iff.rfl) MF
end
end Ash

set_option Elab.async false
set_option linter.all false
set_option maxRecDepth 100000
set_option maxHeartbeats 4000000
namespace Ash
open PySem PySem.Spec PyProof.Rows L2
open C8 (pss_cut)
section
variable {P : Program} {w : World} {mg : Str → Option Value} {base : Heap} {c : Cls6} {CE CI CN CY fE fI fN fY : Addr}
structure GO2 (P : Program) (w : World) (mg : Str → Option Value) (base : Heap) (c : Cls6) (CE CI CN CY fE fI fN fY : Addr) : Prop extends GO P w mg base c CE CI CN CY fE fI fN fY where
  draft_of : Met P w c.K mg base (L2.CX P w) c.CO "_draft_of" 2 ["self", "writer"] (spDraftO c CI)
theorem vs_drop (x : Ent) (r : Int) : ∃ y : Ent, y.vs = x.vs.dropLast ++ [.int r] ∧ y.id = x.id ∧ (x.ok → y.ok) ∧ y.arr = r ∧ (∀ L, InB L x → InB L y) := by
  cases x with
  | row id s k m a q => exact ⟨.row id s k m a r, rfl, rfl, fun h => ⟨h.1, fun _ _ _ _ _ _ e => by cases e; exact h.2 _ _ _ _ _ _ rfl⟩, rfl, fun L h _ _ _ _ _ _ e => by cases e; exact h _ _ _ _ _ _ rfl⟩
  | fix id m a q => exact ⟨.fix id m a r, rfl, rfl, fun h => ⟨h.1, fun _ _ _ _ _ _ e => by cases e⟩, rfl, fun L h _ _ _ _ _ _ e => by cases e⟩
  | gone id q => exact ⟨.gone id r, rfl, rfl, fun h => ⟨h.1, fun _ _ _ _ _ _ e => by cases e⟩, rfl, fun L h _ _ _ _ _ _ e => by cases e⟩
theorem vs_len (x : Ent) : x.vs.length ≤ sizeLine := by
  rw [sizeLine_eq]
  cases x <;> (show _ ≤ 16777216; simp [Ent.vs])
abbrev s_Officeput : Stmt := inClass (topS 39) 11
theorem sc_Officeput : FnScope ["self", "writer", "entry", "entries"] ["self", "writer", "entry"] (defScope s_Officeput) := ⟨rfl, rfl, rfl, by decide +kernel, rfl, by decide +kernel, by decide +kernel⟩
theorem ok_putO {f : Addr} {fd : FuncData} (F : Fun c.K "_put" "Office._put" s_Officeput f fd) (B : Blt mg) (G : GO2 P w mg base c CE CI CN CY fE fI fN fY) : FnOk P w c.K mg base (L2.CX P w) 4 f fd ["self", "writer", "entry"] (spPutO c CI CE) := by
  have T := G.T
  have TD := G.TD
  have TB := G.TB
  obtain ⟨t1, g_LONGEST_DRAFT⟩ := G.C2.k_LD
  refine F.okX sc_Officeput (fun vs H Q E h => ?_) (fun cdv A0 outer s H vs Q E hr h => ?_)
  · obtain ⟨B, A, a, S, v, en, x, rfl, _⟩ := h
    rfl
  · obtain ⟨B', A, a, S, v, en, x, rfl, M, hv, he, ok, q, qe, qi⟩ := h
    have hu := hu_of hr
    refine ⟨_, (pss_cons (ps_set (i := 3) sc_Officeput.nd rfl (Or.inl rfl) (pe_fld (pe_met T.cl G.draft_of (hr.mono (by decide)) (passE (takes_of rfl rfl rfl rfl)) (pv 0) (pa_cons (pv 1) pa_nil)) rfl))
    (pss_cons (ps_if (PW.pt (pw_or (pt_cmpR op_eq (pe_callB call_len_seq (by rfl) B.len (by decide +kernel) (pa_cons (pv 3) pa_nil)) (pe_glob (v := .int 20) (by rfl) g_LONGEST_DRAFT ⟨_, rfl⟩) (nomark _)) (pw_or1 (pt_not (pt_val (pe_cal G.is_entry (hr.mono (by decide)) pass0 (pa_cons (pe_tup (StX.pa_star (pv 2) (pa_cons pe_int pa_nil))) pa_nil)))))))
      (pss_one (ps_raiseB rfl G.TE par_at G.c_BadEntry (hr.mono (Nat.zero_le _)) (takes_of rfl rfl rfl rfl) (pa_cons (pe_callB call_len_seq (by rfl) B.len (by decide +kernel) (pa_cons (pv 3) pa_nil)) pa_nil) (by rfl)))
      pss_nil)
    (pss_cons (ps_if (PW.pt (pw_and (pt_cmpR op_eq (pe_ix ix_tup (pv 2) pe_int (fun _ _ => rfl)) pe_str (nomark _)) (pw_and1 (pt_not (pt_val (pe_met TB.cl G.has (hr.mono (by decide)) pass0 (pe_fld (pv 0) rfl) (pa_cons (pe_ix ix_tup (pv 2) pe_int (fun _ _ => rfl)) pa_nil)))))))
      (pss_one (ps_raiseB rfl G.TE par_at G.c_BadEntry (hr.mono (Nat.zero_le _)) (takes_of rfl rfl rfl rfl) (pa_cons (pe_callB call_len_seq (by rfl) B.len (by decide +kernel) (pa_cons (pv 3) pa_nil)) pa_nil) (by rfl)))
      pss_nil)
    (pss_one (ps_expr (pe_bm PySem.F.plainAttrs_list PySem.F.slot_list_append PySem.F.type_list_append mt_append (pv 3) (pa_cons (pv 2) pa_nil))))))), ?_⟩
    refine ⟨_, rfl, a.o, a.dx, _, rfl, M.o, rfl, _, rfl, B', A, a, S, v, rfl, M, hv, fun d H1 ed s1 => ?_, fun e H1 en s1 x => ?_⟩
    · have M1 := M.same s1
      obtain ⟨tx, us, hft, hA, hl, hd⟩ := (M1.dr d (by cases v with | str z => exact (M.find ed).1 | _ => cases ed)).1
      refine ⟨d.t, c.CD, tx, _, _, rfl, (cut_same _ _ _ _ hft), TD.cl, TD.nE, rfl, ?_⟩
      have hl1 : H1 d.l = some (.lst us) := hl
      have m1 := hd.1
      have l20 := (M1.dr d (by cases v with | str z => exact (M.find ed).1 | _ => cases ed)).2.2.2.2
      have e20 : decide (V.int (us.length : Int) = V.int 20) = decide (d.es.length = 20) := decide_eq_decide.mpr ⟨fun z => by have := V.int.inj z; omega, fun z => by rw [m1, z]; rfl⟩
      have bad : (d.es.length = 20 ∨ ¬ InB S.L x) → ∀ H2, Same H1 H2 → ∃ p ys, [V.ref d.l] = [V.ref p] ∧ (SqL c.K H2 p ys ∨ SqT c.K H2 p ys) ∧ ∃ vv, [V.int (ys.length : Int)] = [vv] ∧ ∀ e, H2 e = none → E (.ref CE) (some e) (upd H2 e (.xd [("at", vv)])) := fun hb H2 s2 =>
        ⟨d.l, us, rfl, .inl (SqL.of (s2 _ _ hl1)), _, rfl, fun e hx => by rw [m1]; exact qe d e _ ed hb ((s1.trans s2).trans (sameAt (Same.refl _) hx)) upd_same⟩
      refine ⟨_, rfl, d.l, us, rfl, .inl (SqL.of hl1), rfl, _, rfl, ?_⟩
      rw [e20]
      by_cases c20 : d.es.length = 20
      · rw [decide_eq_true c20]
        exact iteT ⟨_, rfl, bad (.inl c20) H1 (Same.refl _)⟩
      rw [decide_eq_false c20]
      have he1 : H1 en = some (.tup x.vs.dropLast) := s1 _ _ he
      obtain ⟨y, ey, yid, yok, yarr, yin⟩ := vs_drop x 0
      refine iteF ⟨_, rfl, en, _, rfl, .inl (SqT.of he1), (by rw [← ey]; exact vs_len y), fun t ht => ?_⟩
      have s2 : Same H1 (upd H1 t (.tup (x.vs.dropLast ++ [V.int 0]))) := sameAt (Same.refl _) ht
      refine ⟨_, rfl, .inl ⟨t, y, rfl, by unfold EntAt; rw [upd_same, ey], yok ok, fun H2 s3 => ⟨_, rfl, iteF ?_⟩⟩⟩
      have s12 := s2.trans s3
      have he2 := s12 _ _ he1
      have M2 := M1.same s12
      have hl2 : H2 d.l = some (.lst us) := s12 _ _ hl1
      have d2 : d ∈ S.ps := by cases v with | str z => exact (M.find ed).1 | _ => cases ed
      have sz : us.length < sizeLine := small1000 (by omega)
      have fin : InB S.L x → ∀ H3, Same H2 H3 → Q .non (upd H3 d.l (.lst (us ++ [.ref en]))) := fun hi H3 s3 => by
        have s13 := (s1.trans s12).trans s3
        obtain ⟨tx0, us0, _, _, q0, q4⟩ := (M.dr d d2).1
        have h0 := q0
        rw [s1 _ _ q0] at hl1
        cases hl1
        obtain ⟨fr, MF⟩ := M.put s13 d2 h0 q4 (s13 _ _ he) ok (by omega)
        exact q d _ ed (by omega) hi fr MF
      cases x with
      | row number s k m am r =>
        refine ⟨_, rfl, _, _, _, _, rfl, rfl, SqT.of he2, rfl, rfl, _, rfl, iteT ?_⟩
        have hn := (ok.2 _ _ _ _ _ _ rfl).1
        have hbk : BookAt c.CB H2 a.b S.L := M2.bk.same (cut_same _ _)
        obtain ⟨bx, bd, L', b1, b2⟩ := id hbk
        refine ⟨_, rfl, a.o, c.CO, a.dx, _, _, rfl, M2.o, T.cl, T.nB, rfl, a.b, bx, _, rfl, b1, rfl, _, rfl, _, _, _, _, rfl, rfl, SqT.of he2, rfl, a.b, S.L, s, rfl, hbk, hn, fun H3 s3 => ⟨_, rfl, ?_⟩⟩
        cases el : (S.L.lookup s).isSome with
        | false => exact iteT ⟨_, rfl, bad (.inr fun z => by have := z _ _ _ _ _ _ rfl; rw [el] at this; cases this) H3 (s12.trans s3)⟩
        | true => exact iteF ⟨_, rfl, .inl ⟨rfl, _, SqL.of (s3 _ _ hl2)⟩, _, rfl, d.l, _, _, rfl, rfl, s3 _ _ hl2, sz, fin (fun _ _ _ _ _ _ e => by cases e; exact el) H3 s3⟩
      | fix number m am r =>
        exact ⟨_, rfl, _, _, _, _, rfl, rfl, SqT.of he2, rfl, rfl, _, rfl, iteF (iteF ⟨_, rfl, .inl ⟨rfl, _, SqL.of hl2⟩, _, rfl, d.l, _, _, rfl, rfl, hl2, sz, fin (fun _ _ _ _ _ _ e => by cases e) H2 (Same.refl _)⟩)⟩
      | gone number r =>
        exact ⟨_, rfl, _, _, _, _, rfl, rfl, SqT.of he2, rfl, rfl, _, rfl, iteF (iteF ⟨_, rfl, .inl ⟨rfl, _, SqL.of hl2⟩, _, rfl, d.l, _, _, rfl, rfl, hl2, sz, fin (fun _ _ _ _ _ _ e => by cases e) H2 (Same.refl _)⟩)⟩
    · exact qi e H1 en s1 x
end
end Ash

set_option Elab.async false
set_option linter.all false
set_option maxRecDepth 100000
set_option maxHeartbeats 4000000
namespace Ash
open PySem PySem.Spec PyProof.Rows L2
open C8 (pss_cut)
theorem Fr.pre {A A' : Addr → Prop} {H H1 H' : Hp} (s : Same H H1) (f : Fr A H1 A' H') : Fr A H A' H' := ⟨fun c x h n => f.k c x (s _ _ h) n, fun c h => (f.g c h).imp id fun e => no_of s e⟩
theorem Fr.post {A A' : Addr → Prop} {H H1 H' : Hp} (f : Fr A H A' H1) (s : Same H1 H') : Fr A H A' H' := ⟨fun c x h n => s _ _ (f.k c x h n), f.g⟩
def PutOut (c : Cls6) (CI CE : Addr) (B A : Addr → Prop) (H : Hp) (a : OA) (S : OS) (v : V) (x : Ent) (Q : VK) (E : XK) : Prop :=
  (∀ d H', wfind S v = some d → d.es.length < 20 → InB S.L x → Fr A H A H' → OfM c (uni B A) A H' a (S.putd d.z x) → Q .non H') ∧
  (∀ d e H', wfind S v = some d → (d.es.length = 20 ∨ ¬ InB S.L x) → Same H H' → Xd H' e "at" (.int d.es.length) → E (.ref CE) (some e) H') ∧
  (∀ e H', wfind S v = none → Same H H' → Xd H' e "writer" v → E (.ref CI) (some e) H')
theorem PutOut.pre {c : Cls6} {CI CE : Addr} {B A : Addr → Prop} {H H1 : Hp} {a : OA} {S : OS} {v : V} {x : Ent} {Q : VK} {E : XK} (h : PutOut c CI CE B A H a S v x Q E) (s : Same H H1) : PutOut c CI CE B A H1 a S v x Q E :=
  ⟨fun d H' e1 e2 e3 f M => h.1 d H' e1 e2 e3 (f.pre s) M, fun d e H' e1 e2 s' x => h.2.1 d e H' e1 e2 (s.trans s') x, fun e H' e1 s' x => h.2.2 e H' e1 (s.trans s') x⟩
theorem StrOk.same {K : PySem.W.Frag} {H H' : Hp} {v : V} (h : StrOk K H v) (s : Same H H') : StrOk K H' v := by
  rcases h with h | ⟨t, ty, k⟩
  · exact .inl h
  · exact .inr ⟨t, tyx_same ty s, k⟩
def spRowO (c : Cls6) (CI CE : Addr) : Sp := fun vs H Q E => ∃ (B A : Addr → Prop) (a : OA) (S : OS) (v : V) (n : Int) (s k : Str) (m am : Int), vs = [.ref a.o, v, .int n, .str s, .str k, .int m, .int am] ∧ OfM c B A H a S ∧ StrOk c.K H v ∧ (Ent.row n s k m am 0).ok ∧ PutOut c CI CE B A H a S v (.row n s k m am 0) Q E
def spFixO (c : Cls6) (CI CE : Addr) : Sp := fun vs H Q E => ∃ (B A : Addr → Prop) (a : OA) (S : OS) (v : V) (n m am : Int), vs = [.ref a.o, v, .int n, .int m, .int am] ∧ OfM c B A H a S ∧ StrOk c.K H v ∧ (Ent.fix n m am 0).ok ∧ PutOut c CI CE B A H a S v (.fix n m am 0) Q E
def spGoneO (c : Cls6) (CI CE : Addr) : Sp := fun vs H Q E => ∃ (B A : Addr → Prop) (a : OA) (S : OS) (v : V) (n : Int), vs = [.ref a.o, v, .int n] ∧ OfM c B A H a S ∧ StrOk c.K H v ∧ (Ent.gone n 0).ok ∧ PutOut c CI CE B A H a S v (.gone n 0) Q E
theorem WithN.same {H H' : Hp} {us : List V} {es : List Ent} {w : V} (h : WithN H us es w) (s : Same H H') : WithN H' us es w := ⟨h.1, fun i v x a b => by
  obtain ⟨e, h1, h2, h3⟩ := h.2 i v x a b
  exact ⟨e, h1, s _ _ h2, h3⟩⟩
theorem WithN.snoc {H : Hp} {us : List V} {es : List Ent} {e : Addr} {x : Ent} {w : V} (h : WithN H us es w) (he : H e = some (.tup (x.vs.dropLast ++ [w]))) (ok : x.ok) : WithN H (us ++ [.ref e]) (es ++ [x]) w := by
  obtain ⟨hl, h⟩ := h
  refine ⟨by rw [List.length_append, List.length_append, hl]; rfl, fun i v y a b => ?_⟩
  by_cases c : i < us.length
  · rw [List.getElem?_append_left c] at a
    rw [List.getElem?_append_left (by omega)] at b
    exact h i v y a b
  · have hi : i = us.length := by
      have := (List.getElem?_eq_some_iff.mp a).1
      rw [List.length_append] at this
      have : i < us.length + 1 := this
      omega
    subst hi
    rw [List.getElem?_append_right (Nat.le_refl _), Nat.sub_self] at a
    rw [hl, List.getElem?_append_right (Nat.le_refl _), Nat.sub_self] at b
    cases a
    cases b
    exact ⟨e, rfl, he, ok⟩
theorem vs_lenW (x : Ent) (w : V) : (x.vs.dropLast ++ [w]).length ≤ sizeLine := by
  rw [sizeLine_eq]
  cases x <;> (show _ ≤ 16777216; simp [Ent.vs])
section
variable {P : Program} {w : World} {mg : Str → Option Value} {base : Heap} {c : Cls6} {CE CI CN CY fE fI fN fY : Addr}
structure GO3 (P : Program) (w : World) (mg : Str → Option Value) (base : Heap) (c : Cls6) (CE CI CN CY fE fI fN fY : Addr) : Prop extends GO2 P w mg base c CE CI CN CY fE fI fN fY where
  put_ : Met P w c.K mg base (L2.CX P w) c.CO "_put" 4 ["self", "writer", "entry"] (spPutO c CI CE)
theorem OfM.noadd {B A : Addr → Prop} {H : Hp} {a : OA} {S : OS} (h : OfM c B A H a S) {t : Addr} {o : HO} (ht : H t = none) : Same H (upd H t o) := sameAt (Same.refl _) ht
abbrev s_Office_row : Stmt := inClass (topS 39) 3
theorem sc_Office_row : FnScope ["self", "writer", "number", "stream", "key", "moment", "amount"] ["self", "writer", "number", "stream", "key", "moment", "amount"] (defScope s_Office_row) := ⟨rfl, rfl, rfl, by decide +kernel, rfl, by decide +kernel, by decide +kernel⟩
theorem ok_rowO {f : Addr} {fd : FuncData} (F : Fun c.K "row" "Office.row" s_Office_row f fd) (G : GO3 P w mg base c CE CI CN CY fE fI fN fY) : FnOk P w c.K mg base (L2.CX P w) 5 f fd ["self", "writer", "number", "stream", "key", "moment", "amount"] (spRowO c CI CE) := by
  have T := G.T
  refine F.okX sc_Office_row (fun vs H Q E h => ?_) (fun cdv A0 outer s H vs Q E hr h => ?_)
  · obtain ⟨B, A, a, S, v, n, st, k, m, am, rfl, _⟩ := h
    rfl
  · obtain ⟨B, A, a, S, v, n, st, k, m, am, rfl, M, hv, ok, q⟩ := h
    refine ⟨_, (pss_one (ps_expr (pe_met T.cl G.put_ (hr.mono (by decide)) (passE (takes_of rfl rfl rfl rfl)) (pv 0) (pa_cons (pv 1) (pa_cons (pe_tup (pa_cons pe_str (pa_cons (pv 2) (pa_cons (pv 3) (pa_cons (pv 4) (pa_cons (pv 5) (pa_cons (pv 6) pa_nil))))))) pa_nil))))), ?_⟩
    refine ⟨_, rfl, a.o, a.dx, _, rfl, M.o, rfl, _, rfl, _, rfl, _, rfl, _, rfl, _, rfl, _, rfl, (by show 6 ≤ sizeLine; decide), fun t ht => ?_⟩
    have s1 : Same H (upd H t (.tup [.str "row", .int n, .str st, .str k, .int m, .int am])) := sameAt (Same.refl _) ht
    exact ⟨B, A, a, S, v, t, .row n st k m am 0, rfl, M.same s1, hv.same s1, upd_same, ok, (q.pre s1).1, (q.pre s1).2.1, (q.pre s1).2.2⟩
abbrev s_Office_fix : Stmt := inClass (topS 39) 4
theorem sc_Office_fix : FnScope ["self", "writer", "number", "moment", "amount"] ["self", "writer", "number", "moment", "amount"] (defScope s_Office_fix) := ⟨rfl, rfl, rfl, by decide +kernel, rfl, by decide +kernel, by decide +kernel⟩
theorem ok_fixO {f : Addr} {fd : FuncData} (F : Fun c.K "fix" "Office.fix" s_Office_fix f fd) (G : GO3 P w mg base c CE CI CN CY fE fI fN fY) : FnOk P w c.K mg base (L2.CX P w) 5 f fd ["self", "writer", "number", "moment", "amount"] (spFixO c CI CE) := by
  have T := G.T
  refine F.okX sc_Office_fix (fun vs H Q E h => ?_) (fun cdv A0 outer s H vs Q E hr h => ?_)
  · obtain ⟨B, A, a, S, v, n, m, am, rfl, _⟩ := h
    rfl
  · obtain ⟨B, A, a, S, v, n, m, am, rfl, M, hv, ok, q⟩ := h
    refine ⟨_, (pss_one (ps_expr (pe_met T.cl G.put_ (hr.mono (by decide)) (passE (takes_of rfl rfl rfl rfl)) (pv 0) (pa_cons (pv 1) (pa_cons (pe_tup (pa_cons pe_str (pa_cons (pv 2) (pa_cons (pv 3) (pa_cons (pv 4) pa_nil))))) pa_nil))))), ?_⟩
    refine ⟨_, rfl, a.o, a.dx, _, rfl, M.o, rfl, _, rfl, _, rfl, _, rfl, _, rfl, (by show 4 ≤ sizeLine; decide), fun t ht => ?_⟩
    have s1 : Same H (upd H t (.tup [.str "fix", .int n, .int m, .int am])) := sameAt (Same.refl _) ht
    exact ⟨B, A, a, S, v, t, .fix n m am 0, rfl, M.same s1, hv.same s1, upd_same, ok, (q.pre s1).1, (q.pre s1).2.1, (q.pre s1).2.2⟩
abbrev s_Office_gone : Stmt := inClass (topS 39) 5
theorem sc_Office_gone : FnScope ["self", "writer", "number"] ["self", "writer", "number"] (defScope s_Office_gone) := ⟨rfl, rfl, rfl, by decide +kernel, rfl, by decide +kernel, by decide +kernel⟩
theorem ok_goneO {f : Addr} {fd : FuncData} (F : Fun c.K "gone" "Office.gone" s_Office_gone f fd) (G : GO3 P w mg base c CE CI CN CY fE fI fN fY) : FnOk P w c.K mg base (L2.CX P w) 5 f fd ["self", "writer", "number"] (spGoneO c CI CE) := by
  have T := G.T
  refine F.okX sc_Office_gone (fun vs H Q E h => ?_) (fun cdv A0 outer s H vs Q E hr h => ?_)
  · obtain ⟨B, A, a, S, v, n, rfl, _⟩ := h
    rfl
  · obtain ⟨B, A, a, S, v, n, rfl, M, hv, ok, q⟩ := h
    refine ⟨_, (pss_one (ps_expr (pe_met T.cl G.put_ (hr.mono (by decide)) (passE (takes_of rfl rfl rfl rfl)) (pv 0) (pa_cons (pv 1) (pa_cons (pe_tup (pa_cons pe_str (pa_cons (pv 2) pa_nil))) pa_nil))))), ?_⟩
    refine ⟨_, rfl, a.o, a.dx, _, rfl, M.o, rfl, _, rfl, _, rfl, (by show 2 ≤ sizeLine; decide), fun t ht => ?_⟩
    have s1 : Same H (upd H t (.tup [.str "gone", .int n])) := sameAt (Same.refl _) ht
    exact ⟨B, A, a, S, v, t, .gone n 0, rfl, M.same s1, hv.same s1, upd_same, ok, (q.pre s1).1, (q.pre s1).2.1, (q.pre s1).2.2⟩
theorem wfind_mem {B A : Addr → Prop} {H : Hp} {a : OA} {S : OS} (M : OfM c B A H a S) {v : V} {d : Dr} (e : wfind S v = some d) : d ∈ S.ps ∧ v = .str d.z := by
  cases v with
  | str z =>
    obtain ⟨h1, h2⟩ := M.find e
    exact ⟨h1, by rw [h2]⟩
  | _ => cases e
abbrev s_Office_drop : Stmt := inClass (topS 39) 7
theorem sc_Office_drop : FnScope ["self", "writer"] ["self", "writer"] (defScope s_Office_drop) := ⟨rfl, rfl, rfl, by decide +kernel, rfl, by decide +kernel, by decide +kernel⟩
theorem ok_dropO {f : Addr} {fd : FuncData} (F : Fun c.K "drop" "Office.drop" s_Office_drop f fd) (G : GO2 P w mg base c CE CI CN CY fE fI fN fY) : FnOk P w c.K mg base (L2.CX P w) 3 f fd ["self", "writer"] (spDropO c CI) := by
  have T := G.T
  refine F.okX sc_Office_drop (fun vs H Q E h => ?_) (fun cdv A0 outer s H vs Q E hr h => ?_)
  · obtain ⟨B, A, a, S, v, rfl, _⟩ := h
    rfl
  · obtain ⟨B, A, a, S, v, rfl, M, hv, q, qi⟩ := h
    refine ⟨_, (pss_cons (ps_expr (pe_met T.cl G.draft_of (hr.mono (by decide)) (passE (takes_of rfl rfl rfl rfl)) (pv 0) (pa_cons (pv 1) pa_nil)))
    (pss_one (ps_ddel (pe_fld (pv 0) rfl) (pv 1)))), ?_⟩
    refine ⟨_, rfl, a.o, a.dx, _, rfl, M.o, rfl, _, rfl, B, A, a, S, v, rfl, M, hv, fun d H1 ed s1 => ?_, fun e H1 en s1 x => qi e H1 en s1 x⟩
    have M1 := M.same s1
    obtain ⟨hd, rfl⟩ := wfind_mem M ed
    refine ⟨_, rfl, a.o, c.CO, a.dx, _, _, rfl, M1.o, T.cl, T.nD, rfl, _, rfl, a.dd, _, Sum.inr d.z, rfl, M1.dd, rfl, ?_, ?_⟩
    · rw [M1.val]
      have : S.find d.z = some d := ed
      rw [this]
      rfl
    · rw [DrK_drop]
      obtain ⟨fr, MF⟩ := M.drop s1 d.z
      exact q d _ ed fr MF
abbrev s_Office_writers : Stmt := inClass (topS 39) 1
theorem sc_Office_writers : FnScope ["self"] ["self"] (defScope s_Office_writers) := ⟨rfl, rfl, rfl, by decide +kernel, rfl, by decide +kernel, by decide +kernel⟩
theorem ok_writersO {f : Addr} {fd : FuncData} (F : Fun c.K "writers" "Office.writers" s_Office_writers f fd) (B : Blt mg) (T : Co c.K mg c.CO) : FnOk P w c.K mg base CX0 1 f fd ["self"] (spWritersO c) := by
  refine F.ok sc_Office_writers (fun vs H Q E h => ?_) (fun cdv A0 outer s H vs Q E hr h => ?_)
  · obtain ⟨B, A, a, S, rfl, _⟩ := h
    rfl
  · obtain ⟨B', A, a, S, rfl, M, h6, q⟩ := h
    refine ⟨_, (pss_one (ps_ret (pe_callB cr_sortedS (by rfl) B.sorted (by decide +kernel) (pa_cons (pe_callTy (call_listD (by rfl)) (by rfl) B.list (by decide +kernel) (pa_cons (pe_fld (pv 0) rfl) pa_nil)) pa_nil)))), ?_⟩
    refine ⟨_, rfl, a.o, c.CO, a.dx, _, _, rfl, M.o, T.cl, T.nD, rfl, a.dd, _, rfl, .of M.dd, fun l hl => ⟨l, S.ps.map (·.z), rfl, ?_, ?_, fun ys p pm so hp => ?_⟩⟩
    · have e : (DrK S.ps).map (fun kv => kV kv.1) = (S.ps.map (·.z)).map V.str := by
        unfold DrK
        rw [List.map_map, List.map_map]
        rfl
      rw [e]
      exact SqL.of upd_same
    · rw [List.length_map]; exact h6
    · have hp0 : H p = none := by
        by_cases z : p = l
        · rw [z]; exact hl
        · rw [upd_ne z] at hp; exact hp
      exact q ys p _ pm so ((sameAt (Same.refl _) hl).trans (sameAt (Same.refl _) hp)) hp0 upd_same
abbrev s_Office_draft : Stmt := inClass (topS 39) 6
theorem sc_Office_draft : FnScope ["self", "writer", "entry"] ["self", "writer"] (defScope s_Office_draft) := ⟨rfl, rfl, rfl, by decide +kernel, rfl, by decide +kernel, by decide +kernel⟩
theorem ok_tellO {f : Addr} {fd : FuncData} (F : Fun c.K "draft" "Office.draft" s_Office_draft f fd) (G : GO2 P w mg base c CE CI CN CY fE fI fN fY) : FnOk P w c.K mg base (L2.CX P w) 3 f fd ["self", "writer"] (spTellO c CI) := by
  have T := G.T
  have TD := G.TD
  refine F.okX sc_Office_draft (fun vs H Q E h => ?_) (fun cdv A0 outer s H vs Q E hr h => ?_)
  · obtain ⟨B, A, a, S, v, rfl, _⟩ := h
    rfl
  · obtain ⟨B, A, a, S, v, rfl, M, hv, q, qi⟩ := h
    refine ⟨_, (pss_one (ps_ret (pe_lc (own := [("entry", 2)]) (g := gName 2) (tt := tYes) (by rfl) sc_Office_draft.nd (pi_list (pe_fld (pe_met T.cl G.draft_of (hr.mono (by decide)) (passE (takes_of rfl rfl rfl rfl)) (pv 0) (pa_cons (pv 1) pa_nil)) rfl)) (blkOk_by (own := [("entry", 2)]) (N := ["self", "writer", "entry"]) (sc := defScope s_Office_draft) (by decide +kernel)) (fun _ _ _ _ _ => (pg_name (i := 2) sc_Office_draft.nd rfl (Or.inl rfl))) (fun _ _ _ _ _ => pts_nil) (fun _ _ _ _ _ => (show PE _ _ (tTup (StX.tStar c.K (tVar 2) (tCons (tC V.non) tNil))) from (pe_tup (StX.pa_star (pv 2) (pa_cons pe_non pa_nil)))))))), ?_⟩
    refine ⟨_, rfl, a.o, a.dx, _, rfl, M.o, rfl, _, rfl, B, A, a, S, v, rfl, M, hv, fun d H1 ed s1 => ?_, fun e H1 en s1 x => qi e H1 en s1 x⟩
    have M1 := M.same s1
    obtain ⟨hd, rfl⟩ := wfind_mem M ed
    obtain ⟨⟨tx, us, hft, hA, hl, hde⟩, _, _, _, h20⟩ := M1.dr d hd
    have hde1 := hde.same (cut_same _ _)
    refine ⟨d.t, c.CD, tx, _, _, rfl, (cut_same _ _ _ _ hft), TD.cl, TD.nE, rfl, d.l, rfl, ⟨_, SqL.of hl⟩, fun D hD => ?_⟩
    refine lc_list (a := d.l) (xs := us) (fun i H3 => ∃ us', H3 D = some (.lst us') ∧ WithN H3 us' (d.es.take i) .non ∧ Same H1 H3) ⟨[], upd_same, ⟨rfl, fun _ _ _ e => nomatch e⟩, sameAt (Same.refl _) hD⟩ (fun i H3 _ hv => by obtain ⟨_, _, _, h⟩ := hv; exact SqL.of (h _ _ hl)) ?_ ?_
    · rintro i v H3 hvi ⟨us', hD3, hW, s3⟩
      have hil := (List.getElem?_eq_some_iff.mp hvi).1
      obtain ⟨x, hx⟩ : ∃ x, d.es[i]? = some x := ⟨_, List.getElem?_eq_getElem (by rw [← hde.1]; exact hil)⟩
      obtain ⟨e, rfl, he, ok⟩ := hde1.2 i v x hvi hx
      have he3 : H3 e = some (.tup x.vs.dropLast) := s3 _ _ he
      refine ⟨rfl, _, rfl, e, _, rfl, .inl (SqT.of he3), vs_lenW x .non, fun t ht => ?_⟩
      have s4 : Same H3 (upd H3 t (.tup (x.vs.dropLast ++ [V.non]))) := sameAt (Same.refl _) ht
      have tD : D ≠ t := fun z => by rw [← z, hD3] at ht; cases ht
      have hul : us'.length ≤ 20 := by
        have := hW.1
        rw [List.length_take] at this
        omega
      refine ⟨us', s4 _ _ hD3, small1000 (by omega), us' ++ [.ref t], upd_same, ?_, sameAt (s3.trans s4) hD⟩
      rw [list_take' hx]
      have s5 : ∀ (k : Addr) (xs : List V), (upd H3 t (.tup (x.vs.dropLast ++ [V.non]))) k = some (.tup xs) → (upd (upd H3 t (.tup (x.vs.dropLast ++ [V.non]))) D (.lst (us' ++ [V.ref t]))) k = some (.tup xs) := fun k xs h => by
        rw [upd_ne (fun z => by rw [z, s4 _ _ hD3] at h; cases h)]
        exact h
      refine WithN.snoc ⟨hW.1, fun k v y a b => ?_⟩ (s5 _ _ upd_same) ok
      obtain ⟨e', h1, h2, h3⟩ := hW.2 k v y a b
      exact ⟨e', h1, s5 _ _ (s4 _ _ h2), h3⟩
    · rintro H3 ⟨us', hD3, hW, s3⟩
      rw [List.take_of_length_le (by rw [hde.1]; exact Nat.le_refl _)] at hW
      exact q d D us' H3 ed (s1.trans s3) (no_of s1 hD) hD3 hW
end
end Ash

set_option Elab.async false
set_option linter.all false
set_option maxRecDepth 100000
set_option maxHeartbeats 4000000
namespace Ash
open PySem PySem.Spec PyProof.Rows L2
open C8 (pss_cut)
open RZ (pi_zipM)
/-! ### stale drafts, the journal behind a draft -/
def laterIds (xs : List Ent) (cb : List Int) (n : Int) : List Int := ((xs.zip cb).filter fun p => decide (n < p.2)).map fun p => p.1.id
def stale (S : OS) (d : Dr) : Option Int := (d.es.find? fun x => decide (x.id ∈ laterIds S.xs S.cb d.n)).map Ent.id
def spFreshO (c : Cls6) (CS : Addr) : Sp := fun vs H Q E => ∃ (B A : Addr → Prop) (a : OA) (S : OS) (d : Dr), vs = [.ref a.o, .ref d.t] ∧ OfM c B A H a S ∧ d ∈ S.ps ∧
  (∀ H', stale S d = none → Same H H' → Q .non H') ∧ (∀ n e H', stale S d = some n → Same H H' → Xd H' e "id" (.int n) → E (.ref CS) (some e) H')
structure Cst3 (mg : Str → Option Value) : Prop where
  zip : mg "zip" = none
theorem dn_id (x : Ent) : atI x.vs.dropLast 1 = some (.int x.id) := by cases x <;> rfl
theorem later_snoc {xs : List Ent} {cb : List Int} {n : Int} {i : Nat} {x : Ent} {b : Int} (hx : xs[i]? = some x) (hb : cb[i]? = some b) : laterIds (xs.take (i + 1)) (cb.take (i + 1)) n = laterIds (xs.take i) (cb.take i) n ++ if n < b then [x.id] else [] := by
  unfold laterIds
  have h1 := (List.getElem?_eq_some_iff.mp hx).1
  have h2 := (List.getElem?_eq_some_iff.mp hb).1
  rw [list_take' hx, show cb.take (i + 1) = cb.take i ++ [b] by rw [List.take_add_one, hb]; rfl, List.zip_append (by rw [List.length_take, List.length_take]; omega), List.filter_append, List.map_append]
  congr 1
  by_cases c : n < b
  · rw [if_pos c]
    show List.map _ (List.filter _ [(x, b)]) = _
    rw [List.filter_cons_of_pos (by simpa using c)]
    rfl
  · rw [if_neg c]
    show List.map _ (List.filter _ [(x, b)]) = _
    rw [List.filter_cons_of_neg (by simpa using c)]
    rfl
section
variable {P : Program} {w : World} {mg : Str → Option Value} {base : Heap} {c : Cls6} {CE CI CN CY CS fE fI fN fY fS : Addr}
abbrev s_Officecheck_fresh : Stmt := inClass (topS 39) 12
theorem sc_Officecheck_fresh : FnScope ["self", "draft", "later", "entry", "close"] ["self", "draft"] (defScope s_Officecheck_fresh) := ⟨rfl, rfl, rfl, by decide +kernel, rfl, by decide +kernel, by decide +kernel⟩
theorem ok_freshO {f : Addr} {fd : FuncData} (F : Fun c.K "_check_fresh" "Office._check_fresh" s_Officecheck_fresh f fd) (B : Cst3 mg) (T : Co c.K mg c.CO) (TD : Cd c.K mg c.CD) (TJ : Cj P c.K mg c.CJ c.CB) (TS : PySem.BadX.Txt P c.K mg "number" "id" CS fS) (pn : PySem.BadX.Par "number") (c_Stale : mg "Stale" = some (.ref CS)) : FnOk P w c.K mg base (L2.CX P w) 1 f fd ["self", "draft"] (spFreshO c CS) := by
  refine F.okX sc_Officecheck_fresh (fun vs H Q E h => ?_) (fun cdv A0 outer s H vs Q E hr h => ?_)
  · obtain ⟨B, A, a, S, d, rfl, _⟩ := h
    rfl
  · obtain ⟨B', A, a, S, d, rfl, M, hd, q, qs⟩ := h
    have hu := hu_of hr
    refine ⟨_, (pss_cons (ps_set (i := 2) sc_Officecheck_fresh.nd rfl (Or.inl rfl) pe_dnewK)
    (pss_cons (ps_for (passes_of rfl) rfl (pi_zipM (by rfl) B.zip (pa_cons (pe_fld (pe_fld (pv 0) rfl) rfl) (pa_cons (pe_fld (pv 0) rfl) pa_nil))) (pg_tup (by rfl) (pgs_cons (pg_name (i := 3) sc_Officecheck_fresh.nd rfl (Or.inl rfl)) (pgs_cons (pg_name (i := 4) sc_Officecheck_fresh.nd rfl (Or.inl rfl)) pgs_nil)))
      (pss_one (ps_if (pt_cmpR op_gt (pv 4) (pe_fld (pv 1) rfl) (nomark _))
        (pss_one (ps_dput hu (pv 2) (pe_ix ix_tup (pv 3) pe_int (fun _ _ => rfl)) pe_bl rfl))
        pss_nil)))
    (pss_one (ps_for (passes_of rfl) rfl (pi_list (pe_fld (pv 1) rfl)) (pg_name (i := 3) sc_Officecheck_fresh.nd rfl (Or.inl rfl))
      (pss_one (ps_if (pt_cmp (pc_din hu (pe_ix ix_tup (pv 3) pe_int (fun _ _ => rfl)) (pv 2)) rfl)
        (pss_one (ps_raiseB rfl TS pn c_Stale (hr.mono (Nat.zero_le _)) (takes_of rfl rfl rfl rfl) (pa_cons (pe_ix ix_tup (pv 3) pe_int (fun _ _ => rfl)) pa_nil) (by rfl)))
        pss_nil)))))), ?_⟩
    obtain ⟨⟨tx, us, hft, hA, hl, hde⟩, _, _, _, h20⟩ := M.dr d hd
    obtain ⟨jx, t, kd, j1, j2, j3, j4, j5, j6, j7⟩ := id (M.jr.same (cut_same _ _))
    intro ld nl
    have s1 : Same H (upd H ld (.dK [])) := sameAt (Same.refl _) nl
    have M1 := M.same s1
    have x4 := M.x4
    refine ⟨_, rfl, a.o, c.CO, a.dx, _, _, rfl, M1.o, T.cl, T.nJ, rfl, a.j, c.CJ, jx, _, _, rfl, s1 _ _ j1, TJ.cl, TJ.nE, jf_e _ _ _, _, rfl, a.o, c.CO, a.dx, _, _, rfl, M1.o, T.cl, T.nY, rfl, t, a.cb, S.us, S.cb.map V.int, rfl, seqS j3 s1, SqL.of M1.cb, ?_⟩
    refine RZ.for_zipM (by rw [List.length_map, j4, M.cbl]) (fun i σ H3 => (∃ x1 x2, σ = [some (.ref a.o), some (.ref d.t), some (.ref ld), x1, x2]) ∧ (∃ kvs : List (Key × V), H3 ld = some (.dK kvs) ∧ kvs.length ≤ i ∧ ∀ n : Int, (valV kvs (Sum.inl n)).isSome = decide (n ∈ laterIds (S.xs.take i) (S.cb.take i) d.n)) ∧ Same H H3) ⟨⟨_, _, rfl⟩, ⟨[], upd_same, Nat.le_refl _, fun n => rfl⟩, s1⟩ (fun i σ H3 hv => ⟨seqS j3 hv.2.2, SqL.of (hv.2.2 _ _ M.cb)⟩) ?_ ?_
    · rintro i x y T0 σ H3 hx hy ⟨⟨x1, x2, rfl⟩, ⟨kvs, k1, k2, k3⟩, s3⟩ hT
      have hil := (List.getElem?_eq_some_iff.mp hx).1
      obtain ⟨ex, hex⟩ : ∃ ex, S.xs[i]? = some ex := ⟨_, List.getElem?_eq_getElem (by rw [← j4]; exact hil)⟩
      obtain ⟨bx, hbx⟩ : ∃ bx, S.cb[i]? = some bx := ⟨_, List.getElem?_eq_getElem (by rw [M.cbl, ← j4]; exact hil)⟩
      obtain ⟨e, rfl, he, ok⟩ := j5 i x ex hx hex
      obtain rfl : y = .int bx := by rw [List.getElem?_map, hbx] at hy; exact (Option.some.inj hy).symm
      have s4 : Same H3 (upd H3 T0 (.tup [.ref e, .int bx])) := sameAt (Same.refl _) hT
      have s34 := s3.trans s4
      have he4 := s34 _ _ he
      have M4 := M.same s34
      have hld4 := s4 _ _ k1
      refine ⟨T0, [.ref e, .int bx], rfl, SqT.of upd_same, rfl, _, _, rfl, _, _, rfl, rfl, ?_⟩
      refine ⟨_, rfl, _, rfl, d.t, c.CD, tx, _, _, rfl, s34 _ _ (cut_same _ _ _ _ hft), TD.cl, TD.nB, rfl, _, _, rfl, rfl, _, rfl, ?_⟩
      have hs := later_snoc (n := d.n) hex hbx
      by_cases cb : d.n < bx
      · rw [if_pos cb] at hs
        rw [decide_eq_true cb]
        refine iteT ⟨_, rfl, _, rfl, _, _, _, _, rfl, rfl, SqT.of he4, ent_id ex, ld, _, rfl, DPut.k (k := Sum.inl ex.id) hld4 (small1000 (by omega)), ⟨_, _, rfl⟩, ⟨_, upd_same, Nat.le_trans (pk_len _ _ _) (by omega), fun n => ?_⟩, ?_⟩
        · rw [valV_put, hs]
          by_cases cn : n = ex.id
          · rw [if_pos (congrArg Sum.inl cn), cn]
            exact (decide_eq_true (List.mem_append.mpr (.inr (List.mem_singleton.mpr rfl)))).symm
          · rw [if_neg (fun z => cn (Sum.inl.inj z)), k3 n]
            exact decide_eq_decide.mpr ⟨fun z => List.mem_append.mpr (.inl z), fun z => (List.mem_append.mp z).elim id fun z => absurd (List.mem_singleton.mp z) cn⟩
        · intro p o hp
          rw [upd_ne (ne_of_none hp nl)]
          exact s34 _ _ hp
      · rw [if_neg cb, List.append_nil] at hs
        rw [decide_eq_false cb]
        exact iteF ⟨⟨_, _, rfl⟩, ⟨kvs, hld4, by omega, fun n => by rw [hs]; exact k3 n⟩, s34⟩
    · rintro σ H3 ⟨⟨x1, x2, rfl⟩, ⟨kvs, k1, k2, k3⟩, s3⟩
      rw [List.take_of_length_le (by rw [j4]; exact Nat.le_refl _), List.take_of_length_le (by rw [j4, M.cbl]; exact Nat.le_refl _)] at k3
      have hl3 := s3 _ _ hl
      refine ⟨_, rfl, d.t, c.CD, tx, _, _, rfl, s3 _ _ (cut_same _ _ _ _ hft), TD.cl, TD.nE, rfl, d.l, rfl, ⟨_, SqL.of hl3⟩, ?_⟩
      refine for_list (a := d.l) (xs := us) (fun i σ H4 => (∃ x1 x2, σ = [some (.ref a.o), some (.ref d.t), some (.ref ld), x1, x2]) ∧ (∀ x ∈ d.es.take i, ¬ x.id ∈ laterIds S.xs S.cb d.n) ∧ Same H3 H4) ⟨⟨_, _, rfl⟩, (fun _ h => nomatch h), Same.refl _⟩ (fun i σ H4 _ hv => SqL.of (hv.2.2 _ _ hl3)) ?_ ?_
      · rintro i v σ H4 hvi ⟨⟨x1, x2, rfl⟩, hno, s4⟩
        have hil := (List.getElem?_eq_some_iff.mp hvi).1
        obtain ⟨x, hx⟩ : ∃ x, d.es[i]? = some x := ⟨_, List.getElem?_eq_getElem (by rw [← hde.1]; exact hil)⟩
        obtain ⟨e, rfl, he, ok⟩ := (hde.same (cut_same _ _)).2 i v x hvi hx
        have s34 := s3.trans s4
        have he4 := s34 _ _ he
        have hg := DGet.k (k := Sum.inl x.id) (s4 _ _ k1)
        refine ⟨_, rfl, _, _, _, _, rfl, rfl, SqT.of he4, dn_id x, _, rfl, ld, _, rfl, hg, _, rfl, ?_⟩
        rw [k3]
        by_cases cx : x.id ∈ laterIds S.xs S.cb d.n
        · rw [decide_eq_true cx]
          refine iteT ⟨_, rfl, _, _, _, _, rfl, rfl, SqT.of he4, dn_id x, _, rfl, fun e' he' => qs x.id e' _ ?_ (s34.trans (sameAt (Same.refl _) he')) upd_same⟩
          unfold stale
          have : d.es.find? (fun x => decide (x.id ∈ laterIds S.xs S.cb d.n)) = some x := by
            rw [List.find?_eq_some_iff_getElem]
            refine ⟨by simpa using cx, i, (List.getElem?_eq_some_iff.mp hx).1, (List.getElem?_eq_some_iff.mp hx).2, fun j hj => ?_⟩
            have hm : d.es[j]'(by have := (List.getElem?_eq_some_iff.mp hx).1; omega) ∈ d.es.take i := List.mem_take_iff_getElem.mpr ⟨j, by have := (List.getElem?_eq_some_iff.mp hx).1; omega, rfl⟩
            simpa using hno _ hm
          rw [this]
          rfl
        · rw [decide_eq_false cx]
          refine iteF ⟨⟨_, _, rfl⟩, fun y hy => ?_, s4⟩
          rw [list_take' hx] at hy
          rcases List.mem_append.mp hy with hy | hy
          · exact hno y hy
          · rw [List.mem_singleton.mp hy]; exact cx
      · rintro σ H4 ⟨⟨x1, x2, rfl⟩, hno, s4⟩
        rw [List.take_of_length_le (by rw [hde.1]; exact Nat.le_refl _)] at hno
        refine q H4 ?_ (s3.trans s4)
        unfold stale
        rw [List.find?_eq_none.mpr (fun x hx => by simpa using hno x hx)]
        rfl
end
end Ash

set_option Elab.async false
set_option linter.all false
set_option maxRecDepth 100000
set_option maxHeartbeats 4000000
namespace Ash
open PySem PySem.Spec PyProof.Rows L2
open C8 (pss_cut)
/-! ### the journal behind a draft -/
theorem jf_inj {b t kd t' kd' : Addr} (h : jf b t kd = jf b t' kd') : t = t' ∧ kd = kd' := by
  have e1 := jf_e b t kd
  have e2 := jf_k b t kd
  rw [h, jf_e] at e1
  rw [h, jf_k] at e2
  cases e1
  cases e2
  exact ⟨rfl, rfl⟩
theorem JAt.cut {K : PySem.W.Frag} {aT CJ CB CO : Addr} {B : Addr → Prop} {H H' : Hp} {j b : Addr} {L : List (Str × Int)} {us : List V} {xs : List Ent} (J : JAt K aT CJ CB H' j b L us xs) (s : Same H H') (BT : ∀ x, B x → Mu CO (H x)) (hj : H j = none)
    (hk : ∃ dx t kd, H' j = some (.ins CJ dx (jf b t kd)) ∧ H kd = none) (bk : BookAt CB (cutH B H') b L) : JAt K aT CJ CB (cutH B H') j b L us xs := by
  obtain ⟨dx, t, kd, h1, h2, h3, h4, h5, h6, h7⟩ := J
  obtain ⟨dx', t', kd', k1, k2⟩ := hk
  have e : HO.ins CJ dx' (jf b t' kd') = HO.ins CJ dx (jf b t kd) := Option.some.inj (k1.symm.trans h1)
  injection e with _ e1 e2
  obtain ⟨rfl, rfl⟩ := jf_inj e2
  have nf : ∀ q, H q = none → ¬ B q := fun q hq b => by
    obtain ⟨u, e, _⟩ := BT q b
    rw [hq] at e; cases e
  have nu : ∀ q u, H' q = some u → ¬ MuO CO u → ¬ B q := fun q u hq hu b => by
    obtain ⟨u', e, m⟩ := BT q b
    have := s _ _ e
    rw [hq] at this
    cases this
    exact hu m
  have tp : ∀ q ys, H' q = some (.tup ys) → cutH B H' q = some (.tup ys) := fun q ys hq => cut_at (nu q _ hq fun z => z) hq
  refine ⟨dx, t', kd', cut_at (nf j hj) h1, bk, ?_, h4, fun i v x a b => ?_, h6, ?_⟩
  · rcases h3 with (h | ⟨o, h⟩) | h
    · exact .inl (.inl (tp _ _ h))
    · exact .inl (.inr ⟨o, cut_at (nu _ _ h fun z => z) h⟩)
    · exact .inr h
  · obtain ⟨e, q1, q2, q3⟩ := h5 i v x a b
    exact ⟨e, q1, tp _ _ q2, q3⟩
  · obtain ⟨kvs, q1, q2, q3⟩ := h7
    refine ⟨kvs, cut_at (nf _ k2) q1, q2, fun id => ?_⟩
    have := q3 id
    cases ev : valV kvs (Sum.inl id) with
    | none => rw [ev] at this; cases eo : (wk L (xs.map some) 0 (fun _ => none) none).2 id <;> (rw [eo] at this; exact this)
    | some v =>
      rw [ev] at this
      cases eo : (wk L (xs.map some) 0 (fun _ => none) none).2 id with
      | none => rw [eo] at this; exact this
      | some r =>
        rw [eo] at this
        cases r with
        | tb => exact this
        | at_ z k m am =>
          obtain ⟨t, e1, e2⟩ := this
          exact ⟨t, e1, tp _ _ e2⟩
def Good (L : List (Str × Int)) (xs : List Ent) : Prop := (wk L (xs.map some) 0 (fun _ => none) none).1 = none
/-- the first entry that a draft can't hand in -/
def JBad (L : List (Str × Int)) (xs ys : List Ent) (i : Nat) : Prop := i < ys.length ∧ Good L (xs ++ ys.take i) ∧ xs.length + i ≤ 400 ∧ (xs.length + i = 400 ∨ ¬ Good L (xs ++ ys.take (i + 1)))
def spBehindO (c : Cls6) (CE : Addr) : Sp := fun vs H Q E => ∃ (B A : Addr → Prop) (a : OA) (S : OS) (l : Addr) (us : List V) (ys : List Ent), vs = [.ref a.o, .ref l] ∧ OfM c B A H a S ∧ H l = some (.lst us) ∧ Ents H us ys ∧ ys.length ≤ 20 ∧
  (∀ j' H', Same H H' → Good S.L (S.xs ++ ys) → S.xs.length + ys.length ≤ 400 → JAt c.K c.aT c.CJ c.CB (cutH B H') j' a.bj S.L (S.us ++ us) (S.xs ++ ys) → Q (.ref j') H') ∧
  (∀ i e H', JBad S.L S.xs ys i → Same H H' → Xd H' e "at" (.int (i : Int)) → E (.ref CE) (some e) H')
section
variable {P : Program} {w : World} {mg : Str → Option Value} {base : Heap} {c : Cls6} {CE fE : Addr}
structure GO4 (P : Program) (w : World) (mg : Str → Option Value) (base : Heap) (c : Cls6) (CE fE : Addr) : Prop where
  T : Co c.K mg c.CO
  TJ : Cj P c.K mg c.CJ c.CB
  TE : PySem.BadX.Txt P c.K mg "at" "at" CE fE
  c_BadEntry : mg "BadEntry" = some (.ref CE)
  then_ : Met P w c.K mg base (L2N.CX P w) c.CJ "then" 9 ["self", "entry"] (spThenN c.K c.aT c.CJ c.CB CE)
abbrev s_Officejournal_behind : Stmt := inClass (topS 39) 13
theorem sc_Officejournal_behind : FnScope ["self", "entries", "journal", "at", "entry"] ["self", "entries"] (defScope s_Officejournal_behind) := ⟨rfl, rfl, rfl, by decide +kernel, rfl, by decide +kernel, by decide +kernel⟩
theorem ok_behindO {f : Addr} {fd : FuncData} (F : Fun c.K "_journal_behind" "Office._journal_behind" s_Officejournal_behind f fd) (B : Blt mg) (G : GO4 P w mg base c CE fE) : FnOk P w c.K mg base (L2.CX P w) 10 f fd ["self", "entries"] (spBehindO c CE) := by
  have T := G.T
  have TJ := G.TJ
  refine F.okX sc_Officejournal_behind (fun vs H Q E h => ?_) (fun cdv A0 outer s H vs Q E hr h => ?_)
  · obtain ⟨B, A, a, S, l, us, ys, rfl, _⟩ := h
    rfl
  · obtain ⟨B', A, a, S, l, us, ys, rfl, M, hl, hE, h20, q, qb⟩ := h
    refine ⟨_, (pss_cons (ps_set (i := 2) sc_Officejournal_behind.nd rfl (Or.inl rfl) (pe_fld (pv 0) rfl))
    (pss_cons (ps_for (passes_of rfl) rfl (pi_enum (by rfl) B.enumerate (pa_cons (pv 1) pa_nil)) (pg_tup (by rfl) (pgs_cons (pg_name (i := 3) sc_Officejournal_behind.nd rfl (Or.inl rfl)) (pgs_cons (pg_name (i := 4) sc_Officejournal_behind.nd rfl (Or.inl rfl)) pgs_nil)))
      (pss_one (L2H.ps_tryX  rfl rfl ⟨rfl, by decide, .inl G.c_BadEntry⟩ (fun hd => L2H.passesAt_of rfl hd) (takes_of rfl rfl rfl rfl) (fun W pn xe tk tkp _ =>
        (pss_one (ps_set (i := 2) sc_Officejournal_behind.nd rfl (Or.inl rfl) (pe_metS TJ.cl G.then_ (hr.mono (by decide)) (fun σ => L2N.passAt tk σ) (pv 2) (pa_cons (pv 4) pa_nil)))))
        (fun a oe cls d pn hz hf tkx hot => (pss_one (L2H.ps_raiseBF hot G.TE par_at G.c_BadEntry (L2H.roomM hr) tkx (pa_cons (pv 3) pa_nil) (by rfl)))))))
    (pss_one (ps_ret (pv 2))))), ?_⟩
    have xl : S.us.length = S.xs.length := by
      obtain ⟨_, _, _, _, _, _, h, _⟩ := M.jr
      exact h
    have x4 := M.x4
    have hEl := hE.1
    refine ⟨_, rfl, a.o, c.CO, a.dx, _, _, rfl, M.o, T.cl, T.nJ, rfl, ?_⟩
    refine ⟨_, rfl, l, us, rfl, SqL.of hl, for_it walk_enum (fun i σ H3 => (∃ j x1 x2, σ = [some (.ref a.o), some (.ref l), some (.ref j), x1, x2] ∧ JAt c.K c.aT c.CJ c.CB (cutH B' H3) j a.bj S.L (S.us ++ us.take i) (S.xs ++ ys.take i)) ∧ Same H H3 ∧ S.xs.length + i ≤ 400) ⟨⟨a.j, _, _, rfl, by rw [List.take_zero, List.take_zero, List.append_nil, List.append_nil]; exact M.jr⟩, Same.refl _, by omega⟩ (fun i σ H3 _ hv => SqL.of (hv.2.1 _ _ hl)) ?_ ?_⟩
    · rintro i x σ H1 H2 hi ⟨⟨j, z1, z2, rfl, J⟩, s1, h4⟩ ⟨T0, x1, x2, rfl, hT, rfl, e1, e2⟩
      cases e1
      obtain ⟨y, hy⟩ : ∃ y, ys[i]? = some y := ⟨_, List.getElem?_eq_getElem (by rw [← hEl]; exact hi)⟩
      obtain ⟨e, rfl, he, ok⟩ := hE.2 i x2 y e2 hy
      have e2 : us[i]? = some (V.ref e) := e2
      have hys := (List.getElem?_eq_some_iff.mp hy).1
      have s2 : Same H1 (upd H1 T0 (.tup [.int (i : Nat), .ref e])) := sameAt (Same.refl _) hT
      have s12 := s1.trans s2
      have Mc := M.same s12
      have Jf := (J.same (cut_same _ _)).same s2
      refine ⟨T0, _, rfl, SqT.of upd_same, rfl, _, _, rfl, _, _, rfl, rfl, ?_⟩
      obtain ⟨jx, jt, jk, j1, _⟩ := id Jf
      have ul : (S.us ++ us.take i).length = S.xs.length + i := by rw [List.length_append, List.length_take]; omega
      have hsn : (S.xs ++ ys.take i) ++ [y] = S.xs ++ ys.take (i + 1) := by rw [list_take' hy, List.append_assoc]
      have hsu : (S.us ++ us.take i) ++ [.ref e] = S.us ++ us.take (i + 1) := by rw [List.take_add_one, e2, List.append_assoc]; rfl
      have G0 : Good S.L (S.xs ++ ys.take i) := by
        obtain ⟨_, _, _, _, _, _, _, _, h, _⟩ := J
        exact h
      refine ⟨_, rfl, j, jx, _, rfl, j1, jf_no _ _ _ (by decide +kernel) (by decide +kernel) (by decide +kernel), _, rfl, ?_⟩
      refine ⟨j, a.bj, S.L, S.us ++ us.take i, S.xs ++ ys.take i, .ref e, some y, rfl, Jf, ⟨e, rfl, s12 _ _ he, ok⟩, by omega, ?_, ?_, ?_⟩
      · rintro j' H3 y' ey hw s3 J' hlt nj hk
        cases ey
        refine ⟨⟨j', _, _, rfl, ?_⟩, s12.trans s3, by omega⟩
        rw [← hsn, ← hsu]
        refine J'.cut s3 (fun x hx => by
          obtain ⟨u, e, m⟩ := M.BT x hx
          exact ⟨u, s12 _ _ e, m⟩) nj hk ?_
        obtain ⟨_, _, _, _, hb, _⟩ := J
        exact (hb.same (cut_step (fun c x h _ => s2 _ _ h) fun c h => .inl h)).same (cut_step (fun c x h _ => s3 _ _ h) fun c h => .inl h)
      · intro k d H3 hw s3 hx hlt
        refine ⟨true, G.TE.te, fun _ q0 nq => ⟨_, rfl, _, rfl, fun e' he' => qb i e' _ ⟨hys, G0, h4, .inr fun g => ?_⟩ ((s12.trans s3).trans (sameAt (Same.refl _) he')) upd_same⟩, fun z => nomatch z⟩
        unfold Good at g
        rw [← hsn, List.map_append] at g
        have hw : (wk S.L ((S.xs ++ ys.take i).map some ++ [some y]) 0 (fun _ => none) none).1 = some k := hw
        rw [show ([y] : List Ent).map some = [some y] from rfl, hw] at g
        cases g
      · intro h400 d H3 s3 hx
        exact ⟨true, G.TE.te, fun _ q0 nq => ⟨_, rfl, _, rfl, fun e' he' => qb i e' _ ⟨hys, G0, h4, .inl (by omega)⟩ ((s12.trans s3).trans (sameAt (Same.refl _) he')) upd_same⟩, fun z => nomatch z⟩
    · rintro σ H3 ⟨⟨j, z1, z2, rfl, J⟩, s1, h4⟩
      rw [List.take_of_length_le (Nat.le_refl _), List.take_of_length_le (by rw [hEl]; exact Nat.le_refl _)] at J
      refine ⟨_, rfl, q j H3 s1 ?_ (by omega) J⟩
      obtain ⟨_, _, _, _, _, _, _, _, h, _⟩ := J
      exact h
end
end Ash

set_option Elab.async false
set_option linter.all false
set_option maxRecDepth 100000
set_option maxHeartbeats 4000000
/-! ### del xs[n:] of a list -/
namespace L2
open PySem PySem.Spec PyProof.Rows
section
variable {prog : Program} {w : World} {A : Around} {E : Value → Shared → Prop} {s : Shared}
theorem tail_bounds {a n : Nat} (ha : a ≤ n) : sliceBounds (some (a : Int)) none none n = ((a : Int), (n : Int), 1) := by
  have h1 : ¬ ((a : Int) < 0) := by omega
  simp only [sliceBounds, Option.getD_none, h1, if_false, show (1 : Int) > 0 by decide, if_true]
  congr 1
  omega
theorem kept_head {α : Type} (xs : List α) (a : Nat) (f : α × Nat → Option α) (hf : ∀ p : α × Nat, p.2 < xs.length → f p = if p.2 < a then some p.1 else none) : xs.zipIdx.filterMap f = xs.take a := by
  have key : ∀ (ys : List α) (j : Nat), (∀ p : α × Nat, p.2 < j + ys.length → f p = if p.2 < a then some p.1 else none) → (ys.zipIdx j).filterMap f = ys.take (a - j) := by
    intro ys
    induction ys with
    | nil => intro j _; simp
    | cons y ys ih =>
      intro j h
      rw [List.zipIdx_cons, List.filterMap_cons, h (y, j) (by rw [List.length_cons]; show j < _; omega), ih (j + 1) fun p hp => h p (by rw [List.length_cons]; omega)]
      by_cases c : j < a
      · rw [if_pos c, show a - j = (a - (j + 1)) + 1 by omega, List.take_succ_cons]
      · rw [if_neg c, show a - j = 0 by omega, show a - (j + 1) = 0 by omega]
        rfl
  have := key xs 0 fun p hp => hf p (by omega)
  simpa using this
/-- the list behind del xs[a:] -/
def dropTail (a n : Int) : Array Value → Array Value := fun xs => (xs.toList.zipIdx.filterMap fun (x, k) => if (if (1 : Int) > 0 then (decide (a ≤ (k : Int)) && decide ((k : Int) < n) && ((k : Int) - a) % 1 == 0) else decide (n < (k : Int)) && decide ((k : Int) ≤ a) && (a - (k : Int)) % (-1) == 0) = true then none else some x).toArray
theorem dropTail_eq (its : List Value) (a : Nat) (ha : a ≤ its.length) : dropTail (a : Int) (its.length : Int) its.toArray = (its.take a).toArray := by
  unfold dropTail
  congr 1
  refine kept_head its a _ fun p hp => ?_
  obtain ⟨x, k⟩ := p
  have hk : k < its.length := hp
  by_cases c : k < a
  · have h1 : ¬ ((a : Int) ≤ (k : Int)) := by omega
    simp [c, h1]
  · have h1 : (a : Int) ≤ (k : Int) := by omega
    have h2 : (k : Int) < (its.length : Int) := by omega
    simp [c, h1, h2]
set_option maxRecDepth 100000 in
theorem delItem_tail {l sl : Addr} {items : Array Value} {n : Nat} {vl : Value} {a : Nat} {Q : Unit → Shared → Prop}
    (e : s.heap.get? l = some { cls := .type "list", data := .seq items n }) (hs : s.heap.IsSliceOf sl vl .none .none) (pl : IsPart vl (some (a : Int))) (ha : a ≤ items.size)
    (hsz : items.size ≤ sizeLine) (hz' : (dropTail (a : Int) (items.size : Int) items).size ≤ sizeLine + 1) (h : Q () { s with heap := s.heap.update l (Obj.mapSeq (dropTail (a : Int) (items.size : Int))) }) :
    wpAny (model prog w) A (delItem (.ref l) (.ref sl)) Q E s := by
  have hl : s.heap.IsList l items := PySem.IsL.isList e
  obtain ⟨os, hos, hcs, hds⟩ := id hs
  have hTs : s.TypeIs (.ref sl) "slice" := ⟨os, hos, hcs⟩
  have hstep : ¬ ((rawPart none == rawInt 0) = true) := Bool.false_ne_true
  unfold delItem
  refine wpAny_holding (wpAny_bind (wpAny_sequenceKey hl.typeIs (by decide) ?_))
  refine wpAny_bind (wpAny_callSpecial?_slot (name := Str.ofString "__delitem__") hl.typeIs F.slot_list_delitem (wpAny_call_entry F.slot_list_delitem hl.typeIs F.entry_list_delitem ?_ (F.args_list_delitem_2 _ _)))
  show wpAny _ _ (Builtin.List.listSubscript? (.ref sl) >>= _) _ _ s
  unfold Builtin.List.listSubscript?
  refine wpAny_bind (wpAny_bind (wpAny_specialOf hTs slice_no_index ?_))
  rw [if_pos (by rfl)]
  refine wpAny_pure ?_
  show wpAny _ _ (typeOf (.ref sl) >>= _) _ _ s
  refine wpAny_bind (wpAny_typeOf hTs ?_)
  first
    | rw [if_neg (by decide)]
    | refine PySem.W.KFB.if_not (by decide) ?_
  rw [listSliceParts_eq]
  refine wpAny_bind (wpAny_bind (wpAny_field hos hds (x := .none) rfl (wpAny_bind (wpAny_listPart .none ?_))))
  rw [if_neg hstep]
  refine wpAny_bind (wpAny_field hos hds (x := vl) rfl (wpAny_bind (wpAny_listPart pl ?_)))
  refine wpAny_bind (wpAny_field hos hds (x := .none) rfl (wpAny_bind (wpAny_listPart .none (wpAny_pure ?_))))
  unfold Builtin.List.listItems
  refine wpAny_bind (wpAny_bind (wpAny_seqItems e rfl (wpAny_pure ?_)))
  refine wpAny_bind (wpAny_of_eq ((sliceIndices_raw (some (a : Int)) none none items.size (by simp)).trans (congrArg (pure : Int × Int × Int → Sem (Int × Int × Int)) (tail_bounds ha))) ?_)
  dsimp only
  refine wpAny_bind (wpAny_rule ?_)
  show wpAny _ _ (updateSeq l (dropTail (a : Int) (items.size : Int)) >>= _) _ _ s
  refine wpAny_bind (wpAny_updateSeq (hz := hsz) (_hz' := hz') e rfl ?_)
  refine wpAny_bind (wpAny_letGo ?_)
  first
    | exact wpAny_bind (wpAny_pure (wpAny_pure ⟨.none, rfl, wpAny_pure h⟩))
    | exact wpAny_pure ⟨.none, rfl, wpAny_pure h⟩
end
section
variable {X : Cx} {o lo : Expr} {to : TE} {tl : TO} {p2 tpos pos : Pos}
/-- del xs[a:] -/
def tDelTail (to : TE) (tl : TO) : TS := fun D σ H => to σ H fun x H1 => tl σ H1 fun i H2 => ∃ (l : Addr) (xs : List V) (a : Nat), x = .ref l ∧ i = some (a : Int) ∧ H2 l = some (.lst xs) ∧ a ≤ xs.length ∧ D.nx σ (upd H2 l (.lst (xs.take a)))
theorem ps_delTail (ho : PE X o to) (hl : PO X (some lo) tl) : PS X (.Delete [.Subscript o (.Slice (some lo) none none p2) tpos] pos) (tDelTail to tl) := by
  refine ⟨fun pins s σ H D I h => ?_⟩
  refine wpAny_Delete (wpAny_deleteEach_cons (wpAny_delete_Subscript (thn (ho.run pins s σ H _ I h) fun u s1 ⟨x, H1, I1, rx, q1⟩ => ?_)))
  refine wpAny_Slice (thn (hl.run pins s1 σ H1 _ I1 q1) fun vl s2 ⟨i, H2, I2, pl, q2⟩ => ?_)
  rw [evalPart_none]
  refine wpAny_pure (wpAny_pure ?_)
  obtain ⟨l, xs, a, rfl, rfl, hH, ha, q⟩ := q2
  cases (show u = Value.ref l from rx)
  have I3 : Inv X pins σ H2 { s2 with heap := s2.heap.push { cls := .type "slice", data := .fields #[vl, .none, .none] } } := I2.kept (t' := s2.toks) fun b ob q => Heap.get?_push_of_some _ q
  obtain ⟨z, its, n, r, hl, e⟩ := I3.lstM hH
  have dt := dropTail_eq its a (by omega)
  refine delItem_tail (a := a) e (Heap.IsSliceOf.new ..) pl (by rw [List.size_toArray]; omega) (by rw [List.size_toArray]; omega) (by rw [show its.toArray.size = its.length from List.size_toArray, dt, List.size_toArray, List.length_take]; omega) (wpAny_deleteEach_nil ⟨σ, _, ?_, q⟩)
  refine I3.lset (its' := its.take a) (t' := s2.toks) hH e ?_ (r.take a) ?_
  · rw [List.size_toArray]
    exact dt
  · rw [List.length_take]
    omega
end
end L2

set_option Elab.async false
set_option linter.all false
set_option maxRecDepth 100000
set_option maxHeartbeats 4000000
namespace L2
open PySem PySem.Spec PyProof.Rows
variable {X : Cx} {C : Addr} {bmB : List Value} {B newId initId : String} {x : Str} {p pos : Pos}
/-- C(), C an own error without an __init__ of its own -/
theorem pmk_own0 (F : ExcBaseFacts B newId initId bmB) (q : PySem.W.excIn X.K C bmB newId = true) (gC : X.mg x = some (.ref C)) (kC : PySem.W.keepIn X.K (.ref C) = true) (r : Raises X (.ref C)) (hg : Gl X x) (hdb : (x == ("__debug__" : Str)) = false := by decide) :
    PMk X (.Call (.Name x p) [] [] pos) (fun _ H Q => Q (.ref C) none H) := by
  intro pins s σ H Q I h
  refine wpAny_Call_Name_kw (ld_glob I hg gC ?_ hdb)
  refine PySem.W.callWith_K0 I.kIn kC ?_
  obtain ⟨bm, N, nm, qn, bs, hdct, sn, sub, ab, col, dd, k0, k1, k2, k3, k5, mN, hC, hN, hni, T⟩ := exc_obj I.kIn q
  exact wpAny_call_exc_subT F T hC hN hni (fun h' e hm => mk_of I hm r h (I.hok.gone hm.new)) (Nat.zero_le _)
end L2

set_option Elab.async false
set_option linter.all false
set_option maxRecDepth 100000
set_option maxHeartbeats 4000000
namespace Ash
open PySem PySem.Spec PyProof.Rows L2
open C8 (pss_cut)
/-! ### close, undo, a new office -/
def Ent.at_ : Ent → Int → Ent
  | .row id s k m a _, r => .row id s k m a r
  | .fix id m a _, r => .fix id m a r
  | .gone id _, r => .gone id r
theorem at_vs (x : Ent) (r : Int) : (x.at_ r).vs = x.vs.dropLast ++ [.int r] := by cases x <;> rfl
theorem at_id (x : Ent) (r : Int) : (x.at_ r).id = x.id := by cases x <;> rfl
theorem at_ok {x : Ent} (h : x.ok) (r : Int) : (x.at_ r).ok := by
  cases x with
  | row id s k m a q => exact ⟨h.1, fun _ _ _ _ _ _ e => by cases e; exact h.2 _ _ _ _ _ _ rfl⟩
  | fix id m a q => exact ⟨h.1, fun _ _ _ _ _ _ e => by cases e⟩
  | gone id q => exact ⟨h.1, fun _ _ _ _ _ _ e => by cases e⟩
def OS.closed (S : OS) (d : Dr) (n : Int) (us : List V) : OS := { S.dropd d.z with xs := S.xs ++ d.es.map (·.at_ n), us := S.us ++ us, past := S.past ++ [S.xs.length], cl := S.cl + 1, cb := S.cb ++ List.replicate d.es.length (S.cl + 1) }
theorem putF_j {b j j' dd pa cb : Addr} {cl : Int} : putF "journal" (.ref j') (ofF b j dd pa cl cb) = ofF b j' dd pa cl cb := rfl
theorem putF_c {b j dd pa cb : Addr} {cl cl' : Int} : putF "_closes" (.int cl') (ofF b j dd pa cl cb) = ofF b j dd pa cl' cb := rfl

theorem OfM.close_ {c : Cls6} {B A : Addr → Prop} {H H4 H' : Hp} {a : OA} {S : OS} (h : OfM c B A H a S) (s4 : Same H H4) {d : Dr} {n : Int} {us : List V} {j' : Addr} (J : JAt c.K c.aT c.CJ c.CB (cutH B H4) j' a.bj S.L (S.us ++ us) (S.xs ++ d.es.map (·.at_ n))) (hul : us.length = d.es.length) (x4 : S.xs.length + d.es.length ≤ 400)
    (k : ∀ q y, H4 q = some y → q ≠ a.dd → q ≠ a.pa → q ≠ a.o → q ≠ a.cb → H' q = some y) (ho : H' a.o = some (.ins c.CO a.dx (ofF a.b j' a.dd a.pa (S.cl + 1) a.cb))) (hdd : H' a.dd = some (.dK (DrK (S.dropd d.z).ps)))
    (hpa : H' a.pa = some (.lst ((S.past ++ [S.xs.length]).map fun (n : Nat) => V.int (n : Int)))) (hcb : H' a.cb = some (.lst ((S.cb ++ List.replicate d.es.length (S.cl + 1)).map V.int))) :
    Fr A H A H' ∧ OfM c (uni B A) A H' { a with j := j' } (S.closed d n us) := by
  have kA : ∀ q y, H4 q = some y → ¬ A q → H' q = some y := fun q y hq nq => k q y hq (fun z => nq (z ▸ h.Add)) (fun z => nq (z ▸ h.Apa)) (fun z => nq (z ▸ h.Ao)) (fun z => nq (z ▸ h.Acb))
  have f : Fr A H A H' := ⟨fun q y hq nq => kA q y (s4 _ _ hq) nq, fun _ q => .inl q⟩
  have xl : S.us.length = S.xs.length := by
    obtain ⟨_, _, _, _, _, _, h, _⟩ := h.jr
    exact h
  refine ⟨f, h.to f (fun _ x => x) (fun p hp => ?_) rfl rfl rfl rfl rfl rfl ho hdd hpa hcb (fun s => J.same (cut_step (fun q y hq nq => kA q y hq fun z => nq (h.AB _ z)) fun q z => .inl (z.elim id (h.AB q)))) ?_ (fun s d' hd' => ?_) ?_ ?_ ?_ ?_⟩
  · obtain ⟨u, e1, m⟩ := h.BT p (h.AB p hp)
    by_cases q1 : p = a.dd
    · subst q1; exact ⟨_, hdd, trivial⟩
    by_cases q2 : p = a.pa
    · subst q2; exact ⟨_, hpa, trivial⟩
    by_cases q3 : p = a.o
    · subst q3; exact ⟨_, ho, rfl⟩
    by_cases q4 : p = a.cb
    · subst q4; exact ⟨_, hcb, trivial⟩
    exact ⟨u, k _ _ (s4 _ _ e1) q1 q2 q3 q4, m⟩
  · show (S.us ++ us).length ≤ 400
    rw [List.length_append]
    omega
  · have hd0 : d' ∈ S.ps := (List.mem_filter.mp hd').1
    obtain ⟨D0, m⟩ := h.dr d' hd0
    obtain ⟨n1, n2, n3, n4⟩ := h.lne hd0
    refine ⟨D0.mono s (fun x => x) ?_, m⟩
    obtain ⟨_, _, _, _, q, _⟩ := D0
    rw [q, k _ _ (s4 _ _ q) n2 n3 n1 n4]
  · exact h.ndl.sublist ((List.filter_sublist).map _)
  · exact h.ndz.sublist ((List.filter_sublist).map _)
  · show (S.cb ++ List.replicate _ _).length = (S.xs ++ _).length
    rw [List.length_append, List.length_append, List.length_replicate, List.length_map, h.cbl]
  · show ((S.past ++ [S.xs.length]) ++ [(S.xs ++ d.es.map _).length]).Pairwise (· ≤ ·)
    rw [List.pairwise_append]
    refine ⟨h.pst, List.pairwise_singleton _ _, fun x hx y hy => ?_⟩
    rw [List.mem_singleton.mp hy, List.length_append]
    have hx' := List.pairwise_append.mp h.pst
    rcases List.mem_append.mp hx with hx | hx
    · have := hx'.2.2 x hx S.xs.length (List.mem_singleton.mpr rfl)
      omega
    · rw [List.mem_singleton.mp hx]
      omega
theorem flat_rep (v : V) : ∀ n : Nat, (List.replicate n [v]).flatten = List.replicate n v
  | 0 => rfl
  | n + 1 => by rw [List.replicate_succ, List.flatten_cons, flat_rep v n]; rfl
theorem WithN.ents {H : Hp} {us : List V} {es : List Ent} {n : Int} (h : WithN H us es (.int n)) : Ents H us (es.map (·.at_ n)) := ⟨by rw [List.length_map]; exact h.1, fun i v x a b => by
  rw [List.getElem?_map] at b
  cases e : es[i]? with
  | none => rw [e] at b; cases b
  | some y =>
    rw [e] at b
    cases b
    obtain ⟨p, h1, h2, h3⟩ := h.2 i v y a e
    exact ⟨p, h1, by unfold EntAt; rw [h2, at_vs], at_ok h3 n⟩⟩
def spCloseO (c : Cls6) (CI CM CS CE : Addr) : Sp := fun vs H Q E => ∃ (B A : Addr → Prop) (a : OA) (S : OS) (v r : V), vs = [.ref a.o, v, r] ∧ OfM c B A H a S ∧ StrOk c.K H v ∧ ((∃ n, r = .int n) ∨ NotInt c.K H r) ∧ S.past.length ≤ 900 ∧
  (∀ e H', wfind S v = none → Same H H' → Xd H' e "writer" v → E (.ref CI) (some e) H') ∧
  (∀ d e H', wfind S v = some d → NotInt c.K H r → Same H H' → Xd H' e "value" r → E (.ref CM) (some e) H') ∧
  (∀ d n m e H', wfind S v = some d → r = .int n → stale S d = some m → Same H H' → Xd H' e "id" (.int m) → E (.ref CS) (some e) H') ∧
  (∀ d n i e H', wfind S v = some d → r = .int n → stale S d = none → JBad S.L S.xs (d.es.map (·.at_ n)) i → Same H H' → Xd H' e "at" (.int (i : Int)) → E (.ref CE) (some e) H') ∧
  (∀ d n us j' H', wfind S v = some d → r = .int n → stale S d = none → Good S.L (S.xs ++ d.es.map (·.at_ n)) → S.xs.length + d.es.length ≤ 400 → Fr A H A H' → OfM c (uni B A) A H' { a with j := j' } (S.closed d n us) → Q (.int d.es.length) H')
section
variable {P : Program} {w : World} {mg : Str → Option Value} {base : Heap} {c : Cls6} {CI CM CS CE fM fl : Addr} {fdl : FuncData}
structure GO5 (P : Program) (w : World) (mg : Str → Option Value) (base : Heap) (c : Cls6) (CI CM CS CE fM : Addr) : Prop where
  T : Co c.K mg c.CO
  TJ : Cj P c.K mg c.CJ c.CB
  TD : Cd c.K mg c.CD
  TM : PySem.BadX.Txt P c.K mg "value" "value" CM fM
  c_BadMoment : mg "BadMoment" = some (.ref CM)
  is_integer : Cal P w c.K mg base CX0 "is_integer" 1 ["thing"] (spIsInt c.K)
  draft_of : Met P w c.K mg base (L2.CX P w) c.CO "_draft_of" 2 ["self", "writer"] (spDraftO c CI)
  fresh : Met P w c.K mg base (L2.CX P w) c.CO "_check_fresh" 1 ["self", "draft"] (spFreshO c CS)
  behind : Met P w c.K mg base (L2.CX P w) c.CO "_journal_behind" 10 ["self", "entries"] (spBehindO c CE)
abbrev s_Office_close : Stmt := inClass (topS 39) 8
theorem sc_Office_close : FnScope ["self", "writer", "arrival", "draft", "journal", "many", "entry"] ["self", "writer", "arrival"] (defScope s_Office_close) := ⟨rfl, rfl, rfl, by decide +kernel, rfl, by decide +kernel, by decide +kernel⟩
theorem ok_closeO {f : Addr} {fd : FuncData} (F : Fun c.K "close" "Office.close" s_Office_close f fd) (B : Blt mg) (G : GO5 P w mg base c CI CM CS CE fM)
    (Fl : FnOk P w c.K mg base CX0 1 fl fdl ["self"] (spJLen c.K c.aT c.CJ c.CB)) (hl1 : PySem.W.findIn c.K (.ref c.CJ) "__len__" = some (some (.ref fl))) (hl2 : PySem.W.isFn c.K (.ref fl) = true) (hl3 : Binds c.K fdl ["self"] []) : FnOk P w c.K mg base (L2.CX P w) 11 f fd ["self", "writer", "arrival"] (spCloseO c CI CM CS CE) := by
  have T := G.T
  have TD := G.TD
  refine F.okX sc_Office_close (fun vs H Q E h => ?_) (fun cdv A0 outer s H vs Q E hr h => ?_)
  · obtain ⟨B, A, a, S, v, r, rfl, _⟩ := h
    rfl
  · obtain ⟨B', A, a, S, v, r, rfl, M, hv, hr0, hp9, qi, qm, qs, qe, q⟩ := h
    have hu := hu_of hr
    refine ⟨_, (pss_cons (ps_set (i := 3) sc_Office_close.nd rfl (Or.inl rfl) (pe_met T.cl G.draft_of (hr.mono (by decide)) (passE (takes_of rfl rfl rfl rfl)) (pv 0) (pa_cons (pv 1) pa_nil)))
    (pss_cons (ps_if (pt_not (pt_val (pe_cal G.is_integer (hr.mono (by decide)) pass0 (pa_cons (pv 2) pa_nil))))
      (pss_one (ps_raiseB rfl G.TM par_value G.c_BadMoment (hr.mono (Nat.zero_le _)) (takes_of rfl rfl rfl rfl) (pa_cons (pv 2) pa_nil) (by rfl)))
      pss_nil)
    (pss_cons (ps_expr (pe_met T.cl G.fresh (hr.mono (by decide)) (passE (takes_of rfl rfl rfl rfl)) (pv 0) (pa_cons (pv 3) pa_nil)))
    (pss_cons (ps_set (i := 4) sc_Office_close.nd rfl (Or.inl rfl) (pe_met T.cl G.behind (hr.mono (by decide)) (passE (takes_of rfl rfl rfl rfl)) (pv 0) (pa_cons (pe_lc (own := [("entry", 6)]) (g := gName 6) (tt := tYes) (by rfl) sc_Office_close.nd (pi_list (pe_fld (pv 3) rfl)) (blkOk_by (own := [("entry", 6)]) (N := ["self", "writer", "arrival", "draft", "journal", "many", "entry"]) (sc := defScope s_Office_close) (by decide +kernel)) (fun _ _ _ _ _ => (pg_name (i := 6) sc_Office_close.nd rfl (Or.inl rfl))) (fun _ _ _ _ _ => pts_nil) (fun _ _ _ _ _ => (show PE _ _ (tTup (StX.tStar c.K (tVar 6) (tCons (tVar 2) tNil))) from (pe_tup (StX.pa_star (pv 6) (pa_cons (pv 2) pa_nil)))))) pa_nil)))
    (pss_cons (ps_set (i := 5) sc_Office_close.nd rfl (Or.inl rfl) (pe_callB call_len_seq (by rfl) B.len (by decide +kernel) (pa_cons (pe_fld (pv 3) rfl) pa_nil)))
    (pss_cons (ps_ddel (pe_fld (pv 0) rfl) (pv 1))
    (pss_cons (ps_expr (pe_bm PySem.F.plainAttrs_list PySem.F.slot_list_append PySem.F.type_list_append mt_append (pe_fld (pv 0) rfl) (pa_cons (pe_callB (call_lenI Fl hl1 hl2 hl3 pass0 (hr.mono (by decide))) (by rfl) B.len (by decide +kernel) (pa_cons (pe_fld (pv 0) rfl) pa_nil)) pa_nil)))
    (pss_cons (ps_fldaug (pv 0) pe_int in_add)
    (pss_cons (ps_expr (pe_bm PySem.F.plainAttrs_list PySem.F.slot_list_extend PySem.F.type_list_extend mt_extend (pe_fld (pv 0) rfl) (pa_cons (pe_op op_rep (pe_lst (pa_cons (pe_fld (pv 0) rfl) pa_nil)) (pv 5)) pa_nil)))
    (pss_cons (ps_fld (pv 0) (pv 4) rfl)
    (pss_one (ps_ret (pv 5))))))))))))), ?_⟩
    refine ⟨_, rfl, a.o, a.dx, _, rfl, M.o, rfl, _, rfl, B', A, a, S, v, rfl, M, hv, fun d H1 ed s1 => ?_, fun e H1 en s1 x => qi e H1 en s1 x⟩
    have M1 := M.same s1
    obtain ⟨hd, rfl⟩ := wfind_mem M ed
    rcases hr0 with ⟨n, rfl⟩ | hni
    rotate_left
    · obtain ⟨t0, bi, bb, ty, k1, k2, k3⟩ := id hni
      exact ⟨_, rfl, r, rfl, .inr ⟨⟨t0, bi, bb, tyx_same ty s1, k1, k2, k3⟩, ⟨_, rfl, iteT ⟨_, rfl, _, rfl, fun e' he' => qm d e' _ ed hni (s1.trans (sameAt (Same.refl _) he')) upd_same⟩⟩⟩⟩
    refine ⟨_, rfl, _, rfl, .inl ⟨n, rfl, ⟨_, rfl, iteF ?_⟩⟩⟩
    refine ⟨_, rfl, a.o, a.dx, _, rfl, M1.o, rfl, _, rfl, B', A, a, S, d, rfl, M1, hd, fun H2 st s2 => ?_, fun m e' H2 st s2 hx => qs d n m e' H2 ed rfl st (s1.trans s2) hx⟩
    have M2 := M1.same s2
    obtain ⟨⟨tx, us, hft, hA, hl, hde⟩, _, _, _, h20⟩ := M2.dr d hd
    have hde1 := hde.same (cut_same _ _)
    have hft2 := cut_same _ _ _ _ hft
    refine ⟨_, rfl, a.o, a.dx, _, rfl, M2.o, rfl, _, rfl, d.t, c.CD, tx, _, _, rfl, hft2, TD.cl, TD.nE, rfl, d.l, rfl, ⟨_, SqL.of hl⟩, fun D hD => ?_⟩
    refine lc_list (a := d.l) (xs := us) (fun i H3 => ∃ us', H3 D = some (.lst us') ∧ WithN H3 us' (d.es.take i) (.int n) ∧ Same H2 H3) ⟨[], upd_same, ⟨rfl, fun _ _ _ e => nomatch e⟩, sameAt (Same.refl _) hD⟩ (fun i H3 _ hv => by obtain ⟨_, _, _, h⟩ := hv; exact SqL.of (h _ _ hl)) ?_ ?_
    · rintro i v H3 hvi ⟨us', hD3, hW, s3⟩
      have hil := (List.getElem?_eq_some_iff.mp hvi).1
      obtain ⟨x, hx⟩ : ∃ x, d.es[i]? = some x := ⟨_, List.getElem?_eq_getElem (by rw [← hde.1]; exact hil)⟩
      obtain ⟨e, rfl, he, ok⟩ := hde1.2 i v x hvi hx
      have he3 : H3 e = some (.tup x.vs.dropLast) := s3 _ _ he
      refine ⟨rfl, _, rfl, e, _, rfl, .inl (SqT.of he3), _, rfl, vs_lenW x (.int n), fun t ht => ?_⟩
      have s4 : Same H3 (upd H3 t (.tup (x.vs.dropLast ++ [V.int n]))) := sameAt (Same.refl _) ht
      have tD : D ≠ t := fun z => by rw [← z, hD3] at ht; cases ht
      have hul : us'.length ≤ 20 := by
        have := hW.1
        rw [List.length_take] at this
        omega
      refine ⟨us', s4 _ _ hD3, small1000 (by omega), us' ++ [.ref t], upd_same, ?_, sameAt (s3.trans s4) hD⟩
      rw [list_take' hx]
      have s5 : ∀ (k : Addr) (xs : List V), (upd H3 t (.tup (x.vs.dropLast ++ [V.int n]))) k = some (.tup xs) → (upd (upd H3 t (.tup (x.vs.dropLast ++ [V.int n]))) D (.lst (us' ++ [V.ref t]))) k = some (.tup xs) := fun k xs h => by
        rw [upd_ne (fun z => by rw [z, s4 _ _ hD3] at h; cases h)]
        exact h
      refine WithN.snoc ⟨hW.1, fun k v y a b => ?_⟩ (s5 _ _ upd_same) ok
      obtain ⟨e', h1, h2, h3⟩ := hW.2 k v y a b
      exact ⟨e', h1, s5 _ _ (s4 _ _ h2), h3⟩
    · rintro H3 ⟨us', hD3, hW, s3⟩
      rw [List.take_of_length_le (by rw [hde.1]; exact Nat.le_refl _)] at hW
      have s03 := (s1.trans s2).trans s3
      have M3 := M.same s03
      refine ⟨B', A, a, S, D, us', d.es.map (·.at_ n), rfl, M3, hD3, hW.ents, by rw [List.length_map]; exact h20, fun j' H4 s4 gd x4 J => ?_, fun i e' H4 hb s4 hx => qe d n i e' H4 ed rfl st hb (s03.trans s4) hx⟩
      have s04 := s03.trans s4
      have M4 := M.same s04
      have hl4 : H4 d.l = some (.lst us) := (s3.trans s4) _ _ hl
      rw [List.length_map] at x4
      refine ⟨_, rfl, d.t, c.CD, tx, _, _, rfl, (s3.trans s4) _ _ hft2, TD.cl, TD.nE, rfl, d.l, us, rfl, .inl (SqL.of hl4), ?_⟩
      refine ⟨_, rfl, a.o, c.CO, a.dx, _, _, rfl, M4.o, T.cl, T.nD, rfl, _, rfl, a.dd, _, Sum.inr d.z, rfl, M4.dd, rfl, ?_, ?_⟩
      · rw [M4.val]
        have : S.find d.z = some d := ed
        rw [this]
        rfl
      rw [DrK_drop]
      have no : a.o ≠ a.dd := ne_of M.o M.dd (by intro z; cases z)
      have npd : a.pa ≠ a.dd := ne_of M.pa M.dd (by intro z; cases z)
      have ncd : a.cb ≠ a.dd := ne_of M.cb M.dd (by intro z; cases z)
      have npo : a.pa ≠ a.o := ne_of M.pa M.o (by intro z; cases z)
      have nco : a.cb ≠ a.o := ne_of M.cb M.o (by intro z; cases z)
      obtain ⟨jx, jt, jk, j1, j2, j3, j4, j5⟩ := id (M4.jr.same (cut_same _ _))
      have njd : a.j ≠ a.dd := ne_of j1 M4.dd (by intro z; cases z)
      have J5 : JAt c.K c.aT c.CJ c.CB (upd H4 a.dd (.dK (DrK (S.dropd d.z).ps))) a.j a.bj S.L S.us S.xs := M4.jr.same fun q y hq => by
        obtain ⟨n1, n2⟩ := cut_of hq
        rw [upd_ne (fun z : q = a.dd => n1 (by rw [z]; exact M.AB _ M.Add))]
        exact n2
      have hpaL : (S.past.map fun (n : Nat) => V.int (n : Int)).length < sizeLine := by
        rw [List.length_map]
        exact small1000 (by omega)
      have xl : S.us.length = S.xs.length := j4
      have ho5 : (upd H4 a.dd (.dK (DrK (S.dropd d.z).ps))) a.o = some (.ins c.CO a.dx (ofF a.b a.j a.dd a.pa S.cl a.cb)) := by rw [upd_ne no]; exact M4.o
      have hp5 : (upd H4 a.dd (.dK (DrK (S.dropd d.z).ps))) a.pa = some (.lst (S.past.map fun (n : Nat) => V.int (n : Int))) := by rw [upd_ne npd]; exact M4.pa
      have hc5 : (upd H4 a.dd (.dK (DrK (S.dropd d.z).ps))) a.cb = some (.lst (S.cb.map V.int)) := by rw [upd_ne ncd]; exact M4.cb
      have hj5 : (upd H4 a.dd (.dK (DrK (S.dropd d.z).ps))) a.j = some (.ins c.CJ jx (jf a.bj jt jk)) := by rw [upd_ne njd]; exact j1
      have k5 : ∀ q y, H4 q = some y → q ≠ a.dd → (upd H4 a.dd (.dK (DrK (S.dropd d.z).ps))) q = some y := fun q y hq n => by rw [upd_ne n]; exact hq
      have d5 : (upd H4 a.dd (.dK (DrK (S.dropd d.z).ps))) a.dd = some (.dK (DrK (S.dropd d.z).ps)) := upd_same
      generalize (upd H4 a.dd (.dK (DrK (S.dropd d.z).ps))) = H5 at J5 ho5 hp5 hc5 hj5 k5 d5 ⊢
      refine ⟨_, rfl, a.o, c.CO, a.dx, _, _, rfl, ho5, T.cl, T.nP, rfl, .inl ⟨rfl, _, SqL.of hp5⟩, _, rfl, a.o, c.CO, a.dx, _, _, rfl, ho5, T.cl, T.nJ, rfl, a.j, jx, _, rfl, hj5, a.j, a.bj, S.L, S.us, S.xs, rfl, J5, S.us.length, rfl, by have := M.x4; omega, a.pa, _, _, rfl, rfl, hp5, hpaL, ?_⟩
      have e6 : (S.past.map fun (n : Nat) => V.int (n : Int)) ++ [V.int (S.us.length : Int)] = (S.past ++ [S.xs.length]).map fun (n : Nat) => V.int (n : Int) := by rw [xl, List.map_append]; rfl
      rw [e6]
      have ho6 : (upd H5 a.pa (.lst ((S.past ++ [S.xs.length]).map fun (n : Nat) => V.int (n : Int)))) a.o = some (.ins c.CO a.dx (ofF a.b a.j a.dd a.pa S.cl a.cb)) := by rw [upd_ne npo.symm]; exact ho5
      have hc6 : (upd H5 a.pa (.lst ((S.past ++ [S.xs.length]).map fun (n : Nat) => V.int (n : Int)))) a.cb = some (.lst (S.cb.map V.int)) := by rw [upd_ne M.ne.symm]; exact hc5
      have k6 : ∀ q y, H4 q = some y → q ≠ a.dd → q ≠ a.pa → (upd H5 a.pa (.lst ((S.past ++ [S.xs.length]).map fun (n : Nat) => V.int (n : Int)))) q = some y := fun q y hq n1 n2 => by rw [upd_ne n2]; exact k5 q y hq n1
      have d6 : (upd H5 a.pa (.lst ((S.past ++ [S.xs.length]).map fun (n : Nat) => V.int (n : Int)))) a.dd = some (.dK (DrK (S.dropd d.z).ps)) := by rw [upd_ne npd.symm]; exact d5
      have p6 : (upd H5 a.pa (.lst ((S.past ++ [S.xs.length]).map fun (n : Nat) => V.int (n : Int)))) a.pa = some (.lst ((S.past ++ [S.xs.length]).map fun (n : Nat) => V.int (n : Int))) := upd_same
      generalize (upd H5 a.pa (.lst ((S.past ++ [S.xs.length]).map fun (n : Nat) => V.int (n : Int)))) = H6 at ho6 hc6 k6 d6 p6 ⊢
      refine ⟨_, rfl, a.o, c.CO, a.dx, _, _, rfl, ho6, T.cl, T.nC, rfl, _, _, rfl, rfl, _, _, ho6, (by show 6 < 1000; decide), ?_⟩
      rw [putF_c]
      have ho7 : (upd H6 a.o (.ins c.CO a.dx (ofF a.b a.j a.dd a.pa (S.cl + 1) a.cb))) a.o = some (.ins c.CO a.dx (ofF a.b a.j a.dd a.pa (S.cl + 1) a.cb)) := upd_same
      have hc7 : (upd H6 a.o (.ins c.CO a.dx (ofF a.b a.j a.dd a.pa (S.cl + 1) a.cb))) a.cb = some (.lst (S.cb.map V.int)) := by rw [upd_ne nco]; exact hc6
      have k7 : ∀ q y, H4 q = some y → q ≠ a.dd → q ≠ a.pa → q ≠ a.o → (upd H6 a.o (.ins c.CO a.dx (ofF a.b a.j a.dd a.pa (S.cl + 1) a.cb))) q = some y := fun q y hq n1 n2 n3 => by rw [upd_ne n3]; exact k6 q y hq n1 n2
      have d7 : (upd H6 a.o (.ins c.CO a.dx (ofF a.b a.j a.dd a.pa (S.cl + 1) a.cb))) a.dd = some (.dK (DrK (S.dropd d.z).ps)) := by rw [upd_ne no.symm]; exact d6
      have p7 : (upd H6 a.o (.ins c.CO a.dx (ofF a.b a.j a.dd a.pa (S.cl + 1) a.cb))) a.pa = some (.lst ((S.past ++ [S.xs.length]).map fun (n : Nat) => V.int (n : Int))) := by rw [upd_ne npo]; exact p6
      generalize (upd H6 a.o (.ins c.CO a.dx (ofF a.b a.j a.dd a.pa (S.cl + 1) a.cb))) = H7 at ho7 hc7 k7 d7 p7 ⊢
      refine ⟨_, rfl, a.o, c.CO, a.dx, _, _, rfl, ho7, T.cl, T.nY, rfl, .inl ⟨rfl, _, SqL.of hc7⟩, _, rfl, a.o, c.CO, a.dx, _, _, rfl, ho7, T.cl, T.nC, rfl, (by show 1 ≤ sizeLine; decide), fun p1 np1 => ?_⟩
      have s8 : Same H7 (upd H7 p1 (.lst [V.int (S.cl + 1)])) := sameAt (Same.refl _) np1
      have hul : us.length = d.es.length := hde.1
      have sz : us.length ≤ sizeLine := Nat.le_of_lt (small1000 (by omega))
      refine ⟨_, rfl, p1, _, _, rfl, rfl, upd_same, by omega, by omega, (by show 1 * ((us.length : Int).toNat) ≤ _; rw [Int.toNat_natCast]; omega), fun p2 np2 => ?_⟩
      rw [Int.toNat_natCast, flat_rep]
      have hc8 := s8 _ _ hc7
      have ho8 := s8 _ _ ho7
      have hd8 := s8 _ _ d7
      have hp8 := s8 _ _ p7
      have k8 : ∀ q y, H4 q = some y → q ≠ a.dd → q ≠ a.pa → q ≠ a.o → (upd H7 p1 (.lst [V.int (S.cl + 1)])) q = some y := fun q y hq n1 n2 n3 => s8 _ _ (k7 q y hq n1 n2 n3)
      generalize (upd H7 p1 (.lst [V.int (S.cl + 1)])) = H8 at np2 hc8 ho8 hd8 hp8 k8 ⊢
      have s9 : Same H8 (upd H8 p2 (.lst (List.replicate us.length (V.int (S.cl + 1))))) := sameAt (Same.refl _) np2
      have cl4 := M.cbl
      have mx := M.x4
      refine ⟨a.cb, p2, _, _, rfl, rfl, s9 _ _ hc8, upd_same, ?_, ?_⟩
      · rw [List.length_map, List.length_replicate]
        exact Nat.le_of_lt (small1000 (by omega))
      have e10 : S.cb.map V.int ++ List.replicate us.length (V.int (S.cl + 1)) = (S.cb ++ List.replicate d.es.length (S.cl + 1)).map V.int := by rw [List.map_append, List.map_replicate, hul]
      rw [e10]
      have ncp2 : a.cb ≠ p2 := fun z => by rw [← z, hc8] at np2; cases np2
      have noc : a.o ≠ a.cb := nco.symm
      refine ⟨_, rfl, _, rfl, a.o, c.CO, a.dx, _, rfl, (by rw [upd_ne noc]; exact s9 _ _ ho8), T.cl, T.nJ, (by show 6 < 1000; decide), ?_⟩
      rw [putF_j]
      refine ⟨_, rfl, ?_⟩
      have H11 := M.close_ (H' := upd (upd (upd H8 p2 (.lst (List.replicate us.length (V.int (S.cl + 1))))) a.cb (.lst ((S.cb ++ List.replicate d.es.length (S.cl + 1)).map V.int))) a.o (.ins c.CO a.dx (ofF a.b j' a.dd a.pa (S.cl + 1) a.cb))) (n := n) (us := us') s04 J (by rw [hW.1]) x4 (fun q y hq n1 n2 n3 n4 => by rw [upd_ne n3, upd_ne n4]; exact s9 _ _ (k8 q y hq n1 n2 n3)) upd_same
        (by rw [upd_ne no.symm, upd_ne ncd.symm]; exact s9 _ _ hd8) (by rw [upd_ne npo, upd_ne M.ne]; exact s9 _ _ hp8) (by rw [upd_ne nco]; exact upd_same)
      rw [hul] at H11 ⊢
      exact q d n us' j' _ ed rfl st gd x4 H11.1 H11.2
end
end Ash

set_option Elab.async false
set_option linter.all false
set_option maxRecDepth 100000
set_option maxHeartbeats 4000000
namespace Ash
open PySem PySem.Spec PyProof.Rows L2
open C8 (pss_cut)
/-! ### undo, a new office -/
def OS.undone (S : OS) (p : List Nat) (m : Nat) : OS := { S with xs := S.xs.take m, us := S.us.take m, past := p, cb := S.cb.take m }
theorem OfM.undo_ {c : Cls6} {B A : Addr → Prop} {H H4 H' : Hp} {a : OA} {S : OS} (h : OfM c B A H a S) (k0 : ∀ q y, H q = some y → q ≠ a.pa → H4 q = some y) {p : List Nat} {m : Nat} {j' : Addr} (ep : S.past = p ++ [m]) (J : JAt c.K c.aT c.CJ c.CB (cutH B H4) j' a.b S.L (S.us.take m) (S.xs.take m))
    (k : ∀ q y, H4 q = some y → q ≠ a.pa → q ≠ a.o → q ≠ a.cb → H' q = some y) (ho : H' a.o = some (.ins c.CO a.dx (ofF a.b j' a.dd a.pa S.cl a.cb)))
    (hpa : H' a.pa = some (.lst (p.map fun (n : Nat) => V.int (n : Int)))) (hcb : H' a.cb = some (.lst ((S.cb.take m).map V.int))) :
    Fr A H A H' ∧ OfM c (uni B A) A H' { a with j := j', bj := a.b } (S.undone p m) := by
  have kA : ∀ q y, H4 q = some y → ¬ A q → H' q = some y := fun q y hq nq => k q y hq (fun z => nq (z ▸ h.Apa)) (fun z => nq (z ▸ h.Ao)) (fun z => nq (z ▸ h.Acb))
  have f : Fr A H A H' := ⟨fun q y hq nq => kA q y (k0 _ _ hq fun z => nq (z ▸ h.Apa)) nq, fun _ q => .inl q⟩
  have ndp : a.dd ≠ a.pa := ne_of h.dd h.pa (by intro z; cases z)
  have ndo : a.dd ≠ a.o := ne_of h.dd h.o (by intro z; cases z)
  have ndc : a.dd ≠ a.cb := ne_of h.dd h.cb (by intro z; cases z)
  have hp := h.pst
  rw [ep, List.append_assoc] at hp
  have hp1 := List.pairwise_append.mp hp
  have hm : m ≤ S.xs.length := (List.pairwise_append.mp (show ([m] ++ [S.xs.length]).Pairwise (· ≤ ·) from hp1.2.1)).2.2 m (List.mem_singleton.mpr rfl) _ (List.mem_singleton.mpr rfl)
  refine ⟨f, h.to f (fun _ x => x) (fun q hq => ?_) rfl rfl rfl rfl rfl rfl ho (k _ _ (k0 _ _ h.dd ndp) ndp ndo ndc) hpa hcb (fun s => J.same (cut_step (fun q y hq nq => kA q y hq fun z => nq (h.AB _ z)) fun q z => .inl (z.elim id (h.AB q)))) ?_ (fun s d' hd' => ?_) h.ndl h.ndz ?_ ?_⟩
  · obtain ⟨u, e1, mm⟩ := h.BT q (h.AB q hq)
    by_cases q2 : q = a.pa
    · subst q2; exact ⟨_, hpa, trivial⟩
    by_cases q3 : q = a.o
    · subst q3; exact ⟨_, ho, rfl⟩
    by_cases q4 : q = a.cb
    · subst q4; exact ⟨_, hcb, trivial⟩
    exact ⟨u, k _ _ (k0 _ _ e1 q2) q2 q3 q4, mm⟩
  · show (S.us.take m).length ≤ 400
    have := h.x4
    rw [List.length_take]
    omega
  · obtain ⟨D0, mm⟩ := h.dr d' hd'
    obtain ⟨n1, n2, n3, n4⟩ := h.lne hd'
    refine ⟨D0.mono s (fun x => x) ?_, mm⟩
    obtain ⟨_, _, _, _, q, _⟩ := D0
    rw [q, k _ _ (k0 _ _ q n3) n3 n1 n4]
  · show (S.cb.take m).length = (S.xs.take m).length
    rw [List.length_take, List.length_take, h.cbl]
  · show (p ++ [(S.xs.take m).length]).Pairwise (· ≤ ·)
    rw [List.length_take, Nat.min_eq_left hm, List.pairwise_append]
    exact ⟨hp1.1, List.pairwise_singleton _ _, fun x hx y hy => by
      rw [List.mem_singleton.mp hy]
      exact hp1.2.2 x hx m (List.mem_append.mpr (.inl (List.mem_singleton.mpr rfl)))⟩
def spUndoO (c : Cls6) (CT : Addr) : Sp := fun vs H Q E => ∃ (B A : Addr → Prop) (a : OA) (S : OS), vs = [.ref a.o] ∧ OfM c B A H a S ∧
  (∀ H', S.past = [] → Same H H' → E (.ref CT) none H') ∧
  (∀ p m j' H', S.past = p ++ [m] → Fr A H A H' → OfM c (uni B A) A H' { a with j := j', bj := a.b } (S.undone p m) → Q .non H')
abbrev veB : List Value := [.type "ValueError", .type "Exception", .type "BaseException", .type "object"]
section
variable {P : Program} {w : World} {mg : Str → Option Value} {base : Heap} {c : Cls6} {CT CE : Addr}
structure GO6 (P : Program) (w : World) (mg : Str → Option Value) (base : Heap) (c : Cls6) (CT CE : Addr) : Prop extends K8N P w c.K mg base c.CB c.aT c.CJ CE where
  T : Co c.K mg c.CO
  TJ : Cj P c.K mg c.CJ c.CB
  xT : PySem.W.excIn c.K CT veB "ValueError.__new__" = true
  gT : mg "NothingDone" = some (.ref CT)
  kT : PySem.W.keepIn c.K (.ref CT) = true
  bT : PySem.W.subIn c.K (.ref CT) (.type "BaseException") = some true
  tT : PySem.W.typeIn c.K (.ref CT) = some (.type "type")
abbrev s_Office_undo : Stmt := inClass (topS 39) 9
theorem sc_Office_undo : FnScope ["self", "many"] ["self"] (defScope s_Office_undo) := ⟨rfl, rfl, rfl, by decide +kernel, rfl, by decide +kernel, by decide +kernel⟩
theorem ok_undoO {f : Addr} {fd : FuncData} (F : Fun c.K "undo" "Office.undo" s_Office_undo f fd) (B : Blt mg) (G : GO6 P w mg base c CT CE) : FnOk P w c.K mg base (L2.CX P w) 9 f fd ["self"] (spUndoO c CT) := by
  have T := G.T
  have TJ := G.TJ
  refine F.okX sc_Office_undo (fun vs H Q E h => ?_) (fun cdv A0 outer s H vs Q E hr h => ?_)
  · obtain ⟨B, A, a, S, rfl, _⟩ := h
    rfl
  · obtain ⟨B', A, a, S, rfl, M, qn, q⟩ := h
    have hu := hu_of hr
    refine ⟨_, (pss_cons (ps_if (pt_cmpR op_eq (pe_callB call_len_seq (by rfl) B.len (by decide +kernel) (pa_cons (pe_fld (pv 0) rfl) pa_nil)) pe_int (nomark _))
      (pss_one (ps_raise rfl (takes_of rfl rfl rfl rfl) (pmk_own0 PySem.F.excBase_ValueError G.xT G.gT G.kT (raises_own G.bT G.tT) rfl)))
      pss_nil)
    (pss_cons (ps_set (i := 1) sc_Office_undo.nd rfl (Or.inl rfl) (pe_bm0 PySem.F.plainAttrs_list PySem.F.slot_list_pop PySem.F.type_list_pop mt_pop (pe_fld (pv 0) rfl)))
    (pss_cons (ps_fld (pv 0) (pe_mak G.k8.Journal (hr.mono (by decide)) (passE (takes_of rfl rfl rfl rfl)) (pa_cons (pe_fld (pv 0) rfl) (pa_cons (pe_slice sl_tupA (pe_fld (pe_fld (pv 0) rfl) rfl) po_none (po_some (pv 1))) pa_nil))) rfl)
    (pss_one (ps_delTail (pe_fld (pv 0) rfl) (po_some (pv 1))))))), ?_⟩
    refine ⟨_, rfl, a.o, c.CO, a.dx, _, _, rfl, M.o, T.cl, T.nP, rfl, a.pa, _, rfl, .inl (SqL.of M.pa), rfl, _, rfl, ?_⟩
    rcases List.eq_nil_or_concat S.past with e0 | ⟨p, m, e0⟩
    · rw [e0]
      exact iteT (qn H e0 (Same.refl _))
    have e0 : S.past = p ++ [m] := by rw [e0]; simp
    have ne0 : ¬ (V.int ((S.past.map fun (n : Nat) => V.int (n : Int)).length : Int) = V.int 0) := fun z => by
      have := V.int.inj z
      rw [List.length_map, e0, List.length_append] at this
      have h1 : ([m] : List Nat).length = 1 := rfl
      omega
    rw [decide_eq_false ne0]
    refine iteF ⟨_, rfl, a.o, c.CO, a.dx, _, _, rfl, M.o, T.cl, T.nP, rfl, .inl ⟨rfl, _, SqL.of M.pa⟩, a.pa, _, .int (m : Int), rfl, rfl, M.pa, ?_, ?_⟩
    · rw [e0, List.map_append, List.length_append, List.getElem?_append_right (by show _ ≤ _ + 1 - 1; omega)]
      show [V.int (m : Int)][_ + 1 - 1 - _]? = _
      rw [show ∀ n : Nat, n + 1 - 1 - n = 0 from fun n => by omega]
      rfl
    have e1 : (S.past.map fun (n : Nat) => V.int (n : Int)).dropLast = p.map fun (n : Nat) => V.int (n : Int) := by
      rw [e0, List.map_append]
      exact List.dropLast_concat
    rw [e1]
    have nop : a.o ≠ a.pa := ne_of M.o M.pa (by intro z; cases z)
    have k1 : ∀ q y, H q = some y → q ≠ a.pa → (upd H a.pa (.lst (p.map fun (n : Nat) => V.int (n : Int)))) q = some y := fun q y hq n => by rw [upd_ne n]; exact hq
    have p1 : (upd H a.pa (.lst (p.map fun (n : Nat) => V.int (n : Int)))) a.pa = some (.lst (p.map fun (n : Nat) => V.int (n : Int))) := upd_same
    have c1 : Same (cutH B' H) (upd H a.pa (.lst (p.map fun (n : Nat) => V.int (n : Int)))) := fun q y hq => by
      obtain ⟨n1, n2⟩ := cut_of hq
      exact k1 q y n2 fun z => n1 (by rw [z]; exact M.AB _ M.Apa)
    have fr1 : ∀ q, (upd H a.pa (.lst (p.map fun (n : Nat) => V.int (n : Int)))) q = none → H q = none := fun q hq => by
      by_cases z : q = a.pa
      · rw [z, p1] at hq; cases hq
      · rw [upd_ne z] at hq; exact hq
    generalize (upd H a.pa (.lst (p.map fun (n : Nat) => V.int (n : Int)))) = H1 at k1 p1 c1 fr1 ⊢
    have ho1 := k1 _ _ M.o nop
    have J1 := M.jr.same c1
    have B1 := M.bk.same c1
    obtain ⟨jx, jt, jk, j1, j2, j3, j4, j5, j6, j7⟩ := id J1
    have hp := M.pst
    rw [e0, List.append_assoc] at hp
    have hm : m ≤ S.xs.length := (List.pairwise_append.mp (show ([m] ++ [S.xs.length]).Pairwise (· ≤ ·) from (List.pairwise_append.mp hp).2.1)).2.2 m (List.mem_singleton.mpr rfl) _ (List.mem_singleton.mpr rfl)
    refine ⟨_, rfl, a.o, c.CO, a.dx, _, _, rfl, ho1, T.cl, T.nB, rfl, _, rfl, a.o, c.CO, a.dx, _, _, rfl, ho1, T.cl, T.nJ, rfl, a.j, c.CJ, jx, _, _, rfl, j1, TJ.cl, TJ.nE, jf_e _ _ _, _, rfl, ?_⟩
    refine ⟨_, rfl, jt, S.us, rfl, j3, fun hw => ?_, fun hw t2 nt2 => ?_⟩
    · have em : S.us.take m = S.us := by
        have h2 : HT.sIx S.us.length S.us.length (some (m : Int)) = S.us.length := hw.2
        rw [HT.sIx_nat] at h2
        exact List.take_of_length_le (by omega)
      have hsq : SqT c.K H1 jt (S.us.take m) := by rw [em]; exact j3
      obtain ⟨t2, et⟩ : ∃ X, X = jt := ⟨_, rfl⟩
      obtain ⟨H2, eH⟩ : ∃ X, X = H1 := ⟨_, rfl⟩
      have s12 : Same H1 H2 := by rw [eH]; exact Same.refl _
      rw [← eH, ← et] at hsq ⊢
      intro x dx' nx ndx nex
      have sX : Same H2 (upd (upd H2 dx' (.own x)) x (.ins c.CJ dx' [])) := (sameAt (Same.refl _) ndx).trans (sameAt (Same.refl _) (by rw [upd_ne (Ne.symm nex)]; exact nx))
      have s1X := s12.trans sX
      refine ⟨x, dx', a.b, t2, S.L, S.us.take m, (S.xs.take m).map some, rfl, upd_same, B1.same s1X, .inr (seqS hsq sX), by have := M.x4; rw [List.length_take]; omega, by rw [List.length_map, List.length_take, List.length_take, j4], fun i v o hv ho => ?_, fun H5 ys hys hw hJ5 hk kk => ⟨rfl, ?_⟩, fun i d H5 hw s hx => ?_⟩
      · rw [List.getElem?_map] at ho
        cases e : (S.xs.take m)[i]? with
        | none => rw [e] at ho; cases ho
        | some y =>
          rw [e] at ho
          cases ho
          have hi : i < m := by
            have := (List.getElem?_eq_some_iff.mp e).1
            rw [List.length_take] at this
            omega
          rw [List.getElem?_take_of_lt hi] at hv e
          exact (j5 i v y hv e).same s1X
      · have e5 : ys = S.xs.take m := ((List.map_inj_right (fun a b h => Option.some.inj h)).mp hys).symm
        subst e5
        have s5 : Same H1 H5 := s12.trans (mk_same nx ndx kk)
        have ho5 := s5 _ _ ho1
        obtain ⟨dx5, t5, kd5, k51, k52⟩ := hk
        have BT1 : ∀ q, B' q → Mu c.CO (H1 q) := fun q hq => by
          by_cases z : q = a.pa
          · subst z; exact ⟨_, p1, trivial⟩
          · obtain ⟨u, e1, mm⟩ := M.BT q hq
            exact ⟨u, k1 _ _ e1 z, mm⟩
        have JC := hJ5.cut s5 BT1 (no_of s12 nx) ⟨dx5, t5, kd5, k51, no_of s1X k52⟩ ((M.bk.same (cut_step (fun q y hq nq => k1 q y hq fun z => nq (by rw [z]; exact M.AB _ M.Apa)) fun q z => .inl z)).same (cut_step (fun q y hq _ => s5 _ _ hq) fun q z => .inl z))
        refine ⟨_, rfl, a.o, c.CO, a.dx, _, rfl, ho5, T.cl, T.nJ, (by show 6 < 1000; decide), ?_⟩
        rw [putF_j]
        have nco : a.cb ≠ a.o := ne_of M.cb M.o (by intro z; cases z)
        have npo : a.pa ≠ a.o := nop.symm
        have hc6 : (upd H5 a.o (.ins c.CO a.dx (ofF a.b x a.dd a.pa S.cl a.cb))) a.cb = some (.lst (S.cb.map V.int)) := by rw [upd_ne nco]; exact s5 _ _ (k1 _ _ M.cb M.ne.symm)
        have ho6 : (upd H5 a.o (.ins c.CO a.dx (ofF a.b x a.dd a.pa S.cl a.cb))) a.o = some (.ins c.CO a.dx (ofF a.b x a.dd a.pa S.cl a.cb)) := upd_same
        refine ⟨_, rfl, a.o, c.CO, a.dx, _, _, rfl, ho6, T.cl, T.nY, rfl, _, rfl, _, rfl, a.cb, _, m, rfl, rfl, hc6, (by rw [List.length_map, M.cbl]; exact hm), ?_⟩
        have e7 : (S.cb.map V.int).take m = (S.cb.take m).map V.int := List.map_take.symm
        rw [e7]
        have fin := M.undo_ (H4 := H5) (H' := upd (upd H5 a.o (.ins c.CO a.dx (ofF a.b x a.dd a.pa S.cl a.cb))) a.cb (.lst ((S.cb.take m).map V.int))) (fun q y hq n => s5 _ _ (k1 q y hq n)) e0 JC (fun q y hq _ n2 n3 => by rw [upd_ne n3, upd_ne n2]; exact hq) (by rw [upd_ne nco.symm]; exact upd_same) (by rw [upd_ne M.ne, upd_ne npo]; exact s5 _ _ p1) upd_same
        exact q p m x _ e0 fin.1 fin.2
      · have g : (wk S.L (S.xs.map some) 0 (fun _ => none) none) = (none, (wk S.L (S.xs.map some) 0 (fun _ => none) none).2) := by rw [← j6]
        obtain ⟨Sk, hk⟩ := wk_pre g m
        rw [hk] at hw
        cases hw
    · have em : cutV S.us none (some (m : Int)) = S.us.take m := by
        unfold cutV
        rw [HT.sIx_nat]
        show (S.us.drop 0).take (min m S.us.length - 0) = _
        rw [List.drop_zero, Nat.sub_zero, Nat.min_def]
        split
        · rfl
        · rw [List.take_of_length_le (Nat.le_refl _), List.take_of_length_le (by omega)]
      rw [em]
      have hsq : SqT c.K (upd H1 t2 (.tup (S.us.take m))) t2 (S.us.take m) := SqT.of upd_same
      have s12 : Same H1 (upd H1 t2 (.tup (S.us.take m))) := sameAt (Same.refl _) nt2
      generalize (upd H1 t2 (.tup (S.us.take m))) = H2 at hsq s12 ⊢
      intro x dx' nx ndx nex
      have sX : Same H2 (upd (upd H2 dx' (.own x)) x (.ins c.CJ dx' [])) := (sameAt (Same.refl _) ndx).trans (sameAt (Same.refl _) (by rw [upd_ne (Ne.symm nex)]; exact nx))
      have s1X := s12.trans sX
      refine ⟨x, dx', a.b, t2, S.L, S.us.take m, (S.xs.take m).map some, rfl, upd_same, B1.same s1X, .inr (seqS hsq sX), by have := M.x4; rw [List.length_take]; omega, by rw [List.length_map, List.length_take, List.length_take, j4], fun i v o hv ho => ?_, fun H5 ys hys hw hJ5 hk kk => ⟨rfl, ?_⟩, fun i d H5 hw s hx => ?_⟩
      · rw [List.getElem?_map] at ho
        cases e : (S.xs.take m)[i]? with
        | none => rw [e] at ho; cases ho
        | some y =>
          rw [e] at ho
          cases ho
          have hi : i < m := by
            have := (List.getElem?_eq_some_iff.mp e).1
            rw [List.length_take] at this
            omega
          rw [List.getElem?_take_of_lt hi] at hv e
          exact (j5 i v y hv e).same s1X
      · have e5 : ys = S.xs.take m := ((List.map_inj_right (fun a b h => Option.some.inj h)).mp hys).symm
        subst e5
        have s5 : Same H1 H5 := s12.trans (mk_same nx ndx kk)
        have ho5 := s5 _ _ ho1
        obtain ⟨dx5, t5, kd5, k51, k52⟩ := hk
        have BT1 : ∀ q, B' q → Mu c.CO (H1 q) := fun q hq => by
          by_cases z : q = a.pa
          · subst z; exact ⟨_, p1, trivial⟩
          · obtain ⟨u, e1, mm⟩ := M.BT q hq
            exact ⟨u, k1 _ _ e1 z, mm⟩
        have JC := hJ5.cut s5 BT1 (no_of s12 nx) ⟨dx5, t5, kd5, k51, no_of s1X k52⟩ ((M.bk.same (cut_step (fun q y hq nq => k1 q y hq fun z => nq (by rw [z]; exact M.AB _ M.Apa)) fun q z => .inl z)).same (cut_step (fun q y hq _ => s5 _ _ hq) fun q z => .inl z))
        refine ⟨_, rfl, a.o, c.CO, a.dx, _, rfl, ho5, T.cl, T.nJ, (by show 6 < 1000; decide), ?_⟩
        rw [putF_j]
        have nco : a.cb ≠ a.o := ne_of M.cb M.o (by intro z; cases z)
        have npo : a.pa ≠ a.o := nop.symm
        have hc6 : (upd H5 a.o (.ins c.CO a.dx (ofF a.b x a.dd a.pa S.cl a.cb))) a.cb = some (.lst (S.cb.map V.int)) := by rw [upd_ne nco]; exact s5 _ _ (k1 _ _ M.cb M.ne.symm)
        have ho6 : (upd H5 a.o (.ins c.CO a.dx (ofF a.b x a.dd a.pa S.cl a.cb))) a.o = some (.ins c.CO a.dx (ofF a.b x a.dd a.pa S.cl a.cb)) := upd_same
        refine ⟨_, rfl, a.o, c.CO, a.dx, _, _, rfl, ho6, T.cl, T.nY, rfl, _, rfl, _, rfl, a.cb, _, m, rfl, rfl, hc6, (by rw [List.length_map, M.cbl]; exact hm), ?_⟩
        have e7 : (S.cb.map V.int).take m = (S.cb.take m).map V.int := List.map_take.symm
        rw [e7]
        have fin := M.undo_ (H4 := H5) (H' := upd (upd H5 a.o (.ins c.CO a.dx (ofF a.b x a.dd a.pa S.cl a.cb))) a.cb (.lst ((S.cb.take m).map V.int))) (fun q y hq n => s5 _ _ (k1 q y hq n)) e0 JC (fun q y hq _ n2 n3 => by rw [upd_ne n3, upd_ne n2]; exact hq) (by rw [upd_ne nco.symm]; exact upd_same) (by rw [upd_ne M.ne, upd_ne npo]; exact s5 _ _ p1) upd_same
        exact q p m x _ e0 fin.1 fin.2
      · have g : (wk S.L (S.xs.map some) 0 (fun _ => none) none) = (none, (wk S.L (S.xs.map some) 0 (fun _ => none) none).2) := by rw [← j6]
        obtain ⟨Sk, hk⟩ := wk_pre g m
        rw [hk] at hw
        cases hw
end
end Ash

set_option Elab.async false
set_option linter.all false
set_option maxRecDepth 100000
set_option maxHeartbeats 4000000
namespace Ash
open PySem PySem.Spec PyProof.Rows L2
open C8 (pss_cut)
/-! ### a new office -/
theorem pe_no {X : Cx} {e : Expr} : PE X e (fun _ _ _ => False) := ⟨fun _ _ _ _ _ _ h => h.elim⟩
def newOS (L : List (Str × Int)) (xs : List Ent) (us : List V) : OS := ⟨L, xs, us, [], [], 0, List.replicate xs.length 0⟩
def spOfInit (c : Cls6) : Sp := fun vs H Q _ => ∃ (B : Addr → Prop) (o dx b j bj : Addr) (L : List (Str × Int)) (us : List V) (xs : List Ent), vs = [.ref o, .ref b, .ref j] ∧ H o = some (.ins c.CO dx []) ∧ B o ∧ (∀ x, B x → Mu c.CO (H x)) ∧ BookAt c.CB (cutH B H) b L ∧ JAt c.K c.aT c.CJ c.CB (cutH B H) j bj L us xs ∧ us.length ≤ 400 ∧
  ∀ a A' H', a.o = o → a.j = j → a.b = b → a.bj = bj → (∀ q y, H q = some y → q ≠ o → H' q = some y) → (∀ p, A' p → p = o ∨ H p = none) → OfM c (uni B A') A' H' a (newOS L xs us) → Q .non H'
section
variable {P : Program} {w : World} {mg : Str → Option Value} {base : Heap} {c : Cls6} {fb fl : Addr} {fdb fdl : FuncData}
abbrev s_Office_init : Stmt := inClass (topS 39) 0
theorem sc_Office_init : FnScope ["self", "book", "journal"] ["self", "book", "journal"] (defScope s_Office_init) := ⟨rfl, rfl, rfl, by decide +kernel, rfl, by decide +kernel, by decide +kernel⟩
theorem ok_ofInit {f : Addr} {fd : FuncData} (F : FunD c.K "__init__" "Office.__init__" (defArgs s_Office_init) (defBody s_Office_init) (defScope s_Office_init) [.non] [] f fd) (B : Blt mg) (T : Co c.K mg c.CO) (TB : Cb c.K mg c.CB) (TJ : Cj P c.K mg c.CJ c.CB)
    (bk : ∀ H b dx fs, H b = some (.ins c.CB dx fs) → TyX c.K H (.ref b) (.ref c.CB)) (jk : ∀ H b dx fs, H b = some (.ins c.CJ dx fs) → TyX c.K H (.ref b) (.ref c.CJ))
    (Fl : FnOk P w c.K mg base CX0 1 fl fdl ["self"] (spJLen c.K c.aT c.CJ c.CB)) (hl1 : PySem.W.findIn c.K (.ref c.CJ) "__len__" = some (some (.ref fl))) (hl2 : PySem.W.isFn c.K (.ref fl) = true) (hl3 : Binds c.K fdl ["self"] [])
    (Zb : NeC c.K c.CB fb) (hb : Binds c.K fdb ["self", "other"] []) (Fb : FnOk P w c.K mg base CX0 1 fb fdb ["self", "other"] (spBookEqV c.CB)) : FnOk P w c.K mg base (L2.CX P w) 4 f fd ["self", "book", "journal"] (spOfInit c) := by
  have c_Book := TB.c
  have c_Journal := TJ.c
  refine F.ok (CX := L2.CX P w) sc_Office_init (fun vs H Q E h => ?_) (fun cdv A0 outer s H vs Q E hr h => ?_)
  · obtain ⟨B, o, dx, b, j, bj, L, us, xs, rfl, _⟩ := h
    rfl
  · obtain ⟨B', o, dx, b, j, bj, L, us, xs, rfl, ho, hBo, hBT, hB, hJ, h4, q⟩ := h
    have hu := hu_of hr
    refine ⟨_, (pss_cons (ps_if (pt_not (pt_val (pe_callB call_isi (by rfl) B.isinstance (by decide +kernel) (pa_cons (pv 1) (pa_cons (pe_glob (v := .ref c.CB) (by rfl) c_Book rfl) pa_nil)))))
      (pss_one ps_never)
      pss_nil)
    (pss_cons (ps_if (PW.pt (pw_and (pt_cmpR op_notN (pv 2) pe_non (nomark _)) (pw_and1 (PW.pt (pw_or (pt_not (pt_val (pe_callB call_isi (by rfl) B.isinstance (by decide +kernel) (pa_cons (pv 2) (pa_cons (pe_glob (v := .ref c.CJ) (by rfl) c_Journal rfl) pa_nil))))) (pw_or1 (pt_cmpR (op_neV Fb Zb hb pass0 (hr.mono (by decide))) (pe_fld (pv 2) rfl) (pv 1) (nomark _))))))))
      (pss_one ps_never)
      pss_nil)
    (pss_cons (ps_fld (pv 0) (pv 1) rfl)
    (pss_cons (ps_fld (pv 0) (pe_ifExp (pt_cmpR op_isN (pv 2) pe_non (nomark _)) pe_no (pv 2)) rfl)
    (pss_cons (ps_fld (pv 0) pe_dnewK rfl)
    (pss_cons (ps_fld (pv 0) (pe_lst pa_nil) rfl)
    (pss_cons (ps_fld (pv 0) pe_int rfl)
    (pss_one (ps_fld (pv 0) (pe_op op_rep (pe_lst (pa_cons pe_int pa_nil)) (pe_callB (call_lenI Fl hl1 hl2 hl3 pass0 (hr.mono (by decide))) (by rfl) B.len (by decide +kernel) (pa_cons (pe_fld (pv 0) rfl) pa_nil))) rfl))))))))), ?_⟩
    obtain ⟨bx, bd, L', b1, b2, b3⟩ := id (hB.same (cut_same _ _))
    obtain ⟨jx, jt, jkd, j1, j2, j3, j4, j5, j6, j7⟩ := id (hJ.same (cut_same _ _))
    obtain ⟨bx2, bd2, L2', g1, g2, g3⟩ := id j2
    refine ⟨_, rfl, _, _, _, _, true, rfl, ClsV.own _, bk _ _ _ _ b1, (by show PySem.W.kitOne _ _ _ = _; unfold PySem.W.kitOne; rw [if_pos (by simp)]), _, rfl, iteF ?_⟩
    refine ⟨_, rfl, rfl, _, rfl, iteT ?_⟩
    refine ⟨_, rfl, _, _, _, _, true, rfl, ClsV.own _, jk _ _ _ _ j1, (by show PySem.W.kitOne _ _ _ = _; unfold PySem.W.kitOne; rw [if_pos (by simp)]), _, rfl, iteF ?_⟩
    refine ⟨_, rfl, j, c.CJ, jx, _, _, rfl, j1, TJ.cl, TJ.nB, jf_b _ _ _, _, rfl, ?_⟩
    refine ⟨bj, b, bx2, bx, _, _, rfl, rfl, g1, b1, bj, b, L, L, rfl, j2, hB.same (cut_same _ _), .inl ⟨fun _ => rfl, fun H1 ex => ⟨true, rfl, ⟨_, rfl, iteF ?_⟩⟩⟩⟩
    have s1 : Same H H1 := ex
    have ho1 := s1 _ _ ho
    have njo : j ≠ o := fun z => by
      obtain ⟨_, _, _, h, _⟩ := hJ
      exact (cut_of h).1 (z ▸ hBo)
    refine ⟨_, rfl, _, rfl, o, c.CO, dx, [], rfl, ho1, T.cl, T.nB, (by show 0 < 1000; decide), ?_⟩
    have k2 : ∀ q y, H q = some y → q ≠ o → (upd H1 o (.ins c.CO dx (putF "_book" (.ref b) []))) q = some y := fun q y h n => by rw [upd_ne n]; exact s1 _ _ h
    have o2 : (upd H1 o (.ins c.CO dx (putF "_book" (.ref b) []))) o = some (.ins c.CO dx (putF "_book" (.ref b) [])) := upd_same
    generalize (upd H1 o (.ins c.CO dx (putF "_book" (.ref b) []))) = H2 at k2 o2 ⊢
    refine ⟨_, rfl, rfl, _, rfl, iteF ⟨_, rfl, _, rfl, o, c.CO, dx, _, rfl, o2, T.cl, T.nJ, (by show 1 < 1000; decide), ?_⟩⟩
    have k3 : ∀ q y, H q = some y → q ≠ o → (upd H2 o (.ins c.CO dx (putF "journal" (.ref j) (putF "_book" (.ref b) [])))) q = some y := fun q y h n => by rw [upd_ne n]; exact k2 _ _ h n
    have o3 : (upd H2 o (.ins c.CO dx (putF "journal" (.ref j) (putF "_book" (.ref b) [])))) o = some (.ins c.CO dx (putF "journal" (.ref j) (putF "_book" (.ref b) []))) := upd_same
    generalize (upd H2 o (.ins c.CO dx (putF "journal" (.ref j) (putF "_book" (.ref b) [])))) = H3 at k3 o3 ⊢
    intro dd ndd
    have ndo : dd ≠ o := fun z => by rw [z, o3] at ndd; cases ndd
    have d0 : H dd = none := by
      cases e : H dd with
      | none => rfl
      | some y => rw [k3 _ _ e ndo] at ndd; cases ndd
    refine ⟨_, rfl, o, c.CO, dx, _, rfl, (by rw [upd_ne ndo.symm]; exact o3), T.cl, T.nD, (by show 2 < 1000; decide), ?_⟩
    have k5 : ∀ q y, H q = some y → q ≠ o → (upd (upd H3 dd (.dK [])) o (.ins c.CO dx (putF "_drafts" (.ref dd) (putF "journal" (.ref j) (putF "_book" (.ref b) []))))) q = some y := fun q y h n => by rw [upd_ne n, upd_ne (ne_of_none h d0)]; exact k3 _ _ h n
    have o5 : (upd (upd H3 dd (.dK [])) o (.ins c.CO dx (putF "_drafts" (.ref dd) (putF "journal" (.ref j) (putF "_book" (.ref b) []))))) o = some (.ins c.CO dx (putF "_drafts" (.ref dd) (putF "journal" (.ref j) (putF "_book" (.ref b) [])))) := upd_same
    have d5 : (upd (upd H3 dd (.dK [])) o (.ins c.CO dx (putF "_drafts" (.ref dd) (putF "journal" (.ref j) (putF "_book" (.ref b) []))))) dd = some (.dK []) := by rw [upd_ne ndo]; exact upd_same
    generalize (upd (upd H3 dd (.dK [])) o (.ins c.CO dx (putF "_drafts" (.ref dd) (putF "journal" (.ref j) (putF "_book" (.ref b) []))))) = H5 at k5 o5 d5 ⊢
    refine ⟨(by show 0 ≤ sizeLine; decide), fun pa npa => ?_⟩
    have npo : pa ≠ o := fun z => by rw [z, o5] at npa; cases npa
    have npd : dd ≠ pa := fun z => by rw [← z, d5] at npa; cases npa
    have p0 : H pa = none := by
      cases e : H pa with
      | none => rfl
      | some y => rw [k5 _ _ e npo] at npa; cases npa
    refine ⟨_, rfl, o, c.CO, dx, _, rfl, (by rw [upd_ne npo.symm]; exact o5), T.cl, T.nP, (by show 3 < 1000; decide), ?_⟩
    have k7 : ∀ q y, H q = some y → q ≠ o → (upd (upd H5 pa (.lst [])) o (.ins c.CO dx (putF "_past" (.ref pa) (putF "_drafts" (.ref dd) (putF "journal" (.ref j) (putF "_book" (.ref b) [])))))) q = some y := fun q y h n => by rw [upd_ne n, upd_ne (ne_of_none h p0)]; exact k5 _ _ h n
    have o7 : (upd (upd H5 pa (.lst [])) o (.ins c.CO dx (putF "_past" (.ref pa) (putF "_drafts" (.ref dd) (putF "journal" (.ref j) (putF "_book" (.ref b) [])))))) o = some (.ins c.CO dx (putF "_past" (.ref pa) (putF "_drafts" (.ref dd) (putF "journal" (.ref j) (putF "_book" (.ref b) []))))) := upd_same
    have d7 : (upd (upd H5 pa (.lst [])) o (.ins c.CO dx (putF "_past" (.ref pa) (putF "_drafts" (.ref dd) (putF "journal" (.ref j) (putF "_book" (.ref b) [])))))) dd = some (.dK []) := by rw [upd_ne ndo, upd_ne npd]; exact d5
    have p7 : (upd (upd H5 pa (.lst [])) o (.ins c.CO dx (putF "_past" (.ref pa) (putF "_drafts" (.ref dd) (putF "journal" (.ref j) (putF "_book" (.ref b) [])))))) pa = some (.lst []) := by rw [upd_ne npo]; exact upd_same
    generalize (upd (upd H5 pa (.lst [])) o (.ins c.CO dx (putF "_past" (.ref pa) (putF "_drafts" (.ref dd) (putF "journal" (.ref j) (putF "_book" (.ref b) [])))))) = H7 at k7 o7 d7 p7 ⊢
    refine ⟨_, rfl, o, c.CO, dx, _, rfl, o7, T.cl, T.nC, (by show 4 < 1000; decide), ?_⟩
    have k8 : ∀ q y, H q = some y → q ≠ o → (upd H7 o (.ins c.CO dx (putF "_closes" (.int 0) (putF "_past" (.ref pa) (putF "_drafts" (.ref dd) (putF "journal" (.ref j) (putF "_book" (.ref b) []))))))) q = some y := fun q y h n => by rw [upd_ne n]; exact k7 _ _ h n
    have o8 : (upd H7 o (.ins c.CO dx (putF "_closes" (.int 0) (putF "_past" (.ref pa) (putF "_drafts" (.ref dd) (putF "journal" (.ref j) (putF "_book" (.ref b) []))))))) o = some (.ins c.CO dx (putF "_closes" (.int 0) (putF "_past" (.ref pa) (putF "_drafts" (.ref dd) (putF "journal" (.ref j) (putF "_book" (.ref b) [])))))) := upd_same
    have d8 : (upd H7 o (.ins c.CO dx (putF "_closes" (.int 0) (putF "_past" (.ref pa) (putF "_drafts" (.ref dd) (putF "journal" (.ref j) (putF "_book" (.ref b) []))))))) dd = some (.dK []) := by rw [upd_ne ndo]; exact d7
    have p8 : (upd H7 o (.ins c.CO dx (putF "_closes" (.int 0) (putF "_past" (.ref pa) (putF "_drafts" (.ref dd) (putF "journal" (.ref j) (putF "_book" (.ref b) []))))))) pa = some (.lst []) := by rw [upd_ne npo]; exact p7
    generalize (upd H7 o (.ins c.CO dx (putF "_closes" (.int 0) (putF "_past" (.ref pa) (putF "_drafts" (.ref dd) (putF "journal" (.ref j) (putF "_book" (.ref b) []))))))) = H8 at k8 o8 d8 p8 ⊢
    refine ⟨(by show 1 ≤ sizeLine; decide), fun p1 np1 => ?_⟩
    have s9 : Same H8 (upd H8 p1 (.lst [.int 0])) := sameAt (Same.refl _) np1
    have k9 : ∀ q y, H q = some y → q ≠ o → (upd H8 p1 (.lst [.int 0])) q = some y := fun q y h n => s9 _ _ (k8 _ _ h n)
    have J9 : JAt c.K c.aT c.CJ c.CB (upd H8 p1 (.lst [.int 0])) j bj L us xs := hJ.same fun q y h => by
      obtain ⟨n1, n2⟩ := cut_of h
      exact k9 _ _ n2 fun z => n1 (z ▸ hBo)
    obtain ⟨jx9, jt9, jk9, j91, _⟩ := id J9
    refine ⟨_, rfl, o, c.CO, dx, _, _, rfl, s9 _ _ o8, T.cl, T.nJ, rfl, j, jx9, _, rfl, j91, j, bj, L, us, xs, rfl, J9, us.length, rfl, by omega, p1, _, _, rfl, rfl, upd_same, by omega, by omega, (by show 1 * ((us.length : Int).toNat) ≤ _; rw [Int.toNat_natCast, Nat.one_mul]; exact Nat.le_of_lt (small1000 (by omega))), fun p2 np2 => ?_⟩
    rw [Int.toNat_natCast, flat_rep]
    have o9 := s9 _ _ o8
    have d9 := s9 _ _ d8
    have p9 := s9 _ _ p8
    generalize (upd H8 p1 (.lst [.int 0])) = H9 at np2 k9 o9 d9 p9 ⊢
    have n2o : p2 ≠ o := fun z => by rw [z, o9] at np2; cases np2
    have n2d : dd ≠ p2 := fun z => by rw [← z, d9] at np2; cases np2
    have n2p : pa ≠ p2 := fun z => by rw [← z, p9] at np2; cases np2
    have p20 : H p2 = none := by
      cases e : H p2 with
      | none => rfl
      | some y => rw [k9 _ _ e n2o] at np2; cases np2
    refine ⟨_, rfl, o, c.CO, dx, _, rfl, (by rw [upd_ne n2o.symm]; exact o9), T.cl, T.nY, (by show 5 < 1000; decide), ?_⟩
    have k11 : ∀ q y, H q = some y → q ≠ o → (upd (upd H9 p2 (.lst (List.replicate us.length (.int 0)))) o (.ins c.CO dx (ofF b j dd pa 0 p2))) q = some y := fun q y h n => by rw [upd_ne n, upd_ne (ne_of_none h p20)]; exact k9 _ _ h n
    have hA : ∀ q, (q = o ∨ q = dd ∨ q = pa ∨ q = p2) → q = o ∨ H q = none := fun q hq => by
      rcases hq with rfl | rfl | rfl | rfl
      · exact .inl rfl
      · exact .inr d0
      · exact .inr p0
      · exact .inr p20
    have cs : Same (cutH B' H) (cutH (uni B' fun q => q = o ∨ q = dd ∨ q = pa ∨ q = p2) (upd (upd H9 p2 (.lst (List.replicate us.length (.int 0)))) o (.ins c.CO dx (ofF b j dd pa 0 p2)))) := cut_step (fun q y h n => k11 q y h fun z => n (z ▸ hBo)) fun q hq => hq.elim .inl fun h => (hA q h).imp (fun z : q = o => by rw [z]; exact hBo) id
    refine q ⟨o, dx, b, j, bj, dd, pa, p2⟩ (fun q => q = o ∨ q = dd ∨ q = pa ∨ q = p2) _ rfl rfl rfl rfl k11 hA ?_
    refine ⟨upd_same, by rw [upd_ne ndo, upd_ne n2d]; exact d9, by rw [upd_ne npo, upd_ne n2p]; exact p9, ?_, .inl rfl, .inr (.inl rfl), .inr (.inr (.inl rfl)), .inr (.inr (.inr rfl)), fun q h => .inr h, fun q hq => ?_, n2p, hB.same cs, hJ.same cs, h4, (fun d hd => nomatch hd), List.Pairwise.nil, List.Pairwise.nil, List.length_replicate, List.pairwise_singleton _ _⟩
    · show (upd (upd H9 p2 (.lst (List.replicate us.length (.int 0)))) o (.ins c.CO dx (ofF b j dd pa 0 p2))) p2 = some (.lst ((List.replicate xs.length (0 : Int)).map V.int))
      rw [upd_ne n2o, upd_same, List.map_replicate, j4]
    · by_cases q1 : q = o
      · subst q1; exact ⟨_, upd_same, rfl⟩
      by_cases q2 : q = p2
      · subst q2; exact ⟨.lst (List.replicate us.length (.int 0)), by rw [upd_ne q1, upd_same], trivial⟩
      rcases hq with hq | rfl | rfl | rfl | rfl
      · obtain ⟨u, e, m⟩ := hBT q hq
        exact ⟨u, k11 _ _ e q1, m⟩
      · exact absurd rfl q1
      · exact ⟨.dK [], by rw [upd_ne q1, upd_ne q2]; exact d9, trivial⟩
      · exact ⟨.lst [], by rw [upd_ne q1, upd_ne q2]; exact p9, trivial⟩
      · exact absurd rfl q2
end
end Ash

set_option Elab.async false
set_option linter.all false
set_option maxRecDepth 100000
set_option maxHeartbeats 4000000
namespace L2
open PySem PySem.Spec PyProof.Rows
/-! ### several except clauses, each with a name or without -/
abbrev Clause := Value × Option Nat × (Addr → Value → Option Addr → TS)
/-- behind a suite its name is gone -/
def endAs (i : Nat) (D : Ends) : Ends := { nx := fun σ H => D.nx (σ.set i none) H, rt := D.rt, bk := fun σ H => D.bk (σ.set i none) H, ct := fun σ H => D.ct (σ.set i none) H }
def clGo (D : Ends) : Option Nat → (Addr → Value → Option Addr → TS) → WX
  | none, ts => fun cls d σ H => ∀ q, H q = none → ts q cls d D σ H
  | some i, ts => fun cls d σ H => ∀ q, H q = none → ts q cls d (endAs i D) (σ.set i (some (.ref q))) H
def wCls (K : PySem.W.Frag) (W0 : WX) (D : Ends) : List Clause → WX
  | [] => W0
  | (c, o, ts) :: r => fun cls d σ H => ∃ b, PySem.W.exmOne K cls c = some b ∧ (b = true → clGo D o ts cls d σ H) ∧ (b = false → wCls K W0 D r cls d σ H)
/-- the name of a clause -/
def ClName (X : Cx) : Option Str → Option Nat → Prop
  | none, none => True
  | some n, some i => X.N[i]? = some n ∧ X.env.kindOf n = some .local
  | _, _ => False
inductive ClsOk (X : Cx) : List ExceptHandler → List Clause → Prop
  | nil : ClsOk X [] []
  | cons {x : Str} {n : Option Str} {o : Option Nat} {c : Value} {ts : Addr → Value → Option Addr → TS} {b0 : Stmt} {su : List Stmt} {p1 p2 : Pos} {hs : List ExceptHandler} {l : List Clause} (hc : Names X x c) (hn : ClName X n o)
      (hsu : ∀ (q : Addr) (oe : Obj) (cls : Value) (d : Option Addr) (pn : List (Addr × Obj)), Zc cls d oe → (∃ vs, oe.data = .fields vs) → PSs (X.suite q ((q, oe) :: pn)) (b0 :: su) (ts q cls d)) (r : ClsOk X hs l) :
      ClsOk X (.ExceptHandler (some (.Name x p1)) n (b0 :: su) p2 :: hs) ((c, o, ts) :: l)
section
variable {X : Cx} {body : List Stmt} {h0 : ExceptHandler} {hs : List ExceptHandler} {l : List Clause} {pos : Pos} {tb : WX → TS} {W0 : WX}
theorem ps_try_cls (st : X.stack = X.env :: X.outer) (fr : X.env.frame = some X.env.locals) (nd : X.N.Nodup) (tk : Takes X W0)
    (hb : ∀ (W : WX) (pn : List (Addr × Obj)) (xe : Value → Shared → Prop), Takes (X.tr pn xe) W → PassesOwn (model X.prog X.w) X.A X.env xe → PSs (X.tr pn xe) body (tb W))
    (hh : ClsOk X (h0 :: hs) l) : PS X (.Try body (h0 :: hs) [] [] pos) (fun D σ H => tb (wCls X.K W0 D l) D σ H) := by
  refine ⟨fun pins s σ H D I h => ?_⟩
  have ok := I.ok
  have fA : X.A.frames = some (X.env :: X.outer) := by rw [ok.frames, st]
  refine wpAny_Try_except (wpAny_mono ((hb (wCls X.K W0 D l) (X.pn ++ pins) (fun e s1 => wpAny (model X.prog X.w) X.A (noteFrame e X.env) (fun _ s2 => wpAny (model X.prog X.w) X.A (setFlight e none) (fun _ s3 => wpAny (model X.prog X.w) X.A (handleBy e X.env (h0 :: hs)) (SP X pins D) X.xe s3) X.xe s2) X.xe s1)
    (fun u s' xx => ?_) PassesOwn.looking).run [] s σ H D (I.toTry _) h) (fun f s1 k => ?_) (fun _ _ he => he))
  · obtain ⟨q, M, t0, pins', τ, G, cls, d, rfl, J', nb, up, sky, nq, os, ag, w⟩ := xx
    have J : Inv X pins τ G t0 := J'.ofTry ok
    have sk : Sky M (X.env :: X.outer) q (Zc cls d) X.env.locals s'.heap := st ▸ sky
    refine (show wpAny (model X.prog X.w) X.A (noteFrame (.ref q) X.env) _ _ _ from Sky.land Zc.steady fA fr sk fun g3 f3 u3 => ?_)
    have J3 : Inv X pins τ G { s' with heap := g3 } := J.landed nb f3.1 (up.trans u3) os ag
    obtain ⟨oe3, vs3, he3, hz3, hd3⟩ := f3.there
    have off : ∀ {g : Heap} {o : Obj} {vs : Array Value}, g.FunFrames M (X.env :: X.outer) → g.get? q = some o → o.data = .fields vs → q ∉ frs (X.env :: X.outer) := fun {g o vs} ff e dd hm => by
      obtain ⟨_, o2, e2, hnf⟩ := ff.mem hm
      rw [e] at e2
      cases e2
      exact hnf _ dd
    have nfr := off f3.2.2.1 he3 hd3
    have nL : q ≠ X.env.locals := fun z => nfr (List.mem_filterMap.mpr ⟨X.env, List.mem_cons_self, fr.trans (congrArg some z.symm)⟩)
    have nF : q ∉ X.fs := fun hm => by
      obtain ⟨e, he, z⟩ := List.mem_filterMap.mp hm
      exact nfr (List.mem_filterMap.mpr ⟨e, List.mem_cons_of_mem _ he, z⟩)
    have S3 := J3.suite he3 hd3 nq nL nF
    have go : ∀ {ks : List ExceptHandler} {ls : List Clause}, ClsOk X ks ls → wCls X.K W0 D ls cls d τ G → wpAny (model X.prog X.w) X.A (handleBy (.ref q) X.env ks) (SP X pins D) X.xe { s' with heap := g3 } := by
      intro ks ls hk
      induction hk with
      | nil =>
        intro w
        refine wpAny_handleBy_nil ?_
        obtain ⟨_, _, _, oe, vs, T, oT, ts', he, hz, hd, h1, hr⟩ := id f3
        unfold PySem.passOn
        refine wpAny_bind (wpAny_field he hd h1 ?_)
        rw [if_neg (show ¬ ((Value.ref T == Value.none) = true) from Bool.false_ne_true)]
        have fin : wpAny (model X.prog X.w) X.A (setFlight (.ref q) X.env.frame) (fun _ s4 => wpAny (model X.prog X.w) X.A (throw (.ref q) : Sem Flow) (SP X pins D) X.xe s4) X.xe { s' with heap := g3 } := by
          rw [fr]
          exact HandSPX.setFlight_upZ f3 fun g4 k4 u4 => wpAny_throw (tk _ _ ⟨q, M, t0, pins, τ, G, cls, d, rfl, J, nb, (up.trans u3).trans u4, .inr (.inr (by rw [st]; exact k4)), nq, os, ag, w⟩)
        first
          | exact wpAny_bind (wpAny_pure (wpAny_bind fin))
          | exact wpAny_bind fin
      | @cons x n o c ts b0 su p1 p2 ks2 l2 hc hn hsu r ih =>
        intro w
        obtain ⟨b, b1, yes, no⟩ := w
        refine wpAny_handleBy_cons (codeAny_handlers_test ?_) (by intro z; cases z)
        have LM := PySem.W.exm_one (M := model X.prog X.w) (J3.kIn) (show PySem.W.Looks (model X.prog X.w) g3 (typeOf (.ref q)) cls from fun A Q E s k z => wpAny_typeOf_ref (k _ _ he3) (by rw [hz3.1]; exact z)) b1
        have test : ∀ {Q E : Value → Shared → Prop}, Q c { s' with heap := g3 } → wpAny (model X.prog X.w) (X.A.mark (some (.ref q))) (eval (.Name x p1) X.env) Q E { s' with heap := g3 } := fun {Q E} z => by
          obtain ⟨e1, e2, e3 | ⟨e3, e4, e5⟩⟩ := hc
          · exact ld_glob (X := X.suite q ((q, oe3) :: (X.pn ++ pins))) S3 e1 e3 z e2
          · exact ld_blt (X := X.suite q ((q, oe3) :: (X.pn ++ pins))) S3 e1 e3 e4 z e5 e2
        refine test (LM.here ?_)
        cases b with
        | false => exact (show wpAny _ X.A (handleBy (.ref q) X.env ks2) _ _ _ from ih (no rfl))
        | true =>
          have yes := yes rfl
          match n, o, hn with
          | none, none, _ =>
            refine codeAny_handlers_suite (HandSPX.lands_againZ f3 fun g4 f4 u4 => ?_)
            have J4 : Inv X pins τ G { s' with heap := g4 } := J.landed nb f4.1 ((up.trans u3).trans u4) os ag
            obtain ⟨oe4, vs4, he4, hz4, hd4⟩ := f4.there
            refine wpAny_mono ((hsu q oe4 cls d (X.pn ++ pins) hz4 ⟨_, hd4⟩).run [] _ _ G _ (J4.suite he4 hd4 nq nL nF) (yes q nq)) (fun f s6 k => ?_) (fun _ _ z => False.elim z)
            cases f with
            | ret u =>
              obtain ⟨v6, σ6, H6, S6, r6, q6⟩ := k
              exact ⟨_, _, _, S6.unsuite ok, r6, q6⟩
            | _ =>
              obtain ⟨σ6, H6, S6, q6⟩ := k
              exact ⟨_, _, S6.unsuite ok, q6⟩
          | some n, some i, ⟨hi, hln⟩ =>
            refine codeAny_handlers_suite_as (HandSPX.lands_againZ f3 fun g4 f4 u4 => ?_)
            have J4 : Inv X pins τ G { s' with heap := g4 } := J.landed nb f4.1 ((up.trans u3).trans u4) os ag
            obtain ⟨oe4, vs4, he4, hz4, hd4⟩ := f4.there
            have S4 := J4.suite he4 hd4 nq nL nF
            refine store_ok (X := X.suite q ((q, oe4) :: (X.pn ++ pins))) (v := .ref q) S4 nd hi (.inl hln) rfl (fun s5 S5 => ?_) (.inr hln)
            refine wpAny_mono ((hsu q oe4 cls d (X.pn ++ pins) hz4 ⟨_, hd4⟩).run [] s5 _ G _ S5 (yes q nq)) (fun f s6 k => ?_) (fun _ _ z => False.elim z)
            have out : ∀ {σ6 : St} {H6 : Hp} {Q : Shared → Prop}, Inv (X.suite q ((q, oe4) :: (X.pn ++ pins))) [] σ6 H6 s6 → (∀ s7, Inv X pins (σ6.set i none) H6 s7 → Q s7) → wpAny (model X.prog X.w) X.A (do bindName X.env n .none; unbindBehindTheSuite X.env n p2) (fun _ s7 => Q s7) X.xe s6 :=
              fun {σ6 H6 Q} S6 hq => gone_ok (S6.unsuite ok) nd hi hln hq
            cases f with
            | ret u =>
              obtain ⟨v6, σ6, H6, S6, r6, q6⟩ := k
              exact out S6 fun s7 J7 => ⟨_, _, _, J7, r6, q6⟩
            | _ =>
              obtain ⟨σ6, H6, S6, q6⟩ := k
              exact out S6 fun s7 J7 => ⟨_, _, J7, q6⟩
    exact go hh w
  · cases f with
    | next =>
      obtain ⟨τ, G, J', z⟩ := k
      exact wpAny_execs_nil ⟨τ, G, J'.ofTry ok, z⟩
    | ret u =>
      obtain ⟨v, τ, G, J', r, z⟩ := k
      exact ⟨v, τ, G, J'.ofTry ok, r, z⟩
    | _ =>
      obtain ⟨τ, G, J', z⟩ := k
      exact ⟨τ, G, J'.ofTry ok, z⟩
end
end L2

set_option Elab.async false
set_option linter.all false
set_option maxRecDepth 100000
set_option maxHeartbeats 4000000
namespace Ash
open PySem PySem.Spec PyProof.Rows L2
open C8 (pss_cut)
/-! ### the law's calls of an office -/
structure Errs where
  CI : Addr
  CY : Addr
  CS : Addr
  CE : Addr
  CM : Addr
  CN : Addr
  CT : Addr
theorem atI_zero (v : V) (l : List V) : atI (v :: l) 0 = some v := atI_natC (xs := v :: l) (j := 0) (Nat.succ_pos _)
def calledB (c : Cls6) (e : Errs) (o : Addr) (wh : Int) (gs : List V) (H : Hp) (Q : VK) (E : XK) : Prop :=
  (wh = 0 ∧ ∃ v gs', gs = v :: gs' ∧ spBeginO c e.CN e.CY [.ref o, v] H Q E) ∨
  (wh = 1 ∧ ∃ v n s k m am, gs = [v, n, s, k, m, am] ∧ spRowO c e.CI e.CE [.ref o, v, n, s, k, m, am] H Q E) ∨
  (wh = 2 ∧ ∃ v n m am, gs = [v, n, m, am] ∧ spFixO c e.CI e.CE [.ref o, v, n, m, am] H Q E) ∨
  (wh = 3 ∧ ∃ v n, gs = [v, n] ∧ spGoneO c e.CI e.CE [.ref o, v, n] H Q E) ∨
  (wh = 4 ∧ ∃ v gs', gs = v :: gs' ∧ spDropO c e.CI [.ref o, v] H Q E) ∨
  (wh = 5 ∧ spUndoO c e.CT [.ref o] H Q E) ∨
  (wh = 6 ∧ ∃ v r, gs = [v, r] ∧ spCloseO c e.CI e.CM e.CS e.CE [.ref o, v, r] H Q E) ∨
  (wh = 7 ∧ ∃ v gs', gs = v :: gs' ∧ spTellO c e.CI [.ref o, v] H Q E)
def spCalled (c : Cls6) (e : Errs) : Sp := fun vs H Q E => ∃ (a : OA) (cl wh : Int) (g : Addr) (gs : List V), vs = [.int wh, .ref a.o, .ref g] ∧ H a.o = some (.ins c.CO a.dx (ofF a.b a.j a.dd a.pa cl a.cb)) ∧ H g = some (.tup gs) ∧ calledB c e a.o wh gs H Q E
section
variable {c : Cls6} {e : Errs} {CI CY CS CE CM CN CT : Addr} {vs : List V} {H : Hp} {Q Q' : VK} {E E' : XK}
theorem mono_begin (h : spBeginO c CN CY vs H Q E) (hq : ∀ v H', Q v H' → Q' v H') (he : ∀ x d H', E x d H' → E' x d H') : spBeginO c CN CY vs H Q' E' := by
  obtain ⟨B, A, a, S, v, e, M, hv, l, q1, q2, q3⟩ := h
  exact ⟨B, A, a, S, v, e, M, hv, l, fun _ _ _ _ _ z1 z2 z3 z4 z5 z6 => hq _ _ (q1 _ _ _ _ _ z1 z2 z3 z4 z5 z6), fun _ _ _ z1 z2 z3 => he _ _ _ (q2 _ _ _ z1 z2 z3), fun _ _ z1 z2 z3 => he _ _ _ (q3 _ _ z1 z2 z3)⟩
theorem mono_out {B A : Addr → Prop} {a : OA} {S : OS} {v : V} {x : Ent} (h : PutOut c CI CE B A H a S v x Q E) (hq : ∀ v H', Q v H' → Q' v H') (he : ∀ x d H', E x d H' → E' x d H') : PutOut c CI CE B A H a S v x Q' E' :=
  ⟨fun _ _ z1 z2 z3 z4 z5 => hq _ _ (h.1 _ _ z1 z2 z3 z4 z5), fun _ _ _ z1 z2 z3 z4 => he _ _ _ (h.2.1 _ _ _ z1 z2 z3 z4), fun _ _ z1 z2 z3 => he _ _ _ (h.2.2 _ _ z1 z2 z3)⟩
theorem mono_row (h : spRowO c CI CE vs H Q E) (hq : ∀ v H', Q v H' → Q' v H') (he : ∀ x d H', E x d H' → E' x d H') : spRowO c CI CE vs H Q' E' := by
  obtain ⟨B, A, a, S, v, n, s, k, m, am, e, M, hv, ok, q⟩ := h
  exact ⟨B, A, a, S, v, n, s, k, m, am, e, M, hv, ok, mono_out q hq he⟩
theorem mono_fix (h : spFixO c CI CE vs H Q E) (hq : ∀ v H', Q v H' → Q' v H') (he : ∀ x d H', E x d H' → E' x d H') : spFixO c CI CE vs H Q' E' := by
  obtain ⟨B, A, a, S, v, n, m, am, e, M, hv, ok, q⟩ := h
  exact ⟨B, A, a, S, v, n, m, am, e, M, hv, ok, mono_out q hq he⟩
theorem mono_gone (h : spGoneO c CI CE vs H Q E) (hq : ∀ v H', Q v H' → Q' v H') (he : ∀ x d H', E x d H' → E' x d H') : spGoneO c CI CE vs H Q' E' := by
  obtain ⟨B, A, a, S, v, n, e, M, hv, ok, q⟩ := h
  exact ⟨B, A, a, S, v, n, e, M, hv, ok, mono_out q hq he⟩
theorem mono_drop (h : spDropO c CI vs H Q E) (hq : ∀ v H', Q v H' → Q' v H') (he : ∀ x d H', E x d H' → E' x d H') : spDropO c CI vs H Q' E' := by
  obtain ⟨B, A, a, S, v, e, M, hv, q1, q2⟩ := h
  exact ⟨B, A, a, S, v, e, M, hv, fun _ _ z1 z2 z3 => hq _ _ (q1 _ _ z1 z2 z3), fun _ _ z1 z2 z3 => he _ _ _ (q2 _ _ z1 z2 z3)⟩
theorem mono_tell (h : spTellO c CI vs H Q E) (hq : ∀ v H', Q v H' → Q' v H') (he : ∀ x d H', E x d H' → E' x d H') : spTellO c CI vs H Q' E' := by
  obtain ⟨B, A, a, S, v, e, M, hv, q1, q2⟩ := h
  exact ⟨B, A, a, S, v, e, M, hv, fun _ _ _ _ z1 z2 z3 z4 z5 => hq _ _ (q1 _ _ _ _ z1 z2 z3 z4 z5), fun _ _ z1 z2 z3 => he _ _ _ (q2 _ _ z1 z2 z3)⟩
theorem mono_undo (h : spUndoO c CT vs H Q E) (hq : ∀ v H', Q v H' → Q' v H') (he : ∀ x d H', E x d H' → E' x d H') : spUndoO c CT vs H Q' E' := by
  obtain ⟨B, A, a, S, e, M, q1, q2⟩ := h
  exact ⟨B, A, a, S, e, M, fun _ z1 z2 => he _ _ _ (q1 _ z1 z2), fun _ _ _ _ z1 z2 z3 => hq _ _ (q2 _ _ _ _ z1 z2 z3)⟩
theorem mono_close (h : spCloseO c CI CM CS CE vs H Q E) (hq : ∀ v H', Q v H' → Q' v H') (he : ∀ x d H', E x d H' → E' x d H') : spCloseO c CI CM CS CE vs H Q' E' := by
  obtain ⟨B, A, a, S, v, r, e, M, hv, hr, l, q1, q2, q3, q4, q5⟩ := h
  exact ⟨B, A, a, S, v, r, e, M, hv, hr, l, fun _ _ z1 z2 z3 => he _ _ _ (q1 _ _ z1 z2 z3), fun _ _ _ z1 z2 z3 z4 => he _ _ _ (q2 _ _ _ z1 z2 z3 z4), fun _ _ _ _ _ z1 z2 z3 z4 z5 => he _ _ _ (q3 _ _ _ _ _ z1 z2 z3 z4 z5), fun _ _ _ _ _ z1 z2 z3 z4 z5 z6 => he _ _ _ (q4 _ _ _ _ _ z1 z2 z3 z4 z5 z6), fun _ _ _ _ _ z1 z2 z3 z4 z5 z6 z7 => hq _ _ (q5 _ _ _ _ _ z1 z2 z3 z4 z5 z6 z7)⟩
theorem mono_called {o : Addr} {wh : Int} {gs : List V} (h : calledB c e o wh gs H Q E) (hq : ∀ v H', Q v H' → Q' v H') (he : ∀ x d H', E x d H' → E' x d H') : calledB c e o wh gs H Q' E' := by
  rcases h with ⟨h, v, g, h2, q⟩ | ⟨h, v, n, s, k, m, am, h2, q⟩ | ⟨h, v, n, m, am, h2, q⟩ | ⟨h, v, n, h2, q⟩ | ⟨h, v, g, h2, q⟩ | ⟨h, q⟩ | ⟨h, v, r, h2, q⟩ | ⟨h, v, g, h2, q⟩
  · exact .inl ⟨h, v, g, h2, mono_begin q hq he⟩
  · exact .inr (.inl ⟨h, v, n, s, k, m, am, h2, mono_row q hq he⟩)
  · exact .inr (.inr (.inl ⟨h, v, n, m, am, h2, mono_fix q hq he⟩))
  · exact .inr (.inr (.inr (.inl ⟨h, v, n, h2, mono_gone q hq he⟩)))
  · exact .inr (.inr (.inr (.inr (.inl ⟨h, v, g, h2, mono_drop q hq he⟩))))
  · exact .inr (.inr (.inr (.inr (.inr (.inl ⟨h, mono_undo q hq he⟩)))))
  · exact .inr (.inr (.inr (.inr (.inr (.inr (.inl ⟨h, v, r, h2, mono_close q hq he⟩))))))
  · exact .inr (.inr (.inr (.inr (.inr (.inr (.inr ⟨h, v, g, h2, mono_tell q hq he⟩))))))
end
/-- what a told thing, a told error is -/
def toldQ (Q : VK) : VK := fun v H => ∀ t, H t = none → Q (.ref t) (upd H t (.tup [.str "told", v]))
def Errs.tab (e : Errs) : List (Addr × Str × Str) := [(e.CI, "idle", "writer"), (e.CY, "busy", "writer"), (e.CS, "stale", "id"), (e.CE, "entry", "at"), (e.CM, "moment", "value"), (e.CN, "name", "value")]
def toldE (e : Errs) (Q : VK) : XK := fun cls d H => (∃ C nm fl dd v, (C, nm, fl) ∈ e.tab ∧ cls = .ref C ∧ d = some dd ∧ H dd = some (.xd [(fl, v)]) ∧ ∀ t, H t = none → Q (.ref t) (upd H t (.tup [.str nm, v]))) ∨
  (cls = .ref e.CT ∧ ∀ t, H t = none → Q (.ref t) (upd H t (.tup [.str "nothing"])))
def spDone (c : Cls6) (e : Errs) : Sp := fun vs H Q _ => ∃ (a : OA) (cl wh : Int) (g : Addr) (gs : List V), vs = [.int wh, .ref a.o, .ref g] ∧ H a.o = some (.ins c.CO a.dx (ofF a.b a.j a.dd a.pa cl a.cb)) ∧ H g = some (.tup gs) ∧ calledB c e a.o wh gs H (toldQ Q) (toldE e Q)
section
variable {P : Program} {w : World} {mg : Str → Option Value} {base : Heap} {c : Cls6} {e : Errs} {fI fY fS fE fM fN : Addr}
structure GC (P : Program) (w : World) (mg : Str → Option Value) (base : Heap) (c : Cls6) (e : Errs) : Prop where
  T : Co c.K mg c.CO
  begin_ : Met P w c.K mg base (L2.CX P w) c.CO "begin" 3 ["self", "writer"] (spBeginO c e.CN e.CY)
  row : Met P w c.K mg base (L2.CX P w) c.CO "row" 5 ["self", "writer", "number", "stream", "key", "moment", "amount"] (spRowO c e.CI e.CE)
  fix : Met P w c.K mg base (L2.CX P w) c.CO "fix" 5 ["self", "writer", "number", "moment", "amount"] (spFixO c e.CI e.CE)
  gone : Met P w c.K mg base (L2.CX P w) c.CO "gone" 5 ["self", "writer", "number"] (spGoneO c e.CI e.CE)
  drop_ : Met P w c.K mg base (L2.CX P w) c.CO "drop" 3 ["self", "writer"] (spDropO c e.CI)
  undo : Met P w c.K mg base (L2.CX P w) c.CO "undo" 9 ["self"] (spUndoO c e.CT)
  close : Met P w c.K mg base (L2.CX P w) c.CO "close" 11 ["self", "writer", "arrival"] (spCloseO c e.CI e.CM e.CS e.CE)
  tell : Met P w c.K mg base (L2.CX P w) c.CO "draft" 3 ["self", "writer"] (spTellO c e.CI)
abbrev s_l_called : Stmt := topS 54
theorem sc_l_called : FnScope ["_law_which", "_law_office", "_law_given"] ["_law_which", "_law_office", "_law_given"] (defScope s_l_called) := ⟨rfl, rfl, rfl, by decide +kernel, rfl, by decide +kernel, by decide +kernel⟩
theorem ok_called {f : Addr} {fd : FuncData} (F : Fun c.K "_law_called" "_law_called" s_l_called f fd) (G : GC P w mg base c e) : FnOk P w c.K mg base (L2.CX P w) 12 f fd ["_law_which", "_law_office", "_law_given"] (spCalled c e) := by
  have T := G.T
  refine F.okX sc_l_called (fun vs H Q E h => ?_) (fun cdv A0 outer s H vs Q E hr h => ?_)
  · obtain ⟨a, cl, wh, g, gs, rfl, _⟩ := h
    rfl
  · obtain ⟨a, cl, wh, g, gs, rfl, ho, hg, q⟩ := h
    refine ⟨_, (pss_cons (ps_if (pt_cmpR op_eq (pv 0) pe_int (nomark _))
      (pss_one (ps_ret (pe_met T.cl G.begin_ (hr.mono (by decide)) (passE (takes_of rfl rfl rfl rfl)) (pv 1) (pa_cons (pe_ix ix_tup (pv 2) pe_int (fun _ _ => rfl)) pa_nil))))
      pss_nil)
    (pss_cons (ps_if (pt_cmpR op_eq (pv 0) pe_int (nomark _))
      (pss_one (ps_ret (pe_met T.cl G.row (hr.mono (by decide)) (passE (takes_of rfl rfl rfl rfl)) (pv 1) (pa_cons (pe_ix ix_tup (pv 2) pe_int (fun _ _ => rfl)) (pa_cons (pe_ix ix_tup (pv 2) pe_int (fun _ _ => rfl)) (pa_cons (pe_ix ix_tup (pv 2) pe_int (fun _ _ => rfl)) (pa_cons (pe_ix ix_tup (pv 2) pe_int (fun _ _ => rfl)) (pa_cons (pe_ix ix_tup (pv 2) pe_int (fun _ _ => rfl)) (pa_cons (pe_ix ix_tup (pv 2) pe_int (fun _ _ => rfl)) pa_nil)))))))))
      pss_nil)
    (pss_cons (ps_if (pt_cmpR op_eq (pv 0) pe_int (nomark _))
      (pss_one (ps_ret (pe_met T.cl G.fix (hr.mono (by decide)) (passE (takes_of rfl rfl rfl rfl)) (pv 1) (pa_cons (pe_ix ix_tup (pv 2) pe_int (fun _ _ => rfl)) (pa_cons (pe_ix ix_tup (pv 2) pe_int (fun _ _ => rfl)) (pa_cons (pe_ix ix_tup (pv 2) pe_int (fun _ _ => rfl)) (pa_cons (pe_ix ix_tup (pv 2) pe_int (fun _ _ => rfl)) pa_nil)))))))
      pss_nil)
    (pss_cons (ps_if (pt_cmpR op_eq (pv 0) pe_int (nomark _))
      (pss_one (ps_ret (pe_met T.cl G.gone (hr.mono (by decide)) (passE (takes_of rfl rfl rfl rfl)) (pv 1) (pa_cons (pe_ix ix_tup (pv 2) pe_int (fun _ _ => rfl)) (pa_cons (pe_ix ix_tup (pv 2) pe_int (fun _ _ => rfl)) pa_nil)))))
      pss_nil)
    (pss_cons (ps_if (pt_cmpR op_eq (pv 0) pe_int (nomark _))
      (pss_one (ps_ret (pe_met T.cl G.drop_ (hr.mono (by decide)) (passE (takes_of rfl rfl rfl rfl)) (pv 1) (pa_cons (pe_ix ix_tup (pv 2) pe_int (fun _ _ => rfl)) pa_nil))))
      pss_nil)
    (pss_cons (ps_if (pt_cmpR op_eq (pv 0) pe_int (nomark _))
      (pss_one (ps_ret (pe_met0 T.cl G.undo (hr.mono (by decide)) (passE (takes_of rfl rfl rfl rfl)) (pv 1))))
      pss_nil)
    (pss_cons (ps_if (pt_cmpR op_eq (pv 0) pe_int (nomark _))
      (pss_one (ps_ret (pe_met T.cl G.close (hr.mono (by decide)) (passE (takes_of rfl rfl rfl rfl)) (pv 1) (pa_cons (pe_ix ix_tup (pv 2) pe_int (fun _ _ => rfl)) (pa_cons (pe_ix ix_tup (pv 2) pe_int (fun _ _ => rfl)) pa_nil)))))
      pss_nil)
    (pss_one (ps_ret (pe_met T.cl G.tell (hr.mono (by decide)) (passE (takes_of rfl rfl rfl rfl)) (pv 1) (pa_cons (pe_ix ix_tup (pv 2) pe_int (fun _ _ => rfl)) pa_nil))))))))))), ?_⟩
    rcases q with ⟨rfl, v, gs', rfl, q⟩ | ⟨rfl, v, n, st, k, m, am, rfl, q⟩ | ⟨rfl, v, n, m, am, rfl, q⟩ | ⟨rfl, v, n, rfl, q⟩ | ⟨rfl, v, gs', rfl, q⟩ | ⟨rfl, q⟩ | ⟨rfl, v, r, rfl, q⟩ | ⟨rfl, v, gs', rfl, q⟩
    · exact ⟨_, rfl, rfl, _, rfl, iteT ⟨_, rfl, a.o, a.dx, _, rfl, ho, rfl, _, rfl, _, _, _, _, rfl, rfl, SqT.of hg, atI_zero v gs', q⟩⟩
    · exact ⟨_, rfl, rfl, _, rfl, iteF ⟨_, rfl, rfl, _, rfl, iteT ⟨_, rfl, a.o, a.dx, _, rfl, ho, rfl, _, rfl, _, _, _, _, rfl, rfl, SqT.of hg, rfl, _, rfl, _, _, _, _, rfl, rfl, SqT.of hg, rfl, _, rfl, _, _, _, _, rfl, rfl, SqT.of hg, rfl, _, rfl, _, _, _, _, rfl, rfl, SqT.of hg, rfl, _, rfl, _, _, _, _, rfl, rfl, SqT.of hg, rfl, _, rfl, _, _, _, _, rfl, rfl, SqT.of hg, rfl, q⟩⟩⟩
    · exact ⟨_, rfl, rfl, _, rfl, iteF ⟨_, rfl, rfl, _, rfl, iteF ⟨_, rfl, rfl, _, rfl, iteT ⟨_, rfl, a.o, a.dx, _, rfl, ho, rfl, _, rfl, _, _, _, _, rfl, rfl, SqT.of hg, rfl, _, rfl, _, _, _, _, rfl, rfl, SqT.of hg, rfl, _, rfl, _, _, _, _, rfl, rfl, SqT.of hg, rfl, _, rfl, _, _, _, _, rfl, rfl, SqT.of hg, rfl, q⟩⟩⟩⟩
    · exact ⟨_, rfl, rfl, _, rfl, iteF ⟨_, rfl, rfl, _, rfl, iteF ⟨_, rfl, rfl, _, rfl, iteF ⟨_, rfl, rfl, _, rfl, iteT ⟨_, rfl, a.o, a.dx, _, rfl, ho, rfl, _, rfl, _, _, _, _, rfl, rfl, SqT.of hg, rfl, _, rfl, _, _, _, _, rfl, rfl, SqT.of hg, rfl, q⟩⟩⟩⟩⟩
    · exact ⟨_, rfl, rfl, _, rfl, iteF ⟨_, rfl, rfl, _, rfl, iteF ⟨_, rfl, rfl, _, rfl, iteF ⟨_, rfl, rfl, _, rfl, iteF ⟨_, rfl, rfl, _, rfl, iteT ⟨_, rfl, a.o, a.dx, _, rfl, ho, rfl, _, rfl, _, _, _, _, rfl, rfl, SqT.of hg, atI_zero v gs', q⟩⟩⟩⟩⟩⟩
    · exact ⟨_, rfl, rfl, _, rfl, iteF ⟨_, rfl, rfl, _, rfl, iteF ⟨_, rfl, rfl, _, rfl, iteF ⟨_, rfl, rfl, _, rfl, iteF ⟨_, rfl, rfl, _, rfl, iteF ⟨_, rfl, rfl, _, rfl, iteT ⟨_, rfl, a.o, a.dx, _, rfl, ho, rfl, q⟩⟩⟩⟩⟩⟩⟩
    · exact ⟨_, rfl, rfl, _, rfl, iteF ⟨_, rfl, rfl, _, rfl, iteF ⟨_, rfl, rfl, _, rfl, iteF ⟨_, rfl, rfl, _, rfl, iteF ⟨_, rfl, rfl, _, rfl, iteF ⟨_, rfl, rfl, _, rfl, iteF ⟨_, rfl, rfl, _, rfl, iteT ⟨_, rfl, a.o, a.dx, _, rfl, ho, rfl, _, rfl, _, _, _, _, rfl, rfl, SqT.of hg, rfl, _, rfl, _, _, _, _, rfl, rfl, SqT.of hg, rfl, q⟩⟩⟩⟩⟩⟩⟩⟩
    · exact ⟨_, rfl, rfl, _, rfl, iteF ⟨_, rfl, rfl, _, rfl, iteF ⟨_, rfl, rfl, _, rfl, iteF ⟨_, rfl, rfl, _, rfl, iteF ⟨_, rfl, rfl, _, rfl, iteF ⟨_, rfl, rfl, _, rfl, iteF ⟨_, rfl, rfl, _, rfl, iteF ⟨_, rfl, a.o, a.dx, _, rfl, ho, rfl, _, rfl, _, _, _, _, rfl, rfl, SqT.of hg, atI_zero v gs', q⟩⟩⟩⟩⟩⟩⟩⟩
/-- the errors are apart -/
structure GE (P : Program) (K : PySem.W.Frag) (mg : Str → Option Value) (e : Errs) (fI fY fS fE fM fN : Addr) : Prop where
  TI : PySem.BadX.Txt P K mg "writer" "writer" e.CI fI
  TY : PySem.BadX.Txt P K mg "writer" "writer" e.CY fY
  TS : PySem.BadX.Txt P K mg "number" "id" e.CS fS
  TE : PySem.BadX.Txt P K mg "at" "at" e.CE fE
  TM : PySem.BadX.Txt P K mg "value" "value" e.CM fM
  TN : PySem.BadX.Txt P K mg "value" "value" e.CN fN
  c_Idle : mg "Idle" = some (.ref e.CI)
  c_Busy : mg "Busy" = some (.ref e.CY)
  c_Stale : mg "Stale" = some (.ref e.CS)
  c_BadEntry : mg "BadEntry" = some (.ref e.CE)
  c_BadMoment : mg "BadMoment" = some (.ref e.CM)
  c_BadName : mg "BadName" = some (.ref e.CN)
  c_NothingDone : mg "NothingDone" = some (.ref e.CT)
  nYI : PySem.W.exmOne K (.ref e.CY) (.ref e.CI) = some false
  nSI : PySem.W.exmOne K (.ref e.CS) (.ref e.CI) = some false
  nSY : PySem.W.exmOne K (.ref e.CS) (.ref e.CY) = some false
  nEI : PySem.W.exmOne K (.ref e.CE) (.ref e.CI) = some false
  nEY : PySem.W.exmOne K (.ref e.CE) (.ref e.CY) = some false
  nES : PySem.W.exmOne K (.ref e.CE) (.ref e.CS) = some false
  nMI : PySem.W.exmOne K (.ref e.CM) (.ref e.CI) = some false
  nMY : PySem.W.exmOne K (.ref e.CM) (.ref e.CY) = some false
  nMS : PySem.W.exmOne K (.ref e.CM) (.ref e.CS) = some false
  nME : PySem.W.exmOne K (.ref e.CM) (.ref e.CE) = some false
  nNI : PySem.W.exmOne K (.ref e.CN) (.ref e.CI) = some false
  nNY : PySem.W.exmOne K (.ref e.CN) (.ref e.CY) = some false
  nNS : PySem.W.exmOne K (.ref e.CN) (.ref e.CS) = some false
  nNE : PySem.W.exmOne K (.ref e.CN) (.ref e.CE) = some false
  nNM : PySem.W.exmOne K (.ref e.CN) (.ref e.CM) = some false
  nTI : PySem.W.exmOne K (.ref e.CT) (.ref e.CI) = some false
  nTY : PySem.W.exmOne K (.ref e.CT) (.ref e.CY) = some false
  nTS : PySem.W.exmOne K (.ref e.CT) (.ref e.CS) = some false
  nTE : PySem.W.exmOne K (.ref e.CT) (.ref e.CE) = some false
  nTM : PySem.W.exmOne K (.ref e.CT) (.ref e.CM) = some false
  nTN : PySem.W.exmOne K (.ref e.CT) (.ref e.CN) = some false
  nTT : PySem.W.exmOne K (.ref e.CT) (.ref e.CT) = some true
abbrev s_l_done : Stmt := topS 55
theorem sc_l_done : FnScope ["_law_which", "_law_office", "_law_given", "e"] ["_law_which", "_law_office", "_law_given"] (defScope s_l_done) := ⟨rfl, rfl, rfl, by decide +kernel, rfl, by decide +kernel, by decide +kernel⟩
theorem ok_done {f : Addr} {fd : FuncData} (F : Fun c.K "_law_done" "_law_done" s_l_done f fd) (Gc : Cal P w c.K mg base (L2.CX P w) "_law_called" 12 ["_law_which", "_law_office", "_law_given"] (spCalled c e)) (E0 : GE P c.K mg e fI fY fS fE fM fN) : FnOk P w c.K mg base CX0 13 f fd ["_law_which", "_law_office", "_law_given"] (spDone c e) := by
  refine F.ok sc_l_done (fun vs H Q E h => ?_) (fun cdv A0 outer s H vs Q E hr h => ?_)
  · obtain ⟨a, cl, wh, g, gs, rfl, _⟩ := h
    rfl
  · obtain ⟨a, cl, wh, g, gs, rfl, ho, hg, q⟩ := h
    have two : (2 : Nat) ≤ sizeLine := by decide
    have one : (1 : Nat) ≤ sizeLine := by decide
    refine ⟨_, (pss_one (ps_try_cls (tb := fun W => tRet (tTup (tCons (tC (.str "told")) (tCons (tCallSD (spCalled c e) [] (WE W) (tCons (tVar 0) (tCons (tVar 1) (tCons (tVar 2) tNil)))) tNil)))) (l := [(.ref e.CI, some 3, fun a cls d => tRet (tTup (tCons (tC (.str "idle")) (tCons (tByB "writer" e.CI a cls d (tVar 3)) tNil)))), (.ref e.CY, some 3, fun a cls d => tRet (tTup (tCons (tC (.str "busy")) (tCons (tByB "writer" e.CY a cls d (tVar 3)) tNil)))), (.ref e.CS, some 3, fun a cls d => tRet (tTup (tCons (tC (.str "stale")) (tCons (tByB "id" e.CS a cls d (tVar 3)) tNil)))), (.ref e.CE, some 3, fun a cls d => tRet (tTup (tCons (tC (.str "entry")) (tCons (tByB "at" e.CE a cls d (tVar 3)) tNil)))), (.ref e.CM, some 3, fun a cls d => tRet (tTup (tCons (tC (.str "moment")) (tCons (tByB "value" e.CM a cls d (tVar 3)) tNil)))), (.ref e.CN, some 3, fun a cls d => tRet (tTup (tCons (tC (.str "name")) (tCons (tByB "value" e.CN a cls d (tVar 3)) tNil)))), (.ref e.CT, none, fun a cls d => tRet (tTup (tCons (tC (.str "nothing")) tNil)))]) (W0 := fun _ _ _ _ => False) rfl rfl sc_l_done.nd takes0 (fun W pn xe tk _ =>
      (pss_one (ps_ret (pe_tup (pa_cons pe_str (pa_cons (pe_calS Gc (hr.mono (by decide)) (fun σ => passAt tk σ) (pa_cons (pv 0) (pa_cons (pv 1) (pa_cons (pv 2) pa_nil)))) pa_nil))))))
      (.cons ⟨rfl, by decide, .inl E0.c_Idle⟩ ⟨rfl, rfl⟩ (fun a oe cls d pn hz hf => (pss_one (ps_ret (pe_tup (pa_cons pe_str (pa_cons (pe_byB E0.TI hz hf (pv 3)) pa_nil)))))) (.cons ⟨rfl, by decide, .inl E0.c_Busy⟩ ⟨rfl, rfl⟩ (fun a oe cls d pn hz hf => (pss_one (ps_ret (pe_tup (pa_cons pe_str (pa_cons (pe_byB E0.TY hz hf (pv 3)) pa_nil)))))) (.cons ⟨rfl, by decide, .inl E0.c_Stale⟩ ⟨rfl, rfl⟩ (fun a oe cls d pn hz hf => (pss_one (ps_ret (pe_tup (pa_cons pe_str (pa_cons (pe_byB E0.TS hz hf (pv 3)) pa_nil)))))) (.cons ⟨rfl, by decide, .inl E0.c_BadEntry⟩ ⟨rfl, rfl⟩ (fun a oe cls d pn hz hf => (pss_one (ps_ret (pe_tup (pa_cons pe_str (pa_cons (pe_byB E0.TE hz hf (pv 3)) pa_nil)))))) (.cons ⟨rfl, by decide, .inl E0.c_BadMoment⟩ ⟨rfl, rfl⟩ (fun a oe cls d pn hz hf => (pss_one (ps_ret (pe_tup (pa_cons pe_str (pa_cons (pe_byB E0.TM hz hf (pv 3)) pa_nil)))))) (.cons ⟨rfl, by decide, .inl E0.c_BadName⟩ ⟨rfl, rfl⟩ (fun a oe cls d pn hz hf => (pss_one (ps_ret (pe_tup (pa_cons pe_str (pa_cons (pe_byB E0.TN hz hf (pv 3)) pa_nil)))))) (.cons ⟨rfl, by decide, .inl E0.c_NothingDone⟩ trivial (fun a oe cls d pn hz hf => (pss_one (ps_ret (pe_tup (pa_cons pe_str pa_nil))))) .nil))))))))), ?_⟩
    refine ⟨_, rfl, _, rfl, _, rfl, a, cl, wh, g, gs, rfl, ho, hg, ?_⟩
    refine mono_called q (fun v H1 h => ⟨two, h⟩) (fun cls d H1 h => ?_)
    have no : ∀ {α : Prop}, (false = true) → α := fun z => Bool.noConfusion z
    have yes : ∀ {α : Prop}, (true = false) → α := fun z => Bool.noConfusion z
    rcases h with ⟨C, nm, fl, dd, v, hm, rfl, rfl, hx, q⟩ | ⟨rfl, q⟩
    · have hm : (C, nm, fl) ∈ [(e.CI, ("idle" : Str), ("writer" : Str)), (e.CY, "busy", "writer"), (e.CS, "stale", "id"), (e.CE, "entry", "at"), (e.CM, "moment", "value"), (e.CN, "name", "value")] := hm
      simp only [List.mem_cons, List.not_mem_nil, or_false] at hm
      rcases hm with hm | hm | hm | hm | hm | hm <;> (cases hm)
      · exact ⟨true, E0.TI.te, fun _ a ha => ⟨_, rfl, rfl, rfl, dd, _, rfl, hx, two, q⟩, yes⟩
      · exact ⟨false, E0.nYI, no, fun _ => ⟨true, E0.TY.te, fun _ a ha => ⟨_, rfl, rfl, rfl, dd, _, rfl, hx, two, q⟩, yes⟩⟩
      · exact ⟨false, E0.nSI, no, fun _ => ⟨false, E0.nSY, no, fun _ => ⟨true, E0.TS.te, fun _ a ha => ⟨_, rfl, rfl, rfl, dd, _, rfl, hx, two, q⟩, yes⟩⟩⟩
      · exact ⟨false, E0.nEI, no, fun _ => ⟨false, E0.nEY, no, fun _ => ⟨false, E0.nES, no, fun _ => ⟨true, E0.TE.te, fun _ a ha => ⟨_, rfl, rfl, rfl, dd, _, rfl, hx, two, q⟩, yes⟩⟩⟩⟩
      · exact ⟨false, E0.nMI, no, fun _ => ⟨false, E0.nMY, no, fun _ => ⟨false, E0.nMS, no, fun _ => ⟨false, E0.nME, no, fun _ => ⟨true, E0.TM.te, fun _ a ha => ⟨_, rfl, rfl, rfl, dd, _, rfl, hx, two, q⟩, yes⟩⟩⟩⟩⟩
      · exact ⟨false, E0.nNI, no, fun _ => ⟨false, E0.nNY, no, fun _ => ⟨false, E0.nNS, no, fun _ => ⟨false, E0.nNE, no, fun _ => ⟨false, E0.nNM, no, fun _ => ⟨true, E0.TN.te, fun _ a ha => ⟨_, rfl, rfl, rfl, dd, _, rfl, hx, two, q⟩, yes⟩⟩⟩⟩⟩⟩
    · exact ⟨false, E0.nTI, no, fun _ => ⟨false, E0.nTY, no, fun _ => ⟨false, E0.nTS, no, fun _ => ⟨false, E0.nTE, no, fun _ => ⟨false, E0.nTM, no, fun _ => ⟨false, E0.nTN, no, fun _ => ⟨true, E0.nTT, fun _ a ha => ⟨one, q⟩, yes⟩⟩⟩⟩⟩⟩⟩
end
end Ash

set_option Elab.async false
set_option linter.all false
set_option maxRecDepth 100000
set_option maxHeartbeats 4000000
namespace Ash
open PySem PySem.Spec PyProof.Rows L2
open C8 (pss_cut)
def kindN : Ent → Int
  | .row .. => 1
  | .fix .. => 2
  | .gone .. => 3
def spPutIn (c : Cls6) (e : Errs) : Sp := fun vs H Q _ => ∃ (a : OA) (cl : Int) (v : V) (en : Addr) (x : Ent), vs = [.ref a.o, v, .ref en] ∧ H a.o = some (.ins c.CO a.dx (ofF a.b a.j a.dd a.pa cl a.cb)) ∧ DAt H en x ∧ ∀ H1, Same H H1 → calledB c e a.o (kindN x) (v :: x.vs.dropLast.tail) H1 (toldQ Q) (toldE e Q)
section
variable {P : Program} {w : World} {mg : Str → Option Value} {base : Heap} {c : Cls6} {e : Errs}
structure GP (P : Program) (w : World) (mg : Str → Option Value) (base : Heap) (c : Cls6) (e : Errs) : Prop where
  law_done : Cal P w c.K mg base CX0 "_law_done" 13 ["_law_which", "_law_office", "_law_given"] (spDone c e)
abbrev s_l_put_in : Stmt := topS 57
theorem sc_l_put_in : FnScope ["_law_office", "_law_writer", "_law_entry_here"] ["_law_office", "_law_writer", "_law_entry_here"] (defScope s_l_put_in) := ⟨rfl, rfl, rfl, by decide +kernel, rfl, by decide +kernel, by decide +kernel⟩
theorem ok_putIn {f : Addr} {fd : FuncData} (F : Fun c.K "_law_put_in" "_law_put_in" s_l_put_in f fd) (G : GP P w mg base c e) : FnOk P w c.K mg base CX0 14 f fd ["_law_office", "_law_writer", "_law_entry_here"] (spPutIn c e) := by
  refine F.ok sc_l_put_in (fun vs H Q E h => ?_) (fun cdv A0 outer s H vs Q E hr h => ?_)
  · obtain ⟨a, cl, v, en, x, rfl, _⟩ := h
    rfl
  · obtain ⟨a, cl, v, en, x, rfl, ho, he, q⟩ := h
    have hu := hu_of hr
    refine ⟨_, (pss_one (ps_ret (pe_cal G.law_done (hr.mono (by decide)) pass0 (pa_cons (pe_dget hu (pe_disp (pps_cons pe_str pe_int (pps_cons pe_str pe_int (pps_cons pe_str pe_int pps_nil))) (by rfl) (by rfl) (fun z => by cases z) (by decide)) (pe_ix ix_tup (pv 2) pe_int (fun _ _ => rfl)) (fun _ _ => rfl)) (pa_cons (pv 0) (pa_cons (pe_op op_catT (pe_tup (pa_cons (pv 1) pa_nil)) (pe_slice sl_tup (pv 2) (po_some pe_int) po_none)) pa_nil)))))), ?_⟩
    intro d hd
    have s1 : Same H (upd H d (.dK [])) := sameAt (Same.refl _) hd
    refine ⟨upd_same, [(Sum.inr "row", .int 1), (Sum.inr "fix", .int 2), (Sum.inr "gone", .int 3)], rfl, (by decide), ?_⟩
    have e2 : upd (upd H d (.dK [])) d (.dK (mergeK [] [((Sum.inr "row" : Key), V.int 1), (Sum.inr "fix", .int 2), (Sum.inr "gone", .int 3)])) = upd H d (.dK [((Sum.inr "row" : Key), V.int 1), (Sum.inr "fix", .int 2), (Sum.inr "gone", .int 3)]) := by
      funext q
      by_cases z : q = d
      · subst z; rw [upd_same, upd_same]; rfl
      · rw [upd_ne z, upd_ne z, upd_ne z]
    rw [e2]
    have s2 : Same H (upd H d (.dK [((Sum.inr "row" : Key), V.int 1), (Sum.inr "fix", .int 2), (Sum.inr "gone", .int 3)])) := sameAt (Same.refl _) hd
    have hd2 : (upd H d (.dK [((Sum.inr "row" : Key), V.int 1), (Sum.inr "fix", .int 2), (Sum.inr "gone", .int 3)])) d = some (.dK [((Sum.inr "row" : Key), V.int 1), (Sum.inr "fix", .int 2), (Sum.inr "gone", .int 3)]) := upd_same
    generalize (upd H d (.dK [((Sum.inr "row" : Key), V.int 1), (Sum.inr "fix", .int 2), (Sum.inr "gone", .int 3)])) = H2 at s2 hd2 ⊢
    have he2 : H2 en = some (.tup x.vs.dropLast) := s2 _ _ he
    have one : (1 : Nat) ≤ sizeLine := by decide
    cases x with
    | row n st k m am r =>
      refine ⟨_, rfl, _, _, _, _, rfl, rfl, SqT.of he2, rfl, d, _, rfl, DGet.k (k := Sum.inr "row") hd2, ?_⟩
      refine ⟨_, rfl, _, rfl, one, fun t1 n1 => ?_⟩
      have s3 : Same H2 (upd H2 t1 (.tup [v])) := sameAt (Same.refl _) n1
      refine ⟨_, rfl, _, rfl, en, _, rfl, SqT.of (s3 _ _ he2), (fun z => absurd (show (1 : Nat) = 0 from z.1) (by decide)), fun t2 n2 => ?_⟩
      have t12 : t1 ≠ t2 := fun z => by rw [← z, upd_same] at n2; cases n2
      refine ⟨t1, t2, [v], _, rfl, rfl, SqT.of (by rw [upd_ne t12]; exact upd_same), SqT.of upd_same, (fun z => nomatch z), (by rw [sizeLine_eq]; exact Nat.le_of_ble_eq_true rfl), (fun z => by cases (show (_ :: _ : List V) = [] from z)), fun _ t3 n3 => ?_⟩
      refine ⟨a, cl, _, t3, _, rfl, ?_, upd_same, q _ ?_⟩
      · exact (((s2.trans s3).trans (sameAt (Same.refl _) n2)).trans (sameAt (Same.refl _) n3)) _ _ ho
      · exact (((s2.trans s3).trans (sameAt (Same.refl _) n2)).trans (sameAt (Same.refl _) n3))
    | fix n m am r =>
      refine ⟨_, rfl, _, _, _, _, rfl, rfl, SqT.of he2, rfl, d, _, rfl, DGet.k (k := Sum.inr "fix") hd2, ?_⟩
      refine ⟨_, rfl, _, rfl, one, fun t1 n1 => ?_⟩
      have s3 : Same H2 (upd H2 t1 (.tup [v])) := sameAt (Same.refl _) n1
      refine ⟨_, rfl, _, rfl, en, _, rfl, SqT.of (s3 _ _ he2), (fun z => absurd (show (1 : Nat) = 0 from z.1) (by decide)), fun t2 n2 => ?_⟩
      have t12 : t1 ≠ t2 := fun z => by rw [← z, upd_same] at n2; cases n2
      refine ⟨t1, t2, [v], _, rfl, rfl, SqT.of (by rw [upd_ne t12]; exact upd_same), SqT.of upd_same, (fun z => nomatch z), (by rw [sizeLine_eq]; exact Nat.le_of_ble_eq_true rfl), (fun z => by cases (show (_ :: _ : List V) = [] from z)), fun _ t3 n3 => ?_⟩
      refine ⟨a, cl, _, t3, _, rfl, ?_, upd_same, q _ ?_⟩
      · exact (((s2.trans s3).trans (sameAt (Same.refl _) n2)).trans (sameAt (Same.refl _) n3)) _ _ ho
      · exact (((s2.trans s3).trans (sameAt (Same.refl _) n2)).trans (sameAt (Same.refl _) n3))
    | gone n r =>
      refine ⟨_, rfl, _, _, _, _, rfl, rfl, SqT.of he2, rfl, d, _, rfl, DGet.k (k := Sum.inr "gone") hd2, ?_⟩
      refine ⟨_, rfl, _, rfl, one, fun t1 n1 => ?_⟩
      have s3 : Same H2 (upd H2 t1 (.tup [v])) := sameAt (Same.refl _) n1
      refine ⟨_, rfl, _, rfl, en, _, rfl, SqT.of (s3 _ _ he2), (fun z => absurd (show (1 : Nat) = 0 from z.1) (by decide)), fun t2 n2 => ?_⟩
      have t12 : t1 ≠ t2 := fun z => by rw [← z, upd_same] at n2; cases n2
      refine ⟨t1, t2, [v], _, rfl, rfl, SqT.of (by rw [upd_ne t12]; exact upd_same), SqT.of upd_same, (fun z => nomatch z), (by rw [sizeLine_eq]; exact Nat.le_of_ble_eq_true rfl), (fun z => by cases (show (_ :: _ : List V) = [] from z)), fun _ t3 n3 => ?_⟩
      refine ⟨a, cl, _, t3, _, rfl, ?_, upd_same, q _ ?_⟩
      · exact (((s2.trans s3).trans (sameAt (Same.refl _) n2)).trans (sameAt (Same.refl _) n3)) _ _ ho
      · exact (((s2.trans s3).trans (sameAt (Same.refl _) n2)).trans (sameAt (Same.refl _) n3))
end
end Ash

set_option Elab.async false
set_option linter.all false
set_option maxRecDepth 100000
set_option maxHeartbeats 4000000
namespace Ash
open PySem PySem.Spec PyProof.Rows L2
open C8 (pss_cut)
/-! ### where a law stands: its pool, its office, what it changes itself -/
structure LW (c : Cls6) (B A : Addr → Prop) (H : Hp) (a : OA) (S : OS) (p s : Addr) : Prop where
  M : OfM c B A H a S
  pool : PoolAt H p s
  bp : B p
  nap : ¬ A p
  nas : ¬ A s
/-- from (B, A, H) to (B', A', H') -/
structure Lst (p : Addr) (B A : Addr → Prop) (H : Hp) (B' A' : Addr → Prop) (H' : Hp) : Prop where
  sub : ∀ q, B q → B' q
  cut : Same (cutH B H) (cutH B' H')
  k : ∀ q x, H q = some x → ¬ A q → q ≠ p → H' q = some x
  gA : ∀ q, A' q → A q ∨ H q = none
  gB : ∀ q, B' q → B q ∨ H q = none
  alive : ∀ q, H q ≠ none → H' q ≠ none
theorem Lst.refl (p : Addr) (B A : Addr → Prop) (H : Hp) : Lst p B A H B A H := ⟨fun _ h => h, fun _ _ h => h, fun _ _ h _ _ => h, fun _ h => .inl h, fun _ h => .inl h, fun _ h => h⟩
theorem Lst.trans {p : Addr} {B A B1 A1 B2 A2 : Addr → Prop} {H H1 H2 : Hp} (x : Lst p B A H B1 A1 H1) (y : Lst p B1 A1 H1 B2 A2 H2) : Lst p B A H B2 A2 H2 := by
  have dead : ∀ q, H1 q = none → H q = none := fun q h => by
    cases e : H q with
    | none => rfl
    | some u => exact absurd h (x.alive q (by rw [e]; exact fun z => nomatch z))
  refine ⟨fun q h => y.sub q (x.sub q h), x.cut.trans y.cut, fun q u h n1 n2 => y.k q u (x.k q u h n1 n2) (fun a1 => ?_) n2, fun q h => ?_, fun q h => ?_, fun q h => y.alive q (x.alive q h)⟩
  · rcases x.gA q a1 with h1 | h1
    · exact n1 h1
    · rw [h] at h1; cases h1
  · rcases y.gA q h with h1 | h1
    · exact x.gA q h1
    · exact .inr (dead q h1)
  · rcases y.gB q h with h1 | h1
    · exact x.gB q h1
    · exact .inr (dead q h1)
section
variable {c : Cls6} {B A : Addr → Prop} {H : Hp} {a : OA} {S : OS} {p s : Addr}
theorem LW.draw {H' : Hp} (h : LW c B A H a S p s) (P : Pl H H' p s) : LW c B A H' a S p s ∧ Lst p B A H B A H' := by
  refine ⟨⟨h.M.pl P h.nap h.bp, P.now, h.bp, h.nap, h.nas⟩, ⟨fun _ x => x, cut_step (fun q u e n => P.keep e fun z => n (z ▸ h.bp)) fun _ x => .inl x, fun q u e _ n => P.keep e n, fun _ x => .inl x, fun _ x => .inl x, fun q hq => ?_⟩⟩
  by_cases z : q = p
  · subst z; exact P.now.ne.1
  · cases e : H q with
    | none => exact absurd e hq
    | some u => rw [P.keep e z]; exact fun z => nomatch z
theorem alive_same {H H' : Hp} (s : Same H H') (q : Addr) (h : H q ≠ none) : H' q ≠ none := by
  cases e : H q with
  | none => exact absurd e h
  | some u => rw [s _ _ e]; exact fun z => nomatch z
theorem LW.same {H' : Hp} (h : LW c B A H a S p s) (e : Same H H') : LW c B A H' a S p s ∧ Lst p B A H B A H' :=
  ⟨⟨h.M.same e, h.pool.same e, h.bp, h.nap, h.nas⟩, ⟨fun _ x => x, cut_step (fun q u h _ => e _ _ h) fun _ x => .inl x, fun q u h _ _ => e _ _ h, fun _ x => .inl x, fun _ x => .inl x, alive_same e⟩⟩
theorem LW.office {A' : Addr → Prop} {H' : Hp} {a' : OA} {S' : OS} (h : LW c B A H a S p s) (f : Fr A H A' H') (M : OfM c (uni B A') A' H' a' S') : LW c (uni B A') A' H' a' S' p s ∧ Lst p B A H (uni B A') A' H' := by
  obtain ⟨ns, i, cc, k, n, e1, e2, e3, e4⟩ := h.pool
  have hA : ∀ q, ¬ A q → H q ≠ none → ¬ A' q := fun q n1 n2 z => (f.g q z).elim n1 n2
  refine ⟨⟨M, ⟨ns, i, cc, k, n, f.k _ _ e1 h.nap, f.k _ _ e2 h.nas, e3, e4⟩, .inl h.bp, hA p h.nap h.pool.ne.1, hA s h.nas h.pool.ne.2⟩, ⟨fun _ x => .inl x, f.cut h.M.AB, fun q u e n _ => f.k q u e n, f.g, fun q x => x.elim .inl fun z => (f.g q z).imp (h.M.AB q) id, fun q hq => ?_⟩⟩
  by_cases z : A q
  · by_cases z2 : A' q
    · obtain ⟨u, e, _⟩ := M.BT q (.inr z2)
      rw [e]; exact fun z => nomatch z
    · have hb : uni B A' q := .inl (h.M.AB q z)
      obtain ⟨u, e, _⟩ := M.BT q hb
      rw [e]; exact fun z => nomatch z
  · cases e : H q with
    | none => exact absurd e hq
    | some u => rw [f.k _ _ e z]; exact fun z => nomatch z
/-- a new place of the law's own that will change -/
theorem LW.own {q : Addr} {o : HO} (h : LW c B A H a S p s) (hq : H q = none) (ho : MuO c.CO o) : LW c (fun x => B x ∨ x = q) A (upd H q o) a S p s ∧ Lst p B A H (fun x => B x ∨ x = q) A (upd H q o) := by
  have e : Same H (upd H q o) := sameAt (Same.refl _) hq
  refine ⟨⟨h.M.keep (fun x u _ hx => e _ _ hx) (fun x u hx _ => e _ _ hx) (fun _ x => .inl x) (fun x hx => hx.imp id fun z => by rw [z]; exact hq) fun x hx => ?_, h.pool.same e, .inl h.bp, h.nap, h.nas⟩, ⟨fun _ x => .inl x, cut_step (fun x u hx _ => e _ _ hx) fun x hx => hx.imp id fun z => by rw [z]; exact hq, fun x u hx _ _ => e _ _ hx, fun _ x => .inl x, fun x hx => hx.imp id fun z => by rw [z]; exact hq, alive_same e⟩⟩
  rcases hx with hx | rfl
  · obtain ⟨u, e1, m⟩ := h.M.BT x hx
    exact ⟨u, e _ _ e1, m⟩
  · exact ⟨o, upd_same, ho⟩
/-- the law changes its own place -/
theorem LW.set {q : Addr} {o : HO} (h : LW c B A H a S p s) (bq : B q) (nq : ¬ A q) (np : q ≠ p) (ns : q ≠ s) (ho : MuO c.CO o) : LW c B A (upd H q o) a S p s ∧ Same (cutH B H) (cutH B (upd H q o)) := by
  refine ⟨⟨h.M.keep (fun x u hx e => by rw [upd_ne (fun z : x = q => nq (by rw [← z]; exact hx))]; exact e) (fun x u e n => by rw [upd_ne (fun z : x = q => n (by rw [z]; exact bq))]; exact e) (fun _ x => x) (fun _ x => .inl x) fun x hx => ?_, h.pool.off np ns, h.bp, h.nap, h.nas⟩, cut_step (fun x u e n => by rw [upd_ne (fun z : x = q => n (by rw [z]; exact bq))]; exact e) fun _ x => .inl x⟩
  by_cases z : x = q
  · subst z; exact ⟨o, upd_same, ho⟩
  · obtain ⟨u, e1, m⟩ := h.M.BT x hx
    exact ⟨u, by rw [upd_ne z]; exact e1, m⟩
theorem LW.tup (h : LW c B A H a S p s) {q : Addr} {xs : List V} (hq : H q = some (.tup xs)) : cutH B H q = some (.tup xs) := cut_at (h.M.tup hq) hq
end
theorem kn_pos {L : List (Str × Int)} : ∀ {xs : List Ent} {i : Nat} {S S1 : Kn} {l : Option Int}, wk L (xs.map some) i S l = (none, S1) → (∀ x ∈ xs, x.ok) → (∀ id, S id ≠ none → 0 ≤ id) → ∀ id, S1 id ≠ none → 0 ≤ id
  | [], _, S, S1, _, h, _, hS, id, hid => by
    have : (none, S) = (none, S1) := h
    cases this
    exact hS id hid
  | x :: xs, i, S, S1, l, h, ok, hS, id, hid => by
    obtain ⟨_, y, _, h2⟩ := wk_step h
    refine kn_pos h2 (fun z hz => ok z (List.mem_cons_of_mem _ hz)) (fun j hj => ?_) id hid
    by_cases e : j = x.id
    · rw [e]; exact (ok x List.mem_cons_self).1
    · rw [if_neg e] at hj; exact hS j hj
theorem wk_rows {L : List (Str × Int)} : ∀ {xs : List Ent} {i : Nat} {S S1 : Kn} {l : Option Int}, wk L (xs.map some) i S l = (none, S1) → RowsIn L xs
  | [], _, _, _, _, _ => fun _ h => nomatch h
  | x :: xs, i, S, S1, l, h => by
    obtain ⟨_, y, hb, h2⟩ := wk_step h
    intro z hz
    rcases List.mem_cons.mp hz with rfl | hz
    · intro id s k m a r e
      subst e
      cases eS : S id with
      | some o =>
        have hb' : behind L (.row id s k m a r) (S id) = some y := hb
        rw [eS] at hb'
        cases o <;> cases hb'
      | none =>
        have hb' : behind L (.row id s k m a r) none = some y := by rw [← eS]; exact hb
        cases el : L.lookup s with
        | none =>
          have hb2 : ((L.lookup s).bind fun l => if m ≤ r ∧ r ≤ m + l then some (RowSt.at_ s k m a) else none) = some y := hb'
          rw [el] at hb2
          cases hb2
        | some l => rfl
    · exact wk_rows h2 z hz
theorem Good.eq {L : List (Str × Int)} {xs : List Ent} (h : Good L xs) : ∃ S1, wk L (xs.map some) 0 (fun _ => none) none = (none, S1) := ⟨_, by rw [← h]⟩
theorem called_put {c : Cls6} {e : Errs} {B A : Addr → Prop} {H : Hp} {a : OA} {S : OS} {v : V} {x : Ent} {Q : VK} {E : XK} (M : OfM c B A H a S) (hv : StrOk c.K H v) (ok : (x.at_ 0).ok) (h : PutOut c e.CI e.CE B A H a S v (x.at_ 0) Q E) : calledB c e a.o (kindN x) (v :: x.vs.dropLast.tail) H Q E := by
  cases x with
  | row n st k m am r => exact .inr (.inl ⟨rfl, v, _, _, _, _, _, rfl, B, A, a, S, v, n, st, k, m, am, rfl, M, hv, ok, h⟩)
  | fix n m am r => exact .inr (.inr (.inl ⟨rfl, v, _, _, _, rfl, B, A, a, S, v, n, m, am, rfl, M, hv, ok, h⟩))
  | gone n r => exact .inr (.inr (.inr (.inl ⟨rfl, v, _, rfl, B, A, a, S, v, n, rfl, M, hv, ok, h⟩)))
theorem at_at (x : Ent) (m n : Int) : (x.at_ m).at_ n = x.at_ n := by cases x <;> rfl
theorem DAt.at0 {H : Hp} {e : Addr} {x : Ent} (h : DAt H e x) : DAt H e (x.at_ 0) := by
  unfold DAt at h ⊢
  rw [h]
  cases x <;> rfl
theorem DOk.at0 {L : List (Str × Int)} {x : Ent} (h : DOk L x) (n : Int) : DOk L (x.at_ n) := ⟨at_ok h.1 n, fun id s k m a r e => by
  cases x with
  | row id s k m a r => cases e; exact h.2 _ _ _ _ _ _ rfl
  | fix id m a q => cases e
  | gone id q => cases e⟩
theorem DOk.inB {L : List (Str × Int)} {x : Ent} (h : DOk L x) : InB L x := h.2
theorem Ents.append {H : Hp} {us vs : List V} {xs ys : List Ent} (a : Ents H us xs) (b : Ents H vs ys) : Ents H (us ++ vs) (xs ++ ys) := by
  obtain ⟨al, a⟩ := a
  obtain ⟨bl, b⟩ := b
  refine ⟨by rw [List.length_append, List.length_append, al, bl], fun i v x h1 h2 => ?_⟩
  by_cases c : i < us.length
  · rw [List.getElem?_append_left c] at h1
    rw [List.getElem?_append_left (by omega)] at h2
    exact a i v x h1 h2
  · rw [List.getElem?_append_right (by omega)] at h1
    rw [List.getElem?_append_right (by omega), ← al] at h2
    exact b _ v x h1 h2
theorem take_at {α : Type} (xs ys : List α) (i : Nat) : (xs ++ ys).take (xs.length + i) = xs ++ ys.take i := by
  rw [List.take_append, List.take_of_length_le (by omega), Nat.add_sub_cancel_left]
/-- the first entry that can't be handed in is the first bad one -/
theorem jb_index {L : List (Str × Int)} {xs ys : List Ent} {i : Nat} (hi : i < ys.length) (g : Good L (xs ++ ys.take i)) (b : ¬ Good L (xs ++ ys.take (i + 1))) : (wk L ((xs ++ ys).map some) 0 (fun _ => none) none).1 = some (xs.length + i) := by
  obtain ⟨S1, h1⟩ := g.eq
  have hx : (xs ++ ys)[xs.length + i]? = some ys[i] := by
    rw [List.getElem?_append_right (by omega), Nat.add_sub_cancel_left]
    exact List.getElem?_eq_getElem hi
  rcases good_step hx (by rw [take_at]; exact h1) with ⟨_, y, _, h2⟩ | ⟨_, h2, _⟩
  · rw [Nat.add_assoc, take_at] at h2
    exact absurd (show Good L _ by unfold Good; rw [h2]) b
  · exact h2
theorem good_pre {L : List (Str × Int)} {xs ys : List Ent} (h : Good L (xs ++ ys)) (i : Nat) : Good L (xs ++ ys.take i) := by
  obtain ⟨S1, h1⟩ := h.eq
  obtain ⟨S2, h2⟩ := wk_pre h1 (xs.length + i)
  rw [take_at] at h2
  unfold Good
  rw [h2]
theorem jb_bad {L : List (Str × Int)} {xs ys : List Ent} {i : Nat} (h : JBad L xs ys i) (l : xs.length + ys.length ≤ 400) : (wk L ((xs ++ ys).map some) 0 (fun _ => none) none).1 = some (xs.length + i) := by
  obtain ⟨h1, h2, h3, h4⟩ := h
  rcases h4 with h4 | h4
  · omega
  · exact jb_index h1 h2 h4
theorem no_stale {S : OS} {d : Dr} (h : ∀ b ∈ S.cb, b ≤ d.n) : stale S d = none := by
  have e : laterIds S.xs S.cb d.n = [] := by
    unfold laterIds
    rw [List.map_eq_nil_iff, List.filter_eq_nil_iff]
    intro x hx
    have := h _ (List.of_mem_zip hx).2
    simp
    omega
  unfold stale
  rw [e, List.find?_eq_none.mpr (fun x _ => by simp)]
  rfl
end Ash

set_option Elab.async false
set_option linter.all false
set_option maxRecDepth 100000
set_option maxHeartbeats 4000000
set_option pp.maxSteps 1500
namespace Ash
open PySem PySem.Spec PyProof.Rows L2
open C8 (pss_cut)
theorem str_ok {K : PySem.W.Frag} {H : Hp} {z : Str} (h : z.length ≤ 100) : StrOk K H (.str z) := .inl ⟨z, rfl, by rw [sizeLine_eq]; omega⟩
theorem int_is {K : PySem.W.Frag} {H : Hp} {n : Int} (h : NotInt K H (.int n)) : False := by
  obtain ⟨t, bi, bb, ty, k1, k2, k3⟩ := h
  cases ty with
  | base b =>
    cases b with
    | _ =>
      rw [show PySem.W.kitOne K (.type "int") (.type "int") = some true from kit_ty (by decide +kernel)] at k1
      rw [show PySem.W.kitOne K (.type "int") (.type "bool") = some false from kit_ty (by decide +kernel)] at k2
      cases k1
      cases k2
      cases k3
theorem seqs {K : PySem.W.Frag} {H : Hp} {a b : Addr} {x y : V} (ha : H a = some (.tup [x, y])) (hb : H b = some (.tup [x, y])) (fx : flatV x = true ∧ eqV x x = true) (fy : flatV y = true ∧ eqV y y = true) : SeqS K H (.ref a) (.ref b) :=
  ⟨a, b, [x, y], [x, y], rfl, rfl, SqT.of ha, SqT.of hb, rfl, fun i u v hu hv => by
    rw [hu] at hv
    cases hv
    match i, hu with
    | 0, hu => cases hu; exact .inl ⟨fx.1, fx.1, fx.2⟩
    | 1, hu => cases hu; exact .inl ⟨fy.1, fy.1, fy.2⟩⟩
theorem fl_int (n : Int) : flatV (.int n) = true ∧ eqV (.int n) (.int n) = true := ⟨rfl, by simp [eqV]⟩
theorem fl_str (z : Str) : flatV (.str z) = true ∧ eqV (.str z) (.str z) = true := ⟨rfl, by simp [eqV]⟩
theorem nl_cut {B : Addr → Prop} {H : Hp} {q : Addr} {u : HO} (hB : ∀ x, B x → ∃ xs, H x = some (.lst xs)) (h : H q = some u) (hu : ∀ xs, u ≠ .lst xs) : cutH B H q = some u :=
  cut_at (fun b => by
    obtain ⟨xs, e⟩ := hB q b
    rw [h] at e
    exact hu xs (Option.some.inj e)) h
theorem BookAt.cutL {CB : Addr} {B : Addr → Prop} {H : Hp} {b : Addr} {L : List (Str × Int)} (hB : ∀ x, B x → ∃ xs, H x = some (.lst xs)) (h : BookAt CB H b L) : BookAt CB (cutH B H) b L := by
  obtain ⟨dx, d, L', h1, h2, h3⟩ := h
  exact ⟨dx, d, L', nl_cut hB h1 (fun xs z => nomatch z), nl_cut hB h2 (fun xs z => nomatch z), h3⟩
theorem Ents.cutL {B : Addr → Prop} {H : Hp} {us : List V} {xs : List Ent} (hB : ∀ x, B x → ∃ xs, H x = some (.lst xs)) (h : Ents H us xs) : Ents (cutH B H) us xs := ⟨h.1, fun i v x a b => by
  obtain ⟨e, h1, h2, h3⟩ := h.2 i v x a b
  exact ⟨e, h1, nl_cut hB h2 (fun xs z => nomatch z), h3⟩⟩
theorem JAt.cutL {K : PySem.W.Frag} {aT CJ CB : Addr} {B : Addr → Prop} {H : Hp} {j b : Addr} {L : List (Str × Int)} {us : List V} {xs : List Ent} (hB : ∀ x, B x → ∃ xs, H x = some (.lst xs)) (h : JAt K aT CJ CB H j b L us xs) : JAt K aT CJ CB (cutH B H) j b L us xs := by
  obtain ⟨dx, t, kd, h1, h2, h3, h4, h5, h6, h7⟩ := h
  refine ⟨dx, t, kd, nl_cut hB h1 (fun xs z => nomatch z), h2.cutL hB, ?_, h4, fun i v x a b => ?_, h6, ?_⟩
  · rcases h3 with (h | ⟨o, h⟩) | h
    · exact .inl (.inl (nl_cut hB h (fun xs z => nomatch z)))
    · exact .inl (.inr ⟨o, nl_cut hB h (fun xs z => nomatch z)⟩)
    · exact .inr h
  · obtain ⟨e, q1, q2, q3⟩ := h5 i v x a b
    exact ⟨e, q1, nl_cut hB q2 (fun xs z => nomatch z), q3⟩
  · obtain ⟨kvs, q1, q2, q3⟩ := h7
    refine ⟨kvs, nl_cut hB q1 (fun xs z => nomatch z), q2, fun id => ?_⟩
    have := q3 id
    cases ev : valV kvs (Sum.inl id) with
    | none => rw [ev] at this; cases eo : (wk L (xs.map some) 0 (fun _ => none) none).2 id <;> (rw [eo] at this; exact this)
    | some v =>
      rw [ev] at this
      cases eo : (wk L (xs.map some) 0 (fun _ => none) none).2 id with
      | none => rw [eo] at this; exact this
      | some r =>
        rw [eo] at this
        cases r with
        | tb => exact this
        | at_ z k m am =>
          obtain ⟨t, e1, e2⟩ := this
          exact ⟨t, e1, nl_cut hB e2 (fun xs z => nomatch z)⟩
theorem JAt.ents {K : PySem.W.Frag} {aT CJ CB : Addr} {H : Hp} {j b : Addr} {L : List (Str × Int)} {us : List V} {xs : List Ent} (h : JAt K aT CJ CB H j b L us xs) : Ents H us xs := by
  obtain ⟨dx, t, kd, h1, h2, h3, h4, h5, h6, h7⟩ := h
  exact ⟨h4, fun i v x a b => h5 i v x a b⟩
theorem mkJN {K : PySem.W.Frag} {aT CJ CB CE b : Addr} {L : List (Str × Int)} {H' : Hp} {a' : Addr} {us' : List V} {xs : List Ent} {S : Kn} {x dx' : Addr} (hb : BookAt CB H' b L) (ha : H' a' = some (.lst us')) (he : Ents H' us' xs) (hl : xs.length ≤ 400) (hw : wk L (xs.map some) 0 (fun _ => none) none = (none, S)) (nx : H' x = none) (ndx : H' dx' = none) (nex : dx' ≠ x) {Qj : Hp → Prop} (hq : ∀ H2, Same H' H2 → JAt K aT CJ CB H2 x b L us' xs → Qj H2) :
    spJInit K aT CJ CB CE [.ref x, .ref b, .ref a'] (upd (upd H' dx' (.own x)) x (.ins CJ dx' [])) (fun v H2 => v = .non ∧ Qj H2) (fun _ _ _ => False) := by
  have sX : Same H' (upd (upd H' dx' (.own x)) x (.ins CJ dx' [])) := (sameAt (Same.refl _) ndx).trans (sameAt (Same.refl _) (by rw [upd_ne (Ne.symm nex)]; exact nx))
  refine ⟨x, dx', b, a', L, us', xs.map some, rfl, upd_same, hb.same sX, .inl (sX _ _ ha), by rw [he.1]; exact hl, by rw [List.length_map]; exact he.1, fun i v o hi ho => ?_, fun H2 ys hys hw2 hJ _ kk => ⟨rfl, ?_⟩, fun i d H2 hw2 _ _ => ?_⟩
  · rw [List.getElem?_map] at ho
    cases ex : xs[i]? with
    | none => rw [ex] at ho; cases ho
    | some y =>
      rw [ex] at ho
      cases ho
      exact (he.same sX).2 i v y hi ex
  · have ey : ys = xs := (List.map_inj_right (fun a b h => Option.some.inj h)).mp hys.symm
    subst ey
    exact hq H2 (mk_same nx ndx kk) hJ
  · rw [hw] at hw2
    cases hw2
theorem sqL_same {K : PySem.W.Frag} {H H' : Hp} {a : Addr} {xs : List V} (h : SqL K H a xs) (s : Same H H') : SqL K H' a xs := by
  rcases h with (h | ⟨o, h⟩) | h
  · exact .inl (.inl (s _ _ h))
  · exact .inl (.inr ⟨o, s _ _ h⟩)
  · exact .inr h
theorem ent_arr (x : Ent) : atI x.vs ((x.vs.length : Int) - 1) = some (.int x.arr) := by cases x <;> rfl
theorem seqs1 {K : PySem.W.Frag} {H : Hp} {a b : Addr} {x : V} (ha : H a = some (.tup [x])) (hb : H b = some (.tup [x])) (fx : flatV x = true ∧ eqV x x = true) : SeqS K H (.ref a) (.ref b) :=
  ⟨a, b, [x], [x], rfl, rfl, SqT.of ha, SqT.of hb, rfl, fun i u v hu hv => by
    rw [hu] at hv
    cases hv
    match i, hu with
    | 0, hu => cases hu; exact .inl ⟨fx.1, fx.1, fx.2⟩⟩
theorem fl_non : flatV .non = true ∧ eqV .non .non = true := ⟨rfl, by simp [eqV]⟩
theorem neD_ents {K : PySem.W.Frag} {H : Hp} {l d : Addr} {us1 us2 : List V} {xs : List Ent} {Q : VK} (hl : H l = some (.lst us1)) (E1 : Ents H us1 xs) (hd : H d = some (.lst us2)) (E2 : Ents H us2 xs) (q : Q (.bl false) H) : rNeD K (.ref l) (.ref d) H Q := by
  refine ⟨.list (xs.map Ent.data), .list (xs.map Ent.data), .lst (SqL.of hl) E1.dp, .lst (SqL.of hd) E2.dp, list_shaped E1.ok, list_shaped E1.ok, ?_⟩
  rw [SeqAt.eqv_refl _ (SeqAt.canLay_of_shaped (list_shaped E1.ok))]
  exact q
def spLawN (K : PySem.W.Frag) : Sp := fun vs H Q _ => ∃ (a : Addr) (ns : List Int), vs = [.ref a] ∧ SqL K H a (ns.map V.int) ∧ ns.length ≤ 63 ∧ ∀ H', Q (.bl true) H'
theorem inV_int {z : Int} {l : List Int} : inV (.int z) (l.map V.int) = decide (z ∈ l) := by
  unfold inV
  rw [List.any_map]
  induction l with
  | nil => simp
  | cons a l ih =>
    rw [List.any_cons, ih]
    show (eqV (.int a) (.int z) || _) = _
    by_cases c : a = z
    · subst c
      simp [eqV]
    · have c' : ¬ z = a := fun e => c e.symm
      simp [eqV, c, c']
end Ash

set_option Elab.async false
set_option linter.all false
set_option maxRecDepth 100000
set_option maxHeartbeats 4000000
set_option pp.maxSteps 1500
namespace Ash
open PySem PySem.Spec PyProof.Rows L2
open C8 (pss_cut)
theorem str_ext {a b : Str} (h : a.cps.toList = b.cps.toList) : a = b := by
  obtain ⟨x⟩ := a
  obtain ⟨y⟩ := b
  have h : x.toList = y.toList := h
  rw [Array.toList_inj.mp h]
/-- texts in order -/
def LeS (a b : Str) : Prop := decide (b.cps.toList < a.cps.toList) = false
theorem leS_anti {a b : Str} (h : LeS a b) (g : LeS b a) : a = b := str_ext (PyProof.Rows.strKind.total _ _ g h)
theorem leS_trans {a b c : Str} (h : LeS a b) (g : LeS b c) : LeS a c := by
  unfold LeS at *
  cases e : decide (c.cps.toList < a.cps.toList) with
  | false => rfl
  | true =>
    rcases PyProof.Rows.strKind.negTrans _ b.cps.toList _ e with q | q
    · exact absurd (show decide (c.cps.toList < b.cps.toList) = true from q) (by rw [g]; exact Bool.false_ne_true)
    · exact absurd (show decide (b.cps.toList < a.cps.toList) = true from q) (by rw [h]; exact Bool.false_ne_true)
theorem ris_pw : ∀ (l : List Str) (p : Str), risingS p l = true → (p :: l).Pairwise LeS
  | [], p, _ => List.pairwise_singleton _ _
  | x :: r, p, h => by
    have h : (!ltCps x.cps.toList p.cps.toList && risingS x r) = true := h
    rw [Bool.and_eq_true] at h
    have e1 : LeS p x := by
      unfold LeS
      rw [← ltCps_eq]
      simpa using h.1
    have ih := ris_pw r x h.2
    refine List.pairwise_cons.mpr ⟨fun y hy => ?_, ih⟩
    rcases List.mem_cons.mp hy with rfl | hy
    · exact e1
    · exact leS_trans e1 (List.rel_of_pairwise_cons ih hy)
theorem srtS_pw : ∀ {l : List Str}, sortedS l = true → l.Pairwise LeS
  | [], _ => .nil
  | p :: r, h => ris_pw r p h
theorem srt_uniq {α : Type} {le : α → α → Prop} (anti : ∀ a b, le a b → le b a → a = b) : ∀ {l m : List α}, l.Pairwise le → m.Pairwise le → l.Perm m → l = m
  | [], m, _, _, p => (List.nil_perm.mp p).symm
  | a :: l, [], _, _, p => absurd p.symm (by simp)
  | a :: l, b :: m, hl, hm, p => by
    have e : a = b := by
      rcases List.mem_cons.mp (p.mem_iff.mp (List.mem_cons_self (a := a) (l := l))) with h | h
      · exact h
      · rcases List.mem_cons.mp (p.mem_iff.mpr (List.mem_cons_self (a := b) (l := m))) with g | g
        · exact g.symm
        · exact anti _ _ (List.rel_of_pairwise_cons hl g) (List.rel_of_pairwise_cons hm h)
    subst e
    rw [srt_uniq anti (List.pairwise_cons.mp hl).2 (List.pairwise_cons.mp hm).2 ((List.perm_cons a).mp p)]
theorem dp_strs {K : PySem.W.Frag} {H : Hp} : ∀ is : List Str, DpAll K H (is.map V.str) (is.map PyData.str)
  | [] => .nil
  | i :: r => .cons (.str i) (dp_strs r)
theorem strs_shaped {is : List Str} (h : ∀ z ∈ is, PyData.strOk z = true) : SeqAt.shaped (.list (is.map PyData.str)) = true := by
  have q : (is.map PyData.str).all flatD = true := by
    rw [List.all_eq_true]
    intro d hd
    obtain ⟨z, hz, rfl⟩ := List.mem_map.mp hd
    exact h z hz
  obtain ⟨h1, h2⟩ := flat_lay q
  unfold SeqAt.shaped
  simp [PyData.canLay0, PyData.depth, h1]
  omega
theorem strs_perm {l m : List Str} (hl : sortedS l = true) (hm : sortedS m = true) (h : l.Perm m) : l = m := srt_uniq (fun _ _ => leS_anti) (srtS_pw hl) (srtS_pw hm) h
def Ent.dataN : Ent → PyData
  | .row id s k m a _ => .tuple [.str "row", .int id, .str s, .str k, .int m, .int a, .none]
  | .fix id m a _ => .tuple [.str "fix", .int id, .int m, .int a, .none]
  | .gone id _ => .tuple [.str "gone", .int id, .none]
theorem entN_dp {K : PySem.W.Frag} {H : Hp} {e : Addr} {x : Ent} (h : H e = some (.tup (x.vs.dropLast ++ [.non]))) : Dp K H (.ref e) x.dataN := by
  cases x with
  | row id s k m a r => exact .tup (SqT.of h) (.cons (.str _) (.cons (.int _) (.cons (.str _) (.cons (.str _) (.cons (.int _) (.cons (.int _) (.cons .non .nil)))))))
  | fix id m a r => exact .tup (SqT.of h) (.cons (.str _) (.cons (.int _) (.cons (.int _) (.cons (.int _) (.cons .non .nil)))))
  | gone id r => exact .tup (SqT.of h) (.cons (.str _) (.cons (.int _) (.cons .non .nil)))
theorem entN_lay {x : Ent} (h : x.ok) : x.dataN.canLay0 = true ∧ x.dataN.depth ≤ 2 := by
  have key : ∀ ds : List PyData, ds.all flatD = true → (PyData.tuple ds).canLay0 = true ∧ (PyData.tuple ds).depth ≤ 2 := fun ds hd => by
    obtain ⟨h1, h2⟩ := flat_lay hd
    simp [PyData.canLay0, PyData.depth, h1]
    omega
  cases x with
  | row id s k m a r =>
    obtain ⟨h1, h2⟩ := h.2 _ _ _ _ _ _ rfl
    have hr : PyData.strOk "row" = true := by decide +kernel
    exact key _ (by simp [flatD, nm_ok h1, nm_ok h2, hr])
  | fix id m a r =>
    have hr : PyData.strOk "fix" = true := by decide +kernel
    exact key _ (by simp [flatD, hr])
  | gone id r =>
    have hr : PyData.strOk "gone" = true := by decide +kernel
    exact key _ (by simp [flatD, hr])
theorem entsN_lay : ∀ {xs : List Ent}, (∀ x ∈ xs, x.ok) → PyData.canLayAll0 (xs.map Ent.dataN) = true ∧ PyData.depthAll (xs.map Ent.dataN) ≤ 2
  | [], _ => by simp [PyData.canLayAll0, PyData.depthAll]
  | x :: xs, h => by
    obtain ⟨h1, h2⟩ := entsN_lay fun y hy => h y (List.mem_cons_of_mem _ hy)
    obtain ⟨h3, h4⟩ := entN_lay (h x List.mem_cons_self)
    rw [List.map_cons]
    simp only [PyData.canLayAll0, PyData.depthAll, h1, h3, Bool.and_self, true_and]
    exact Nat.max_le.mpr ⟨h4, h2⟩
theorem WithN.dp {K : PySem.W.Frag} {H : Hp} : ∀ {us : List V} {xs : List Ent}, WithN H us xs .non → DpAll K H us (xs.map Ent.dataN)
  | [], [], _ => .nil
  | [], _ :: _, h => by have := h.1; simp at this
  | _ :: _, [], h => by have := h.1; simp at this
  | v :: us, x :: xs, h => by
    obtain ⟨e, rfl, h2, _⟩ := h.2 0 v x rfl rfl
    exact .cons (entN_dp h2) (WithN.dp ⟨by have := h.1; simpa using this, fun i v x a b => h.2 (i + 1) v x a b⟩)
theorem WithN.ok {H : Hp} {us : List V} {xs : List Ent} {w : V} (h : WithN H us xs w) : ∀ x ∈ xs, x.ok := fun x hx => by
  obtain ⟨i, hi, e⟩ := List.getElem_of_mem hx
  have hu : i < us.length := by rw [h.1]; exact hi
  obtain ⟨_, _, _, h3⟩ := h.2 i us[i] x (List.getElem?_eq_getElem hu) (by rw [List.getElem?_eq_getElem hi, e])
  exact h3
theorem toldN_shaped {xs : List Ent} (h : ∀ x ∈ xs, x.ok) : SeqAt.shaped (.tuple [.str "told", .list (xs.map Ent.dataN)]) = true := by
  obtain ⟨h1, h2⟩ := entsN_lay h
  have hw : PyData.strOk "told" = true := by decide +kernel
  unfold SeqAt.shaped
  simp [PyData.canLay0, PyData.canLayAll0, PyData.depth, PyData.depthAll, h1, hw]
  omega
theorem shaped_fl {ds : List PyData} (h : ds.all flatD = true) : SeqAt.shaped (.tuple ds) = true := by
  obtain ⟨h1, h2⟩ := flat_lay h
  unfold SeqAt.shaped
  simp [PyData.canLay0, PyData.depth, h1]
  omega
/-- what a deed tells, as data -/
inductive Tl (K : PySem.W.Frag) (H : Hp) (t : Addr) : PyData → Prop
  | one (s : Str) : H t = some (.tup [.str s]) → PyData.strOk s = true → Tl K H t (.tuple [.str s])
  | non (s : Str) : H t = some (.tup [.str s, .non]) → PyData.strOk s = true → Tl K H t (.tuple [.str s, .none])
  | int (s : Str) (n : Int) : H t = some (.tup [.str s, .int n]) → PyData.strOk s = true → Tl K H t (.tuple [.str s, .int n])
  | str (s z : Str) : H t = some (.tup [.str s, .str z]) → PyData.strOk s = true → PyData.strOk z = true → Tl K H t (.tuple [.str s, .str z])
  | lst (l : Addr) (us : List V) (xs : List Ent) : H t = some (.tup [.str "told", .ref l]) → H l = some (.lst us) → WithN H us xs .non → Tl K H t (.tuple [.str "told", .list (xs.map Ent.dataN)])
theorem Tl.dp {K : PySem.W.Frag} {H : Hp} {t : Addr} {d : PyData} (h : Tl K H t d) : Dp K H (.ref t) d ∧ SeqAt.shaped d = true := by
  cases h with
  | one s h hs => exact ⟨.tup (SqT.of h) (.cons (.str _) .nil), shaped_fl (by simp [flatD, hs])⟩
  | non s h hs => exact ⟨.tup (SqT.of h) (.cons (.str _) (.cons .non .nil)), shaped_fl (by simp [flatD, hs])⟩
  | int s n h hs => exact ⟨.tup (SqT.of h) (.cons (.str _) (.cons (.int _) .nil)), shaped_fl (by simp [flatD, hs])⟩
  | str s z h hs hz => exact ⟨.tup (SqT.of h) (.cons (.str _) (.cons (.str _) .nil)), shaped_fl (by simp [flatD, hs, hz])⟩
  | lst l us xs h hl hW => exact ⟨.tup (SqT.of h) (.cons (.str _) (.cons (.lst (SqL.of hl) hW.dp) .nil)), toldN_shaped hW.ok⟩
theorem Tl.same {K : PySem.W.Frag} {H H' : Hp} {t : Addr} {d : PyData} (h : Tl K H t d) (s : Same H H') : Tl K H' t d := by
  cases h with
  | one s0 h hs => exact .one s0 (s _ _ h) hs
  | non s0 h hs => exact .non s0 (s _ _ h) hs
  | int s0 n h hs => exact .int s0 n (s _ _ h) hs
  | str s0 z h hs hz => exact .str s0 z (s _ _ h) hs hz
  | lst l us xs h hl hW => exact .lst l us xs (s _ _ h) (s _ _ hl) (hW.same s)
theorem Tl.ne {K : PySem.W.Frag} {H : Hp} {t t' : Addr} {d : PyData} {Q : VK} (h : Tl K H t d) (h' : Tl K H t' d) (q : Q (.bl false) H) : rNeD K (.ref t) (.ref t') H Q := by
  refine ⟨d, d, h.dp.1, h'.dp.1, h.dp.2, h.dp.2, ?_⟩
  rw [SeqAt.eqv_refl _ (SeqAt.canLay_of_shaped h.dp.2)]
  exact q
theorem neD_strs {K : PySem.W.Frag} {H : Hp} {l d : Addr} {zs : List Str} {Q : VK} (hl : H l = some (.lst (zs.map V.str))) (hd : H d = some (.lst (zs.map V.str))) (ok : ∀ z ∈ zs, PyData.strOk z = true) (q : Q (.bl false) H) : rNeD K (.ref l) (.ref d) H Q := by
  refine ⟨_, _, .lst (SqL.of hl) (dp_strs zs), .lst (SqL.of hd) (dp_strs zs), strs_shaped ok, strs_shaped ok, ?_⟩
  rw [SeqAt.eqv_refl _ (SeqAt.canLay_of_shaped (strs_shaped ok))]
  exact q
theorem OfM.notup {c : Cls6} {B A : Addr → Prop} {H : Hp} {a : OA} {S : OS} (h : OfM c B A H a S) : ∀ x, B x → H x ≠ none ∧ ∀ ys, H x ≠ some (.tup ys) := fun x hx => by
  obtain ⟨u, e, mu⟩ := h.BT x hx
  rw [e]
  refine ⟨(fun z => nomatch z), fun ys z => ?_⟩
  cases z
  exact mu
theorem Tl.fr {K : PySem.W.Frag} {H H' : Hp} {t : Addr} {d : PyData} (h : Tl K H t d) (nl : ∀ l, d ≠ .tuple [.str "told", .list l]) (k : ∀ ys, H t = some (.tup ys) → H' t = some (.tup ys)) : Tl K H' t d := by
  cases h with
  | one s0 h hs => exact .one s0 (k _ h) hs
  | non s0 h hs => exact .non s0 (k _ h) hs
  | int s0 n h hs => exact .int s0 n (k _ h) hs
  | str s0 z h hs hz => exact .str s0 z (k _ h) hs hz
  | lst l us xs h hl hW => exact absurd rfl (nl _)
theorem ok_told : PyData.strOk "told" = true := by decide +kernel
theorem ok_idle : PyData.strOk "idle" = true := by decide +kernel
theorem ok_busy : PyData.strOk "busy" = true := by decide +kernel
theorem ok_stale : PyData.strOk "stale" = true := by decide +kernel
theorem ok_entry' : PyData.strOk "entry" = true := by decide +kernel
theorem ok_nothing : PyData.strOk "nothing" = true := by decide +kernel
def Al {α β : Type} (R : α → β → Prop) : List α → List β → Prop
  | [], [] => True
  | a :: as, b :: bs => R a b ∧ Al R as bs
  | _, _ => False
section
variable {α β γ δ : Type} {R : α → β → Prop} {R' : γ → δ → Prop}
theorem Al.len : ∀ {as : List α} {bs : List β}, Al R as bs → as.length = bs.length
  | [], [], _ => rfl
  | a :: as, b :: bs, h => by rw [List.length_cons, List.length_cons, h.2.len]
theorem Al.map {f : α → γ} {g : β → δ} (k : ∀ a b, R a b → R' (f a) (g b)) : ∀ {as : List α} {bs : List β}, Al R as bs → Al R' (as.map f) (bs.map g)
  | [], [], _ => trivial
  | a :: as, b :: bs, h => ⟨k _ _ h.1, h.2.map k⟩
theorem Al.mono {S : α → β → Prop} (k : ∀ a b, R a b → S a b) : ∀ {as : List α} {bs : List β}, Al R as bs → Al S as bs
  | [], [], _ => trivial
  | a :: as, b :: bs, h => ⟨k _ _ h.1, h.2.mono k⟩
theorem Al.app {as' : List α} {bs' : List β} (g : Al R as' bs') : ∀ {as : List α} {bs : List β}, Al R as bs → Al R (as ++ as') (bs ++ bs')
  | [], [], _ => g
  | a :: as, b :: bs, h => ⟨h.1, Al.app g h.2⟩
theorem Al.filter {f : α → Bool} {g : β → Bool} (k : ∀ a b, R a b → f a = g b) : ∀ {as : List α} {bs : List β}, Al R as bs → Al R (as.filter f) (bs.filter g)
  | [], [], _ => trivial
  | a :: as, b :: bs, h => by
    rw [List.filter_cons, List.filter_cons, k _ _ h.1]
    split
    · exact ⟨h.1, h.2.filter k⟩
    · exact h.2.filter k
theorem Al.find {f : α → Bool} {g : β → Bool} (k : ∀ a b, R a b → f a = g b) : ∀ {as : List α} {bs : List β}, Al R as bs → (as.find? f = none ∧ bs.find? g = none) ∨ ∃ a b, as.find? f = some a ∧ bs.find? g = some b ∧ R a b
  | [], [], _ => .inl ⟨rfl, rfl⟩
  | a :: as, b :: bs, h => by
    rw [List.find?_cons, List.find?_cons, k _ _ h.1]
    cases g b with
    | true => exact .inr ⟨a, b, rfl, rfl, h.1⟩
    | false => exact h.2.find k
end
end Ash

set_option Elab.async false
set_option linter.all false
set_option maxRecDepth 100000
set_option maxHeartbeats 4000000
set_option pp.maxSteps 1500
namespace Ash
open PySem PySem.Spec PyProof.Rows L2
open C8 (pss_cut)
/-! ### closed drafts behind the entries -/
structure Cl where
  t : Addr
  l : Addr
  us : List V
  es : List Ent
  r : Int
def Cl.put (x : Cl) : List Ent := x.es.map (·.at_ x.r)
def flat (cs : List Cl) : List Ent := cs.flatMap Cl.put
def ClAt (H : Hp) (x : Cl) : Prop := H x.t = some (.tup [.ref x.l, .int x.r]) ∧ H x.l = some (.lst x.us) ∧ DEnts H x.us x.es
theorem ClAt.same {H H' : Hp} {x : Cl} (h : ClAt H x) (s : Same H H') : ClAt H' x := ⟨s _ _ h.1, s _ _ h.2.1, h.2.2.same s⟩
def spAppended : Sp := fun vs H Q _ => ∃ (q1 C : Addr) (us : List V) (xs : List Ent) (cs : List Cl), vs = [.ref q1, .ref C] ∧ H q1 = some (.lst us) ∧ Ents H us xs ∧ H C = some (.lst (cs.map fun x => .ref x.t)) ∧ (∀ x ∈ cs, ClAt H x) ∧ (xs ++ flat cs).length ≤ 900 ∧
  ∀ l us' H', Same H H' → H l = none → H' l = some (.lst us') → Ents H' us' (xs ++ flat cs) → Q (.ref l) H'
section
variable {P : Program} {w : World} {K : PySem.W.Frag} {mg : Str → Option Value} {base : Heap}
abbrev s_l_appended : Stmt := topS 59
theorem sc_l_appended : FnScope ["_law_entries_here", "_law_closed", "_law_found", "_law_drafted_here", "_law_arrival", "_law_entry_here"] ["_law_entries_here", "_law_closed"] (defScope s_l_appended) := ⟨rfl, rfl, rfl, by decide +kernel, rfl, by decide +kernel, by decide +kernel⟩
theorem ok_appended {f : Addr} {fd : FuncData} (F : Fun K "_law_appended" "_law_appended" s_l_appended f fd) (B : Blt mg) : FnOk P w K mg base CX0 1 f fd ["_law_entries_here", "_law_closed"] spAppended := by
  refine F.ok sc_l_appended (fun vs H Q E h => ?_) (fun cdv A outer s H vs Q E hr h => ?_)
  · obtain ⟨q1, C, us, xs, cs, rfl, _⟩ := h
    rfl
  · obtain ⟨q1, C, us, xs, cs, rfl, hq, hE, hC, hcs, h9, q⟩ := h
    have one : (1 : Nat) ≤ sizeLine := by decide
    refine ⟨_, (pss_cons (ps_set (i := 2) sc_l_appended.nd rfl (Or.inl rfl) (pe_callTy call_list_of (by rfl) B.list (by decide +kernel) (pa_cons (pv 0) pa_nil)))
    (pss_cons (ps_for PassesOwn.never rfl (pi_list (pv 1)) (pg_tup (by rfl) (pgs_cons (pg_name (i := 3) sc_l_appended.nd rfl (Or.inl rfl)) (pgs_cons (pg_name (i := 4) sc_l_appended.nd rfl (Or.inr rfl)) pgs_nil)))
      (pss_one (ps_set (i := 2) sc_l_appended.nd rfl (Or.inl rfl) (pe_op op_cat (pv 2) (pe_lc (own := [("_law_entry_here", 5)]) (g := gName 5) (tt := tYes) (by rfl) sc_l_appended.nd (pi_list (pv 3)) (blkOk_by (own := [("_law_entry_here", 5)]) (N := ["_law_entries_here", "_law_closed", "_law_found", "_law_drafted_here", "_law_arrival", "_law_entry_here"]) (sc := defScope s_l_appended) (by decide +kernel)) (fun _ _ _ _ _ => (pg_name (i := 5) sc_l_appended.nd rfl (Or.inl rfl))) (fun _ _ _ _ _ => pts_nil) (fun _ _ _ _ _ => (pe_op (show OpR _ _ (rCatT K) from op_catT) (pv 5) (pe_tup (pa_cons (pv 4) pa_nil)))))))))
    (pss_one (ps_ret (pv 2))))), ?_⟩
    refine ⟨_, rfl, q1, us, rfl, .inl (SqL.of hq), fun l0 nl0 => ?_⟩
    have s1 : Same H (upd H l0 (.lst us)) := sameAt (Same.refl _) nl0
    have hl0 : (upd H l0 (.lst us)) l0 = some (.lst us) := upd_same
    generalize (upd H l0 (.lst us)) = H1 at s1 hl0 ⊢
    refine ⟨_, rfl, C, rfl, ⟨_, SqL.of (s1 _ _ hC)⟩, ?_⟩
    refine for_list (a := C) (xs := cs.map fun x => .ref x.t) (fun i σ H2 => ∃ (l : Addr) (us' : List V), (∃ x3 x4 x5, σ = [some (.ref q1), some (.ref C), some (.ref l), x3, x4, x5]) ∧ H2 l = some (.lst us') ∧ H l = none ∧ Ents H2 us' (xs ++ flat (cs.take i)) ∧ Same H H2) ?_ (fun i σ H2 _ hv => by obtain ⟨_, _, _, _, _, _, s2⟩ := hv; exact SqL.of (s2 _ _ hC)) ?_ ?_
    · exact ⟨l0, us, ⟨_, _, _, rfl⟩, hl0, nl0, by rw [List.take_zero]; show Ents H1 us (xs ++ []); rw [List.append_nil]; exact hE.same s1, s1⟩
    · rintro i v σ H2 hvi ⟨l, us', ⟨x3, x4, x5, rfl⟩, hl, nl, hE2, s2⟩
      rw [List.getElem?_map] at hvi
      obtain ⟨x, hx, rfl⟩ : ∃ x, cs[i]? = some x ∧ v = .ref x.t := by
        cases e : cs[i]? with
        | none => rw [e] at hvi; cases hvi
        | some x => rw [e] at hvi; exact ⟨x, rfl, (Option.some.inj hvi).symm⟩
      obtain ⟨c1, c2, c3⟩ := (hcs x (List.mem_of_getElem? hx)).same s2
      have efl : flat (cs.take (i + 1)) = flat (cs.take i) ++ x.put := by
        unfold flat
        rw [List.take_add_one, hx, List.flatMap_append]
        simp
      have hln : (xs ++ flat (cs.take i)).length + x.es.length ≤ 900 := by
        have e2 : flat cs = flat (cs.take (i + 1)) ++ flat (cs.drop (i + 1)) := by
          unfold flat
          rw [← List.flatMap_append, List.take_append_drop]
        rw [e2, efl] at h9
        simp only [List.length_append] at h9 ⊢
        have : x.put.length = x.es.length := List.length_map _
        omega
      have hdl := c3.1
      refine ⟨_, _, rfl, SqT.of c1, rfl, _, _, rfl, _, _, rfl, rfl, _, rfl, _, rfl, x.l, rfl, ⟨_, SqL.of c2⟩, fun D4 hD40 => ?_⟩
      refine lc_list (a := x.l) (xs := x.us) (fun j H4 => ∃ us4, H4 D4 = some (.lst us4) ∧ WithN H4 us4 (x.es.take j) (.int x.r) ∧ Same H2 H4) ⟨[], upd_same, ⟨rfl, fun _ _ _ e => nomatch e⟩, sameAt (Same.refl _) hD40⟩ (fun i H4 _ hv => by obtain ⟨_, _, _, h⟩ := hv; exact SqL.of (h _ _ c2)) ?_ ?_
      · rintro j v H5 hvj ⟨us5, hD5, hW, s5⟩
        have hil := (List.getElem?_eq_some_iff.mp hvj).1
        obtain ⟨y, hy⟩ : ∃ y, x.es[j]? = some y := ⟨_, List.getElem?_eq_getElem (by rw [← hdl]; exact hil)⟩
        obtain ⟨e1, rfl, he, ok⟩ := c3.2 j v y hvj hy
        have he5 : H5 e1 = some (.tup y.vs.dropLast) := s5 _ _ he
        refine ⟨rfl, _, rfl, _, rfl, one, fun t1 nt1 => ?_⟩
        have s6 : Same H5 (upd H5 t1 (.tup [.int x.r])) := sameAt (Same.refl _) nt1
        have ne1 : y.vs.dropLast ≠ [] := by cases y <;> exact fun z => nomatch z
        refine ⟨e1, t1, _, _, rfl, rfl, SqT.of (s6 _ _ he5), SqT.of upd_same, ne1, (by have := vs_lenW y (.int x.r); rw [List.length_append] at this; exact this), (fun z => nomatch z), fun _ t2 nt2 => ?_⟩
        have s57 := s6.trans (sameAt (o := .tup (y.vs.dropLast ++ [.int x.r])) (Same.refl _) nt2)
        have hul : us5.length ≤ 900 := by
          have := hW.1
          rw [List.length_take] at this
          omega
        have h2 : (upd (upd H5 t1 (.tup [.int x.r])) t2 (.tup (y.vs.dropLast ++ [.int x.r]))) t2 = some (.tup (y.vs.dropLast ++ [.int x.r])) := upd_same
        generalize (upd (upd H5 t1 (.tup [.int x.r])) t2 (.tup (y.vs.dropLast ++ [.int x.r]))) = H7 at s57 h2 ⊢
        have hD7 := s57 _ _ hD5
        refine ⟨us5, hD7, small1000 (by omega), us5 ++ [.ref t2], upd_same, ?_, sameAt (s5.trans s57) hD40⟩
        rw [list_take' hy]
        have s8 : ∀ (k : Addr) (xs : List V), H7 k = some (.tup xs) → (upd H7 D4 (.lst (us5 ++ [V.ref t2]))) k = some (.tup xs) := fun k xs h => by
          rw [upd_ne (fun z => by rw [z, hD7] at h; cases h)]
          exact h
        refine WithN.snoc ⟨hW.1, fun k v y a b => ?_⟩ (s8 _ _ h2) ok
        obtain ⟨e', h1, h2, h3⟩ := hW.2 k v y a b
        exact ⟨e', h1, s8 _ _ (s57 _ _ h2), h3⟩
      rintro H5 ⟨us5, hD5, hW, s5⟩
      rw [List.take_of_length_le (by rw [hdl]; exact Nat.le_refl _)] at hW
      have hul : us5.length = x.es.length := hW.1
      have hll := hE2.1
      refine ⟨l, D4, _, _, rfl, rfl, s5 _ _ hl, hD5, Nat.le_of_lt (small1000 (by omega)), fun wp nwp => ?_⟩
      have s6 : Same H5 (upd H5 wp (.lst (us' ++ us5))) := sameAt (Same.refl _) nwp
      refine ⟨wp, us' ++ us5, ⟨_, _, _, rfl⟩, upd_same, no_of (s2.trans s5) nwp, ?_, (s2.trans s5).trans s6⟩
      rw [efl, ← List.append_assoc]
      exact ((hE2.same s5).same s6).append (hW.ents.same s6)
    · rintro σ H2 ⟨l, us', ⟨x3, x4, x5, rfl⟩, hl, nl, hE2, s2⟩
      rw [List.length_map, List.take_length] at hE2
      exact ⟨_, rfl, q l us' H2 s2 nl hl hE2⟩
end
end Ash

set_option Elab.async false
set_option linter.all false
set_option maxRecDepth 100000
set_option maxHeartbeats 4000000
set_option pp.maxSteps 1500
namespace Ash
open PySem PySem.Spec PyProof.Rows L2
open C8 (pss_cut)
/-! ### an office of one draft alone, new behind a heap -/
def mkW (S : OS) (z : Str) (t l : Addr) (es : List Ent) : OS := { S with ps := [⟨z, t, l, S.cl, es⟩] }
theorem mkW_put (S : OS) (z : Str) (t l : Addr) (es : List Ent) (x : Ent) : (mkW S z t l es).putd z x = mkW S z t l (es ++ [x]) := by
  unfold mkW OS.putd
  simp
theorem mkW_drop (S : OS) (z : Str) (t l : Addr) (es : List Ent) : (mkW S z t l es).dropd z = { S with ps := [] } := by
  unfold mkW OS.dropd
  simp
theorem mkW_find (S : OS) (z : Str) (t l : Addr) (es : List Ent) : (mkW S z t l es).find z = some ⟨z, t, l, S.cl, es⟩ := by
  unfold mkW OS.find
  simp
structure RI (c : Cls6) (H0 : Hp) (B A : Addr → Prop) (H : Hp) (a : OA) (S : OS) : Prop where
  M : OfM c B A H a S
  k : Same H0 H
  n : ∀ q, A q → H0 q = none
theorem RI.same {c : Cls6} {H0 H H' : Hp} {B A : Addr → Prop} {a : OA} {S : OS} (h : RI c H0 B A H a S) (s : Same H H') : RI c H0 B A H' a S := ⟨h.M.same s, h.k.trans s, h.n⟩
theorem RI.office {c : Cls6} {H0 H H' : Hp} {B A A' : Addr → Prop} {a a' : OA} {S S' : OS} (h : RI c H0 B A H a S) (f : Fr A H A' H') (M : OfM c (uni B A') A' H' a' S') : RI c H0 (uni B A') A' H' a' S' :=
  ⟨M, (fun q x e => f.k _ _ (h.k _ _ e) fun z => by rw [h.n _ z] at e; cases e), fun q z => (f.g q z).elim (h.n q) fun e => no_of h.k e⟩
def spReplayed (c : Cls6) : Sp := fun vs H Q _ => ∃ (b j bj C : Addr) (L : List (Str × Int)) (us : List V) (xs : List Ent) (cs : List Cl), vs = [.ref b, .ref j, .ref C] ∧ BookAt c.CB H b L ∧ JAt c.K c.aT c.CJ c.CB H j bj L us xs ∧ us.length ≤ 400 ∧ H C = some (.lst (cs.map fun x => .ref x.t)) ∧ (∀ x ∈ cs, ClAt H x ∧ (∀ y ∈ x.es, DOk L y) ∧ x.es.length ≤ 20) ∧ Good L (xs ++ flat cs) ∧ (xs ++ flat cs).length ≤ 400 ∧ cs.length ≤ 60 ∧
  ∀ j' us' H', Same H H' → JAt c.K c.aT c.CJ c.CB H' j' bj L us' (xs ++ flat cs) → Q (.ref j') H'
theorem flat_take (cs : List Cl) {i : Nat} {x : Cl} (hx : cs[i]? = some x) : flat (cs.take (i + 1)) = flat (cs.take i) ++ x.put := by
  unfold flat
  rw [List.take_add_one, hx, List.flatMap_append]
  simp
theorem flat_split (cs : List Cl) (i : Nat) : flat cs = flat (cs.take i) ++ flat (cs.drop i) := by
  unfold flat
  rw [← List.flatMap_append, List.take_append_drop]
theorem good_left {L : List (Str × Int)} {xs ys : List Ent} (h : Good L (xs ++ ys)) : Good L xs := by
  have := good_pre h 0
  rwa [List.take_zero, List.append_nil] at this
section
variable {P : Program} {w : World} {mg : Str → Option Value} {base : Heap} {c : Cls6} {e : Errs}
structure GRp (P : Program) (w : World) (mg : Str → Option Value) (base : Heap) (c : Cls6) (e : Errs) : Prop where
  T : Co c.K mg c.CO
  begin_ : Met P w c.K mg base (L2.CX P w) c.CO "begin" 3 ["self", "writer"] (spBeginO c e.CN e.CY)
  law_put_in : Cal P w c.K mg base CX0 "_law_put_in" 14 ["_law_office", "_law_writer", "_law_entry_here"] (spPutIn c e)
  law_done : Cal P w c.K mg base CX0 "_law_done" 13 ["_law_which", "_law_office", "_law_given"] (spDone c e)
  Office : Mak P w c.K mg base (L2.CX P w) "Office" c.CO 4 ["self", "book", "journal"] (spOfInit c)
abbrev s_l_replayed : Stmt := topS 58
theorem sc_l_replayed : FnScope ["_law_book", "_law_journal", "_law_closed", "_law_office", "_law_entries_here", "_law_arrival", "_law_entry_here"] ["_law_book", "_law_journal", "_law_closed"] (defScope s_l_replayed) := ⟨rfl, rfl, rfl, by decide +kernel, rfl, by decide +kernel, by decide +kernel⟩
theorem ok_replayed {f : Addr} {fd : FuncData} (F : Fun c.K "_law_replayed" "_law_replayed" s_l_replayed f fd) (B : Blt mg) (G : GRp P w mg base c e) : FnOk P w c.K mg base CX0 15 f fd ["_law_book", "_law_journal", "_law_closed"] (spReplayed c) := by
  have T := G.T
  refine F.ok sc_l_replayed (fun vs H Q E h => ?_) (fun cdv A0 outer s H vs Q E hr h => ?_)
  · obtain ⟨b, j, bj, C, L, us, xs, cs, rfl, _⟩ := h
    rfl
  · obtain ⟨b, j, bj, C, L, us, xs, cs, rfl, hb, hj, h4, hC, hcs, hg, hl, hc6, q⟩ := h
    have hu := hu_of hr
    have one : (1 : Nat) ≤ sizeLine := by decide
    have two : (2 : Nat) ≤ sizeLine := by decide
    refine ⟨_, (pss_cons (ps_set (i := 3) sc_l_replayed.nd rfl (Or.inl rfl) (pe_mak G.Office (hr.mono (by decide)) (passE takes0) (pa_cons (pv 0) (pa_cons (pv 1) pa_nil))))
    (pss_cons (ps_for PassesOwn.never rfl (pi_list (pv 2)) (pg_tup (by rfl) (pgs_cons (pg_name (i := 4) sc_l_replayed.nd rfl (Or.inl rfl)) (pgs_cons (pg_name (i := 5) sc_l_replayed.nd rfl (Or.inl rfl)) pgs_nil)))
      (pss_cons (ps_expr (pe_met T.cl G.begin_ (hr.mono (by decide)) (passE takes0) (pv 3) (pa_cons pe_str pa_nil)))
      (pss_cons (ps_for PassesOwn.never rfl (pi_list (pv 4)) (pg_name (i := 6) sc_l_replayed.nd rfl (Or.inl rfl))
        (pss_one (ps_if (pt_cmpR (op_neD hr.units) (pe_cal G.law_put_in (hr.mono (by decide)) pass0 (pa_cons (pv 3) (pa_cons pe_str (pa_cons (pv 6) pa_nil)))) (pe_tup (pa_cons pe_str (pa_cons pe_non pa_nil))) (nomark _))
          (pss_one (ps_ret pe_non))
          pss_nil)))
      (pss_one (ps_if (pt_cmpR (op_neD hr.units) (pe_cal G.law_done (hr.mono (by decide)) pass0 (pa_cons pe_int (pa_cons (pv 3) (pa_cons (pe_tup (pa_cons pe_str (pa_cons (pv 5) pa_nil))) pa_nil)))) (pe_tup (pa_cons pe_str (pa_cons (pe_callB call_len_seq (by rfl) B.len (by decide +kernel) (pa_cons (pv 4) pa_nil)) pa_nil))) (nomark _))
        (pss_one (ps_ret pe_non))
        pss_nil)))))
    (pss_one (ps_ret (pe_fld (pv 3) rfl))))), ?_⟩
    refine ⟨_, rfl, _, rfl, fun o dxo no ndo neo => ?_⟩
    have sO : Same H (upd (upd H dxo (.own o)) o (.ins c.CO dxo [])) := (sameAt (Same.refl _) ndo).trans (sameAt (Same.refl _) (by rw [upd_ne (Ne.symm neo)]; exact no))
    have hoI : (upd (upd H dxo (.own o)) o (.ins c.CO dxo [])) o = some (.ins c.CO dxo []) := upd_same
    have cO : Same H (cutH (fun x => x = o) (upd (upd H dxo (.own o)) o (.ins c.CO dxo []))) := fun q u h => cut_at (fun z => by rw [z, no] at h; cases h) (sO _ _ h)
    refine ⟨fun x => x = o, o, dxo, b, j, bj, L, us, xs, rfl, hoI, rfl, fun x hx => ⟨.ins c.CO dxo [], by rw [show x = o from hx]; exact hoI, rfl⟩, hb.same cO, hj.same cO, h4, fun oa A' HO eo ej eb ebj kO gO MO => ⟨rfl, ?_⟩⟩
    have R0 : RI c H (uni (fun x => x = o) A') A' HO oa (newOS L xs us) := ⟨MO, (fun q u h => kO _ _ (sO _ _ h) fun z => by rw [z, no] at h; cases h), fun q z => (gO q z).elim (fun z => by rw [z]; exact no) fun h => no_of sO h⟩
    clear hoI cO MO kO gO sO
    generalize (uni (fun x => x = o) A') = B0 at R0
    refine ⟨_, rfl, C, rfl, ⟨_, SqL.of (R0.k _ _ hC)⟩, ?_⟩
    refine for_list (a := C) (xs := cs.map fun x => .ref x.t) (fun i σ H2 => ∃ (B A : Addr → Prop) (a : OA) (S : OS), (∃ x4 x5 x6, σ = [some (.ref b), some (.ref j), some (.ref C), some (.ref o), x4, x5, x6]) ∧ RI c H B A H2 a S ∧ a.o = o ∧ a.bj = bj ∧ S.L = L ∧ S.xs = xs ++ flat (cs.take i) ∧ S.ps = [] ∧ (∀ b ∈ S.cb, b ≤ S.cl) ∧ S.past.length = i) ?_ (fun i σ H2 _ hv => by obtain ⟨_, _, _, _, _, R, _⟩ := hv; exact SqL.of (R.k _ _ hC)) ?_ ?_
    · refine ⟨_, _, oa, _, ⟨_, _, _, rfl⟩, R0, eo, ebj, rfl, by rw [List.take_zero]; exact (List.append_nil _).symm, rfl, fun b hb => ?_, rfl⟩
      rw [(List.mem_replicate.mp (show b ∈ List.replicate xs.length (0 : Int) from hb)).2]
      exact Int.le_refl _
    · rintro i v σ H2 hvi ⟨B1, A1, a, S, ⟨x4, x5, x6, rfl⟩, R, ea, eb1, eL, eX, eP, hcb, hpa⟩
      rw [List.getElem?_map] at hvi
      obtain ⟨x, hx, rfl⟩ : ∃ x, cs[i]? = some x ∧ v = .ref x.t := by
        cases e : cs[i]? with
        | none => rw [e] at hvi; cases hvi
        | some x => rw [e] at hvi; exact ⟨x, rfl, (Option.some.inj hvi).symm⟩
      obtain ⟨hcl, hok, h20⟩ := hcs x (List.mem_of_getElem? hx)
      have hil := (List.getElem?_eq_some_iff.mp hx).1
      obtain ⟨c1, c2, c3⟩ := hcl.same R.k
      have efl := flat_take cs hx
      have hspl := flat_split cs (i + 1)
      have hg1 : Good L (S.xs ++ x.put) := by
        rw [eX, List.append_assoc, ← efl]
        rw [hspl, ← List.append_assoc] at hg
        exact good_left hg
      have hl1 : (S.xs ++ x.put).length ≤ 400 := by
        rw [eX, List.append_assoc, ← efl]
        rw [hspl, ← List.append_assoc, List.length_append] at hl
        omega
      have hpl : x.put.length = x.es.length := List.length_map _
      refine ⟨_, _, rfl, SqT.of c1, rfl, _, _, rfl, _, _, rfl, rfl, ?_⟩
      rw [show o = a.o from ea.symm]
      refine ⟨_, rfl, a.o, a.dx, _, rfl, R.M.o, rfl, B1, A1, a, S, .str "again", rfl, R.M, str_ok (by decide), by rw [eP]; decide, fun z t l A2 H3 ez hn en fr iff M1 => ?_, fun d x2 H3 ed => ?_, fun x2 H3 hn => by cases hn⟩
      rotate_left
      · have ed : S.find "again" = some d := ed
        unfold OS.find at ed
        rw [eP] at ed; cases ed
      cases ez
      have eS1 : ({ S with ps := S.ps ++ [⟨"again", t, l, S.cl, []⟩] } : OS) = mkW S "again" t l [] := by unfold mkW; rw [eP]; rfl
      rw [eS1] at M1
      have R1 := R.office fr M1
      have cl := hcl.2.1
      have cD := hcl.2.2
      have hdl := cD.1
      generalize (uni B1 A2) = B2 at R1
      refine ⟨_, rfl, x.l, rfl, ⟨_, SqL.of (R1.k _ _ cl)⟩, ?_⟩
      refine for_list (a := x.l) (xs := x.us) (fun k σ H4 => ∃ (B3 A3 : Addr → Prop), (∃ x6, σ = [some (.ref b), some (.ref j), some (.ref C), some (.ref a.o), some (.ref x.l), some (.int x.r), x6]) ∧ RI c H B3 A3 H4 a (mkW S "again" t l ((x.es.take k).map (·.at_ 0)))) ⟨B2, A2, ⟨_, rfl⟩, R1⟩ (fun k σ H4 _ hv => by obtain ⟨_, _, _, R⟩ := hv; exact SqL.of (R.k _ _ cl)) ?_ ?_
      · rintro k v σ H4 hvk ⟨B3, A3, ⟨x6, rfl⟩, R3⟩
        have hkl := (List.getElem?_eq_some_iff.mp hvk).1
        obtain ⟨y, hy⟩ : ∃ y, x.es[k]? = some y := ⟨_, List.getElem?_eq_getElem (by rw [← hdl]; exact hkl)⟩
        obtain ⟨e1, rfl, he, oky⟩ := cD.2 k v y hvk hy
        have he4 : H4 e1 = some (.tup y.vs.dropLast) := R3.k _ _ he
        have dy := hok y (List.mem_of_getElem? hy)
        have ok0 := dy.at0 0
        have hdx : DAt H4 e1 y := he4
        refine ⟨_, rfl, _, rfl, a, _, .str "again", e1, y, rfl, R3.M.o, hdx, fun H5 s5 => ?_⟩
        have R5 := R3.same s5
        refine called_put R5.M (str_ok (by decide)) ok0.1 ⟨fun d' H6 ed h20' hin fr M6 => ?_, fun d' e' H6 ed hb => ?_, fun e' H6 en => ?_⟩
        · have ed : (mkW S "again" t l ((x.es.take k).map (·.at_ 0))).find "again" = some d' := ed
          rw [mkW_find] at ed
          cases ed
          rw [mkW_put, show (x.es.take k).map (·.at_ 0) ++ [y.at_ 0] = (x.es.take (k + 1)).map (·.at_ 0) by rw [list_take' hy, List.map_append]; rfl] at M6
          have R6 := R5.office fr M6
          intro t8 n8
          have R7 := R6.same (sameAt (o := .tup [.str "told", .non]) (Same.refl H6) n8)
          have ht7 : (upd H6 t8 (.tup [.str "told", .non])) t8 = some (.tup [.str "told", .non]) := upd_same
          generalize (upd H6 t8 (.tup [.str "told", .non])) = H7 at R7 ht7 ⊢
          refine ⟨two, fun t9 n9 => ?_⟩
          have R8 := R7.same (sameAt (o := .tup [.str "told", .non]) (Same.refl H7) n9)
          exact Tl.ne (.non _ ((sameAt (o := .tup [.str "told", .non]) (Same.refl H7) n9) _ _ ht7) ok_told) (.non _ upd_same ok_told) ⟨_, rfl, iteF ⟨_, _, ⟨_, rfl⟩, R8⟩⟩
        · have ed : (mkW S "again" t l ((x.es.take k).map (·.at_ 0))).find "again" = some d' := ed
          rw [mkW_find] at ed
          cases ed
          rcases hb with hb | hb
          · have hb : ((x.es.take k).map (·.at_ 0)).length = 20 := hb
            rw [List.length_map, List.length_take] at hb
            omega
          · have hb : ¬ InB S.L (y.at_ 0) := hb
            rw [eL] at hb
            exact absurd ok0.inB hb
        · have en : (mkW S "again" t l ((x.es.take k).map (·.at_ 0))).find "again" = none := en
          rw [mkW_find] at en
          cases en
      rintro σ H4 ⟨B3, A3, ⟨x6, rfl⟩, R3⟩
      rw [show x.es.take x.us.length = x.es by rw [hdl]; exact List.take_length] at R3
      have fnd : ∀ {d : Dr}, wfind (mkW S "again" t l (x.es.map (·.at_ 0))) (.str "again") = some d → (⟨"again", t, l, S.cl, x.es.map (·.at_ 0)⟩ : Dr) = d := fun {d} ed => by
        have ed : (mkW S "again" t l (x.es.map (·.at_ 0))).find "again" = some d := ed
        rw [mkW_find] at ed
        exact Option.some.inj ed
      have eput : (x.es.map (·.at_ 0)).map (·.at_ x.r) = x.put := by
        unfold Cl.put
        rw [List.map_map]
        exact List.map_congr_left fun y _ => at_at y 0 x.r
      have nost : stale (mkW S "again" t l (x.es.map (·.at_ 0))) ⟨"again", t, l, S.cl, x.es.map (·.at_ 0)⟩ = none := no_stale hcb
      refine ⟨_, rfl, _, rfl, two, fun g ng => ?_⟩
      have R4 := R3.same (sameAt (o := .tup [.str "again", .int x.r]) (Same.refl H4) ng)
      have hg4 : (upd H4 g (.tup [.str "again", .int x.r])) g = some (.tup [.str "again", .int x.r]) := upd_same
      generalize (upd H4 g (.tup [.str "again", .int x.r])) = H5 at R4 hg4 ⊢
      refine ⟨a, _, 6, g, [.str "again", .int x.r], rfl, R4.M.o, hg4, .inr (.inr (.inr (.inr (.inr (.inr (.inl ⟨rfl, .str "again", .int x.r, rfl, B3, A3, a, mkW S "again" t l (x.es.map (·.at_ 0)), .str "again", .int x.r, rfl, R4.M, str_ok (by decide), .inl ⟨_, rfl⟩, by show S.past.length ≤ 900; omega, fun x2 H6 en => ?_, fun d x2 H6 ed ni => absurd (int_is ni) id, fun d n m x2 H6 ed er hs => ?_, fun d n k x2 H6 ed er hs hj => ?_, fun d n us' j' H6 ed er hs hg6 hl6 fr6 M6 => ?_⟩))))))⟩
      · have en : (mkW S "again" t l (x.es.map (·.at_ 0))).find "again" = none := en
        rw [mkW_find] at en
        cases en
      · have e1 := fnd ed
        subst e1
        rw [nost] at hs; cases hs
      · have e1 := fnd ed
        subst e1
        cases er
        have hj : JBad S.L S.xs ((x.es.map (·.at_ 0)).map (·.at_ x.r)) k := hj
        rw [eput, eL] at hj
        have h := jb_bad hj (by rw [← List.length_append]; exact hl1)
        unfold Good at hg1
        rw [h] at hg1; cases hg1
      · have e1 := fnd ed
        subst e1
        cases er
        have R6 := R4.office fr6 M6
        intro t8 n8
        have ht7 : (upd H6 t8 (.tup [.str "told", .int ((x.es.map (·.at_ 0)).length : Int)])) t8 = some (.tup [.str "told", .int ((x.es.map (·.at_ 0)).length : Int)]) := upd_same
        have R7 := R6.same (sameAt (o := .tup [.str "told", .int ((x.es.map (·.at_ 0)).length : Int)]) (Same.refl H6) n8)
        generalize (upd H6 t8 (.tup [.str "told", .int ((x.es.map (·.at_ 0)).length : Int)])) = H7 at R7 ht7 ⊢
        refine ⟨_, rfl, x.l, x.us, rfl, .inl (SqL.of (R7.k _ _ cl)), two, fun t9 n9 => ?_⟩
        have R8 := R7.same (sameAt (o := .tup [.str "told", .int (x.us.length : Int)]) (Same.refl H7) n9)
        have ht8 := (sameAt (o := .tup [.str "told", .int (x.us.length : Int)]) (Same.refl H7) n9) _ _ ht7
        rw [List.length_map, ← hdl] at ht8
        refine Tl.ne (.int _ _ ht8 ok_told) (.int _ _ upd_same ok_told) ⟨_, rfl, iteF ⟨_, _, _, _, ⟨_, _, _, rfl⟩, R8, rfl, eb1, eL, ?_, ?_, ?_, ?_⟩⟩
        · show S.xs ++ (x.es.map (·.at_ 0)).map (·.at_ x.r) = _
          rw [eput, eX, List.append_assoc, efl]
        · show ((mkW S "again" t l (x.es.map (·.at_ 0))).dropd "again").ps = []
          rw [mkW_drop]
        · intro b hb
          rcases List.mem_append.mp (show b ∈ S.cb ++ List.replicate (x.es.map (·.at_ 0)).length (S.cl + 1) from hb) with hb | hb
          · have := hcb b hb
            show b ≤ S.cl + 1
            omega
          · rw [(List.mem_replicate.mp hb).2]
            exact Int.le_refl _
        · show (S.past ++ [S.xs.length]).length = i + 1
          rw [List.length_append, hpa]
          rfl
    · rintro σ H2 ⟨B1, A1, a, S, ⟨x4, x5, x6, rfl⟩, R, ea, eb1, eL, eX, eP, hcb, hpa⟩
      rw [List.length_map, List.take_length] at eX
      have J := R.M.jr.same (cut_same _ _)
      rw [eb1, eL, eX] at J
      rw [show o = a.o from ea.symm]
      exact ⟨_, rfl, a.o, c.CO, a.dx, _, _, rfl, R.M.o, T.cl, T.nJ, rfl, q _ _ _ R.k J⟩
end
end Ash

set_option Elab.async false
set_option linter.all false
set_option maxRecDepth 100000
set_option maxHeartbeats 4000000
set_option pp.maxSteps 1500
namespace Ash
open PySem PySem.Spec PyProof.Rows L2
open C8 (pss_cut)
theorem up {B : Addr → Prop} {H : Hp} {p : Addr} {u : HO} (h : cutH B H p = some u) : H p = some u := cut_same _ _ _ _ h
/-! ### the law's drafts and its closed ones, beside the office -/
structure QE where
  z : Str
  l : Addr
  us : List V
  es : List Ent
def EK (q : List QE) : List (Key × V) := q.map fun x => (Sum.inr x.z, V.ref x.l)
def efind (q : List QE) (z : Str) : Option QE := q.find? fun x => decide (x.z = z)
theorem EK_val : ∀ (q : List QE) (z : Str), valV (EK q) (Sum.inr z : Key) = (efind q z).map fun x => V.ref x.l
  | [], z => rfl
  | a :: q, z => by
    have ih := EK_val q z
    unfold efind at ih ⊢
    by_cases h : a.z = z
    · show valV ((Sum.inr a.z, V.ref a.l) :: EK q) (Sum.inr z : Key) = _
      rw [valV_pos (by rw [h]), List.find?_cons_of_pos (by simpa using h)]
      rfl
    · show valV ((Sum.inr a.z, V.ref a.l) :: EK q) (Sum.inr z : Key) = _
      rw [valV_neg (fun e => h (Sum.inr.inj e)), ih, List.find?_cons_of_neg (by simpa using h)]
theorem efind_mem {q : List QE} {z : Str} {x : QE} (h : efind q z = some x) : x ∈ q ∧ x.z = z := ⟨List.mem_of_find?_eq_some h, by simpa using List.find?_some h⟩
/-- one more entry in a draft -/
def eput (q : List QE) (z : Str) (v : V) (y : Ent) : List QE := q.map fun x => if x.z = z then { x with us := x.us ++ [v], es := x.es ++ [y] } else x
theorem eput_map {γ : Type} (f : QE → γ) (hf : ∀ x us es, f { x with us := us, es := es } = f x) (q : List QE) (z : Str) (v : V) (y : Ent) : (eput q z v y).map f = q.map f := by
  unfold eput
  rw [List.map_map]
  refine List.map_congr_left fun a _ => ?_
  show f (if a.z = z then _ else a) = f a
  split
  · exact hf a _ _
  · rfl
def edrop (q : List QE) (z : Str) : List QE := q.filter fun x => decide (x.z ≠ z)
theorem EK_drop (q : List QE) (z : Str) : dropK (EK q) (Sum.inr z : Key) = EK (edrop q z) := by
  unfold dropK EK edrop
  rw [List.filter_map]
  congr 1
  refine List.filter_congr fun d _ => ?_
  exact decide_eq_decide.mpr ⟨fun q e => q (congrArg _ e), fun q e => q (Sum.inr.inj e)⟩
theorem edrop_mem {q : List QE} {z : Str} {x : QE} (h : x ∈ edrop q z) : x ∈ q ∧ x.z ≠ z := by
  obtain ⟨h1, h2⟩ := List.mem_filter.mp h
  exact ⟨h1, of_decide_eq_true h2⟩
def RE (d : Dr) (x : QE) : Prop := d.z = x.z ∧ d.es = x.es
def pastOf (x0 : List Ent) (cs : List Cl) : List Nat := (List.range cs.length).map fun i => (x0 ++ flat (cs.take i)).length
theorem pastOf_snoc (x0 : List Ent) (cs : List Cl) (x : Cl) : pastOf x0 (cs ++ [x]) = pastOf x0 cs ++ [(x0 ++ flat cs).length] := by
  unfold pastOf
  rw [List.length_append, List.length_singleton, List.range_succ, List.map_append]
  congr 1
  · refine List.map_congr_left fun i hi => ?_
    rw [List.take_append_of_le_length (Nat.le_of_lt (List.mem_range.mp hi))]
  · show [(x0 ++ flat ((cs ++ [x]).take cs.length)).length] = _
    rw [List.take_left]
theorem pastOf_len (x0 : List Ent) (cs : List Cl) : (pastOf x0 cs).length = cs.length := by
  unfold pastOf
  rw [List.length_map, List.length_range]
theorem flat_snoc (cs : List Cl) (x : Cl) : flat (cs ++ [x]) = flat cs ++ x.put := by
  unfold flat
  simp
/-- a list of the law's own that changes -/
structure Ow (B A : Addr → Prop) (p s0 C x : Addr) : Prop where
  b : B x
  a : ¬ A x
  p : x ≠ p
  s : x ≠ s0
  c : x ≠ C
structure DL (L : List (Str × Int)) (B : Addr → Prop) (H : Hp) (l : Addr) (us : List V) (es : List Ent) : Prop where
  l : H l = some (.lst us)
  D : DEnts (cutH B H) us es
  ok : ∀ y ∈ es, DOk L y
  n : es.length ≤ 20
structure Dt (L : List (Str × Int)) (B A : Addr → Prop) (H : Hp) (p s0 D C : Addr) (q : List QE) (cs : List Cl) : Prop where
  hD : H D = some (.dK (EK q))
  hC : H C = some (.lst (cs.map fun x => .ref x.t))
  dr : ∀ x ∈ q, DL L B H x.l x.us x.es ∧ Ow B A p s0 C x.l
  cl : ∀ x ∈ cs, cutH B H x.t = some (.tup [.ref x.l, .int x.r]) ∧ DL L B H x.l x.us x.es ∧ Ow B A p s0 C x.l
  nl : (q.map (·.l)).Nodup
  nx : ∀ x ∈ q, ∀ y ∈ cs, x.l ≠ y.l
  nz : (q.map (·.z)).Nodup
  bD : B D
  aD : ¬ A D
  pD : D ≠ p
  sD : D ≠ s0
  bC : B C
  aC : ¬ A C
  pC : C ≠ p
  sC : C ≠ s0
structure Rl (S : OS) (L : List (Str × Int)) (x0 : List Ent) (q : List QE) (cs : List Cl) : Prop where
  eL : S.L = L
  eX : S.xs = x0 ++ flat cs
  eP : S.past = pastOf x0 cs
  al : Al RE S.ps q
theorem Rl.find {S : OS} {L : List (Str × Int)} {x0 : List Ent} {q : List QE} {cs : List Cl} (h : Rl S L x0 q cs) (z : Str) : (S.find z = none ∧ efind q z = none) ∨ ∃ d x, S.find z = some d ∧ efind q z = some x ∧ RE d x :=
  h.al.find (f := fun (d : Dr) => decide (d.z = z)) (g := fun (x : QE) => decide (x.z = z)) fun a b k => by rw [k.1]
theorem Rl.begin_ {S : OS} {L : List (Str × Int)} {x0 : List Ent} {q : List QE} {cs : List Cl} (h : Rl S L x0 q cs) (z : Str) (t l l' : Addr) : Rl { S with ps := S.ps ++ [⟨z, t, l, S.cl, []⟩] } L x0 (q ++ [⟨z, l', [], []⟩]) cs :=
  ⟨h.eL, h.eX, h.eP, Al.app (as' := [_]) (bs' := [_]) ⟨⟨rfl, rfl⟩, trivial⟩ h.al⟩
theorem Rl.put {S : OS} {L : List (Str × Int)} {x0 : List Ent} {q : List QE} {cs : List Cl} (h : Rl S L x0 q cs) (z : Str) (v : V) (y : Ent) : Rl (S.putd z y) L x0 (eput q z v y) cs := by
  refine ⟨h.eL, h.eX, h.eP, h.al.map fun a b k => ?_⟩
  show RE (if a.z = z then _ else a) (if b.z = z then _ else b)
  rw [k.1]
  by_cases c : b.z = z
  · rw [if_pos c, if_pos c]
    exact ⟨rfl, congrArg (· ++ [y]) k.2⟩
  · rw [if_neg c, if_neg c]
    exact k
theorem Rl.drop {S : OS} {L : List (Str × Int)} {x0 : List Ent} {q : List QE} {cs : List Cl} (h : Rl S L x0 q cs) (z : Str) : Rl (S.dropd z) L x0 (edrop q z) cs :=
  ⟨h.eL, h.eX, h.eP, h.al.filter fun a b k => by rw [k.1]⟩
theorem Rl.close {S : OS} {L : List (Str × Int)} {x0 : List Ent} {q : List QE} {cs : List Cl} (h : Rl S L x0 q cs) {d : Dr} {x : QE} {us : List V} {n : Int} {t : Addr} (r : RE d x) : Rl (S.closed d n us) L x0 (edrop q x.z) (cs ++ [⟨t, x.l, x.us, x.es, n⟩]) := by
  refine ⟨h.eL, ?_, ?_, ?_⟩
  · show S.xs ++ d.es.map (·.at_ n) = _
    rw [h.eX, r.2, flat_snoc, List.append_assoc]
    rfl
  · show S.past ++ [S.xs.length] = _
    rw [pastOf_snoc, h.eP, h.eX]
  · have e : (S.closed d n us).ps = (S.dropd x.z).ps := by rw [← r.1]; rfl
    rw [e]
    exact (h.drop x.z).al
theorem Rl.undo {S : OS} {L : List (Str × Int)} {x0 : List Ent} {q : List QE} {cs : List Cl} {x : Cl} {p : List Nat} {m : Nat} (h : Rl S L x0 q (cs ++ [x])) (e : S.past = p ++ [m]) : Rl (S.undone p m) L x0 q cs := by
  rw [h.eP, pastOf_snoc] at e
  obtain ⟨e1, e2⟩ := List.append_inj' e rfl
  cases e2
  refine ⟨h.eL, ?_, e1.symm, h.al⟩
  show S.xs.take _ = _
  rw [h.eX, flat_snoc, ← List.append_assoc, List.take_left]
section
variable {L : List (Str × Int)} {B A : Addr → Prop} {H : Hp} {p s0 D C : Addr} {q : List QE} {cs : List Cl}
theorem Ow.lst {x : Addr} {B' A' : Addr → Prop} {H' : Hp} (h : Ow B A p s0 C x) (l : Lst p B A H B' A' H') (hx : H x ≠ none) : Ow B' A' p s0 C x :=
  ⟨l.sub _ h.b, fun z => (l.gA _ z).elim h.a hx, h.p, h.s, h.c⟩
theorem DL.lst {l : Addr} {us : List V} {es : List Ent} {B' A' : Addr → Prop} {H' : Hp} (h : DL L B H l us es) (k : Lst p B A H B' A' H') (o : Ow B A p s0 C l) : DL L B' H' l us es :=
  ⟨k.k _ _ h.l o.a o.p, h.D.same k.cut, h.ok, h.n⟩
theorem nn {H : Hp} {x : Addr} {u : HO} (h : H x = some u) : H x ≠ none := by rw [h]; exact fun z => nomatch z
theorem Dt.lst {B' A' : Addr → Prop} {H' : Hp} (h : Dt L B A H p s0 D C q cs) (k : Lst p B A H B' A' H') : Dt L B' A' H' p s0 D C q cs :=
  ⟨k.k _ _ h.hD h.aD h.pD, k.k _ _ h.hC h.aC h.pC, fun x hx => ⟨(h.dr x hx).1.lst k (h.dr x hx).2, (h.dr x hx).2.lst k (nn (h.dr x hx).1.l)⟩,
    fun x hx => ⟨k.cut _ _ (h.cl x hx).1, (h.cl x hx).2.1.lst k (h.cl x hx).2.2, (h.cl x hx).2.2.lst k (nn (h.cl x hx).2.1.l)⟩, h.nl, h.nx, h.nz, k.sub _ h.bD, fun z => (k.gA _ z).elim h.aD (nn h.hD), h.pD, h.sD, k.sub _ h.bC, fun z => (k.gA _ z).elim h.aC (nn h.hC), h.pC, h.sC⟩
theorem Dt.val (h : Dt L B A H p s0 D C q cs) (z : Str) : DGet H D (.str z) ((efind q z).map fun x => V.ref x.l) := by
  rw [← EK_val]
  exact DGet.k (k := Sum.inr z) h.hD
/-- the law changes a place of its own: a list l that is no list of the rest -/
theorem DL.set {l l' : Addr} {us : List V} {es : List Ent} {o : HO} (h : DL L B H l us es) (n : l ≠ l') (s : Same (cutH B H) (cutH B (upd H l' o))) : DL L B (upd H l' o) l us es :=
  ⟨by rw [upd_ne n]; exact h.l, h.D.same s, h.ok, h.n⟩
end
section
variable {c : Cls6} {L : List (Str × Int)} {B A : Addr → Prop} {H : Hp} {a : OA} {S : OS} {p s0 D C : Addr} {q : List QE} {cs : List Cl}
theorem Ow.mono {B B' A : Addr → Prop} {p s0 C x : Addr} (h : Ow B A p s0 C x) (k : ∀ y, B y → B' y) : Ow B' A p s0 C x := ⟨k _ h.b, h.a, h.p, h.s, h.c⟩
theorem Dt.neD (h : Dt L B A H p s0 D C q cs) {l : Addr} {us : List V} (e : H l = some (.lst us)) : l ≠ D := fun z => by rw [z, h.hD] at e; cases e
theorem Dt.CD (h : Dt L B A H p s0 D C q cs) : C ≠ D := h.neD h.hC
/-- a new draft of the law's -/
theorem Dt.new (W : LW c B A H a S p s0) (h : Dt L B A H p s0 D C q cs) {l : Addr} (nl : H l = none) {z : Str} (hz : efind q z = none) :
    LW c (fun x => B x ∨ x = l) A (upd (upd H l (.lst [])) D (.dK (EK (q ++ [⟨z, l, [], []⟩])))) a S p s0 ∧ Same (cutH B H) (cutH (fun x => B x ∨ x = l) (upd (upd H l (.lst [])) D (.dK (EK (q ++ [⟨z, l, [], []⟩]))))) ∧ Dt L (fun x => B x ∨ x = l) A (upd (upd H l (.lst [])) D (.dK (EK (q ++ [⟨z, l, [], []⟩])))) p s0 D C (q ++ [⟨z, l, [], []⟩]) cs := by
  obtain ⟨W1, l1⟩ := W.own (o := .lst []) nl trivial
  have h1 := h.lst l1
  obtain ⟨W2, c2⟩ := W1.set (q := D) (o := .dK (EK (q ++ [⟨z, l, [], []⟩]))) h1.bD h1.aD h1.pD h1.sD trivial
  have hl : (upd H l (.lst [])) l = some (.lst []) := upd_same
  have ol : Ow (fun x => B x ∨ x = l) A p s0 C l := ⟨.inr rfl, fun z => W.M.free nl (W.M.AB _ z), fun z => W.pool.ne.1 (z ▸ nl), fun z => W.pool.ne.2 (z ▸ nl), fun z => by rw [z, h.hC] at nl; cases nl⟩
  have hn : ∀ {x : Addr}, H x ≠ none → x ≠ l := fun n z => n (z ▸ nl)
  have old : ∀ x ∈ q, DL L (fun x => B x ∨ x = l) (upd (upd H l (.lst [])) D (.dK (EK (q ++ [⟨z, l, [], []⟩])))) x.l x.us x.es ∧ Ow (fun x => B x ∨ x = l) A p s0 C x.l := fun x hx =>
    ⟨(h1.dr x hx).1.set (h1.neD (h1.dr x hx).1.l) c2, (h1.dr x hx).2⟩
  refine ⟨W2, l1.cut.trans c2, upd_same, by rw [upd_ne h1.CD]; exact h1.hC, fun x hx => ?_, fun x hx => ?_, ?_, fun x hx y hy => ?_, ?_, h1.bD, h1.aD, h1.pD, h1.sD, h1.bC, h1.aC, h1.pC, h1.sC⟩
  · rcases List.mem_append.mp hx with hx | hx
    · exact old x hx
    · cases List.mem_singleton.mp hx
      exact ⟨⟨by rw [upd_ne (h1.neD hl)]; exact hl, ⟨rfl, fun _ _ _ e => nomatch e⟩, (fun _ h => nomatch h), Nat.zero_le _⟩, ol⟩
  · exact ⟨c2 _ _ (h1.cl x hx).1, (h1.cl x hx).2.1.set (h1.neD (h1.cl x hx).2.1.l) c2, (h1.cl x hx).2.2⟩
  · rw [List.map_append, List.nodup_append]
    refine ⟨h.nl, List.pairwise_singleton _ _, fun y hy w hw => ?_⟩
    obtain ⟨x, hx, rfl⟩ := List.mem_map.mp hy
    cases List.mem_singleton.mp hw
    exact hn (nn (h.dr x hx).1.l)
  · rcases List.mem_append.mp hx with hx | hx
    · exact h.nx x hx y hy
    · cases List.mem_singleton.mp hx
      exact (hn (nn (h.cl y hy).2.1.l)).symm
  · rw [List.map_append, List.nodup_append]
    refine ⟨h.nz, List.pairwise_singleton _ _, fun y hy w hw => ?_⟩
    obtain ⟨x, hx, rfl⟩ := List.mem_map.mp hy
    cases List.mem_singleton.mp hw
    intro e
    exact absurd e (by simpa using List.find?_eq_none.mp hz x hx)
/-- one more entry in a draft of the law's -/
theorem Dt.add (W : LW c B A H a S p s0) (h : Dt L B A H p s0 D C q cs) {x : QE} (hx : x ∈ q) {en : Addr} {y : Ent} (hd : cutH B H en = some (.tup y.vs.dropLast)) (ok : DOk L y) (l20 : x.es.length < 20) :
    LW c B A (upd H x.l (.lst (x.us ++ [.ref en]))) a S p s0 ∧ Same (cutH B H) (cutH B (upd H x.l (.lst (x.us ++ [.ref en])))) ∧ Dt L B A (upd H x.l (.lst (x.us ++ [.ref en]))) p s0 D C (eput q x.z (.ref en) (y.at_ 0)) cs := by
  obtain ⟨xl, xo⟩ := h.dr x hx
  obtain ⟨W2, c2⟩ := W.set (q := x.l) (o := .lst (x.us ++ [.ref en])) xo.b xo.a xo.p xo.s trivial
  have nd := h.neD xl.l
  refine ⟨W2, c2, ?_, by rw [upd_ne xo.c.symm]; exact h.hC, fun x' hx' => ?_, fun y hy => ?_, ?_, fun x' hx' w hw => ?_, ?_, h.bD, h.aD, h.pD, h.sD, h.bC, h.aC, h.pC, h.sC⟩
  · rw [upd_ne nd.symm, show EK (eput q x.z (.ref en) (y.at_ 0)) = EK q from eput_map (fun x => ((Sum.inr x.z : Key), V.ref x.l)) (fun _ _ _ => rfl) q _ _ _]
    exact h.hD
  · obtain ⟨x0, h0, e0⟩ := List.mem_map.mp (show x' ∈ q.map fun x' => if x'.z = x.z then { x' with us := x'.us ++ [V.ref en], es := x'.es ++ [y.at_ 0] } else x' from hx')
    obtain ⟨d0, o0⟩ := h.dr x0 h0
    by_cases cz : x0.z = x.z
    · have : x0 = x := nodup_at h.nz _ h0 _ hx cz
      subst this
      rw [if_pos rfl] at e0
      subst e0
      refine ⟨⟨upd_same, (d0.D.same c2).snoc ?_ (ok.at0 0).1, fun w hw => ?_, ?_⟩, o0⟩
      · exact DAt.at0 (show DAt _ en y from c2 _ _ hd)
      · rcases List.mem_append.mp hw with hw | hw
        · exact d0.ok w hw
        · rw [List.mem_singleton.mp hw]; exact ok.at0 0
      · show (x0.es ++ [y.at_ 0]).length ≤ 20
        rw [List.length_append]
        exact l20
    · rw [if_neg cz] at e0
      subst e0
      exact ⟨d0.set (fun z => cz (congrArg QE.z (nodup_at h.nl _ h0 _ hx z))) c2, o0⟩
  · obtain ⟨a1, a2, a3⟩ := h.cl y hy
    exact ⟨c2 _ _ a1, a2.set (h.nx x hx y hy).symm c2, a3⟩
  · rw [eput_map (·.l) (fun _ _ _ => rfl)]
    exact h.nl
  · obtain ⟨x0, h0, e0⟩ := List.mem_map.mp (show x' ∈ q.map fun x' => if x'.z = x.z then { x' with us := x'.us ++ [V.ref en], es := x'.es ++ [y.at_ 0] } else x' from hx')
    have : x'.l = x0.l := by
      rw [← e0]
      split <;> rfl
    rw [this]
    exact h.nx x0 h0 w hw
  · rw [eput_map (·.z) (fun _ _ _ => rfl)]
    exact h.nz
/-- a draft of the law's is gone -/
theorem Dt.drop (W : LW c B A H a S p s0) (h : Dt L B A H p s0 D C q cs) (z : Str) :
    LW c B A (upd H D (.dK (EK (edrop q z)))) a S p s0 ∧ Same (cutH B H) (cutH B (upd H D (.dK (EK (edrop q z))))) ∧ Dt L B A (upd H D (.dK (EK (edrop q z)))) p s0 D C (edrop q z) cs := by
  obtain ⟨W2, c2⟩ := W.set (q := D) (o := .dK (EK (edrop q z))) h.bD h.aD h.pD h.sD trivial
  refine ⟨W2, c2, upd_same, by rw [upd_ne h.CD]; exact h.hC, fun x hx => ?_, fun x hx => ?_, ?_, fun x hx y hy => h.nx x (edrop_mem hx).1 y hy, ?_, h.bD, h.aD, h.pD, h.sD, h.bC, h.aC, h.pC, h.sC⟩
  · obtain ⟨d0, o0⟩ := h.dr x (edrop_mem hx).1
    exact ⟨d0.set (h.neD d0.l) c2, o0⟩
  · obtain ⟨a1, a2, a3⟩ := h.cl x hx
    exact ⟨c2 _ _ a1, a2.set (h.neD a2.l) c2, a3⟩
  · exact h.nl.sublist (List.filter_sublist.map _)
  · exact h.nz.sublist (List.filter_sublist.map _)
/-- the last closed one is taken back -/
theorem Dt.popC {x : Cl} (W : LW c B A H a S p s0) (h : Dt L B A H p s0 D C q (cs ++ [x])) :
    LW c B A (upd H C (.lst (cs.map fun x => .ref x.t))) a S p s0 ∧ Same (cutH B H) (cutH B (upd H C (.lst (cs.map fun x => .ref x.t)))) ∧ Dt L B A (upd H C (.lst (cs.map fun x => .ref x.t))) p s0 D C q cs := by
  obtain ⟨W2, c2⟩ := W.set (q := C) (o := .lst (cs.map fun x => .ref x.t)) h.bC h.aC h.pC h.sC trivial
  refine ⟨W2, c2, by rw [upd_ne h.CD.symm]; exact h.hD, upd_same, fun x hx => ?_, fun x hx => ?_, h.nl, fun x hx y hy => h.nx x hx y (List.mem_append_left _ hy), h.nz, h.bD, h.aD, h.pD, h.sD, h.bC, h.aC, h.pC, h.sC⟩
  · obtain ⟨d0, o0⟩ := h.dr x hx
    exact ⟨d0.set o0.c c2, o0⟩
  · obtain ⟨a1, a2, a3⟩ := h.cl x (List.mem_append_left _ hx)
    exact ⟨c2 _ _ a1, a2.set a3.c c2, a3⟩
/-- one more closed one -/
theorem Dt.addC {x : Cl} (W : LW c B A H a S p s0) (h : Dt L B A H p s0 D C q cs) (ht : cutH B H x.t = some (.tup [.ref x.l, .int x.r])) (hd : DL L B H x.l x.us x.es) (ho : Ow B A p s0 C x.l) (hn : ∀ y ∈ q, y.l ≠ x.l) :
    LW c B A (upd H C (.lst ((cs ++ [x]).map fun x => .ref x.t))) a S p s0 ∧ Same (cutH B H) (cutH B (upd H C (.lst ((cs ++ [x]).map fun x => .ref x.t)))) ∧ Dt L B A (upd H C (.lst ((cs ++ [x]).map fun x => .ref x.t))) p s0 D C q (cs ++ [x]) := by
  obtain ⟨W2, c2⟩ := W.set (q := C) (o := .lst ((cs ++ [x]).map fun x => .ref x.t)) h.bC h.aC h.pC h.sC trivial
  refine ⟨W2, c2, by rw [upd_ne h.CD.symm]; exact h.hD, upd_same, fun x hx => ?_, fun y hy => ?_, h.nl, fun w hw y hy => ?_, h.nz, h.bD, h.aD, h.pD, h.sD, h.bC, h.aC, h.pC, h.sC⟩
  · obtain ⟨d0, o0⟩ := h.dr x hx
    exact ⟨d0.set o0.c c2, o0⟩
  · rcases List.mem_append.mp hy with hy | hy
    · obtain ⟨a1, a2, a3⟩ := h.cl y hy
      exact ⟨c2 _ _ a1, a2.set a3.c c2, a3⟩
    · cases List.mem_singleton.mp hy
      exact ⟨c2 _ _ ht, hd.set ho.c c2, ho⟩
  · rcases List.mem_append.mp hy with hy | hy
    · exact h.nx w hw y hy
    · cases List.mem_singleton.mp hy
      exact hn w hw
end
end Ash

set_option Elab.async false
set_option linter.all false
set_option maxRecDepth 100000
set_option maxHeartbeats 4000000
set_option pp.maxSteps 1500
namespace Ash
open PySem PySem.Spec PyProof.Rows L2
open C8 (pss_cut)
/-! ### a deed of the law -/
theorem Tl.eq {K : PySem.W.Frag} {H : Hp} {t t' : Addr} {d : PyData} {Q : VK} (h : Tl K H t d) (h' : Tl K H t' d) (q : Q (.bl true) H) : rEqD K (.ref t) (.ref t') H Q := by
  refine ⟨d, d, h.dp.1, h'.dp.1, h.dp.2, h'.dp.2, ?_⟩
  rw [SeqAt.eqv_refl _ (SeqAt.canLay_of_shaped h.dp.2)]
  exact q
def spDeed (c : Cls6) : Sp := fun vs H Q _ => ∃ (B A : Addr → Prop) (a : OA) (S : OS) (p s0 dl dk wh D C : Addr) (L : List (Str × Int)) (ks : List Str) (usw : List V) (x0 : List Ent) (q : List QE) (cs : List Cl) (z : Str) (number begin_ : Int),
  vs = [.ref p, .ref a.o, .ref D, .ref C, .str z, .ref dl, .ref dk, .ref wh, .int number, .int begin_] ∧ LW c B A H a S p s0 ∧ Dt L B A H p s0 D C q cs ∧ Rl S L x0 q cs ∧ q.length ≤ 60 ∧ cs.length ≤ 60 ∧ IsNm z ∧ 0 ≤ number ∧ Lates L ∧
  cutH B H dl = some (.dK (LK L)) ∧ cutH B H dk = some (.lst (ks.map V.str)) ∧ 1 ≤ ks.length ∧ ks.length ≤ 30 ∧ (∀ z ∈ ks, IsNm z) ∧ cutH B H wh = some (.lst usw) ∧ Ents (cutH B H) usw (x0 ++ flat cs) ∧
  ∀ B' A' H' a' S' q' cs', LW c B' A' H' a' S' p s0 → Same (cutH B H) (cutH B' H') → Dt L B' A' H' p s0 D C q' cs' → Rl S' L x0 q' cs' → q'.length ≤ q.length + 1 → cs'.length ≤ cs.length + 1 → a'.o = a.o → a'.b = a.b → (a.bj = a.b → a'.bj = a.b) → Q (.bl true) H'
section
variable {P : Program} {w : World} {mg : Str → Option Value} {base : Heap} {c : Cls6} {e : Errs}
structure GDd (P : Program) (w : World) (mg : Str → Option Value) (base : Heap) (c : Cls6) (e : Errs) : Prop where
  law_draw : CDraw P w c.K mg base
  law_drafted : Cal P w c.K mg base CX0 "_law_drafted" 4 ["_law_pool_here", "_law_lates_here", "_law_keys", "_law_entries_here", "_law_number", "_law_now"] spDrafted
  law_put_in : Cal P w c.K mg base CX0 "_law_put_in" 14 ["_law_office", "_law_writer", "_law_entry_here"] (spPutIn c e)
  law_done : Cal P w c.K mg base CX0 "_law_done" 13 ["_law_which", "_law_office", "_law_given"] (spDone c e)
abbrev s_l_deed : Stmt := topS 60
theorem sc_l_deed : FnScope ["_law_pool_here", "_law_office", "_law_drafts", "_law_closed", "_law_writer", "_law_lates_here", "_law_keys", "_law_entries_here", "_law_number", "_law_begin_here", "_law_now", "_law_kind", "_law_entry_here", "_law_arrival", "_law_told"] ["_law_pool_here", "_law_office", "_law_drafts", "_law_closed", "_law_writer", "_law_lates_here", "_law_keys", "_law_entries_here", "_law_number", "_law_begin_here"] (defScope s_l_deed) := ⟨rfl, rfl, rfl, by decide +kernel, rfl, by decide +kernel, by decide +kernel⟩
theorem ok_deed {f : Addr} {fd : FuncData} (F : Fun c.K "_law_deed" "_law_deed" s_l_deed f fd) (B : Blt mg) (G : GDd P w mg base c e) : FnOk P w c.K mg base CX0 15 f fd ["_law_pool_here", "_law_office", "_law_drafts", "_law_closed", "_law_writer", "_law_lates_here", "_law_keys", "_law_entries_here", "_law_number", "_law_begin_here"] (spDeed c) := by
  refine F.ok sc_l_deed (fun vs H Q E h => ?_) (fun cdv A0 outer s H vs Q E hr h => ?_)
  · obtain ⟨B, A, a, S, p, s, dl, dk, wh, D, C, L, ks, usw, x0, q, cs, z, number, now, rfl, _⟩ := h
    rfl
  · obtain ⟨B0, A, a, S, p, s0, dl, dk, wh, D, C, L, ks, usw, x0, q, cs, z, number, begin_, rfl, W, dt, R, q60, c60, nz, hnum, LL, hdl, hdk, k1, k2, kn, hwh, hE, fin⟩ := h
    have hu := hu_of hr
    have hu0 : (A0.deeper (envOfC "_law_deed" (defScope s_l_deed) s.heap.objs.size f cdv)).units + 1 < cLine := by have := hr.units; omega
    have one : (1 : Nat) ≤ sizeLine := by decide
    have two : (2 : Nat) ≤ sizeLine := by decide
    refine ⟨_, (pss_cons (ps_set (i := 10) sc_l_deed.nd rfl (Or.inl rfl) (pv 9))
    (pss_cut (ps_if (pt_cmpR op_gt (pe_callB call_len_seq (by rfl) B.len (by decide +kernel) (pa_cons (pv 7) pa_nil)) pe_int (nomark _))
      (pss_one (ps_set (i := 10) sc_l_deed.nd rfl (Or.inl rfl) (pe_ix ix_tup (pe_ix ix_list (pv 7) (pe_op op_sub (pe_callB call_len_seq (by rfl) B.len (by decide +kernel) (pa_cons (pv 7) pa_nil)) pe_int) (fun _ _ => rfl)) (pe_op op_sub (pe_callB call_len_seq (by rfl) B.len (by decide +kernel) (pa_cons (pe_ix ix_list (pv 7) (pe_op op_sub (pe_callB call_len_seq (by rfl) B.len (by decide +kernel) (pa_cons (pv 7) pa_nil)) pe_int) (fun _ _ => rfl)) pa_nil)) pe_int) (fun _ _ => rfl))))
      pss_nil)
    (pss_cons (ps_set (i := 11) sc_l_deed.nd rfl (Or.inl rfl) (pe_cal G.law_draw (hr.mono (by decide)) pass0 (pa_cons (pv 0) (pa_cons pe_int pa_nil))))
    (pss_cons (ps_if (pt_cmp (pc_dnotin hu0 (pv 4) (pv 2)) rfl)
      (pss_cons (ps_if (pt_cmpR (op_neD hr.units) (pe_cal G.law_done (hr.mono (by decide)) pass0 (pa_cons pe_int (pa_cons (pv 1) (pa_cons (pe_tup (pa_cons (pv 4) pa_nil)) pa_nil)))) (pe_tup (pa_cons pe_str (pa_cons pe_non pa_nil))) (nomark _))
        (pss_one (ps_ret pe_bl))
        pss_nil)
      (pss_cons (ps_dput hu (pv 2) (pv 4) (pe_lst pa_nil) rfl)
      (pss_one (ps_ret pe_bl))))
      pss_nil)
    (pss_cons (ps_if (pt_cmpR op_lt (pv 11) pe_int (nomark _))
      (pss_cons (ps_set (i := 12) sc_l_deed.nd rfl (Or.inl rfl) (pe_cal G.law_drafted (hr.mono (by decide)) pass0 (pa_cons (pv 0) (pa_cons (pv 5) (pa_cons (pv 6) (pa_cons (pv 7) (pa_cons (pv 8) (pa_cons (pv 10) pa_nil))))))))
      (pss_cons (ps_if (pt_cmpR op_lt (pe_callB call_len_seq (by rfl) B.len (by decide +kernel) (pa_cons (pe_dget hu (pv 2) (pv 4) (fun _ _ => rfl)) pa_nil)) pe_int (nomark _))
        (pss_cons (ps_expr (pe_bm PySem.F.plainAttrs_list PySem.F.slot_list_append PySem.F.type_list_append mt_append (pe_dget hu (pv 2) (pv 4) (fun _ _ => rfl)) (pa_cons (pv 12) pa_nil)))
        (pss_one (ps_ret (pe_cmpR (op_eqD hr.units) (pe_cal G.law_put_in (hr.mono (by decide)) pass0 (pa_cons (pv 1) (pa_cons (pv 4) (pa_cons (pv 12) pa_nil)))) (pe_tup (pa_cons pe_str (pa_cons pe_non pa_nil))) (nomark _)))))
        pss_nil)
      (pss_one (ps_ret pe_bl))))
      pss_nil)
    (pss_cons (ps_if (pt_cmpR op_eq (pv 11) pe_int (nomark _))
      (pss_cons (ps_expr (pe_dpop1 (pv 2) (pv 4) ⟨rfl, rfl, rfl, rfl⟩))
      (pss_one (ps_ret (pe_cmpR (op_eqD hr.units) (pe_cal G.law_done (hr.mono (by decide)) pass0 (pa_cons pe_int (pa_cons (pv 1) (pa_cons (pe_tup (pa_cons (pv 4) pa_nil)) pa_nil)))) (pe_tup (pa_cons pe_str (pa_cons pe_non pa_nil))) (nomark _)))))
      pss_nil)
    (pss_cons (ps_if (PW.pt (pw_and (pt_cmpR op_eq (pv 11) pe_int (nomark _)) (pw_and1 (pt_cmpR op_gt (pe_callB call_len_seq (by rfl) B.len (by decide +kernel) (pa_cons (pv 3) pa_nil)) pe_int (nomark _)))))
      (pss_cons (ps_expr (pe_bm0 PySem.F.plainAttrs_list PySem.F.slot_list_pop PySem.F.type_list_pop mt_pop (pv 3)))
      (pss_one (ps_ret (pe_cmpR (op_eqD hr.units) (pe_cal G.law_done (hr.mono (by decide)) pass0 (pa_cons pe_int (pa_cons (pv 1) (pa_cons (pe_tup pa_nil) pa_nil)))) (pe_tup (pa_cons pe_str (pa_cons pe_non pa_nil))) (nomark _)))))
      pss_nil)
    (pss_cons (ps_set (i := 13) sc_l_deed.nd rfl (Or.inl rfl) (pe_op op_add (pv 10) (pe_cal G.law_draw (hr.mono (by decide)) pass0 (pa_cons (pv 0) (pa_cons pe_int pa_nil)))))
    (pss_cons (ps_set (i := 14) sc_l_deed.nd rfl (Or.inl rfl) (pe_cal G.law_done (hr.mono (by decide)) pass0 (pa_cons pe_int (pa_cons (pv 1) (pa_cons (pe_tup (pa_cons (pv 4) (pa_cons (pv 13) pa_nil))) pa_nil)))))
    (pss_cons (ps_if (pt_cmpR op_eq (pe_ix ix_tup (pv 14) pe_int (fun _ _ => rfl)) pe_str (nomark _))
      (pss_one (ps_expr (pe_bm PySem.F.plainAttrs_list PySem.F.slot_list_append PySem.F.type_list_append mt_append (pv 3) (pa_cons (pe_tup (pa_cons (pe_dpop1 (pv 2) (pv 4) ⟨rfl, rfl, rfl, rfl⟩) (pa_cons (pv 13) pa_nil))) pa_nil))))
      pss_nil)
    (pss_one (ps_ret (pe_cmpR op_in_seq (pe_ix ix_tup (pv 14) pe_int (fun _ _ => rfl)) (pe_lst (pa_cons pe_str (pa_cons pe_str (pa_cons pe_str pa_nil)))) rfl))))))))))))), ?_⟩
    refine ⟨_, rfl, fun σ H' => H' = H ∧ ∃ (now : Int) (x11 x12 x13 x14 : Option V), σ = [some (.ref p), some (.ref a.o), some (.ref D), some (.ref C), some (.str z), some (.ref dl), some (.ref dk), some (.ref wh), some (.int number), some (.int begin_), some (.int now), x11, x12, x13, x14], ?_, ?_⟩
    · refine ⟨_, rfl, wh, usw, rfl, .inl (SqL.of (up hwh)), _, _, rfl, rfl, _, rfl, ?_⟩
      have hd := up hwh
      have hEl := hE.1
      refine ite2 (fun c => ?_) (fun c => ?_)
      · have c := of_decide_eq_true c
        obtain ⟨x, hx⟩ : ∃ x, (x0 ++ flat cs)[usw.length - 1]? = some x := ⟨_, List.getElem?_eq_getElem (by omega)⟩
        obtain ⟨v, hv⟩ : ∃ v, usw[usw.length - 1]? = some v := ⟨_, List.getElem?_eq_getElem (by omega)⟩
        obtain ⟨e1, rfl, he0, ok⟩ := hE.2 _ v x hv hx
        have he := up he0
        have hI : atI usw ((usw.length : Int) - 1) = some (.ref e1) := by
          rw [show ((usw.length : Int) - 1) = ((usw.length - 1 : Nat) : Int) by omega]
          rw [atI_natC (by omega)]
          rw [List.getElem?_eq_getElem (by omega)] at hv
          exact hv
        exact ⟨_, rfl, _, rfl, wh, usw, rfl, .inl (SqL.of hd), _, _, rfl, rfl, wh, usw, _, _, rfl, rfl, SqL.of hd, hI, _, rfl, _, rfl, wh, usw, rfl, .inl (SqL.of hd), _, _, rfl, rfl, wh, usw, _, _, rfl, rfl, SqL.of hd, hI, e1, x.vs, rfl, .inr (SqT.of he), _, _, rfl, rfl, e1, x.vs, _, _, rfl, rfl, SqT.of he, ent_arr x, rfl, _, _, _, _, _, rfl⟩
      · exact ⟨rfl, _, _, _, _, _, rfl⟩
    rintro σ H' ⟨rfl, now, x11, x12, x13, x14, rfl⟩
    refine ⟨_, rfl, p, s0, 8, rfl, W.pool, (by decide), (by decide), fun kd H3 d0 d1 P3 => ?_⟩
    obtain ⟨W3, l3⟩ := W.draw P3
    have dt3 := dt.lst l3
    have f3 := l3.cut
    have hps : S.ps.length = q.length := R.al.len
    have okz : StrOk c.K H3 (.str z) := str_ok (by have := nz.2.1; omega)
    clear l3 P3
    rcases R.find z with ⟨r1, r2⟩ | ⟨d, x, r1, r2, r3⟩
    · have hg := dt3.val z
      rw [r2] at hg
      refine ⟨_, rfl, _, rfl, D, _, rfl, hg, _, rfl, iteT ?_⟩
      refine ⟨_, rfl, _, rfl, one, fun g ng => ?_⟩
      obtain ⟨W4, l4⟩ := W3.same (sameAt (o := .tup [.str z]) (Same.refl H3) ng)
      have dt4 := dt3.lst l4
      have f4 := f3.trans l4.cut
      have hg4 : (upd H3 g (.tup [.str z])) g = some (.tup [.str z]) := upd_same
      generalize (upd H3 g (.tup [.str z])) = H4 at W4 l4 dt4 f4 hg4 ⊢
      refine ⟨a, _, 0, g, [.str z], rfl, W4.M.o, hg4, .inl ⟨rfl, .str z, _, rfl, B0, A, a, S, .str z, rfl, W4.M, str_ok (by have := nz.2.1; omega), by omega, fun z' t l A2 H5 ez hn en fr iff M1 => ?_, fun d x2 H5 ed => ?_, fun x2 H5 hn => ?_⟩⟩
      · cases ez
        obtain ⟨W5, l5⟩ := W4.office fr M1
        have dt5 := dt4.lst l5
        have f5 := f4.trans l5.cut
        intro t8 n8
        obtain ⟨W6, l6⟩ := W5.same (sameAt (o := .tup [.str "told", .non]) (Same.refl H5) n8)
        have dt6 := dt5.lst l6
        have f6 := f5.trans l6.cut
        have ht6 : (upd H5 t8 (.tup [.str "told", .non])) t8 = some (.tup [.str "told", .non]) := upd_same
        generalize (upd H5 t8 (.tup [.str "told", .non])) = H6 at W6 l6 dt6 f6 ht6 ⊢
        refine ⟨two, fun t9 n9 => ?_⟩
        obtain ⟨W7, l7⟩ := W6.same (sameAt (o := .tup [.str "told", .non]) (Same.refl H6) n9)
        have dt7 := dt6.lst l7
        have f7 := f6.trans l7.cut
        have ht7 := (sameAt (o := .tup [.str "told", .non]) (Same.refl H6) n9) _ _ ht6
        have ht9 : (upd H6 t9 (.tup [.str "told", .non])) t9 = some (.tup [.str "told", .non]) := upd_same
        generalize (upd H6 t9 (.tup [.str "told", .non])) = H7 at W7 l7 dt7 f7 ht7 ht9 ⊢
        refine Tl.ne (.non _ ht7 ok_told) (.non _ ht9 ok_told) ⟨_, rfl, iteF ?_⟩
        refine ⟨(by show 0 ≤ sizeLine; decide), fun l nl => ?_⟩
        obtain ⟨W8, c8, dt8⟩ := dt7.new W7 nl r2
        refine ⟨_, rfl, _, rfl, D, _, rfl, DPut.k (k := Sum.inr z) (sameAt (o := .lst []) (Same.refl H7) nl _ _ dt7.hD) (small1000 (by unfold EK; rw [List.length_map]; omega)), ?_⟩
        have e0 : putK (EK q) (Sum.inr z) (V.ref l) = EK (q ++ [⟨z, l, [], []⟩]) := by
          rw [putK_new _ (by rw [EK_val, r2]; rfl)]
          unfold EK
          rw [List.map_append]
          rfl
        rw [e0]
        exact fin _ _ _ _ _ _ _ W8 (f7.trans c8) dt8 (R.begin_ z _ _ _) (by rw [List.length_append]; exact Nat.le_refl _) (Nat.le_succ _) rfl rfl id
      · have ed : S.find z = some d := ed
        rw [r1] at ed; cases ed
      · rw [show isNmV (.str z) = nmB z from rfl, (nmB_iff _).mpr nz] at hn; cases hn
    have hg := dt3.val z
    rw [r2] at hg
    obtain ⟨xm, xz⟩ := efind_mem r2
    subst xz
    have fnd : ∀ {d' : Dr}, wfind S (.str x.z) = some d' → d = d' := fun {d'} ed => by
      have ed : S.find x.z = some d' := ed
      rw [r1] at ed
      exact Option.some.inj ed
    have fno : wfind S (.str x.z) ≠ none := fun en => by
      have en : S.find x.z = none := en
      rw [r1] at en; cases en
    refine ⟨_, rfl, _, rfl, D, _, rfl, hg, _, rfl, iteF ⟨_, rfl, _, _, rfl, rfl, _, rfl, ite2 (fun ck => ?_) (fun ck => ?_)⟩⟩
    · have gS := Good.eq (show Good S.L S.xs from by
        obtain ⟨_, _, _, _, _, _, _, _, h, _⟩ := W3.M.jr
        exact h)
      have hxl := W3.M.jr.ents.1
      have h4 := W3.M.x4
      rw [R.eX] at hxl
      rw [R.eL, R.eX] at gS
      obtain ⟨SK, hSK⟩ := gS
      have hE3 := hE.same f3
      have hpos := kn_pos hSK hE3.ok (fun id h => absurd rfl h)
      refine ⟨_, rfl, _, rfl, _, rfl, _, rfl, _, rfl, _, rfl, p, s0, dl, dk, wh, L, ks, usw, x0 ++ flat cs, SK, number, now, rfl, W3.pool, up (f3 _ _ hdl), LL, up (f3 _ _ hdk), k1, k2, kn, up (f3 _ _ hwh), hE3.same (cut_same _ _), by omega, hSK, hpos, hnum, fun en y H5 hdat oky hid P5 => ?_⟩
      obtain ⟨W5, l5⟩ := W3.draw P5
      have dt5 := dt3.lst l5
      have f5 := f3.trans l5.cut
      have hg5 := dt5.val x.z
      rw [r2] at hg5
      obtain ⟨xl, xo⟩ := dt5.dr x xm
      have hul := xl.D.1
      have h20 := xl.n
      refine ⟨_, rfl, _, rfl, D, _, rfl, hg5, x.l, x.us, rfl, .inl (SqL.of xl.l), _, _, rfl, rfl, _, rfl, ite2 (fun c2 => ?_) (fun c2 => ?_)⟩
      · have c2 := of_decide_eq_true c2
        obtain ⟨W6, c6, dt6⟩ := dt5.add W5 xm (W5.tup hdat) oky (by omega)
        refine ⟨_, rfl, _, rfl, D, _, rfl, hg5, .inl ⟨rfl, _, SqL.of xl.l⟩, _, rfl, x.l, _, _, rfl, rfl, xl.l, small1000 (by omega), ?_⟩
        have f6 := f5.trans c6
        have hd6 := up (c6 _ _ (W5.tup hdat))
        generalize (upd H5 x.l (.lst (x.us ++ [.ref en]))) = H6 at W6 c6 dt6 f6 hd6 ⊢
        have ok0 := oky.at0 0
        refine ⟨_, rfl, _, rfl, _, rfl, a, S.cl, .str x.z, en, y, rfl, W6.M.o, hd6, fun H7 s7 => ?_⟩
        obtain ⟨W7, l7⟩ := W6.same s7
        have dt7 := dt6.lst l7
        have f7 := f6.trans l7.cut
        refine called_put W7.M (str_ok (by have := nz.2.1; omega)) ok0.1 ⟨fun d' H8 ed h20 hin fr M8 => ?_, fun d' e' H8 ed hb => ?_, fun e' H8 en0 => absurd en0 fno⟩
        · obtain rfl := fnd ed
          rw [r3.1] at M8
          obtain ⟨W8, l8⟩ := W7.office fr M8
          have dt8 := dt7.lst l8
          have f8 := f7.trans l8.cut
          intro t8 n8
          obtain ⟨W9, l9⟩ := W8.same (sameAt (o := .tup [.str "told", .non]) (Same.refl H8) n8)
          have dt9 := dt8.lst l9
          have f9 := f8.trans l9.cut
          have ht9 : (upd H8 t8 (.tup [.str "told", .non])) t8 = some (.tup [.str "told", .non]) := upd_same
          generalize (upd H8 t8 (.tup [.str "told", .non])) = H9 at W9 l9 dt9 f9 ht9 ⊢
          refine ⟨two, fun t9 n9 => ?_⟩
          obtain ⟨W10, l10⟩ := W9.same (sameAt (o := .tup [.str "told", .non]) (Same.refl H9) n9)
          refine Tl.eq (.non _ ((sameAt (o := .tup [.str "told", .non]) (Same.refl H9) n9) _ _ ht9) ok_told) (.non _ upd_same ok_told) ?_
          refine fin _ _ _ _ _ _ _ W10 (f9.trans l10.cut) (dt9.lst l10) (R.put _ _ _) ?_ (Nat.le_succ _) rfl rfl id
          unfold eput
          rw [List.length_map]
          exact Nat.le_succ _
        · obtain rfl := fnd ed
          rcases hb with hb | hb
          · rw [r3.2] at hb
            omega
          · rw [R.eL] at hb
            exact absurd ok0.inB hb
      · exact fin _ _ _ _ _ _ _ W5 f5 dt5 R (Nat.le_succ _) (Nat.le_succ _) rfl rfl id
    refine ⟨_, rfl, rfl, _, rfl, ite2 (fun ck => ?_) (fun ck => ?_)⟩
    · obtain ⟨W4, c4, dt4⟩ := dt3.drop W3 x.z
      refine ⟨_, rfl, D, rfl, .inl ⟨_, .inl dt3.hD⟩, _, rfl, _, Sum.inr x.z, _, dt3.hD, rfl, (by rw [EK_val, r2]; rfl), ?_⟩
      rw [EK_drop]
      have f4 := f3.trans c4
      generalize (upd H3 D (.dK (EK (edrop q x.z)))) = H4 at W4 c4 dt4 f4 ⊢
      refine ⟨_, rfl, _, rfl, one, fun g ng => ?_⟩
      obtain ⟨W5, l5⟩ := W4.same (sameAt (o := .tup [.str x.z]) (Same.refl H4) ng)
      have dt5 := dt4.lst l5
      have f5 := f4.trans l5.cut
      have hg5 : (upd H4 g (.tup [.str x.z])) g = some (.tup [.str x.z]) := upd_same
      generalize (upd H4 g (.tup [.str x.z])) = H5 at W5 l5 dt5 f5 hg5 ⊢
      refine ⟨a, _, 4, g, [.str x.z], rfl, W5.M.o, hg5, .inr (.inr (.inr (.inr (.inl ⟨rfl, .str x.z, _, rfl, B0, A, a, S, .str x.z, rfl, W5.M, str_ok (by have := nz.2.1; omega), fun d' H6 ed fr M6 => ?_, fun e' H6 en0 => absurd en0 fno⟩))))⟩
      obtain rfl := fnd ed
      rw [r3.1] at M6
      obtain ⟨W6, l6⟩ := W5.office fr M6
      have dt6 := dt5.lst l6
      have f6 := f5.trans l6.cut
      intro t8 n8
      obtain ⟨W9, l9⟩ := W6.same (sameAt (o := .tup [.str "told", .non]) (Same.refl H6) n8)
      have dt9 := dt6.lst l9
      have f9 := f6.trans l9.cut
      have ht9 : (upd H6 t8 (.tup [.str "told", .non])) t8 = some (.tup [.str "told", .non]) := upd_same
      generalize (upd H6 t8 (.tup [.str "told", .non])) = H9 at W9 l9 dt9 f9 ht9 ⊢
      refine ⟨two, fun t9 n9 => ?_⟩
      obtain ⟨W10, l10⟩ := W9.same (sameAt (o := .tup [.str "told", .non]) (Same.refl H9) n9)
      refine Tl.eq (.non _ ((sameAt (o := .tup [.str "told", .non]) (Same.refl H9) n9) _ _ ht9) ok_told) (.non _ upd_same ok_told) ?_
      exact fin _ _ _ _ _ _ _ W10 (f9.trans l10.cut) (dt9.lst l10) (R.drop _) (Nat.le_succ_of_le (List.length_filter_le _ _)) (Nat.le_succ _) rfl rfl id
    by_cases c5 : kd = 5 ∧ 0 < cs.length
    · obtain ⟨rfl, hc0⟩ := c5
      obtain ⟨cs', y, rfl⟩ : ∃ cs' y, cs = cs' ++ [y] := ⟨cs.dropLast, cs.getLast (List.length_pos_iff.mp hc0), (List.dropLast_concat_getLast (List.length_pos_iff.mp hc0)).symm⟩
      have eP := R.eP
      rw [pastOf_snoc] at eP
      obtain ⟨W4, c4, dt4⟩ := dt3.popC W3
      refine ⟨_, rfl, rfl, _, rfl, iteT ⟨_, rfl, C, _, rfl, .inl (SqL.of dt3.hC), _, _, rfl, rfl, _, rfl, ?_⟩⟩
      rw [List.length_map, decide_eq_true (show (0 : Int) < ((cs' ++ [y]).length : Int) by rw [List.length_append, List.length_singleton]; omega)]
      refine iteT ⟨_, rfl, .inl ⟨rfl, _, SqL.of dt3.hC⟩, C, _, .ref y.t, rfl, rfl, dt3.hC, ?_, ?_⟩
      · rw [List.map_append, List.length_append, List.length_map]
        show ((cs'.map fun x => V.ref x.t) ++ [V.ref y.t])[cs'.length + 1 - 1]? = _
        rw [List.getElem?_append_right (by rw [List.length_map]; omega), List.length_map]
        simp
      rw [show ((cs' ++ [y]).map fun x => V.ref x.t).dropLast = cs'.map fun x => V.ref x.t by rw [List.map_append]; exact List.dropLast_concat]
      have f4 := f3.trans c4
      generalize (upd H3 C (.lst (cs'.map fun x => V.ref x.t))) = H4 at W4 c4 dt4 f4 ⊢
      refine ⟨_, rfl, (by show 0 ≤ sizeLine; decide), fun g ng => ?_⟩
      obtain ⟨W5, l5⟩ := W4.same (sameAt (o := .tup []) (Same.refl H4) ng)
      have dt5 := dt4.lst l5
      have f5 := f4.trans l5.cut
      have hg5 : (upd H4 g (.tup [])) g = some (.tup []) := upd_same
      generalize (upd H4 g (.tup [])) = H5 at W5 l5 dt5 f5 hg5 ⊢
      refine ⟨a, _, 5, g, [], rfl, W5.M.o, hg5, .inr (.inr (.inr (.inr (.inr (.inl ⟨rfl, B0, A, a, S, rfl, W5.M, fun H6 ep => ?_, fun p' m' j' H6 ep fr M6 => ?_⟩)))))⟩
      · rw [eP] at ep
        exact absurd ep (by simp)
      obtain ⟨W6, l6⟩ := W5.office fr M6
      have dt6 := dt5.lst l6
      have f6 := f5.trans l6.cut
      intro t8 n8
      obtain ⟨W9, l9⟩ := W6.same (sameAt (o := .tup [.str "told", .non]) (Same.refl H6) n8)
      have dt9 := dt6.lst l9
      have f9 := f6.trans l9.cut
      have ht9 : (upd H6 t8 (.tup [.str "told", .non])) t8 = some (.tup [.str "told", .non]) := upd_same
      generalize (upd H6 t8 (.tup [.str "told", .non])) = H9 at W9 l9 dt9 f9 ht9 ⊢
      refine ⟨two, fun t9 n9 => ?_⟩
      obtain ⟨W10, l10⟩ := W9.same (sameAt (o := .tup [.str "told", .non]) (Same.refl H9) n9)
      refine Tl.eq (.non _ ((sameAt (o := .tup [.str "told", .non]) (Same.refl H9) n9) _ _ ht9) ok_told) (.non _ upd_same ok_told) ?_
      exact fin _ _ _ _ _ _ _ W10 (f9.trans l10.cut) (dt9.lst l10) (R.undo ep) (Nat.le_succ _) (by rw [List.length_append, List.length_singleton]; omega) rfl rfl fun _ => rfl
    refine ⟨_, rfl, rfl, _, rfl, ?_⟩
    by_cases ck5 : kd = 5
    · subst ck5
      refine iteT ⟨_, rfl, C, _, rfl, .inl (SqL.of dt3.hC), _, _, rfl, rfl, _, rfl, ?_⟩
      rw [List.length_map, decide_eq_false (show ¬ (0 : Int) < (cs.length : Int) from fun z => c5 ⟨rfl, by omega⟩)]
      refine iteF ?_
      refine ⟨_, rfl, _, rfl, p, s0, 3, rfl, W3.pool, (by decide), (by decide), fun d3 H4 e0 e1 P4 => ⟨_, _, rfl, rfl, ?_⟩⟩
      obtain ⟨W4, l4⟩ := W3.draw P4
      have dt4 := dt3.lst l4
      have f4 := f3.trans l4.cut
      refine ⟨_, rfl, _, rfl, _, rfl, two, fun g ng => ?_⟩
      obtain ⟨W5, l5⟩ := W4.same (sameAt (o := .tup [.str x.z, .int (now + d3)]) (Same.refl H4) ng)
      have dt5 := dt4.lst l5
      have f5 := f4.trans l5.cut
      have hg5 : (upd H4 g (.tup [.str x.z, .int (now + d3)])) g = some (.tup [.str x.z, .int (now + d3)]) := upd_same
      generalize (upd H4 g (.tup [.str x.z, .int (now + d3)])) = H5 at W5 l5 dt5 f5 hg5 ⊢
      have hpl : S.past.length ≤ 900 := by rw [R.eP, pastOf_len]; omega
      refine ⟨a, _, 6, g, [.str x.z, .int (now + d3)], rfl, W5.M.o, hg5, .inr (.inr (.inr (.inr (.inr (.inr (.inl ⟨rfl, .str x.z, .int (now + d3), rfl, B0, A, a, S, .str x.z, .int (now + d3), rfl, W5.M, str_ok (by have := nz.2.1; omega), .inl ⟨_, rfl⟩, hpl, fun x2 H6 en => absurd en fno, fun d x2 H6 ed ni => absurd (int_is ni) id, fun d n m x2 H6 ed er hs s6 hx6 => ?_, fun d n k x2 H6 ed er hs hj s6 hx6 => ?_, fun d n us' j' H6 ed er hs hg6 hl6 fr6 M6 => ?_⟩))))))⟩
      · refine .inl ⟨e.CS, "stale", "id", x2, .int m, List.mem_cons_of_mem _ (List.mem_cons_of_mem _ List.mem_cons_self), rfl, rfl, hx6, fun t8 n8 => ?_⟩
        obtain ⟨W7, l7⟩ := W5.same (s6.trans (sameAt (o := .tup [.str "stale", .int m]) (Same.refl H6) n8))
        have dt7 := dt5.lst l7
        have f7 := f5.trans l7.cut
        have ht7 : (upd H6 t8 (.tup [.str "stale", .int m])) t8 = some (.tup [.str "stale", .int m]) := upd_same
        generalize (upd H6 t8 (.tup [.str "stale", .int m])) = H7 at W7 l7 dt7 f7 ht7 ⊢
        refine ⟨_, rfl, _, _, _, _, rfl, rfl, SqT.of ht7, rfl, rfl, _, rfl, iteF ⟨_, rfl, _, _, _, _, rfl, rfl, SqT.of ht7, rfl, (by show 3 ≤ sizeLine; decide), fun l nl => ⟨l, _, rfl, .inl (SqL.of upd_same), rfl, rfl, ?_⟩⟩⟩
        obtain ⟨W8, l8⟩ := W7.same (sameAt (o := .lst [.str "told", .str "stale", .str "entry"]) (Same.refl H7) nl)
        exact fin _ _ _ _ _ _ _ W8 (f7.trans l8.cut) (dt7.lst l8) R (Nat.le_succ _) (Nat.le_succ _) rfl rfl id
      · refine .inl ⟨e.CE, "entry", "at", x2, .int (k : Int), List.mem_cons_of_mem _ (List.mem_cons_of_mem _ (List.mem_cons_of_mem _ List.mem_cons_self)), rfl, rfl, hx6, fun t8 n8 => ?_⟩
        obtain ⟨W7, l7⟩ := W5.same (s6.trans (sameAt (o := .tup [.str "entry", .int (k : Int)]) (Same.refl H6) n8))
        have dt7 := dt5.lst l7
        have f7 := f5.trans l7.cut
        have ht7 : (upd H6 t8 (.tup [.str "entry", .int (k : Int)])) t8 = some (.tup [.str "entry", .int (k : Int)]) := upd_same
        generalize (upd H6 t8 (.tup [.str "entry", .int (k : Int)])) = H7 at W7 l7 dt7 f7 ht7 ⊢
        refine ⟨_, rfl, _, _, _, _, rfl, rfl, SqT.of ht7, rfl, rfl, _, rfl, iteF ⟨_, rfl, _, _, _, _, rfl, rfl, SqT.of ht7, rfl, (by show 3 ≤ sizeLine; decide), fun l nl => ⟨l, _, rfl, .inl (SqL.of upd_same), rfl, rfl, ?_⟩⟩⟩
        obtain ⟨W8, l8⟩ := W7.same (sameAt (o := .lst [.str "told", .str "stale", .str "entry"]) (Same.refl H7) nl)
        exact fin _ _ _ _ _ _ _ W8 (f7.trans l8.cut) (dt7.lst l8) R (Nat.le_succ _) (Nat.le_succ _) rfl rfl id
      · obtain rfl := fnd ed
        cases er
        obtain ⟨W6, l6⟩ := W5.office fr6 M6
        have dt6 := dt5.lst l6
        have f6 := f5.trans l6.cut
        intro t8 n8
        rw [r3.2]
        obtain ⟨W7, l7⟩ := W6.same (sameAt (o := .tup [.str "told", .int (x.es.length : Int)]) (Same.refl H6) n8)
        have dt7 := dt6.lst l7
        have f7 := f6.trans l7.cut
        have ht7 : (upd H6 t8 (.tup [.str "told", .int (x.es.length : Int)])) t8 = some (.tup [.str "told", .int (x.es.length : Int)]) := upd_same
        generalize (upd H6 t8 (.tup [.str "told", .int (x.es.length : Int)])) = H7 at W7 l7 dt7 f7 ht7 ⊢
        refine ⟨_, rfl, _, _, _, _, rfl, rfl, SqT.of ht7, rfl, rfl, _, rfl, iteT ?_⟩
        obtain ⟨W8, c8, dt8⟩ := dt7.drop W7 x.z
        obtain ⟨xl, xo⟩ := dt7.dr x xm
        refine ⟨_, rfl, .inl ⟨rfl, _, SqL.of dt7.hC⟩, _, rfl, D, rfl, .inl ⟨_, .inl dt7.hD⟩, _, rfl, _, Sum.inr x.z, _, dt7.hD, rfl, (by rw [EK_val, r2]; rfl), ?_⟩
        rw [EK_drop]
        have xl8 := xl.set (dt7.neD xl.l) c8
        have xo8 := xo
        have f8 := f7.trans c8
        have ht8 := up (c8 _ _ (W7.tup ht7))
        generalize (upd H7 D (.dK (EK (edrop q x.z)))) = H8 at W8 c8 dt8 f8 xl8 ht8 ⊢
        refine ⟨_, rfl, two, fun tc ntc => ?_⟩
        obtain ⟨W9, l9⟩ := W8.same (sameAt (o := .tup [.ref x.l, .int (now + d3)]) (Same.refl H8) ntc)
        have dt9 := dt8.lst l9
        have f9 := f8.trans l9.cut
        have xl9 := xl8.lst (p := p) (s0 := s0) (C := C) l9 xo8
        have xo9 := xo8.lst l9 (nn xl8.l)
        have htc : (upd H8 tc (.tup [.ref x.l, .int (now + d3)])) tc = some (.tup [.ref x.l, .int (now + d3)]) := upd_same
        have ht9 := (sameAt (o := .tup [.ref x.l, .int (now + d3)]) (Same.refl H8) ntc) _ _ ht8
        generalize (upd H8 tc (.tup [.ref x.l, .int (now + d3)])) = H9 at W9 l9 dt9 f9 xl9 htc ht9 ⊢
        obtain ⟨W10, c10, dt10⟩ := dt9.addC (x := ⟨tc, x.l, x.us, x.es, (now + d3)⟩) W9 (W9.tup htc) xl9 xo9 fun y hy z => (edrop_mem hy).2 (congrArg QE.z (nodup_at dt7.nl _ (edrop_mem hy).1 _ xm z))
        refine ⟨C, _, _, rfl, rfl, dt9.hC, small1000 (by rw [List.length_map]; omega), ?_⟩
        have ht10 := up (c10 _ _ (W9.tup ht9))
        rw [show (cs.map fun x => V.ref x.t) ++ [V.ref tc] = (cs ++ [(⟨tc, x.l, x.us, x.es, (now + d3)⟩ : Cl)]).map (fun x : Cl => V.ref x.t) by rw [List.map_append]; rfl]
        have f10 := f9.trans c10
        generalize (upd H9 C (.lst ((cs ++ [(⟨tc, x.l, x.us, x.es, (now + d3)⟩ : Cl)]).map (fun x : Cl => V.ref x.t)))) = H10 at W10 c10 dt10 f10 ht10 ⊢
        refine ⟨_, rfl, _, _, _, _, rfl, rfl, SqT.of ht10, rfl, (by show 3 ≤ sizeLine; decide), fun l nl => ⟨l, _, rfl, .inl (SqL.of upd_same), rfl, rfl, ?_⟩⟩
        obtain ⟨W11, l11⟩ := W10.same (sameAt (o := .lst [.str "told", .str "stale", .str "entry"]) (Same.refl H10) nl)
        exact fin _ _ _ _ _ _ _ W11 (f10.trans l11.cut) (dt10.lst l11) (R.close r3) (Nat.le_succ_of_le (List.length_filter_le _ _)) (by rw [List.length_append]; exact Nat.le_refl _) rfl rfl id
    · rw [decide_eq_false (show ¬ (V.int kd = V.int 5) from fun z => ck5 (V.int.inj z))]
      refine iteF (iteF ?_)
      refine ⟨_, rfl, _, rfl, p, s0, 3, rfl, W3.pool, (by decide), (by decide), fun d3 H4 e0 e1 P4 => ⟨_, _, rfl, rfl, ?_⟩⟩
      obtain ⟨W4, l4⟩ := W3.draw P4
      have dt4 := dt3.lst l4
      have f4 := f3.trans l4.cut
      refine ⟨_, rfl, _, rfl, _, rfl, two, fun g ng => ?_⟩
      obtain ⟨W5, l5⟩ := W4.same (sameAt (o := .tup [.str x.z, .int (now + d3)]) (Same.refl H4) ng)
      have dt5 := dt4.lst l5
      have f5 := f4.trans l5.cut
      have hg5 : (upd H4 g (.tup [.str x.z, .int (now + d3)])) g = some (.tup [.str x.z, .int (now + d3)]) := upd_same
      generalize (upd H4 g (.tup [.str x.z, .int (now + d3)])) = H5 at W5 l5 dt5 f5 hg5 ⊢
      have hpl : S.past.length ≤ 900 := by rw [R.eP, pastOf_len]; omega
      refine ⟨a, _, 6, g, [.str x.z, .int (now + d3)], rfl, W5.M.o, hg5, .inr (.inr (.inr (.inr (.inr (.inr (.inl ⟨rfl, .str x.z, .int (now + d3), rfl, B0, A, a, S, .str x.z, .int (now + d3), rfl, W5.M, str_ok (by have := nz.2.1; omega), .inl ⟨_, rfl⟩, hpl, fun x2 H6 en => absurd en fno, fun d x2 H6 ed ni => absurd (int_is ni) id, fun d n m x2 H6 ed er hs s6 hx6 => ?_, fun d n k x2 H6 ed er hs hj s6 hx6 => ?_, fun d n us' j' H6 ed er hs hg6 hl6 fr6 M6 => ?_⟩))))))⟩
      · refine .inl ⟨e.CS, "stale", "id", x2, .int m, List.mem_cons_of_mem _ (List.mem_cons_of_mem _ List.mem_cons_self), rfl, rfl, hx6, fun t8 n8 => ?_⟩
        obtain ⟨W7, l7⟩ := W5.same (s6.trans (sameAt (o := .tup [.str "stale", .int m]) (Same.refl H6) n8))
        have dt7 := dt5.lst l7
        have f7 := f5.trans l7.cut
        have ht7 : (upd H6 t8 (.tup [.str "stale", .int m])) t8 = some (.tup [.str "stale", .int m]) := upd_same
        generalize (upd H6 t8 (.tup [.str "stale", .int m])) = H7 at W7 l7 dt7 f7 ht7 ⊢
        refine ⟨_, rfl, _, _, _, _, rfl, rfl, SqT.of ht7, rfl, rfl, _, rfl, iteF ⟨_, rfl, _, _, _, _, rfl, rfl, SqT.of ht7, rfl, (by show 3 ≤ sizeLine; decide), fun l nl => ⟨l, _, rfl, .inl (SqL.of upd_same), rfl, rfl, ?_⟩⟩⟩
        obtain ⟨W8, l8⟩ := W7.same (sameAt (o := .lst [.str "told", .str "stale", .str "entry"]) (Same.refl H7) nl)
        exact fin _ _ _ _ _ _ _ W8 (f7.trans l8.cut) (dt7.lst l8) R (Nat.le_succ _) (Nat.le_succ _) rfl rfl id
      · refine .inl ⟨e.CE, "entry", "at", x2, .int (k : Int), List.mem_cons_of_mem _ (List.mem_cons_of_mem _ (List.mem_cons_of_mem _ List.mem_cons_self)), rfl, rfl, hx6, fun t8 n8 => ?_⟩
        obtain ⟨W7, l7⟩ := W5.same (s6.trans (sameAt (o := .tup [.str "entry", .int (k : Int)]) (Same.refl H6) n8))
        have dt7 := dt5.lst l7
        have f7 := f5.trans l7.cut
        have ht7 : (upd H6 t8 (.tup [.str "entry", .int (k : Int)])) t8 = some (.tup [.str "entry", .int (k : Int)]) := upd_same
        generalize (upd H6 t8 (.tup [.str "entry", .int (k : Int)])) = H7 at W7 l7 dt7 f7 ht7 ⊢
        refine ⟨_, rfl, _, _, _, _, rfl, rfl, SqT.of ht7, rfl, rfl, _, rfl, iteF ⟨_, rfl, _, _, _, _, rfl, rfl, SqT.of ht7, rfl, (by show 3 ≤ sizeLine; decide), fun l nl => ⟨l, _, rfl, .inl (SqL.of upd_same), rfl, rfl, ?_⟩⟩⟩
        obtain ⟨W8, l8⟩ := W7.same (sameAt (o := .lst [.str "told", .str "stale", .str "entry"]) (Same.refl H7) nl)
        exact fin _ _ _ _ _ _ _ W8 (f7.trans l8.cut) (dt7.lst l8) R (Nat.le_succ _) (Nat.le_succ _) rfl rfl id
      · obtain rfl := fnd ed
        cases er
        obtain ⟨W6, l6⟩ := W5.office fr6 M6
        have dt6 := dt5.lst l6
        have f6 := f5.trans l6.cut
        intro t8 n8
        rw [r3.2]
        obtain ⟨W7, l7⟩ := W6.same (sameAt (o := .tup [.str "told", .int (x.es.length : Int)]) (Same.refl H6) n8)
        have dt7 := dt6.lst l7
        have f7 := f6.trans l7.cut
        have ht7 : (upd H6 t8 (.tup [.str "told", .int (x.es.length : Int)])) t8 = some (.tup [.str "told", .int (x.es.length : Int)]) := upd_same
        generalize (upd H6 t8 (.tup [.str "told", .int (x.es.length : Int)])) = H7 at W7 l7 dt7 f7 ht7 ⊢
        refine ⟨_, rfl, _, _, _, _, rfl, rfl, SqT.of ht7, rfl, rfl, _, rfl, iteT ?_⟩
        obtain ⟨W8, c8, dt8⟩ := dt7.drop W7 x.z
        obtain ⟨xl, xo⟩ := dt7.dr x xm
        refine ⟨_, rfl, .inl ⟨rfl, _, SqL.of dt7.hC⟩, _, rfl, D, rfl, .inl ⟨_, .inl dt7.hD⟩, _, rfl, _, Sum.inr x.z, _, dt7.hD, rfl, (by rw [EK_val, r2]; rfl), ?_⟩
        rw [EK_drop]
        have xl8 := xl.set (dt7.neD xl.l) c8
        have xo8 := xo
        have f8 := f7.trans c8
        have ht8 := up (c8 _ _ (W7.tup ht7))
        generalize (upd H7 D (.dK (EK (edrop q x.z)))) = H8 at W8 c8 dt8 f8 xl8 ht8 ⊢
        refine ⟨_, rfl, two, fun tc ntc => ?_⟩
        obtain ⟨W9, l9⟩ := W8.same (sameAt (o := .tup [.ref x.l, .int (now + d3)]) (Same.refl H8) ntc)
        have dt9 := dt8.lst l9
        have f9 := f8.trans l9.cut
        have xl9 := xl8.lst (p := p) (s0 := s0) (C := C) l9 xo8
        have xo9 := xo8.lst l9 (nn xl8.l)
        have htc : (upd H8 tc (.tup [.ref x.l, .int (now + d3)])) tc = some (.tup [.ref x.l, .int (now + d3)]) := upd_same
        have ht9 := (sameAt (o := .tup [.ref x.l, .int (now + d3)]) (Same.refl H8) ntc) _ _ ht8
        generalize (upd H8 tc (.tup [.ref x.l, .int (now + d3)])) = H9 at W9 l9 dt9 f9 xl9 htc ht9 ⊢
        obtain ⟨W10, c10, dt10⟩ := dt9.addC (x := ⟨tc, x.l, x.us, x.es, (now + d3)⟩) W9 (W9.tup htc) xl9 xo9 fun y hy z => (edrop_mem hy).2 (congrArg QE.z (nodup_at dt7.nl _ (edrop_mem hy).1 _ xm z))
        refine ⟨C, _, _, rfl, rfl, dt9.hC, small1000 (by rw [List.length_map]; omega), ?_⟩
        have ht10 := up (c10 _ _ (W9.tup ht9))
        rw [show (cs.map fun x => V.ref x.t) ++ [V.ref tc] = (cs ++ [(⟨tc, x.l, x.us, x.es, (now + d3)⟩ : Cl)]).map (fun x : Cl => V.ref x.t) by rw [List.map_append]; rfl]
        have f10 := f9.trans c10
        generalize (upd H9 C (.lst ((cs ++ [(⟨tc, x.l, x.us, x.es, (now + d3)⟩ : Cl)]).map (fun x : Cl => V.ref x.t)))) = H10 at W10 c10 dt10 f10 ht10 ⊢
        refine ⟨_, rfl, _, _, _, _, rfl, rfl, SqT.of ht10, rfl, (by show 3 ≤ sizeLine; decide), fun l nl => ⟨l, _, rfl, .inl (SqL.of upd_same), rfl, rfl, ?_⟩⟩
        obtain ⟨W11, l11⟩ := W10.same (sameAt (o := .lst [.str "told", .str "stale", .str "entry"]) (Same.refl H10) nl)
        exact fin _ _ _ _ _ _ _ W11 (f10.trans l11.cut) (dt10.lst l11) (R.close r3) (Nat.le_succ_of_le (List.length_filter_le _ _)) (by rw [List.length_append]; exact Nat.le_refl _) rfl rfl id
end
end Ash

set_option Elab.async false
set_option linter.all false
set_option maxRecDepth 100000
set_option maxHeartbeats 4000000
set_option pp.maxSteps 1500
namespace Ash
open PySem PySem.Spec PyProof.Rows L2
open C8 (pss_cut)
theorem tuple_shaped {xs : List Ent} (h : ∀ x ∈ xs, x.ok) : SeqAt.shaped (.tuple (xs.map Ent.data)) = true := by
  obtain ⟨h1, h2⟩ := ents_lay h
  unfold SeqAt.shaped
  simp [PyData.canLay0, PyData.depth, h1]
  omega
theorem valV_of : ∀ {kvs : List (Key × V)}, (kvs.map (·.1)).Nodup → ∀ kv ∈ kvs, valV kvs kv.1 = some kv.2
  | [], _, kv, h => nomatch h
  | p :: r, nd, kv, h => by
    rw [List.map_cons, List.nodup_cons] at nd
    rcases List.mem_cons.mp h with rfl | h
    · exact valV_pos rfl
    · rw [valV_neg (fun e => nd.1 (List.mem_map.mpr ⟨kv, h, e.symm⟩))]
      exact valV_of nd.2 kv h
def EqB (CB : Addr) : Addr → Addr → Hp → Prop := fun a b H => a = b ∧ ∃ L, BookAt CB H a L
/-- journals of the same entries, in whatever objects -/
def EqJc (K : PySem.W.Frag) (aT CJ CB : Addr) : Addr → Addr → Hp → Prop := fun i j H => ∃ b L us us' xs, JAt K aT CJ CB H i b L us xs ∧ JAt K aT CJ CB H j b L us' xs
section
variable {P : Program} {w : World} {K : PySem.W.Frag} {mg : Str → Option Value} {base : Heap}
theorem ok_book_eq {f CBook : Addr} {fd : FuncData} (F : Fun K "__eq__" "Book.__eq__" s_Book_eq f fd) (B : Blt mg) (T : Cb K mg CBook) (bk : ∀ H b dx fs, H b = some (.ins CBook dx fs) → TyX K H (.ref b) (.ref CBook)) : FnOk P w K mg base CX0 1 f fd ["self", "other"] (spEq (EqB CBook)) := by
  have c_Book := T.c
  refine F.ok sc_Book_eq (fun vs H Q E h => ?_) (fun cdv A outer s H vs Q E hr h => ?_)
  · obtain ⟨a, b, rfl, _⟩ := h
    rfl
  · obtain ⟨a, b, rfl, ⟨rfl, L, hB⟩, q⟩ := h
    have hu := hu_of hr
    have hu0 : (A.deeper (envOfC "Book.__eq__" (defScope s_Book_eq) s.heap.objs.size f cdv)).units < cLine := by omega
    refine ⟨_, (pss_one (ps_ret (pe_and (pe_callB call_isi (by rfl) B.isinstance (by decide +kernel) (pa_cons (pv 1) (pa_cons (pe_glob (v := .ref CBook) (by rfl) c_Book rfl) pa_nil))) (pe_one (pe_cmpR (op_eq_dictA hu0) (pe_fld (pv 0) rfl) (pe_fld (pv 1) rfl) (nomark _)))))), ?_⟩
    obtain ⟨dx, d, L', h1, h2, h3, nd⟩ := id hB
    have nk : ((LK L').map (·.1)).Nodup := by
      unfold LK
      rw [List.map_map]
      have e : (L'.map ((fun x => x.1) ∘ fun x => ((Sum.inr x.1 : Key), V.int x.2))) = (L'.map (·.1)).map (Sum.inr : Str → Key) := by rw [List.map_map]; rfl
      rw [e]
      exact List.Pairwise.map (Sum.inr : Str → Key) (fun a b h z => h (Sum.inr.inj z)) nd
    refine ⟨_, rfl, _, _, _, _, true, rfl, ClsV.own _, bk _ _ _ _ h1, (by show PySem.W.kitOne K _ _ = _; unfold PySem.W.kitOne; rw [if_pos (by simp)]), _, rfl, iteT ?_⟩
    refine ⟨_, rfl, a, CBook, dx, _, _, rfl, h1, T.cl, T.nL, rfl, _, rfl, a, CBook, dx, _, _, rfl, h1, T.cl, T.nL, rfl, d, d, _, _, rfl, rfl, h2, h2, rfl, fun p hp => ⟨valV_of nk p hp, ?_⟩, q H Ext.rfl'⟩
    obtain ⟨x, hx, rfl⟩ := List.mem_map.mp hp
    rfl
abbrev s_Journal_eq : Stmt := inClass (topS 35) 1
theorem sc_Journal_eq : FnScope ["self", "other"] ["self", "other"] (defScope s_Journal_eq) := ⟨rfl, rfl, rfl, by decide +kernel, rfl, by decide +kernel, by decide +kernel⟩
theorem ok_j_eqc {f fb CJournal CB aT : Addr} {fd fdb : FuncData} (F : Fun K "__eq__" "Journal.__eq__" s_Journal_eq f fd) (B : Blt mg) (T : Cj P K mg CJournal CB) (jk : ∀ H b dx fs, H b = some (.ins CJournal dx fs) → TyX K H (.ref b) (.ref CJournal))
    (hs : PySem.W.findIn K (.ref CB) "__eq__" = some (some (.ref fb))) (hf : PySem.W.isFn K (.ref fb) = true) (hb : Binds K fdb ["self", "other"] []) (Fb : FnOk P w K mg base CX0 1 fb fdb ["self", "other"] (spEq (EqB CB))) : FnOk P w K mg base CX0 3 f fd ["self", "other"] (spEq (EqJc K aT CJournal CB)) := by
  have c_Journal := T.c
  refine F.ok sc_Journal_eq (fun vs H Q E h => ?_) (fun cdv A outer s H vs Q E hr h => ?_)
  · obtain ⟨a, b, rfl, _⟩ := h
    rfl
  · obtain ⟨i, j, rfl, ⟨b, L, us, us', xs, hI, hJ⟩, q⟩ := h
    refine ⟨_, (pss_one (ps_ret (pe_and (pe_callB call_isi (by rfl) B.isinstance (by decide +kernel) (pa_cons (pv 1) (pa_cons (pe_glob (v := .ref CJournal) (by rfl) c_Journal rfl) pa_nil))) (pe_and (pe_cmpR (op_eqG (rcG_ins Fb hs hf hb pass0) (hr.mono (by decide))) (pe_fld (pv 0) rfl) (pe_fld (pv 1) rfl) (nomark _)) (pe_one (pe_cmpR (op_eqD hr.units) (pe_fld (pv 0) rfl) (pe_fld (pv 1) rfl) (nomark _))))))), ?_⟩
    obtain ⟨dx, t, kd, h1, h2, h3, hl, h5, h6, h7⟩ := id hI
    obtain ⟨dy, t', kd', g1, g2, g3, gl, g5, g6, g7⟩ := id hJ
    obtain ⟨bx, d, L', b1, b2, b3, nd⟩ := id h2
    have E1 := hI.ents
    have E2 := hJ.ents
    refine ⟨_, rfl, _, _, _, _, true, rfl, ClsV.own _, jk _ _ _ _ g1, (by show PySem.W.kitOne K _ _ = _; unfold PySem.W.kitOne; rw [if_pos (by simp)]), _, rfl, iteT ?_⟩
    refine ⟨_, rfl, i, CJournal, dx, _, _, rfl, h1, T.cl, T.nB, jf_b _ _ _, _, rfl, j, CJournal, dy, _, _, rfl, g1, T.cl, T.nB, jf_b _ _ _, ⟨b, b, _, _, _, _, rfl, rfl, b1, b1, rfl, L, h2⟩, fun H1 e1 => ⟨_, rfl, iteT ?_⟩⟩
    refine ⟨_, rfl, i, CJournal, dx, _, _, rfl, e1 _ _ h1, T.cl, T.nE, jf_e _ _ _, _, rfl, j, CJournal, dy, _, _, rfl, e1 _ _ g1, T.cl, T.nE, jf_e _ _ _, .tuple (xs.map Ent.data), .tuple (xs.map Ent.data), .tup (h3.ext e1) (E1.same e1).dp, .tup (g3.ext e1) (E2.same e1).dp, tuple_shaped E1.ok, tuple_shaped E1.ok, ?_⟩
    rw [SeqAt.eqv_refl _ (SeqAt.canLay_of_shaped (tuple_shaped E1.ok))]
    exact q H1 e1
end
end Ash

set_option Elab.async false
set_option linter.all false
set_option maxRecDepth 100000
set_option maxHeartbeats 4000000
set_option pp.maxSteps 1500
namespace Ash
open PySem PySem.Spec PyProof.Rows L2
open C8 (pss_cut)
/-! ### the law -/
theorem cutN (xs : List V) (n : Nat) : cutV xs none (some (n : Int)) = xs.take n := by
  unfold cutV
  rw [HT.sIx_none, HT.sIx_nat, List.drop_zero, Nat.sub_zero]
  by_cases c : n ≤ xs.length
  · rw [Nat.min_eq_left c]
  · rw [Nat.min_eq_right (by omega), List.take_length, List.take_of_length_le (by omega)]
theorem cut_drop (us : List V) (f : Nat) (h : f ≤ us.length) : cutV us (some (f : Int)) none = us.drop f := by
  unfold cutV
  rw [HT.sIx_nat, Nat.min_eq_left h]
  exact List.take_of_length_le (by rw [List.length_drop]; exact Nat.le_refl _)
theorem noPart {σ : L2.St} {H : Hp} {Q : Option Int → Hp → Prop} (h : Q none H) : tNoPart σ H Q := h
theorem eqD_ents {K : PySem.W.Frag} {H : Hp} {l d : Addr} {us1 us2 : List V} {xs : List Ent} {Q : VK} (hl : H l = some (.lst us1)) (E1 : Ents H us1 xs) (hd : H d = some (.lst us2)) (E2 : Ents H us2 xs) (q : Q (.bl true) H) : rEqD K (.ref l) (.ref d) H Q := by
  refine ⟨.list (xs.map Ent.data), .list (xs.map Ent.data), .lst (SqL.of hl) E1.dp, .lst (SqL.of hd) E2.dp, list_shaped E1.ok, list_shaped E1.ok, ?_⟩
  rw [SeqAt.eqv_refl _ (SeqAt.canLay_of_shaped (list_shaped E1.ok))]
  exact q
theorem Ents.cutW {B : Addr → Prop} {H : Hp} {us : List V} {xs : List Ent} (h : Ents H us xs) (k : ∀ q ys, H q = some (.tup ys) → ¬ B q) : Ents (cutH B H) us xs := ⟨h.1, fun i v x a b => by
  obtain ⟨e, h1, h2, h3⟩ := h.2 i v x a b
  exact ⟨e, h1, cut_at (k _ _ h2) h2, h3⟩⟩
structure Sit (c : Cls6) (B : Addr → Prop) (H : Hp) (dl dk wl q1 b j : Addr) (L : List (Str × Int)) (ks ws : List Str) (us : List V) (xs : List Ent) : Prop where
  dl : cutH B H dl = some (.dK (LK L))
  dk : cutH B H dk = some (.lst (ks.map V.str))
  wl : cutH B H wl = some (.lst (ws.map V.str))
  q1 : cutH B H q1 = some (.lst us)
  E : Ents (cutH B H) us xs
  bk : BookAt c.CB (cutH B H) b L
  jr : JAt c.K c.aT c.CJ c.CB (cutH B H) j b L us xs
theorem Sit.go {c : Cls6} {B B' : Addr → Prop} {H H' : Hp} {dl dk wl q1 b j : Addr} {L : List (Str × Int)} {ks ws : List Str} {us : List V} {xs : List Ent} (h : Sit c B H dl dk wl q1 b j L ks ws us xs) (s : Same (cutH B H) (cutH B' H')) : Sit c B' H' dl dk wl q1 b j L ks ws us xs :=
  ⟨s _ _ h.dl, s _ _ h.dk, s _ _ h.wl, s _ _ h.q1, h.E.same s, h.bk.same s, h.jr.same s⟩
structure LI (c : Cls6) (p s0 dl dk wl q1 b j o D C : Addr) (L : List (Str × Int)) (ks ws : List Str) (us : List V) (xs : List Ent) (i : Nat) (B A : Addr → Prop) (H : Hp) (a : OA) (S : OS) (q : List QE) (cs : List Cl) : Prop where
  W : LW c B A H a S p s0
  d : Dt L B A H p s0 D C q cs
  R : Rl S L xs q cs
  t : Sit c B H dl dk wl q1 b j L ks ws us xs
  ao : a.o = o
  ab : a.b = b
  abj : a.bj = b
  l1 : q.length ≤ i
  l2 : cs.length ≤ i
section
variable {c : Cls6} {p s0 dl dk wl q1 b j o D C : Addr} {L : List (Str × Int)} {ks ws : List Str} {us : List V} {xs : List Ent} {i : Nat} {B A : Addr → Prop} {H : Hp} {a : OA} {S : OS} {q : List QE} {cs : List Cl}
theorem LI.lst {B' A' : Addr → Prop} {H' : Hp} (I : LI c p s0 dl dk wl q1 b j o D C L ks ws us xs i B A H a S q cs) (W : LW c B' A' H' a S p s0) (l : Lst p B A H B' A' H') : LI c p s0 dl dk wl q1 b j o D C L ks ws us xs i B' A' H' a S q cs :=
  ⟨W, I.d.lst l, I.R, I.t.go l.cut, I.ao, I.ab, I.abj, I.l1, I.l2⟩
theorem LI.draw {H' : Hp} (I : LI c p s0 dl dk wl q1 b j o D C L ks ws us xs i B A H a S q cs) (P : Pl H H' p s0) : LI c p s0 dl dk wl q1 b j o D C L ks ws us xs i B A H' a S q cs := I.lst (I.W.draw P).1 (I.W.draw P).2
theorem LI.same {H' : Hp} (I : LI c p s0 dl dk wl q1 b j o D C L ks ws us xs i B A H a S q cs) (e : Same H H') : LI c p s0 dl dk wl q1 b j o D C L ks ws us xs i B A H' a S q cs := I.lst (I.W.same e).1 (I.W.same e).2
theorem LI.jx (I : LI c p s0 dl dk wl q1 b j o D C L ks ws us xs i B A H a S q cs) : JAt c.K c.aT c.CJ c.CB (cutH B H) a.j b L S.us (xs ++ flat cs) := by
  have h := I.W.M.jr
  rw [I.abj, I.R.eL, I.R.eX] at h
  exact h
theorem LI.good (I : LI c p s0 dl dk wl q1 b j o D C L ks ws us xs i B A H a S q cs) : Good L (xs ++ flat cs) := by
  obtain ⟨dx, t, kd, h1, h2, h3, h4, h5, h6, h7⟩ := I.jx
  exact h6
theorem LI.len (I : LI c p s0 dl dk wl q1 b j o D C L ks ws us xs i B A H a S q cs) : (xs ++ flat cs).length ≤ 400 := by
  have h := I.jx.ents.1
  have h4 := I.W.M.x4
  omega
theorem LI.cls (I : LI c p s0 dl dk wl q1 b j o D C L ks ws us xs i B A H a S q cs) : ∀ x ∈ cs, ClAt H x ∧ (∀ y ∈ x.es, DOk L y) ∧ x.es.length ≤ 20 := fun x hx => by
  obtain ⟨a1, a2, a3⟩ := I.d.cl x hx
  exact ⟨⟨up a1, a2.l, a2.D.same (cut_same _ _)⟩, a2.ok, a2.n⟩
end
section
variable {P : Program} {w : World} {mg : Str → Option Value} {base : Heap} {c : Cls6} {e : Errs}
structure GL (P : Program) (w : World) (mg : Str → Option Value) (base : Heap) (c : Cls6) (e : Errs) : Prop extends G3 P w c.K mg base where
  law_pool : Cal P w c.K mg base CX0 "_law_pool" 1 ["_law_script"] (spPool c.K)
  law_entries : Cal P w c.K mg base CX0 "_law_entries" 4 ["_law_pool_here", "_law_lates_here", "_law_keys", "_law_states_here", "_law_number", "_law_arrival", "_law_many"] spEntries
  law_appended : Cal P w c.K mg base CX0 "_law_appended" 1 ["_law_entries_here", "_law_closed"] spAppended
  law_deed : Cal P w c.K mg base CX0 "_law_deed" 15 ["_law_pool_here", "_law_office", "_law_drafts", "_law_closed", "_law_writer", "_law_lates_here", "_law_keys", "_law_entries_here", "_law_number", "_law_begin_here"] (spDeed c)
  law_replayed : Cal P w c.K mg base CX0 "_law_replayed" 15 ["_law_book", "_law_journal", "_law_closed"] (spReplayed c)
  undo : Met P w c.K mg base (L2.CX P w) c.CO "undo" 9 ["self"] (spUndoO c e.CT)
  Book : Mak P w c.K mg base CX0 "Book" c.CB 4 ["self", "lates"] (spBookInit c.CB)
  Journal : Mak P w c.K mg base (L2.CX P w) "Journal" c.CJ 7 ["self", "book", "entries"] (spJInit c.K c.aT c.CJ c.CB e.CE)
  Office : Mak P w c.K mg base (L2.CX P w) "Office" c.CO 4 ["self", "book", "journal"] (spOfInit c)
  T : Co c.K mg c.CO
  TJ : Cj P c.K mg c.CJ c.CB
abbrev s_law : Stmt := topS 61
theorem sc_law : FnScope ["_law_script", "_law_pool_here", "_law_lates_here", "_law_keys", "_law_book", "_law_begin_here", "_law_entries_here", "_law_first", "_law_office", "_law_writers", "_law_drafts", "_law_closed", "_law_k", "_law_whole", "_law_writer", "_law_journal", "_law_cut", "_law_middle"] ["_law_script"] (defScope s_law) := ⟨rfl, rfl, rfl, by decide +kernel, rfl, by decide +kernel, by decide +kernel⟩
theorem ok_law {f fq : Addr} {fd fdq : FuncData} (F : Fun c.K "law" "law" s_law f fd) (B : Blt mg) (G : GL P w mg base c e) (Zq : NeC c.K c.CJ fq) (qs : PySem.W.findIn c.K (.ref c.CJ) "__eq__" = some (some (.ref fq))) (qf : PySem.W.isFn c.K (.ref fq) = true) (bq : Binds c.K fdq ["self", "other"] []) (Fq : FnOk P w c.K mg base CX0 3 fq fdq ["self", "other"] (spEq (EqJc c.K c.aT c.CJ c.CB))) : FnOk P w c.K mg base CX0 17 f fd ["_law_script"] (spLawN c.K) := by
  have T := G.T
  have TJ := G.TJ
  refine F.ok sc_law (fun vs H Q E h => ?_) (fun cdv A0 outer s H vs Q E hr h => ?_)
  · obtain ⟨a, ns, rfl, _⟩ := h
    rfl
  · obtain ⟨a, ns, rfl, hS, hns, q⟩ := h
    have hu := hu_of hr
    have hu0 : (A0.deeper (envOfC "law" (defScope s_law) s.heap.objs.size f cdv)).units < cLine := by omega
    refine ⟨_, (pss_cons (ps_set (i := 1) sc_law.nd rfl (Or.inl rfl) (pe_cal G.law_pool (hr.mono (by decide)) pass0 (pa_cons (pv 0) pa_nil)))
    (pss_cons (ps_set (i := 2) sc_law.nd rfl (Or.inl rfl) (pe_cal G.law_lates (hr.mono (by decide)) pass0 (pa_cons (pv 1) pa_nil)))
    (pss_cons (ps_set (i := 3) sc_law.nd rfl (Or.inl rfl) (pe_cal G.law_names (hr.mono (by decide)) pass0 (pa_cons (pv 1) (pa_cons (pe_op op_add pe_int (pe_cal G.law_draw (hr.mono (by decide)) pass0 (pa_cons (pv 1) (pa_cons pe_int pa_nil)))) pa_nil))))
    (pss_cons (ps_set (i := 4) sc_law.nd rfl (Or.inl rfl) (pe_mak G.Book (hr.mono (by decide)) pass0 (pa_cons (pv 2) pa_nil)))
    (pss_cons (ps_set (i := 5) sc_law.nd rfl (Or.inl rfl) (pe_cal G.law_draw (hr.mono (by decide)) pass0 (pa_cons (pv 1) (pa_cons pe_int pa_nil))))
    (pss_cons (ps_set (i := 6) sc_law.nd rfl (Or.inl rfl) (pe_cal G.law_entries (hr.mono (by decide)) pass0 (pa_cons (pv 1) (pa_cons (pv 2) (pa_cons (pv 3) (pa_cons pe_dnewK (pa_cons pe_int (pa_cons (pv 5) (pa_cons (pe_cal G.law_draw (hr.mono (by decide)) pass0 (pa_cons (pv 1) (pa_cons pe_int pa_nil))) pa_nil)))))))))
    (pss_cons (ps_set (i := 7) sc_law.nd rfl (Or.inl rfl) (pe_mak G.Journal (hr.mono (by decide)) (passE takes0) (pa_cons (pv 4) (pa_cons (pv 6) pa_nil))))
    (pss_cons (ps_set (i := 8) sc_law.nd rfl (Or.inl rfl) (pe_mak G.Office (hr.mono (by decide)) (passE takes0) (pa_cons (pv 4) (pa_cons (pv 7) pa_nil))))
    (pss_cons (ps_set (i := 9) sc_law.nd rfl (Or.inl rfl) (pe_cal G.law_names (hr.mono (by decide)) pass0 (pa_cons (pv 1) (pa_cons pe_int pa_nil))))
    (pss_cons (ps_set (i := 10) sc_law.nd rfl (Or.inl rfl) pe_dnewK)
    (pss_cons (ps_set (i := 11) sc_law.nd rfl (Or.inl rfl) (pe_lst pa_nil))
    (pss_cons (ps_for PassesOwn.never rfl (pi_range1 (by rfl) B.range (pa_cons (pe_callB (call_min2 rfl) (by rfl) B.min (by decide +kernel) (pa_cons pe_int (pa_cons (pe_callB (call_max2 rfl) (by rfl) B.max (by decide +kernel) (pa_cons pe_int (pa_cons (pe_callB call_len_seq (by rfl) B.len (by decide +kernel) (pa_cons (pv 0) pa_nil)) pa_nil))) pa_nil))) pa_nil)) (pg_name (i := 12) sc_law.nd rfl (Or.inl rfl))
      (pss_cons (ps_set (i := 13) sc_law.nd rfl (Or.inl rfl) (pe_cal G.law_appended (hr.mono (by decide)) pass0 (pa_cons (pv 6) (pa_cons (pv 11) pa_nil))))
      (pss_cons (ps_set (i := 14) sc_law.nd rfl (Or.inl rfl) (pe_ix ix_list (pv 9) (pe_cal G.law_draw (hr.mono (by decide)) pass0 (pa_cons (pv 1) (pa_cons pe_int pa_nil))) (fun _ _ => rfl)))
      (pss_cons (ps_if (pt_not (pt_val (pe_cal G.law_deed (hr.mono (by decide)) pass0 (pa_cons (pv 1) (pa_cons (pv 8) (pa_cons (pv 10) (pa_cons (pv 11) (pa_cons (pv 14) (pa_cons (pv 2) (pa_cons (pv 3) (pa_cons (pv 13) (pa_cons (pe_op op_add pe_int (pv 12)) (pa_cons (pv 5) pa_nil)))))))))))))
        (pss_one (ps_ret pe_bl))
        pss_nil)
      (pss_one (ps_if (pt_cmpR (op_neD hr.units) (pe_callTy call_list_of (by rfl) B.list (by decide +kernel) (pa_cons (pe_fld (pe_fld (pv 8) rfl) rfl) pa_nil)) (pe_cal G.law_appended (hr.mono (by decide)) pass0 (pa_cons (pv 6) (pa_cons (pv 11) pa_nil))) (nomark _))
        (pss_one (ps_ret pe_bl))
        pss_nil))))))
    (pss_cons (ps_set (i := 15) sc_law.nd rfl (Or.inl rfl) (pe_fld (pv 8) rfl))
    (pss_cons (ps_if (pt_cmpR (op_neG Fq Zq bq pass0 (hr.mono (by decide))) (pe_cal G.law_replayed (hr.mono (by decide)) pass0 (pa_cons (pv 4) (pa_cons (pv 7) (pa_cons (pv 11) pa_nil)))) (pv 15) (nomark _))
      (pss_one (ps_ret pe_bl))
      pss_nil)
    (pss_cons (ps_set (i := 16) sc_law.nd rfl (Or.inl rfl) (pe_cal G.law_draw (hr.mono (by decide)) pass0 (pa_cons (pv 1) (pa_cons (pe_op op_add (pe_callB call_len_seq (by rfl) B.len (by decide +kernel) (pa_cons (pv 11) pa_nil)) pe_int) pa_nil))))
    (pss_cons (ps_set (i := 17) sc_law.nd rfl (Or.inl rfl) (pe_cal G.law_replayed (hr.mono (by decide)) pass0 (pa_cons (pv 4) (pa_cons (pv 7) (pa_cons (pe_slice sl_list (pv 11) po_none (po_some (pv 16))) pa_nil)))))
    (pss_cons (ps_if (PW.pt (pw_or (pt_cmpR op_isN (pv 17) pe_non (nomark _)) (pw_or1 (pt_cmpR (op_neG Fq Zq bq pass0 (hr.mono (by decide))) (pe_cal G.law_replayed (hr.mono (by decide)) pass0 (pa_cons (pv 4) (pa_cons (pv 17) (pa_cons (pe_slice sl_list (pv 11) (po_some (pv 16)) po_none) pa_nil)))) (pv 15) (nomark _)))))
      (pss_one (ps_ret pe_bl))
      pss_nil)
    (pss_cons (ps_for PassesOwn.never rfl (pi_range1 (by rfl) B.range (pa_cons (pe_callB call_len_seq (by rfl) B.len (by decide +kernel) (pa_cons (pv 11) pa_nil)) pa_nil)) (pg_name (i := 12) sc_law.nd rfl (Or.inl rfl))
      (pss_one (ps_if (pt_cmpR op_notN (pe_met0 T.cl G.undo (hr.mono (by decide)) (passE takes0) (pv 8)) pe_non (nomark _))
        (pss_one (ps_ret pe_bl))
        pss_nil)))
    (pss_one (ps_ret (pe_and (pe_cmpR (op_eqG (rcG_ins Fq qs qf bq pass0) (hr.mono (by decide))) (pe_fld (pv 8) rfl) (pv 7) (nomark _)) (pe_one (pe_cmpR (op_eqD hr.units) (pe_callTy call_list_of (by rfl) B.list (by decide +kernel) (pa_cons (pe_fld (pv 15) rfl) pa_nil)) (pe_cal G.law_appended (hr.mono (by decide)) pass0 (pa_cons (pv 6) (pa_cons (pv 11) pa_nil))) (nomark _)))))))))))))))))))))))), ?_⟩
    have two : (2 : Nat) ≤ sizeLine := by decide
    refine ⟨_, rfl, a, ns, rfl, hS, fun p s0 H1 hp hP1 s1 => ?_⟩
    refine ⟨_, rfl, p, s0, rfl, hP1, fun dl L H2 hdl0 hdl LL P2 => ?_⟩
    refine ⟨_, rfl, _, rfl, p, s0, 2, rfl, P2.now, (by decide), (by decide), fun d H3 d0 d1 P3 => ⟨_, _, rfl, rfl, p, s0, _, rfl, P3.now, (by omega), (by omega), fun dk ks H4 hdk0 hdk hkl knd knm P4 => ?_⟩⟩
    have P24 : Pl H2 H4 p s0 := P3.trans P4
    have hdl4 := P24.dk P2.now hdl
    refine ⟨_, rfl, fun b dxb nb ndb neb => ⟨b, dxb, dl, L, rfl, upd_same, ?_, LL, fun H5 hB kB => ⟨rfl, ?_⟩⟩⟩
    · exact (mk_same nb ndb (fun c o h n => h)) _ _ hdl4
    have s45 : Same H4 H5 := mk_same nb ndb kB
    have P5 : PoolAt H5 p s0 := P4.now.same s45
    have hdl5 := s45 _ _ hdl4
    have hdk5 := s45 _ _ hdk
    have P15 : Pl H1 H5 p s0 := (P2.trans P24).same s45
    have dkp : dk ≠ p := fun z => P3.now.ne.1 (z ▸ hdk0)
    refine ⟨_, rfl, p, s0, 20, rfl, P5, (by decide), (by decide), fun begin_ H5b n0 n1 P5b => ?_⟩
    have hdl5b := P5b.dk P5 hdl5
    have hdk5b := P5b.keep hdk5 dkp
    have hB5b := hB.pl P5 P5b
    have P15b := P15.trans P5b
    have P5 := P5b.now
    refine ⟨_, rfl, _, rfl, _, rfl, fun ds hds => ⟨_, rfl, _, rfl, p, s0, 6, rfl, ((Pl.refl P5).new hds).now, (by decide), (by decide), fun many H8 m0 m1 P8 => ?_⟩⟩
    have P58 : Pl H5b H8 p s0 := ((Pl.refl P5).new hds).trans P8
    have hds8 : H8 ds = some (.dK []) := P8.dk ((Pl.refl P5).new hds).now upd_same
    have st : ∀ n, StAt H8 ds (fun _ => none) n := fun n => ⟨[], hds8, Nat.zero_le _, (fun _ h => nomatch h), fun id => True.intro⟩
    have hdl8 := P58.dk P5 hdl5b
    have hdk8 := P58.keep hdk5b dkp
    refine ⟨p, s0, dl, dk, ds, L, ks, fun _ => none, 0, 0, begin_, many, rfl, ⟨P58.now, hdl8, LL, hdk8, by omega, by omega, knm, st _, (fun _ _ _ _ _ e => by cases e), fun id h => absurd rfl h⟩, st _, by omega, by omega, by omega, by omega, (fun id h => absurd rfl h), (fun z => by rw [z, hdl5b] at hds; cases hds), fun q1 us xs S1 H9 hq10 hq1 hE hlen hwk harr hst hkn5 hids PD => ?_⟩
    have P59 : Pl H5b H9 p s0 := ⟨PD.now, P5.ne.1, P5.ne.2, fun c o hc n => PD.but c o (P58.keep hc n) n (fun z => by rw [z, hds] at hc; cases hc)⟩
    have hdl9 := P59.dk P5 hdl5b
    have hdk9 := P59.keep hdk5b dkp
    have hB9 := hB5b.pl P5 P59
    have hw9 := hwk none (fun _ z => nomatch z) 0
    have q1p : q1 ≠ p := fun z => P58.now.ne.1 (z ▸ hq10)
    have P19 : Pl H1 H9 p s0 := P15b.trans P59
    have PQ9 := P59.now
    clear hwk harr hst hids st hds8 hkn5 PD P58 P59 P8 hq10 hdl8 hdk8 hdl5 hdk5 hdl5b hdk5b hB5b P15b hB hds P15 hdl4 hdk P24 P4 P3 P2
    refine ⟨_, rfl, _, rfl, fun j dx' nx ndx nex => mkJN hB9 hq1 hE (by omega) hw9 nx ndx nex fun HJ sJ hJ => ?_⟩
    refine ⟨_, rfl, _, rfl, fun o dxo no ndo neo => ?_⟩
    have sO : Same HJ (upd (upd HJ dxo (.own o)) o (.ins c.CO dxo [])) := (sameAt (Same.refl _) ndo).trans (sameAt (Same.refl _) (by rw [upd_ne (Ne.symm neo)]; exact no))
    have hoI : (upd (upd HJ dxo (.own o)) o (.ins c.CO dxo [])) o = some (.ins c.CO dxo []) := upd_same
    have PJ := PQ9.same sJ
    obtain ⟨xsp, hxp⟩ : ∃ xs, HJ p = some (.lst xs) := by
      obtain ⟨_, _, _, _, _, e, _⟩ := PJ
      exact ⟨_, e⟩
    have Lp : ∀ x, x = p → ∃ xs, HJ x = some (.lst xs) := fun x z => ⟨xsp, by rw [z]; exact hxp⟩
    have cO : Same (cutH (fun x => x = p) HJ) (cutH (fun x => x = p ∨ x = o) (upd (upd HJ dxo (.own o)) o (.ins c.CO dxo []))) := cut_step (fun q u h _ => sO _ _ h) fun q h => h.imp id fun z => by rw [z]; exact no
    have hBc := (hB9.same sJ).cutL (B := fun x => x = p) Lp
    have hJc := hJ.cutL (B := fun x => x = p) Lp
    have hEc := (hE.same sJ).cutL (B := fun x => x = p) Lp
    have hdlc : cutH (fun x => x = p) HJ dl = some (.dK (LK L)) := nl_cut Lp (sJ _ _ hdl9) fun xs z => nomatch z
    have hdkc : cutH (fun x => x = p) HJ dk = some (.lst (ks.map V.str)) := cut_at dkp (sJ _ _ hdk9)
    have hq1c : cutH (fun x => x = p) HJ q1 = some (.lst us) := cut_at q1p (sJ _ _ hq1)
    have POI := PJ.same sO
    have nop : o ≠ p := fun z => PJ.ne.1 (z ▸ no)
    have nos : o ≠ s0 := fun z => PJ.ne.2 (z ▸ no)
    have aSqc : SqL c.K (cutH (fun x => x = p) HJ) a (ns.map V.int) := by
      rcases hS with (h | ⟨o, h⟩) | h
      · have n : a ≠ p := fun z => by rw [z, hp] at h; cases h
        exact .inl (.inl (cut_at n (sJ _ _ (P19.keep (s1 _ _ h) n))))
      · have n : a ≠ p := fun z => by rw [z, hp] at h; cases h
        exact .inl (.inr ⟨o, cut_at n (sJ _ _ (P19.keep (s1 _ _ h) n))⟩)
      · exact .inr h
    refine ⟨fun x => x = p ∨ x = o, o, dxo, b, j, b, L, us, xs, rfl, hoI, .inr rfl, fun x hx => ?_, hBc.same cO, hJc.same cO, by rw [hE.1]; omega, fun oa A' HO eo ej eb ebj kO gO MO => ⟨rfl, ?_⟩⟩
    · rcases hx with rfl | rfl
      · exact ⟨_, sO _ _ hxp, trivial⟩
      · exact ⟨_, hoI, rfl⟩
    have cOO : Same (cutH (fun x => x = p) HJ) (cutH (uni (fun x => x = p ∨ x = o) A') HO) := cO.trans (cut_step (fun q u h n => kO q u h fun z => n (.inr z)) fun q h => h.elim .inl fun z => (gO q z).imp .inr id)
    have W0 : LW c (uni (fun x => x = p ∨ x = o) A') A' HO oa (newOS L xs us) p s0 := by
      obtain ⟨ns', i', c', k', n', e1, e2, e3, e4⟩ := POI
      refine ⟨MO, ⟨ns', i', c', k', n', kO _ _ e1 nop.symm, kO _ _ e2 nos.symm, e3, e4⟩, .inl (.inl rfl), fun z => ?_, fun z => ?_⟩
      · rcases gO _ z with h | h
        · exact nop h.symm
        · rw [e1] at h; cases h
      · rcases gO _ z with h | h
        · exact nos h.symm
        · rw [e2] at h; cases h
    have F0dl := cOO _ _ hdlc
    have F0dk := cOO _ _ hdkc
    have F0de := cOO _ _ hq1c
    have F0E := hEc.same cOO
    have F0B := hBc.same cOO
    have F0J := hJc.same cOO
    have hgood := hw9
    have a0 := sqL_same aSqc cOO
    clear hBc hJc hEc hdlc hdkc hq1c aSqc cOO MO kO gO POI cO hoI sO Lp hxp PJ hJ sJ hB9 hq1 hdl9 hdk9 P19 PQ9
    have hlx : xs.length ≤ 5 := by omega
    subst eo
    generalize (uni (fun x => x = p ∨ x = oa.o) A') = B0 at W0 F0dl F0dk F0de F0E F0B F0J a0
    have F0E0 := F0E
    refine ⟨_, rfl, p, s0, 3, rfl, W0.pool, (by decide), (by decide), fun wl ws Hn hwl0 hwl wll wnd wnm Pn => ?_⟩
    obtain ⟨W1, l1⟩ := W0.draw Pn
    have wlB : ¬ B0 wl := W0.M.free hwl0
    have twl := cut_at wlB hwl
    have F1dl := l1.cut _ _ F0dl
    have F1dk := l1.cut _ _ F0dk
    have F1de := l1.cut _ _ F0de
    have F1E := F0E0.same l1.cut
    have F1B := F0B.same l1.cut
    have F1J := F0J.same l1.cut
    have a1 := sqL_same a0 l1.cut
    clear W0 l1 Pn F0dl F0dk F0de F0E F0E0 F0B F0J a0 hwl hwl0 wlB
    intro D nD
    obtain ⟨W2, l2⟩ := W1.own (o := .dK []) nD trivial
    have hD2 : (upd Hn D (.dK [])) D = some (.dK []) := upd_same
    have nDA : ¬ A' D := fun z => (W1.M.free nD) (W1.M.AB _ z)
    have Dp : D ≠ p := fun z => W1.pool.ne.1 (z ▸ nD)
    have Ds : D ≠ s0 := fun z => W1.pool.ne.2 (z ▸ nD)
    generalize hB2 : (fun x => B0 x ∨ x = D) = B2 at W2 l2
    have bD : B2 D := by rw [← hB2]; exact .inr rfl
    generalize (upd Hn D (.dK [])) = H2' at W2 l2 hD2 ⊢
    refine ⟨(by show 0 ≤ sizeLine; decide), fun C nC => ?_⟩
    obtain ⟨W3, l3⟩ := W2.own (o := .lst []) nC trivial
    have hC3 : (upd H2' C (.lst [])) C = some (.lst []) := upd_same
    have hD3 := (sameAt (o := .lst []) (Same.refl H2') nC) _ _ hD2
    have nCA : ¬ A' C := fun z => (W2.M.free nC) (W2.M.AB _ z)
    have Cp : C ≠ p := fun z => W2.pool.ne.1 (z ▸ nC)
    have Cs : C ≠ s0 := fun z => W2.pool.ne.2 (z ▸ nC)
    generalize hB3 : (fun x => B2 x ∨ x = C) = B3 at W3 l3
    have bC : B3 C := by rw [← hB3]; exact .inr rfl
    have l23 := l2.trans l3
    generalize (upd H2' C (.lst [])) = H3' at W3 l3 l23 hC3 hD3 ⊢
    have I0 : LI c p s0 dl dk wl q1 b j oa.o D C L ks ws us xs 0 B3 A' H3' oa (newOS L xs us) [] [] := ⟨W3, ⟨hD3, hC3, (fun _ h => nomatch h), (fun _ h => nomatch h), List.nodup_nil, (fun _ h => nomatch h), List.nodup_nil, l3.sub _ bD, nDA, Dp, Ds, bC, nCA, Cp, Cs⟩, ⟨rfl, (List.append_nil _).symm, rfl, trivial⟩,
      ⟨l23.cut _ _ F1dl, l23.cut _ _ F1dk, l23.cut _ _ twl, l23.cut _ _ F1de, F1E.same l23.cut, F1B.same l23.cut, F1J.same l23.cut⟩, rfl, eb, ebj, Nat.le_refl _, Nat.le_refl _⟩
    have aN := sqL_same a1 l23.cut
    clear W1 W2 W3 l2 l3 l23 hC3 hD3 hD2 F1dl F1dk F1de F1E F1B F1J twl a1 hB2 hB3
    refine ⟨_, rfl, a, _, rfl, .inl (sqL_same aN (cut_same _ _)), ?_⟩
    rw [show (ns.map V.int).length = ns.length from List.length_map _]
    obtain ⟨m, hm, hm2⟩ : ∃ m : Int, (if (if (ns.length : Int) > 10 then (ns.length : Int) else 10) < 40 then (if (ns.length : Int) > 10 then (ns.length : Int) else 10) else 40) = m ∧ 0 ≤ m ∧ m ≤ 40 := by
      refine ⟨_, rfl, ?_, ?_⟩ <;> (repeat' split) <;> omega
    refine ⟨_, _, rfl, _, _, rfl, m, (by rw [← hm]), by omega, by omega, for_range (n := m.toNat) (fun k σ H6 => ∃ (B A : Addr → Prop) (a' : OA) (S : OS) (qs : List QE) (cs : List Cl), (∃ x12 x13 x14 x15 x16 x17, σ = [some (.ref a), some (.ref p), some (.ref dl), some (.ref dk), some (.ref b), some (.int begin_), some (.ref q1), some (.ref j), some (.ref oa.o), some (.ref wl), some (.ref D), some (.ref C), x12, x13, x14, x15, x16, x17]) ∧ LI c p s0 dl dk wl q1 b j oa.o D C L ks ws us xs k B A H6 a' S qs cs) ?_ ?_ ?_⟩
    · exact ⟨_, _, _, _, _, _, ⟨_, _, _, _, _, _, rfl⟩, I0⟩
    · rintro i σ H6 hi ⟨B, A, a', S, qs, cs, ⟨x12, x13, x14, x15, x16, x17, rfl⟩, I⟩
      have hi40 : i < 40 := by omega
      clear I0
      refine ⟨_, rfl, _, rfl, q1, C, us, xs, cs, rfl, up I.t.q1, I.t.E.same (cut_same _ _), I.d.hC, (fun x hx => (I.cls x hx).1), (by have := I.len; omega), fun wh usw H7 s7 nwh hwh hEw => ?_⟩
      have I7 := I.same s7
      have twh : cutH B H7 wh = some (.lst usw) := cut_at (I.W.M.free nwh) hwh
      have tEw := hEw.cutW fun q ys h => I7.W.M.tup h
      clear I
      refine ⟨_, rfl, _, rfl, p, s0, 3, rfl, I7.W.pool, (by decide), (by decide), fun d2 H8 e0 e1 P8 => ?_⟩
      have I8 := I7.draw P8
      have tw8 := (I7.W.draw P8).2.cut _ _ twh
      have tE8 := tEw.same (I7.W.draw P8).2.cut
      clear I7 P8
      obtain ⟨z, hz, hzm⟩ : ∃ z, atI (ws.map V.str) d2 = some (.str z) ∧ z ∈ ws := by
        have e2 : d2 = (d2.toNat : Int) := by omega
        have wl3 : ws.length = 3 := wll
        have hl : d2.toNat < (ws.map V.str).length := by rw [List.length_map]; omega
        rw [e2, atI_natC hl, List.getElem_map]
        exact ⟨_, rfl, List.getElem_mem _⟩
      refine ⟨_, _, _, _, rfl, rfl, SqL.of (up I8.t.wl), hz, ?_⟩
      have nz : IsNm z := wnm z hzm
      have lq := I8.l1
      have lc := I8.l2
      refine ⟨_, rfl, _, rfl, _, rfl, _, rfl, _, rfl, _, rfl, _, rfl, _, rfl, _, rfl, _, _, rfl, rfl, _, rfl, B, A, a', S, p, s0, dl, dk, wh, D, C, L, ks, usw, xs, qs, cs, z, 100 + (0 + (i : Int)), begin_, by rw [I8.ao]; rfl, I8.W, I8.d, I8.R, by omega, by omega, nz, by omega, LL, I8.t.dl, I8.t.dk, by omega, by omega, knm, tw8, tE8, fun B' A1 H9 a1 S1 q1' cs1 W9 f9 d9 R9 ll1 ll2 eo1 eb1 ebj1 => ?_⟩
      have I9 : LI c p s0 dl dk wl q1 b j oa.o D C L ks ws us xs (i + 1) B' A1 H9 a1 S1 q1' cs1 := ⟨W9, d9, R9, I8.t.go f9, eo1.trans I8.ao, eb1.trans I8.ab, (ebj1 (I8.abj.trans I8.ab.symm)).trans I8.ab, by omega, by omega⟩
      clear I8 W9 d9 R9 tw8 tE8
      refine ⟨_, rfl, iteF ?_⟩
      have ho := I9.W.M.o
      rw [I9.ao] at ho
      have Jx := I9.jx.same (cut_same _ _)
      have JE := Jx.ents
      obtain ⟨jx, jt, jk, j1, j2, j3, j4, j5, j6, j7⟩ := id Jx
      refine ⟨_, rfl, oa.o, c.CO, a1.dx, _, _, rfl, ho, T.cl, T.nJ, rfl, a1.j, c.CJ, jx, _, _, rfl, j1, TJ.cl, TJ.nE, jf_e _ _ _, jt, _, rfl, .inr j3, fun l nl => ?_⟩
      have I10 := I9.same (sameAt (o := .lst S1.us) (Same.refl H9) nl)
      have JE10 := JE.same (sameAt (o := .lst S1.us) (Same.refl H9) nl)
      have hl10 : (upd H9 l (.lst S1.us)) l = some (.lst S1.us) := upd_same
      clear I9 j1 j2 j3 j4 j5 j6 j7 ho
      generalize (upd H9 l (.lst S1.us)) = H10 at I10 JE10 hl10 ⊢
      refine ⟨_, rfl, _, rfl, q1, C, us, xs, cs1, rfl, up I10.t.q1, I10.t.E.same (cut_same _ _), I10.d.hC, (fun x hx => (I10.cls x hx).1), (by have := I10.len; omega), fun l2 us2 H11 s11 nl2 hl2 hE2 => neD_ents (s11 _ _ hl10) (JE10.same s11) hl2 hE2 ⟨_, rfl, iteF ⟨_, _, _, _, _, _, ⟨_, _, _, _, _, _, rfl⟩, I10.same s11⟩⟩⟩
    rintro σ H6 ⟨B, A, a', S, qs, cs, ⟨x12, x13, x14, x15, x16, x17, rfl⟩, I⟩
    clear I0
    have hc60 : cs.length ≤ 60 := by have := I.l2; omega
    have ho := I.W.M.o
    rw [I.ao] at ho
    have Jx := I.jx.same (cut_same _ _)
    refine ⟨_, rfl, oa.o, c.CO, a'.dx, _, _, rfl, ho, T.cl, T.nJ, rfl, ?_⟩
    have us4 : us.length ≤ 400 := by rw [I.t.E.1]; have := I.len; rw [List.length_append] at this; omega
    refine ⟨_, rfl, _, rfl, _, rfl, b, j, b, C, L, us, xs, cs, rfl, I.t.bk.same (cut_same _ _), I.t.jr.same (cut_same _ _), us4, I.d.hC, I.cls, I.good, I.len, hc60, fun j1 us1 H7 s7 J7 => ?_⟩
    have I7 := I.same s7
    have Jx7 := Jx.same s7
    clear I Jx ho
    obtain ⟨k1, k2, k3, k4, k5⟩ := id J7
    obtain ⟨m1, m2, m3, m4, m5⟩ := id Jx7
    refine ⟨_, rfl, ⟨j1, a'.j, _, _, _, _, rfl, rfl, k4, m4, ⟨b, L, us1, S.us, xs ++ flat cs, J7, Jx7⟩⟩, fun H8 e8 => ⟨_, rfl, iteF ?_⟩⟩
    have I8 := I7.same e8
    have Jx8 := Jx7.same e8
    clear I7 Jx7 J7 k4 k5 m4 m5
    refine ⟨_, rfl, _, rfl, C, _, rfl, .inl (SqL.of I8.d.hC), _, _, rfl, rfl, p, s0, _, rfl, I8.W.pool, (by omega), (by rw [List.length_map]; omega), fun dc H9 dc0 dc1 P9 => ?_⟩
    rw [List.length_map] at dc1
    have I9 := I8.draw P9
    have Jx9 := I9.jx.same (cut_same _ _)
    clear I8 Jx8 P9
    obtain ⟨kc, rfl⟩ := Int.eq_ofNat_of_zero_le dc0
    have gl : Good L (xs ++ flat (cs.take kc)) := by
      have h := I9.good
      rw [flat_split cs kc, ← List.append_assoc] at h
      exact good_left h
    have ll : (xs ++ flat (cs.take kc)).length ≤ 400 := by
      have h := I9.len
      rw [flat_split cs kc, ← List.append_assoc, List.length_append] at h
      omega
    have ej : (xs ++ flat (cs.take kc)) ++ flat (cs.drop kc) = xs ++ flat cs := by rw [List.append_assoc, ← flat_split cs kc]
    refine ⟨_, rfl, _, rfl, _, rfl, _, rfl, _, rfl, C, _, rfl, SqL.of I9.d.hC, fun h1 nh1 => ?_⟩
    rw [cutN, ← List.map_take]
    have s10 := sameAt (o := .lst ((cs.take kc).map fun x => V.ref x.t)) (Same.refl H9) nh1
    have I10 := I9.same s10
    have Jx10 := Jx9.same s10
    have hh10 : (upd H9 h1 (.lst ((cs.take kc).map fun x => V.ref x.t))) h1 = some (.lst ((cs.take kc).map fun x => V.ref x.t)) := upd_same
    clear I9 Jx9
    generalize (upd H9 h1 (.lst ((cs.take kc).map fun x => V.ref x.t))) = H10 at s10 I10 Jx10 hh10 ⊢
    refine ⟨b, j, b, h1, L, us, xs, cs.take kc, rfl, I10.t.bk.same (cut_same _ _), I10.t.jr.same (cut_same _ _), us4, hh10, (fun x hx => I10.cls x (List.mem_of_mem_take hx)), gl, ll, (by rw [List.length_take]; omega), fun j2 us2 H11 s11 J2 => ?_⟩
    have I11 := I10.same s11
    have Jx11 := Jx10.same s11
    clear I10 Jx10 s10 hh10
    have us24 : us2.length ≤ 400 := by rw [J2.ents.1]; exact ll
    refine ⟨_, rfl, rfl, _, rfl, iteF ⟨_, rfl, _, rfl, _, rfl, _, rfl, _, rfl, noPart ⟨C, _, rfl, SqL.of I11.d.hC, fun h2 nh2 => ?_⟩⟩⟩
    rw [cut_drop _ _ (by rw [List.length_map]; omega), ← List.map_drop]
    have s12 := sameAt (o := .lst ((cs.drop kc).map fun x => V.ref x.t)) (Same.refl H11) nh2
    have I12 := I11.same s12
    have Jx12 := Jx11.same s12
    have J212 := J2.same s12
    have hh12 : (upd H11 h2 (.lst ((cs.drop kc).map fun x => V.ref x.t))) h2 = some (.lst ((cs.drop kc).map fun x => V.ref x.t)) := upd_same
    clear I11 Jx11 J2
    generalize (upd H11 h2 (.lst ((cs.drop kc).map fun x => V.ref x.t))) = H12 at s12 I12 Jx12 J212 hh12 ⊢
    refine ⟨b, j2, b, h2, L, us2, xs ++ flat (cs.take kc), cs.drop kc, rfl, I12.t.bk.same (cut_same _ _), J212, us24, hh12, (fun x hx => I12.cls x (List.mem_of_mem_drop hx)), (by rw [ej]; exact I12.good), (by rw [ej]; exact I12.len), (by rw [List.length_drop]; omega), fun j3 us3 H13 s13 J3 => ?_⟩
    rw [ej] at J3
    have I13 := I12.same s13
    have Jx13 := Jx12.same s13
    clear I12 Jx12 J212 hh12
    obtain ⟨k1, k2, k3, k4, k5⟩ := id J3
    obtain ⟨m1, m2, m3, m4, m5⟩ := id Jx13
    refine ⟨_, rfl, ⟨j3, a'.j, _, _, _, _, rfl, rfl, k4, m4, ⟨b, L, us3, S.us, xs ++ flat cs, J3, Jx13⟩⟩, fun H14 e14 => ⟨_, rfl, iteF ?_⟩⟩
    have I14 := I13.same e14
    clear I13 Jx13 J3 k4 k5 m4 m5
    have JL := I14.jx
    have hcl := I14.d.hC
    refine ⟨_, rfl, C, _, rfl, .inl (SqL.of hcl), (cs.length : Int), by rw [List.length_map], by omega, by omega, for_range (n := ((cs.length : Int)).toNat) (fun k σ H6 => ∃ (B A : Addr → Prop) (a1 : OA) (S1 : OS), (∃ x12 x13 x14 x16 x17, σ = [some (.ref a), some (.ref p), some (.ref dl), some (.ref dk), some (.ref b), some (.int begin_), some (.ref q1), some (.ref j), some (.ref oa.o), some (.ref wl), some (.ref D), some (.ref C), x12, x13, x14, some (.ref a'.j), x16, x17]) ∧ LW c B A H6 a1 S1 p s0 ∧ Dt L B A H6 p s0 D C qs cs ∧ Sit c B H6 dl dk wl q1 b j L ks ws us xs ∧ JAt c.K c.aT c.CJ c.CB (cutH B H6) a'.j b L S.us (xs ++ flat cs) ∧ a1.o = oa.o ∧ a1.b = b ∧ a1.bj = b ∧ S1.L = L ∧ S1.xs = xs ++ flat (cs.take (cs.length - k)) ∧ S1.past = pastOf xs (cs.take (cs.length - k))) ?_ ?_ ?_⟩
    · exact ⟨_, _, a', S, ⟨_, _, _, _, _, rfl⟩, I14.W, I14.d, I14.t, JL, I14.ao, I14.ab, I14.abj, I14.R.eL, (by rw [Nat.sub_zero, List.take_length]; exact I14.R.eX), by rw [Nat.sub_zero, List.take_length]; exact I14.R.eP⟩
    · rintro i σ H6 hi ⟨B1, A1, a1, S1, ⟨y12, y13, y14, y16, y17, rfl⟩, W, d, t, J, ao, ab, abj, eL, eX, eP⟩
      have hi : i < cs.length := by omega
      obtain ⟨x, hx⟩ : ∃ x, cs[cs.length - (i + 1)]? = some x := ⟨_, List.getElem?_eq_getElem (by omega)⟩
      have et : cs.take (cs.length - i) = cs.take (cs.length - (i + 1)) ++ [x] := by
        rw [show cs.length - i = cs.length - (i + 1) + 1 by omega, List.take_add_one, hx]
        rfl
      rw [et] at eX eP
      rw [pastOf_snoc] at eP
      have ho := W.M.o
      rw [ao] at ho
      refine ⟨_, rfl, oa.o, a1.dx, _, rfl, ho, rfl, B1, A1, a1, S1, by rw [ao]; rfl, W.M, fun H7 ep => ?_, fun p' m' j' H7 ep fr M => ?_⟩
      · rw [eP] at ep
        exact absurd ep (by simp)
      rw [eP] at ep
      obtain ⟨e1, e2⟩ := List.append_inj' ep rfl
      cases e2
      obtain ⟨W7, l7⟩ := W.office fr M
      refine ⟨rfl, _, rfl, iteF ⟨_, _, _, _, ⟨_, _, _, _, _, rfl⟩, W7, d.lst l7, t.go l7.cut, J.same l7.cut, ao, ab, ab, eL, ?_, e1.symm⟩⟩
      show S1.xs.take _ = _
      rw [eX, flat_snoc, ← List.append_assoc, List.take_left]
    rintro σ H6 ⟨B1, A1, a1, S1, ⟨y12, y13, y14, y16, y17, rfl⟩, W, d, t, J, ao, ab, abj, eL, eX, eP⟩
    rw [show cs.length - ((cs.length : Int)).toNat = 0 by omega, List.take_zero] at eX
    have ho := W.M.o
    rw [ao] at ho
    have J1 := W.M.jr.same (cut_same _ _)
    rw [abj, eL, eX, show xs ++ flat [] = xs from List.append_nil xs] at J1
    have J2 := t.jr.same (cut_same _ _)
    obtain ⟨k1, k2, k3, k4, k5⟩ := id J1
    obtain ⟨m1, m2, m3, m4, m5⟩ := id J2
    refine ⟨_, rfl, oa.o, c.CO, a1.dx, _, _, rfl, ho, T.cl, T.nJ, rfl, _, rfl, ⟨a1.j, j, _, _, _, _, rfl, rfl, k4, m4, ⟨b, L, S1.us, us, xs, J1, J2⟩⟩, fun H7 e7 => ⟨_, rfl, iteT ?_⟩⟩
    have JL7 := (J.same (cut_same _ _)).same e7
    have hq7 := e7 _ _ (up t.q1)
    have hE7 := (t.E.same (cut_same _ _)).same e7
    have hC7 := e7 _ _ d.hC
    have cl7 : ∀ x ∈ cs, ClAt H7 x := fun x hx => by
      obtain ⟨a1, a2, a3⟩ := d.cl x hx
      exact (show ClAt H6 x from ⟨up a1, a2.l, a2.D.same (cut_same _ _)⟩).same e7
    have JE7 := JL7.ents
    have hlen := I14.len
    obtain ⟨jx, jt, jk, j1, j2, j3, j4, j5, j6, j7⟩ := id JL7
    refine ⟨_, rfl, a'.j, c.CJ, jx, _, _, rfl, j1, TJ.cl, TJ.nE, jf_e _ _ _, jt, _, rfl, .inr j3, fun l nl => ?_⟩
    have s8 := sameAt (o := .lst S.us) (Same.refl H7) nl
    exact ⟨_, rfl, _, rfl, q1, C, us, xs, cs, rfl, s8 _ _ hq7, hE7.same s8, s8 _ _ hC7, (fun x hx => (cl7 x hx).same s8), by omega, fun l2 us2 H9 s9 nl2 hl2 hE2 => eqD_ents (s9 _ _ upd_same) ((JE7.same s8).same s9) hl2 hE2 (q _)⟩
end
end Ash

set_option Elab.async false
set_option linter.all false
set_option maxRecDepth 100000
set_option maxHeartbeats 4000000
namespace Ash
open PySem PySem.Spec PyProof.Rows L2
/-! ### what the top has written -/
/-- a def of the top -/
structure D1 (K : PySem.W.Frag) (mg : Str → Option Value) (x : Str) (st : Stmt) : Prop where
  ex : ∃ (f : Addr) (fd : FuncData), mg x = some (.ref f) ∧ Fun K x x st f fd
/-- a method -/
structure DM (K : PySem.W.Frag) (C : Addr) (m qual : Str) (st : Stmt) : Prop where
  ex : ∃ (f : Addr) (fd : FuncData), Meth K C m f ∧ Fun K m qual st f fd
/-- a method at a known place -/
structure DQ (K : PySem.W.Frag) (C f : Addr) (m qual : Str) (st : Stmt) : Prop where
  ex : ∃ fd : FuncData, Meth K C m f ∧ Fun K m qual st f fd
/-- an __init__ with the default None -/
structure DN (K : PySem.W.Frag) (C : Addr) (qual : Str) (st : Stmt) : Prop where
  ex : ∃ (f : Addr) (fd : FuncData), Mk K C f ∧ FunD K "__init__" qual (defArgs st) (defBody st) (defScope st) [.non] [] f fd
/-- an __init__ with one default -/
structure DD (K : PySem.W.Frag) (C a : Addr) (qual : Str) (st : Stmt) : Prop where
  ex : ∃ (f : Addr) (fd : FuncData), Mk K C f ∧ FunD K "__init__" qual (defArgs st) (defBody st) (defScope st) [.ref a] [] f fd
section
variable {K : PySem.W.Frag} {h : Heap} {mg : Str → Option Value} {x qual : Str} {st : Stmt} {f C : Addr} {oc kV dc pm cdv ct : Value} {od an : Option Addr} {sl : Array (Option Value)}
theorem d1 (X : K.In h) (G : h.Ns mainGlobals mg) (a : PySem.W.nsIn K mainGlobals x = some (some (.ref f))) (l : K.lookup f = some ⟨oc, od, .func (PySem.W.fnOf x x (defArgs st) (defBody st) (defScope st) .none kV dc pm an cdv ct), sl⟩) (c : PySem.W.codeIn K cdv x = true) (k : PySem.W.keepIn K (.ref f) = true) : D1 K mg x st :=
  ⟨f, _, PySem.W.mg_of X G a, fun_mk l c k⟩
theorem dm (a : PySem.W.findIn K (.ref C) x = some (some (.ref f))) (i : PySem.W.isFn K (.ref f) = true) (l : K.lookup f = some ⟨oc, od, .func (PySem.W.fnOf x qual (defArgs st) (defBody st) (defScope st) .none kV dc pm an cdv ct), sl⟩) (c : PySem.W.codeIn K cdv qual = true) (k : PySem.W.keepIn K (.ref f) = true) : DM K C x qual st :=
  ⟨f, _, ⟨a, i, k⟩, fun_mk l c k⟩
theorem dq (a : PySem.W.findIn K (.ref C) x = some (some (.ref f))) (i : PySem.W.isFn K (.ref f) = true) (l : K.lookup f = some ⟨oc, od, .func (PySem.W.fnOf x qual (defArgs st) (defBody st) (defScope st) .none kV dc pm an cdv ct), sl⟩) (c : PySem.W.codeIn K cdv qual = true) (k : PySem.W.keepIn K (.ref f) = true) : DQ K C f x qual st :=
  ⟨_, ⟨a, i, k⟩, fun_mk l c k⟩
theorem dd {a T : Addr} {oT : Value} {dT : Option Addr} {slT : Array (Option Value)} {n : Nat} (m1 : PySem.W.makesIn K C = true) (m2 : PySem.W.findIn K (.ref C) "__init__" = some (some (.ref f))) (m3 : PySem.W.isFn K (.ref f) = true) (m4 : PySem.W.keepIn K (.ref C) = true)
    (l : K.lookup f = some ⟨oc, od, .func (PySem.W.fnOf "__init__" qual (defArgs st) (defBody st) (defScope st) (.ref T) kV dc pm an cdv ct), sl⟩) (lT : K.lookup T = some ⟨oT, dT, .seq #[.ref a] n, slT⟩) (c : PySem.W.codeIn K cdv qual = true) (k : PySem.W.keepIn K (.ref f) = true) : DD K C a qual st :=
  ⟨f, _, ⟨m1, m2, m3, m4⟩, ⟨⟨oc, od, .ref T, kV, dc, pm, an, cdv, ct, sl, rfl, l, c, .inr ⟨by simp, T, _, [.ref a], n, rfl, lT, rfl, .cons rfl .nil⟩, .inl rfl⟩, k⟩⟩
theorem dnn {T : Addr} {oT : Value} {dT : Option Addr} {slT : Array (Option Value)} {n : Nat} (m1 : PySem.W.makesIn K C = true) (m2 : PySem.W.findIn K (.ref C) "__init__" = some (some (.ref f))) (m3 : PySem.W.isFn K (.ref f) = true) (m4 : PySem.W.keepIn K (.ref C) = true)
    (l : K.lookup f = some ⟨oc, od, .func (PySem.W.fnOf "__init__" qual (defArgs st) (defBody st) (defScope st) (.ref T) kV dc pm an cdv ct), sl⟩) (lT : K.lookup T = some ⟨oT, dT, .seq #[.none] n, slT⟩) (c : PySem.W.codeIn K cdv qual = true) (k : PySem.W.keepIn K (.ref f) = true) : DN K C qual st :=
  ⟨f, _, ⟨m1, m2, m3, m4⟩, ⟨⟨oc, od, .ref T, kV, dc, pm, an, cdv, ct, sl, rfl, l, c, .inr ⟨by simp, T, _, [.none], n, rfl, lT, rfl, .cons rfl .nil⟩, .inl rfl⟩, k⟩⟩
theorem sq_of {a : Addr} {d : Option Addr} {n : Nat} (l : K.lookup a = some ⟨.type "tuple", d, .seq #[] n, sl⟩) (H : Hp) : SqT K H a [] := .inr ⟨_, #[], n, l, rfl, rfl, Nat.zero_le _, .nil⟩
theorem tt_mk {a : Addr} {d : Option Addr} {n : Nat} (l : K.lookup a = some ⟨.type "tuple", d, .seq #[] n, sl⟩) : ∃ (o : Obj) (n : Nat), K.lookup a = some o ∧ o.cls = .type "tuple" ∧ o.data = .seq #[] n := ⟨_, n, l, rfl, rfl⟩
end
section
variable {P : Program} {w : World} {K : PySem.W.Frag} {mg : Str → Option Value} {base : Heap} {CX : CXT} {x : Str} {st : Stmt} {ps : List Str} {k : Nat} {sp : Sp}
theorem cal_of (D : D1 K mg x st) (hb : ∀ (kV doc pm : Value) (an : Option Addr) (cdv ct : Value) (us : List Value), us.length = ps.length → bindArgs (PySem.W.fnOf x x (defArgs st) (defBody st) (defScope st) .none kV doc pm an cdv ct) ⟨us, []⟩ = pure (ps.zip us))
    (ok : ∀ f fd, Fun K x x st f fd → FnOk P w K mg base CX k f fd ps sp) : Cal P w K mg base CX x k ps sp := by
  obtain ⟨f, fd, hm, F⟩ := D.ex
  exact ⟨f, fd, hm, F.kp, F.binds hb, ok f fd F⟩
end
/-- a class is what its instances are -/
structure BkI (K : PySem.W.Frag) (CB : Addr) : Prop where
  ha : PySem.W.findIn K (.ref CB) "__class__" = some (some (.builtin "object.__class__"))
  hn : PySem.W.specialIn K (.builtin "object.__class__") "__get__" = some (some (.builtin "getset_descriptor.__get__"))
  ht : PySem.W.takesIn K (.builtin "object.__class__") = some true
  hm : PySem.W.mroIn K CB (.type "object") = some true
theorem ne_mk {K : PySem.W.Frag} {C f N : Addr} {nm q : Str} {bs : List Value} {hd ab : Bool} {sn : List Str} {sub : List Value} {col : Option Bool} {dd : Option Addr} {k0 k1 k2 k3 k5 : Option Value} {nid : String} {fo : Obj} (h1 : K.lookup C = some (excClassObj nm q C N bs [.type "object"] hd sn sub ab col dd k0 k1 k2 k3 k5 nid)) {oN : Value} {dN : Option Addr} {es : Array DictEntry} {nn : Nat} {slN : Array (Option Value)} (h2 : K.lookup N = some ⟨oN, dN, .dict es nn, slN⟩) (h7 : (es.toList.all fun e => match e.key with | .str _ _ => true | _ => false) = true) (h3 : PySem.W.nsIn K N "__eq__" = some (some (.ref f))) (h4 : PySem.W.nsIn K N "__ne__" = some none) (h5 : K.lookup f = some fo) (h6 : fo.cls = .type "function") : NeC K C f :=
  ⟨⟨nm, q, N, bs, hd, sn, sub, ab, col, dd, k0, k1, k2, k3, k5, nid, fo, h1, by unfold PySem.W.nsOkIn; rw [h2]; exact (Array.all_toList ..).symm.trans h7, h3, h4, h5, h6⟩⟩
theorem kit_ref {K : PySem.W.Frag} {C : Addr} {T : String} {b : Bool} (hm : PySem.W.kitMeta T = true) (h : PySem.W.subIn K (.ref C) (.type T) = some b) : PySem.W.kitOne K (.ref C) (.type T) = some b := by
  have e : (Value.ref C == Value.type T) = false := rfl
  unfold PySem.W.kitOne PySem.W.kitCls
  rw [e, if_neg Bool.false_ne_true]
  show (if PySem.W.kitMeta T = true then _ else _) = _
  rw [if_pos hm]
  exact h
theorem exm_me {K : PySem.W.Frag} {C : Addr} (h1 : PySem.W.subIn K (.ref C) (.type "BaseException") = some true) (h2 : PySem.W.isClsIn K C = true) (h3 : PySem.W.typeIn K (.ref C) = some (.type "type")) (h4 : PySem.W.subIn K (.ref C) (.ref C) = some true) : PySem.W.exmOne K (.ref C) (.ref C) = some true := by
  have h2' : (PySem.W.clsIn K C).isSome = true := h2
  simp [PySem.W.exmOne, PySem.W.kitCls, h1, h2', h3, h4]
theorem exm_no {K : PySem.W.Frag} {C D : Addr} (h1 : PySem.W.subIn K (.ref D) (.type "BaseException") = some true) (h2 : PySem.W.isClsIn K D = true) (h3 : PySem.W.typeIn K (.ref D) = some (.type "type")) (h4 : PySem.W.subIn K (.ref C) (.ref D) = some false) : PySem.W.exmOne K (.ref C) (.ref D) = some false := by
  have h2' : (PySem.W.clsIn K D).isSome = true := h2
  simp [PySem.W.exmOne, PySem.W.kitCls, h1, h2', h3, h4]
open PySem.W PySem.Calls PySem.HandSPX in
/-- the facts of an own error's class -/
theorem txt_mk {P : Program} {K : PySem.W.Frag} {h : Heap} {mg : Str → Option Value} {par fl : Str} {C fI N cda cc : Addr} {nm q qual tx file : Str} {bs bm sub : List Value} {sn : List Str} {ab : Bool} {col : Option Bool} {dd : Option Addr} {m0 m1 m2 m3 m5 : Option Value}
    {oc doc pm ct ccl cl : Value} {od an cdd cld : Option Addr} {osl ccs csl : Array (Option Value)} {vs : Array Value} {pa : Arguments} {p0 p1 p2 p3 p4 p5 p6 p7 p8 p9 : Pos} {j : Nat} {a0 : Arg} {tf : Nat} (X : K.In h) (G : h.Ns mainGlobals mg)
    (cls : K.lookup C = some (excClassObj nm q C N bs bm true sn sub ab col dd m0 m1 m2 m3 m5 "ValueError.__new__")) (ref : PySem.HandSPX.refsVE bm = true)
    (sa : PySem.W.findIn K (.ref C) "__setattr__" = some (some (.builtin "object.__setattr__"))) (ga : PySem.W.findIn K (.ref C) "__getattribute__" = some (some (.builtin "BaseException.__getattribute__"))) (gg : PySem.W.findIn K (.ref C) "__getattr__" = some none) (noN : PySem.W.findIn K (.ref C) fl = some none)
    (iC : PySem.W.findIn K (.ref C) "__init__" = some (some (.ref fI))) (tC : PySem.W.typeIn K (.ref fI) = some (.type "function")) (kC : PySem.W.keepIn K (.ref C) = true) (exC : PySem.W.subIn K (.ref C) (.type "BaseException") = some true) (veC : PySem.W.subIn K (.ref C) (.type "ValueError") = some true)
    (slf : PySem.W.mroIn K C (.ref C) = some true) (tyC : PySem.W.typeIn K (.ref C) = some (.type "type")) (hdC : PySem.W.hasDictIn K C = true) (isC : PySem.W.isClsIn K C = true) (sC : PySem.W.subIn K (.ref C) (.ref C) = some true)
    (along : PySem.W.ks_superIn K C C "__init__" = some (some (.builtin "ValueError.__init__"))) (opq : PySem.W.nsIn K cStatics "thirdparty.any" = some none) (sup : PySem.W.nsIn K mainGlobals "super" = some none) (top : (P.main.scope.names.lookup ("super" : Str)).isSome = false)
    (lf : K.lookup fI = some ⟨oc, od, .func (PySem.W.ksFn "__init__" qual pa (PySem.BadX.shape tx par fl p0 p1 p2 p3 p4 p5 p6 p7 p8 p9 j) (PySem.BadX.sco par) .none .none doc pm an (.ref cda) ct cc), osl⟩) (cd : PySem.W.codeIn K (.ref cda) qual = true) (ha0 : (pa.posonlyargs ++ pa.args).head? = some a0) (ha1 : a0.arg = "self")
    (bd : ∀ (s : Shared) (u v : Value), BindsTo s (PySem.W.ksFn "__init__" qual pa (PySem.BadX.shape tx par fl p0 p1 p2 p3 p4 p5 p6 p7 p8 p9 j) (PySem.BadX.sco par) .none .none doc pm an (.ref cda) ct cc) ⟨[u, v], []⟩ [("self", u), (par, v)])
    (lc : K.lookup cda = some ⟨ccl, cdd, .fields vs, ccs⟩) (hvs : vs[2]? = some (.str file tf)) (hfile : ((P.main.file : Str) == file) = true) (hpe : (p2.endLine == p4.line) = true) (lcc : K.lookup cc = some ⟨cl, cld, .cell (some (.ref C)), csl⟩) : PySem.BadX.Txt P K mg par fl C fI :=
  { cls := ⟨nm, q, N, bs, bm, sn, sub, ab, col, dd, m0, m1, m2, m3, m5, cls, ref⟩, sa := sa, ga := ga, gg := gg, noN := noN, iC := iC, tC := tC, kC := kC, exC := exC, veC := veC, slf := slf, tyC := tyC, hdC := hdC, te := exm_me exC isC tyC sC, along := along, opq := opq, sup := PySem.W.mg_none_of X G sup, top := top,
    fn := ⟨oc, od, qual, tx, doc, pm, an, cda, cc, ct, osl, pa, p0, p1, p2, p3, p4, p5, p6, p7, p8, p9, j, a0, lf, cd, ha0, ha1, bd, ⟨ccl, cdd, vs, ccs, file, tf, lc, hvs, hfile⟩, hpe, ⟨cl, cld, csl, lcc⟩⟩ }
theorem ex_int {K : PySem.W.Frag} {h : Heap} {mg : Str → Option Value} {x : Str} {n : Int} {t : Tok} (X : K.In h) (G : h.Ns mainGlobals mg) (a : PySem.W.nsIn K mainGlobals x = some (some (.int n t))) : ∃ t, mg x = some (.int n t) := ⟨_, PySem.W.mg_of X G a⟩
theorem ex_str {K : PySem.W.Frag} {h : Heap} {mg : Str → Option Value} {x z : Str} {t : Tok} (X : K.In h) (G : h.Ns mainGlobals mg) (a : PySem.W.nsIn K mainGlobals x = some (some (.str z t))) : ∃ t, mg x = some (.str z t) := ⟨_, PySem.W.mg_of X G a⟩
/-- an own error without an __init__, beneath another one -/
theorem exc_mk {K : PySem.W.Frag} {C D N N2 : Addr} {nm q nm2 q2 : Str} {bs bs2 sub sub2 : List Value} {hd ab hd2 ab2 : Bool} {sn sn2 : List Str} {col col2 : Option Bool} {dd dd2 : Option Addr} {k0 k1 k2 k3 k5 l0 l1 l2 l3 l5 : Option Value} {nid2 : String}
    {oN oM : Value} {dN dM : Option Addr} {es es2 : Array DictEntry} {nn nn2 : Nat} {slN slM : Array (Option Value)}
    (h1 : K.lookup C = some (excClassObj nm q C N bs (.ref D :: veB) hd sn sub ab col dd k0 k1 k2 k3 k5 "ValueError.__new__")) (h2 : K.lookup N = some ⟨oN, dN, .dict es nn, slN⟩) (h3 : (es.toList.all fun e => match e.key with | .str _ _ => true | _ => false) = true) (h4 : PySem.W.nsIn K N "__init__" = some none)
    (h5 : K.lookup D = some (excClassObj nm2 q2 D N2 bs2 veB hd2 sn2 sub2 ab2 col2 dd2 l0 l1 l2 l3 l5 nid2)) (h6 : K.lookup N2 = some ⟨oM, dM, .dict es2 nn2, slM⟩) (h7 : (es2.toList.all fun e => match e.key with | .str _ _ => true | _ => false) = true) (h8 : PySem.W.nsIn K N2 "__init__" = some none) :
    PySem.W.excIn K C veB "ValueError.__new__" = true := by
  have n1 : PySem.W.nsOkIn K N = true := by unfold PySem.W.nsOkIn; rw [h2]; exact (Array.all_toList ..).symm.trans h3
  have n2 : PySem.W.nsOkIn K N2 = true := by unfold PySem.W.nsOkIn; rw [h6]; exact (Array.all_toList ..).symm.trans h7
  have t0 : PySem.W.tailIn K veB veB = true := by unfold PySem.W.tailIn; rfl
  have t : PySem.W.tailIn K veB (.ref D :: veB) = true := by
    unfold PySem.W.tailIn
    dsimp only
    rw [h5]
    simp [excClassObj, n2, h8, t0]
  unfold PySem.W.excIn
  rw [h1]
  simp [excClassObj, t, n1, h4]
end Ash

set_option Elab.async false
set_option linter.all false
set_option maxRecDepth 100000
set_option maxHeartbeats 4000000
namespace Ash
open PySem PySem.Spec PyProof.Rows L2
section
variable {P : Program} {w : World} {K : PySem.W.Frag} {mg : Str → Option Value} {base : Heap}
theorem all_ok {CB CJ CE CO CD CI CY CS CM CN CT fE fI fY fS fM fN aT aE fBeq fJeq : Addr}
    (B : Blt mg)
    (Cs : Cst mg)
    (TB : Cb K mg CB)
    (T : Cj P K mg CJ CB)
    (Tt : Tb K mg aT)
    (cE : mg "BadEntry" = some (.ref CE))
    (TE : PySem.BadX.Txt P K mg "at" "at" CE fE)
    (bi : BkI K CB)
    (ji : BkI K CJ)
    (mkB : PySem.W.makesIn K CB = true)
    (kB : PySem.W.keepIn K (.ref CB) = true)
    (C2 : Cst2 mg)
    (C3 : Cst3 mg)
    (TO : Co K mg CO)
    (TD : Cd K mg CD)
    (cI : mg "Idle" = some (.ref CI))
    (cY : mg "Busy" = some (.ref CY))
    (cS : mg "Stale" = some (.ref CS))
    (cM : mg "BadMoment" = some (.ref CM))
    (cN : mg "BadName" = some (.ref CN))
    (cT : mg "NothingDone" = some (.ref CT))
    (TI : PySem.BadX.Txt P K mg "writer" "writer" CI fI)
    (TY : PySem.BadX.Txt P K mg "writer" "writer" CY fY)
    (TS : PySem.BadX.Txt P K mg "number" "id" CS fS)
    (TM : PySem.BadX.Txt P K mg "value" "value" CM fM)
    (TN : PySem.BadX.Txt P K mg "value" "value" CN fN)
    (xT : PySem.W.excIn K CT veB "ValueError.__new__" = true)
    (kT : PySem.W.keepIn K (.ref CT) = true)
    (bT : PySem.W.subIn K (.ref CT) (.type "BaseException") = some true)
    (tT : PySem.W.typeIn K (.ref CT) = some (.type "type"))
    (nTT : PySem.W.exmOne K (.ref CT) (.ref CT) = some true)
    (nYI : PySem.W.exmOne K (.ref CY) (.ref CI) = some false)
    (nSI : PySem.W.exmOne K (.ref CS) (.ref CI) = some false)
    (nSY : PySem.W.exmOne K (.ref CS) (.ref CY) = some false)
    (nEI : PySem.W.exmOne K (.ref CE) (.ref CI) = some false)
    (nEY : PySem.W.exmOne K (.ref CE) (.ref CY) = some false)
    (nES : PySem.W.exmOne K (.ref CE) (.ref CS) = some false)
    (nMI : PySem.W.exmOne K (.ref CM) (.ref CI) = some false)
    (nMY : PySem.W.exmOne K (.ref CM) (.ref CY) = some false)
    (nMS : PySem.W.exmOne K (.ref CM) (.ref CS) = some false)
    (nME : PySem.W.exmOne K (.ref CM) (.ref CE) = some false)
    (nNI : PySem.W.exmOne K (.ref CN) (.ref CI) = some false)
    (nNY : PySem.W.exmOne K (.ref CN) (.ref CY) = some false)
    (nNS : PySem.W.exmOne K (.ref CN) (.ref CS) = some false)
    (nNE : PySem.W.exmOne K (.ref CN) (.ref CE) = some false)
    (nNM : PySem.W.exmOne K (.ref CN) (.ref CM) = some false)
    (nTI : PySem.W.exmOne K (.ref CT) (.ref CI) = some false)
    (nTY : PySem.W.exmOne K (.ref CT) (.ref CY) = some false)
    (nTS : PySem.W.exmOne K (.ref CT) (.ref CS) = some false)
    (nTE : PySem.W.exmOne K (.ref CT) (.ref CE) = some false)
    (nTM : PySem.W.exmOne K (.ref CT) (.ref CM) = some false)
    (nTN : PySem.W.exmOne K (.ref CT) (.ref CN) = some false)
    (mkD : PySem.W.makesIn K CD = true)
    (kD : PySem.W.keepIn K (.ref CD) = true)
    (m_OI : DN K CO "Office.__init__" s_Office_init)
    (d_is_integer : D1 K mg "is_integer" s_is_integer)
    (d_is_natural : D1 K mg "is_natural" s_is_natural)
    (d_is_name : D1 K mg "is_name" s_is_name)
    (d_are_integers : D1 K mg "are_integers" s_are_integers)
    (d_is_late : D1 K mg "is_late" s_is_late)
    (d_is_lates : D1 K mg "is_lates" s_is_lates)
    (d_is_entry : D1 K mg "is_entry" s_is_entry)
    (d_arrival_of : D1 K mg "arrival_of" s_arrival_of)
    (d_placed : D1 K mg "placed" s_placed)
    (d_row_behind : D1 K mg "row_behind" s_row_behind)
    (d_walked : D1 K mg "walked" s_walked)
    (d_is_row : D1 K mg "is_row" s_is_row)
    (m_Init : DM K CB "__init__" "Book.__init__" s_Book_init)
    (m_Has : DM K CB "has" "Book.has" s_Book_has)
    (m_Late : DM K CB "late" "Book.late" s_Book_late)
    (m_J : DD K CJ aE "Journal.__init__" s_Journal_init)
    (m_Then : DM K CJ "then" "Journal.then" s_Journal_then)
    (m_Len : DM K CJ "__len__" "Journal.__len__" s_Journal_len)
    (m_Beq : DQ K CB fBeq "__eq__" "Book.__eq__" s_Book_eq)
    (bne : NeC K CB fBeq)
    (m_DInit : DM K CD "__init__" "Draft.__init__" s_Draft_init)
    (m_DraftOf : DM K CO "_draft_of" "Office._draft_of" s_Officedraft_of)
    (m_Begin : DM K CO "begin" "Office.begin" s_Office_begin)
    (m_Put : DM K CO "_put" "Office._put" s_Officeput)
    (m_Row : DM K CO "row" "Office.row" s_Office_row)
    (m_Fix : DM K CO "fix" "Office.fix" s_Office_fix)
    (m_Gone : DM K CO "gone" "Office.gone" s_Office_gone)
    (m_Drop : DM K CO "drop" "Office.drop" s_Office_drop)
    (m_Tell : DM K CO "draft" "Office.draft" s_Office_draft)
    (m_Writers : DM K CO "writers" "Office.writers" s_Office_writers)
    (m_Fresh : DM K CO "_check_fresh" "Office._check_fresh" s_Officecheck_fresh)
    (m_Behind : DM K CO "_journal_behind" "Office._journal_behind" s_Officejournal_behind)
    (m_Close : DM K CO "close" "Office.close" s_Office_close)
    (m_Undo : DM K CO "undo" "Office.undo" s_Office_undo)
    (d__law_called : D1 K mg "_law_called" s_l_called)
    (d__law_done : D1 K mg "_law_done" s_l_done)
    (d__law_put_in : D1 K mg "_law_put_in" s_l_put_in)
    (d__law_pool : D1 K mg "_law_pool" s_l_pool)
    (d__law_draw : D1 K mg "_law_draw" s_l_draw)
    (d__law_names : D1 K mg "_law_names" s_l_names)
    (d__law_lates : D1 K mg "_law_lates" s_l_lates)
    (d__law_amount : D1 K mg "_law_amount" s_l_amount)
    (d__law_entry : D1 K mg "_law_entry" s_l_entry)
    (d__law_put : D1 K mg "_law_put" s_l_put)
    (d__law_entries : D1 K mg "_law_entries" s_l_entries)
    (d__law_states : D1 K mg "_law_states" s_l_states)
    (d__law_drafted : D1 K mg "_law_drafted" s_l_drafted)
    (m_Jeq : DQ K CJ fJeq "__eq__" "Journal.__eq__" s_Journal_eq)
    (jne : NeC K CJ fJeq)
    (d__law_appended : D1 K mg "_law_appended" s_l_appended)
    (d__law_replayed : D1 K mg "_law_replayed" s_l_replayed)
    (d__law_deed : D1 K mg "_law_deed" s_l_deed)
    {f : Addr} {fd : FuncData} (F_law : Fun K "law" "law" s_law f fd) : FnOk P w K mg base CX0 17 f fd ["_law_script"] (spLawN K) := by
  have bk : ∀ H b dx fs, H b = some (.ins CB dx fs) → TyX K H (.ref b) (.ref CB) := fun H b dx fs h => .base (.ins h TB.cl bi.ha bi.hn bi.ht bi.hm)
  have jk : ∀ H b dx fs, H b = some (.ins CJ dx fs) → TyX K H (.ref b) (.ref CJ) := fun H b dx fs h => .base (.ins h T.cl ji.ha ji.hn ji.ht ji.hm)
  have c_is_integer := cal_of (P := P) (w := w) (base := base) (ps := ["thing"]) d_is_integer (fun _ _ _ _ _ _ us hl => match us, hl with | [_], _ => rfl) fun f fd F => ok_is_integer F B
  have k1 : K1 P w K mg base := ⟨c_is_integer⟩
  have c_is_natural := cal_of (P := P) (w := w) (base := base) (ps := ["thing"]) d_is_natural (fun _ _ _ _ _ _ us hl => match us, hl with | [_], _ => rfl) fun f fd F => ok_is_natural F B k1
  have c_is_name := cal_of (P := P) (w := w) (base := base) (ps := ["thing"]) d_is_name (fun _ _ _ _ _ _ us hl => match us, hl with | [_], _ => rfl) fun f fd F => ok_is_name F B Cs
  have k2 : K2 P w K mg base := ⟨k1, c_is_natural, c_is_name⟩
  have c_are_integers := cal_of (P := P) (w := w) (base := base) (ps := ["things"]) d_are_integers (fun _ _ _ _ _ _ us hl => match us, hl with | [_], _ => rfl) fun f fd F => ok_are_integers F B k2
  have c_is_late := cal_of (P := P) (w := w) (base := base) (ps := ["thing"]) d_is_late (fun _ _ _ _ _ _ us hl => match us, hl with | [_], _ => rfl) fun f fd F => ok_is_late F B Cs k2
  have k3 : K3 P w K mg base := ⟨k2, c_are_integers, c_is_late⟩
  have c_is_lates := cal_of (P := P) (w := w) (base := base) (ps := ["thing"]) d_is_lates (fun _ _ _ _ _ _ us hl => match us, hl with | [_], _ => rfl) fun f fd F => ok_is_lates F B Cs k3
  have k4 : K4 P w K mg base := ⟨k3, c_is_lates⟩
  obtain ⟨fInit, fdInit, mInit, FInit⟩ := m_Init.ex
  have bInit : Binds K fdInit ["self", "lates"] [] := FInit.binds (ps := ["self", "lates"]) fun _ _ _ _ _ _ us hl => match us, hl with | [_, _], _ => rfl
  have oInit := ok_book_init (P := P) (w := w) (base := base) FInit B TB k4
  obtain ⟨fHas, fdHas, mHas, FHas⟩ := m_Has.ex
  have bHas : Binds K fdHas ["self", "stream"] [] := FHas.binds (ps := ["self", "stream"]) fun _ _ _ _ _ _ us hl => match us, hl with | [_, _], _ => rfl
  have oHas := ok_book_has (P := P) (w := w) (base := base) FHas B TB k4
  obtain ⟨fLate, fdLate, mLate, FLate⟩ := m_Late.ex
  have bLate : Binds K fdLate ["self", "stream"] [] := FLate.binds (ps := ["self", "stream"]) fun _ _ _ _ _ _ us hl => match us, hl with | [_, _], _ => rfl
  have oLate := ok_book_late (P := P) (w := w) (base := base) FLate B TB mHas bHas oHas
  have c_is_entry := cal_of (P := P) (w := w) (base := base) (ps := ["thing"]) d_is_entry (fun _ _ _ _ _ _ us hl => match us, hl with | [_], _ => rfl) fun f fd F => ok_is_entry F B k4.toK3
  have c_arrival_of := cal_of (P := P) (w := w) (base := base) (ps := ["entry"]) d_arrival_of (fun _ _ _ _ _ _ us hl => match us, hl with | [_], _ => rfl) fun f fd F => ok_arrival_of F B
  have c_placed := cal_of (P := P) (w := w) (base := base) (ps := ["book", "row", "arrival"]) d_placed (fun _ _ _ _ _ _ us hl => match us, hl with | [_, _, _], _ => rfl) fun f fd F => ok_placed F B TB mLate bLate oLate
  have k5 : K5 P w K mg base CB := ⟨k4, c_is_entry, c_arrival_of, c_placed⟩
  have c_row_behind := cal_of (P := P) (w := w) (base := base) (ps := ["book", "entry", "old"]) d_row_behind (fun _ _ _ _ _ _ us hl => match us, hl with | [_, _, _], _ => rfl) fun f fd F => ok_row_behind F B TB Tt k5 mHas bHas oHas mLate bLate oLate
  have k6 : K6 P w K mg base CB aT := ⟨k5, c_row_behind⟩
  have c_walked := cal_of (P := P) (w := w) (base := base) (ps := ["book", "things"]) d_walked (fun _ _ _ _ _ _ us hl => match us, hl with | [_, _], _ => rfl) fun f fd F => ok_walked F B k6
  have c_is_row := cal_of (P := P) (w := w) (base := base) (ps := ["thing"]) d_is_row (fun _ _ _ _ _ _ us hl => match us, hl with | [_], _ => rfl) fun f fd F => ok_is_row F B
  have k7 : K7 P w K mg base CB aT := ⟨k6, c_walked, c_is_row⟩
  obtain ⟨fJ, fdJ, mJ, FJ⟩ := m_J.ex
  have oJ := ok_j_initN (P := P) (w := w) (base := base) FJ B Cs T TB TE cE bk k7
  obtain ⟨ds3, v3, bJ3⟩ := FJ.binds1 (ps := ["self", "book", "entries"]) 3 1 (by simp) rfl fun T kV doc pm an cdv ct us its h1 h2 => match us, its, h1, h2 with | [_, _, _], [_], _, _ => ⟨_, rfl, rfl⟩
  cases v3
  have k8n : K8N P w K mg base CB aT CJ CE := ⟨k7, ⟨fJ, fdJ, mJ, T.c, bJ3, oJ⟩⟩
  obtain ⟨fDInit, fdDInit, mDInit, FDInit⟩ := m_DInit.ex
  have bDInit : Binds K fdDInit ["self", "begun"] [] := FDInit.binds (ps := ["self", "begun"]) fun _ _ _ _ _ _ us hl => match us, hl with | [_, _], _ => rfl
  have oDInit := ok_draft_init (P := P) (w := w) (base := base) FDInit TD
  have go : GO P w mg base (⟨K, aT, CJ, CB, CO, CD⟩ : Cls6) CE CI CN CY fE fI fN fY := { toK8N := k8n, T := TO, TB := TB, TJ := T, TD := TD, TE := TE, TI := TI, TN := TN, TY := TY, c_BadEntry := cE, c_Idle := cI, c_BadName := cN, c_Busy := cY, Draft := ⟨fDInit, fdDInit, ⟨mkD, mDInit.at_, mDInit.fn, kD⟩, TD.c, bDInit, oDInit⟩, has := ⟨fHas, fdHas, mHas, bHas, oHas⟩, C1 := Cs, C2 := C2 }
  obtain ⟨fDraftOf, fdDraftOf, mDraftOf, FDraftOf⟩ := m_DraftOf.ex
  have bDraftOf : Binds K fdDraftOf ["self", "writer"] [] := FDraftOf.binds (ps := ["self", "writer"]) fun _ _ _ _ _ _ us hl => match us, hl with | [_, _], _ => rfl
  have oDraftOf := ok_draftO (P := P) (w := w) (base := base) (c := ⟨K, aT, CJ, CB, CO, CD⟩) FDraftOf go
  have go2 : GO2 P w mg base (⟨K, aT, CJ, CB, CO, CD⟩ : Cls6) CE CI CN CY fE fI fN fY := ⟨go, ⟨fDraftOf, fdDraftOf, mDraftOf, bDraftOf, oDraftOf⟩⟩
  obtain ⟨fBegin, fdBegin, mBegin, FBegin⟩ := m_Begin.ex
  have bBegin : Binds K fdBegin ["self", "writer"] [] := FBegin.binds (ps := ["self", "writer"]) fun _ _ _ _ _ _ us hl => match us, hl with | [_, _], _ => rfl
  have oBegin := ok_beginO (P := P) (w := w) (base := base) (c := ⟨K, aT, CJ, CB, CO, CD⟩) FBegin go
  obtain ⟨fPut, fdPut, mPut, FPut⟩ := m_Put.ex
  have bPut : Binds K fdPut ["self", "writer", "entry"] [] := FPut.binds (ps := ["self", "writer", "entry"]) fun _ _ _ _ _ _ us hl => match us, hl with | [_, _, _], _ => rfl
  have oPut := ok_putO (P := P) (w := w) (base := base) (c := ⟨K, aT, CJ, CB, CO, CD⟩) FPut B go2
  have go3 : GO3 P w mg base (⟨K, aT, CJ, CB, CO, CD⟩ : Cls6) CE CI CN CY fE fI fN fY := ⟨go2, ⟨fPut, fdPut, mPut, bPut, oPut⟩⟩
  obtain ⟨fRow, fdRow, mRow, FRow⟩ := m_Row.ex
  have bRow : Binds K fdRow ["self", "writer", "number", "stream", "key", "moment", "amount"] [] := FRow.binds (ps := ["self", "writer", "number", "stream", "key", "moment", "amount"]) fun _ _ _ _ _ _ us hl => match us, hl with | [_, _, _, _, _, _, _], _ => rfl
  have oRow := ok_rowO (P := P) (w := w) (base := base) (c := ⟨K, aT, CJ, CB, CO, CD⟩) FRow go3
  obtain ⟨fFix, fdFix, mFix, FFix⟩ := m_Fix.ex
  have bFix : Binds K fdFix ["self", "writer", "number", "moment", "amount"] [] := FFix.binds (ps := ["self", "writer", "number", "moment", "amount"]) fun _ _ _ _ _ _ us hl => match us, hl with | [_, _, _, _, _], _ => rfl
  have oFix := ok_fixO (P := P) (w := w) (base := base) (c := ⟨K, aT, CJ, CB, CO, CD⟩) FFix go3
  obtain ⟨fGone, fdGone, mGone, FGone⟩ := m_Gone.ex
  have bGone : Binds K fdGone ["self", "writer", "number"] [] := FGone.binds (ps := ["self", "writer", "number"]) fun _ _ _ _ _ _ us hl => match us, hl with | [_, _, _], _ => rfl
  have oGone := ok_goneO (P := P) (w := w) (base := base) (c := ⟨K, aT, CJ, CB, CO, CD⟩) FGone go3
  obtain ⟨fDrop, fdDrop, mDrop, FDrop⟩ := m_Drop.ex
  have bDrop : Binds K fdDrop ["self", "writer"] [] := FDrop.binds (ps := ["self", "writer"]) fun _ _ _ _ _ _ us hl => match us, hl with | [_, _], _ => rfl
  have oDrop := ok_dropO (P := P) (w := w) (base := base) (c := ⟨K, aT, CJ, CB, CO, CD⟩) FDrop go2
  obtain ⟨fTell, fdTell, mTell, FTell⟩ := m_Tell.ex
  have bTell : Binds K fdTell ["self", "writer"] [] := FTell.binds (ps := ["self", "writer"]) fun _ _ _ _ _ _ us hl => match us, hl with | [_, _], _ => rfl
  have oTell := ok_tellO (P := P) (w := w) (base := base) (c := ⟨K, aT, CJ, CB, CO, CD⟩) FTell go2
  obtain ⟨fWriters, fdWriters, mWriters, FWriters⟩ := m_Writers.ex
  have bWriters : Binds K fdWriters ["self"] [] := FWriters.binds (ps := ["self"]) fun _ _ _ _ _ _ us hl => match us, hl with | [_], _ => rfl
  have oWriters := ok_writersO (P := P) (w := w) (base := base) (c := ⟨K, aT, CJ, CB, CO, CD⟩) FWriters B TO
  obtain ⟨fFresh, fdFresh, mFresh, FFresh⟩ := m_Fresh.ex
  have bFresh : Binds K fdFresh ["self", "draft"] [] := FFresh.binds (ps := ["self", "draft"]) fun _ _ _ _ _ _ us hl => match us, hl with | [_, _], _ => rfl
  have oFresh := ok_freshO (P := P) (w := w) (base := base) (c := ⟨K, aT, CJ, CB, CO, CD⟩) FFresh C3 TO TD T TS (⟨by decide, by decide +kernel, by decide +kernel, by decide +kernel, by decide +kernel⟩ : PySem.BadX.Par "number") cS
  obtain ⟨fThen, fdThen, mThen, FThen⟩ := m_Then.ex
  have bThen : Binds K fdThen ["self", "entry"] [] := FThen.binds (ps := ["self", "entry"]) fun _ _ _ _ _ _ us hl => match us, hl with | [_, _], _ => rfl
  have oThen := ok_thenN (P := P) (w := w) (base := base) FThen B Cs T TE cE k8n
  have go4 : GO4 P w mg base (⟨K, aT, CJ, CB, CO, CD⟩ : Cls6) CE fE := ⟨TO, T, TE, cE, ⟨fThen, fdThen, mThen, bThen, oThen⟩⟩
  obtain ⟨fBehind, fdBehind, mBehind, FBehind⟩ := m_Behind.ex
  have bBehind : Binds K fdBehind ["self", "entries"] [] := FBehind.binds (ps := ["self", "entries"]) fun _ _ _ _ _ _ us hl => match us, hl with | [_, _], _ => rfl
  have oBehind := ok_behindO (P := P) (w := w) (base := base) (c := ⟨K, aT, CJ, CB, CO, CD⟩) FBehind B go4
  obtain ⟨fLen, fdLen, mLen, FLen⟩ := m_Len.ex
  have bLen : Binds K fdLen ["self"] [] := FLen.binds (ps := ["self"]) fun _ _ _ _ _ _ us hl => match us, hl with | [_], _ => rfl
  have oLen := ok_jlen (P := P) (w := w) (base := base) (aT := aT) FLen B T
  have go5 : GO5 P w mg base (⟨K, aT, CJ, CB, CO, CD⟩ : Cls6) CI CM CS CE fM := ⟨TO, T, TD, TM, cM, c_is_integer, ⟨fDraftOf, fdDraftOf, mDraftOf, bDraftOf, oDraftOf⟩, ⟨fFresh, fdFresh, mFresh, bFresh, oFresh⟩, ⟨fBehind, fdBehind, mBehind, bBehind, oBehind⟩⟩
  obtain ⟨fClose, fdClose, mClose, FClose⟩ := m_Close.ex
  have bClose : Binds K fdClose ["self", "writer", "arrival"] [] := FClose.binds (ps := ["self", "writer", "arrival"]) fun _ _ _ _ _ _ us hl => match us, hl with | [_, _, _], _ => rfl
  have oClose := ok_closeO (P := P) (w := w) (base := base) (c := ⟨K, aT, CJ, CB, CO, CD⟩) FClose B go5 oLen mLen.at_ mLen.fn bLen
  have go6 : GO6 P w mg base (⟨K, aT, CJ, CB, CO, CD⟩ : Cls6) CT CE := { toK8N := k8n, T := TO, TJ := T, xT := xT, gT := cT, kT := kT, bT := bT, tT := tT }
  obtain ⟨fUndo, fdUndo, mUndo, FUndo⟩ := m_Undo.ex
  have bUndo : Binds K fdUndo ["self"] [] := FUndo.binds (ps := ["self"]) fun _ _ _ _ _ _ us hl => match us, hl with | [_], _ => rfl
  have oUndo := ok_undoO (P := P) (w := w) (base := base) (c := ⟨K, aT, CJ, CB, CO, CD⟩) FUndo B go6
  obtain ⟨fdBeq, mBeq, FBeq⟩ := m_Beq.ex
  have bBeq : Binds K fdBeq ["self", "other"] [] := FBeq.binds (ps := ["self", "other"]) fun _ _ _ _ _ _ us hl => match us, hl with | [_, _], _ => rfl
  have oBeq := ok_book_eqV (P := P) (w := w) (base := base) FBeq B TB bk
  obtain ⟨fOI, fdOI, mOI, FOI⟩ := m_OI.ex
  have oOI := ok_ofInit (P := P) (w := w) (base := base) (c := ⟨K, aT, CJ, CB, CO, CD⟩) FOI B TO TB T bk jk oLen mLen.at_ mLen.fn bLen bne bBeq oBeq
  obtain ⟨ds4, v4, bOI⟩ := FOI.binds1 (ps := ["self", "book", "journal"]) 3 1 (by simp) rfl fun T kV doc pm an cdv ct us its h1 h2 => match us, its, h1, h2 with | [_, _, _], [_], _, _ => ⟨_, rfl, rfl⟩
  cases v4
  have gc : GC P w mg base (⟨K, aT, CJ, CB, CO, CD⟩ : Cls6) (⟨CI, CY, CS, CE, CM, CN, CT⟩ : Errs) := ⟨TO, ⟨fBegin, fdBegin, mBegin, bBegin, oBegin⟩, ⟨fRow, fdRow, mRow, bRow, oRow⟩, ⟨fFix, fdFix, mFix, bFix, oFix⟩, ⟨fGone, fdGone, mGone, bGone, oGone⟩, ⟨fDrop, fdDrop, mDrop, bDrop, oDrop⟩, ⟨fUndo, fdUndo, mUndo, bUndo, oUndo⟩, ⟨fClose, fdClose, mClose, bClose, oClose⟩, ⟨fTell, fdTell, mTell, bTell, oTell⟩⟩
  have c__law_called := cal_of (P := P) (w := w) (base := base) (ps := ["_law_which", "_law_office", "_law_given"]) d__law_called (fun _ _ _ _ _ _ us hl => match us, hl with | [_, _, _], _ => rfl) fun f fd F => ok_called (c := ⟨K, aT, CJ, CB, CO, CD⟩) (e := ⟨CI, CY, CS, CE, CM, CN, CT⟩) F gc
  have ge : GE P K mg (⟨CI, CY, CS, CE, CM, CN, CT⟩ : Errs) fI fY fS fE fM fN := ⟨TI, TY, TS, TE, TM, TN, cI, cY, cS, cE, cM, cN, cT, nYI, nSI, nSY, nEI, nEY, nES, nMI, nMY, nMS, nME, nNI, nNY, nNS, nNE, nNM, nTI, nTY, nTS, nTE, nTM, nTN, nTT⟩
  have c__law_done := cal_of (P := P) (w := w) (base := base) (ps := ["_law_which", "_law_office", "_law_given"]) d__law_done (fun _ _ _ _ _ _ us hl => match us, hl with | [_, _, _], _ => rfl) fun f fd F => ok_done (c := ⟨K, aT, CJ, CB, CO, CD⟩) (e := ⟨CI, CY, CS, CE, CM, CN, CT⟩) F c__law_called ge
  have gpi : GP P w mg base (⟨K, aT, CJ, CB, CO, CD⟩ : Cls6) (⟨CI, CY, CS, CE, CM, CN, CT⟩ : Errs) := ⟨c__law_done⟩
  have c__law_put_in := cal_of (P := P) (w := w) (base := base) (ps := ["_law_office", "_law_writer", "_law_entry_here"]) d__law_put_in (fun _ _ _ _ _ _ us hl => match us, hl with | [_, _, _], _ => rfl) fun f fd F => ok_putIn (c := ⟨K, aT, CJ, CB, CO, CD⟩) (e := ⟨CI, CY, CS, CE, CM, CN, CT⟩) F gpi
  have c__law_pool := cal_of (P := P) (w := w) (base := base) (ps := ["_law_script"]) d__law_pool (fun _ _ _ _ _ _ us hl => match us, hl with | [_], _ => rfl) fun f fd F => ok_pool F B
  have c__law_draw := cal_of (P := P) (w := w) (base := base) (ps := ["_law_pool_here", "_law_many"]) d__law_draw (fun _ _ _ _ _ _ us hl => match us, hl with | [_, _], _ => rfl) fun f fd F => ok_draw F B
  have g1 : G1 P w K mg base := ⟨c__law_draw⟩
  have c__law_names := cal_of (P := P) (w := w) (base := base) (ps := ["_law_pool_here", "_law_many"]) d__law_names (fun _ _ _ _ _ _ us hl => match us, hl with | [_, _], _ => rfl) fun f fd F => ok_names F B g1
  have g2 : G2 P w K mg base := ⟨g1, c__law_names⟩
  have c__law_lates := cal_of (P := P) (w := w) (base := base) (ps := ["_law_pool_here"]) d__law_lates (fun _ _ _ _ _ _ us hl => match us, hl with | [_], _ => rfl) fun f fd F => ok_lates F B g2
  have c__law_amount := cal_of (P := P) (w := w) (base := base) (ps := ["_law_pool_here"]) d__law_amount (fun _ _ _ _ _ _ us hl => match us, hl with | [_], _ => rfl) fun f fd F => ok_amount F B g2
  have g3 : G3 P w K mg base := ⟨g2, c__law_lates, c__law_amount⟩
  have c__law_entry := cal_of (P := P) (w := w) (base := base) (ps := ["_law_pool_here", "_law_lates_here", "_law_keys", "_law_states_here", "_law_number", "_law_arrival"]) d__law_entry (fun _ _ _ _ _ _ us hl => match us, hl with | [_, _, _, _, _, _], _ => rfl) fun f fd F => ok_entry F B g3
  have c__law_put := cal_of (P := P) (w := w) (base := base) (ps := ["_law_states_here", "_law_entry_here"]) d__law_put (fun _ _ _ _ _ _ us hl => match us, hl with | [_, _], _ => rfl) fun f fd F => ok_put F B
  have g4 : G4 P w K mg base := ⟨g3, c__law_entry, c__law_put⟩
  have c__law_entries := cal_of (P := P) (w := w) (base := base) (ps := ["_law_pool_here", "_law_lates_here", "_law_keys", "_law_states_here", "_law_number", "_law_arrival", "_law_many"]) d__law_entries (fun _ _ _ _ _ _ us hl => match us, hl with | [_, _, _, _, _, _, _], _ => rfl) fun f fd F => ok_entries F B g4
  have c_putk := cal_of (P := P) (w := w) (base := base) (ps := ["_law_states_here", "_law_entry_here"]) d__law_put (fun _ _ _ _ _ _ us hl => match us, hl with | [_, _], _ => rfl) fun f fd F => ok_putk F B
  have g4k : G4k P w K mg base := ⟨c_putk⟩
  have c__law_states := cal_of (P := P) (w := w) (base := base) (ps := ["_law_entries_here"]) d__law_states (fun _ _ _ _ _ _ us hl => match us, hl with | [_], _ => rfl) fun f fd F => ok_states F B g4k
  have g6d : G6d P w K mg base := ⟨g3, c__law_states⟩
  have c__law_drafted := cal_of (P := P) (w := w) (base := base) (ps := ["_law_pool_here", "_law_lates_here", "_law_keys", "_law_entries_here", "_law_number", "_law_now"]) d__law_drafted (fun _ _ _ _ _ _ us hl => match us, hl with | [_, _, _, _, _, _], _ => rfl) fun f fd F => ok_drafted F B g6d
  have oBeqI := ok_book_eq (P := P) (w := w) (base := base) FBeq B TB bk
  obtain ⟨fdJeq, mJeq, FJeq⟩ := m_Jeq.ex
  have bJeq : Binds K fdJeq ["self", "other"] [] := FJeq.binds (ps := ["self", "other"]) fun _ _ _ _ _ _ us hl => match us, hl with | [_, _], _ => rfl
  have oJeq := ok_j_eqc (P := P) (w := w) (base := base) (aT := aT) FJeq B T jk mBeq.at_ mBeq.fn bBeq oBeqI
  have c__law_appended := cal_of (P := P) (w := w) (base := base) (ps := ["_law_entries_here", "_law_closed"]) d__law_appended (fun _ _ _ _ _ _ us hl => match us, hl with | [_, _], _ => rfl) fun f fd F => ok_appended F B
  have grp : GRp P w mg base (⟨K, aT, CJ, CB, CO, CD⟩ : Cls6) (⟨CI, CY, CS, CE, CM, CN, CT⟩ : Errs) := ⟨TO, ⟨fBegin, fdBegin, mBegin, bBegin, oBegin⟩, c__law_put_in, c__law_done, ⟨fOI, fdOI, mOI, TO.c, bOI, oOI⟩⟩
  have c__law_replayed := cal_of (P := P) (w := w) (base := base) (ps := ["_law_book", "_law_journal", "_law_closed"]) d__law_replayed (fun _ _ _ _ _ _ us hl => match us, hl with | [_, _, _], _ => rfl) fun f fd F => ok_replayed (c := ⟨K, aT, CJ, CB, CO, CD⟩) (e := ⟨CI, CY, CS, CE, CM, CN, CT⟩) F B grp
  have gdd : GDd P w mg base (⟨K, aT, CJ, CB, CO, CD⟩ : Cls6) (⟨CI, CY, CS, CE, CM, CN, CT⟩ : Errs) := ⟨c__law_draw, c__law_drafted, c__law_put_in, c__law_done⟩
  have c__law_deed := cal_of (P := P) (w := w) (base := base) (ps := ["_law_pool_here", "_law_office", "_law_drafts", "_law_closed", "_law_writer", "_law_lates_here", "_law_keys", "_law_entries_here", "_law_number", "_law_begin_here"]) d__law_deed (fun _ _ _ _ _ _ us hl => match us, hl with | [_, _, _, _, _, _, _, _, _, _], _ => rfl) fun f fd F => ok_deed (c := ⟨K, aT, CJ, CB, CO, CD⟩) (e := ⟨CI, CY, CS, CE, CM, CN, CT⟩) F B gdd
  have gl : GL P w mg base (⟨K, aT, CJ, CB, CO, CD⟩ : Cls6) (⟨CI, CY, CS, CE, CM, CN, CT⟩ : Errs) := { toG3 := g3, law_pool := c__law_pool, law_entries := c__law_entries, law_appended := c__law_appended, law_deed := c__law_deed, law_replayed := c__law_replayed, undo := ⟨fUndo, fdUndo, mUndo, bUndo, oUndo⟩, Book := ⟨fInit, fdInit, ⟨mkB, mInit.at_, mInit.fn, kB⟩, TB.c, bInit, oInit⟩, Journal := makN k8n.Journal, Office := ⟨fOI, fdOI, mOI, TO.c, bOI, oOI⟩, T := TO, TJ := T }
  exact ok_law (c := ⟨K, aT, CJ, CB, CO, CD⟩) (e := ⟨CI, CY, CS, CE, CM, CN, CT⟩) F_law B gl jne mJeq.at_ mJeq.fn bJeq oJeq
end
theorem all_mk {P : Program} {w : World} {K : PySem.W.Frag} {h : Heap} {mg : Str → Option Value} {fa CB CJ CE CO CD CI CY CS CM CN CT fE fI fY fS fM fN aT aE fBeq fJeq f4 : Addr} {oc4 kV4 dc4 pm4 cd4 ct4 : Value} {od4 an4 : Option Addr} {sl4 : Array (Option Value)} (X : K.In h) (G : h.Ns mainGlobals mg) (hfa : mg "law" = some (.ref fa))
    (a4 : PySem.W.nsIn K mainGlobals "law" = some (some (.ref f4))) (l4 : K.lookup f4 = some ⟨oc4, od4, .func (PySem.W.fnOf "law" "law" (defArgs s_law) (defBody s_law) (defScope s_law) .none kV4 dc4 pm4 an4 cd4 ct4), sl4⟩) (c4 : PySem.W.codeIn K cd4 "law" = true) (k4 : PySem.W.keepIn K (.ref f4) = true)
    (B : Blt mg)
    (Cs : Cst mg)
    (TB : Cb K mg CB)
    (T : Cj P K mg CJ CB)
    (Tt : Tb K mg aT)
    (cE : mg "BadEntry" = some (.ref CE))
    (TE : PySem.BadX.Txt P K mg "at" "at" CE fE)
    (bi : BkI K CB)
    (ji : BkI K CJ)
    (mkB : PySem.W.makesIn K CB = true)
    (kB : PySem.W.keepIn K (.ref CB) = true)
    (C2 : Cst2 mg)
    (C3 : Cst3 mg)
    (TO : Co K mg CO)
    (TD : Cd K mg CD)
    (cI : mg "Idle" = some (.ref CI))
    (cY : mg "Busy" = some (.ref CY))
    (cS : mg "Stale" = some (.ref CS))
    (cM : mg "BadMoment" = some (.ref CM))
    (cN : mg "BadName" = some (.ref CN))
    (cT : mg "NothingDone" = some (.ref CT))
    (TI : PySem.BadX.Txt P K mg "writer" "writer" CI fI)
    (TY : PySem.BadX.Txt P K mg "writer" "writer" CY fY)
    (TS : PySem.BadX.Txt P K mg "number" "id" CS fS)
    (TM : PySem.BadX.Txt P K mg "value" "value" CM fM)
    (TN : PySem.BadX.Txt P K mg "value" "value" CN fN)
    (xT : PySem.W.excIn K CT veB "ValueError.__new__" = true)
    (kT : PySem.W.keepIn K (.ref CT) = true)
    (bT : PySem.W.subIn K (.ref CT) (.type "BaseException") = some true)
    (tT : PySem.W.typeIn K (.ref CT) = some (.type "type"))
    (nTT : PySem.W.exmOne K (.ref CT) (.ref CT) = some true)
    (nYI : PySem.W.exmOne K (.ref CY) (.ref CI) = some false)
    (nSI : PySem.W.exmOne K (.ref CS) (.ref CI) = some false)
    (nSY : PySem.W.exmOne K (.ref CS) (.ref CY) = some false)
    (nEI : PySem.W.exmOne K (.ref CE) (.ref CI) = some false)
    (nEY : PySem.W.exmOne K (.ref CE) (.ref CY) = some false)
    (nES : PySem.W.exmOne K (.ref CE) (.ref CS) = some false)
    (nMI : PySem.W.exmOne K (.ref CM) (.ref CI) = some false)
    (nMY : PySem.W.exmOne K (.ref CM) (.ref CY) = some false)
    (nMS : PySem.W.exmOne K (.ref CM) (.ref CS) = some false)
    (nME : PySem.W.exmOne K (.ref CM) (.ref CE) = some false)
    (nNI : PySem.W.exmOne K (.ref CN) (.ref CI) = some false)
    (nNY : PySem.W.exmOne K (.ref CN) (.ref CY) = some false)
    (nNS : PySem.W.exmOne K (.ref CN) (.ref CS) = some false)
    (nNE : PySem.W.exmOne K (.ref CN) (.ref CE) = some false)
    (nNM : PySem.W.exmOne K (.ref CN) (.ref CM) = some false)
    (nTI : PySem.W.exmOne K (.ref CT) (.ref CI) = some false)
    (nTY : PySem.W.exmOne K (.ref CT) (.ref CY) = some false)
    (nTS : PySem.W.exmOne K (.ref CT) (.ref CS) = some false)
    (nTE : PySem.W.exmOne K (.ref CT) (.ref CE) = some false)
    (nTM : PySem.W.exmOne K (.ref CT) (.ref CM) = some false)
    (nTN : PySem.W.exmOne K (.ref CT) (.ref CN) = some false)
    (mkD : PySem.W.makesIn K CD = true)
    (kD : PySem.W.keepIn K (.ref CD) = true)
    (m_OI : DN K CO "Office.__init__" s_Office_init)
    (d_is_integer : D1 K mg "is_integer" s_is_integer)
    (d_is_natural : D1 K mg "is_natural" s_is_natural)
    (d_is_name : D1 K mg "is_name" s_is_name)
    (d_are_integers : D1 K mg "are_integers" s_are_integers)
    (d_is_late : D1 K mg "is_late" s_is_late)
    (d_is_lates : D1 K mg "is_lates" s_is_lates)
    (d_is_entry : D1 K mg "is_entry" s_is_entry)
    (d_arrival_of : D1 K mg "arrival_of" s_arrival_of)
    (d_placed : D1 K mg "placed" s_placed)
    (d_row_behind : D1 K mg "row_behind" s_row_behind)
    (d_walked : D1 K mg "walked" s_walked)
    (d_is_row : D1 K mg "is_row" s_is_row)
    (m_Init : DM K CB "__init__" "Book.__init__" s_Book_init)
    (m_Has : DM K CB "has" "Book.has" s_Book_has)
    (m_Late : DM K CB "late" "Book.late" s_Book_late)
    (m_J : DD K CJ aE "Journal.__init__" s_Journal_init)
    (m_Then : DM K CJ "then" "Journal.then" s_Journal_then)
    (m_Len : DM K CJ "__len__" "Journal.__len__" s_Journal_len)
    (m_Beq : DQ K CB fBeq "__eq__" "Book.__eq__" s_Book_eq)
    (bne : NeC K CB fBeq)
    (m_DInit : DM K CD "__init__" "Draft.__init__" s_Draft_init)
    (m_DraftOf : DM K CO "_draft_of" "Office._draft_of" s_Officedraft_of)
    (m_Begin : DM K CO "begin" "Office.begin" s_Office_begin)
    (m_Put : DM K CO "_put" "Office._put" s_Officeput)
    (m_Row : DM K CO "row" "Office.row" s_Office_row)
    (m_Fix : DM K CO "fix" "Office.fix" s_Office_fix)
    (m_Gone : DM K CO "gone" "Office.gone" s_Office_gone)
    (m_Drop : DM K CO "drop" "Office.drop" s_Office_drop)
    (m_Tell : DM K CO "draft" "Office.draft" s_Office_draft)
    (m_Writers : DM K CO "writers" "Office.writers" s_Office_writers)
    (m_Fresh : DM K CO "_check_fresh" "Office._check_fresh" s_Officecheck_fresh)
    (m_Behind : DM K CO "_journal_behind" "Office._journal_behind" s_Officejournal_behind)
    (m_Close : DM K CO "close" "Office.close" s_Office_close)
    (m_Undo : DM K CO "undo" "Office.undo" s_Office_undo)
    (d__law_called : D1 K mg "_law_called" s_l_called)
    (d__law_done : D1 K mg "_law_done" s_l_done)
    (d__law_put_in : D1 K mg "_law_put_in" s_l_put_in)
    (d__law_pool : D1 K mg "_law_pool" s_l_pool)
    (d__law_draw : D1 K mg "_law_draw" s_l_draw)
    (d__law_names : D1 K mg "_law_names" s_l_names)
    (d__law_lates : D1 K mg "_law_lates" s_l_lates)
    (d__law_amount : D1 K mg "_law_amount" s_l_amount)
    (d__law_entry : D1 K mg "_law_entry" s_l_entry)
    (d__law_put : D1 K mg "_law_put" s_l_put)
    (d__law_entries : D1 K mg "_law_entries" s_l_entries)
    (d__law_states : D1 K mg "_law_states" s_l_states)
    (d__law_drafted : D1 K mg "_law_drafted" s_l_drafted)
    (m_Jeq : DQ K CJ fJeq "__eq__" "Journal.__eq__" s_Journal_eq)
    (jne : NeC K CJ fJeq)
    (d__law_appended : D1 K mg "_law_appended" s_l_appended)
    (d__law_replayed : D1 K mg "_law_replayed" s_l_replayed)
    (d__law_deed : D1 K mg "_law_deed" s_l_deed)
    : ∃ fd : FuncData, (∀ (s : Shared) (v : Value), BindsTo s fd ⟨[v], []⟩ [("_law_script", v)]) ∧ ∀ base : Heap, K.In base → base.Ns mainGlobals mg → FnOk P w K mg base CX0 17 fa fd ["_law_script"] (spLawN K) := by
  have e := hfa.symm.trans (PySem.W.mg_of X G a4)
  cases e
  exact ⟨PySem.W.fnOf "law" "law" (defArgs s_law) (defBody s_law) (defScope s_law) .none kV4 dc4 pm4 an4 cd4 ct4, fun s v => .of_eq rfl, fun base _ _ => all_ok B Cs TB T Tt cE TE bi ji mkB kB C2 C3 TO TD cI cY cS cM cN cT TI TY TS TM TN xT kT bT tT nTT nYI nSI nSY nEI nEY nES nMI nMY nMS nME nNI nNY nNS nNE nNM nTI nTY nTS nTE nTM nTN mkD kD m_OI d_is_integer d_is_natural d_is_name d_are_integers d_is_late d_is_lates d_is_entry d_arrival_of d_placed d_row_behind d_walked d_is_row m_Init m_Has m_Late m_J m_Then m_Len m_Beq bne m_DInit m_DraftOf m_Begin m_Put m_Row m_Fix m_Gone m_Drop m_Tell m_Writers m_Fresh m_Behind m_Close m_Undo d__law_called d__law_done d__law_put_in d__law_pool d__law_draw d__law_names d__law_lates d__law_amount d__law_entry d__law_put d__law_entries d__law_states d__law_drafted m_Jeq jne d__law_appended d__law_replayed d__law_deed (fun_mk l4 c4 k4)⟩
theorem walk {l : PySem.W.OpenLaw} {q : Program} {loose : List Str} {XP : (Str → Option Value) → Heap → Prop} {YP : World → Heap → Prop} {d : DefRec} {K : Params → PySem.W.Frag} (hn : l.most = some 63) (hdf : d.params.defaults = [])
    (hY : ∀ (w : World) (h : Heap), YP w h → (K w.params).In h)
    (F : ∀ (w : World) (mg : Str → Option Value) (fa : Addr) (h : Heap), (K w.params).In h → h.Ns mainGlobals mg → mg d.name = some (.ref fa) →
      ∃ fd : FuncData, (∀ (s : Shared) (u : Value), BindsTo s fd ⟨[u], []⟩ [("_law_script", u)]) ∧ ∀ base : Heap, (K w.params).In base → base.Ns mainGlobals mg → FnOk l.prog w (K w.params) mg base CX0 17 fa fd ["_law_script"] (spLawN (K w.params))) :
    PySem.W.WalkO q loose XP YP l.row.toRowW d [] (fun f vs => PySem.call f vs) :=
  L2.walk_of (n := 63) (k := 17) (x := "_law_script") (CX := fun _ => CX0) (sp := fun w => spLawN (K w.params)) hn (by decide) hdf ⟨rfl, by decide, by decide⟩ hY F (fun _ _ a ns hl _ hS => ⟨a, ns, rfl, hS, hl, fun _ => rfl⟩) fun _ _ _ _ _ z => z
end Ash

set_option Elab.async false
open PySem PySem.W PyProof.Rows
/-! names that are taken: the head makes no twins of these parts of the heap -/
theorem PySem.W.Fast.tw16666343472205178374 : True := trivial
theorem PySem.W.Fast.tw3816840765360305427 : True := trivial
theorem PySem.W.Fast.tw8378313241148905065 : True := trivial
theorem PySem.W.Fast.tw2975707502377401181 : True := trivial
theorem PySem.W.Fast.tw2967244672819449648 : True := trivial
theorem PySem.W.Fast.tw15212237313705943924 : True := trivial
theorem PySem.W.Fast.tw17649923840904876465 : True := trivial
theorem PySem.W.Fast.tw17195765164141344836 : True := trivial
theorem PySem.W.Fast.tw620925795000713912 : True := trivial
theorem PySem.W.Fast.tw9978191652254064205 : True := trivial
theorem PySem.W.Fast.tw1921843743395859681 : True := trivial
theorem PySem.W.Fast.tw11190172611826142436 : True := trivial
theorem PySem.W.Fast.tw6561590702806486760 : True := trivial
theorem PySem.W.Fast.tw11163510683490557461 : True := trivial
theorem PySem.W.Fast.tw9360116538113602206 : True := trivial
theorem PySem.W.Fast.tw4708414827808863356 : True := trivial
theorem PySem.W.Fast.tw3928489460972031521 : True := trivial
theorem PySem.W.Fast.tw1294442464206589295 : True := trivial
theorem PySem.W.Fast.tw3123214349982925481 : True := trivial
theorem PySem.W.Fast.tw6440179374057649356 : True := trivial
theorem PySem.W.Fast.tw8321749545343332268 : True := trivial
theorem PySem.W.Fast.tw2256074747683191754 : True := trivial
theorem PySem.W.Fast.tw11810143304959157443 : True := trivial
theorem PySem.W.Fast.tw14842217619636662826 : True := trivial
theorem PySem.W.Fast.tw5476889206969925533 : True := trivial
theorem PySem.W.Fast.tw4352311923373785399 : True := trivial
theorem PySem.W.Fast.tw17258044968218539135 : True := trivial
theorem PySem.W.Fast.tw14624738478641401001 : True := trivial
theorem PySem.W.Fast.tw2112524845966175789 : True := trivial
theorem PySem.W.Fast.tw5550122788842394679 : True := trivial
theorem PySem.W.Fast.tw12739667948940348697 : True := trivial
theorem PySem.W.Fast.tw4660039470692261088 : True := trivial
theorem PySem.W.Fast.tw2766626904621274600 : True := trivial
theorem PySem.W.Fast.tw10985387310150892495 : True := trivial
theorem PySem.W.Fast.tw5001742988925280639 : True := trivial
theorem PySem.W.Fast.tw7277754265455628078 : True := trivial
theorem PySem.W.Fast.tw5138191175487414449 : True := trivial
theorem PySem.W.Fast.tw6840094265220948750 : True := trivial
theorem PySem.W.Fast.tw3918187896625645865 : True := trivial
theorem PySem.W.Fast.tw10303207952070627621 : True := trivial
theorem PySem.W.Fast.tw16160051142058526732 : True := trivial
theorem PySem.W.Fast.tw10124145433369175123 : True := trivial
theorem PySem.W.Fast.tw17434093511149727972 : True := trivial
theorem PySem.W.Fast.tw14340352569964175839 : True := trivial
theorem PySem.W.Fast.tw11570309344686318433 : True := trivial
theorem PySem.W.Fast.tw8053229641141447836 : True := trivial
theorem PySem.W.Fast.tw16628673876011335117 : True := trivial
theorem PySem.W.Fast.tw5644672318766138440 : True := trivial
theorem PySem.W.Fast.tw10693825048323216828 : True := trivial
theorem PySem.W.Fast.tw411850710333236100 : True := trivial
theorem PySem.W.Fast.tw13334471671672022850 : True := trivial
theorem PySem.W.Fast.tw18067057099624157431 : True := trivial
theorem PySem.W.Fast.tw18195226418177789816 : True := trivial
theorem PySem.W.Fast.tw11584776214863287349 : True := trivial
theorem PySem.W.Fast.tw11433677480092393024 : True := trivial
theorem PySem.W.Fast.tw15443006170042986986 : True := trivial
theorem PySem.W.Fast.tw4398729249374320017 : True := trivial
theorem PySem.W.Fast.tw1803344064132599108 : True := trivial
theorem PySem.W.Fast.tw7034841493496457550 : True := trivial
theorem PySem.W.Fast.tw8326702869578356983 : True := trivial
theorem PySem.W.Fast.tw9309862670821614330 : True := trivial
theorem PySem.W.Fast.tw9302064560177683253 : True := trivial
theorem PySem.W.Fast.tw10440194531765363283 : True := trivial
theorem PySem.W.Fast.tw10978230071323304502 : True := trivial
theorem PySem.W.Fast.tw10973567065972165415 : True := trivial
theorem PySem.W.Fast.tw9533123141481299198 : True := trivial
theorem PySem.W.Fast.tw4972041444400755078 : True := trivial
theorem PySem.W.Fast.tw13835126731235321628 : True := trivial
theorem PySem.W.Fast.tw6650351780720803620 : True := trivial
theorem PySem.W.Fast.tw17724598207545242992 : True := trivial
theorem PySem.W.Fast.tw13643191459931860305 : True := trivial
theorem PySem.W.Fast.tw7031817009228215823 : True := trivial
theorem PySem.W.Fast.tw2964635713835316479 : True := trivial
theorem PySem.W.Fast.tw5243661856808364937 : True := trivial
theorem PySem.W.Fast.tw9450184854403768320 : True := trivial
theorem PySem.W.Fast.tw4065792537048466724 : True := trivial
theorem PySem.W.Fast.tw6655762359274121466 : True := trivial
theorem PySem.W.Fast.tw13809445713792693945 : True := trivial
theorem PySem.W.Fast.tw10097703336858474324 : True := trivial
theorem PySem.W.Fast.tw14744664210189403941 : True := trivial
theorem PySem.W.Fast.tw10512710246320689894 : True := trivial
theorem PySem.W.Fast.tw11479606391642305843 : True := trivial
theorem PySem.W.Fast.tw9381698380049645822 : True := trivial
theorem PySem.W.Fast.tw13380679393467749925 : True := trivial
theorem PySem.W.Fast.tw17980397974850712161 : True := trivial
theorem PySem.W.Fast.tw13752633845692484555 : True := trivial
theorem PySem.W.Fast.tw13987820952169086783 : True := trivial
theorem PySem.W.Fast.tw13640585001161953285 : True := trivial
theorem PySem.W.Fast.tw6051898091446419464 : True := trivial
theorem PySem.W.Fast.tw1166254542925251203 : True := trivial
theorem PySem.W.Fast.tw9849170210587034917 : True := trivial
theorem PySem.W.Fast.tw10178905590828489904 : True := trivial
theorem PySem.W.Fast.tw2863896266280078878 : True := trivial
theorem PySem.W.Fast.tw14207203869878462184 : True := trivial
theorem PySem.W.Fast.tw17727824061631159544 : True := trivial
theorem PySem.W.Fast.tw13396659745330181812 : True := trivial
theorem PySem.W.Fast.tw48796099554979389 : True := trivial
theorem PySem.W.Fast.tw5852656839417822913 : True := trivial
theorem PySem.W.Fast.tw7853662818674105925 : True := trivial
theorem PySem.W.Fast.tw11853679619439518521 : True := trivial
theorem PySem.W.Fast.tw6240957606506291108 : True := trivial
theorem PySem.W.Fast.tw3215118872138922068 : True := trivial
theorem PySem.W.Fast.tw2227285973592458267 : True := trivial
theorem PySem.W.Fast.tw4193180023568174809 : True := trivial
theorem PySem.W.Fast.tw12858759398101411885 : True := trivial
theorem PySem.W.Fast.tw12670099044881549696 : True := trivial
theorem PySem.W.Fast.tw10592530975795028191 : True := trivial
theorem PySem.W.Fast.tw15705680262217011845 : True := trivial
theorem PySem.W.Fast.tw4145790335695442271 : True := trivial
theorem PySem.W.Fast.tw5313708469062082496 : True := trivial
theorem PySem.W.Fast.tw18406710136172014551 : True := trivial
theorem PySem.W.Fast.tw16274084165916266867 : True := trivial
theorem PySem.W.Fast.tw17153724045253714485 : True := trivial
theorem PySem.W.Fast.tw4234368083487127637 : True := trivial
theorem PySem.W.Fast.tw1339918312838967464 : True := trivial
theorem PySem.W.Fast.tw10304463136565294529 : True := trivial
theorem PySem.W.Fast.tw1379600576488891214 : True := trivial
theorem PySem.W.Fast.tw12831570127599682412 : True := trivial
theorem PySem.W.Fast.tw16951107797332443264 : True := trivial
theorem PySem.W.Fast.tw13872754291258283693 : True := trivial
theorem PySem.W.Fast.tw13113772902571097108 : True := trivial
theorem PySem.W.Fast.tw9704871264542687533 : True := trivial
theorem PySem.W.Fast.tw919835466216599799 : True := trivial
theorem PySem.W.Fast.tw17668178693394488272 : True := trivial
theorem PySem.W.Fast.tw13664532699546922020 : True := trivial
theorem PySem.W.Fast.tw6830102494103556308 : True := trivial
theorem PySem.W.Fast.tw17599613534958584849 : True := trivial
theorem PySem.W.Fast.tw780615052521948305 : True := trivial
theorem PySem.W.Fast.tw13980581012181471358 : True := trivial
theorem PySem.W.Fast.tw9478849088497509118 : True := trivial
theorem PySem.W.Fast.tw8644804748266354163 : True := trivial
theorem PySem.W.Fast.tw13632408154921173584 : True := trivial
theorem PySem.W.Fast.tw6162610981862962777 : True := trivial
theorem PySem.W.Fast.tw8475218368787333790 : True := trivial
theorem PySem.W.Fast.tw2405843893356396482 : True := trivial
theorem PySem.W.Fast.tw16932261080288270634 : True := trivial
theorem PySem.W.Fast.tw17980744905188499071 : True := trivial
theorem PySem.W.Fast.tw8144898476647787797 : True := trivial
theorem PySem.W.Fast.tw15547621662402316461 : True := trivial
theorem PySem.W.Fast.tw15948503699750377703 : True := trivial
theorem PySem.W.Fast.tw18075422729008703477 : True := trivial
theorem PySem.W.Fast.tw13884677905323033324 : True := trivial
theorem PySem.W.Fast.tw14582325273686955511 : True := trivial
theorem PySem.W.Fast.tw10639725597096043326 : True := trivial
theorem PySem.W.Fast.tw3631175516905681055 : True := trivial
theorem PySem.W.Fast.tw3327171507643059549 : True := trivial
theorem PySem.W.Fast.tw11611216678266367861 : True := trivial
theorem PySem.W.Fast.tw4380918454674952753 : True := trivial
theorem PySem.W.Fast.tw6502649503148974953 : True := trivial
theorem PySem.W.Fast.tw12813150989418834171 : True := trivial
theorem PySem.W.Fast.tw6434990996504400795 : True := trivial
theorem PySem.W.Fast.tw10657635091306647860 : True := trivial
theorem PySem.W.Fast.tw11665205516732817976 : True := trivial
theorem PySem.W.Fast.tw517219513731218789 : True := trivial
theorem PySem.W.Fast.tw14635197625638739097 : True := trivial
theorem PySem.W.Fast.tw3390435984424379586 : True := trivial
theorem PySem.W.Fast.tw14053078436365838664 : True := trivial
theorem PySem.W.Fast.tw12135542147177217735 : True := trivial
theorem PySem.W.Fast.tw17360513058443390112 : True := trivial
theorem PySem.W.Fast.tw5850867088650340737 : True := trivial
theorem PySem.W.Fast.tw14449914826176475886 : True := trivial
theorem PySem.W.Fast.tw9823829823029989174 : True := trivial
theorem PySem.W.Fast.tw948491075541051142 : True := trivial
theorem PySem.W.Fast.tw16506140108973922112 : True := trivial
theorem PySem.W.Fast.tw11114336272130706146 : True := trivial
theorem PySem.W.Fast.tw12901689132115463237 : True := trivial
theorem PySem.W.Fast.tw5182717499699472198 : True := trivial
theorem PySem.W.Fast.tw4126881058781118578 : True := trivial
theorem PySem.W.Fast.tw18047533791218605354 : True := trivial
theorem PySem.W.Fast.tw2314153050546290288 : True := trivial
theorem PySem.W.Fast.tw10372974837698852895 : True := trivial
theorem PySem.W.Fast.tw18313395373172775392 : True := trivial
theorem PySem.W.Fast.tw4189873438189055071 : True := trivial
theorem PySem.W.Fast.tw6214542634338912803 : True := trivial
theorem PySem.W.Fast.tw6932911166815200557 : True := trivial
theorem PySem.W.Fast.tw10191176618554298559 : True := trivial
theorem PySem.W.Fast.tw17012251930029695468 : True := trivial
theorem PySem.W.Fast.tw11735715849153282608 : True := trivial
theorem PySem.W.Fast.tw5360029820851145516 : True := trivial
theorem PySem.W.Fast.tw12491931800897720438 : True := trivial
theorem PySem.W.Fast.tw477087518681991894 : True := trivial
theorem PySem.W.Fast.tw12339648445216116689 : True := trivial
theorem PySem.W.Fast.tw16345728726232351490 : True := trivial
theorem PySem.W.Fast.tw13607329813236410989 : True := trivial
theorem PySem.W.Fast.tw13629795834024478295 : True := trivial
theorem PySem.W.Fast.tw17860344899279109602 : True := trivial
theorem PySem.W.Fast.tw2379380050873339855 : True := trivial
theorem PySem.W.Fast.tw10587893870635225081 : True := trivial
theorem PySem.W.Fast.tw18227117727993683501 : True := trivial
theorem PySem.W.Fast.tw3421639373972399431 : True := trivial
theorem PySem.W.Fast.tw7864580289436261122 : True := trivial
theorem PySem.W.Fast.tw3785755875892940390 : True := trivial
theorem PySem.W.Fast.tw15360937598789006598 : True := trivial
theorem PySem.W.Fast.tw7586299689754705879 : True := trivial
theorem PySem.W.Fast.tw12909488208703383104 : True := trivial
theorem PySem.W.Fast.tw6556270314821915700 : True := trivial
theorem PySem.W.Fast.tw17623457916407272662 : True := trivial
theorem PySem.W.Fast.tw16088689523352359846 : True := trivial
theorem PySem.W.Fast.tw16798766587323360200 : True := trivial
theorem PySem.W.Fast.tw13617412470458241842 : True := trivial
theorem PySem.W.Fast.tw6391356598206003764 : True := trivial
theorem PySem.W.Fast.tw9950349832849910305 : True := trivial
theorem PySem.W.Fast.tw2362265204299826613 : True := trivial
theorem PySem.W.Fast.tw7825803354863101863 : True := trivial
theorem PySem.W.Fast.tw9367000003885892867 : True := trivial
theorem PySem.W.Fast.tw17188603637627572763 : True := trivial
theorem PySem.W.Fast.tw16239058388951907245 : True := trivial
theorem PySem.W.Fast.tw17534330038006999155 : True := trivial
theorem PySem.W.Fast.tw10345615315345501373 : True := trivial
theorem PySem.W.Fast.tw15812554150288078204 : True := trivial
theorem PySem.W.Fast.tw89567837745676681 : True := trivial
theorem PySem.W.Fast.tw11388996950196530017 : True := trivial
theorem PySem.W.Fast.tw6345352486995934068 : True := trivial
theorem PySem.W.Fast.tw5020967618618299928 : True := trivial
theorem PySem.W.Fast.tw1101320586756688039 : True := trivial
theorem PySem.W.Fast.tw636342920937249558 : True := trivial
theorem PySem.W.Fast.tw2981342507394872762 : True := trivial
theorem PySem.W.Fast.tw17741311167339534018 : True := trivial
theorem PySem.W.Fast.tw18116653084114569046 : True := trivial
theorem PySem.W.Fast.tw5357810291140468591 : True := trivial
theorem PySem.W.Fast.tw13871292436734358274 : True := trivial
theorem PySem.W.Fast.tw15160789755690363996 : True := trivial
theorem PySem.W.Fast.tw9272385807933462208 : True := trivial
theorem PySem.W.Fast.tw6065996620192802907 : True := trivial
theorem PySem.W.Fast.tw9167316113018421137 : True := trivial
theorem PySem.W.Fast.tw14524124887970507654 : True := trivial
theorem PySem.W.Fast.tw8066317097641782394 : True := trivial
theorem PySem.W.Fast.tw8404854293398390021 : True := trivial
theorem PySem.W.Fast.tw4568696553083627804 : True := trivial
theorem PySem.W.Fast.tw9894958001261344003 : True := trivial
theorem PySem.W.Fast.tw9301161582941247281 : True := trivial
theorem PySem.W.Fast.tw7738734107943519483 : True := trivial
theorem PySem.W.Fast.tw4848943262486453563 : True := trivial
theorem PySem.W.Fast.tw8873188757182389300 : True := trivial
theorem PySem.W.Fast.tw11652649181217763885 : True := trivial
theorem PySem.W.Fast.tw16988836077991942828 : True := trivial
theorem PySem.W.Fast.tw7204202333958457934 : True := trivial
theorem PySem.W.Fast.tw4565150746955804806 : True := trivial
theorem PySem.W.Fast.tw568320412368886113 : True := trivial
theorem PySem.W.Fast.tw4238497969931844482 : True := trivial
theorem PySem.W.Fast.tw2128180636526605849 : True := trivial
theorem PySem.W.Fast.tw11535091414062774844 : True := trivial
theorem PySem.W.Fast.tw3850383741944766892 : True := trivial
theorem PySem.W.Fast.tw7123640900838342068 : True := trivial
theorem PySem.W.Fast.tw1536620447071943496 : True := trivial
theorem PySem.W.Fast.tw1514217678323330826 : True := trivial
theorem PySem.W.Fast.tw2633271122636191478 : True := trivial
theorem PySem.W.Fast.tw4082372410954672306 : True := trivial
theorem PySem.W.Fast.tw16532904048881767949 : True := trivial
theorem PySem.W.Fast.tw6999469962919680507 : True := trivial
theorem PySem.W.Fast.tw13161491642099450613 : True := trivial
theorem PySem.W.Fast.tw6385028740892595691 : True := trivial
theorem PySem.W.Fast.tw6050686143248794053 : True := trivial
theorem PySem.W.Fast.tw14563951623397744223 : True := trivial
theorem PySem.W.Fast.tw7071810722112130200 : True := trivial
theorem PySem.W.Fast.tw12288881081189256220 : True := trivial
theorem PySem.W.Fast.tw11432919673611382700 : True := trivial
theorem PySem.W.Fast.tw11870716347457758979 : True := trivial
theorem PySem.W.Fast.tw15293063448262617537 : True := trivial
theorem PySem.W.Fast.tw5632966657597352053 : True := trivial
theorem PySem.W.Fast.tw9800310853973141989 : True := trivial
theorem PySem.W.Fast.tw8510684518715145472 : True := trivial
theorem PySem.W.Fast.tw4643932909101797236 : True := trivial
theorem PySem.W.Fast.tw11968170850420100086 : True := trivial
theorem PySem.W.Fast.tw7924334243041627480 : True := trivial
theorem PySem.W.Fast.tw3745666740870196489 : True := trivial
theorem PySem.W.Fast.tw5625893875722586508 : True := trivial
theorem PySem.W.Fast.tw5832695625109022406 : True := trivial
theorem PySem.W.Fast.tw17961998081917870534 : True := trivial
theorem PySem.W.Fast.tw11743063338599021292 : True := trivial
theorem PySem.W.Fast.tw780594300567875545 : True := trivial
theorem PySem.W.Fast.tw1749066827051815609 : True := trivial
theorem PySem.W.Fast.tw14640513386200112273 : True := trivial
theorem PySem.W.Fast.tw10739615045024401689 : True := trivial
theorem PySem.W.Fast.tw14281405597091839557 : True := trivial
theorem PySem.W.Fast.tw16269458082046649796 : True := trivial
theorem PySem.W.Fast.tw13519907282650284875 : True := trivial
theorem PySem.W.Fast.tw9019448809989849807 : True := trivial
theorem PySem.W.Fast.tw6993186026380360795 : True := trivial
theorem PySem.W.Fast.tw8516767119649959329 : True := trivial
theorem PySem.W.Fast.tw7536595656021093414 : True := trivial
theorem PySem.W.Fast.tw14207068604581058384 : True := trivial
theorem PySem.W.Fast.tw3170582612703733488 : True := trivial
theorem PySem.W.Fast.tw1990416159703250324 : True := trivial
theorem PySem.W.Fast.tw12912041300849611885 : True := trivial
theorem PySem.W.Fast.tw9410298433466981702 : True := trivial
theorem PySem.W.Fast.tw17324253728883804333 : True := trivial
theorem PySem.W.Fast.tw1849358865992242527 : True := trivial
theorem PySem.W.Fast.tw15179665550033459268 : True := trivial
theorem PySem.W.Fast.tw10423075749196729369 : True := trivial
theorem PySem.W.Fast.tw8477313708941900943 : True := trivial
theorem PySem.W.Fast.tw974753824401502816 : True := trivial
theorem PySem.W.Fast.tw18187341826778488626 : True := trivial
theorem PySem.W.Fast.tw7079738676037529468 : True := trivial
theorem PySem.W.Fast.tw6903926406023151265 : True := trivial
theorem PySem.W.Fast.tw14407464953534420271 : True := trivial
theorem PySem.W.Fast.tw11463601338645160902 : True := trivial
theorem PySem.W.Fast.tw14399140510382771453 : True := trivial
theorem PySem.W.Fast.tw2803622357462674633 : True := trivial
theorem PySem.W.Fast.tw10450072883116894088 : True := trivial
theorem PySem.W.Fast.tw11118401050864175756 : True := trivial
theorem PySem.W.Fast.tw6965690351405842375 : True := trivial
theorem PySem.W.Fast.tw12550257938288295590 : True := trivial
theorem PySem.W.Fast.tw16586490204527644355 : True := trivial
theorem PySem.W.Fast.tw3846214310349090232 : True := trivial
theorem PySem.W.Fast.tw11723816526460428058 : True := trivial
theorem PySem.W.Fast.tw5749715278996435769 : True := trivial
theorem PySem.W.Fast.tw16157689333662363882 : True := trivial
theorem PySem.W.Fast.tw14175992840823293508 : True := trivial
theorem PySem.W.Fast.tw13147196068467402398 : True := trivial
theorem PySem.W.Fast.tw13502227978312806817 : True := trivial
theorem PySem.W.Fast.tw10248312507788933518 : True := trivial
theorem PySem.W.Fast.tw2433375278503628863 : True := trivial
theorem PySem.W.Fast.tw7526412195786408415 : True := trivial
theorem PySem.W.Fast.tw11363144514251716274 : True := trivial
theorem PySem.W.Fast.tw2763109843841055174 : True := trivial
theorem PySem.W.Fast.tw710480654545265 : True := trivial
theorem PySem.W.Fast.tw11490375426148813734 : True := trivial
theorem PySem.W.Fast.tw17612661581965900765 : True := trivial
theorem PySem.W.Fast.tw9334456506256808895 : True := trivial
theorem PySem.W.Fast.tw13759301476945075055 : True := trivial
theorem PySem.W.Fast.tw9867099765268414441 : True := trivial
theorem PySem.W.Fast.tw15911250489699877930 : True := trivial
theorem PySem.W.Fast.tw841980233582628355 : True := trivial
theorem PySem.W.Fast.tw14920287622982362616 : True := trivial
theorem PySem.W.Fast.tw2904244407481601077 : True := trivial
theorem PySem.W.Fast.tw4056417611214785047 : True := trivial
theorem PySem.W.Fast.tw11142818784581335370 : True := trivial
theorem PySem.W.Fast.tw12783996140299877948 : True := trivial
theorem PySem.W.Fast.tw4988240562492344807 : True := trivial
theorem PySem.W.Fast.tw4968560308878453577 : True := trivial
theorem PySem.W.Fast.tw6988675493760182147 : True := trivial
theorem PySem.W.Fast.tw8663416509438856758 : True := trivial
theorem PySem.W.Fast.tw7934222960434315531 : True := trivial
theorem PySem.W.Fast.tw9091369625001174483 : True := trivial
theorem PySem.W.Fast.tw9679102747580551627 : True := trivial
theorem PySem.W.Fast.tw3994464641266460590 : True := trivial
theorem PySem.W.Fast.tw3557320331999745531 : True := trivial
theorem PySem.W.Fast.tw18267138407187502199 : True := trivial
theorem PySem.W.Fast.tw13659043874914062081 : True := trivial
theorem PySem.W.Fast.tw8665130468508487554 : True := trivial
theorem PySem.W.Fast.tw12299830435326741111 : True := trivial
theorem PySem.W.Fast.tw2438420721673212689 : True := trivial
theorem PySem.W.Fast.tw14971715018654345260 : True := trivial
theorem PySem.W.Fast.tw6212479768481616064 : True := trivial
theorem PySem.W.Fast.tw12790794749618500669 : True := trivial
theorem PySem.W.Fast.tw10610113826349231668 : True := trivial
theorem PySem.W.Fast.tw12346849457387239518 : True := trivial
theorem PySem.W.Fast.tw8142380548225206634 : True := trivial
theorem PySem.W.Fast.tw11012216232181665671 : True := trivial
theorem PySem.W.Fast.tw10906356799409324639 : True := trivial
theorem PySem.W.Fast.tw8027057630914373795 : True := trivial
theorem PySem.W.Fast.tw15536697402562207715 : True := trivial
theorem PySem.W.Fast.tw13153907339427121423 : True := trivial
theorem PySem.W.Fast.tw8463571451044563525 : True := trivial
theorem PySem.W.Fast.tw12843148577190419609 : True := trivial
theorem PySem.W.Fast.tw16381699762755256029 : True := trivial
theorem PySem.W.Fast.tw12460878968050179792 : True := trivial
theorem PySem.W.Fast.tw6856129230864124939 : True := trivial
theorem PySem.W.Fast.tw10322719556924047363 : True := trivial
theorem PySem.W.Fast.tw16606545699848650521 : True := trivial
theorem PySem.W.Fast.tw7050207325791792349 : True := trivial
theorem PySem.W.Fast.tw12473756466904451156 : True := trivial
theorem PySem.W.Fast.tw17818405269025771640 : True := trivial
theorem PySem.W.Fast.tw13380259607335462196 : True := trivial
theorem PySem.W.Fast.tw9234727253469183388 : True := trivial
theorem PySem.W.Fast.tw3650223440092737600 : True := trivial
theorem PySem.W.Fast.tw11839020944812661648 : True := trivial
theorem PySem.W.Fast.tw5173073012409743815 : True := trivial
theorem PySem.W.Fast.tw2796298744458203190 : True := trivial
theorem PySem.W.Fast.tw3159786647309130985 : True := trivial
theorem PySem.W.Fast.tw18028977937442789048 : True := trivial
theorem PySem.W.Fast.tw15886358194164252192 : True := trivial
theorem PySem.W.Fast.tw10141156580752558018 : True := trivial
theorem PySem.W.Fast.tw17232458233313344086 : True := trivial
theorem PySem.W.Fast.tw8857565330850777237 : True := trivial
theorem PySem.W.Fast.tw6064945741538204691 : True := trivial
theorem PySem.W.Fast.tw13458550758995838242 : True := trivial
theorem PySem.W.Fast.tw238731042589294214 : True := trivial
theorem PySem.W.Fast.tw14996125753947357039 : True := trivial
theorem PySem.W.Fast.tw7157739356702040554 : True := trivial
theorem PySem.W.Fast.tw10120353148719515312 : True := trivial
theorem PySem.W.Fast.tw18074984838475181122 : True := trivial
theorem PySem.W.Fast.tw16279435216289074116 : True := trivial
theorem PySem.W.Fast.tw11783401211522914511 : True := trivial
theorem PySem.W.Fast.tw6532618367846669671 : True := trivial
theorem PySem.W.Fast.tw5489983751911984068 : True := trivial
theorem PySem.W.Fast.tw7117836684632761067 : True := trivial
theorem PySem.W.Fast.tw295759532108400182 : True := trivial
theorem PySem.W.Fast.tw12339465675084984163 : True := trivial
theorem PySem.W.Fast.tw469700463572087096 : True := trivial
theorem PySem.W.Fast.tw6821711583603453341 : True := trivial
theorem PySem.W.Fast.tw827516112966639481 : True := trivial
theorem PySem.W.Fast.tw7169624772207995194 : True := trivial
theorem PySem.W.Fast.tw449660615139031596 : True := trivial
theorem PySem.W.Fast.tw13374494318763282613 : True := trivial
theorem PySem.W.Fast.tw10348328471322402909 : True := trivial
theorem PySem.W.Fast.tw3450975375773630549 : True := trivial
theorem PySem.W.Fast.tw9541699074696761928 : True := trivial
theorem PySem.W.Fast.tw17046807069248354947 : True := trivial
theorem PySem.W.Fast.tw5367733160393790340 : True := trivial
theorem PySem.W.Fast.tw8462189933707064809 : True := trivial
theorem PySem.W.Fast.tw10605907997874453232 : True := trivial
theorem PySem.W.Fast.tw8215782295580886408 : True := trivial
theorem PySem.W.Fast.tw4886023511641856700 : True := trivial
theorem PySem.W.Fast.tw9999103421463482301 : True := trivial
theorem PySem.W.Fast.tw12910556666702234260 : True := trivial
theorem PySem.W.Fast.tw13910825030020121859 : True := trivial
theorem PySem.W.Fast.tw9289549250004943544 : True := trivial
theorem PySem.W.Fast.tw2211229709384893540 : True := trivial
theorem PySem.W.Fast.tw7749838215303795788 : True := trivial
theorem PySem.W.Fast.tw18146968260041482603 : True := trivial
theorem PySem.W.Fast.tw7824561141985055885 : True := trivial
theorem PySem.W.Fast.tw7217047291245148928 : True := trivial
theorem PySem.W.Fast.tw16484127385070471615 : True := trivial
theorem PySem.W.Fast.tw14476793239368706171 : True := trivial
theorem PySem.W.Fast.tw4403968514026289575 : True := trivial
theorem PySem.W.Fast.tw15075948248416751567 : True := trivial
theorem PySem.W.Fast.tw6520543863793693318 : True := trivial
theorem PySem.W.Fast.tw655220942866579769 : True := trivial
theorem PySem.W.Fast.tw4914765845359724176 : True := trivial
theorem PySem.W.Fast.tw3681532603880644409 : True := trivial
theorem PySem.W.Fast.tw2824695179512711758 : True := trivial
theorem PySem.W.Fast.tw17293460645703153138 : True := trivial
theorem PySem.W.Fast.tw15575361401471408473 : True := trivial
theorem PySem.W.Fast.tw15561107774304861258 : True := trivial
theorem PySem.W.Fast.tw1344241310008145157 : True := trivial
theorem PySem.W.Fast.tw3607978818890171087 : True := trivial
theorem PySem.W.Fast.tw11809191305646085054 : True := trivial
theorem PySem.W.Fast.tw12880217930071480082 : True := trivial
theorem PySem.W.Fast.tw1339511696768667687 : True := trivial
theorem PySem.W.Fast.tw2552874230913842508 : True := trivial
theorem PySem.W.Fast.tw3150889923440073450 : True := trivial
theorem PySem.W.Fast.tw6136008254603008318 : True := trivial
theorem PySem.W.Fast.tw5290212224424129404 : True := trivial
theorem PySem.W.Fast.tw14943226846518936637 : True := trivial
theorem PySem.W.Fast.tw15448547691510546520 : True := trivial
theorem PySem.W.Fast.tw18138282295281901636 : True := trivial
theorem PySem.W.Fast.tw3292201233743197029 : True := trivial
theorem PySem.W.Fast.tw3961596838654822337 : True := trivial
theorem PySem.W.Fast.tw4023059458825953460 : True := trivial
theorem PySem.W.Fast.tw2938915210764302741 : True := trivial
theorem PySem.W.Fast.tw5742994510795597094 : True := trivial
theorem PySem.W.Fast.tw6086214672667822921 : True := trivial
theorem PySem.W.Fast.tw1960947813868768521 : True := trivial
theorem PySem.W.Fast.tw542582535276246594 : True := trivial
theorem PySem.W.Fast.tw4341332743606194572 : True := trivial
theorem PySem.W.Fast.tw13610170783989739637 : True := trivial
theorem PySem.W.Fast.tw14287111527304952747 : True := trivial
theorem PySem.W.Fast.tw13869314243065359187 : True := trivial
theorem PySem.W.Fast.tw5876023505301731768 : True := trivial
theorem PySem.W.Fast.tw2933358477063168685 : True := trivial
theorem PySem.W.Fast.tw14382464900391800798 : True := trivial
theorem PySem.W.Fast.tw18174393110498491432 : True := trivial
theorem PySem.W.Fast.tw1482860175623857066 : True := trivial
theorem PySem.W.Fast.tw17957065395498832063 : True := trivial
theorem PySem.W.Fast.tw4779174568853703285 : True := trivial
theorem PySem.W.Fast.tw8053922323154869072 : True := trivial
theorem PySem.W.Fast.tw5796605601820034761 : True := trivial
theorem PySem.W.Fast.tw345512619820888624 : True := trivial
theorem PySem.W.Fast.tw17368252863309526219 : True := trivial
theorem PySem.W.Fast.tw9647596069038083866 : True := trivial
theorem PySem.W.Fast.tw14468063695167385967 : True := trivial
theorem PySem.W.Fast.tw13667598411060031822 : True := trivial
theorem PySem.W.Fast.tw6532295425972533777 : True := trivial
theorem PySem.W.Fast.tw8795527522149102251 : True := trivial
theorem PySem.W.Fast.tw8985394284298970173 : True := trivial
theorem PySem.W.Fast.tw13184340897105903456 : True := trivial
theorem PySem.W.Fast.tw3829375342715640960 : True := trivial
theorem PySem.W.Fast.tw13936296333991558880 : True := trivial
theorem PySem.W.Fast.tw278965333451032974 : True := trivial
theorem PySem.W.Fast.tw17826701278413722564 : True := trivial
theorem PySem.W.Fast.tw6263690627796272611 : True := trivial
theorem PySem.W.Fast.tw13185790057941758949 : True := trivial
theorem PySem.W.Fast.tw962604942720702299 : True := trivial
theorem PySem.W.Fast.tw5873374015763295481 : True := trivial
theorem PySem.W.Fast.tw15333842119611325223 : True := trivial
theorem PySem.W.Fast.tw17668327085760507968 : True := trivial
theorem PySem.W.Fast.tw16342807755367033093 : True := trivial
theorem PySem.W.Fast.tw371816706753330723 : True := trivial
theorem PySem.W.Fast.tw13469591832689854181 : True := trivial
theorem PySem.W.Fast.tw16775965078087696924 : True := trivial
theorem PySem.W.Fast.tw2039316620374798744 : True := trivial
theorem PySem.W.Fast.tw17626802837231762457 : True := trivial
theorem PySem.W.Fast.tw13439710954804886196 : True := trivial
theorem PySem.W.Fast.tw10812930295665920423 : True := trivial
theorem PySem.W.Fast.tw1868578212847688438 : True := trivial
theorem PySem.W.Fast.tw16745072729201010156 : True := trivial
theorem PySem.W.Fast.tw6172458835486849034 : True := trivial
theorem PySem.W.Fast.tw10421998889936675995 : True := trivial
theorem PySem.W.Fast.tw17394631920025433562 : True := trivial
theorem PySem.W.Fast.tw7009990678875207647 : True := trivial
theorem PySem.W.Fast.tw1915617575120278404 : True := trivial
theorem PySem.W.Fast.tw9660875693286926270 : True := trivial
theorem PySem.W.Fast.tw1794930249338337416 : True := trivial
theorem PySem.W.Fast.tw10510712721602953191 : True := trivial
theorem PySem.W.Fast.tw13546134458615423027 : True := trivial
theorem PySem.W.Fast.tw8707306658070868473 : True := trivial
theorem PySem.W.Fast.tw3564501260358718440 : True := trivial
theorem PySem.W.Fast.tw11184441665846518757 : True := trivial
theorem PySem.W.Fast.tw17327569641919911365 : True := trivial
theorem PySem.W.Fast.tw13719775905508960814 : True := trivial
theorem PySem.W.Fast.tw16706092580508032399 : True := trivial
theorem PySem.W.Fast.tw1180243956399910349 : True := trivial
theorem PySem.W.Fast.tw4753340055085357428 : True := trivial
theorem PySem.W.Fast.tw4926920164571447895 : True := trivial
theorem PySem.W.Fast.tw5200007387887226386 : True := trivial
theorem PySem.W.Fast.tw3042533861462366666 : True := trivial
theorem PySem.W.Fast.tw9953687640927508986 : True := trivial
theorem PySem.W.Fast.tw2180815089398182195 : True := trivial
theorem PySem.W.Fast.tw558247725365084991 : True := trivial
theorem PySem.W.Fast.tw2307776991232308165 : True := trivial
theorem PySem.W.Fast.tw18440491058886390377 : True := trivial
theorem PySem.W.Fast.tw9861592864269293590 : True := trivial
theorem PySem.W.Fast.tw638595975841770930 : True := trivial
theorem PySem.W.Fast.tw27061832842140754 : True := trivial
theorem PySem.W.Fast.tw11448876784791008387 : True := trivial
theorem PySem.W.Fast.tw2194755895066907874 : True := trivial
theorem PySem.W.Fast.tw8609985613389636066 : True := trivial
theorem PySem.W.Fast.tw10456356931168337054 : True := trivial
theorem PySem.W.Fast.tw17950399083729727148 : True := trivial
theorem PySem.W.Fast.tw4420977367933468614 : True := trivial
theorem PySem.W.Fast.tw1017150607307625138 : True := trivial
theorem PySem.W.Fast.tw13735458563460564059 : True := trivial
theorem PySem.W.Fast.tw14914995905806675818 : True := trivial
theorem PySem.W.Fast.tw13573098123264944230 : True := trivial
theorem PySem.W.Fast.tw12008658408771992995 : True := trivial
theorem PySem.W.Fast.tw139623010606268464 : True := trivial
theorem PySem.W.Fast.tw9714709654693941852 : True := trivial
theorem PySem.W.Fast.tw17913213534447796778 : True := trivial
theorem PySem.W.Fast.tw3799973061977641839 : True := trivial
theorem PySem.W.Fast.tw4152894440094121533 : True := trivial
theorem PySem.W.Fast.tw15590807001720044105 : True := trivial
theorem PySem.W.Fast.tw2578889025547539899 : True := trivial
theorem PySem.W.Fast.tw16807975813277087102 : True := trivial
theorem PySem.W.Fast.tw3287703093073737798 : True := trivial
theorem PySem.W.Fast.tw10336479042164515218 : True := trivial
theorem PySem.W.Fast.tw17252781278523253196 : True := trivial
theorem PySem.W.Fast.tw16808238883712017872 : True := trivial
theorem PySem.W.Fast.tw7902774145548537087 : True := trivial
theorem PySem.W.Fast.tw2176213597384019455 : True := trivial
theorem PySem.W.Fast.tw1907678428833283011 : True := trivial
theorem PySem.W.Fast.tw14012788786740294870 : True := trivial
theorem PySem.W.Fast.tw11715368521332127171 : True := trivial
theorem PySem.W.Fast.tw7173686820308524311 : True := trivial
theorem PySem.W.Fast.tw10876596108255565497 : True := trivial
theorem PySem.W.Fast.tw18378687089693004575 : True := trivial
theorem PySem.W.Fast.tw11433164195474604824 : True := trivial
theorem PySem.W.Fast.tw1613580052044222262 : True := trivial
theorem PySem.W.Fast.tw12773014009557137788 : True := trivial
theorem PySem.W.Fast.tw12357958028351922638 : True := trivial
theorem PySem.W.Fast.tw8988780955653815382 : True := trivial
theorem PySem.W.Fast.tw1431815908915730156 : True := trivial
theorem PySem.W.Fast.tw7366070988722957074 : True := trivial
theorem PySem.W.Fast.tw13171435984318249424 : True := trivial
theorem PySem.W.Fast.tw11603724530726765161 : True := trivial
theorem PySem.W.Fast.tw14391804558277844105 : True := trivial
theorem PySem.W.Fast.tw6902000520956870827 : True := trivial
theorem PySem.W.Fast.tw14348541367996660119 : True := trivial
theorem PySem.W.Fast.tw8304356271311826410 : True := trivial
theorem PySem.W.Fast.tw812253589961175123 : True := trivial
theorem PySem.W.Fast.tw8313193080619879340 : True := trivial
theorem PySem.W.Fast.tw13373244580426354201 : True := trivial
theorem PySem.W.Fast.tw6215127049929427750 : True := trivial
theorem PySem.W.Fast.tw3528483626081415097 : True := trivial
theorem PySem.W.Fast.tw6373100211919421831 : True := trivial
theorem PySem.W.Fast.tw6333823179831142680 : True := trivial
theorem PySem.W.Fast.tw3766941973395690870 : True := trivial
theorem PySem.W.Fast.tw6254347026577138414 : True := trivial
theorem PySem.W.Fast.tw10566198572178199165 : True := trivial
theorem PySem.W.Fast.tw17032510612951570498 : True := trivial
theorem PySem.W.Fast.tw13693041986400007689 : True := trivial
theorem PySem.W.Fast.tw633551660957784779 : True := trivial
theorem PySem.W.Fast.tw9429421870217377387 : True := trivial
theorem PySem.W.Fast.tw239478834580100584 : True := trivial
theorem PySem.W.Fast.tw11170319887427219081 : True := trivial
theorem PySem.W.Fast.tw15223267953655106795 : True := trivial
theorem PySem.W.Fast.tw17781172272930251619 : True := trivial
theorem PySem.W.Fast.tw5190308538124809950 : True := trivial
theorem PySem.W.Fast.tw13180572788963969326 : True := trivial
theorem PySem.W.Fast.tw967620104109960443 : True := trivial
theorem PySem.W.Fast.tw7202380743545311983 : True := trivial
theorem PySem.W.Fast.tw11411083489899132685 : True := trivial
theorem PySem.W.Fast.tw1029149381505439791 : True := trivial
theorem PySem.W.Fast.tw12119471102500045699 : True := trivial
theorem PySem.W.Fast.tw12664474708709613266 : True := trivial
theorem PySem.W.Fast.tw15184809629735576554 : True := trivial
theorem PySem.W.Fast.tw6220808194253140008 : True := trivial
theorem PySem.W.Fast.tw12648143596977419766 : True := trivial
theorem PySem.W.Fast.tw15082997437666350813 : True := trivial
theorem PySem.W.Fast.tw18309447832214279929 : True := trivial
theorem PySem.W.Fast.tw5515833520405441333 : True := trivial
theorem PySem.W.Fast.tw9585355926222715521 : True := trivial
theorem PySem.W.Fast.tw8932450844113618928 : True := trivial
theorem PySem.W.Fast.tw831778225888537758 : True := trivial
theorem PySem.W.Fast.tw8636679673316511623 : True := trivial
theorem PySem.W.Fast.tw15054101527234485784 : True := trivial
theorem PySem.W.Fast.tw11557998325461664677 : True := trivial
theorem PySem.W.Fast.tw8652323659283427275 : True := trivial
theorem PySem.W.Fast.tw818668681247265304 : True := trivial
theorem PySem.W.Fast.tw17322571758192486540 : True := trivial
theorem PySem.W.Fast.tw7163940221939655967 : True := trivial
theorem PySem.W.Fast.tw8760138086523823869 : True := trivial
theorem PySem.W.Fast.tw5488855253899465504 : True := trivial
theorem PySem.W.Fast.tw2629454378931816751 : True := trivial
theorem PySem.W.Fast.tw12889084099392362165 : True := trivial
theorem PySem.W.Fast.tw9424097280457954700 : True := trivial
theorem PySem.W.Fast.tw8738161686876645267 : True := trivial
theorem PySem.W.Fast.tw14577261204604516961 : True := trivial
theorem PySem.W.Fast.tw13123433808266073058 : True := trivial
theorem PySem.W.Fast.tw6595096031012969468 : True := trivial
theorem PySem.W.Fast.tw841313836711970678 : True := trivial
theorem PySem.W.Fast.tw2561312716520983450 : True := trivial
theorem PySem.W.Fast.tw9994442651832469760 : True := trivial
theorem PySem.W.Fast.tw5748964141669582673 : True := trivial
theorem PySem.W.Fast.tw2134389701938344395 : True := trivial
theorem PySem.W.Fast.tw8233011164568846065 : True := trivial
theorem PySem.W.Fast.tw15427174820390558157 : True := trivial
theorem PySem.W.Fast.tw3208470365864639811 : True := trivial
theorem PySem.W.Fast.tw6265954639205256370 : True := trivial
theorem PySem.W.Fast.tw1581246647913270731 : True := trivial
theorem PySem.W.Fast.tw12032440134853142539 : True := trivial
theorem PySem.W.Fast.tw5575494938369073459 : True := trivial
theorem PySem.W.Fast.tw16421638013763718242 : True := trivial
theorem PySem.W.Fast.tw14677388485977156878 : True := trivial
theorem PySem.W.Fast.tw8566557949577564823 : True := trivial
theorem PySem.W.Fast.tw8327975880278808036 : True := trivial
theorem PySem.W.Fast.tw14713661116507176753 : True := trivial
theorem PySem.W.Fast.tw11762359823665837870 : True := trivial
theorem PySem.W.Fast.tw237828098933842677 : True := trivial
theorem PySem.W.Fast.tw1389492814068313872 : True := trivial
theorem PySem.W.Fast.tw358290320291778289 : True := trivial
theorem PySem.W.Fast.tw1600765168399573882 : True := trivial
theorem PySem.W.Fast.tw11593966768591996941 : True := trivial
theorem PySem.W.Fast.tw3393263254807189322 : True := trivial
theorem PySem.W.Fast.tw3335292248995903448 : True := trivial
theorem PySem.W.Fast.tw4921391515184750324 : True := trivial
theorem PySem.W.Fast.tw12713224277683395275 : True := trivial
theorem PySem.W.Fast.tw16059870264345147468 : True := trivial
theorem PySem.W.Fast.tw8318516542104336378 : True := trivial
theorem PySem.W.Fast.tw642289319973901085 : True := trivial
theorem PySem.W.Fast.tw16909670376591377718 : True := trivial
theorem PySem.W.Fast.tw14754392813550408502 : True := trivial
theorem PySem.W.Fast.tw12743750304476725574 : True := trivial
theorem PySem.W.Fast.tw7303433868937295343 : True := trivial
theorem PySem.W.Fast.tw5005882345693138015 : True := trivial
theorem PySem.W.Fast.tw15521788198607315143 : True := trivial
theorem PySem.W.Fast.tw9007225206283026231 : True := trivial
theorem PySem.W.Fast.tw12140253480012207767 : True := trivial
theorem PySem.W.Fast.tw7309363893307740147 : True := trivial
theorem PySem.W.Fast.tw8915135634098190431 : True := trivial
theorem PySem.W.Fast.tw8890176304627435502 : True := trivial
theorem PySem.W.Fast.tw15464322945196721362 : True := trivial
theorem PySem.W.Fast.tw11677710765658201721 : True := trivial
theorem PySem.W.Fast.tw1185892368764173544 : True := trivial
theorem PySem.W.Fast.tw5920706125287168600 : True := trivial
theorem PySem.W.Fast.tw8924754151290721957 : True := trivial
theorem PySem.W.Fast.tw9078988288788975382 : True := trivial
theorem PySem.W.Fast.tw7002121698864133839 : True := trivial
theorem PySem.W.Fast.tw6767500475182533237 : True := trivial
theorem PySem.W.Fast.tw1269998884507003018 : True := trivial
theorem PySem.W.Fast.tw9322650831762853741 : True := trivial
theorem PySem.W.Fast.tw15804886546209257356 : True := trivial
theorem PySem.W.Fast.tw7544472779524788839 : True := trivial
theorem PySem.W.Fast.tw16143797758419767573 : True := trivial
theorem PySem.W.Fast.tw599767284355615856 : True := trivial
theorem PySem.W.Fast.tw6108691851267666832 : True := trivial
theorem PySem.W.Fast.tw7145452326351256269 : True := trivial
theorem PySem.W.Fast.tw12402357832883867454 : True := trivial
theorem PySem.W.Fast.tw15551190153665587847 : True := trivial
theorem PySem.W.Fast.tw7122117777298422637 : True := trivial
theorem PySem.W.Fast.tw2941166497355744650 : True := trivial
theorem PySem.W.Fast.tw7786478534952776481 : True := trivial
theorem PySem.W.Fast.tw15996840999008736094 : True := trivial
theorem PySem.W.Fast.tw9954075110642995363 : True := trivial
theorem PySem.W.Fast.tw2085018263298287799 : True := trivial
theorem PySem.W.Fast.tw12244605083971257772 : True := trivial
theorem PySem.W.Fast.tw466259887293607254 : True := trivial
theorem PySem.W.Fast.tw5210318495734677420 : True := trivial
theorem PySem.W.Fast.tw12369957528746003930 : True := trivial
theorem PySem.W.Fast.tw3350044849017688880 : True := trivial
theorem PySem.W.Fast.tw2814782697875686578 : True := trivial
theorem PySem.W.Fast.tw8743175267170274309 : True := trivial
theorem PySem.W.Fast.tw5425610723663625160 : True := trivial
theorem PySem.W.Fast.tw5561266646776273034 : True := trivial
theorem PySem.W.Fast.tw3045827800505399535 : True := trivial
theorem PySem.W.Fast.tw4115114169914968570 : True := trivial
theorem PySem.W.Fast.tw7140691380165481629 : True := trivial
theorem PySem.W.Fast.tw15626740906165766036 : True := trivial
theorem PySem.W.Fast.tw9559757224783744830 : True := trivial
theorem PySem.W.Fast.tw3658759925036177469 : True := trivial
theorem PySem.W.Fast.tw12696507648203041798 : True := trivial
theorem PySem.W.Fast.tw3411902836263189166 : True := trivial
theorem PySem.W.Fast.tw1800016808236382155 : True := trivial
theorem PySem.W.Fast.tw4490490111754852750 : True := trivial
theorem PySem.W.Fast.tw6847333085266015323 : True := trivial
theorem PySem.W.Fast.tw4823817941788593201 : True := trivial
theorem PySem.W.Fast.tw15523114398223169839 : True := trivial
theorem PySem.W.Fast.tw8684873796834280074 : True := trivial
theorem PySem.W.Fast.tw12877991231548678834 : True := trivial
theorem PySem.W.Fast.tw5632003155256041220 : True := trivial
theorem PySem.W.Fast.tw2923823322720418893 : True := trivial
theorem PySem.W.Fast.tw10586043853269456163 : True := trivial
theorem PySem.W.Fast.tw10512343749849299084 : True := trivial
theorem PySem.W.Fast.tw6552781426408082639 : True := trivial
theorem PySem.W.Fast.tw12118871715146504722 : True := trivial
theorem PySem.W.Fast.tw7372788750873957180 : True := trivial
theorem PySem.W.Fast.tw4034529359076923274 : True := trivial
theorem PySem.W.Fast.tw12504872519354052139 : True := trivial
theorem PySem.W.Fast.tw17194232473504335971 : True := trivial
theorem PySem.W.Fast.tw6825899201940862568 : True := trivial
theorem PySem.W.Fast.tw9345293250986726428 : True := trivial
theorem PySem.W.Fast.tw7688023961324566790 : True := trivial
theorem PySem.W.Fast.tw8013847952647292441 : True := trivial
theorem PySem.W.Fast.tw11780327235342880408 : True := trivial
theorem PySem.W.Fast.tw12376066551702498702 : True := trivial
theorem PySem.W.Fast.tw462140118835178571 : True := trivial
theorem PySem.W.Fast.tw11778961303240587192 : True := trivial
theorem PySem.W.Fast.tw5292568371776425260 : True := trivial
theorem PySem.W.Fast.tw7494456133669850568 : True := trivial
theorem PySem.W.Fast.tw1240432268260941375 : True := trivial
theorem PySem.W.Fast.tw2587845042474900376 : True := trivial
theorem PySem.W.Fast.tw10452136740380823154 : True := trivial
theorem PySem.W.Fast.tw8895363745880023529 : True := trivial
theorem PySem.W.Fast.tw9676333162883614322 : True := trivial
theorem PySem.W.Fast.tw11029130878731520025 : True := trivial
theorem PySem.W.Fast.tw16946023233952454922 : True := trivial
theorem PySem.W.Fast.tw11991898004166229549 : True := trivial
theorem PySem.W.Fast.tw8803524085604489417 : True := trivial
theorem PySem.W.Fast.tw3154198987849965082 : True := trivial
theorem PySem.W.Fast.tw3367255299648843874 : True := trivial
theorem PySem.W.Fast.tw12446247377066617071 : True := trivial
theorem PySem.W.Fast.tw10301648905024145377 : True := trivial
theorem PySem.W.Fast.tw15301048671141249913 : True := trivial
theorem PySem.W.Fast.tw16405197410415286003 : True := trivial
theorem PySem.W.Fast.tw9011801385729007433 : True := trivial
theorem PySem.W.Fast.tw345238148581747961 : True := trivial
theorem PySem.W.Fast.tw4775545648883012893 : True := trivial
theorem PySem.W.Fast.tw11304667459820910969 : True := trivial
theorem PySem.W.Fast.tw11269114998220974925 : True := trivial
theorem PySem.W.Fast.tw13040932198203283899 : True := trivial
theorem PySem.W.Fast.tw3004460039384933375 : True := trivial
theorem PySem.W.Fast.tw8957812251274913122 : True := trivial
theorem PySem.W.Fast.tw9246770309937928363 : True := trivial
theorem PySem.W.Fast.tw18386315683847679512 : True := trivial
theorem PySem.W.Fast.tw9648556815475642788 : True := trivial
theorem PySem.W.Fast.tw1706550997414086939 : True := trivial
theorem PySem.W.Fast.tw2100934217047181479 : True := trivial
theorem PySem.W.Fast.tw1326060813238155368 : True := trivial
theorem PySem.W.Fast.tw6618277643708683111 : True := trivial
theorem PySem.W.Fast.tw5395126330697110675 : True := trivial
theorem PySem.W.Fast.tw1243747448248559870 : True := trivial
theorem PySem.W.Fast.tw11805936900599076595 : True := trivial
theorem PySem.W.Fast.tw15342401895620896233 : True := trivial
theorem PySem.W.Fast.tw13722984203707706666 : True := trivial
theorem PySem.W.Fast.tw13514203849632056949 : True := trivial
theorem PySem.W.Fast.tw77390718914150963 : True := trivial
theorem PySem.W.Fast.tw3655265307631996309 : True := trivial
theorem PySem.W.Fast.tw13646510742555343500 : True := trivial
theorem PySem.W.Fast.tw9489000994471052523 : True := trivial
theorem PySem.W.Fast.tw173881178697763679 : True := trivial
theorem PySem.W.Fast.tw9623214696207171507 : True := trivial
theorem PySem.W.Fast.tw15329629767219912037 : True := trivial
theorem PySem.W.Fast.tw11307866123429252415 : True := trivial
theorem PySem.W.Fast.tw7641314221167473925 : True := trivial
theorem PySem.W.Fast.tw13367818524894425208 : True := trivial
theorem PySem.W.Fast.tw989079791347623009 : True := trivial
theorem PySem.W.Fast.tw8929023049113908922 : True := trivial
theorem PySem.W.Fast.tw9992404447299831654 : True := trivial
theorem PySem.W.Fast.tw5064267505642240599 : True := trivial
theorem PySem.W.Fast.tw15529552628554780825 : True := trivial
theorem PySem.W.Fast.tw185467054638824396 : True := trivial
theorem PySem.W.Fast.tw5809416223030453499 : True := trivial
theorem PySem.W.Fast.tw16917425161476600065 : True := trivial
theorem PySem.W.Fast.tw5120490576164793112 : True := trivial
theorem PySem.W.Fast.tw13851243964025690128 : True := trivial
theorem PySem.W.Fast.tw15441023293400557521 : True := trivial
theorem PySem.W.Fast.tw6989105255260446287 : True := trivial
theorem PySem.W.Fast.tw2384965668940083959 : True := trivial
theorem PySem.W.Fast.tw122485894277988949 : True := trivial
theorem PySem.W.Fast.tw14627986755764075371 : True := trivial
theorem PySem.W.Fast.tw1285597036067637854 : True := trivial
theorem PySem.W.Fast.tw4979139835178636554 : True := trivial
theorem PySem.W.Fast.tw382088872530360312 : True := trivial
theorem PySem.W.Fast.tw9024883337350114598 : True := trivial
theorem PySem.W.Fast.tw11452261508120900648 : True := trivial
theorem PySem.W.Fast.tw13551889066504819667 : True := trivial
theorem PySem.W.Fast.tw5349812952338992490 : True := trivial
theorem PySem.W.Fast.tw14840558879097948938 : True := trivial
theorem PySem.W.Fast.tw8270682758807349687 : True := trivial
theorem PySem.W.Fast.tw16261914545177826935 : True := trivial
theorem PySem.W.Fast.tw12498157663747208958 : True := trivial
theorem PySem.W.Fast.tw17234413945312804807 : True := trivial
theorem PySem.W.Fast.tw18194246234712803390 : True := trivial
theorem PySem.W.Fast.tw7224665257461948096 : True := trivial
theorem PySem.W.Fast.tw2659328249028295320 : True := trivial
theorem PySem.W.Fast.tw17340067218004583422 : True := trivial
theorem PySem.W.Fast.tw13721540840932296097 : True := trivial
theorem PySem.W.Fast.tw14723532906558531011 : True := trivial
theorem PySem.W.Fast.tw15007841855975125850 : True := trivial
theorem PySem.W.Fast.tw17633315724278190127 : True := trivial
theorem PySem.W.Fast.tw13172805202858290410 : True := trivial
theorem PySem.W.Fast.tw4181487645150802646 : True := trivial
theorem PySem.W.Fast.tw3363713010889983915 : True := trivial
theorem PySem.W.Fast.tw16104675285256576007 : True := trivial
theorem PySem.W.Fast.tw12769977386406615224 : True := trivial
theorem PySem.W.Fast.tw12454631165736230736 : True := trivial
theorem PySem.W.Fast.tw7385074600386643657 : True := trivial
theorem PySem.W.Fast.tw18442929733606688366 : True := trivial
theorem PySem.W.Fast.tw1563484355484170071 : True := trivial
theorem PySem.W.Fast.tw7677228214934986209 : True := trivial
theorem PySem.W.Fast.tw15895251569705237820 : True := trivial
theorem PySem.W.Fast.tw6876609214628223257 : True := trivial
theorem PySem.W.Fast.tw12496016678832300429 : True := trivial
theorem PySem.W.Fast.tw11797111996529812235 : True := trivial
theorem PySem.W.Fast.tw14887905525548636494 : True := trivial
theorem PySem.W.Fast.tw1912226340959222807 : True := trivial
theorem PySem.W.Fast.tw9441514285793269081 : True := trivial
theorem PySem.W.Fast.tw857807669141885286 : True := trivial
theorem PySem.W.Fast.tw8291168185592297593 : True := trivial
theorem PySem.W.Fast.tw7670020175120287557 : True := trivial
theorem PySem.W.Fast.tw8672778910373876494 : True := trivial
theorem PySem.W.Fast.tw11300472541924117514 : True := trivial
theorem PySem.W.Fast.tw2654981789895499422 : True := trivial
theorem PySem.W.Fast.tw17310702976873556297 : True := trivial
theorem PySem.W.Fast.tw6060076527781133369 : True := trivial
theorem PySem.W.Fast.tw9547181263310271330 : True := trivial
theorem PySem.W.Fast.tw17631006799654211663 : True := trivial
theorem PySem.W.Fast.tw13849056025524195130 : True := trivial
theorem PySem.W.Fast.tw2694216794655739594 : True := trivial
theorem PySem.W.Fast.tw11864098412142320680 : True := trivial
theorem PySem.W.Fast.tw2257783407317110136 : True := trivial
theorem PySem.W.Fast.tw3025451778033122075 : True := trivial
theorem PySem.W.Fast.tw14485433991909673319 : True := trivial
theorem PySem.W.Fast.tw6110887820972124130 : True := trivial
theorem PySem.W.Fast.tw8829863158640506552 : True := trivial
theorem PySem.W.Fast.tw14909022138831158737 : True := trivial
theorem PySem.W.Fast.tw13105605024634070758 : True := trivial
theorem PySem.W.Fast.tw2300803507953570270 : True := trivial
theorem PySem.W.Fast.tw10440089502722161816 : True := trivial
theorem PySem.W.Fast.tw12688741774892049625 : True := trivial
theorem PySem.W.Fast.tw3802209479053387206 : True := trivial
theorem PySem.W.Fast.tw3930571146967253535 : True := trivial
theorem PySem.W.Fast.tw5659197916824053469 : True := trivial
theorem PySem.W.Fast.tw16886520609696584063 : True := trivial
theorem PySem.W.Fast.tw11070063848863058985 : True := trivial
theorem PySem.W.Fast.tw3903327318881588524 : True := trivial
theorem PySem.W.Fast.tw16129721735624584884 : True := trivial
theorem PySem.W.Fast.tw12445972219372003266 : True := trivial
theorem PySem.W.Fast.tw3652142055655417926 : True := trivial
theorem PySem.W.Fast.tw17396733414107360420 : True := trivial
theorem PySem.W.Fast.tw12575330827697403154 : True := trivial
theorem PySem.W.Fast.tw6794906469034355185 : True := trivial
theorem PySem.W.Fast.tw4212867368083960847 : True := trivial
theorem PySem.W.Fast.tw4226954481892571580 : True := trivial
theorem PySem.W.Fast.tw15397684813034530278 : True := trivial
theorem PySem.W.Fast.tw4761949014116183798 : True := trivial
theorem PySem.W.Fast.tw3552318280366519331 : True := trivial
theorem PySem.W.Fast.tw6432116843788874906 : True := trivial
theorem PySem.W.Fast.tw14951533172826988516 : True := trivial
theorem PySem.W.Fast.tw14009229936091035153 : True := trivial
theorem PySem.W.Fast.tw13374077465469164652 : True := trivial
theorem PySem.W.Fast.tw5522376276295036111 : True := trivial
theorem PySem.W.Fast.tw288832741969906114 : True := trivial
theorem PySem.W.Fast.tw10259467662077387009 : True := trivial
theorem PySem.W.Fast.tw14754121653235197104 : True := trivial
theorem PySem.W.Fast.tw6576166522898632401 : True := trivial
theorem PySem.W.Fast.tw1848946557344615117 : True := trivial
theorem PySem.W.Fast.tw5432160612322931516 : True := trivial
theorem PySem.W.Fast.tw6934781514867524740 : True := trivial
theorem PySem.W.Fast.tw8790469370788659387 : True := trivial
theorem PySem.W.Fast.tw15175796939326706067 : True := trivial
theorem PySem.W.Fast.tw2499253324859317862 : True := trivial
theorem PySem.W.Fast.tw7448773787352165428 : True := trivial
theorem PySem.W.Fast.tw2818072878855377765 : True := trivial
theorem PySem.W.Fast.tw7570932012274644762 : True := trivial
theorem PySem.W.Fast.tw10999218071961298462 : True := trivial
theorem PySem.W.Fast.tw6749899564176209255 : True := trivial
theorem PySem.W.Fast.tw5170549433518591602 : True := trivial
theorem PySem.W.Fast.tw7020775396756087385 : True := trivial
theorem PySem.W.Fast.tw6644854016620166079 : True := trivial
theorem PySem.W.Fast.tw11268808560442422920 : True := trivial
theorem PySem.W.Fast.tw2678901030089044408 : True := trivial
theorem PySem.W.Fast.tw7883682563151449042 : True := trivial
theorem PySem.W.Fast.tw5144616356563732285 : True := trivial
theorem PySem.W.Fast.tw4446099002686186178 : True := trivial
theorem PySem.W.Fast.tw16746312812656147136 : True := trivial
theorem PySem.W.Fast.tw11437078765266320299 : True := trivial
theorem PySem.W.Fast.tw6504723290124875902 : True := trivial
theorem PySem.W.Fast.tw16049099327504307938 : True := trivial
theorem PySem.W.Fast.tw14646557048356836515 : True := trivial
theorem PySem.W.Fast.tw1805999964226046463 : True := trivial
theorem PySem.W.Fast.tw5146998793215462361 : True := trivial
theorem PySem.W.Fast.tw13899498700478547803 : True := trivial
theorem PySem.W.Fast.tw7008601601115541783 : True := trivial
theorem PySem.W.Fast.tw1229820309203708041 : True := trivial
theorem PySem.W.Fast.tw5077157200753542788 : True := trivial
theorem PySem.W.Fast.tw791298633059490961 : True := trivial
theorem PySem.W.Fast.tw17445738191420099847 : True := trivial
theorem PySem.W.Fast.tw1521509061598042185 : True := trivial
theorem PySem.W.Fast.tw6790771481129410983 : True := trivial
theorem PySem.W.Fast.tw12385659486755302217 : True := trivial
theorem PySem.W.Fast.tw16953772944527711896 : True := trivial
theorem PySem.W.Fast.tw537322534532576658 : True := trivial
theorem PySem.W.Fast.tw2159741971872819168 : True := trivial
theorem PySem.W.Fast.tw10988136875107639449 : True := trivial
theorem PySem.W.Fast.tw6262172739223920253 : True := trivial
theorem PySem.W.Fast.tw15382036071341854148 : True := trivial
theorem PySem.W.Fast.tw2878675479975310626 : True := trivial
theorem PySem.W.Fast.tw2485813045267749036 : True := trivial
theorem PySem.W.Fast.tw10014702193211043850 : True := trivial
theorem PySem.W.Fast.tw8476545114584621139 : True := trivial
theorem PySem.W.Fast.tw5517082502785737315 : True := trivial
theorem PySem.W.Fast.tw17943479274635573217 : True := trivial
theorem PySem.W.Fast.tw11110908597050953218 : True := trivial
theorem PySem.W.Fast.tw18184545771325214363 : True := trivial
theorem PySem.W.Fast.tw6948268524265281705 : True := trivial
theorem PySem.W.Fast.tw1864924854537114232 : True := trivial
theorem PySem.W.Fast.tw18355818309133866549 : True := trivial
theorem PySem.W.Fast.tw5021305071476081256 : True := trivial
theorem PySem.W.Fast.tw9310856777019557016 : True := trivial
theorem PySem.W.Fast.tw16440410870442215401 : True := trivial
theorem PySem.W.Fast.tw9953133403173910351 : True := trivial
theorem PySem.W.Fast.tw11774583335077911693 : True := trivial
theorem PySem.W.Fast.tw14638210719697832112 : True := trivial
theorem PySem.W.Fast.tw9643848580567926987 : True := trivial
theorem PySem.W.Fast.tw468734872074495035 : True := trivial
theorem PySem.W.Fast.tw5409188739286821912 : True := trivial
theorem PySem.W.Fast.tw1685931930812198277 : True := trivial
theorem PySem.W.Fast.tw12454825578706561039 : True := trivial
theorem PySem.W.Fast.tw14958704090666114840 : True := trivial
theorem PySem.W.Fast.tw13388454563348103833 : True := trivial
theorem PySem.W.Fast.tw3990074472955993321 : True := trivial
theorem PySem.W.Fast.tw5245430309353243442 : True := trivial
theorem PySem.W.Fast.tw1753547408198981710 : True := trivial
theorem PySem.W.Fast.tw2789986946980839044 : True := trivial
theorem PySem.W.Fast.tw8602777755314719710 : True := trivial
theorem PySem.W.Fast.tw5314488107402379542 : True := trivial
theorem PySem.W.Fast.tw4757319387347300833 : True := trivial
theorem PySem.W.Fast.tw13980372105159627806 : True := trivial
theorem PySem.W.Fast.tw16619204069464947051 : True := trivial
theorem PySem.W.Fast.tw4218631158982787395 : True := trivial
theorem PySem.W.Fast.tw7527352211323461048 : True := trivial
theorem PySem.W.Fast.tw18276135171828357158 : True := trivial
theorem PySem.W.Fast.tw10430780651331768512 : True := trivial
theorem PySem.W.Fast.tw514775987281807732 : True := trivial
theorem PySem.W.Fast.tw12663086691882799764 : True := trivial
theorem PySem.W.Fast.tw16115554408876628326 : True := trivial
theorem PySem.W.Fast.tw14549019156546862478 : True := trivial
theorem PySem.W.Fast.tw15190935924865130601 : True := trivial
theorem PySem.W.Fast.tw4489849323205866879 : True := trivial
theorem PySem.W.Fast.tw2172824049346802029 : True := trivial
theorem PySem.W.Fast.tw8954168944651233965 : True := trivial
theorem PySem.W.Fast.tw11552633927173921085 : True := trivial
theorem PySem.W.Fast.tw14152680732008429707 : True := trivial
theorem PySem.W.Fast.tw12397888348106948556 : True := trivial
theorem PySem.W.Fast.tw10374547430131068093 : True := trivial
theorem PySem.W.Fast.tw11275696489520924009 : True := trivial
theorem PySem.W.Fast.tw1152607169170886804 : True := trivial
theorem PySem.W.Fast.tw5837147702419698016 : True := trivial
theorem PySem.W.Fast.tw16482557625670573793 : True := trivial
theorem PySem.W.Fast.tw3366700155804480865 : True := trivial
theorem PySem.W.Fast.tw5247459615555476275 : True := trivial
theorem PySem.W.Fast.tw1410504191636007553 : True := trivial
theorem PySem.W.Fast.tw6315432643453244304 : True := trivial
theorem PySem.W.Fast.tw14080713075100219157 : True := trivial
theorem PySem.W.Fast.tw3795423757152215174 : True := trivial
theorem PySem.W.Fast.tw8474318776131957503 : True := trivial
theorem PySem.W.Fast.tw1192103793819396013 : True := trivial
theorem PySem.W.Fast.tw8303213986959808145 : True := trivial
theorem PySem.W.Fast.tw13915301077945491893 : True := trivial
theorem PySem.W.Fast.tw7071641913076778659 : True := trivial
theorem PySem.W.Fast.tw4859420380936730822 : True := trivial
theorem PySem.W.Fast.tw14193541731589343436 : True := trivial
theorem PySem.W.Fast.tw3576148418815338240 : True := trivial
theorem PySem.W.Fast.tw11337597913499240994 : True := trivial
theorem PySem.W.Fast.tw16653784322585822674 : True := trivial
theorem PySem.W.Fast.tw1611448191556467307 : True := trivial
theorem PySem.W.Fast.tw12143222049449053521 : True := trivial
theorem PySem.W.Fast.tw1215873227439846713 : True := trivial
theorem PySem.W.Fast.tw13258369174778394073 : True := trivial
theorem PySem.W.Fast.tw11043887008509178943 : True := trivial
theorem PySem.W.Fast.tw9540021102125628229 : True := trivial
theorem PySem.W.Fast.tw16450897266736195739 : True := trivial
theorem PySem.W.Fast.tw5876827877809360512 : True := trivial
theorem PySem.W.Fast.tw2530810457169310906 : True := trivial
theorem PySem.W.Fast.tw14901506974372662894 : True := trivial
theorem PySem.W.Fast.tw10851992130969222323 : True := trivial
theorem PySem.W.Fast.tw8593792364454407092 : True := trivial
theorem PySem.W.Fast.tw8078072268273650993 : True := trivial
theorem PySem.W.Fast.tw4049989220374730653 : True := trivial
theorem PySem.W.Fast.tw8570463646468227239 : True := trivial
theorem PySem.W.Fast.tw14258793926583406999 : True := trivial
theorem PySem.W.Fast.tw9589563632445065132 : True := trivial
theorem PySem.W.Fast.tw3436361917975622855 : True := trivial
theorem PySem.W.Fast.tw7957815141445342787 : True := trivial
theorem PySem.W.Fast.tw4660289032874684570 : True := trivial
theorem PySem.W.Fast.tw2667022672510923177 : True := trivial
theorem PySem.W.Fast.tw3448031132254430523 : True := trivial
theorem PySem.W.Fast.tw1586475019849409569 : True := trivial
theorem PySem.W.Fast.tw17661553792649396578 : True := trivial
theorem PySem.W.Fast.tw4976353306758021623 : True := trivial
theorem PySem.W.Fast.tw5141525627206394923 : True := trivial
theorem PySem.W.Fast.tw8068727557859277519 : True := trivial
theorem PySem.W.Fast.tw605842940949369426 : True := trivial
theorem PySem.W.Fast.tw9053437907545980332 : True := trivial
theorem PySem.W.Fast.tw17832777310846541395 : True := trivial
theorem PySem.W.Fast.tw904501022694142046 : True := trivial
theorem PySem.W.Fast.tw6366676530390731194 : True := trivial
theorem PySem.W.Fast.tw5097928451610578713 : True := trivial
theorem PySem.W.Fast.tw1210086959234529852 : True := trivial
theorem PySem.W.Fast.tw16278193366451478484 : True := trivial
theorem PySem.W.Fast.tw5972477539415282447 : True := trivial
theorem PySem.W.Fast.tw10281472623585491314 : True := trivial
theorem PySem.W.Fast.tw11034024364597579501 : True := trivial
theorem PySem.W.Fast.tw3845084665817975524 : True := trivial
theorem PySem.W.Fast.tw4425526868406013532 : True := trivial
theorem PySem.W.Fast.tw2712896886300844077 : True := trivial
theorem PySem.W.Fast.tw7134339782958724918 : True := trivial
theorem PySem.W.Fast.tw8871271596972573956 : True := trivial
theorem PySem.W.Fast.tw6668548531555508936 : True := trivial
theorem PySem.W.Fast.tw6450093268212230486 : True := trivial
theorem PySem.W.Fast.tw4262128216577732558 : True := trivial
theorem PySem.W.Fast.tw10509713394854191977 : True := trivial
theorem PySem.W.Fast.tw12119024318449232497 : True := trivial
theorem PySem.W.Fast.tw11581096476517985002 : True := trivial
theorem PySem.W.Fast.tw10799854287768808298 : True := trivial
theorem PySem.W.Fast.tw2915253394882739076 : True := trivial
theorem PySem.W.Fast.tw5738518112301450405 : True := trivial
theorem PySem.W.Fast.tw12407792262196408091 : True := trivial
theorem PySem.W.Fast.tw6231078875414256920 : True := trivial
theorem PySem.W.Fast.tw13801152527573236484 : True := trivial
theorem PySem.W.Fast.tw1583254165663533638 : True := trivial
theorem PySem.W.Fast.tw18028607473717460185 : True := trivial
theorem PySem.W.Fast.tw1007532213374991790 : True := trivial
theorem PySem.W.Fast.tw1949462107448556377 : True := trivial
theorem PySem.W.Fast.tw335864667591909527 : True := trivial
theorem PySem.W.Fast.tw17108873844120257395 : True := trivial
theorem PySem.W.Fast.tw13927646165070865649 : True := trivial
theorem PySem.W.Fast.tw10004077474845973367 : True := trivial
theorem PySem.W.Fast.tw12704210951491390871 : True := trivial
theorem PySem.W.Fast.tw3317865365485324588 : True := trivial
theorem PySem.W.Fast.tw12939490205944999317 : True := trivial
theorem PySem.W.Fast.tw17264399212030736585 : True := trivial
theorem PySem.W.Fast.tw13448477854114831754 : True := trivial
theorem PySem.W.Fast.tw18293773649157528935 : True := trivial
theorem PySem.W.Fast.tw16988134412509388859 : True := trivial
theorem PySem.W.Fast.tw7030172285057029745 : True := trivial
theorem PySem.W.Fast.tw312938789849989130 : True := trivial
theorem PySem.W.Fast.tw463973799173092250 : True := trivial
theorem PySem.W.Fast.tw13539950754788012849 : True := trivial
theorem PySem.W.Fast.tw4778951981853601093 : True := trivial
theorem PySem.W.Fast.tw7655447684111231983 : True := trivial
theorem PySem.W.Fast.tw13931878897897517574 : True := trivial
theorem PySem.W.Fast.tw15653779353832662992 : True := trivial
theorem PySem.W.Fast.tw4081087415268202258 : True := trivial
theorem PySem.W.Fast.tw3083198328752854627 : True := trivial
theorem PySem.W.Fast.tw14321594036742548580 : True := trivial
theorem PySem.W.Fast.tw5864868283009048890 : True := trivial
theorem PySem.W.Fast.tw7738880742321844690 : True := trivial
theorem PySem.W.Fast.tw16264210782895141864 : True := trivial
theorem PySem.W.Fast.tw16868708631340884831 : True := trivial
theorem PySem.W.Fast.tw232130274880496794 : True := trivial
theorem PySem.W.Fast.tw6541840744047480994 : True := trivial
theorem PySem.W.Fast.tw4073054107443006117 : True := trivial
theorem PySem.W.Fast.tw2428449611372952944 : True := trivial
theorem PySem.W.Fast.tw9325001673854577081 : True := trivial
theorem PySem.W.Fast.tw14705554151127243196 : True := trivial
theorem PySem.W.Fast.tw9277358357770125864 : True := trivial
theorem PySem.W.Fast.tw8503210736315812958 : True := trivial
theorem PySem.W.Fast.tw6018935897602577699 : True := trivial
theorem PySem.W.Fast.tw13143430396434142873 : True := trivial
theorem PySem.W.Fast.tw10631927572766962806 : True := trivial
theorem PySem.W.Fast.tw8590049998868326 : True := trivial
theorem PySem.W.Fast.tw15066532367273300472 : True := trivial
theorem PySem.W.Fast.tw5036008498233015603 : True := trivial
theorem PySem.W.Fast.tw1839528796347770498 : True := trivial
theorem PySem.W.Fast.tw8900168450459224691 : True := trivial
theorem PySem.W.Fast.tw1769275893008059749 : True := trivial
theorem PySem.W.Fast.tw16237304884102918028 : True := trivial
theorem PySem.W.Fast.tw11573798811222651569 : True := trivial
theorem PySem.W.Fast.tw9441916128983544541 : True := trivial
theorem PySem.W.Fast.tw15664943699016122221 : True := trivial
theorem PySem.W.Fast.tw13321530681670015900 : True := trivial
theorem PySem.W.Fast.tw10555029829989664754 : True := trivial
theorem PySem.W.Fast.tw12271907760102025364 : True := trivial
theorem PySem.W.Fast.tw10285315490973220318 : True := trivial
theorem PySem.W.Fast.tw1153029533985849056 : True := trivial
theorem PySem.W.Fast.tw15654844766773419950 : True := trivial
theorem PySem.W.Fast.tw11243084771036854817 : True := trivial
theorem PySem.W.Fast.tw7917469745942911377 : True := trivial
theorem PySem.W.Fast.tw5798672151970704204 : True := trivial
theorem PySem.W.Fast.tw17453051704729300773 : True := trivial
theorem PySem.W.Fast.tw16200958699126257690 : True := trivial
theorem PySem.W.Fast.tw13771956053320649905 : True := trivial
theorem PySem.W.Fast.tw3507513861087039827 : True := trivial
theorem PySem.W.Fast.tw13929154921286555802 : True := trivial
theorem PySem.W.Fast.tw10297849859863192536 : True := trivial
theorem PySem.W.Fast.tw6032386316329290390 : True := trivial
theorem PySem.W.Fast.tw7570356630498494965 : True := trivial
theorem PySem.W.Fast.tw11023083257857169247 : True := trivial
theorem PySem.W.Fast.tw4389260626581787784 : True := trivial
theorem PySem.W.Fast.tw2114086574683462378 : True := trivial
theorem PySem.W.Fast.tw2904508580288178467 : True := trivial
theorem PySem.W.Fast.tw4821188588724245835 : True := trivial
theorem PySem.W.Fast.tw6008449546114332336 : True := trivial
theorem PySem.W.Fast.tw8243758058294929991 : True := trivial
theorem PySem.W.Fast.tw5248827312036914752 : True := trivial
theorem PySem.W.Fast.tw11097205258061856073 : True := trivial
theorem PySem.W.Fast.tw7549068709420997995 : True := trivial
theorem PySem.W.Fast.tw10944553901199021950 : True := trivial
theorem PySem.W.Fast.tw5964385042312503278 : True := trivial
theorem PySem.W.Fast.tw6410331148858602044 : True := trivial
theorem PySem.W.Fast.tw14033292766431576617 : True := trivial
theorem PySem.W.Fast.tw4183672755895620997 : True := trivial
theorem PySem.W.Fast.tw2389462413634256781 : True := trivial
theorem PySem.W.Fast.tw808862621777891561 : True := trivial
theorem PySem.W.Fast.tw11174314250673953661 : True := trivial
theorem PySem.W.Fast.tw9845525071474049681 : True := trivial
theorem PySem.W.Fast.tw4704193564936659984 : True := trivial
theorem PySem.W.Fast.tw2885574136680917469 : True := trivial
theorem PySem.W.Fast.tw4615812352553065411 : True := trivial
theorem PySem.W.Fast.tw16352272762924332673 : True := trivial
theorem PySem.W.Fast.tw2131748807567408145 : True := trivial
theorem PySem.W.Fast.tw13758700745399603369 : True := trivial
theorem PySem.W.Fast.tw10163500988846103687 : True := trivial
theorem PySem.W.Fast.tw1303856810760260374 : True := trivial
theorem PySem.W.Fast.tw14384228582516028786 : True := trivial
theorem PySem.W.Fast.tw7773839318211303372 : True := trivial
theorem PySem.W.Fast.tw17045062806516862584 : True := trivial
theorem PySem.W.Fast.tw13740329463042955273 : True := trivial
theorem PySem.W.Fast.tw5647876551824854890 : True := trivial
theorem PySem.W.Fast.tw9551681930842997484 : True := trivial
theorem PySem.W.Fast.tw8856993468893803679 : True := trivial
theorem PySem.W.Fast.tw4421078884067361383 : True := trivial
theorem PySem.W.Fast.tw7089939494163546953 : True := trivial
theorem PySem.W.Fast.tw13291670269664199102 : True := trivial
theorem PySem.W.Fast.tw11377005925142279817 : True := trivial
theorem PySem.W.Fast.tw3943346972439131133 : True := trivial
theorem PySem.W.Fast.tw14898122756743054820 : True := trivial
theorem PySem.W.Fast.tw4468962079795971412 : True := trivial
theorem PySem.W.Fast.tw9464231331276256689 : True := trivial
theorem PySem.W.Fast.tw7034488923239560276 : True := trivial
theorem PySem.W.Fast.tw2835378743560626562 : True := trivial
theorem PySem.W.Fast.tw15475856430153105745 : True := trivial
theorem PySem.W.Fast.tw16255972830319770140 : True := trivial
theorem PySem.W.Fast.tw11084925694449367518 : True := trivial
theorem PySem.W.Fast.tw15896318050824924232 : True := trivial
theorem PySem.W.Fast.tw9533498519437310803 : True := trivial
theorem PySem.W.Fast.tw6951411340983414213 : True := trivial
theorem PySem.W.Fast.tw15121557160638601420 : True := trivial
theorem PySem.W.Fast.tw10137791723532000820 : True := trivial
theorem PySem.W.Fast.tw5733973256358022997 : True := trivial
theorem PySem.W.Fast.tw11140609411765562328 : True := trivial
theorem PySem.W.Fast.tw7767491327727446277 : True := trivial
theorem PySem.W.Fast.tw5405166279522132776 : True := trivial
theorem PySem.W.Fast.tw9288069947427015898 : True := trivial
theorem PySem.W.Fast.tw1877135446711513211 : True := trivial
theorem PySem.W.Fast.tw7854460640197625404 : True := trivial
theorem PySem.W.Fast.tw11941070097367407140 : True := trivial
theorem PySem.W.Fast.tw16453622864553671169 : True := trivial
theorem PySem.W.Fast.tw20196872843119444 : True := trivial
theorem PySem.W.Fast.tw13050185827391838369 : True := trivial
theorem PySem.W.Fast.tw16562854034198368805 : True := trivial
theorem PySem.W.Fast.tw9230231729595577238 : True := trivial
theorem PySem.W.Fast.tw16176844311065280078 : True := trivial
theorem PySem.W.Fast.tw2715060270374379229 : True := trivial
theorem PySem.W.Fast.tw12530997796711446187 : True := trivial
theorem PySem.W.Fast.tw9693374717483377475 : True := trivial
theorem PySem.W.Fast.tw9960244175741453301 : True := trivial
theorem PySem.W.Fast.tw11988997492948163590 : True := trivial
theorem PySem.W.Fast.tw4872579521467481294 : True := trivial
theorem PySem.W.Fast.tw10017158437809745204 : True := trivial
theorem PySem.W.Fast.tw173694611326111893 : True := trivial
theorem PySem.W.Fast.tw16306995479545516775 : True := trivial
theorem PySem.W.Fast.tw6144282916143792883 : True := trivial
theorem PySem.W.Fast.tw9745463638389554084 : True := trivial
theorem PySem.W.Fast.tw3737015227756490168 : True := trivial
theorem PySem.W.Fast.tw7694872503073055642 : True := trivial
theorem PySem.W.Fast.tw2689641454929588391 : True := trivial
theorem PySem.W.Fast.tw16419379038410051444 : True := trivial
theorem PySem.W.Fast.tw12430752225120665865 : True := trivial
theorem PySem.W.Fast.tw15782639570793702689 : True := trivial
theorem PySem.W.Fast.tw17833349297564227122 : True := trivial
theorem PySem.W.Fast.tw1767682955927501858 : True := trivial
theorem PySem.W.Fast.tw15703362756089501996 : True := trivial
theorem PySem.W.Fast.tw5102002911065903417 : True := trivial
theorem PySem.W.Fast.tw10636344195846842197 : True := trivial
theorem PySem.W.Fast.tw5458535305497327566 : True := trivial
theorem PySem.W.Fast.tw4396704725937453252 : True := trivial
theorem PySem.W.Fast.tw11572074359295154606 : True := trivial
theorem PySem.W.Fast.tw14128368959901941318 : True := trivial
theorem PySem.W.Fast.tw5563466700901632833 : True := trivial
theorem PySem.W.Fast.tw9170442000809044014 : True := trivial
theorem PySem.W.Fast.tw2841208440328718788 : True := trivial
theorem PySem.W.Fast.tw6485210974622206106 : True := trivial
theorem PySem.W.Fast.tw18138326404801138312 : True := trivial
theorem PySem.W.Fast.tw2149400953149475281 : True := trivial
theorem PySem.W.Fast.tw2365450445043708337 : True := trivial
theorem PySem.W.Fast.tw5291217322119914738 : True := trivial
theorem PySem.W.Fast.tw10898246046750597613 : True := trivial
theorem PySem.W.Fast.tw2095649440691182768 : True := trivial
theorem PySem.W.Fast.tw3916337459875012379 : True := trivial
theorem PySem.W.Fast.tw17329099092864963487 : True := trivial
theorem PySem.W.Fast.tw13612865641305786577 : True := trivial
theorem PySem.W.Fast.tw650979188579351483 : True := trivial
theorem PySem.W.Fast.tw18127109201232738831 : True := trivial
theorem PySem.W.Fast.tw5694440354400266 : True := trivial
theorem PySem.W.Fast.tw14972710411766602641 : True := trivial
theorem PySem.W.Fast.tw4199373977484317610 : True := trivial
theorem PySem.W.Fast.tw16449991877672936731 : True := trivial
theorem PySem.W.Fast.tw4803547211694343267 : True := trivial
theorem PySem.W.Fast.tw17787273784953334944 : True := trivial
theorem PySem.W.Fast.tw5520563365568570380 : True := trivial
theorem PySem.W.Fast.tw3727034066631098773 : True := trivial
theorem PySem.W.Fast.tw13438699571605982422 : True := trivial
theorem PySem.W.Fast.tw10560542174522224425 : True := trivial
theorem PySem.W.Fast.tw11050500410373867425 : True := trivial
theorem PySem.W.Fast.tw1752667690909977100 : True := trivial
theorem PySem.W.Fast.tw11378049981469272518 : True := trivial
theorem PySem.W.Fast.tw7468423247959550593 : True := trivial
theorem PySem.W.Fast.tw14677031226873638221 : True := trivial
theorem PySem.W.Fast.tw17331643374256230600 : True := trivial
theorem PySem.W.Fast.tw3718793626995043185 : True := trivial
theorem PySem.W.Fast.tw4401941881076767328 : True := trivial
theorem PySem.W.Fast.tw6193595215987928716 : True := trivial
theorem PySem.W.Fast.tw4162038253083942195 : True := trivial
theorem PySem.W.Fast.tw10041008871822909656 : True := trivial
theorem PySem.W.Fast.tw5319275437068909656 : True := trivial
theorem PySem.W.Fast.tw10900676796721967314 : True := trivial
theorem PySem.W.Fast.tw9264168036708337415 : True := trivial
theorem PySem.W.Fast.tw2409034240290200888 : True := trivial
theorem PySem.W.Fast.tw17058438734549738627 : True := trivial
theorem PySem.W.Fast.tw16356763573094670763 : True := trivial
theorem PySem.W.Fast.tw17562342927357820737 : True := trivial
theorem PySem.W.Fast.tw10910992967663415653 : True := trivial
theorem PySem.W.Fast.tw8786081012088578642 : True := trivial
theorem PySem.W.Fast.tw15062722824253786195 : True := trivial
theorem PySem.W.Fast.tw12017860261131644460 : True := trivial
theorem PySem.W.Fast.tw4525344979447654863 : True := trivial
theorem PySem.W.Fast.tw7536119508359784262 : True := trivial
theorem PySem.W.Fast.tw13710195573444319444 : True := trivial
theorem PySem.W.Fast.tw14459968013360887328 : True := trivial
theorem PySem.W.Fast.tw2678403705474376609 : True := trivial
theorem PySem.W.Fast.tw7400113101181997429 : True := trivial
theorem PySem.W.Fast.tw17935074638786024766 : True := trivial
theorem PySem.W.Fast.tw7162786012481943178 : True := trivial
theorem PySem.W.Fast.tw18034694745244432333 : True := trivial
theorem PySem.W.Fast.tw5731854811848699096 : True := trivial
theorem PySem.W.Fast.tw13354517636160508491 : True := trivial
theorem PySem.W.Fast.tw7239470419512419054 : True := trivial
theorem PySem.W.Fast.tw1234655703789903776 : True := trivial
theorem PySem.W.Fast.tw13203840073793567406 : True := trivial
theorem PySem.W.Fast.tw6526007535574602641 : True := trivial
theorem PySem.W.Fast.tw9648047398855192909 : True := trivial
theorem PySem.W.Fast.tw12901057851526060424 : True := trivial
theorem PySem.W.Fast.tw16379795808122156878 : True := trivial
theorem PySem.W.Fast.tw13362736323815282233 : True := trivial
theorem PySem.W.Fast.tw6840921015042630672 : True := trivial
theorem PySem.W.Fast.tw7167220283726780803 : True := trivial
theorem PySem.W.Fast.tw2775670276973468357 : True := trivial
theorem PySem.W.Fast.tw8066305962082461998 : True := trivial
theorem PySem.W.Fast.tw6880559665022743113 : True := trivial
theorem PySem.W.Fast.tw8673631088846499992 : True := trivial
theorem PySem.W.Fast.tw17880603360468125624 : True := trivial
theorem PySem.W.Fast.tw17331570220812518709 : True := trivial
theorem PySem.W.Fast.tw16177396508051711264 : True := trivial
theorem PySem.W.Fast.tw7403812526382655929 : True := trivial
theorem PySem.W.Fast.tw14651057277512359669 : True := trivial
theorem PySem.W.Fast.tw5447638662491257296 : True := trivial
theorem PySem.W.Fast.tw2097049658561276713 : True := trivial
theorem PySem.W.Fast.tw4524881991960501458 : True := trivial
theorem PySem.W.Fast.tw11223746380110230152 : True := trivial
theorem PySem.W.Fast.tw8938964006629524764 : True := trivial
theorem PySem.W.Fast.tw13347578370432895627 : True := trivial
theorem PySem.W.Fast.tw17169480584158582719 : True := trivial
theorem PySem.W.Fast.tw578144499788278987 : True := trivial
theorem PySem.W.Fast.tw16952962169122666126 : True := trivial
theorem PySem.W.Fast.tw15700663431193825363 : True := trivial
theorem PySem.W.Fast.tw6549862857440056450 : True := trivial
theorem PySem.W.Fast.tw1468139444385331181 : True := trivial
theorem PySem.W.Fast.tw2957377509577379032 : True := trivial
theorem PySem.W.Fast.tw10698980658938704721 : True := trivial
theorem PySem.W.Fast.tw6679213972615149724 : True := trivial
theorem PySem.W.Fast.tw9301115385435821029 : True := trivial
theorem PySem.W.Fast.tw10242110601014186564 : True := trivial
theorem PySem.W.Fast.tw17935282708908829083 : True := trivial
theorem PySem.W.Fast.tw16629107233609234138 : True := trivial
theorem PySem.W.Fast.tw2995211907335749990 : True := trivial
theorem PySem.W.Fast.tw8265382265934346366 : True := trivial
theorem PySem.W.Fast.tw8514859753741264685 : True := trivial
theorem PySem.W.Fast.tw1584489238387218457 : True := trivial
theorem PySem.W.Fast.tw17275978516362778010 : True := trivial
theorem PySem.W.Fast.tw10805303586809421685 : True := trivial
theorem PySem.W.Fast.tw15745795127618421195 : True := trivial
theorem PySem.W.Fast.tw10818906812528114027 : True := trivial
theorem PySem.W.Fast.tw12256961362626177615 : True := trivial
theorem PySem.W.Fast.tw1888192692915905223 : True := trivial
theorem PySem.W.Fast.tw14773543911043585238 : True := trivial
theorem PySem.W.Fast.tw5747329946974337903 : True := trivial
theorem PySem.W.Fast.tw7973184376370025055 : True := trivial
theorem PySem.W.Fast.tw12514314952348243743 : True := trivial
theorem PySem.W.Fast.tw2786235899944433775 : True := trivial
theorem PySem.W.Fast.tw12762531802347692514 : True := trivial
theorem PySem.W.Fast.tw11557792001169899490 : True := trivial
theorem PySem.W.Fast.tw13613341026744926534 : True := trivial
theorem PySem.W.Fast.tw12573695972099186994 : True := trivial
theorem PySem.W.Fast.tw18205130565702310173 : True := trivial
theorem PySem.W.Fast.tw14378990838464272152 : True := trivial
theorem PySem.W.Fast.tw12063614413094237653 : True := trivial
theorem PySem.W.Fast.tw5955089130280065366 : True := trivial
theorem PySem.W.Fast.tw7126831358102555164 : True := trivial
theorem PySem.W.Fast.tw16079018083110875499 : True := trivial
theorem PySem.W.Fast.tw15130267660738542337 : True := trivial
theorem PySem.W.Fast.tw15220170361826088708 : True := trivial
theorem PySem.W.Fast.tw4858867796318009225 : True := trivial
theorem PySem.W.Fast.tw13131453037251109396 : True := trivial
theorem PySem.W.Fast.tw14478489176193350296 : True := trivial
theorem PySem.W.Fast.tw1027009924324743619 : True := trivial
theorem PySem.W.Fast.tw10661087847538974034 : True := trivial
theorem PySem.W.Fast.tw6025256385020422244 : True := trivial
theorem PySem.W.Fast.tw7999417825610987667 : True := trivial
theorem PySem.W.Fast.tw16840261958370587947 : True := trivial
theorem PySem.W.Fast.tw17868305795732178602 : True := trivial
theorem PySem.W.Fast.tw9839418596666903674 : True := trivial
theorem PySem.W.Fast.tw9511995511987791331 : True := trivial
theorem PySem.W.Fast.tw1584969454446583245 : True := trivial
theorem PySem.W.Fast.tw12865433835503004983 : True := trivial
theorem PySem.W.Fast.tw4711326151723249541 : True := trivial
theorem PySem.W.Fast.tw8177947349847140755 : True := trivial
theorem PySem.W.Fast.tw8718099590932581456 : True := trivial
theorem PySem.W.Fast.tw17352999913356030168 : True := trivial
theorem PySem.W.Fast.tw387037659057702419 : True := trivial
theorem PySem.W.Fast.tw15505731713067055846 : True := trivial
theorem PySem.W.Fast.tw4013637451070393665 : True := trivial
theorem PySem.W.Fast.tw10685775599436619295 : True := trivial
theorem PySem.W.Fast.tw12398466052500337759 : True := trivial
theorem PySem.W.Fast.tw12649162587168578423 : True := trivial
theorem PySem.W.Fast.tw3459523160282169809 : True := trivial
theorem PySem.W.Fast.tw8944444167694452589 : True := trivial
theorem PySem.W.Fast.tw9639908749440757510 : True := trivial
theorem PySem.W.Fast.tw16035446969250505137 : True := trivial
theorem PySem.W.Fast.tw17596745427609125996 : True := trivial
theorem PySem.W.Fast.tw11455970488256048754 : True := trivial
theorem PySem.W.Fast.tw11704884932409562319 : True := trivial
theorem PySem.W.Fast.tw17016723781743666966 : True := trivial
theorem PySem.W.Fast.tw3392558692697280280 : True := trivial
theorem PySem.W.Fast.tw12844406274068366166 : True := trivial
theorem PySem.W.Fast.tw17472151475665502633 : True := trivial
theorem PySem.W.Fast.tw8627324404349884053 : True := trivial
theorem PySem.W.Fast.tw12834066099678329224 : True := trivial
theorem PySem.W.Fast.tw5125985259566466791 : True := trivial
theorem PySem.W.Fast.tw17796421313308251757 : True := trivial
theorem PySem.W.Fast.tw13651011054370708431 : True := trivial
theorem PySem.W.Fast.tw11654278065258730604 : True := trivial
theorem PySem.W.Fast.tw1462934147533104486 : True := trivial
theorem PySem.W.Fast.tw3272828729250022907 : True := trivial
theorem PySem.W.Fast.tw11467374266089697043 : True := trivial
theorem PySem.W.Fast.tw11701018673716206441 : True := trivial
theorem PySem.W.Fast.tw13590027776430285159 : True := trivial
theorem PySem.W.Fast.tw14505164967039522584 : True := trivial
theorem PySem.W.Fast.tw6197853434794062634 : True := trivial
theorem PySem.W.Fast.tw4383644073534114891 : True := trivial
theorem PySem.W.Fast.tw7791643018049811764 : True := trivial
theorem PySem.W.Fast.tw4169294354746393901 : True := trivial
theorem PySem.W.Fast.tw325799478671056300 : True := trivial
theorem PySem.W.Fast.tw9081592225240647938 : True := trivial
theorem PySem.W.Fast.tw14540005443592816602 : True := trivial
theorem PySem.W.Fast.tw1765924168258847245 : True := trivial
theorem PySem.W.Fast.tw13862388545087249511 : True := trivial
theorem PySem.W.Fast.tw2929864468367909860 : True := trivial
theorem PySem.W.Fast.tw3861265264603826255 : True := trivial
theorem PySem.W.Fast.tw6238746855095000072 : True := trivial
theorem PySem.W.Fast.tw10255530504858047955 : True := trivial
theorem PySem.W.Fast.tw15720008729241267080 : True := trivial
theorem PySem.W.Fast.tw5114191114266744865 : True := trivial
theorem PySem.W.Fast.tw3563746088989823327 : True := trivial
theorem PySem.W.Fast.tw2304479152496379065 : True := trivial
theorem PySem.W.Fast.tw1484207078842457841 : True := trivial
theorem PySem.W.Fast.tw6951713415449256834 : True := trivial
theorem PySem.W.Fast.tw8405236285883160996 : True := trivial
theorem PySem.W.Fast.tw15104896240582687083 : True := trivial
theorem PySem.W.Fast.tw2396769342806491059 : True := trivial
theorem PySem.W.Fast.tw1599884868810964574 : True := trivial
theorem PySem.W.Fast.tw18078049369362442561 : True := trivial
theorem PySem.W.Fast.tw17672163584143783704 : True := trivial
theorem PySem.W.Fast.tw10994130080117784629 : True := trivial
theorem PySem.W.Fast.tw9403726817514084091 : True := trivial
theorem PySem.W.Fast.tw6561543447604834858 : True := trivial
theorem PySem.W.Fast.tw13909347580432089736 : True := trivial
theorem PySem.W.Fast.tw7500917843833238379 : True := trivial
theorem PySem.W.Fast.tw16548108105819548152 : True := trivial
theorem PySem.W.Fast.tw10309339145405961291 : True := trivial
theorem PySem.W.Fast.tw10544376667509065900 : True := trivial
theorem PySem.W.Fast.tw14751661213289361308 : True := trivial
theorem PySem.W.Fast.tw8921058043300882102 : True := trivial
theorem PySem.W.Fast.tw4857373376640539017 : True := trivial
theorem PySem.W.Fast.tw5673115871879146274 : True := trivial
theorem PySem.W.Fast.tw1999325218764605411 : True := trivial
theorem PySem.W.Fast.tw17354086001434538641 : True := trivial
theorem PySem.W.Fast.tw15842282305084109816 : True := trivial
theorem PySem.W.Fast.tw18161473077075065550 : True := trivial
theorem PySem.W.Fast.tw17580801592107954191 : True := trivial
theorem PySem.W.Fast.tw8175657301131365826 : True := trivial
theorem PySem.W.Fast.tw12069580089407228162 : True := trivial
theorem PySem.W.Fast.tw16159559839981678022 : True := trivial
theorem PySem.W.Fast.tw13041261372735948256 : True := trivial
theorem PySem.W.Fast.tw12499897953907857373 : True := trivial
theorem PySem.W.Fast.tw3850016017389507698 : True := trivial
theorem PySem.W.Fast.tw9597446461444045393 : True := trivial
theorem PySem.W.Fast.tw1513157756035690333 : True := trivial
theorem PySem.W.Fast.tw3189486003054668003 : True := trivial
theorem PySem.W.Fast.tw2019106118372207986 : True := trivial
theorem PySem.W.Fast.tw13288430563948027197 : True := trivial
theorem PySem.W.Fast.tw6023292602480419858 : True := trivial
theorem PySem.W.Fast.tw5409642482741895729 : True := trivial
theorem PySem.W.Fast.tw14470571397597399413 : True := trivial
theorem PySem.W.Fast.tw13055298232359888882 : True := trivial
theorem PySem.W.Fast.tw3188758063523228981 : True := trivial
theorem PySem.W.Fast.tw10551582866392294485 : True := trivial
theorem PySem.W.Fast.tw15033246223790201240 : True := trivial
theorem PySem.W.Fast.tw17936439367100535836 : True := trivial
theorem PySem.W.Fast.tw15436743185980879656 : True := trivial
theorem PySem.W.Fast.tw7713027500855783986 : True := trivial
theorem PySem.W.Fast.tw3008427944242276698 : True := trivial
theorem PySem.W.Fast.tw4311357846885673833 : True := trivial
theorem PySem.W.Fast.tw561332468240215892 : True := trivial
theorem PySem.W.Fast.tw473111690600151668 : True := trivial
theorem PySem.W.Fast.tw17955104701314879810 : True := trivial
theorem PySem.W.Fast.tw3323345374567790916 : True := trivial
theorem PySem.W.Fast.tw6505323410446554255 : True := trivial
theorem PySem.W.Fast.tw4617071956696470936 : True := trivial
theorem PySem.W.Fast.tw6633758966838768501 : True := trivial
theorem PySem.W.Fast.tw101002485812170871 : True := trivial
theorem PySem.W.Fast.tw14254759630920712784 : True := trivial
theorem PySem.W.Fast.tw13034022797943995207 : True := trivial
theorem PySem.W.Fast.tw11389249766837946937 : True := trivial
theorem PySem.W.Fast.tw14676639036995506875 : True := trivial
theorem PySem.W.Fast.tw18396582681841935856 : True := trivial
theorem PySem.W.Fast.tw11584649472922162606 : True := trivial
theorem PySem.W.Fast.tw5105332908953289188 : True := trivial
theorem PySem.W.Fast.tw127969935114947926 : True := trivial
theorem PySem.W.Fast.tw10902772051129548256 : True := trivial
theorem PySem.W.Fast.tw12500165618008777166 : True := trivial
theorem PySem.W.Fast.tw12949501858917314715 : True := trivial
theorem PySem.W.Fast.tw16313330652429332137 : True := trivial
theorem PySem.W.Fast.tw11214534150861862535 : True := trivial
theorem PySem.W.Fast.tw14225139234261473153 : True := trivial
theorem PySem.W.Fast.tw4270965661816555008 : True := trivial
theorem PySem.W.Fast.tw14691619438752028861 : True := trivial
theorem PySem.W.Fast.tw12734040741618460111 : True := trivial
theorem PySem.W.Fast.tw6066400722200760646 : True := trivial
theorem PySem.W.Fast.tw11668667234303747623 : True := trivial
theorem PySem.W.Fast.tw15411572154980348992 : True := trivial
theorem PySem.W.Fast.tw1119684004083742412 : True := trivial
theorem PySem.W.Fast.tw6555394307141866872 : True := trivial
theorem PySem.W.Fast.tw7635834270147880739 : True := trivial
theorem PySem.W.Fast.tw9958874399106076970 : True := trivial
theorem PySem.W.Fast.tw11376546921644260366 : True := trivial
theorem PySem.W.Fast.tw8390416481799778637 : True := trivial
theorem PySem.W.Fast.tw1917882984874781074 : True := trivial
theorem PySem.W.Fast.tw15479221259813273115 : True := trivial
theorem PySem.W.Fast.tw14827630618398700716 : True := trivial
theorem PySem.W.Fast.tw13045359184882595967 : True := trivial
theorem PySem.W.Fast.tw13407118477281221577 : True := trivial
theorem PySem.W.Fast.tw15050956172976646812 : True := trivial
theorem PySem.W.Fast.tw5577975695037595627 : True := trivial
theorem PySem.W.Fast.tw7683864144077909488 : True := trivial
theorem PySem.W.Fast.tw12868794196660329720 : True := trivial
theorem PySem.W.Fast.tw11854585590519521932 : True := trivial
theorem PySem.W.Fast.tw6841149448424067354 : True := trivial
theorem PySem.W.Fast.tw11819387575382896553 : True := trivial
theorem PySem.W.Fast.tw16430966620360961363 : True := trivial
theorem PySem.W.Fast.tw765752960867223501 : True := trivial
theorem PySem.W.Fast.tw2833975846853402432 : True := trivial
theorem PySem.W.Fast.tw4369385390557192373 : True := trivial
theorem PySem.W.Fast.tw4598728991083209681 : True := trivial
theorem PySem.W.Fast.tw16353989751262837493 : True := trivial
theorem PySem.W.Fast.tw10174118246075414287 : True := trivial
theorem PySem.W.Fast.tw6043957527843451725 : True := trivial
theorem PySem.W.Fast.tw13193483632840024117 : True := trivial
theorem PySem.W.Fast.tw4258997795320708057 : True := trivial
theorem PySem.W.Fast.tw3204455803732298717 : True := trivial
theorem PySem.W.Fast.tw12121254261796703319 : True := trivial
theorem PySem.W.Fast.tw792005816039472371 : True := trivial
theorem PySem.W.Fast.tw17679223793706911423 : True := trivial
theorem PySem.W.Fast.tw1162016835651746804 : True := trivial
theorem PySem.W.Fast.tw11579834146038597849 : True := trivial
theorem PySem.W.Fast.tw7836980629303971219 : True := trivial
theorem PySem.W.Fast.tw4618420721094342242 : True := trivial
theorem PySem.W.Fast.tw7348694234505416718 : True := trivial
theorem PySem.W.Fast.tw3793574760578690457 : True := trivial
theorem PySem.W.Fast.tw5455336696822617810 : True := trivial
theorem PySem.W.Fast.tw16299713989260436586 : True := trivial
theorem PySem.W.Fast.tw16400887994020754239 : True := trivial
theorem PySem.W.Fast.tw7385959795680959981 : True := trivial
theorem PySem.W.Fast.tw15721188040051115636 : True := trivial
theorem PySem.W.Fast.tw16312967849761353885 : True := trivial
theorem PySem.W.Fast.tw8217979054657860315 : True := trivial
theorem PySem.W.Fast.tw18172005931866389241 : True := trivial
theorem PySem.W.Fast.tw17145490899719158928 : True := trivial
theorem PySem.W.Fast.tw7957910369646009477 : True := trivial
theorem PySem.W.Fast.tw230679493149428910 : True := trivial
theorem PySem.W.Fast.tw12117249639192036173 : True := trivial
theorem PySem.W.Fast.tw13779424748235785218 : True := trivial
theorem PySem.W.Fast.tw1351482422149711436 : True := trivial
theorem PySem.W.Fast.tw2939007015410123769 : True := trivial
theorem PySem.W.Fast.tw12729231404057448119 : True := trivial
theorem PySem.W.Fast.tw6126418009246732642 : True := trivial
theorem PySem.W.Fast.tw17979398657903715042 : True := trivial
theorem PySem.W.Fast.tw7359599767704879094 : True := trivial
theorem PySem.W.Fast.tw2752075104809208230 : True := trivial
theorem PySem.W.Fast.tw2479186427040350395 : True := trivial
theorem PySem.W.Fast.tw9410113148204958693 : True := trivial
theorem PySem.W.Fast.tw10227345210440189421 : True := trivial
theorem PySem.W.Fast.tw12662458836300938280 : True := trivial
theorem PySem.W.Fast.tw13451318724084081689 : True := trivial
theorem PySem.W.Fast.tw11471164482683567387 : True := trivial
theorem PySem.W.Fast.tw5554193435644130477 : True := trivial
theorem PySem.W.Fast.tw2422882874636421371 : True := trivial
theorem PySem.W.Fast.tw66291185164669339 : True := trivial
theorem PySem.W.Fast.tw30213450992299168 : True := trivial
theorem PySem.W.Fast.tw10626418500634042140 : True := trivial
theorem PySem.W.Fast.tw3416143339783251359 : True := trivial
theorem PySem.W.Fast.tw6692581501197381201 : True := trivial
theorem PySem.W.Fast.tw5274579210550159741 : True := trivial
theorem PySem.W.Fast.tw12273152924846164573 : True := trivial
theorem PySem.W.Fast.tw5274037342904960289 : True := trivial
theorem PySem.W.Fast.tw2312988117380565259 : True := trivial
theorem PySem.W.Fast.tw7479172379344889243 : True := trivial
theorem PySem.W.Fast.tw10287780608853516403 : True := trivial
theorem PySem.W.Fast.tw684534318969518072 : True := trivial
theorem PySem.W.Fast.tw3946452970159234036 : True := trivial
theorem PySem.W.Fast.tw15403463876049459483 : True := trivial
theorem PySem.W.Fast.tw8060924666388290737 : True := trivial
theorem PySem.W.Fast.tw8091507377412336178 : True := trivial
theorem PySem.W.Fast.tw8595028295408402164 : True := trivial
theorem PySem.W.Fast.tw6899652688776986181 : True := trivial
theorem PySem.W.Fast.tw10619538560842970977 : True := trivial
theorem PySem.W.Fast.tw13656712824403625005 : True := trivial
theorem PySem.W.Fast.tw17314786641178577273 : True := trivial
theorem PySem.W.Fast.tw2055738240012056178 : True := trivial
theorem PySem.W.Fast.tw1950220666488748833 : True := trivial
theorem PySem.W.Fast.tw12780020119488492128 : True := trivial
theorem PySem.W.Fast.tw9955826474315992980 : True := trivial
theorem PySem.W.Fast.tw11321093539866211630 : True := trivial
theorem PySem.W.Fast.tw3745065532066439224 : True := trivial
theorem PySem.W.Fast.tw9957140851575469749 : True := trivial
theorem PySem.W.Fast.tw96758704680104726 : True := trivial
theorem PySem.W.Fast.tw4307827503901788187 : True := trivial
theorem PySem.W.Fast.tw3937448935088796465 : True := trivial
theorem PySem.W.Fast.tw9402079706417614860 : True := trivial
theorem PySem.W.Fast.tw14773459456741647830 : True := trivial
theorem PySem.W.Fast.tw11316716644560422887 : True := trivial
theorem PySem.W.Fast.tw14880394804676926816 : True := trivial
theorem PySem.W.Fast.tw2922074003518921840 : True := trivial
theorem PySem.W.Fast.tw17871699399079795350 : True := trivial
theorem PySem.W.Fast.tw16564377643069193061 : True := trivial
theorem PySem.W.Fast.tw7771210158030818225 : True := trivial
theorem PySem.W.Fast.tw6128282540213160511 : True := trivial
theorem PySem.W.Fast.tw9511540484245453872 : True := trivial
theorem PySem.W.Fast.tw12952002023235525527 : True := trivial
theorem PySem.W.Fast.tw18366048309253595390 : True := trivial
theorem PySem.W.Fast.tw8785636692836663067 : True := trivial
theorem PySem.W.Fast.tw5747011148111675017 : True := trivial
theorem PySem.W.Fast.tw8084423609556284169 : True := trivial
theorem PySem.W.Fast.tw11865227501131055799 : True := trivial
theorem PySem.W.Fast.tw5638178382569394861 : True := trivial
theorem PySem.W.Fast.tw1021592519703009413 : True := trivial
theorem PySem.W.Fast.tw11630036259754539263 : True := trivial
theorem PySem.W.Fast.tw11366701598589260716 : True := trivial
theorem PySem.W.Fast.tw6311853816544829519 : True := trivial
theorem PySem.W.Fast.tw8108532128089717438 : True := trivial
theorem PySem.W.Fast.tw1841130531656006965 : True := trivial
theorem PySem.W.Fast.tw4192810896646078482 : True := trivial
theorem PySem.W.Fast.tw2646126766001036913 : True := trivial
theorem PySem.W.Fast.tw14288612613681746804 : True := trivial
theorem PySem.W.Fast.tw5266383063663969544 : True := trivial
theorem PySem.W.Fast.tw5433220728852009927 : True := trivial
theorem PySem.W.Fast.tw12489355735538307362 : True := trivial
theorem PySem.W.Fast.tw12605910641652126653 : True := trivial
theorem PySem.W.Fast.tw791875738683666452 : True := trivial
theorem PySem.W.Fast.tw7841100118307992563 : True := trivial
theorem PySem.W.Fast.tw11737305266183160655 : True := trivial
theorem PySem.W.Fast.tw8846315035184373614 : True := trivial
theorem PySem.W.Fast.tw7064447675135590376 : True := trivial
theorem PySem.W.Fast.tw5530500945898039620 : True := trivial
theorem PySem.W.Fast.tw1661803309030715967 : True := trivial
theorem PySem.W.Fast.tw8936589655684702817 : True := trivial
theorem PySem.W.Fast.tw3202750486240148332 : True := trivial
theorem PySem.W.Fast.tw9943379889059314966 : True := trivial
theorem PySem.W.Fast.tw8476259600059411506 : True := trivial
theorem PySem.W.Fast.tw2880021488558089796 : True := trivial
theorem PySem.W.Fast.tw8580929759161791684 : True := trivial
theorem PySem.W.Fast.tw3238361286580916507 : True := trivial
theorem PySem.W.Fast.tw18163490626259691265 : True := trivial
theorem PySem.W.Fast.tw10633053616185068390 : True := trivial
theorem PySem.W.Fast.tw7011440304928920740 : True := trivial
theorem PySem.W.Fast.tw16081156467927197216 : True := trivial
theorem PySem.W.Fast.tw17558344390976575504 : True := trivial
theorem PySem.W.Fast.tw15999867213415333739 : True := trivial
theorem PySem.W.Fast.tw9140809709719924944 : True := trivial
theorem PySem.W.Fast.tw309129107251740437 : True := trivial
theorem PySem.W.Fast.tw8221136792034870860 : True := trivial
theorem PySem.W.Fast.tw13153253116650265640 : True := trivial
theorem PySem.W.Fast.tw12981102197519495404 : True := trivial
theorem PySem.W.Fast.tw17866499627695384468 : True := trivial
theorem PySem.W.Fast.tw14690161931467165222 : True := trivial
theorem PySem.W.Fast.tw3471074007868540992 : True := trivial
theorem PySem.W.Fast.tw17812965880785315540 : True := trivial
theorem PySem.W.Fast.tw3316208126924555854 : True := trivial
theorem PySem.W.Fast.tw2016806727892363018 : True := trivial
theorem PySem.W.Fast.tw14112323271876038326 : True := trivial
theorem PySem.W.Fast.tw2636264955206566943 : True := trivial
theorem PySem.W.Fast.tw12803865077312854913 : True := trivial
theorem PySem.W.Fast.tw2337825759666874160 : True := trivial
theorem PySem.W.Fast.tw13962388891034967210 : True := trivial
theorem PySem.W.Fast.tw15594156286377616566 : True := trivial
theorem PySem.W.Fast.tw8372333177610984715 : True := trivial
theorem PySem.W.Fast.tw1830471569254974383 : True := trivial
theorem PySem.W.Fast.tw6951463502538614159 : True := trivial
theorem PySem.W.Fast.tw12205814373046450936 : True := trivial
theorem PySem.W.Fast.tw11692961475155010216 : True := trivial
theorem PySem.W.Fast.tw6873595013875030038 : True := trivial
theorem PySem.W.Fast.tw7730975562639703755 : True := trivial
theorem PySem.W.Fast.tw7904410370780301953 : True := trivial
theorem PySem.W.Fast.tw10346477242787186978 : True := trivial
theorem PySem.W.Fast.tw16658961497791468928 : True := trivial
theorem PySem.W.Fast.tw15288182518784447831 : True := trivial
theorem PySem.W.Fast.tw11877195907863741804 : True := trivial
theorem PySem.W.Fast.tw13196087181958334110 : True := trivial
theorem PySem.W.Fast.tw8024411314362276225 : True := trivial
theorem PySem.W.Fast.tw17594537403681265779 : True := trivial
theorem PySem.W.Fast.tw18073945403248827163 : True := trivial
theorem PySem.W.Fast.tw8256778903033839526 : True := trivial
theorem PySem.W.Fast.tw2412091425130559687 : True := trivial
theorem PySem.W.Fast.tw9384630729093271273 : True := trivial
theorem PySem.W.Fast.tw10392375311034731222 : True := trivial
theorem PySem.W.Fast.tw763821473800222762 : True := trivial
theorem PySem.W.Fast.tw15856082212547887187 : True := trivial
theorem PySem.W.Fast.tw7471084654066228973 : True := trivial
theorem PySem.W.Fast.tw8784751832786269724 : True := trivial
theorem PySem.W.Fast.tw16074824100007250209 : True := trivial
theorem PySem.W.Fast.tw5848078146854286576 : True := trivial
theorem PySem.W.Fast.tw16988672356340093456 : True := trivial
theorem PySem.W.Fast.tw627049984692920850 : True := trivial
theorem PySem.W.Fast.tw7082759881108169333 : True := trivial
theorem PySem.W.Fast.tw1987116825216803920 : True := trivial
theorem PySem.W.Fast.tw9004725715059616089 : True := trivial
theorem PySem.W.Fast.tw12199062760213256631 : True := trivial
theorem PySem.W.Fast.tw10208399847702898683 : True := trivial
theorem PySem.W.Fast.tw10709963874755678791 : True := trivial
theorem PySem.W.Fast.tw13826856458092398914 : True := trivial
theorem PySem.W.Fast.tw10058569424475306977 : True := trivial
theorem PySem.W.Fast.tw18038919871101353928 : True := trivial
theorem PySem.W.Fast.tw13974046582273964434 : True := trivial
theorem PySem.W.Fast.tw15473960244246439333 : True := trivial
theorem PySem.W.Fast.tw8134642485966823710 : True := trivial
theorem PySem.W.Fast.tw7839321833396651986 : True := trivial
theorem PySem.W.Fast.tw5406565520896867891 : True := trivial
theorem PySem.W.Fast.tw402765618933426153 : True := trivial
theorem PySem.W.Fast.tw4381412480645071286 : True := trivial
theorem PySem.W.Fast.tw5286774721557411501 : True := trivial
theorem PySem.W.Fast.tw12546924202239067742 : True := trivial
theorem PySem.W.Fast.tw3631326864308306452 : True := trivial
theorem PySem.W.Fast.tw11999075501393862323 : True := trivial
theorem PySem.W.Fast.tw12497175252978602931 : True := trivial
theorem PySem.W.Fast.tw761138394715623110 : True := trivial
theorem PySem.W.Fast.tw15926378773263928503 : True := trivial
theorem PySem.W.Fast.tw7343509151390381072 : True := trivial
theorem PySem.W.Fast.tw272729624458916689 : True := trivial
theorem PySem.W.Fast.tw316642329657451712 : True := trivial
theorem PySem.W.Fast.tw14349533610154273978 : True := trivial
theorem PySem.W.Fast.tw4625747247888856575 : True := trivial
theorem PySem.W.Fast.tw4904344166337360265 : True := trivial
theorem PySem.W.Fast.tw12913926464781838251 : True := trivial
theorem PySem.W.Fast.tw12573858801470115655 : True := trivial
theorem PySem.W.Fast.tw14677057657849609436 : True := trivial
theorem PySem.W.Fast.tw1576333629050748100 : True := trivial
theorem PySem.W.Fast.tw7560433562010985439 : True := trivial
theorem PySem.W.Fast.tw2046943106482080177 : True := trivial
theorem PySem.W.Fast.tw2048578315538763834 : True := trivial
theorem PySem.W.Fast.tw6292077434815387846 : True := trivial
theorem PySem.W.Fast.tw17974360233846008583 : True := trivial
theorem PySem.W.Fast.tw11029280309475377321 : True := trivial
theorem PySem.W.Fast.tw13711367964820113309 : True := trivial
theorem PySem.W.Fast.tw7998939184249999978 : True := trivial
theorem PySem.W.Fast.tw12540433546100779305 : True := trivial
theorem PySem.W.Fast.tw6732292720647096700 : True := trivial
theorem PySem.W.Fast.tw791063380273478126 : True := trivial
theorem PySem.W.Fast.tw8885416972062887391 : True := trivial
theorem PySem.W.Fast.tw15560214664934885386 : True := trivial
theorem PySem.W.Fast.tw16677232057637759579 : True := trivial
theorem PySem.W.Fast.tw845036707254695780 : True := trivial
theorem PySem.W.Fast.tw4544490853309386553 : True := trivial
theorem PySem.W.Fast.tw13143642779237444073 : True := trivial
theorem PySem.W.Fast.tw8531668001196349184 : True := trivial
theorem PySem.W.Fast.tw2786253668291281216 : True := trivial
theorem PySem.W.Fast.tw966377627868282788 : True := trivial
theorem PySem.W.Fast.tw6142672343048024224 : True := trivial
theorem PySem.W.Fast.tw13891344903900893826 : True := trivial
theorem PySem.W.Fast.tw4058230325302879394 : True := trivial
theorem PySem.W.Fast.tw487690897480843969 : True := trivial
theorem PySem.W.Fast.tw9554975653747708127 : True := trivial
theorem PySem.W.Fast.tw17334946630452739744 : True := trivial
theorem PySem.W.Fast.tw15097051877396423128 : True := trivial
theorem PySem.W.Fast.tw7062086404516138232 : True := trivial
theorem PySem.W.Fast.tw7458414669809751220 : True := trivial
theorem PySem.W.Fast.tw13856790509025438736 : True := trivial
theorem PySem.W.Fast.tw16966131318613456439 : True := trivial
theorem PySem.W.Fast.tw11630796139916812143 : True := trivial
theorem PySem.W.Fast.tw5367007801185051601 : True := trivial
theorem PySem.W.Fast.tw10425326646160617548 : True := trivial
theorem PySem.W.Fast.tw10047070748464635365 : True := trivial
theorem PySem.W.Fast.tw17086930224778476989 : True := trivial
theorem PySem.W.Fast.tw4686262406738431326 : True := trivial
theorem PySem.W.Fast.tw7030010964696330003 : True := trivial
theorem PySem.W.Fast.tw9457822206296755822 : True := trivial
theorem PySem.W.Fast.tw4591999535919083097 : True := trivial
theorem PySem.W.Fast.tw8829762798051486959 : True := trivial
theorem PySem.W.Fast.tw5089842811222884002 : True := trivial
theorem PySem.W.Fast.tw807307443694210619 : True := trivial
theorem PySem.W.Fast.tw5019156660080930028 : True := trivial
theorem PySem.W.Fast.tw8489220488995349315 : True := trivial
theorem PySem.W.Fast.tw7593498541032160031 : True := trivial
theorem PySem.W.Fast.tw8441899627145042446 : True := trivial
theorem PySem.W.Fast.tw5842032517335524857 : True := trivial
theorem PySem.W.Fast.tw17928303965758508334 : True := trivial
theorem PySem.W.Fast.tw7305383483441540851 : True := trivial
theorem PySem.W.Fast.tw9538738391603379618 : True := trivial
theorem PySem.W.Fast.tw14180969148989835080 : True := trivial
theorem PySem.W.Fast.tw9411614901655378050 : True := trivial
theorem PySem.W.Fast.tw8419717113724345293 : True := trivial
theorem PySem.W.Fast.tw3720918547482476001 : True := trivial
theorem PySem.W.Fast.tw5661662925981750141 : True := trivial
theorem PySem.W.Fast.tw5477875837109016590 : True := trivial
theorem PySem.W.Fast.tw13205680506135250093 : True := trivial
theorem PySem.W.Fast.tw8996243529339766762 : True := trivial
theorem PySem.W.Fast.tw10893468790091547254 : True := trivial
theorem PySem.W.Fast.tw18231184178682416993 : True := trivial
theorem PySem.W.Fast.tw12194187798206220118 : True := trivial
theorem PySem.W.Fast.tw13179187688723808424 : True := trivial
theorem PySem.W.Fast.tw8824951538415089122 : True := trivial
theorem PySem.W.Fast.tw15771981542590226307 : True := trivial
theorem PySem.W.Fast.tw16102714972523712783 : True := trivial
theorem PySem.W.Fast.tw8142263390083444096 : True := trivial
theorem PySem.W.Fast.tw11151728565497026559 : True := trivial
theorem PySem.W.Fast.tw16642586578956219233 : True := trivial
theorem PySem.W.Fast.tw6591068313588429439 : True := trivial
theorem PySem.W.Fast.tw5286174199658819255 : True := trivial
theorem PySem.W.Fast.tw13351399654860319942 : True := trivial
theorem PySem.W.Fast.tw3701962042773081665 : True := trivial
theorem PySem.W.Fast.tw16762487262966752869 : True := trivial
theorem PySem.W.Fast.tw3059331467173078786 : True := trivial
theorem PySem.W.Fast.tw13362727910977720321 : True := trivial
theorem PySem.W.Fast.tw8964612113196723748 : True := trivial
theorem PySem.W.Fast.tw2027997306218680059 : True := trivial
theorem PySem.W.Fast.tw16215729083422756775 : True := trivial
theorem PySem.W.Fast.tw10918291092794506426 : True := trivial
theorem PySem.W.Fast.tw10906018397612453573 : True := trivial
theorem PySem.W.Fast.tw9710909518586369698 : True := trivial
theorem PySem.W.Fast.tw1936562966275664840 : True := trivial
theorem PySem.W.Fast.tw6114350787933472776 : True := trivial
theorem PySem.W.Fast.tw16821325781155144635 : True := trivial
theorem PySem.W.Fast.tw805206753063643722 : True := trivial
theorem PySem.W.Fast.tw13383557661836409190 : True := trivial
theorem PySem.W.Fast.tw18181259945745234868 : True := trivial
theorem PySem.W.Fast.tw8843857693929875963 : True := trivial
theorem PySem.W.Fast.tw5959903757975461002 : True := trivial
theorem PySem.W.Fast.tw1341946438896563741 : True := trivial
theorem PySem.W.Fast.tw2582958657543514341 : True := trivial
theorem PySem.W.Fast.tw5133644272291431947 : True := trivial
theorem PySem.W.Fast.tw3842455219870594116 : True := trivial
theorem PySem.W.Fast.tw15701877211548569997 : True := trivial
theorem PySem.W.Fast.tw11101286994389125459 : True := trivial
theorem PySem.W.Fast.tw9747077777979365552 : True := trivial
theorem PySem.W.Fast.tw18432405631217245505 : True := trivial
theorem PySem.W.Fast.tw9949061968698916826 : True := trivial
theorem PySem.W.Fast.tw17155397086009102107 : True := trivial
theorem PySem.W.Fast.tw13768539268278249543 : True := trivial
theorem PySem.W.Fast.tw816509064339869500 : True := trivial
theorem PySem.W.Fast.tw17929157945212373506 : True := trivial
theorem PySem.W.Fast.tw650194612511591727 : True := trivial
theorem PySem.W.Fast.tw11884024690091262387 : True := trivial
theorem PySem.W.Fast.tw2577486384975899234 : True := trivial
theorem PySem.W.Fast.tw14614009382283486711 : True := trivial
theorem PySem.W.Fast.tw16810736046938974901 : True := trivial
theorem PySem.W.Fast.tw16944948587110457375 : True := trivial
theorem PySem.W.Fast.tw15904683939130779822 : True := trivial
theorem PySem.W.Fast.tw5818802569362922286 : True := trivial
theorem PySem.W.Fast.tw13002934370540136278 : True := trivial
theorem PySem.W.Fast.tw16018188289175416738 : True := trivial
theorem PySem.W.Fast.tw6303647205947747295 : True := trivial
theorem PySem.W.Fast.tw13300780662266589370 : True := trivial
theorem PySem.W.Fast.tw14567679890127578583 : True := trivial
theorem PySem.W.Fast.tw4869808182486984718 : True := trivial
theorem PySem.W.Fast.tw11943552710532043254 : True := trivial
theorem PySem.W.Fast.tw6643135654671433534 : True := trivial
theorem PySem.W.Fast.tw7048545451446620411 : True := trivial
theorem PySem.W.Fast.tw9065012747338089582 : True := trivial
theorem PySem.W.Fast.tw11680045298937178200 : True := trivial
theorem PySem.W.Fast.tw2894275997705900474 : True := trivial
theorem PySem.W.Fast.tw7401361196242436891 : True := trivial
theorem PySem.W.Fast.tw4706037149686029342 : True := trivial
theorem PySem.W.Fast.tw9547410786188266530 : True := trivial
theorem PySem.W.Fast.tw13819504059919966846 : True := trivial
theorem PySem.W.Fast.tw6080022046820659324 : True := trivial
theorem PySem.W.Fast.tw2393674262355518607 : True := trivial
theorem PySem.W.Fast.tw1556136326054467686 : True := trivial
theorem PySem.W.Fast.tw1695768104044958980 : True := trivial
theorem PySem.W.Fast.tw17837302729281709366 : True := trivial
theorem PySem.W.Fast.tw887540199524892520 : True := trivial
theorem PySem.W.Fast.tw7789049045622523344 : True := trivial
theorem PySem.W.Fast.tw1384981763423637177 : True := trivial
theorem PySem.W.Fast.tw1600187253826840956 : True := trivial
theorem PySem.W.Fast.tw5944092419024119131 : True := trivial
theorem PySem.W.Fast.tw16123143642352706218 : True := trivial
theorem PySem.W.Fast.tw13812234922249341160 : True := trivial
theorem PySem.W.Fast.tw628159472093886011 : True := trivial
theorem PySem.W.Fast.tw18425630896360089830 : True := trivial
theorem PySem.W.Fast.tw4709732002063057465 : True := trivial
theorem PySem.W.Fast.tw18241437402378456244 : True := trivial
theorem PySem.W.Fast.tw5779077240729878639 : True := trivial
theorem PySem.W.Fast.tw16877917350414633325 : True := trivial
theorem PySem.W.Fast.tw15660457011231219012 : True := trivial
theorem PySem.W.Fast.tw14158843009242384577 : True := trivial
theorem PySem.W.Fast.tw13044990182153469412 : True := trivial
theorem PySem.W.Fast.tw14008014114827510554 : True := trivial
theorem PySem.W.Fast.tw11601316863866541937 : True := trivial
theorem PySem.W.Fast.tw12569262587436203723 : True := trivial
theorem PySem.W.Fast.tw8460082409130362962 : True := trivial
theorem PySem.W.Fast.tw920912810168999687 : True := trivial
theorem PySem.W.Fast.tw5820305418068010851 : True := trivial
theorem PySem.W.Fast.tw4639730328280335975 : True := trivial
theorem PySem.W.Fast.tw8857782094419236250 : True := trivial
theorem PySem.W.Fast.tw2479898447685480882 : True := trivial
theorem PySem.W.Fast.tw5736505142494988225 : True := trivial
theorem PySem.W.Fast.tw2832783225799883990 : True := trivial
theorem PySem.W.Fast.tw7491441013901647332 : True := trivial
theorem PySem.W.Fast.tw17967343154683230982 : True := trivial
theorem PySem.W.Fast.tw1889435951042512957 : True := trivial
theorem PySem.W.Fast.tw149657372186717082 : True := trivial
theorem PySem.W.Fast.tw5569453642670929905 : True := trivial
theorem PySem.W.Fast.tw14782812890358324561 : True := trivial
theorem PySem.W.Fast.tw16023691943723179092 : True := trivial
theorem PySem.W.Fast.tw7775603989106038690 : True := trivial
theorem PySem.W.Fast.tw17142990195608633651 : True := trivial
theorem PySem.W.Fast.tw4342259249906848213 : True := trivial
theorem PySem.W.Fast.tw8768602218242829942 : True := trivial
theorem PySem.W.Fast.tw346312210001638920 : True := trivial
theorem PySem.W.Fast.tw14056828131527277224 : True := trivial
theorem PySem.W.Fast.tw15814759788282112203 : True := trivial
theorem PySem.W.Fast.tw13976363410418264620 : True := trivial
theorem PySem.W.Fast.tw13633609329422787376 : True := trivial
theorem PySem.W.Fast.tw10764407487717171791 : True := trivial
theorem PySem.W.Fast.tw8944842981796439300 : True := trivial
theorem PySem.W.Fast.tw11024288890774312939 : True := trivial
theorem PySem.W.Fast.tw1353876494820678995 : True := trivial
theorem PySem.W.Fast.tw7405444912960593070 : True := trivial
theorem PySem.W.Fast.tw840954720041563294 : True := trivial
theorem PySem.W.Fast.tw6380022775672546349 : True := trivial
theorem PySem.W.Fast.tw12325869041715005391 : True := trivial
theorem PySem.W.Fast.tw4926804333093084791 : True := trivial
theorem PySem.W.Fast.tw11154808911447003514 : True := trivial
theorem PySem.W.Fast.tw7028080382530925079 : True := trivial
theorem PySem.W.Fast.tw12345715811289737823 : True := trivial
theorem PySem.W.Fast.tw14926452489419279613 : True := trivial
theorem PySem.W.Fast.tw1728953247234471841 : True := trivial
theorem PySem.W.Fast.tw176931250159402748 : True := trivial
theorem PySem.W.Fast.tw7226431216197862800 : True := trivial
theorem PySem.W.Fast.tw1262877618331567831 : True := trivial
theorem PySem.W.Fast.tw18370008980453242549 : True := trivial
theorem PySem.W.Fast.tw606555194354897916 : True := trivial
theorem PySem.W.Fast.tw5855041004382145179 : True := trivial
theorem PySem.W.Fast.tw3435759794666037401 : True := trivial
theorem PySem.W.Fast.tw4241183475946336799 : True := trivial
theorem PySem.W.Fast.tw13987036193820982253 : True := trivial
theorem PySem.W.Fast.tw7817166584986116136 : True := trivial
theorem PySem.W.Fast.tw1085696970491335431 : True := trivial
theorem PySem.W.Fast.tw4036384037393168220 : True := trivial
theorem PySem.W.Fast.tw17489638186392308356 : True := trivial
theorem PySem.W.Fast.tw9882485029367841165 : True := trivial
theorem PySem.W.Fast.tw17440004257136259395 : True := trivial
theorem PySem.W.Fast.tw8220688881609766299 : True := trivial
theorem PySem.W.Fast.tw2821915190655706421 : True := trivial
theorem PySem.W.Fast.tw11326392745921236153 : True := trivial
theorem PySem.W.Fast.tw15214357498212262 : True := trivial
theorem PySem.W.Fast.tw15878283389002833664 : True := trivial
theorem PySem.W.Fast.tw16246620708168003282 : True := trivial
theorem PySem.W.Fast.tw12136002595006323712 : True := trivial
theorem PySem.W.Fast.tw14148236287593009493 : True := trivial
theorem PySem.W.Fast.tw12087445333884946545 : True := trivial
theorem PySem.W.Fast.tw838482929278019424 : True := trivial
theorem PySem.W.Fast.tw4679313504309276637 : True := trivial
theorem PySem.W.Fast.tw15348174272479123132 : True := trivial
theorem PySem.W.Fast.tw5738609221597460326 : True := trivial
theorem PySem.W.Fast.tw7953867165777065156 : True := trivial
theorem PySem.W.Fast.tw9348785874632887470 : True := trivial
theorem PySem.W.Fast.tw11433607140878645735 : True := trivial
theorem PySem.W.Fast.tw9110899280062546971 : True := trivial
theorem PySem.W.Fast.tw15401947204535988288 : True := trivial
theorem PySem.W.Fast.tw14067795555033573571 : True := trivial
theorem PySem.W.Fast.tw6108829473929928783 : True := trivial
theorem PySem.W.Fast.tw10347475040065932708 : True := trivial
theorem PySem.W.Fast.tw15285187841295087897 : True := trivial
theorem PySem.W.Fast.tw8063807721680971041 : True := trivial
theorem PySem.W.Fast.tw11551849978872155493 : True := trivial
theorem PySem.W.Fast.tw1158686959593966049 : True := trivial
theorem PySem.W.Fast.tw16761995101485674445 : True := trivial
theorem PySem.W.Fast.tw5086485979023319692 : True := trivial
theorem PySem.W.Fast.tw6154349449290355884 : True := trivial
theorem PySem.W.Fast.tw9973642240081008918 : True := trivial
theorem PySem.W.Fast.tw9349448222767859178 : True := trivial
theorem PySem.W.Fast.tw2738296218846501745 : True := trivial
theorem PySem.W.Fast.tw890379591072752684 : True := trivial
theorem PySem.W.Fast.tw4661285217931321087 : True := trivial
theorem PySem.W.Fast.tw16015877992697752432 : True := trivial
theorem PySem.W.Fast.tw11937113345899786203 : True := trivial
theorem PySem.W.Fast.tw7387013049961472350 : True := trivial
theorem PySem.W.Fast.tw14801277627127895434 : True := trivial
theorem PySem.W.Fast.tw17258864730346682808 : True := trivial
theorem PySem.W.Fast.tw146460179220214474 : True := trivial
theorem PySem.W.Fast.tw9880321013354461209 : True := trivial
theorem PySem.W.Fast.tw7680831528171588069 : True := trivial
theorem PySem.W.Fast.tw14723002191473061709 : True := trivial
theorem PySem.W.Fast.tw13186059820475854777 : True := trivial
theorem PySem.W.Fast.tw463428923412114250 : True := trivial
theorem PySem.W.Fast.tw499820828758993003 : True := trivial
theorem PySem.W.Fast.tw16304699793736264915 : True := trivial
theorem PySem.W.Fast.tw4339367293477683974 : True := trivial
theorem PySem.W.Fast.tw5021750446472169464 : True := trivial
theorem PySem.W.Fast.tw1725165277888790987 : True := trivial
theorem PySem.W.Fast.tw14370031690829617587 : True := trivial
theorem PySem.W.Fast.tw11072110937114579192 : True := trivial
theorem PySem.W.Fast.tw6790146694766305704 : True := trivial
theorem PySem.W.Fast.tw4399111337084435998 : True := trivial
theorem PySem.W.Fast.tw8994895319789741998 : True := trivial
theorem PySem.W.Fast.tw11582586346362441044 : True := trivial
theorem PySem.W.Fast.tw5685395916143074614 : True := trivial
theorem PySem.W.Fast.tw7418821702699434135 : True := trivial
theorem PySem.W.Fast.tw14153302895579625557 : True := trivial
theorem PySem.W.Fast.tw16190998933785218836 : True := trivial
theorem PySem.W.Fast.tw5516841759933846334 : True := trivial
theorem PySem.W.Fast.tw7522882284136918181 : True := trivial
theorem PySem.W.Fast.tw5381844281191486989 : True := trivial
theorem PySem.W.Fast.tw17647015035730953258 : True := trivial
theorem PySem.W.Fast.tw6954303666995772070 : True := trivial
theorem PySem.W.Fast.tw4971067360769711263 : True := trivial
theorem PySem.W.Fast.tw5196253827050678051 : True := trivial
theorem PySem.W.Fast.tw14858562619645813521 : True := trivial
theorem PySem.W.Fast.tw10357954227128941038 : True := trivial
theorem PySem.W.Fast.tw15506894255618271065 : True := trivial
theorem PySem.W.Fast.tw5159773130769094087 : True := trivial
theorem PySem.W.Fast.tw8347429220354067314 : True := trivial
theorem PySem.W.Fast.tw11265579340227094262 : True := trivial
theorem PySem.W.Fast.tw5849707526248053825 : True := trivial
theorem PySem.W.Fast.tw4134360230077182068 : True := trivial
theorem PySem.W.Fast.tw10059865139568127166 : True := trivial
theorem PySem.W.Fast.tw8778069790311381083 : True := trivial
theorem PySem.W.Fast.tw9531357617319694297 : True := trivial
theorem PySem.W.Fast.tw8949769689571958780 : True := trivial
theorem PySem.W.Fast.tw2115386479950944332 : True := trivial
theorem PySem.W.Fast.tw2421356027035477176 : True := trivial
theorem PySem.W.Fast.tw7226688457328810492 : True := trivial
theorem PySem.W.Fast.tw9907303415162453270 : True := trivial
theorem PySem.W.Fast.tw4124901477379279165 : True := trivial
theorem PySem.W.Fast.tw2492745613751000366 : True := trivial
theorem PySem.W.Fast.tw1098613552100090302 : True := trivial
theorem PySem.W.Fast.tw2854313576340095037 : True := trivial
theorem PySem.W.Fast.tw13995219672754319724 : True := trivial
theorem PySem.W.Fast.tw14388923883458364042 : True := trivial
theorem PySem.W.Fast.tw612385781501773212 : True := trivial
theorem PySem.W.Fast.tw11607505669983372925 : True := trivial
theorem PySem.W.Fast.tw1620465907757429143 : True := trivial
theorem PySem.W.Fast.tw6445133544567698535 : True := trivial
theorem PySem.W.Fast.tw16288290518417163298 : True := trivial
theorem PySem.W.Fast.tw7189013441213541642 : True := trivial
theorem PySem.W.Fast.tw7058324853265272195 : True := trivial
theorem PySem.W.Fast.tw3197276538393066785 : True := trivial
theorem PySem.W.Fast.tw3921378812772330369 : True := trivial
theorem PySem.W.Fast.tw4586860950434526087 : True := trivial
theorem PySem.W.Fast.tw11237309197417940853 : True := trivial
theorem PySem.W.Fast.tw8306674208986111031 : True := trivial
theorem PySem.W.Fast.tw8320525724424868739 : True := trivial
theorem PySem.W.Fast.tw8095774090631597633 : True := trivial
theorem PySem.W.Fast.tw9405671625517234057 : True := trivial
theorem PySem.W.Fast.tw10042445990907342191 : True := trivial
theorem PySem.W.Fast.tw3169022104914402098 : True := trivial
theorem PySem.W.Fast.tw2734166346049169666 : True := trivial
theorem PySem.W.Fast.tw8177575365000841423 : True := trivial
theorem PySem.W.Fast.tw483869684958359493 : True := trivial
theorem PySem.W.Fast.tw10563860182739569920 : True := trivial
theorem PySem.W.Fast.tw1294904125302160810 : True := trivial
theorem PySem.W.Fast.tw7842609535364049942 : True := trivial
theorem PySem.W.Fast.tw2245104419302153279 : True := trivial
theorem PySem.W.Fast.tw11032551171699520498 : True := trivial
theorem PySem.W.Fast.tw3684815596412354925 : True := trivial
theorem PySem.W.Fast.tw4347267014204848392 : True := trivial
theorem PySem.W.Fast.tw867010663039071520 : True := trivial
theorem PySem.W.Fast.tw3934730948604789899 : True := trivial
theorem PySem.W.Fast.tw7010058609129966205 : True := trivial
theorem PySem.W.Fast.tw3237336035783905075 : True := trivial
theorem PySem.W.Fast.tw1263916207062981570 : True := trivial
theorem PySem.W.Fast.tw451011641720198964 : True := trivial
theorem PySem.W.Fast.tw14033767407539056087 : True := trivial
theorem PySem.W.Fast.tw7550882347397598648 : True := trivial
theorem PySem.W.Fast.tw6878146432404193489 : True := trivial
theorem PySem.W.Fast.tw11151324186710395649 : True := trivial
theorem PySem.W.Fast.tw4664289736471944539 : True := trivial
theorem PySem.W.Fast.tw9138517840126950820 : True := trivial
theorem PySem.W.Fast.tw13961156869102381714 : True := trivial
theorem PySem.W.Fast.tw2747121852410666046 : True := trivial
theorem PySem.W.Fast.tw11145396275242912953 : True := trivial
theorem PySem.W.Fast.tw17537671321271227151 : True := trivial
theorem PySem.W.Fast.tw9101753029098389202 : True := trivial
theorem PySem.W.Fast.tw10990752195014718561 : True := trivial
theorem PySem.W.Fast.tw9819414424938625051 : True := trivial
theorem PySem.W.Fast.tw6935322056660215694 : True := trivial
theorem PySem.W.Fast.tw5297857099797915292 : True := trivial
theorem PySem.W.Fast.tw14550462305964323140 : True := trivial
theorem PySem.W.Fast.tw18161724888833325365 : True := trivial
theorem PySem.W.Fast.tw18381264972046024241 : True := trivial
theorem PySem.W.Fast.tw1983591050745733586 : True := trivial
theorem PySem.W.Fast.tw17007139977134404271 : True := trivial
theorem PySem.W.Fast.tw16036827812785270710 : True := trivial
theorem PySem.W.Fast.tw7979112709352499092 : True := trivial
theorem PySem.W.Fast.tw1423882521826000658 : True := trivial
theorem PySem.W.Fast.tw2439767190499110652 : True := trivial
theorem PySem.W.Fast.tw16645158759374627465 : True := trivial
theorem PySem.W.Fast.tw15891083824935365811 : True := trivial
theorem PySem.W.Fast.tw8558032657559727776 : True := trivial
theorem PySem.W.Fast.tw15995835976595879836 : True := trivial
theorem PySem.W.Fast.tw7791971228292900073 : True := trivial
theorem PySem.W.Fast.tw3125064520232405964 : True := trivial
theorem PySem.W.Fast.tw17806350361479990748 : True := trivial
theorem PySem.W.Fast.tw2265221178805795911 : True := trivial
theorem PySem.W.Fast.tw12955125641996965867 : True := trivial
theorem PySem.W.Fast.tw2349539898264278676 : True := trivial
theorem PySem.W.Fast.tw11975632167248683086 : True := trivial
theorem PySem.W.Fast.tw16847920089032959 : True := trivial
theorem PySem.W.Fast.tw12750861853286046934 : True := trivial
theorem PySem.W.Fast.tw14094258276968203750 : True := trivial
theorem PySem.W.Fast.tw3956911985862693446 : True := trivial
theorem PySem.W.Fast.tw733695293444802939 : True := trivial
theorem PySem.W.Fast.tw10260664430079577728 : True := trivial
theorem PySem.W.Fast.tw5297805579471756535 : True := trivial
theorem PySem.W.Fast.tw3276554233394828591 : True := trivial
theorem PySem.W.Fast.tw89683976839879163 : True := trivial
theorem PySem.W.Fast.tw13647448920489066634 : True := trivial
theorem PySem.W.Fast.tw15034608347909835148 : True := trivial
theorem PySem.W.Fast.tw2664796013061223906 : True := trivial
theorem PySem.W.Fast.tw17945020363355946536 : True := trivial
theorem PySem.W.Fast.tw16401451687030457638 : True := trivial
theorem PySem.W.Fast.tw9714405250402484989 : True := trivial
theorem PySem.W.Fast.tw17332811237660614329 : True := trivial
theorem PySem.W.Fast.tw2928549455042267389 : True := trivial
theorem PySem.W.Fast.tw12810012030544309294 : True := trivial
theorem PySem.W.Fast.tw3689439304477442064 : True := trivial
theorem PySem.W.Fast.tw647566674032220084 : True := trivial
theorem PySem.W.Fast.tw4927584006643157149 : True := trivial
theorem PySem.W.Fast.tw13958476231480122598 : True := trivial
theorem PySem.W.Fast.tw5538155220579330440 : True := trivial
theorem PySem.W.Fast.tw17952438043003412890 : True := trivial
theorem PySem.W.Fast.tw19433682091057849 : True := trivial
theorem PySem.W.Fast.tw13993723391102502493 : True := trivial
theorem PySem.W.Fast.tw2115337612822452899 : True := trivial
theorem PySem.W.Fast.tw1328849006612209863 : True := trivial
theorem PySem.W.Fast.tw17722409205604790878 : True := trivial
theorem PySem.W.Fast.tw3985945430431698765 : True := trivial
theorem PySem.W.Fast.tw6791676396313388256 : True := trivial
theorem PySem.W.Fast.tw3169606380860734869 : True := trivial
theorem PySem.W.Fast.tw14718993480147589128 : True := trivial
theorem PySem.W.Fast.tw2410266735668289193 : True := trivial
theorem PySem.W.Fast.tw4893713143837024152 : True := trivial
theorem PySem.W.Fast.tw1354177115490028853 : True := trivial
theorem PySem.W.Fast.tw14686681428034129297 : True := trivial
theorem PySem.W.Fast.tw9202528521766080255 : True := trivial
theorem PySem.W.Fast.tw11879991279207231640 : True := trivial
theorem PySem.W.Fast.tw5781782096166221806 : True := trivial
theorem PySem.W.Fast.tw14217441005990123312 : True := trivial
theorem PySem.W.Fast.tw5938180217465266196 : True := trivial
theorem PySem.W.Fast.tw13239609953906955263 : True := trivial
theorem PySem.W.Fast.tw8723537294128639339 : True := trivial
theorem PySem.W.Fast.tw5488547091701303008 : True := trivial
theorem PySem.W.Fast.tw1726582496826129097 : True := trivial
theorem PySem.W.Fast.tw1372665118503260126 : True := trivial
theorem PySem.W.Fast.tw10576318712086419625 : True := trivial
theorem PySem.W.Fast.tw530052473355105035 : True := trivial
theorem PySem.W.Fast.tw10261937866407364596 : True := trivial
theorem PySem.W.Fast.tw16107657270480251958 : True := trivial
theorem PySem.W.Fast.tw7384565869263202268 : True := trivial
theorem PySem.W.Fast.tw16494756456929518483 : True := trivial
theorem PySem.W.Fast.tw3037548838788473588 : True := trivial
theorem PySem.W.Fast.tw11468327380006461576 : True := trivial
theorem PySem.W.Fast.tw11387223670457722612 : True := trivial
theorem PySem.W.Fast.tw6064272759304754029 : True := trivial
theorem PySem.W.Fast.tw11042395785341933991 : True := trivial
theorem PySem.W.Fast.tw12399851372015858756 : True := trivial
theorem PySem.W.Fast.tw14370921218440587248 : True := trivial
theorem PySem.W.Fast.tw10688735281313706773 : True := trivial
theorem PySem.W.Fast.tw8553602474495270344 : True := trivial
theorem PySem.W.Fast.tw12014388670392016614 : True := trivial
theorem PySem.W.Fast.tw6977672603844584344 : True := trivial
theorem PySem.W.Fast.tw4805457145307783609 : True := trivial
theorem PySem.W.Fast.tw4763900883154173789 : True := trivial
theorem PySem.W.Fast.tw10447736415073804534 : True := trivial
theorem PySem.W.Fast.tw6389558974164338621 : True := trivial
theorem PySem.W.Fast.tw12146157549389375159 : True := trivial
theorem PySem.W.Fast.tw6483313189088123715 : True := trivial
theorem PySem.W.Fast.tw17632579244530536849 : True := trivial
theorem PySem.W.Fast.tw5236814588076804152 : True := trivial
theorem PySem.W.Fast.tw15560631208185458098 : True := trivial
theorem PySem.W.Fast.tw11420252810273413883 : True := trivial
theorem PySem.W.Fast.tw6106789974414706757 : True := trivial
theorem PySem.W.Fast.tw7883530838982675872 : True := trivial
theorem PySem.W.Fast.tw8624312108183734561 : True := trivial
theorem PySem.W.Fast.tw10374096051312082019 : True := trivial
theorem PySem.W.Fast.tw9914537242158538832 : True := trivial
theorem PySem.W.Fast.tw6657573588237893032 : True := trivial
theorem PySem.W.Fast.tw11217703480740135706 : True := trivial
theorem PySem.W.Fast.tw15058387368022822998 : True := trivial
theorem PySem.W.Fast.tw8982736085817416153 : True := trivial
theorem PySem.W.Fast.tw8573847097155512918 : True := trivial
theorem PySem.W.Fast.tw13104498400956157432 : True := trivial
theorem PySem.W.Fast.tw5068415269583532450 : True := trivial
theorem PySem.W.Fast.tw10705657275945695743 : True := trivial
theorem PySem.W.Fast.tw14692741731333657416 : True := trivial
theorem PySem.W.Fast.tw9002437434850274677 : True := trivial
theorem PySem.W.Fast.tw9634158925917234822 : True := trivial
theorem PySem.W.Fast.tw9295312525340254288 : True := trivial
theorem PySem.W.Fast.tw15148397655598540351 : True := trivial
theorem PySem.W.Fast.tw1754231166173892916 : True := trivial
theorem PySem.W.Fast.tw7331632869403505464 : True := trivial
theorem PySem.W.Fast.tw9853222442970204287 : True := trivial
theorem PySem.W.Fast.tw6037237589109580017 : True := trivial
theorem PySem.W.Fast.tw6312882061057262180 : True := trivial
theorem PySem.W.Fast.tw359285074531559709 : True := trivial
theorem PySem.W.Fast.tw15734027000017540778 : True := trivial
theorem PySem.W.Fast.tw8657263622935423984 : True := trivial
theorem PySem.W.Fast.tw13704621883164748485 : True := trivial
theorem PySem.W.Fast.tw688217260591720815 : True := trivial
theorem PySem.W.Fast.tw13801009014728019813 : True := trivial
theorem PySem.W.Fast.tw12826226161703177587 : True := trivial
theorem PySem.W.Fast.tw963416440876233489 : True := trivial
theorem PySem.W.Fast.tw17934015979606212698 : True := trivial
theorem PySem.W.Fast.tw16934981477195145759 : True := trivial
theorem PySem.W.Fast.tw11692257819619732202 : True := trivial
theorem PySem.W.Fast.tw6231625547611601887 : True := trivial
theorem PySem.W.Fast.tw16372672291917396794 : True := trivial
theorem PySem.W.Fast.tw15154341607654867664 : True := trivial
theorem PySem.W.Fast.tw11379727203001641694 : True := trivial
theorem PySem.W.Fast.tw11866501160959210593 : True := trivial
theorem PySem.W.Fast.tw13687258683286096800 : True := trivial
theorem PySem.W.Fast.tw14790392968372700281 : True := trivial
theorem PySem.W.Fast.tw16043573955255606624 : True := trivial
theorem PySem.W.Fast.tw7246486913694082078 : True := trivial
theorem PySem.W.Fast.tw6223459168084857475 : True := trivial
theorem PySem.W.Fast.tw1458140771766247328 : True := trivial
theorem PySem.W.Fast.tw13045376675543250397 : True := trivial
theorem PySem.W.Fast.tw7488102689829305350 : True := trivial
theorem PySem.W.Fast.tw10118568323324656441 : True := trivial
theorem PySem.W.Fast.tw13869756451620507689 : True := trivial
theorem PySem.W.Fast.tw15957486026800668426 : True := trivial
theorem PySem.W.Fast.tw9809371223301874582 : True := trivial
theorem PySem.W.Fast.tw18096534233744768092 : True := trivial
theorem PySem.W.Fast.tw16939030452393321851 : True := trivial
theorem PySem.W.Fast.tw3735028513098952617 : True := trivial
theorem PySem.W.Fast.tw13986716538037214925 : True := trivial
theorem PySem.W.Fast.tw14999021193170049389 : True := trivial
theorem PySem.W.Fast.tw2259731467218515863 : True := trivial
theorem PySem.W.Fast.tw2873796814831036205 : True := trivial
theorem PySem.W.Fast.tw3158086875994138197 : True := trivial
theorem PySem.W.Fast.tw14905734617726558650 : True := trivial
theorem PySem.W.Fast.tw15421330425176585569 : True := trivial
theorem PySem.W.Fast.tw8740103963518086378 : True := trivial
theorem PySem.W.Fast.tw8424044133403941986 : True := trivial
theorem PySem.W.Fast.tw13277009378307937019 : True := trivial
theorem PySem.W.Fast.tw2703504200854155042 : True := trivial
theorem PySem.W.Fast.tw16793315514987226567 : True := trivial
theorem PySem.W.Fast.tw15554508822880076769 : True := trivial
theorem PySem.W.Fast.tw5910952611519265922 : True := trivial
theorem PySem.W.Fast.tw18235056597217677102 : True := trivial
theorem PySem.W.Fast.tw14214558919798084539 : True := trivial
theorem PySem.W.Fast.tw18289151386899384390 : True := trivial
theorem PySem.W.Fast.tw17250030929387764610 : True := trivial
theorem PySem.W.Fast.tw9887756499742215121 : True := trivial
theorem PySem.W.Fast.tw16322681043602556246 : True := trivial
theorem PySem.W.Fast.tw13410689617748034491 : True := trivial
theorem PySem.W.Fast.tw11373875734112118124 : True := trivial
theorem PySem.W.Fast.tw9445487835156764505 : True := trivial
theorem PySem.W.Fast.tw9969443551958931672 : True := trivial
theorem PySem.W.Fast.tw2289115426955976817 : True := trivial
theorem PySem.W.Fast.tw10609552474370843458 : True := trivial
theorem PySem.W.Fast.tw4854651877964845480 : True := trivial
theorem PySem.W.Fast.tw772058264262678274 : True := trivial
theorem PySem.W.Fast.tw15972788311893199264 : True := trivial
theorem PySem.W.Fast.tw16860895633854217112 : True := trivial
theorem PySem.W.Fast.tw11325280705203981817 : True := trivial
theorem PySem.W.Fast.tw11497867010893435268 : True := trivial
theorem PySem.W.Fast.tw16984169208924138511 : True := trivial
theorem PySem.W.Fast.tw10717749418409206624 : True := trivial
theorem PySem.W.Fast.tw11939268426948753132 : True := trivial
theorem PySem.W.Fast.tw7654312805152930572 : True := trivial
theorem PySem.W.Fast.tw13814359069981830015 : True := trivial
theorem PySem.W.Fast.tw9665086226704012372 : True := trivial
theorem PySem.W.Fast.tw2679165856937945701 : True := trivial
theorem PySem.W.Fast.tw1996728657904625782 : True := trivial
theorem PySem.W.Fast.tw13219282127968577010 : True := trivial
theorem PySem.W.Fast.tw11709328413352854385 : True := trivial
theorem PySem.W.Fast.tw9012790572795734969 : True := trivial
theorem PySem.W.Fast.tw10340427634131086547 : True := trivial
theorem PySem.W.Fast.tw9605428536852503946 : True := trivial
theorem PySem.W.Fast.tw13533406491625933265 : True := trivial
theorem PySem.W.Fast.tw12560543711501401540 : True := trivial
theorem PySem.W.Fast.tw4963365345448535744 : True := trivial
theorem PySem.W.Fast.tw16709182014188099828 : True := trivial
theorem PySem.W.Fast.tw401306499446391459 : True := trivial
theorem PySem.W.Fast.tw2123766273488563010 : True := trivial
theorem PySem.W.Fast.tw853826053659932503 : True := trivial
theorem PySem.W.Fast.tw1424020566855995858 : True := trivial
theorem PySem.W.Fast.tw10389648658938912107 : True := trivial
theorem PySem.W.Fast.tw12824790375143144526 : True := trivial
theorem PySem.W.Fast.tw2322638166969383480 : True := trivial
theorem PySem.W.Fast.tw3895595233470877145 : True := trivial
theorem PySem.W.Fast.tw14028117555019032326 : True := trivial
theorem PySem.W.Fast.tw10809167515546155451 : True := trivial
theorem PySem.W.Fast.tw5932051273092816207 : True := trivial
theorem PySem.W.Fast.tw8047719778571079425 : True := trivial
theorem PySem.W.Fast.tw18062310156650740008 : True := trivial
theorem PySem.W.Fast.tw14165406083077494420 : True := trivial
theorem PySem.W.Fast.tw5734856803613067320 : True := trivial
theorem PySem.W.Fast.tw10421905144167694169 : True := trivial
theorem PySem.W.Fast.tw13289206465707752738 : True := trivial
theorem PySem.W.Fast.tw5402796101676098326 : True := trivial
theorem PySem.W.Fast.tw2948448446849276723 : True := trivial
theorem PySem.W.Fast.tw16148195210954452669 : True := trivial
theorem PySem.W.Fast.tw3576709612080211567 : True := trivial
theorem PySem.W.Fast.tw4843092738678194407 : True := trivial
theorem PySem.W.Fast.tw76549108563763736 : True := trivial
theorem PySem.W.Fast.tw1298376954558093693 : True := trivial
theorem PySem.W.Fast.tw13927984253721971819 : True := trivial
theorem PySem.W.Fast.tw12241165274291346634 : True := trivial
theorem PySem.W.Fast.tw3233062962884321521 : True := trivial
theorem PySem.W.Fast.tw9766219110076097268 : True := trivial
theorem PySem.W.Fast.tw9175477853066265832 : True := trivial
theorem PySem.W.Fast.tw16288853439804932491 : True := trivial
theorem PySem.W.Fast.tw3297308400710107669 : True := trivial
theorem PySem.W.Fast.tw9967328751230584794 : True := trivial
theorem PySem.W.Fast.tw4967177118954916120 : True := trivial
theorem PySem.W.Fast.tw5533917516644726360 : True := trivial
theorem PySem.W.Fast.tw13116131937318577287 : True := trivial
theorem PySem.W.Fast.tw5461534453512936071 : True := trivial
theorem PySem.W.Fast.tw13813143211945138426 : True := trivial
theorem PySem.W.Fast.tw14629331065455961485 : True := trivial
theorem PySem.W.Fast.tw14769779539641055261 : True := trivial
theorem PySem.W.Fast.tw16638367523073364257 : True := trivial
theorem PySem.W.Fast.tw12902874946227298583 : True := trivial
theorem PySem.W.Fast.tw4001805701928486250 : True := trivial
theorem PySem.W.Fast.tw4812479618368676717 : True := trivial
theorem PySem.W.Fast.tw189621036848578242 : True := trivial
theorem PySem.W.Fast.tw4388315037666650143 : True := trivial
theorem PySem.W.Fast.tw4636025445724926335 : True := trivial
theorem PySem.W.Fast.tw12265212519306130850 : True := trivial
theorem PySem.W.Fast.tw9605668151725845901 : True := trivial
theorem PySem.W.Fast.tw7563256808321930243 : True := trivial
theorem PySem.W.Fast.tw10961453692990396706 : True := trivial
theorem PySem.W.Fast.tw3364803768653950352 : True := trivial
theorem PySem.W.Fast.tw10728709298788310003 : True := trivial
theorem PySem.W.Fast.tw9190352326698352863 : True := trivial
theorem PySem.W.Fast.tw5834576045923928566 : True := trivial
theorem PySem.W.Fast.tw12351740784056144515 : True := trivial
theorem PySem.W.Fast.tw1804868504030883120 : True := trivial
theorem PySem.W.Fast.tw11843416269220337640 : True := trivial
theorem PySem.W.Fast.tw2026978006695707994 : True := trivial
theorem PySem.W.Fast.tw2040811332077531035 : True := trivial
theorem PySem.W.Fast.tw2238390614021954269 : True := trivial
theorem PySem.W.Fast.tw12081052410636759597 : True := trivial
theorem PySem.W.Fast.tw644415756917562579 : True := trivial
theorem PySem.W.Fast.tw16110264613924701246 : True := trivial
theorem PySem.W.Fast.tw12057513416281710986 : True := trivial
theorem PySem.W.Fast.tw11063435443129638785 : True := trivial
theorem PySem.W.Fast.tw5537548024495650466 : True := trivial
theorem PySem.W.Fast.tw4819686202732650640 : True := trivial
theorem PySem.W.Fast.tw9284371340120627595 : True := trivial
theorem PySem.W.Fast.tw17261281573152282762 : True := trivial
theorem PySem.W.Fast.tw14712194428226334991 : True := trivial
theorem PySem.W.Fast.tw8228023948624304445 : True := trivial
theorem PySem.W.Fast.tw14285736305013951262 : True := trivial
theorem PySem.W.Fast.tw16807636850454207052 : True := trivial
theorem PySem.W.Fast.tw5164354240279681062 : True := trivial
theorem PySem.W.Fast.tw274315890396699835 : True := trivial
theorem PySem.W.Fast.tw12602040120662573291 : True := trivial
theorem PySem.W.Fast.tw11526330728361105730 : True := trivial
theorem PySem.W.Fast.tw6520764600878337143 : True := trivial
theorem PySem.W.Fast.tw8539862431894982363 : True := trivial
theorem PySem.W.Fast.tw10818141562390444382 : True := trivial
theorem PySem.W.Fast.tw13721705172435220171 : True := trivial
theorem PySem.W.Fast.tw16688642789879051052 : True := trivial
theorem PySem.W.Fast.tw11785533454606803491 : True := trivial
theorem PySem.W.Fast.tw13928478604963768491 : True := trivial
theorem PySem.W.Fast.tw5552870318182078589 : True := trivial
theorem PySem.W.Fast.tw4167977920569511920 : True := trivial
theorem PySem.W.Fast.tw7296774913286961340 : True := trivial
theorem PySem.W.Fast.tw13586126630435227457 : True := trivial
theorem PySem.W.Fast.tw17547272484447373910 : True := trivial
theorem PySem.W.Fast.tw8950849170369686925 : True := trivial
theorem PySem.W.Fast.tw6351815693299181984 : True := trivial
theorem PySem.W.Fast.tw13125118977340674079 : True := trivial
theorem PySem.W.Fast.tw7343358674828423666 : True := trivial
theorem PySem.W.Fast.tw14174275739252786878 : True := trivial
theorem PySem.W.Fast.tw13888719542949648438 : True := trivial
theorem PySem.W.Fast.tw17058763376368996358 : True := trivial
theorem PySem.W.Fast.tw10940248704830477671 : True := trivial
theorem PySem.W.Fast.tw5911636271662426049 : True := trivial
theorem PySem.W.Fast.tw16539078043542137778 : True := trivial
theorem PySem.W.Fast.tw5035894678908109332 : True := trivial
theorem PySem.W.Fast.tw3574888417588997799 : True := trivial
theorem PySem.W.Fast.tw16928105237330217464 : True := trivial
theorem PySem.W.Fast.tw7041190595135891050 : True := trivial
theorem PySem.W.Fast.tw6022712479516165626 : True := trivial
theorem PySem.W.Fast.tw14955869914364380154 : True := trivial
theorem PySem.W.Fast.tw8261461572517285636 : True := trivial
theorem PySem.W.Fast.tw4416753908318087121 : True := trivial
theorem PySem.W.Fast.tw10103902475678658667 : True := trivial
theorem PySem.W.Fast.tw9466204795607658105 : True := trivial
theorem PySem.W.Fast.tw3152397459433482121 : True := trivial
theorem PySem.W.Fast.tw6705576249471665891 : True := trivial
theorem PySem.W.Fast.tw8276071192082495214 : True := trivial
theorem PySem.W.Fast.tw2995385465221226771 : True := trivial
theorem PySem.W.Fast.tw12566583303943500988 : True := trivial
theorem PySem.W.Fast.tw6513995152945043825 : True := trivial
theorem PySem.W.Fast.tw1067720044628251566 : True := trivial
theorem PySem.W.Fast.tw5236577834309019137 : True := trivial
theorem PySem.W.Fast.tw16663380771579417672 : True := trivial
theorem PySem.W.Fast.tw2335017052733344234 : True := trivial
theorem PySem.W.Fast.tw7903066962968934143 : True := trivial
theorem PySem.W.Fast.tw12568273556929910508 : True := trivial
theorem PySem.W.Fast.tw9501772991039502318 : True := trivial
theorem PySem.W.Fast.tw9098061612503076674 : True := trivial
theorem PySem.W.Fast.tw13237829055046718707 : True := trivial
theorem PySem.W.Fast.tw9442295337154844190 : True := trivial
theorem PySem.W.Fast.tw5046825306455702955 : True := trivial
theorem PySem.W.Fast.tw8047119756534215820 : True := trivial
theorem PySem.W.Fast.tw1370334494359751475 : True := trivial
theorem PySem.W.Fast.tw14520353976683193428 : True := trivial
theorem PySem.W.Fast.tw13206832867524985381 : True := trivial
theorem PySem.W.Fast.tw13256999818268356248 : True := trivial
theorem PySem.W.Fast.tw12381737264904795553 : True := trivial
theorem PySem.W.Fast.tw8276243986321573786 : True := trivial
theorem PySem.W.Fast.tw5155034497875222762 : True := trivial
theorem PySem.W.Fast.tw998914313358215989 : True := trivial
theorem PySem.W.Fast.tw8389767622691199132 : True := trivial
theorem PySem.W.Fast.tw14890718305965116518 : True := trivial
theorem PySem.W.Fast.tw6524012020557602263 : True := trivial
theorem PySem.W.Fast.tw15078430188870688682 : True := trivial
theorem PySem.W.Fast.tw7595035424409041769 : True := trivial
theorem PySem.W.Fast.tw13229964786204400207 : True := trivial
theorem PySem.W.Fast.tw17594464468385238893 : True := trivial
theorem PySem.W.Fast.tw1711913259524474577 : True := trivial
theorem PySem.W.Fast.tw6523480135003379579 : True := trivial
theorem PySem.W.Fast.tw7909037955481347998 : True := trivial
theorem PySem.W.Fast.tw16147287613695127830 : True := trivial
theorem PySem.W.Fast.tw5268699550359062221 : True := trivial
theorem PySem.W.Fast.tw2414989438722527470 : True := trivial
theorem PySem.W.Fast.tw10498399920406314068 : True := trivial
theorem PySem.W.Fast.tw3044500375585848105 : True := trivial
theorem PySem.W.Fast.tw6423711466199847332 : True := trivial
theorem PySem.W.Fast.tw10240643606689731753 : True := trivial
theorem PySem.W.Fast.tw14695577521088703771 : True := trivial
theorem PySem.W.Fast.tw7431373289023246685 : True := trivial
theorem PySem.W.Fast.tw3464265951359171887 : True := trivial
theorem PySem.W.Fast.tw14341424576666491248 : True := trivial
theorem PySem.W.Fast.tw17875563887496081769 : True := trivial
theorem PySem.W.Fast.tw742652026833431244 : True := trivial
theorem PySem.W.Fast.tw13130566636875752000 : True := trivial
theorem PySem.W.Fast.tw13280845430579607156 : True := trivial
theorem PySem.W.Fast.tw6369373641479713837 : True := trivial
theorem PySem.W.Fast.tw17821169786665494954 : True := trivial
theorem PySem.W.Fast.tw217494134715833283 : True := trivial
theorem PySem.W.Fast.tw7593364142560807989 : True := trivial
theorem PySem.W.Fast.tw890731607768017532 : True := trivial
theorem PySem.W.Fast.tw3623306042479101272 : True := trivial
theorem PySem.W.Fast.tw5719300068070272776 : True := trivial
theorem PySem.W.Fast.tw12912343462407334757 : True := trivial
theorem PySem.W.Fast.tw10581458810771831527 : True := trivial
theorem PySem.W.Fast.tw15818927440865807853 : True := trivial
theorem PySem.W.Fast.tw6911883819523759582 : True := trivial
theorem PySem.W.Fast.tw8510178525318890035 : True := trivial
theorem PySem.W.Fast.tw13277018092012098862 : True := trivial
theorem PySem.W.Fast.tw9141032851247360127 : True := trivial
theorem PySem.W.Fast.tw2774758985074360562 : True := trivial
theorem PySem.W.Fast.tw12515715368618840303 : True := trivial
theorem PySem.W.Fast.tw15603044671793996146 : True := trivial
theorem PySem.W.Fast.tw15056995969410321302 : True := trivial
theorem PySem.W.Fast.tw5535844054028862451 : True := trivial
theorem PySem.W.Fast.tw12157893611077573741 : True := trivial
theorem PySem.W.Fast.tw14038651138640440346 : True := trivial
theorem PySem.W.Fast.tw3705928274003593604 : True := trivial
theorem PySem.W.Fast.tw16633559420614265581 : True := trivial
theorem PySem.W.Fast.tw3163141943285094739 : True := trivial
theorem PySem.W.Fast.tw12991418455713517466 : True := trivial
theorem PySem.W.Fast.tw301739743416359465 : True := trivial
theorem PySem.W.Fast.tw2332976666810784848 : True := trivial
theorem PySem.W.Fast.tw3190505365391037476 : True := trivial
theorem PySem.W.Fast.tw17544621642404474904 : True := trivial
theorem PySem.W.Fast.tw15638408048088402522 : True := trivial
theorem PySem.W.Fast.tw2405367836436075814 : True := trivial
theorem PySem.W.Fast.tw1682810389008643449 : True := trivial
theorem PySem.W.Fast.tw3180553739284580887 : True := trivial
theorem PySem.W.Fast.tw17545740569032971463 : True := trivial
theorem PySem.W.Fast.tw4104114706407821298 : True := trivial
theorem PySem.W.Fast.tw1295477958388911903 : True := trivial
theorem PySem.W.Fast.tw17684843994327004884 : True := trivial
theorem PySem.W.Fast.tw8122892230046780222 : True := trivial
theorem PySem.W.Fast.tw15178945443116694728 : True := trivial
theorem PySem.W.Fast.tw7824183054379947207 : True := trivial
theorem PySem.W.Fast.tw13688075293830364476 : True := trivial
theorem PySem.W.Fast.tw8614818701586316486 : True := trivial
theorem PySem.W.Fast.tw10807266223187226648 : True := trivial
theorem PySem.W.Fast.tw16418333173246700053 : True := trivial
theorem PySem.W.Fast.tw670415235779591834 : True := trivial
theorem PySem.W.Fast.tw16722709631177964190 : True := trivial
theorem PySem.W.Fast.tw3421714945539908821 : True := trivial
theorem PySem.W.Fast.tw13912253138084811199 : True := trivial
theorem PySem.W.Fast.tw11393412869206853627 : True := trivial
theorem PySem.W.Fast.tw576371392799994623 : True := trivial
theorem PySem.W.Fast.tw1581785299230390649 : True := trivial
theorem PySem.W.Fast.tw12239455296150699282 : True := trivial
theorem PySem.W.Fast.tw12485460220688086236 : True := trivial
theorem PySem.W.Fast.tw2653067118775001545 : True := trivial
theorem PySem.W.Fast.tw2077611227024399025 : True := trivial
theorem PySem.W.Fast.tw4377776699572480918 : True := trivial
theorem PySem.W.Fast.tw9977164378790092103 : True := trivial
theorem PySem.W.Fast.tw1158278263601817668 : True := trivial
theorem PySem.W.Fast.tw9732380722724874562 : True := trivial
theorem PySem.W.Fast.tw4055915459479740470 : True := trivial
theorem PySem.W.Fast.tw2049826240386387210 : True := trivial
theorem PySem.W.Fast.tw10712553011340978032 : True := trivial
theorem PySem.W.Fast.tw17928900687866932566 : True := trivial
theorem PySem.W.Fast.tw17489827790258756199 : True := trivial
theorem PySem.W.Fast.tw5718333451656250309 : True := trivial
theorem PySem.W.Fast.tw875926418706793245 : True := trivial
theorem PySem.W.Fast.tw154044953763735897 : True := trivial
theorem PySem.W.Fast.tw886198689816037669 : True := trivial
theorem PySem.W.Fast.tw13140671499706605203 : True := trivial
theorem PySem.W.Fast.tw3964417930838065874 : True := trivial
theorem PySem.W.Fast.tw18111037777488871967 : True := trivial
theorem PySem.W.Fast.tw2445264362322511610 : True := trivial
theorem PySem.W.Fast.tw6069952428750363416 : True := trivial
theorem PySem.W.Fast.tw14408666325361201284 : True := trivial
theorem PySem.W.Fast.tw660014337563419498 : True := trivial
theorem PySem.W.Fast.tw10123658826774888045 : True := trivial
theorem PySem.W.Fast.tw10731990436479433861 : True := trivial
theorem PySem.W.Fast.tw81448717206200560 : True := trivial
theorem PySem.W.Fast.tw15799870856411267926 : True := trivial
theorem PySem.W.Fast.tw16262819255604345979 : True := trivial
theorem PySem.W.Fast.tw17115254256828487472 : True := trivial
theorem PySem.W.Fast.tw17830542174146143891 : True := trivial
theorem PySem.W.Fast.tw14762678230817586745 : True := trivial
theorem PySem.W.Fast.tw16340399484437562441 : True := trivial
theorem PySem.W.Fast.tw8012434403790115570 : True := trivial
theorem PySem.W.Fast.tw161678886449514688 : True := trivial
theorem PySem.W.Fast.tw14462765209737785512 : True := trivial
theorem PySem.W.Fast.tw9627564495891535094 : True := trivial
theorem PySem.W.Fast.tw15100853611195821863 : True := trivial
theorem PySem.W.Fast.tw12139547425482159193 : True := trivial
theorem PySem.W.Fast.tw11434445146426644094 : True := trivial
theorem PySem.W.Fast.tw17191942519282194705 : True := trivial
theorem PySem.W.Fast.tw12129331799614864556 : True := trivial
theorem PySem.W.Fast.tw10126702528608088879 : True := trivial
theorem PySem.W.Fast.tw15061731027146127103 : True := trivial
theorem PySem.W.Fast.tw942576882344377901 : True := trivial
theorem PySem.W.Fast.tw523460064425953375 : True := trivial
theorem PySem.W.Fast.tw4888246916531342505 : True := trivial
theorem PySem.W.Fast.tw3559767487390542516 : True := trivial
theorem PySem.W.Fast.tw5499118456875975018 : True := trivial
theorem PySem.W.Fast.tw5455438537723117862 : True := trivial
theorem PySem.W.Fast.tw12719423913078656770 : True := trivial
theorem PySem.W.Fast.tw13113441889777430914 : True := trivial
theorem PySem.W.Fast.tw927561836998046948 : True := trivial
theorem PySem.W.Fast.tw15089647754059971981 : True := trivial
theorem PySem.W.Fast.tw13806169478749725588 : True := trivial
theorem PySem.W.Fast.tw16754620403293882342 : True := trivial
theorem PySem.W.Fast.tw17052246977225129652 : True := trivial
theorem PySem.W.Fast.tw13726233751828951554 : True := trivial
theorem PySem.W.Fast.tw3426526333559873125 : True := trivial
theorem PySem.W.Fast.tw128217332686163708 : True := trivial
theorem PySem.W.Fast.tw7954269078003021797 : True := trivial
theorem PySem.W.Fast.tw11350587544166747267 : True := trivial
theorem PySem.W.Fast.tw6841891207613174715 : True := trivial
theorem PySem.W.Fast.tw11758765658955886408 : True := trivial
theorem PySem.W.Fast.tw18288491308229663126 : True := trivial
theorem PySem.W.Fast.tw3046079686848969799 : True := trivial
theorem PySem.W.Fast.tw4853417339943700322 : True := trivial
theorem PySem.W.Fast.tw13288375163756044644 : True := trivial
theorem PySem.W.Fast.tw781695836391107031 : True := trivial
theorem PySem.W.Fast.tw6260969053724762628 : True := trivial
theorem PySem.W.Fast.tw10747705956543056569 : True := trivial
theorem PySem.W.Fast.tw14585653763120270143 : True := trivial
theorem PySem.W.Fast.tw14279196734216033119 : True := trivial
theorem PySem.W.Fast.tw15322960466862150369 : True := trivial
theorem PySem.W.Fast.tw16996353742889930090 : True := trivial
theorem PySem.W.Fast.tw11153768203519495928 : True := trivial
theorem PySem.W.Fast.tw17748573277655809800 : True := trivial
theorem PySem.W.Fast.tw15617562021183517873 : True := trivial
theorem PySem.W.Fast.tw13726587086495333149 : True := trivial
theorem PySem.W.Fast.tw8918626047571121878 : True := trivial
theorem PySem.W.Fast.tw13319881423254075671 : True := trivial
theorem PySem.W.Fast.tw16410406024142411452 : True := trivial
theorem PySem.W.Fast.tw8599199211941066377 : True := trivial
theorem PySem.W.Fast.tw111221954788981723 : True := trivial
theorem PySem.W.Fast.tw16403415615590004153 : True := trivial
theorem PySem.W.Fast.tw9522959903775060793 : True := trivial
theorem PySem.W.Fast.tw12572211770846930355 : True := trivial
theorem PySem.W.Fast.tw8272529687538063672 : True := trivial
theorem PySem.W.Fast.tw15508606713706324206 : True := trivial
theorem PySem.W.Fast.tw6263058169937294338 : True := trivial
theorem PySem.W.Fast.tw8388623650782372334 : True := trivial
theorem PySem.W.Fast.tw17939380827821963100 : True := trivial
theorem PySem.W.Fast.tw3092716043302895601 : True := trivial
theorem PySem.W.Fast.tw14364223080891435726 : True := trivial
theorem PySem.W.Fast.tw17588881245403049150 : True := trivial
theorem PySem.W.Fast.tw6770211332283284240 : True := trivial
theorem PySem.W.Fast.tw15728132899747611976 : True := trivial
theorem PySem.W.Fast.tw2785836070087140342 : True := trivial
theorem PySem.W.Fast.tw9179510633447559053 : True := trivial
theorem PySem.W.Fast.tw9124311278975777323 : True := trivial
theorem PySem.W.Fast.tw13252800570303388932 : True := trivial
theorem PySem.W.Fast.tw9722164912584106442 : True := trivial
theorem PySem.W.Fast.tw1575199215677793100 : True := trivial
theorem PySem.W.Fast.tw1049738434092802589 : True := trivial
theorem PySem.W.Fast.tw1611306886368853086 : True := trivial
theorem PySem.W.Fast.tw8276106517632242658 : True := trivial
theorem PySem.W.Fast.tw3992029709399878281 : True := trivial
theorem PySem.W.Fast.tw18416434285396753901 : True := trivial
theorem PySem.W.Fast.tw16624341066218186190 : True := trivial
theorem PySem.W.Fast.tw11322682735280946134 : True := trivial
theorem PySem.W.Fast.tw13964176962975614255 : True := trivial
theorem PySem.W.Fast.tw10876265151544206388 : True := trivial
theorem PySem.W.Fast.tw11356982171865422925 : True := trivial
theorem PySem.W.Fast.tw7167992612189757242 : True := trivial
theorem PySem.W.Fast.tw6958073783109396956 : True := trivial
theorem PySem.W.Fast.tw169796814592132453 : True := trivial
theorem PySem.W.Fast.tw4501514614486498948 : True := trivial
theorem PySem.W.Fast.tw16378150391874242915 : True := trivial
theorem PySem.W.Fast.tw9578601484081627034 : True := trivial
theorem PySem.W.Fast.tw17481287605335474449 : True := trivial
theorem PySem.W.Fast.tw10502584548259088039 : True := trivial
theorem PySem.W.Fast.tw10272356952773940908 : True := trivial
theorem PySem.W.Fast.tw17687129507531037177 : True := trivial
theorem PySem.W.Fast.tw16106180832026021773 : True := trivial
theorem PySem.W.Fast.tw7578535725876709724 : True := trivial
theorem PySem.W.Fast.tw7604389441819774431 : True := trivial
theorem PySem.W.Fast.tw13566751302144297133 : True := trivial
theorem PySem.W.Fast.tw9058502625973386092 : True := trivial
theorem PySem.W.Fast.tw8485522745091967733 : True := trivial
theorem PySem.W.Fast.tw14750462428707359629 : True := trivial
theorem PySem.W.Fast.tw9599451371356548222 : True := trivial
theorem PySem.W.Fast.tw10924516050450655040 : True := trivial
theorem PySem.W.Fast.tw2951211540158263646 : True := trivial
theorem PySem.W.Fast.tw10522129499558504417 : True := trivial
theorem PySem.W.Fast.tw17845886504970495879 : True := trivial
theorem PySem.W.Fast.tw18237984787076503199 : True := trivial
theorem PySem.W.Fast.tw7338794192535230348 : True := trivial
theorem PySem.W.Fast.tw14852094812782516483 : True := trivial
theorem PySem.W.Fast.tw8999433249471935990 : True := trivial
theorem PySem.W.Fast.tw4644469092258301994 : True := trivial
theorem PySem.W.Fast.tw12778453577367383452 : True := trivial
theorem PySem.W.Fast.tw9312658848402537275 : True := trivial
theorem PySem.W.Fast.tw968549354142162910 : True := trivial
theorem PySem.W.Fast.tw1750031387417688070 : True := trivial
theorem PySem.W.Fast.tw17068213890391763222 : True := trivial
theorem PySem.W.Fast.tw14584102786707150085 : True := trivial
theorem PySem.W.Fast.tw5433325497508587355 : True := trivial
theorem PySem.W.Fast.tw11693682908448632174 : True := trivial
theorem PySem.W.Fast.tw8961308365755608540 : True := trivial
theorem PySem.W.Fast.tw6864579574868263034 : True := trivial
theorem PySem.W.Fast.tw9745034055426175928 : True := trivial
theorem PySem.W.Fast.tw14660419495719629298 : True := trivial
theorem PySem.W.Fast.tw13007989192132547017 : True := trivial
theorem PySem.W.Fast.tw13865229473954220126 : True := trivial
theorem PySem.W.Fast.tw7266490390052118103 : True := trivial
theorem PySem.W.Fast.tw5781462076942645535 : True := trivial
theorem PySem.W.Fast.tw8519838502470680492 : True := trivial
theorem PySem.W.Fast.tw921464171389774821 : True := trivial
theorem PySem.W.Fast.tw13794562789749726298 : True := trivial
theorem PySem.W.Fast.tw5228858608082253105 : True := trivial
theorem PySem.W.Fast.tw2937879271518700996 : True := trivial
theorem PySem.W.Fast.tw9706452357274578334 : True := trivial
theorem PySem.W.Fast.tw3049213638172562464 : True := trivial
theorem PySem.W.Fast.tw8296353358385209581 : True := trivial
theorem PySem.W.Fast.tw16426263885536760166 : True := trivial
theorem PySem.W.Fast.tw12646139752472542896 : True := trivial
theorem PySem.W.Fast.tw7080095051082642382 : True := trivial
theorem PySem.W.Fast.tw12781970957551940172 : True := trivial
theorem PySem.W.Fast.tw5026324985444422842 : True := trivial
theorem PySem.W.Fast.tw11442350001352624413 : True := trivial
theorem PySem.W.Fast.tw14189419288470481407 : True := trivial
theorem PySem.W.Fast.tw1703838251508217729 : True := trivial
theorem PySem.W.Fast.tw3291647581712405150 : True := trivial
theorem PySem.W.Fast.tw8652913777020380064 : True := trivial
theorem PySem.W.Fast.tw18222354973373776950 : True := trivial
theorem PySem.W.Fast.tw2991268904710456465 : True := trivial
theorem PySem.W.Fast.tw11602265884425787697 : True := trivial
theorem PySem.W.Fast.tw7249655662111910968 : True := trivial
theorem PySem.W.Fast.tw6361896296581522724 : True := trivial
theorem PySem.W.Fast.tw6981349983241606018 : True := trivial
theorem PySem.W.Fast.tw5447621983700289157 : True := trivial
theorem PySem.W.Fast.tw193632450458865463 : True := trivial
theorem PySem.W.Fast.tw15010947129109140309 : True := trivial
theorem PySem.W.Fast.tw15301142643707025911 : True := trivial
theorem PySem.W.Fast.tw11798874968490064117 : True := trivial
theorem PySem.W.Fast.tw1786291086319549497 : True := trivial
theorem PySem.W.Fast.tw17730589473324765146 : True := trivial
theorem PySem.W.Fast.tw6948076344392176909 : True := trivial
theorem PySem.W.Fast.tw7534538324795867362 : True := trivial
theorem PySem.W.Fast.tw8479834062597734900 : True := trivial
theorem PySem.W.Fast.tw17869803240219010264 : True := trivial
theorem PySem.W.Fast.tw770483598004763787 : True := trivial
theorem PySem.W.Fast.tw16760504066074858673 : True := trivial
theorem PySem.W.Fast.tw13900291714938587068 : True := trivial
theorem PySem.W.Fast.tw5800049002359629886 : True := trivial
theorem PySem.W.Fast.tw7697331343159648065 : True := trivial
theorem PySem.W.Fast.tw771659301379843242 : True := trivial
theorem PySem.W.Fast.tw17889840825718361675 : True := trivial
theorem PySem.W.Fast.tw6356990879445943570 : True := trivial
theorem PySem.W.Fast.tw11607080831037544310 : True := trivial
theorem PySem.W.Fast.tw5630417746601455590 : True := trivial
theorem PySem.W.Fast.tw3144100524589551836 : True := trivial
theorem PySem.W.Fast.tw14626218349546919174 : True := trivial
theorem PySem.W.Fast.tw14860634523811041734 : True := trivial
theorem PySem.W.Fast.tw4633530197759997400 : True := trivial
theorem PySem.W.Fast.tw12078934553959906247 : True := trivial
theorem PySem.W.Fast.tw17185905890188726530 : True := trivial
theorem PySem.W.Fast.tw2420912829732787405 : True := trivial
theorem PySem.W.Fast.tw111072376798187585 : True := trivial
theorem PySem.W.Fast.tw1555498970249438677 : True := trivial
theorem PySem.W.Fast.tw10039414826748049382 : True := trivial
theorem PySem.W.Fast.tw15600029383312531332 : True := trivial
theorem PySem.W.Fast.tw17720910610381905600 : True := trivial
theorem PySem.W.Fast.tw461631936089686895 : True := trivial
theorem PySem.W.Fast.tw8467458947265309502 : True := trivial
theorem PySem.W.Fast.tw6056809593459157651 : True := trivial
theorem PySem.W.Fast.tw1379345238628555832 : True := trivial
theorem PySem.W.Fast.tw16076670935403801550 : True := trivial
theorem PySem.W.Fast.tw2201270462046807655 : True := trivial
theorem PySem.W.Fast.tw7497132691351542403 : True := trivial
theorem PySem.W.Fast.tw14901454587562234441 : True := trivial
theorem PySem.W.Fast.tw4795608256854488099 : True := trivial
theorem PySem.W.Fast.tw1463910578984303166 : True := trivial
theorem PySem.W.Fast.tw8507569844778388364 : True := trivial
theorem PySem.W.Fast.tw11897145674478712691 : True := trivial
theorem PySem.W.Fast.tw8803715160633040268 : True := trivial
theorem PySem.W.Fast.tw11928419778063658422 : True := trivial
theorem PySem.W.Fast.tw9687713623698904254 : True := trivial
theorem PySem.W.Fast.tw15665845938272728320 : True := trivial
theorem PySem.W.Fast.tw253714376384537178 : True := trivial
theorem PySem.W.Fast.tw3244532926304904744 : True := trivial
theorem PySem.W.Fast.tw5790675019237859617 : True := trivial
theorem PySem.W.Fast.tw3849121331415025782 : True := trivial
theorem PySem.W.Fast.tw18075605305317892256 : True := trivial
theorem PySem.W.Fast.tw17479069978971333947 : True := trivial
theorem PySem.W.Fast.tw1612025522927535440 : True := trivial
theorem PySem.W.Fast.tw2592567910261971079 : True := trivial
theorem PySem.W.Fast.tw676142840560305973 : True := trivial
theorem PySem.W.Fast.tw5712241674057349439 : True := trivial
theorem PySem.W.Fast.tw6465992018062248360 : True := trivial
theorem PySem.W.Fast.tw17077127118107786664 : True := trivial
theorem PySem.W.Fast.tw253752216509540776 : True := trivial
theorem PySem.W.Fast.tw5274650733771523052 : True := trivial
theorem PySem.W.Fast.tw6189759397298895877 : True := trivial
theorem PySem.W.Fast.tw7758392000917072562 : True := trivial
theorem PySem.W.Fast.tw17411830814624845530 : True := trivial
theorem PySem.W.Fast.tw10968508712462761627 : True := trivial
theorem PySem.W.Fast.tw10372274179618946507 : True := trivial
theorem PySem.W.Fast.tw1042086230285766938 : True := trivial
theorem PySem.W.Fast.tw5064391232831956447 : True := trivial
theorem PySem.W.Fast.tw14912528026877152896 : True := trivial
theorem PySem.W.Fast.tw14545041852581654234 : True := trivial
theorem PySem.W.Fast.tw6009280378579014365 : True := trivial
theorem PySem.W.Fast.tw16360189336213473470 : True := trivial
theorem PySem.W.Fast.tw7183852818961519361 : True := trivial
theorem PySem.W.Fast.tw16730429289050705335 : True := trivial
theorem PySem.W.Fast.tw17942504515450376756 : True := trivial
theorem PySem.W.Fast.tw6056166125058189206 : True := trivial
theorem PySem.W.Fast.tw18387800703478252519 : True := trivial
theorem PySem.W.Fast.tw13876669273590756910 : True := trivial
theorem PySem.W.Fast.tw10165997169527935708 : True := trivial
theorem PySem.W.Fast.tw6874174994287521141 : True := trivial
theorem PySem.W.Fast.tw14666991651872878736 : True := trivial
theorem PySem.W.Fast.tw9349189453521960763 : True := trivial
theorem PySem.W.Fast.tw16898067203108583370 : True := trivial
theorem PySem.W.Fast.tw10581519667469569975 : True := trivial
theorem PySem.W.Fast.tw18278242158670503650 : True := trivial
theorem PySem.W.Fast.tw11769757877335504152 : True := trivial
theorem PySem.W.Fast.tw15125797485587516784 : True := trivial
theorem PySem.W.Fast.tw8534331893014846668 : True := trivial
theorem PySem.W.Fast.tw9412695297151047219 : True := trivial
theorem PySem.W.Fast.tw1128565317271374871 : True := trivial
theorem PySem.W.Fast.tw14046779432999343561 : True := trivial
theorem PySem.W.Fast.tw11492122588558236014 : True := trivial
theorem PySem.W.Fast.tw695016496256285698 : True := trivial
theorem PySem.W.Fast.tw13850741322721375740 : True := trivial
theorem PySem.W.Fast.tw4087466781415038287 : True := trivial
theorem PySem.W.Fast.tw14932015387684341287 : True := trivial
theorem PySem.W.Fast.tw17575817936843664308 : True := trivial
theorem PySem.W.Fast.tw10687460511060937243 : True := trivial
theorem PySem.W.Fast.tw968580200459659136 : True := trivial
theorem PySem.W.Fast.tw4548014792961658832 : True := trivial
theorem PySem.W.Fast.tw16540925234020986087 : True := trivial
theorem PySem.W.Fast.tw13384229751018972347 : True := trivial
theorem PySem.W.Fast.tw3341015677534164999 : True := trivial
theorem PySem.W.Fast.tw6533397941404794186 : True := trivial
theorem PySem.W.Fast.tw16602841812649380609 : True := trivial
theorem PySem.W.Fast.tw6248074409718748148 : True := trivial
theorem PySem.W.Fast.tw3527930678477591622 : True := trivial
theorem PySem.W.Fast.tw1440578203969214775 : True := trivial
theorem PySem.W.Fast.tw6331689657425130434 : True := trivial
theorem PySem.W.Fast.tw14246222193831794138 : True := trivial
theorem PySem.W.Fast.tw9063557567856242399 : True := trivial
theorem PySem.W.Fast.tw10850418857088276188 : True := trivial
theorem PySem.W.Fast.tw17064203393642326632 : True := trivial
theorem PySem.W.Fast.tw14715280049997846967 : True := trivial
theorem PySem.W.Fast.tw17739006019192751728 : True := trivial
theorem PySem.W.Fast.tw652096216840734882 : True := trivial
theorem PySem.W.Fast.tw12339984580989497356 : True := trivial
theorem PySem.W.Fast.tw3002608976256953863 : True := trivial
theorem PySem.W.Fast.tw10300036249969189257 : True := trivial
theorem PySem.W.Fast.tw245496601697437294 : True := trivial
theorem PySem.W.Fast.tw4219146130264445623 : True := trivial
theorem PySem.W.Fast.tw10028391073267043760 : True := trivial
theorem PySem.W.Fast.tw8529760393648696900 : True := trivial
theorem PySem.W.Fast.tw3958785067724009546 : True := trivial
theorem PySem.W.Fast.tw4742195574597657303 : True := trivial
theorem PySem.W.Fast.tw12854887917622032525 : True := trivial
theorem PySem.W.Fast.tw15558096367377794790 : True := trivial
theorem PySem.W.Fast.tw12311796691589970397 : True := trivial
theorem PySem.W.Fast.tw13332246605757076470 : True := trivial
theorem PySem.W.Fast.tw2291398337366610997 : True := trivial
theorem PySem.W.Fast.tw1359108166433043774 : True := trivial
theorem PySem.W.Fast.tw6718632856625873323 : True := trivial
theorem PySem.W.Fast.tw903828766704464016 : True := trivial
theorem PySem.W.Fast.tw14123261824549289530 : True := trivial
theorem PySem.W.Fast.tw17558181691464384451 : True := trivial
theorem PySem.W.Fast.tw3592940671138176972 : True := trivial
theorem PySem.W.Fast.tw7346786987335447394 : True := trivial
theorem PySem.W.Fast.tw1423398767302930125 : True := trivial
theorem PySem.W.Fast.tw631417821046680 : True := trivial
theorem PySem.W.Fast.tw692508058675635842 : True := trivial
theorem PySem.W.Fast.tw9208776808239380298 : True := trivial
theorem PySem.W.Fast.tw5505219342074680519 : True := trivial
theorem PySem.W.Fast.tw6397993676404136810 : True := trivial
theorem PySem.W.Fast.tw11942786595604262249 : True := trivial
theorem PySem.W.Fast.tw9438050322767291733 : True := trivial
theorem PySem.W.Fast.tw7887702494566974328 : True := trivial
theorem PySem.W.Fast.tw3484423474090109186 : True := trivial
theorem PySem.W.Fast.tw3042354596785947303 : True := trivial
theorem PySem.W.Fast.tw8004456723274368045 : True := trivial
theorem PySem.W.Fast.tw17287144799503724737 : True := trivial
theorem PySem.W.Fast.tw13991343223920976527 : True := trivial
theorem PySem.W.Fast.tw855668840119524191 : True := trivial
theorem PySem.W.Fast.tw7078031154395077155 : True := trivial
theorem PySem.W.Fast.tw714648614222034680 : True := trivial
theorem PySem.W.Fast.tw4130645908582073358 : True := trivial
theorem PySem.W.Fast.tw3383072631179515214 : True := trivial
theorem PySem.W.Fast.tw2647466728834241887 : True := trivial
theorem PySem.W.Fast.tw10525849393912773297 : True := trivial
theorem PySem.W.Fast.tw9758031818597932926 : True := trivial
theorem PySem.W.Fast.tw2197915399958628112 : True := trivial
theorem PySem.W.Fast.tw2873821905820596312 : True := trivial
theorem PySem.W.Fast.tw11913447495052427477 : True := trivial
theorem PySem.W.Fast.tw243050778387582243 : True := trivial
theorem PySem.W.Fast.tw2513032853839493471 : True := trivial
theorem PySem.W.Fast.tw7827176839061613784 : True := trivial
theorem PySem.W.Fast.tw16414231573512129281 : True := trivial
theorem PySem.W.Fast.tw13356922981408990795 : True := trivial
theorem PySem.W.Fast.tw13729712686583574470 : True := trivial
theorem PySem.W.Fast.tw9666268106093849939 : True := trivial
theorem PySem.W.Fast.tw15045740031776468950 : True := trivial
theorem PySem.W.Fast.tw12007020691787282122 : True := trivial
theorem PySem.W.Fast.tw17206823911534312354 : True := trivial
theorem PySem.W.Fast.tw13107547023053566793 : True := trivial
theorem PySem.W.Fast.tw16549028104141503097 : True := trivial
theorem PySem.W.Fast.tw17495343502066964189 : True := trivial
theorem PySem.W.Fast.tw14118176852227799735 : True := trivial
theorem PySem.W.Fast.tw4842508405894825170 : True := trivial
theorem PySem.W.Fast.tw10132666328776166108 : True := trivial
theorem PySem.W.Fast.tw17659009727176158732 : True := trivial
theorem PySem.W.Fast.tw15089539307460908379 : True := trivial
theorem PySem.W.Fast.tw9843584003034137710 : True := trivial
theorem PySem.W.Fast.tw5894507647469316792 : True := trivial
theorem PySem.W.Fast.tw12326063696520260980 : True := trivial
theorem PySem.W.Fast.tw9479171903769460058 : True := trivial
theorem PySem.W.Fast.tw11614612290317675289 : True := trivial
theorem PySem.W.Fast.tw18433684266130358399 : True := trivial
theorem PySem.W.Fast.tw5450051762622278142 : True := trivial
theorem PySem.W.Fast.tw15390284475185690361 : True := trivial
theorem PySem.W.Fast.tw12498843201764054080 : True := trivial
theorem PySem.W.Fast.tw17452009201363972540 : True := trivial
theorem PySem.W.Fast.tw18402197943153832813 : True := trivial
theorem PySem.W.Fast.tw12702428693226310879 : True := trivial
theorem PySem.W.Fast.tw10834973372168051250 : True := trivial
theorem PySem.W.Fast.tw7697776482518564561 : True := trivial
theorem PySem.W.Fast.tw14126995768993262311 : True := trivial
theorem PySem.W.Fast.tw8961644098071303100 : True := trivial
theorem PySem.W.Fast.tw16178718187177824752 : True := trivial
theorem PySem.W.Fast.tw668038807509090551 : True := trivial
theorem PySem.W.Fast.tw7919191143587373712 : True := trivial
theorem PySem.W.Fast.tw6924474708420552140 : True := trivial
theorem PySem.W.Fast.tw15651119312865528660 : True := trivial
theorem PySem.W.Fast.tw9967945835731933341 : True := trivial
theorem PySem.W.Fast.tw7810108592934856619 : True := trivial
theorem PySem.W.Fast.tw8590462893527254766 : True := trivial
theorem PySem.W.Fast.tw861925692096847456 : True := trivial
theorem PySem.W.Fast.tw9791202715376130966 : True := trivial
theorem PySem.W.Fast.tw2976505866102048272 : True := trivial
theorem PySem.W.Fast.tw2646712654970761825 : True := trivial
theorem PySem.W.Fast.tw16599316283276364582 : True := trivial
theorem PySem.W.Fast.tw17577213638728328995 : True := trivial
theorem PySem.W.Fast.tw5339326156254747835 : True := trivial
theorem PySem.W.Fast.tw13121415614417304617 : True := trivial
theorem PySem.W.Fast.tw2371354336744223661 : True := trivial
theorem PySem.W.Fast.tw18149882067426078818 : True := trivial
theorem PySem.W.Fast.tw13071195805236989687 : True := trivial
theorem PySem.W.Fast.tw12200403253921208928 : True := trivial
theorem PySem.W.Fast.tw13251848893493485448 : True := trivial
theorem PySem.W.Fast.tw6068083644609868027 : True := trivial
theorem PySem.W.Fast.tw2798963583594405637 : True := trivial
theorem PySem.W.Fast.tw2412966187901897549 : True := trivial
theorem PySem.W.Fast.tw17938917681178446481 : True := trivial
theorem PySem.W.Fast.tw10048821837434936508 : True := trivial
theorem PySem.W.Fast.tw15744305079268691336 : True := trivial
theorem PySem.W.Fast.tw14667099828159839988 : True := trivial
theorem PySem.W.Fast.tw16088273820928213391 : True := trivial
theorem PySem.W.Fast.tw8792203343560281977 : True := trivial
theorem PySem.W.Fast.tw4922437844511701151 : True := trivial
theorem PySem.W.Fast.tw9566198839438134171 : True := trivial
theorem PySem.W.Fast.tw7771895686418491973 : True := trivial
theorem PySem.W.Fast.tw17516819424544003013 : True := trivial
theorem PySem.W.Fast.tw14624598479152865006 : True := trivial
theorem PySem.W.Fast.tw6903731858242491551 : True := trivial
theorem PySem.W.Fast.tw14346085670361047279 : True := trivial
theorem PySem.W.Fast.tw6178396511949824290 : True := trivial
theorem PySem.W.Fast.tw5483473186461084029 : True := trivial
theorem PySem.W.Fast.tw15397139507888147517 : True := trivial
theorem PySem.W.Fast.tw16377583087480728885 : True := trivial
theorem PySem.W.Fast.tw16698399326190031578 : True := trivial
theorem PySem.W.Fast.tw6537388233528615793 : True := trivial
theorem PySem.W.Fast.tw6623397762230549144 : True := trivial
theorem PySem.W.Fast.tw12682008361692814496 : True := trivial
theorem PySem.W.Fast.tw9039638409568692411 : True := trivial
theorem PySem.W.Fast.tw5612359788610788106 : True := trivial
theorem PySem.W.Fast.tw7978470155736096016 : True := trivial
theorem PySem.W.Fast.tw17587502160581230606 : True := trivial
theorem PySem.W.Fast.tw16258826060349784371 : True := trivial
theorem PySem.W.Fast.tw1146439226369051138 : True := trivial
theorem PySem.W.Fast.tw5771313794764743299 : True := trivial
theorem PySem.W.Fast.tw14751916014947140573 : True := trivial
theorem PySem.W.Fast.tw8177736338104116562 : True := trivial
theorem PySem.W.Fast.tw13517274324216237936 : True := trivial
theorem PySem.W.Fast.tw13780273659969347416 : True := trivial
theorem PySem.W.Fast.tw7873500320907382370 : True := trivial
theorem PySem.W.Fast.tw12495940790714719878 : True := trivial
theorem PySem.W.Fast.tw12446679836729636413 : True := trivial
theorem PySem.W.Fast.tw9137222977778870002 : True := trivial
theorem PySem.W.Fast.tw11777873527290957879 : True := trivial
theorem PySem.W.Fast.tw8089690053019733208 : True := trivial
theorem PySem.W.Fast.tw11901827714057680927 : True := trivial
theorem PySem.W.Fast.tw9115745122567052790 : True := trivial
theorem PySem.W.Fast.tw2621927762244160667 : True := trivial
theorem PySem.W.Fast.tw5452428055593691033 : True := trivial
theorem PySem.W.Fast.tw13585577340922653183 : True := trivial
theorem PySem.W.Fast.tw7770646556232063976 : True := trivial
theorem PySem.W.Fast.tw529722775425928941 : True := trivial
theorem PySem.W.Fast.tw15354062395431965037 : True := trivial
theorem PySem.W.Fast.tw13442934630716753235 : True := trivial
theorem PySem.W.Fast.tw4769739692629284190 : True := trivial
theorem PySem.W.Fast.tw8121733705990254661 : True := trivial
theorem PySem.W.Fast.tw6804122391903696256 : True := trivial
theorem PySem.W.Fast.tw14774024300391878475 : True := trivial
theorem PySem.W.Fast.tw336619328368722229 : True := trivial
theorem PySem.W.Fast.tw12328575980866763238 : True := trivial
theorem PySem.W.Fast.tw17483910578515245309 : True := trivial
theorem PySem.W.Fast.tw6839073854403758626 : True := trivial
theorem PySem.W.Fast.tw6579319065926011591 : True := trivial
theorem PySem.W.Fast.tw13447760578506385946 : True := trivial
theorem PySem.W.Fast.tw2563796988140631884 : True := trivial
theorem PySem.W.Fast.tw1089197232691912662 : True := trivial
theorem PySem.W.Fast.tw984807903186483380 : True := trivial
theorem PySem.W.Fast.tw15526100861973759991 : True := trivial
theorem PySem.W.Fast.tw998822144095520109 : True := trivial
theorem PySem.W.Fast.tw1290438099940828574 : True := trivial
theorem PySem.W.Fast.tw13878982318837373105 : True := trivial
theorem PySem.W.Fast.tw2201954134352685394 : True := trivial
theorem PySem.W.Fast.tw2600310428952097650 : True := trivial
theorem PySem.W.Fast.tw1817538003588731882 : True := trivial
theorem PySem.W.Fast.tw12553722592358984465 : True := trivial
theorem PySem.W.Fast.tw13412666181957351896 : True := trivial
theorem PySem.W.Fast.tw13927349778616683504 : True := trivial
theorem PySem.W.Fast.tw5611615524445694676 : True := trivial
theorem PySem.W.Fast.tw13434480094833066207 : True := trivial
theorem PySem.W.Fast.tw5052649699262774004 : True := trivial
theorem PySem.W.Fast.tw17480868827534205477 : True := trivial
theorem PySem.W.Fast.tw15190847983288042502 : True := trivial
theorem PySem.W.Fast.tw12654934832051421384 : True := trivial
theorem PySem.W.Fast.tw11510735874062411207 : True := trivial
theorem PySem.W.Fast.tw17091047973610816553 : True := trivial
theorem PySem.W.Fast.tw792949151336452975 : True := trivial
theorem PySem.W.Fast.tw17339419540169221552 : True := trivial
theorem PySem.W.Fast.tw10935765692538712741 : True := trivial
theorem PySem.W.Fast.tw12520105824463382091 : True := trivial
theorem PySem.W.Fast.tw12936175175138746924 : True := trivial
theorem PySem.W.Fast.tw17974542540282007062 : True := trivial
theorem PySem.W.Fast.tw2676300601015602938 : True := trivial
theorem PySem.W.Fast.tw11866219326909453847 : True := trivial
theorem PySem.W.Fast.tw14252117417789945318 : True := trivial
theorem PySem.W.Fast.tw16470393296911859710 : True := trivial
theorem PySem.W.Fast.tw5934707438581987192 : True := trivial
theorem PySem.W.Fast.tw15778419832562086297 : True := trivial
theorem PySem.W.Fast.tw11742626935099005794 : True := trivial
theorem PySem.W.Fast.tw9420863266257219546 : True := trivial
theorem PySem.W.Fast.tw16929514258060205759 : True := trivial
theorem PySem.W.Fast.tw6060842351204986561 : True := trivial
theorem PySem.W.Fast.tw13984586902735593280 : True := trivial
theorem PySem.W.Fast.tw10141095789949255855 : True := trivial
theorem PySem.W.Fast.tw4395093495310835212 : True := trivial
theorem PySem.W.Fast.tw14448313750471028879 : True := trivial
theorem PySem.W.Fast.tw9405954986597273643 : True := trivial
theorem PySem.W.Fast.tw18276694592731998059 : True := trivial
theorem PySem.W.Fast.tw15832110088472789755 : True := trivial
theorem PySem.W.Fast.tw16218139043814423259 : True := trivial
theorem PySem.W.Fast.tw13931542271387014450 : True := trivial
theorem PySem.W.Fast.tw3891334936980819232 : True := trivial
theorem PySem.W.Fast.tw17024145795994163006 : True := trivial
theorem PySem.W.Fast.tw15766257021388049645 : True := trivial
theorem PySem.W.Fast.tw9875023002466793379 : True := trivial
theorem PySem.W.Fast.tw16919380859076373963 : True := trivial
theorem PySem.W.Fast.tw1007017704293407456 : True := trivial
theorem PySem.W.Fast.tw12205710851432462861 : True := trivial
theorem PySem.W.Fast.tw3050460663375454590 : True := trivial
theorem PySem.W.Fast.tw1589383479149327027 : True := trivial
theorem PySem.W.Fast.tw15267634046456627759 : True := trivial
theorem PySem.W.Fast.tw8559939590965142810 : True := trivial
theorem PySem.W.Fast.tw5335929906576710413 : True := trivial
theorem PySem.W.Fast.tw16821759324797849572 : True := trivial
theorem PySem.W.Fast.tw15940844372409454329 : True := trivial
theorem PySem.W.Fast.tw17350843973424148271 : True := trivial
theorem PySem.W.Fast.tw2703652957698578154 : True := trivial
theorem PySem.W.Fast.tw9836004159147518104 : True := trivial
theorem PySem.W.Fast.tw9059301781181685132 : True := trivial
theorem PySem.W.Fast.tw7958105409285266346 : True := trivial
theorem PySem.W.Fast.tw4965256588975040416 : True := trivial
theorem PySem.W.Fast.tw13067576048787199954 : True := trivial
theorem PySem.W.Fast.tw1245639520966366660 : True := trivial
theorem PySem.W.Fast.tw921955877907596337 : True := trivial
theorem PySem.W.Fast.tw12409390943709604438 : True := trivial
theorem PySem.W.Fast.tw10976816613713172059 : True := trivial
theorem PySem.W.Fast.tw12532696166800404648 : True := trivial
theorem PySem.W.Fast.tw2278175598716525819 : True := trivial
theorem PySem.W.Fast.tw16276464276849975610 : True := trivial
theorem PySem.W.Fast.tw1381836302431663951 : True := trivial
theorem PySem.W.Fast.tw11908118788664659131 : True := trivial
theorem PySem.W.Fast.tw5222681905777878950 : True := trivial
theorem PySem.W.Fast.tw3926992257958885230 : True := trivial
theorem PySem.W.Fast.tw5304931432832243231 : True := trivial
theorem PySem.W.Fast.tw7592845768185649313 : True := trivial
theorem PySem.W.Fast.tw5138920499880019442 : True := trivial
theorem PySem.W.Fast.tw11714744699236539262 : True := trivial
theorem PySem.W.Fast.tw9328510136175050163 : True := trivial
theorem PySem.W.Fast.tw1110339262050269100 : True := trivial
theorem PySem.W.Fast.tw7481084414270681907 : True := trivial
theorem PySem.W.Fast.tw8411683338714592753 : True := trivial
theorem PySem.W.Fast.tw6430092604803782980 : True := trivial
theorem PySem.W.Fast.tw16769940841097623946 : True := trivial
theorem PySem.W.Fast.tw11002049128063327763 : True := trivial
theorem PySem.W.Fast.tw16329909926652968255 : True := trivial
theorem PySem.W.Fast.tw8649010563548122744 : True := trivial
theorem PySem.W.Fast.tw2580128853257629648 : True := trivial
theorem PySem.W.Fast.tw1324108425632827147 : True := trivial
theorem PySem.W.Fast.tw3657139815739278718 : True := trivial
theorem PySem.W.Fast.tw4159415492444627179 : True := trivial
theorem PySem.W.Fast.tw4003786220943685345 : True := trivial
theorem PySem.W.Fast.tw16682527090055638807 : True := trivial
theorem PySem.W.Fast.tw9095713307389164636 : True := trivial
theorem PySem.W.Fast.tw3505760128924797904 : True := trivial
theorem PySem.W.Fast.tw860139576219672162 : True := trivial
theorem PySem.W.Fast.tw8106180313112010003 : True := trivial
theorem PySem.W.Fast.tw5323445033958206060 : True := trivial
theorem PySem.W.Fast.tw10837572541407956552 : True := trivial
theorem PySem.W.Fast.tw10846340669716309095 : True := trivial
theorem PySem.W.Fast.tw18232397798641288490 : True := trivial
theorem PySem.W.Fast.tw11985814546832236426 : True := trivial
theorem PySem.W.Fast.tw10075107956313416078 : True := trivial
theorem PySem.W.Fast.tw4758251642489326584 : True := trivial
theorem PySem.W.Fast.tw11079714250580921300 : True := trivial
theorem PySem.W.Fast.tw237693502849272687 : True := trivial
theorem PySem.W.Fast.tw16502496065855177127 : True := trivial
theorem PySem.W.Fast.tw7846799909964995022 : True := trivial
theorem PySem.W.Fast.tw4347961489165366772 : True := trivial
theorem PySem.W.Fast.tw11151337198388050307 : True := trivial
theorem PySem.W.Fast.tw17642187501046424642 : True := trivial
theorem PySem.W.Fast.tw5679818046190006644 : True := trivial
theorem PySem.W.Fast.tw2704112680482591912 : True := trivial
theorem PySem.W.Fast.tw16492276122273093383 : True := trivial
theorem PySem.W.Fast.tw5678213498937913831 : True := trivial
theorem PySem.W.Fast.tw13834486578843967326 : True := trivial
theorem PySem.W.Fast.tw3718585903472596169 : True := trivial
theorem PySem.W.Fast.tw7246475622798153624 : True := trivial
theorem PySem.W.Fast.tw17228178943135282621 : True := trivial
theorem PySem.W.Fast.tw12128294309881698456 : True := trivial
theorem PySem.W.Fast.tw11464165417088725269 : True := trivial
theorem PySem.W.Fast.tw17245991776989160711 : True := trivial
theorem PySem.W.Fast.tw10732842668324792620 : True := trivial
theorem PySem.W.Fast.tw9127310920837202607 : True := trivial
theorem PySem.W.Fast.tw7539227596316784028 : True := trivial
theorem PySem.W.Fast.tw11841377250737912950 : True := trivial
theorem PySem.W.Fast.tw17949242256153186319 : True := trivial
theorem PySem.W.Fast.tw15519641250998763817 : True := trivial
theorem PySem.W.Fast.tw15477060250433629484 : True := trivial
theorem PySem.W.Fast.tw11616943905236176508 : True := trivial
theorem PySem.W.Fast.tw12298046627922379893 : True := trivial
theorem PySem.W.Fast.tw7964258656986663014 : True := trivial
theorem PySem.W.Fast.tw17785811775263662958 : True := trivial
theorem PySem.W.Fast.tw160939604201699684 : True := trivial
theorem PySem.W.Fast.tw6856075485602271957 : True := trivial
theorem PySem.W.Fast.tw4400629774223486519 : True := trivial
theorem PySem.W.Fast.tw15859587641098243000 : True := trivial
theorem PySem.W.Fast.tw10973866893275336982 : True := trivial
theorem PySem.W.Fast.tw3263072403800452779 : True := trivial
theorem PySem.W.Fast.tw1894831811780523564 : True := trivial
theorem PySem.W.Fast.tw272054111478593669 : True := trivial
theorem PySem.W.Fast.tw15448482521133725706 : True := trivial
theorem PySem.W.Fast.tw15719327930961890473 : True := trivial
theorem PySem.W.Fast.tw12280727053125729263 : True := trivial
theorem PySem.W.Fast.tw17157598347372875746 : True := trivial
theorem PySem.W.Fast.tw1392977799620338230 : True := trivial
theorem PySem.W.Fast.tw15628762412258347194 : True := trivial
theorem PySem.W.Fast.tw14012396698616643813 : True := trivial
theorem PySem.W.Fast.tw2313702038297244736 : True := trivial
theorem PySem.W.Fast.tw529717802389199632 : True := trivial
theorem PySem.W.Fast.tw13791514854774238493 : True := trivial
theorem PySem.W.Fast.tw7722862174235459935 : True := trivial
theorem PySem.W.Fast.tw2289219585618001750 : True := trivial
theorem PySem.W.Fast.tw421150527891190802 : True := trivial
theorem PySem.W.Fast.tw16373669512941953109 : True := trivial
theorem PySem.W.Fast.tw3189239273719958759 : True := trivial
theorem PySem.W.Fast.tw2125892412602424959 : True := trivial
theorem PySem.W.Fast.tw6541023482079184960 : True := trivial
theorem PySem.W.Fast.tw8592857394024802444 : True := trivial
theorem PySem.W.Fast.tw17501940275848489900 : True := trivial
theorem PySem.W.Fast.tw13087802242087801771 : True := trivial
theorem PySem.W.Fast.tw2029610487131451738 : True := trivial
theorem PySem.W.Fast.tw1225997390999067929 : True := trivial
theorem PySem.W.Fast.tw10050336526910855234 : True := trivial
theorem PySem.W.Fast.tw2972289471839230385 : True := trivial
theorem PySem.W.Fast.tw15127179711838583142 : True := trivial
theorem PySem.W.Fast.tw6119668346071864266 : True := trivial
theorem PySem.W.Fast.tw15646907175660681018 : True := trivial
theorem PySem.W.Fast.tw15187588645833249026 : True := trivial
theorem PySem.W.Fast.tw4987586955790999766 : True := trivial
theorem PySem.W.Fast.tw13580325360240401703 : True := trivial
theorem PySem.W.Fast.tw5804669570538447218 : True := trivial
theorem PySem.W.Fast.tw10694076642200537901 : True := trivial
theorem PySem.W.Fast.tw3426651390577999407 : True := trivial
theorem PySem.W.Fast.tw8170149902758138356 : True := trivial
theorem PySem.W.Fast.tw11547343960231008799 : True := trivial
theorem PySem.W.Fast.tw11404222186633487952 : True := trivial
theorem PySem.W.Fast.tw13959918325686400612 : True := trivial
theorem PySem.W.Fast.tw10639390964418275706 : True := trivial
theorem PySem.W.Fast.tw2653651892711330087 : True := trivial
theorem PySem.W.Fast.tw5349849740553874767 : True := trivial
theorem PySem.W.Fast.tw9105571831163038398 : True := trivial
theorem PySem.W.Fast.tw1736425675786855349 : True := trivial
theorem PySem.W.Fast.tw8070947976372027616 : True := trivial
theorem PySem.W.Fast.tw15063081415563941020 : True := trivial
theorem PySem.W.Fast.tw16251495578419729134 : True := trivial
theorem PySem.W.Fast.tw13002253190782847904 : True := trivial
theorem PySem.W.Fast.tw4686147155228539736 : True := trivial
theorem PySem.W.Fast.tw15447949812835520980 : True := trivial
theorem PySem.W.Fast.tw13069336532989811764 : True := trivial
theorem PySem.W.Fast.tw6979677997717200432 : True := trivial
theorem PySem.W.Fast.tw15921092589863178925 : True := trivial
theorem PySem.W.Fast.tw10469385429584691877 : True := trivial
theorem PySem.W.Fast.tw11843366614748035898 : True := trivial
theorem PySem.W.Fast.tw10837524005177619913 : True := trivial
theorem PySem.W.Fast.tw1566763780743427073 : True := trivial
theorem PySem.W.Fast.tw4608141242504436306 : True := trivial
theorem PySem.W.Fast.tw17272662650338178195 : True := trivial
theorem PySem.W.Fast.tw4585615864934094603 : True := trivial
theorem PySem.W.Fast.tw10560804508862799102 : True := trivial
theorem PySem.W.Fast.tw16251309311594748993 : True := trivial
theorem PySem.W.Fast.tw155745049134115310 : True := trivial
theorem PySem.W.Fast.tw5444138425324705892 : True := trivial
theorem PySem.W.Fast.tw16951040716822495991 : True := trivial
theorem PySem.W.Fast.tw5373415303149030812 : True := trivial
theorem PySem.W.Fast.tw8294506184479516196 : True := trivial
theorem PySem.W.Fast.tw12613564295250620585 : True := trivial
theorem PySem.W.Fast.tw7148689797650194478 : True := trivial
theorem PySem.W.Fast.tw6372942640754129559 : True := trivial
theorem PySem.W.Fast.tw12528362112343654081 : True := trivial
theorem PySem.W.Fast.tw7218610099633949386 : True := trivial
theorem PySem.W.Fast.tw15598711956393856201 : True := trivial
theorem PySem.W.Fast.tw5181800423057251735 : True := trivial
theorem PySem.W.Fast.tw3039736637646440043 : True := trivial
theorem PySem.W.Fast.tw3483469750077853763 : True := trivial
theorem PySem.W.Fast.tw8246516848041273119 : True := trivial
theorem PySem.W.Fast.tw11748710768424614156 : True := trivial
theorem PySem.W.Fast.tw17164882880109911858 : True := trivial
theorem PySem.W.Fast.tw16234105136020703565 : True := trivial
theorem PySem.W.Fast.tw12221465599861485333 : True := trivial
theorem PySem.W.Fast.tw4869492035328622391 : True := trivial
theorem PySem.W.Fast.tw10809035814982006351 : True := trivial
theorem PySem.W.Fast.tw14278213875621346657 : True := trivial
theorem PySem.W.Fast.tw13481265382944726856 : True := trivial
theorem PySem.W.Fast.tw5393626640602185762 : True := trivial
theorem PySem.W.Fast.tw14040037503385679528 : True := trivial
theorem PySem.W.Fast.tw11893298960005863762 : True := trivial
theorem PySem.W.Fast.tw8047592306245259837 : True := trivial
theorem PySem.W.Fast.tw18179465232191058680 : True := trivial
theorem PySem.W.Fast.tw14895808488964599816 : True := trivial
theorem PySem.W.Fast.tw9414803334824648833 : True := trivial
theorem PySem.W.Fast.tw10852341415504196234 : True := trivial
theorem PySem.W.Fast.tw7280888321529074774 : True := trivial
theorem PySem.W.Fast.tw4060386696693062731 : True := trivial
theorem PySem.W.Fast.tw10185717588520790305 : True := trivial
theorem PySem.W.Fast.tw6191269698757856214 : True := trivial
theorem PySem.W.Fast.tw11981097691614518824 : True := trivial
theorem PySem.W.Fast.tw13211301856084093061 : True := trivial
theorem PySem.W.Fast.tw18316196786302471254 : True := trivial
theorem PySem.W.Fast.tw6287864156537857207 : True := trivial
theorem PySem.W.Fast.tw2738260696862466690 : True := trivial
theorem PySem.W.Fast.tw2036379931628009939 : True := trivial
theorem PySem.W.Fast.tw15619776282005336915 : True := trivial
theorem PySem.W.Fast.tw11733982183053691217 : True := trivial
theorem PySem.W.Fast.tw17266846886330916082 : True := trivial
theorem PySem.W.Fast.tw9855356862295963126 : True := trivial
theorem PySem.W.Fast.tw1846177976887185492 : True := trivial
theorem PySem.W.Fast.tw6124419027842697799 : True := trivial
theorem PySem.W.Fast.tw1802750442264134408 : True := trivial
theorem PySem.W.Fast.tw1314597194838993435 : True := trivial
theorem PySem.W.Fast.tw6561150726340040069 : True := trivial
theorem PySem.W.Fast.tw3342709332114570509 : True := trivial
theorem PySem.W.Fast.tw10381492492453516853 : True := trivial
theorem PySem.W.Fast.tw18010862166029629063 : True := trivial
theorem PySem.W.Fast.tw2734733859388491220 : True := trivial
theorem PySem.W.Fast.tw7504395141909158883 : True := trivial
theorem PySem.W.Fast.tw6302311201777803053 : True := trivial
theorem PySem.W.Fast.tw8653763035185341766 : True := trivial
theorem PySem.W.Fast.tw5013335995232551600 : True := trivial
theorem PySem.W.Fast.tw7870610578569514269 : True := trivial
theorem PySem.W.Fast.tw1646628491463794678 : True := trivial
theorem PySem.W.Fast.tw18024964318614006184 : True := trivial
theorem PySem.W.Fast.tw15985745678131785369 : True := trivial
theorem PySem.W.Fast.tw17162930048340222990 : True := trivial
theorem PySem.W.Fast.tw10860872027592155285 : True := trivial
theorem PySem.W.Fast.tw4126962473758267796 : True := trivial
theorem PySem.W.Fast.tw14395931458325928557 : True := trivial
theorem PySem.W.Fast.tw10107816022617417846 : True := trivial
theorem PySem.W.Fast.tw15382371976917703209 : True := trivial
theorem PySem.W.Fast.tw13599715995443386963 : True := trivial
theorem PySem.W.Fast.tw13208566891074160753 : True := trivial
theorem PySem.W.Fast.tw12649843334315884028 : True := trivial
theorem PySem.W.Fast.tw3635993926410032062 : True := trivial
theorem PySem.W.Fast.tw17728924850395620314 : True := trivial
theorem PySem.W.Fast.tw4939762384540825981 : True := trivial
theorem PySem.W.Fast.tw2733661575281315015 : True := trivial
theorem PySem.W.Fast.tw6196355119938492127 : True := trivial
theorem PySem.W.Fast.tw10863853173448450113 : True := trivial
theorem PySem.W.Fast.tw7242535755464416496 : True := trivial
theorem PySem.W.Fast.tw16833727480454460283 : True := trivial
theorem PySem.W.Fast.tw14238736627013478360 : True := trivial
theorem PySem.W.Fast.tw15911432062603133363 : True := trivial
theorem PySem.W.Fast.tw12521382528751180218 : True := trivial
theorem PySem.W.Fast.tw2569094128161678478 : True := trivial
theorem PySem.W.Fast.tw3255447769630999928 : True := trivial
theorem PySem.W.Fast.tw12822706391117136857 : True := trivial
theorem PySem.W.Fast.tw17961822807692828389 : True := trivial
theorem PySem.W.Fast.tw6612760555005352650 : True := trivial
theorem PySem.W.Fast.tw1920386090012397696 : True := trivial
theorem PySem.W.Fast.tw14474775918461354249 : True := trivial
theorem PySem.W.Fast.tw7584779660614126881 : True := trivial
theorem PySem.W.Fast.tw2039914573059995713 : True := trivial
theorem PySem.W.Fast.tw1735006656399762927 : True := trivial
theorem PySem.W.Fast.tw5280747445299196033 : True := trivial
theorem PySem.W.Fast.tw14352313271125390746 : True := trivial
theorem PySem.W.Fast.tw8459380647306722422 : True := trivial
theorem PySem.W.Fast.tw17929180527713606532 : True := trivial
theorem PySem.W.Fast.tw5571186994882430394 : True := trivial
theorem PySem.W.Fast.tw8953506892566874111 : True := trivial
theorem PySem.W.Fast.tw2409013689995206740 : True := trivial
theorem PySem.W.Fast.tw7665435498618904464 : True := trivial
theorem PySem.W.Fast.tw4651536609093994366 : True := trivial
theorem PySem.W.Fast.tw8807301526136624735 : True := trivial
theorem PySem.W.Fast.tw9821106283800601830 : True := trivial
theorem PySem.W.Fast.tw2817503266670858819 : True := trivial
theorem PySem.W.Fast.tw2866977251487713891 : True := trivial
theorem PySem.W.Fast.tw10265902206365940408 : True := trivial
theorem PySem.W.Fast.tw11987211632008790163 : True := trivial
theorem PySem.W.Fast.tw16234513151857661967 : True := trivial
theorem PySem.W.Fast.tw11404487822814153697 : True := trivial
theorem PySem.W.Fast.tw16706344915667139377 : True := trivial
theorem PySem.W.Fast.tw10073773087813714801 : True := trivial
theorem PySem.W.Fast.tw6471417797880464559 : True := trivial
theorem PySem.W.Fast.tw1926383556838215785 : True := trivial
theorem PySem.W.Fast.tw17590732805192077691 : True := trivial
theorem PySem.W.Fast.tw3661395782319566602 : True := trivial
theorem PySem.W.Fast.tw8729471214934113100 : True := trivial
theorem PySem.W.Fast.tw9682103893093417989 : True := trivial
theorem PySem.W.Fast.tw5625496170878603582 : True := trivial
theorem PySem.W.Fast.tw13488906967333852123 : True := trivial
theorem PySem.W.Fast.tw5130716267599752202 : True := trivial
theorem PySem.W.Fast.tw3342813952680675210 : True := trivial
theorem PySem.W.Fast.tw16045128344074585542 : True := trivial
theorem PySem.W.Fast.tw1955558767629068851 : True := trivial
theorem PySem.W.Fast.tw14106241996254323884 : True := trivial
theorem PySem.W.Fast.tw12902728290515851530 : True := trivial
theorem PySem.W.Fast.tw17973188280999922468 : True := trivial
theorem PySem.W.Fast.tw3454406501869816546 : True := trivial
theorem PySem.W.Fast.tw15402299588407720786 : True := trivial
theorem PySem.W.Fast.tw8872528797117959246 : True := trivial
theorem PySem.W.Fast.tw14244873670624791978 : True := trivial
theorem PySem.W.Fast.tw5538730764325017929 : True := trivial
theorem PySem.W.Fast.tw1761841776544352628 : True := trivial
theorem PySem.W.Fast.tw1580812832812067030 : True := trivial
theorem PySem.W.Fast.tw1332344552072307128 : True := trivial
theorem PySem.W.Fast.tw2699851154763320733 : True := trivial
theorem PySem.W.Fast.tw950740123435509108 : True := trivial
theorem PySem.W.Fast.tw2035672711972544043 : True := trivial
theorem PySem.W.Fast.tw1705060725130459503 : True := trivial
theorem PySem.W.Fast.tw11727906505727512324 : True := trivial
theorem PySem.W.Fast.tw6357180467574888772 : True := trivial
theorem PySem.W.Fast.tw3924465602247214105 : True := trivial
theorem PySem.W.Fast.tw7455597283290123182 : True := trivial
theorem PySem.W.Fast.tw12073453914900474121 : True := trivial
theorem PySem.W.Fast.tw8363380206806709770 : True := trivial
theorem PySem.W.Fast.tw12773953192223124566 : True := trivial
theorem PySem.W.Fast.tw9315501839579859274 : True := trivial
theorem PySem.W.Fast.tw17809917953073978965 : True := trivial
theorem PySem.W.Fast.tw13739165729570180648 : True := trivial
theorem PySem.W.Fast.tw14456145378157834375 : True := trivial
theorem PySem.W.Fast.tw14753321981278318118 : True := trivial
theorem PySem.W.Fast.tw15155067853245511317 : True := trivial
theorem PySem.W.Fast.tw16053552184881087948 : True := trivial
theorem PySem.W.Fast.tw1861096137031743198 : True := trivial
theorem PySem.W.Fast.tw18196683903840605112 : True := trivial
theorem PySem.W.Fast.tw9459108942880459 : True := trivial
theorem PySem.W.Fast.tw17339886352602137056 : True := trivial
theorem PySem.W.Fast.tw15229371396737802367 : True := trivial
theorem PySem.W.Fast.tw530198995237727356 : True := trivial
theorem PySem.W.Fast.tw480420421491094192 : True := trivial
theorem PySem.W.Fast.tw6909649079165546305 : True := trivial
theorem PySem.W.Fast.tw14734228919036147629 : True := trivial
theorem PySem.W.Fast.tw5921791287424999171 : True := trivial
theorem PySem.W.Fast.tw11719363365784374224 : True := trivial
theorem PySem.W.Fast.tw13473283758361899472 : True := trivial
theorem PySem.W.Fast.tw1940040463878092961 : True := trivial
theorem PySem.W.Fast.tw11336068402319296857 : True := trivial
theorem PySem.W.Fast.tw16408107343486477144 : True := trivial
theorem PySem.W.Fast.tw15456595721143134541 : True := trivial
theorem PySem.W.Fast.tw17765251460189706893 : True := trivial
theorem PySem.W.Fast.tw149617996174476570 : True := trivial
theorem PySem.W.Fast.tw2995706291053890870 : True := trivial
theorem PySem.W.Fast.tw12001785003801635091 : True := trivial
theorem PySem.W.Fast.tw9326219728261573842 : True := trivial
theorem PySem.W.Fast.tw56021301240538154 : True := trivial
theorem PySem.W.Fast.tw14813893886616723263 : True := trivial
theorem PySem.W.Fast.tw5430727012401360822 : True := trivial
theorem PySem.W.Fast.tw7194055862158452479 : True := trivial
theorem PySem.W.Fast.tw3372434657165801855 : True := trivial
theorem PySem.W.Fast.tw17779558651727199518 : True := trivial
theorem PySem.W.Fast.tw17379400928244734857 : True := trivial
theorem PySem.W.Fast.tw11542312753390512416 : True := trivial
theorem PySem.W.Fast.tw2700318239032417045 : True := trivial
theorem PySem.W.Fast.tw10800708146244486527 : True := trivial
theorem PySem.W.Fast.tw7884451888313655240 : True := trivial
theorem PySem.W.Fast.tw4270438159325890246 : True := trivial
theorem PySem.W.Fast.tw13721014105881432082 : True := trivial
theorem PySem.W.Fast.tw14355565428340468312 : True := trivial
theorem PySem.W.Fast.tw2065710436171116271 : True := trivial
theorem PySem.W.Fast.tw4676143378481009611 : True := trivial
theorem PySem.W.Fast.tw4568031360082937455 : True := trivial
theorem PySem.W.Fast.tw5226473548756653438 : True := trivial
theorem PySem.W.Fast.tw13158961716892896625 : True := trivial
theorem PySem.W.Fast.tw11374288409074529854 : True := trivial
theorem PySem.W.Fast.tw15158441442893334245 : True := trivial
theorem PySem.W.Fast.tw6548848954920436348 : True := trivial
theorem PySem.W.Fast.tw15586616189633970417 : True := trivial
theorem PySem.W.Fast.tw2218298988868629595 : True := trivial
theorem PySem.W.Fast.tw11264266050155375507 : True := trivial
theorem PySem.W.Fast.tw16792415299565803743 : True := trivial
theorem PySem.W.Fast.tw14671653654878119086 : True := trivial
theorem PySem.W.Fast.tw13840702494002891997 : True := trivial
theorem PySem.W.Fast.tw14464351750367443375 : True := trivial
theorem PySem.W.Fast.tw5372963910666256795 : True := trivial
theorem PySem.W.Fast.tw17351583742457153430 : True := trivial
theorem PySem.W.Fast.tw4537323903687443262 : True := trivial
theorem PySem.W.Fast.tw14099582860990960440 : True := trivial
theorem PySem.W.Fast.tw817973122060431896 : True := trivial
theorem PySem.W.Fast.tw5475080771358503550 : True := trivial
theorem PySem.W.Fast.tw9254869849011271701 : True := trivial
theorem PySem.W.Fast.tw11817287982897719467 : True := trivial
theorem PySem.W.Fast.tw6086634767367007099 : True := trivial
theorem PySem.W.Fast.tw12503474299394308524 : True := trivial
theorem PySem.W.Fast.tw8909075679231480963 : True := trivial
theorem PySem.W.Fast.tw17881878127983324113 : True := trivial
theorem PySem.W.Fast.tw918296181019253572 : True := trivial
theorem PySem.W.Fast.tw8276290709887174052 : True := trivial
theorem PySem.W.Fast.tw9477082088675837855 : True := trivial
theorem PySem.W.Fast.tw13058273466266740905 : True := trivial
theorem PySem.W.Fast.tw17793159785584775279 : True := trivial
theorem PySem.W.Fast.tw9933103048459478355 : True := trivial
theorem PySem.W.Fast.tw1010681870780774001 : True := trivial
theorem PySem.W.Fast.tw3508699862127324218 : True := trivial
theorem PySem.W.Fast.tw6412993247505908322 : True := trivial
theorem PySem.W.Fast.tw13718294320128249746 : True := trivial
theorem PySem.W.Fast.tw212389146465594955 : True := trivial
theorem PySem.W.Fast.tw10983594153118468286 : True := trivial
theorem PySem.W.Fast.tw7547364585021281202 : True := trivial
theorem PySem.W.Fast.tw2512876523628583771 : True := trivial
theorem PySem.W.Fast.tw12582699235559446634 : True := trivial
theorem PySem.W.Fast.tw8463897103988638777 : True := trivial
theorem PySem.W.Fast.tw11690613274787598532 : True := trivial
theorem PySem.W.Fast.tw1476857121186570865 : True := trivial
theorem PySem.W.Fast.tw12096552611172800400 : True := trivial
theorem PySem.W.Fast.tw10094771172594949225 : True := trivial
theorem PySem.W.Fast.tw12726342264493559727 : True := trivial
theorem PySem.W.Fast.tw1672530443787253286 : True := trivial
theorem PySem.W.Fast.tw9409598781117713659 : True := trivial
theorem PySem.W.Fast.tw1568624570875115913 : True := trivial
theorem PySem.W.Fast.tw18199774559098100994 : True := trivial
theorem PySem.W.Fast.tw13367242091201486331 : True := trivial
theorem PySem.W.Fast.tw2565880613784911996 : True := trivial
theorem PySem.W.Fast.tw15138205190436340648 : True := trivial
theorem PySem.W.Fast.tw420870273040082066 : True := trivial
theorem PySem.W.Fast.tw12973078699960285283 : True := trivial
theorem PySem.W.Fast.tw6889652831013078600 : True := trivial
theorem PySem.W.Fast.tw1516887619515710473 : True := trivial
theorem PySem.W.Fast.tw11846172401463165499 : True := trivial
theorem PySem.W.Fast.tw7018023656212924992 : True := trivial
theorem PySem.W.Fast.tw15650149816051229990 : True := trivial
theorem PySem.W.Fast.tw4617277457042437591 : True := trivial
theorem PySem.W.Fast.tw5345175869042925700 : True := trivial
theorem PySem.W.Fast.tw5772124403828900513 : True := trivial
theorem PySem.W.Fast.tw7899004161776205496 : True := trivial
theorem PySem.W.Fast.tw9006408958183626021 : True := trivial
theorem PySem.W.Fast.tw16951923319951316585 : True := trivial
theorem PySem.W.Fast.tw156391839141506855 : True := trivial
theorem PySem.W.Fast.tw13451513941856074354 : True := trivial
theorem PySem.W.Fast.tw9363342932722728726 : True := trivial
theorem PySem.W.Fast.tw13107082012587465152 : True := trivial
theorem PySem.W.Fast.tw2954986849203068378 : True := trivial
theorem PySem.W.Fast.tw5624812137343818352 : True := trivial
theorem PySem.W.Fast.tw13431254973020162573 : True := trivial
theorem PySem.W.Fast.tw10173402701855337323 : True := trivial
theorem PySem.W.Fast.tw519218118066676705 : True := trivial
theorem PySem.W.Fast.tw12742105746552120013 : True := trivial
theorem PySem.W.Fast.tw9708998522310017464 : True := trivial
theorem PySem.W.Fast.tw2656515951421098291 : True := trivial
theorem PySem.W.Fast.tw13431257600661582082 : True := trivial
theorem PySem.W.Fast.tw4253063261695111531 : True := trivial
theorem PySem.W.Fast.tw12454636433655740422 : True := trivial
theorem PySem.W.Fast.tw6945086927134597133 : True := trivial
theorem PySem.W.Fast.tw6981731108657477081 : True := trivial
theorem PySem.W.Fast.tw15736999622883285261 : True := trivial
theorem PySem.W.Fast.tw475184005198488625 : True := trivial
theorem PySem.W.Fast.tw15736550270761579224 : True := trivial
theorem PySem.W.Fast.tw12737241168411996880 : True := trivial
theorem PySem.W.Fast.tw9456280188772180031 : True := trivial
theorem PySem.W.Fast.tw8219118496649912025 : True := trivial
theorem PySem.W.Fast.tw16342447478559947833 : True := trivial
theorem PySem.W.Fast.tw260700548546473599 : True := trivial
theorem PySem.W.Fast.tw16199063851520581015 : True := trivial
theorem PySem.W.Fast.tw11792164370989154252 : True := trivial
theorem PySem.W.Fast.tw12450692079130918880 : True := trivial
theorem PySem.W.Fast.tw12747387696997857459 : True := trivial
theorem PySem.W.Fast.tw2011853969891526007 : True := trivial
theorem PySem.W.Fast.tw8165198792587492688 : True := trivial
theorem PySem.W.Fast.tw15673682888720717236 : True := trivial
theorem PySem.W.Fast.tw4311352868695343917 : True := trivial
theorem PySem.W.Fast.tw6404270773674506232 : True := trivial
theorem PySem.W.Fast.tw1514274502513140884 : True := trivial
theorem PySem.W.Fast.tw9314690441875983325 : True := trivial
theorem PySem.W.Fast.tw7844465859104421112 : True := trivial
theorem PySem.W.Fast.tw5672678480362200370 : True := trivial
theorem PySem.W.Fast.tw7878134610964050361 : True := trivial
theorem PySem.W.Fast.tw180799843678526287 : True := trivial
theorem PySem.W.Fast.tw17476385945200529070 : True := trivial
theorem PySem.W.Fast.tw9074220644369566654 : True := trivial
theorem PySem.W.Fast.tw1351891144369025197 : True := trivial
theorem PySem.W.Fast.tw1602648406131548819 : True := trivial
theorem PySem.W.Fast.tw6669796331683672601 : True := trivial
theorem PySem.W.Fast.tw12190739212221653207 : True := trivial
theorem PySem.W.Fast.tw4524965576384558515 : True := trivial
theorem PySem.W.Fast.tw2377994934524760982 : True := trivial
theorem PySem.W.Fast.tw15615598780328739733 : True := trivial
theorem PySem.W.Fast.tw2546628928152697293 : True := trivial
theorem PySem.W.Fast.tw51100875432031066 : True := trivial
theorem PySem.W.Fast.tw9385378619775860536 : True := trivial
theorem PySem.W.Fast.tw3058481980286616931 : True := trivial
theorem PySem.W.Fast.tw10107189442038370254 : True := trivial
theorem PySem.W.Fast.tw16993293006360550144 : True := trivial
theorem PySem.W.Fast.tw6548127469847804307 : True := trivial
theorem PySem.W.Fast.tw8221189036339556838 : True := trivial
theorem PySem.W.Fast.tw17000334913941290799 : True := trivial
theorem PySem.W.Fast.tw2711412717293736116 : True := trivial
theorem PySem.W.Fast.tw15337380554812495118 : True := trivial
theorem PySem.W.Fast.tw16180015691081297103 : True := trivial
theorem PySem.W.Fast.tw5403099997890158818 : True := trivial
theorem PySem.W.Fast.tw17718081719252577058 : True := trivial
theorem PySem.W.Fast.tw11346370957836092789 : True := trivial
theorem PySem.W.Fast.tw17173403017350236251 : True := trivial
theorem PySem.W.Fast.tw2985911043764380979 : True := trivial
theorem PySem.W.Fast.tw2374831004550887904 : True := trivial
theorem PySem.W.Fast.tw2681359170121276949 : True := trivial
theorem PySem.W.Fast.tw10211662667779459452 : True := trivial
theorem PySem.W.Fast.tw13822950679133278978 : True := trivial
theorem PySem.W.Fast.tw7001074956860126521 : True := trivial
theorem PySem.W.Fast.tw4201567964239415829 : True := trivial
theorem PySem.W.Fast.tw13072712310709925566 : True := trivial
theorem PySem.W.Fast.tw8225915050965973294 : True := trivial
theorem PySem.W.Fast.tw10759601621206478581 : True := trivial
theorem PySem.W.Fast.tw18090304101095665652 : True := trivial
theorem PySem.W.Fast.tw306031134850459063 : True := trivial
theorem PySem.W.Fast.tw11862829078039615173 : True := trivial
theorem PySem.W.Fast.tw16171060532535887442 : True := trivial
theorem PySem.W.Fast.tw958677768271765365 : True := trivial
theorem PySem.W.Fast.tw10545114029870257774 : True := trivial
theorem PySem.W.Fast.tw14865741096503258131 : True := trivial
theorem PySem.W.Fast.tw5825432459773282207 : True := trivial
theorem PySem.W.Fast.tw9283304735325855199 : True := trivial
theorem PySem.W.Fast.tw9727403380115823463 : True := trivial
theorem PySem.W.Fast.tw13532700757490800948 : True := trivial
theorem PySem.W.Fast.tw2058775447437498881 : True := trivial
theorem PySem.W.Fast.tw10818348844932590021 : True := trivial
theorem PySem.W.Fast.tw10750701580366217331 : True := trivial
theorem PySem.W.Fast.tw15357126759829999175 : True := trivial
theorem PySem.W.Fast.tw10715068153686219462 : True := trivial
theorem PySem.W.Fast.tw1667681622304072214 : True := trivial
theorem PySem.W.Fast.tw8797875373650550552 : True := trivial
theorem PySem.W.Fast.tw986710044028359011 : True := trivial
theorem PySem.W.Fast.tw16490102868280922807 : True := trivial
theorem PySem.W.Fast.tw11416113342825185460 : True := trivial
theorem PySem.W.Fast.tw16917134410252931194 : True := trivial
theorem PySem.W.Fast.tw1117559103132069417 : True := trivial
theorem PySem.W.Fast.tw16751483144847292232 : True := trivial
theorem PySem.W.Fast.tw4454035796563699596 : True := trivial
theorem PySem.W.Fast.tw5059717820347118369 : True := trivial
theorem PySem.W.Fast.tw18020804993237030120 : True := trivial
theorem PySem.W.Fast.tw12768626201438126112 : True := trivial
theorem PySem.W.Fast.tw17059712292246785278 : True := trivial
theorem PySem.W.Fast.tw16834986949518795395 : True := trivial
theorem PySem.W.Fast.tw1330596346244615777 : True := trivial
theorem PySem.W.Fast.tw7994938816735620291 : True := trivial
theorem PySem.W.Fast.tw1208077363328751847 : True := trivial
theorem PySem.W.Fast.tw3817206908908925352 : True := trivial
theorem PySem.W.Fast.tw12226616985269874932 : True := trivial
theorem PySem.W.Fast.tw17930999700360504918 : True := trivial
theorem PySem.W.Fast.tw1147177515184630248 : True := trivial
theorem PySem.W.Fast.tw5812961316587991336 : True := trivial
theorem PySem.W.Fast.tw16555445004184834133 : True := trivial
theorem PySem.W.Fast.tw17835193025355749083 : True := trivial
theorem PySem.W.Fast.tw681613479787104035 : True := trivial
theorem PySem.W.Fast.tw13099414660578104100 : True := trivial
theorem PySem.W.Fast.tw4541169071756108160 : True := trivial
theorem PySem.W.Fast.tw7098049838070450920 : True := trivial
theorem PySem.W.Fast.tw6986948116934490969 : True := trivial
theorem PySem.W.Fast.tw1367131461921925377 : True := trivial
theorem PySem.W.Fast.tw15842995720305236213 : True := trivial
theorem PySem.W.Fast.tw13266151879140067133 : True := trivial
theorem PySem.W.Fast.tw2123147569807367274 : True := trivial
theorem PySem.W.Fast.tw6524658490237941948 : True := trivial
theorem PySem.W.Fast.tw12944645130311141684 : True := trivial
theorem PySem.W.Fast.tw11152431045098597289 : True := trivial
theorem PySem.W.Fast.tw13802686216375997610 : True := trivial
theorem PySem.W.Fast.tw17541403780799855129 : True := trivial
theorem PySem.W.Fast.tw13770220108429183738 : True := trivial
theorem PySem.W.Fast.tw14166895375537052307 : True := trivial
theorem PySem.W.Fast.tw14663032905398967085 : True := trivial
theorem PySem.W.Fast.tw5303545400842315137 : True := trivial
theorem PySem.W.Fast.tw1067763582297282306 : True := trivial
theorem PySem.W.Fast.tw11063743151742055060 : True := trivial
theorem PySem.W.Fast.tw190943925343398310 : True := trivial
theorem PySem.W.Fast.tw8178230469170701597 : True := trivial
theorem PySem.W.Fast.tw16035035022893533724 : True := trivial
theorem PySem.W.Fast.tw2594867484987082873 : True := trivial
theorem PySem.W.Fast.tw937256356179636624 : True := trivial
theorem PySem.W.Fast.tw1789485664208330383 : True := trivial
theorem PySem.W.Fast.tw15870753304544916203 : True := trivial
theorem PySem.W.Fast.tw12484542704158948946 : True := trivial
theorem PySem.W.Fast.tw12624696457934056460 : True := trivial
theorem PySem.W.Fast.tw15158422932712224718 : True := trivial
theorem PySem.W.Fast.tw1843356004438860805 : True := trivial
theorem PySem.W.Fast.tw17064879878709404656 : True := trivial
theorem PySem.W.Fast.tw12212918321689283725 : True := trivial
theorem PySem.W.Fast.tw16869029194243998357 : True := trivial
theorem PySem.W.Fast.tw9214789805546810531 : True := trivial
theorem PySem.W.Fast.tw5229603423331939034 : True := trivial
theorem PySem.W.Fast.tw13588820198204423122 : True := trivial
theorem PySem.W.Fast.tw9169409865415361672 : True := trivial
theorem PySem.W.Fast.tw6513945459755035683 : True := trivial
theorem PySem.W.Fast.tw6399321122773549476 : True := trivial
theorem PySem.W.Fast.tw8050457533348431657 : True := trivial
theorem PySem.W.Fast.tw8177960010172570964 : True := trivial
theorem PySem.W.Fast.tw5597456913167859866 : True := trivial
theorem PySem.W.Fast.tw2140212790993827045 : True := trivial
theorem PySem.W.Fast.tw1220321402502092932 : True := trivial
theorem PySem.W.Fast.tw10542915109320781041 : True := trivial
theorem PySem.W.Fast.tw9537118973320354034 : True := trivial
theorem PySem.W.Fast.tw11625971517618979595 : True := trivial
theorem PySem.W.Fast.tw16187130459633570553 : True := trivial
theorem PySem.W.Fast.tw7582720184544680039 : True := trivial
theorem PySem.W.Fast.tw15572440462685995112 : True := trivial
theorem PySem.W.Fast.tw3554375245514752798 : True := trivial
theorem PySem.W.Fast.tw1440131067723574521 : True := trivial
theorem PySem.W.Fast.tw17639332717542838494 : True := trivial
theorem PySem.W.Fast.tw12777501169428279948 : True := trivial
theorem PySem.W.Fast.tw16530235105903669045 : True := trivial
theorem PySem.W.Fast.tw4971220320858475108 : True := trivial
theorem PySem.W.Fast.tw16186485002655233510 : True := trivial
theorem PySem.W.Fast.tw1083821148179926824 : True := trivial
theorem PySem.W.Fast.tw1880406697718191264 : True := trivial
theorem PySem.W.Fast.tw2885304585886324648 : True := trivial
theorem PySem.W.Fast.tw11182139358511785438 : True := trivial
theorem PySem.W.Fast.tw2232816858580105448 : True := trivial
theorem PySem.W.Fast.tw390847121540788620 : True := trivial
theorem PySem.W.Fast.tw10536569306951290249 : True := trivial
theorem PySem.W.Fast.tw5576379146907540272 : True := trivial
theorem PySem.W.Fast.tw13926410752319757838 : True := trivial
theorem PySem.W.Fast.tw390610465272055185 : True := trivial
theorem PySem.W.Fast.tw15680704377590344834 : True := trivial
theorem PySem.W.Fast.tw16247260711785460839 : True := trivial
theorem PySem.W.Fast.tw4150251501839950000 : True := trivial
theorem PySem.W.Fast.tw15653469057814641547 : True := trivial
theorem PySem.W.Fast.tw3369752902077007466 : True := trivial
theorem PySem.W.Fast.tw9773726020482205821 : True := trivial
theorem PySem.W.Fast.tw9780840996944065020 : True := trivial
theorem PySem.W.Fast.tw1353480322947096529 : True := trivial
theorem PySem.W.Fast.tw15133174117958490284 : True := trivial
theorem PySem.W.Fast.tw1707317469747487332 : True := trivial
theorem PySem.W.Fast.tw15634655705445481616 : True := trivial
theorem PySem.W.Fast.tw14597671857485949912 : True := trivial
theorem PySem.W.Fast.tw3391655631976752497 : True := trivial
theorem PySem.W.Fast.tw12275392997186088142 : True := trivial
theorem PySem.W.Fast.tw897064191895139861 : True := trivial
theorem PySem.W.Fast.tw4712020664003943487 : True := trivial
theorem PySem.W.Fast.tw15074031884700700776 : True := trivial
theorem PySem.W.Fast.tw6020036201552553471 : True := trivial
theorem PySem.W.Fast.tw15289444369501960232 : True := trivial
theorem PySem.W.Fast.tw13976340551229589927 : True := trivial
theorem PySem.W.Fast.tw17907454585622890803 : True := trivial
theorem PySem.W.Fast.tw15301717555246741904 : True := trivial
theorem PySem.W.Fast.tw3596545681908687147 : True := trivial
theorem PySem.W.Fast.tw2223943102003924749 : True := trivial
theorem PySem.W.Fast.tw17337597928735121637 : True := trivial
theorem PySem.W.Fast.tw3392699585821800923 : True := trivial
theorem PySem.W.Fast.tw13565651682459727625 : True := trivial
theorem PySem.W.Fast.tw2393174969205996605 : True := trivial
theorem PySem.W.Fast.tw6470543733586336804 : True := trivial
theorem PySem.W.Fast.tw15607424870505817689 : True := trivial
theorem PySem.W.Fast.tw1632088107676720351 : True := trivial
theorem PySem.W.Fast.tw16875805401179526840 : True := trivial
theorem PySem.W.Fast.tw12785376672961477613 : True := trivial
theorem PySem.W.Fast.tw2910596814862176896 : True := trivial
theorem PySem.W.Fast.tw12143814592850689921 : True := trivial
theorem PySem.W.Fast.tw2140361303147770010 : True := trivial
theorem PySem.W.Fast.tw8672794689977308206 : True := trivial
theorem PySem.W.Fast.tw1729202697819181207 : True := trivial
theorem PySem.W.Fast.tw17206794552114322673 : True := trivial
theorem PySem.W.Fast.tw9000033914882009099 : True := trivial
theorem PySem.W.Fast.tw6042939167948720922 : True := trivial
theorem PySem.W.Fast.tw2427853432387304597 : True := trivial
theorem PySem.W.Fast.tw12960511438191177192 : True := trivial
theorem PySem.W.Fast.tw2132347589030413957 : True := trivial
theorem PySem.W.Fast.tw1313713354657093258 : True := trivial
theorem PySem.W.Fast.tw6519751831659542468 : True := trivial
theorem PySem.W.Fast.tw5772882722352405121 : True := trivial
theorem PySem.W.Fast.tw13253118857177077240 : True := trivial
theorem PySem.W.Fast.tw11023709375098636889 : True := trivial
theorem PySem.W.Fast.tw5919911707253845000 : True := trivial
theorem PySem.W.Fast.tw10341817720750046102 : True := trivial
theorem PySem.W.Fast.tw5507194050549302409 : True := trivial
theorem PySem.W.Fast.tw4620649543455152596 : True := trivial
theorem PySem.W.Fast.tw5692799283808941462 : True := trivial
theorem PySem.W.Fast.tw6760688816142510973 : True := trivial
theorem PySem.W.Fast.tw7951639347775447320 : True := trivial
theorem PySem.W.Fast.tw8331935008791108352 : True := trivial
theorem PySem.W.Fast.tw8883564019597647491 : True := trivial
theorem PySem.W.Fast.tw14080807544027484410 : True := trivial
theorem PySem.W.Fast.tw11934006112176822947 : True := trivial
theorem PySem.W.Fast.tw12754438950265021637 : True := trivial
theorem PySem.W.Fast.tw8119691215164291223 : True := trivial
theorem PySem.W.Fast.tw3478658800307449969 : True := trivial
theorem PySem.W.Fast.tw8401073718700627048 : True := trivial
theorem PySem.W.Fast.tw7868833615815021379 : True := trivial
theorem PySem.W.Fast.tw9184858266296360952 : True := trivial
theorem PySem.W.Fast.tw17843751420778890391 : True := trivial
theorem PySem.W.Fast.tw16219610768331367086 : True := trivial
theorem PySem.W.Fast.tw8032066881099593031 : True := trivial
theorem PySem.W.Fast.tw8565286845424318576 : True := trivial
theorem PySem.W.Fast.tw13783304319960682693 : True := trivial
theorem PySem.W.Fast.tw1695748103529044882 : True := trivial
theorem PySem.W.Fast.tw9295571956660383377 : True := trivial
theorem PySem.W.Fast.tw17544599165685878655 : True := trivial
theorem PySem.W.Fast.tw11457260615849308827 : True := trivial
theorem PySem.W.Fast.tw7501306767683863949 : True := trivial
theorem PySem.W.Fast.tw602713884585811335 : True := trivial
theorem PySem.W.Fast.tw7153961103275409288 : True := trivial
theorem PySem.W.Fast.tw3950726409914001964 : True := trivial
theorem PySem.W.Fast.tw6601401470331049055 : True := trivial
theorem PySem.W.Fast.tw8077859291832954857 : True := trivial
theorem PySem.W.Fast.tw1084556635328906453 : True := trivial
theorem PySem.W.Fast.tw1435172386631792409 : True := trivial
theorem PySem.W.Fast.tw13079426905706513577 : True := trivial
theorem PySem.W.Fast.tw12957194818011947104 : True := trivial
theorem PySem.W.Fast.tw13001686459871199942 : True := trivial
theorem PySem.W.Fast.tw18084618185792659123 : True := trivial
theorem PySem.W.Fast.tw3079194599693430402 : True := trivial
theorem PySem.W.Fast.tw3964163590241699210 : True := trivial
theorem PySem.W.Fast.tw12627866995818027505 : True := trivial
theorem PySem.W.Fast.tw18167191581005262914 : True := trivial
theorem PySem.W.Fast.tw3195948394538237819 : True := trivial
theorem PySem.W.Fast.tw15396936107327627265 : True := trivial
theorem PySem.W.Fast.tw6607889196667824433 : True := trivial
theorem PySem.W.Fast.tw17564743526068085987 : True := trivial
theorem PySem.W.Fast.tw2537427856871466786 : True := trivial
theorem PySem.W.Fast.tw8641372741725036452 : True := trivial
theorem PySem.W.Fast.tw16720902330343983192 : True := trivial
theorem PySem.W.Fast.tw11438996861793348200 : True := trivial
theorem PySem.W.Fast.tw3184833099197318347 : True := trivial
theorem PySem.W.Fast.tw3686485700809381393 : True := trivial
theorem PySem.W.Fast.tw10648041539809168184 : True := trivial
theorem PySem.W.Fast.tw15386973995985713939 : True := trivial
theorem PySem.W.Fast.tw7352933753958337765 : True := trivial
theorem PySem.W.Fast.tw12621118098160803965 : True := trivial
theorem PySem.W.Fast.tw3563000749256622943 : True := trivial
theorem PySem.W.Fast.tw9662208498883311809 : True := trivial
theorem PySem.W.Fast.tw12257090564672689316 : True := trivial
theorem PySem.W.Fast.tw8772885714110990981 : True := trivial
theorem PySem.W.Fast.tw12991619817473531018 : True := trivial
theorem PySem.W.Fast.tw8433876714926548861 : True := trivial
theorem PySem.W.Fast.tw17032163019105603835 : True := trivial
theorem PySem.W.Fast.tw18061255899759447654 : True := trivial
theorem PySem.W.Fast.tw13613488539144644830 : True := trivial
theorem PySem.W.Fast.tw492760573849853080 : True := trivial
theorem PySem.W.Fast.tw6080785111857033327 : True := trivial
theorem PySem.W.Fast.tw3545556051436911321 : True := trivial
theorem PySem.W.Fast.tw1884861148197908361 : True := trivial
theorem PySem.W.Fast.tw17221255455035671196 : True := trivial
theorem PySem.W.Fast.tw2671532062839489860 : True := trivial
theorem PySem.W.Fast.tw1488557043255565278 : True := trivial
theorem PySem.W.Fast.tw15204563647184817949 : True := trivial
theorem PySem.W.Fast.tw13282778779235703751 : True := trivial
theorem PySem.W.Fast.tw12591772010976276763 : True := trivial
theorem PySem.W.Fast.tw3937568123792243418 : True := trivial
theorem PySem.W.Fast.tw1410627790776835244 : True := trivial
theorem PySem.W.Fast.tw4753734132090350030 : True := trivial
theorem PySem.W.Fast.tw7334299369957137301 : True := trivial
theorem PySem.W.Fast.tw10767788773126257520 : True := trivial
theorem PySem.W.Fast.tw9713452611684121972 : True := trivial
theorem PySem.W.Fast.tw14287075764853630184 : True := trivial
theorem PySem.W.Fast.tw13573278873797799094 : True := trivial
theorem PySem.W.Fast.tw5755245007620362190 : True := trivial
theorem PySem.W.Fast.tw10758951156243490776 : True := trivial
theorem PySem.W.Fast.tw5134360406556431312 : True := trivial
theorem PySem.W.Fast.tw2433657738310435471 : True := trivial
theorem PySem.W.Fast.tw8797884075579492552 : True := trivial
theorem PySem.W.Fast.tw3358974954948816782 : True := trivial
theorem PySem.W.Fast.tw7382726055066228991 : True := trivial
theorem PySem.W.Fast.tw1699661189244064519 : True := trivial
theorem PySem.W.Fast.tw13446067742010511754 : True := trivial
theorem PySem.W.Fast.tw9999663086709186160 : True := trivial
theorem PySem.W.Fast.tw11837346462067506006 : True := trivial
theorem PySem.W.Fast.tw4993848157812044681 : True := trivial
theorem PySem.W.Fast.tw4823776268792674135 : True := trivial
theorem PySem.W.Fast.tw16186614398859893925 : True := trivial
theorem PySem.W.Fast.tw15838011045445974770 : True := trivial
theorem PySem.W.Fast.tw8839255301694430945 : True := trivial
theorem PySem.W.Fast.tw10517668019263510391 : True := trivial
theorem PySem.W.Fast.tw16677406129627440438 : True := trivial
theorem PySem.W.Fast.tw10709376407612608224 : True := trivial
theorem PySem.W.Fast.tw3573902392302289622 : True := trivial
theorem PySem.W.Fast.tw8796981754894821849 : True := trivial
theorem PySem.W.Fast.tw3127764656500382553 : True := trivial
theorem PySem.W.Fast.tw13854433369028868945 : True := trivial
theorem PySem.W.Fast.tw7554818967562943303 : True := trivial
theorem PySem.W.Fast.tw5036856145193609109 : True := trivial
theorem PySem.W.Fast.tw11987937016378130436 : True := trivial
theorem PySem.W.Fast.tw17474723426290922770 : True := trivial
theorem PySem.W.Fast.tw4765509622464184335 : True := trivial
theorem PySem.W.Fast.tw8178827294952040551 : True := trivial
theorem PySem.W.Fast.tw6684704599144334649 : True := trivial
theorem PySem.W.Fast.tw10191288218972386517 : True := trivial
theorem PySem.W.Fast.tw6725610790887797149 : True := trivial
theorem PySem.W.Fast.tw16306394663846207262 : True := trivial
theorem PySem.W.Fast.tw10475153777905784130 : True := trivial
theorem PySem.W.Fast.tw16853238120117741189 : True := trivial
theorem PySem.W.Fast.tw8452070648775694610 : True := trivial
theorem PySem.W.Fast.tw16338238183210657424 : True := trivial
theorem PySem.W.Fast.tw13598190829977297997 : True := trivial
theorem PySem.W.Fast.tw5978579363382122645 : True := trivial
theorem PySem.W.Fast.tw1716083762297896257 : True := trivial
theorem PySem.W.Fast.tw15351742741974557335 : True := trivial
theorem PySem.W.Fast.tw17072151310830247357 : True := trivial
theorem PySem.W.Fast.tw1886982434894463260 : True := trivial
theorem PySem.W.Fast.tw15149649519751250150 : True := trivial
theorem PySem.W.Fast.tw3779225509737425836 : True := trivial
theorem PySem.W.Fast.tw8254304968693283723 : True := trivial
theorem PySem.W.Fast.tw13203910011930370748 : True := trivial
theorem PySem.W.Fast.tw1439019058710767387 : True := trivial
theorem PySem.W.Fast.tw17779721093579072762 : True := trivial
theorem PySem.W.Fast.tw4515739943201606250 : True := trivial
theorem PySem.W.Fast.tw6688197356309542405 : True := trivial
theorem PySem.W.Fast.tw9754281602051942186 : True := trivial
theorem PySem.W.Fast.tw16004568992306514224 : True := trivial
theorem PySem.W.Fast.tw9848865221131336428 : True := trivial
theorem PySem.W.Fast.tw18226986557098983136 : True := trivial
theorem PySem.W.Fast.tw11331489856233310341 : True := trivial
theorem PySem.W.Fast.tw2751972002267715702 : True := trivial
theorem PySem.W.Fast.tw5553029278746271500 : True := trivial
theorem PySem.W.Fast.tw3738037405230254496 : True := trivial
theorem PySem.W.Fast.tw1994071812995334443 : True := trivial
theorem PySem.W.Fast.tw8140371065434763848 : True := trivial
theorem PySem.W.Fast.tw14540788133579880965 : True := trivial
theorem PySem.W.Fast.tw975560774955432553 : True := trivial
theorem PySem.W.Fast.tw14800655111629420095 : True := trivial
theorem PySem.W.Fast.tw1663284906037140209 : True := trivial
theorem PySem.W.Fast.tw15375129403749862164 : True := trivial
theorem PySem.W.Fast.tw9202512828794885985 : True := trivial
theorem PySem.W.Fast.tw14867507438330371627 : True := trivial
theorem PySem.W.Fast.tw6341473784286549518 : True := trivial
theorem PySem.W.Fast.tw16506667124790945512 : True := trivial
theorem PySem.W.Fast.tw3772390700269828660 : True := trivial
theorem PySem.W.Fast.tw8613062083142012601 : True := trivial
theorem PySem.W.Fast.tw15550295954286659110 : True := trivial
theorem PySem.W.Fast.tw1105256920582873119 : True := trivial
theorem PySem.W.Fast.tw5219460287236307825 : True := trivial
theorem PySem.W.Fast.tw13887566471833798728 : True := trivial
theorem PySem.W.Fast.tw17730552309560989264 : True := trivial
theorem PySem.W.Fast.tw4849703886107415390 : True := trivial
theorem PySem.W.Fast.tw1214868849817908849 : True := trivial
theorem PySem.W.Fast.tw9943497443515525323 : True := trivial
theorem PySem.W.Fast.tw15319337722798817335 : True := trivial
theorem PySem.W.Fast.tw1246975317681255648 : True := trivial
theorem PySem.W.Fast.tw17676744678231819332 : True := trivial
theorem PySem.W.Fast.tw13861878477401357402 : True := trivial
theorem PySem.W.Fast.tw8368687106461264076 : True := trivial
theorem PySem.W.Fast.tw17720958197817026245 : True := trivial
theorem PySem.W.Fast.tw9395193998567936180 : True := trivial
theorem PySem.W.Fast.tw10683562309341785794 : True := trivial
theorem PySem.W.Fast.tw8124769867047091790 : True := trivial
theorem PySem.W.Fast.tw8878330353910932134 : True := trivial
theorem PySem.W.Fast.tw4697140893000616914 : True := trivial
theorem PySem.W.Fast.tw15202804228764650375 : True := trivial
theorem PySem.W.Fast.tw14997565855015284218 : True := trivial
theorem PySem.W.Fast.tw10050593332258157459 : True := trivial
theorem PySem.W.Fast.tw9743613146428620179 : True := trivial
theorem PySem.W.Fast.tw18096349325693834472 : True := trivial
theorem PySem.W.Fast.tw14499133478561577249 : True := trivial
theorem PySem.W.Fast.tw6097829157815547654 : True := trivial
theorem PySem.W.Fast.tw5453220447814402534 : True := trivial
theorem PySem.W.Fast.tw8841189474053749536 : True := trivial
theorem PySem.W.Fast.tw14048658360604346917 : True := trivial
theorem PySem.W.Fast.tw9651064981946807224 : True := trivial
theorem PySem.W.Fast.tw3055911313080684726 : True := trivial
theorem PySem.W.Fast.tw16000150449142707308 : True := trivial
theorem PySem.W.Fast.tw5078190964865490700 : True := trivial
theorem PySem.W.Fast.tw11859633537442509595 : True := trivial
theorem PySem.W.Fast.tw5658818296265127527 : True := trivial
theorem PySem.W.Fast.tw998073293185611159 : True := trivial
theorem PySem.W.Fast.tw2021090535557630563 : True := trivial
theorem PySem.W.Fast.tw9046106641289764580 : True := trivial
theorem PySem.W.Fast.tw12865821219639426041 : True := trivial
theorem PySem.W.Fast.tw10573049209655650203 : True := trivial
theorem PySem.W.Fast.tw5059126412622935140 : True := trivial
theorem PySem.W.Fast.tw13886080733375731323 : True := trivial
theorem PySem.W.Fast.tw17503742899272896493 : True := trivial
theorem PySem.W.Fast.tw2249392254043681147 : True := trivial
theorem PySem.W.Fast.tw4323230402707566931 : True := trivial
theorem PySem.W.Fast.tw17319678791764199882 : True := trivial
theorem PySem.W.Fast.tw677380866424719759 : True := trivial
theorem PySem.W.Fast.tw9486266799853689700 : True := trivial
theorem PySem.W.Fast.tw2030901879100330055 : True := trivial
theorem PySem.W.Fast.tw1410107407841905634 : True := trivial
theorem PySem.W.Fast.tw4480007975876659166 : True := trivial
theorem PySem.W.Fast.tw2955013907739506061 : True := trivial
theorem PySem.W.Fast.tw793810190473291272 : True := trivial
theorem PySem.W.Fast.tw17086292835597458819 : True := trivial
theorem PySem.W.Fast.tw1047244657862076966 : True := trivial
theorem PySem.W.Fast.tw17504196510690720782 : True := trivial
theorem PySem.W.Fast.tw2432635829702534424 : True := trivial
theorem PySem.W.Fast.tw7590516181469241988 : True := trivial
theorem PySem.W.Fast.tw12563487790713876463 : True := trivial
theorem PySem.W.Fast.tw11763680271121688222 : True := trivial
theorem PySem.W.Fast.tw12030013585443263541 : True := trivial
theorem PySem.W.Fast.tw8289971445080081299 : True := trivial
theorem PySem.W.Fast.tw7812343347096173463 : True := trivial
theorem PySem.W.Fast.tw15675622034034733218 : True := trivial
theorem PySem.W.Fast.tw4912828190270883515 : True := trivial
theorem PySem.W.Fast.tw4653193923114724189 : True := trivial
theorem PySem.W.Fast.tw9143897798792318149 : True := trivial
theorem PySem.W.Fast.tw14726163911157281915 : True := trivial
theorem PySem.W.Fast.tw5509687223960104017 : True := trivial
theorem PySem.W.Fast.tw1476061355023640387 : True := trivial
theorem PySem.W.Fast.tw7023958204959395878 : True := trivial
theorem PySem.W.Fast.tw11397339907232717221 : True := trivial
theorem PySem.W.Fast.tw13968684754786950520 : True := trivial
theorem PySem.W.Fast.tw11998548140199435267 : True := trivial
theorem PySem.W.Fast.tw17272516116231124489 : True := trivial
theorem PySem.W.Fast.tw9887152180533331269 : True := trivial
theorem PySem.W.Fast.tw15645423281048475389 : True := trivial
theorem PySem.W.Fast.tw15995547219600237212 : True := trivial
theorem PySem.W.Fast.tw7117783141980568457 : True := trivial
theorem PySem.W.Fast.tw1417272691128134196 : True := trivial
theorem PySem.W.Fast.tw9964898828316417664 : True := trivial
theorem PySem.W.Fast.tw11705644452701869932 : True := trivial
theorem PySem.W.Fast.tw15809212383562834533 : True := trivial
theorem PySem.W.Fast.tw4289457013442276113 : True := trivial
theorem PySem.W.Fast.tw11695754835228950831 : True := trivial
theorem PySem.W.Fast.tw17960945081721827305 : True := trivial
theorem PySem.W.Fast.tw8087847348935777122 : True := trivial
theorem PySem.W.Fast.tw15042596202649238307 : True := trivial
theorem PySem.W.Fast.tw8335702762168253219 : True := trivial
theorem PySem.W.Fast.tw7970328053981713452 : True := trivial
theorem PySem.W.Fast.tw9502447132071475054 : True := trivial
theorem PySem.W.Fast.tw3458182406668375546 : True := trivial
theorem PySem.W.Fast.tw1593775679824898118 : True := trivial
theorem PySem.W.Fast.tw5280793828517431678 : True := trivial
theorem PySem.W.Fast.tw9663290956802604578 : True := trivial
theorem PySem.W.Fast.tw16156781134157156960 : True := trivial
theorem PySem.W.Fast.tw5723654641464189481 : True := trivial
theorem PySem.W.Fast.tw17630676285695295376 : True := trivial
theorem PySem.W.Fast.tw5308271120227335492 : True := trivial
theorem PySem.W.Fast.tw17359189009828117139 : True := trivial
theorem PySem.W.Fast.tw13410892900455025108 : True := trivial
theorem PySem.W.Fast.tw15300147439456716168 : True := trivial
theorem PySem.W.Fast.tw2737268002917039606 : True := trivial
theorem PySem.W.Fast.tw17877909705739064695 : True := trivial
theorem PySem.W.Fast.tw13162127754498255935 : True := trivial
theorem PySem.W.Fast.tw15891946443405476829 : True := trivial
theorem PySem.W.Fast.tw18180074323923875403 : True := trivial
theorem PySem.W.Fast.tw9263385908091487947 : True := trivial
theorem PySem.W.Fast.tw3633723175893126495 : True := trivial
theorem PySem.W.Fast.tw3657311284156554538 : True := trivial
theorem PySem.W.Fast.tw7169137768165486892 : True := trivial
theorem PySem.W.Fast.tw5550284653921632983 : True := trivial
theorem PySem.W.Fast.tw4146813877156845750 : True := trivial
theorem PySem.W.Fast.tw12208458528207609295 : True := trivial
theorem PySem.W.Fast.tw6367742268339576872 : True := trivial
theorem PySem.W.Fast.tw9617141987523652145 : True := trivial
theorem PySem.W.Fast.tw12275260355232935056 : True := trivial
theorem PySem.W.Fast.tw16084832498811168635 : True := trivial
theorem PySem.W.Fast.tw15549947029900959384 : True := trivial
theorem PySem.W.Fast.tw8581794391709033230 : True := trivial
theorem PySem.W.Fast.tw2599258955828635001 : True := trivial
theorem PySem.W.Fast.tw11981475352678884057 : True := trivial
theorem PySem.W.Fast.tw4989176507017534609 : True := trivial
theorem PySem.W.Fast.tw5917302062104641671 : True := trivial
theorem PySem.W.Fast.tw903137309949752203 : True := trivial
theorem PySem.W.Fast.tw18413437930395635822 : True := trivial
theorem PySem.W.Fast.tw9589397362451301134 : True := trivial
theorem PySem.W.Fast.tw1856681184613079830 : True := trivial
theorem PySem.W.Fast.tw13446664770696224609 : True := trivial
theorem PySem.W.Fast.tw8309189333490843529 : True := trivial
theorem PySem.W.Fast.tw9843678309656869135 : True := trivial
theorem PySem.W.Fast.tw13187929471311488776 : True := trivial
theorem PySem.W.Fast.tw6198448009638522782 : True := trivial
theorem PySem.W.Fast.tw13105101699178782405 : True := trivial
theorem PySem.W.Fast.tw7163617164758556149 : True := trivial
theorem PySem.W.Fast.tw7432393963120643834 : True := trivial
theorem PySem.W.Fast.tw13843509437834990226 : True := trivial
theorem PySem.W.Fast.tw9312412598642175070 : True := trivial
theorem PySem.W.Fast.tw3789411594823101878 : True := trivial
theorem PySem.W.Fast.tw15350104418003678606 : True := trivial
theorem PySem.W.Fast.tw11186711409591092355 : True := trivial
theorem PySem.W.Fast.tw1194590891509894413 : True := trivial
theorem PySem.W.Fast.tw17732386552220642777 : True := trivial
theorem PySem.W.Fast.tw14319943445006318367 : True := trivial
theorem PySem.W.Fast.tw9906336613047057030 : True := trivial
theorem PySem.W.Fast.tw1248365143721940140 : True := trivial
theorem PySem.W.Fast.tw4087353725098283263 : True := trivial
theorem PySem.W.Fast.tw6341811129621498951 : True := trivial
theorem PySem.W.Fast.tw13810720499189986486 : True := trivial
theorem PySem.W.Fast.tw4450709227711632986 : True := trivial
theorem PySem.W.Fast.tw17600648232314870799 : True := trivial
theorem PySem.W.Fast.tw6774767084825728851 : True := trivial
theorem PySem.W.Fast.tw2699422454108484671 : True := trivial
theorem PySem.W.Fast.tw13136392071341481804 : True := trivial
theorem PySem.W.Fast.tw9803897222693536568 : True := trivial
theorem PySem.W.Fast.tw11630926122155023611 : True := trivial
theorem PySem.W.Fast.tw4046364025858814601 : True := trivial
theorem PySem.W.Fast.tw11171373810542026694 : True := trivial
theorem PySem.W.Fast.tw17723315715066750007 : True := trivial
theorem PySem.W.Fast.tw9188517153255818669 : True := trivial
theorem PySem.W.Fast.tw7454893701078385931 : True := trivial
theorem PySem.W.Fast.tw16421822423650819033 : True := trivial
theorem PySem.W.Fast.tw15348780806660012769 : True := trivial
theorem PySem.W.Fast.tw15567203006266852321 : True := trivial
theorem PySem.W.Fast.tw4935267369573114476 : True := trivial
theorem PySem.W.Fast.tw14545294795208354631 : True := trivial
theorem PySem.W.Fast.tw13100894851055759183 : True := trivial
set_option maxRecDepth 100000 in
set_option maxHeartbeats 0 in
theorem PySem.Challenge.cw_asofhall_k74_whole_closed_one_behind_the_holds : PySem.Challenge.rw_asofhall_k74_whole_closed_one_behind_the.Holds := by
  w_on; o_law; k_head; (case hw => w_witness2)
  k_fill
  refine Ash.walk (l := PySem.Challenge.rw_asofhall_k74_whole_closed_one_behind_the) rfl rfl (fun w h Y => PySem.W.kIn_of Y) ?F
  case F =>
    intro w mg fa h KX G hmg
    refine' Ash.all_mk KX G hmg ?law0 ?law1 ?law2 ?law3
      { len := (PySem.W.mg_none_of KX G ?h_B_len), int := (PySem.W.mg_none_of KX G ?h_B_int), bool := (PySem.W.mg_none_of KX G ?h_B_bool), str := (PySem.W.mg_none_of KX G ?h_B_str), list := (PySem.W.mg_none_of KX G ?h_B_list), tuple := (PySem.W.mg_none_of KX G ?h_B_tuple), dict := (PySem.W.mg_none_of KX G ?h_B_dict), isinstance := (PySem.W.mg_none_of KX G ?h_B_isinstance), all := (PySem.W.mg_none_of KX G ?h_B_all), range := (PySem.W.mg_none_of KX G ?h_B_range), enumerate := (PySem.W.mg_none_of KX G ?h_B_enumerate), sorted := (PySem.W.mg_none_of KX G ?h_B_sorted), min := (PySem.W.mg_none_of KX G ?h_B_min), max := (PySem.W.mg_none_of KX G ?h_B_max), set := (PySem.W.mg_none_of KX G ?h_B_set) }
      ⟨(Ash.ex_str KX G ?h_Cs_0), (Ash.ex_int KX G ?h_Cs_1), (Ash.ex_int KX G ?h_Cs_2), (Ash.ex_int KX G ?h_Cs_3), (Ash.ex_int KX G ?h_Cs_4)⟩
      ⟨⟨?h_TB_0_0, ?h_TB_0_1, ?h_TB_0_2, ?h_TB_0_3⟩, ?h_TB_1, (PySem.W.mg_of KX G ?h_TB_2)⟩
      ⟨⟨?h_T_0_0, ?h_T_0_1, ?h_T_0_2, ?h_T_0_3⟩, ?h_T_1, ?h_T_2, ?h_T_3, (PySem.W.mg_of KX G ?h_T_4)⟩
      ⟨(PySem.W.mg_of KX G ?h_Tt_0), (Ash.tt_mk ?h_Tt_1_0)⟩
      (PySem.W.mg_of KX G ?h_cE)
      (Ash.txt_mk KX G ?h_TE_0 ?h_TE_1 ?h_TE_2 ?h_TE_3 ?h_TE_4 ?h_TE_5 ?h_TE_6 ?h_TE_7 ?h_TE_8 ?h_TE_9 ?h_TE_10 ?h_TE_11 ?h_TE_12 ?h_TE_13 ?h_TE_14 ?h_TE_15 ?h_TE_16 ?h_TE_17 ?h_TE_18 ?h_TE_19 ?h_TE_20 ?h_TE_21 ?h_TE_22 ?h_TE_23 ?h_TE_24 ?h_TE_25 ?h_TE_26 ?h_TE_27 ?h_TE_28 ?h_TE_29)
      ⟨?h_bi_0, ?h_bi_1, ?h_bi_2, ?h_bi_3⟩
      ⟨?h_ji_0, ?h_ji_1, ?h_ji_2, ?h_ji_3⟩
      ?h_mkB
      ?h_kB
      ⟨(Ash.ex_int KX G ?h_C2_0)⟩
      ⟨(PySem.W.mg_none_of KX G ?h_C3_0)⟩
      ⟨⟨?h_TO_0_0, ?h_TO_0_1, ?h_TO_0_2, ?h_TO_0_3⟩, ?h_TO_1, ?h_TO_2, ?h_TO_3, ?h_TO_4, ?h_TO_5, ?h_TO_6, (PySem.W.mg_of KX G ?h_TO_7)⟩
      ⟨⟨?h_TD_0_0, ?h_TD_0_1, ?h_TD_0_2, ?h_TD_0_3⟩, ?h_TD_1, ?h_TD_2, (PySem.W.mg_of KX G ?h_TD_3)⟩
      (PySem.W.mg_of KX G ?h_cI)
      (PySem.W.mg_of KX G ?h_cY)
      (PySem.W.mg_of KX G ?h_cS)
      (PySem.W.mg_of KX G ?h_cM)
      (PySem.W.mg_of KX G ?h_cN)
      (PySem.W.mg_of KX G ?h_cT)
      (Ash.txt_mk KX G ?h_TI_0 ?h_TI_1 ?h_TI_2 ?h_TI_3 ?h_TI_4 ?h_TI_5 ?h_TI_6 ?h_TI_7 ?h_TI_8 ?h_TI_9 ?h_TI_10 ?h_TI_11 ?h_TI_12 ?h_TI_13 ?h_TI_14 ?h_TI_15 ?h_TI_16 ?h_TI_17 ?h_TI_18 ?h_TI_19 ?h_TI_20 ?h_TI_21 ?h_TI_22 ?h_TI_23 ?h_TI_24 ?h_TI_25 ?h_TI_26 ?h_TI_27 ?h_TI_28 ?h_TI_29)
      (Ash.txt_mk KX G ?h_TY_0 ?h_TY_1 ?h_TY_2 ?h_TY_3 ?h_TY_4 ?h_TY_5 ?h_TY_6 ?h_TY_7 ?h_TY_8 ?h_TY_9 ?h_TY_10 ?h_TY_11 ?h_TY_12 ?h_TY_13 ?h_TY_14 ?h_TY_15 ?h_TY_16 ?h_TY_17 ?h_TY_18 ?h_TY_19 ?h_TY_20 ?h_TY_21 ?h_TY_22 ?h_TY_23 ?h_TY_24 ?h_TY_25 ?h_TY_26 ?h_TY_27 ?h_TY_28 ?h_TY_29)
      (Ash.txt_mk KX G ?h_TS_0 ?h_TS_1 ?h_TS_2 ?h_TS_3 ?h_TS_4 ?h_TS_5 ?h_TS_6 ?h_TS_7 ?h_TS_8 ?h_TS_9 ?h_TS_10 ?h_TS_11 ?h_TS_12 ?h_TS_13 ?h_TS_14 ?h_TS_15 ?h_TS_16 ?h_TS_17 ?h_TS_18 ?h_TS_19 ?h_TS_20 ?h_TS_21 ?h_TS_22 ?h_TS_23 ?h_TS_24 ?h_TS_25 ?h_TS_26 ?h_TS_27 ?h_TS_28 ?h_TS_29)
      (Ash.txt_mk KX G ?h_TM_0 ?h_TM_1 ?h_TM_2 ?h_TM_3 ?h_TM_4 ?h_TM_5 ?h_TM_6 ?h_TM_7 ?h_TM_8 ?h_TM_9 ?h_TM_10 ?h_TM_11 ?h_TM_12 ?h_TM_13 ?h_TM_14 ?h_TM_15 ?h_TM_16 ?h_TM_17 ?h_TM_18 ?h_TM_19 ?h_TM_20 ?h_TM_21 ?h_TM_22 ?h_TM_23 ?h_TM_24 ?h_TM_25 ?h_TM_26 ?h_TM_27 ?h_TM_28 ?h_TM_29)
      (Ash.txt_mk KX G ?h_TN_0 ?h_TN_1 ?h_TN_2 ?h_TN_3 ?h_TN_4 ?h_TN_5 ?h_TN_6 ?h_TN_7 ?h_TN_8 ?h_TN_9 ?h_TN_10 ?h_TN_11 ?h_TN_12 ?h_TN_13 ?h_TN_14 ?h_TN_15 ?h_TN_16 ?h_TN_17 ?h_TN_18 ?h_TN_19 ?h_TN_20 ?h_TN_21 ?h_TN_22 ?h_TN_23 ?h_TN_24 ?h_TN_25 ?h_TN_26 ?h_TN_27 ?h_TN_28 ?h_TN_29)
      (Ash.exc_mk ?h_xT_0 ?h_xT_1 ?h_xT_2 ?h_xT_3 ?h_xT_4 ?h_xT_5 ?h_xT_6 ?h_xT_7)
      ?h_kT
      ?h_bT
      ?h_tT
      (Ash.exm_me ?h_nTT_0 ?h_nTT_1 ?h_nTT_2 ?h_nTT_3)
      (Ash.exm_no ?h_nYI_0 ?h_nYI_1 ?h_nYI_2 ?h_nYI_3)
      (Ash.exm_no ?h_nSI_0 ?h_nSI_1 ?h_nSI_2 ?h_nSI_3)
      (Ash.exm_no ?h_nSY_0 ?h_nSY_1 ?h_nSY_2 ?h_nSY_3)
      (Ash.exm_no ?h_nEI_0 ?h_nEI_1 ?h_nEI_2 ?h_nEI_3)
      (Ash.exm_no ?h_nEY_0 ?h_nEY_1 ?h_nEY_2 ?h_nEY_3)
      (Ash.exm_no ?h_nES_0 ?h_nES_1 ?h_nES_2 ?h_nES_3)
      (Ash.exm_no ?h_nMI_0 ?h_nMI_1 ?h_nMI_2 ?h_nMI_3)
      (Ash.exm_no ?h_nMY_0 ?h_nMY_1 ?h_nMY_2 ?h_nMY_3)
      (Ash.exm_no ?h_nMS_0 ?h_nMS_1 ?h_nMS_2 ?h_nMS_3)
      (Ash.exm_no ?h_nME_0 ?h_nME_1 ?h_nME_2 ?h_nME_3)
      (Ash.exm_no ?h_nNI_0 ?h_nNI_1 ?h_nNI_2 ?h_nNI_3)
      (Ash.exm_no ?h_nNY_0 ?h_nNY_1 ?h_nNY_2 ?h_nNY_3)
      (Ash.exm_no ?h_nNS_0 ?h_nNS_1 ?h_nNS_2 ?h_nNS_3)
      (Ash.exm_no ?h_nNE_0 ?h_nNE_1 ?h_nNE_2 ?h_nNE_3)
      (Ash.exm_no ?h_nNM_0 ?h_nNM_1 ?h_nNM_2 ?h_nNM_3)
      (Ash.exm_no ?h_nTI_0 ?h_nTI_1 ?h_nTI_2 ?h_nTI_3)
      (Ash.exm_no ?h_nTY_0 ?h_nTY_1 ?h_nTY_2 ?h_nTY_3)
      (Ash.exm_no ?h_nTS_0 ?h_nTS_1 ?h_nTS_2 ?h_nTS_3)
      (Ash.exm_no ?h_nTE_0 ?h_nTE_1 ?h_nTE_2 ?h_nTE_3)
      (Ash.exm_no ?h_nTM_0 ?h_nTM_1 ?h_nTM_2 ?h_nTM_3)
      (Ash.exm_no ?h_nTN_0 ?h_nTN_1 ?h_nTN_2 ?h_nTN_3)
      ?h_mkD
      ?h_kD
      (Ash.dnn ?h_m_OI_0 ?h_m_OI_1 ?h_m_OI_2 ?h_m_OI_3 ?h_m_OI_4 ?h_m_OI_5 ?h_m_OI_6 ?h_m_OI_7)
      (Ash.d1 KX G ?h_d_is_integer_0 ?h_d_is_integer_1 ?h_d_is_integer_2 ?h_d_is_integer_3)
      (Ash.d1 KX G ?h_d_is_natural_0 ?h_d_is_natural_1 ?h_d_is_natural_2 ?h_d_is_natural_3)
      (Ash.d1 KX G ?h_d_is_name_0 ?h_d_is_name_1 ?h_d_is_name_2 ?h_d_is_name_3)
      (Ash.d1 KX G ?h_d_are_integers_0 ?h_d_are_integers_1 ?h_d_are_integers_2 ?h_d_are_integers_3)
      (Ash.d1 KX G ?h_d_is_late_0 ?h_d_is_late_1 ?h_d_is_late_2 ?h_d_is_late_3)
      (Ash.d1 KX G ?h_d_is_lates_0 ?h_d_is_lates_1 ?h_d_is_lates_2 ?h_d_is_lates_3)
      (Ash.d1 KX G ?h_d_is_entry_0 ?h_d_is_entry_1 ?h_d_is_entry_2 ?h_d_is_entry_3)
      (Ash.d1 KX G ?h_d_arrival_of_0 ?h_d_arrival_of_1 ?h_d_arrival_of_2 ?h_d_arrival_of_3)
      (Ash.d1 KX G ?h_d_placed_0 ?h_d_placed_1 ?h_d_placed_2 ?h_d_placed_3)
      (Ash.d1 KX G ?h_d_row_behind_0 ?h_d_row_behind_1 ?h_d_row_behind_2 ?h_d_row_behind_3)
      (Ash.d1 KX G ?h_d_walked_0 ?h_d_walked_1 ?h_d_walked_2 ?h_d_walked_3)
      (Ash.d1 KX G ?h_d_is_row_0 ?h_d_is_row_1 ?h_d_is_row_2 ?h_d_is_row_3)
      (Ash.dm ?h_m_Init_0 ?h_m_Init_1 ?h_m_Init_2 ?h_m_Init_3 ?h_m_Init_4)
      (Ash.dm ?h_m_Has_0 ?h_m_Has_1 ?h_m_Has_2 ?h_m_Has_3 ?h_m_Has_4)
      (Ash.dm ?h_m_Late_0 ?h_m_Late_1 ?h_m_Late_2 ?h_m_Late_3 ?h_m_Late_4)
      (Ash.dd ?h_m_J_0 ?h_m_J_1 ?h_m_J_2 ?h_m_J_3 ?h_m_J_4 ?h_m_J_5 ?h_m_J_6 ?h_m_J_7)
      (Ash.dm ?h_m_Then_0 ?h_m_Then_1 ?h_m_Then_2 ?h_m_Then_3 ?h_m_Then_4)
      (Ash.dm ?h_m_Len_0 ?h_m_Len_1 ?h_m_Len_2 ?h_m_Len_3 ?h_m_Len_4)
      (Ash.dq ?h_m_Beq_0 ?h_m_Beq_1 ?h_m_Beq_2 ?h_m_Beq_3 ?h_m_Beq_4)
      (Ash.ne_mk ?h_bne_0 ?h_bne_1 ?h_bne_2 ?h_bne_3 ?h_bne_4 ?h_bne_5 ?h_bne_6)
      (Ash.dm ?h_m_DInit_0 ?h_m_DInit_1 ?h_m_DInit_2 ?h_m_DInit_3 ?h_m_DInit_4)
      (Ash.dm ?h_m_DraftOf_0 ?h_m_DraftOf_1 ?h_m_DraftOf_2 ?h_m_DraftOf_3 ?h_m_DraftOf_4)
      (Ash.dm ?h_m_Begin_0 ?h_m_Begin_1 ?h_m_Begin_2 ?h_m_Begin_3 ?h_m_Begin_4)
      (Ash.dm ?h_m_Put_0 ?h_m_Put_1 ?h_m_Put_2 ?h_m_Put_3 ?h_m_Put_4)
      (Ash.dm ?h_m_Row_0 ?h_m_Row_1 ?h_m_Row_2 ?h_m_Row_3 ?h_m_Row_4)
      (Ash.dm ?h_m_Fix_0 ?h_m_Fix_1 ?h_m_Fix_2 ?h_m_Fix_3 ?h_m_Fix_4)
      (Ash.dm ?h_m_Gone_0 ?h_m_Gone_1 ?h_m_Gone_2 ?h_m_Gone_3 ?h_m_Gone_4)
      (Ash.dm ?h_m_Drop_0 ?h_m_Drop_1 ?h_m_Drop_2 ?h_m_Drop_3 ?h_m_Drop_4)
      (Ash.dm ?h_m_Tell_0 ?h_m_Tell_1 ?h_m_Tell_2 ?h_m_Tell_3 ?h_m_Tell_4)
      (Ash.dm ?h_m_Writers_0 ?h_m_Writers_1 ?h_m_Writers_2 ?h_m_Writers_3 ?h_m_Writers_4)
      (Ash.dm ?h_m_Fresh_0 ?h_m_Fresh_1 ?h_m_Fresh_2 ?h_m_Fresh_3 ?h_m_Fresh_4)
      (Ash.dm ?h_m_Behind_0 ?h_m_Behind_1 ?h_m_Behind_2 ?h_m_Behind_3 ?h_m_Behind_4)
      (Ash.dm ?h_m_Close_0 ?h_m_Close_1 ?h_m_Close_2 ?h_m_Close_3 ?h_m_Close_4)
      (Ash.dm ?h_m_Undo_0 ?h_m_Undo_1 ?h_m_Undo_2 ?h_m_Undo_3 ?h_m_Undo_4)
      (Ash.d1 KX G ?h_d__law_called_0 ?h_d__law_called_1 ?h_d__law_called_2 ?h_d__law_called_3)
      (Ash.d1 KX G ?h_d__law_done_0 ?h_d__law_done_1 ?h_d__law_done_2 ?h_d__law_done_3)
      (Ash.d1 KX G ?h_d__law_put_in_0 ?h_d__law_put_in_1 ?h_d__law_put_in_2 ?h_d__law_put_in_3)
      (Ash.d1 KX G ?h_d__law_pool_0 ?h_d__law_pool_1 ?h_d__law_pool_2 ?h_d__law_pool_3)
      (Ash.d1 KX G ?h_d__law_draw_0 ?h_d__law_draw_1 ?h_d__law_draw_2 ?h_d__law_draw_3)
      (Ash.d1 KX G ?h_d__law_names_0 ?h_d__law_names_1 ?h_d__law_names_2 ?h_d__law_names_3)
      (Ash.d1 KX G ?h_d__law_lates_0 ?h_d__law_lates_1 ?h_d__law_lates_2 ?h_d__law_lates_3)
      (Ash.d1 KX G ?h_d__law_amount_0 ?h_d__law_amount_1 ?h_d__law_amount_2 ?h_d__law_amount_3)
      (Ash.d1 KX G ?h_d__law_entry_0 ?h_d__law_entry_1 ?h_d__law_entry_2 ?h_d__law_entry_3)
      (Ash.d1 KX G ?h_d__law_put_0 ?h_d__law_put_1 ?h_d__law_put_2 ?h_d__law_put_3)
      (Ash.d1 KX G ?h_d__law_entries_0 ?h_d__law_entries_1 ?h_d__law_entries_2 ?h_d__law_entries_3)
      (Ash.d1 KX G ?h_d__law_states_0 ?h_d__law_states_1 ?h_d__law_states_2 ?h_d__law_states_3)
      (Ash.d1 KX G ?h_d__law_drafted_0 ?h_d__law_drafted_1 ?h_d__law_drafted_2 ?h_d__law_drafted_3)
      (Ash.dq ?h_m_Jeq_0 ?h_m_Jeq_1 ?h_m_Jeq_2 ?h_m_Jeq_3 ?h_m_Jeq_4)
      (Ash.ne_mk ?h_jne_0 ?h_jne_1 ?h_jne_2 ?h_jne_3 ?h_jne_4 ?h_jne_5 ?h_jne_6)
      (Ash.d1 KX G ?h_d__law_appended_0 ?h_d__law_appended_1 ?h_d__law_appended_2 ?h_d__law_appended_3)
      (Ash.d1 KX G ?h_d__law_replayed_0 ?h_d__law_replayed_1 ?h_d__law_replayed_2 ?h_d__law_replayed_3)
      (Ash.d1 KX G ?h_d__law_deed_0 ?h_d__law_deed_1 ?h_d__law_deed_2 ?h_d__law_deed_3)
    (case h_Cs_0 => k_is)
    (case h_Cs_1 => k_is)
    (case h_Cs_2 => k_is)
    (case h_Cs_3 => k_is)
    (case h_Cs_4 => k_is)
    (case h_TB_2 => k_is)
    (case h_T_4 => k_is)
    (case h_Tt_0 => k_is)
    (case h_cE => k_is)
    (case h_C2_0 => k_is)
    (case h_TO_7 => k_is)
    (case h_TD_3 => k_is)
    (case h_cI => k_is)
    (case h_cY => k_is)
    (case h_cS => k_is)
    (case h_cM => k_is)
    (case h_cN => k_is)
    (case h_cT => k_is)
    (case law0 => k_is)
    (case law1 => k_is)
    (case law2 => k_is)
    (case law3 => k_is)
    (case h_B_len => k_is)
    (case h_B_int => k_is)
    (case h_B_bool => k_is)
    (case h_B_str => k_is)
    (case h_B_list => k_is)
    (case h_B_tuple => k_is)
    (case h_B_dict => k_is)
    (case h_B_isinstance => k_is)
    (case h_B_all => k_is)
    (case h_B_range => k_is)
    (case h_B_enumerate => k_is)
    (case h_B_sorted => k_is)
    (case h_B_min => k_is)
    (case h_B_max => k_is)
    (case h_B_set => k_is)
    (case h_TB_0_0 => k_is)
    (case h_TB_0_1 => k_is)
    (case h_TB_0_2 => k_is)
    (case h_TB_0_3 => k_is)
    (case h_TB_1 => delta L2.NoAttr; k_is)
    (case h_T_0_0 => k_is)
    (case h_T_0_1 => k_is)
    (case h_T_0_2 => k_is)
    (case h_T_0_3 => k_is)
    (case h_T_1 => delta L2.NoAttr; k_is)
    (case h_T_2 => delta L2.NoAttr; k_is)
    (case h_T_3 => delta L2.NoAttr; k_is)
    (case h_Tt_1_0 => k_is)
    (case h_TE_0 => k_is)
    (case h_TE_2 => k_is)
    (case h_TE_3 => k_is)
    (case h_TE_4 => k_is)
    (case h_TE_5 => k_is)
    (case h_TE_6 => k_is)
    (case h_TE_7 => k_is)
    (case h_TE_8 => k_is)
    (case h_TE_9 => k_is)
    (case h_TE_10 => k_is)
    (case h_TE_11 => k_is)
    (case h_TE_12 => k_is)
    (case h_TE_13 => k_is)
    (case h_TE_14 => k_is)
    (case h_TE_15 => k_is)
    (case h_TE_17 => k_is)
    (case h_TE_18 => k_is)
    (case h_TE_20 => k_is)
    (case h_TE_21 => k_is)
    (case h_TE_25 => k_is)
    (case h_TE_29 => k_is)
    (case h_bi_0 => k_is)
    (case h_bi_1 => k_is)
    (case h_bi_2 => k_is)
    (case h_bi_3 => k_is)
    (case h_ji_0 => k_is)
    (case h_ji_1 => k_is)
    (case h_ji_2 => k_is)
    (case h_ji_3 => k_is)
    (case h_mkB => k_is)
    (case h_kB => k_is)
    (case h_C3_0 => k_is)
    (case h_TO_0_0 => k_is)
    (case h_TO_0_1 => k_is)
    (case h_TO_0_2 => k_is)
    (case h_TO_0_3 => k_is)
    (case h_TO_1 => delta L2.NoAttr; k_is)
    (case h_TO_2 => delta L2.NoAttr; k_is)
    (case h_TO_3 => delta L2.NoAttr; k_is)
    (case h_TO_4 => delta L2.NoAttr; k_is)
    (case h_TO_5 => delta L2.NoAttr; k_is)
    (case h_TO_6 => delta L2.NoAttr; k_is)
    (case h_TD_0_0 => k_is)
    (case h_TD_0_1 => k_is)
    (case h_TD_0_2 => k_is)
    (case h_TD_0_3 => k_is)
    (case h_TD_1 => delta L2.NoAttr; k_is)
    (case h_TD_2 => delta L2.NoAttr; k_is)
    (case h_TI_0 => k_is)
    (case h_TI_2 => k_is)
    (case h_TI_3 => k_is)
    (case h_TI_4 => k_is)
    (case h_TI_5 => k_is)
    (case h_TI_6 => k_is)
    (case h_TI_7 => k_is)
    (case h_TI_8 => k_is)
    (case h_TI_9 => k_is)
    (case h_TI_10 => k_is)
    (case h_TI_11 => k_is)
    (case h_TI_12 => k_is)
    (case h_TI_13 => k_is)
    (case h_TI_14 => k_is)
    (case h_TI_15 => k_is)
    (case h_TI_17 => k_is)
    (case h_TI_18 => k_is)
    (case h_TI_20 => k_is)
    (case h_TI_21 => k_is)
    (case h_TI_25 => k_is)
    (case h_TI_29 => k_is)
    (case h_TY_0 => k_is)
    (case h_TY_2 => k_is)
    (case h_TY_3 => k_is)
    (case h_TY_4 => k_is)
    (case h_TY_5 => k_is)
    (case h_TY_6 => k_is)
    (case h_TY_7 => k_is)
    (case h_TY_8 => k_is)
    (case h_TY_9 => k_is)
    (case h_TY_10 => k_is)
    (case h_TY_11 => k_is)
    (case h_TY_12 => k_is)
    (case h_TY_13 => k_is)
    (case h_TY_14 => k_is)
    (case h_TY_15 => k_is)
    (case h_TY_17 => k_is)
    (case h_TY_18 => k_is)
    (case h_TY_20 => k_is)
    (case h_TY_21 => k_is)
    (case h_TY_25 => k_is)
    (case h_TY_29 => k_is)
    (case h_TS_0 => k_is)
    (case h_TS_2 => k_is)
    (case h_TS_3 => k_is)
    (case h_TS_4 => k_is)
    (case h_TS_5 => k_is)
    (case h_TS_6 => k_is)
    (case h_TS_7 => k_is)
    (case h_TS_8 => k_is)
    (case h_TS_9 => k_is)
    (case h_TS_10 => k_is)
    (case h_TS_11 => k_is)
    (case h_TS_12 => k_is)
    (case h_TS_13 => k_is)
    (case h_TS_14 => k_is)
    (case h_TS_15 => k_is)
    (case h_TS_17 => k_is)
    (case h_TS_18 => k_is)
    (case h_TS_20 => k_is)
    (case h_TS_21 => k_is)
    (case h_TS_25 => k_is)
    (case h_TS_29 => k_is)
    (case h_TM_0 => k_is)
    (case h_TM_2 => k_is)
    (case h_TM_3 => k_is)
    (case h_TM_4 => k_is)
    (case h_TM_5 => k_is)
    (case h_TM_6 => k_is)
    (case h_TM_7 => k_is)
    (case h_TM_8 => k_is)
    (case h_TM_9 => k_is)
    (case h_TM_10 => k_is)
    (case h_TM_11 => k_is)
    (case h_TM_12 => k_is)
    (case h_TM_13 => k_is)
    (case h_TM_14 => k_is)
    (case h_TM_15 => k_is)
    (case h_TM_17 => k_is)
    (case h_TM_18 => k_is)
    (case h_TM_20 => k_is)
    (case h_TM_21 => k_is)
    (case h_TM_25 => k_is)
    (case h_TM_29 => k_is)
    (case h_TN_0 => k_is)
    (case h_TN_2 => k_is)
    (case h_TN_3 => k_is)
    (case h_TN_4 => k_is)
    (case h_TN_5 => k_is)
    (case h_TN_6 => k_is)
    (case h_TN_7 => k_is)
    (case h_TN_8 => k_is)
    (case h_TN_9 => k_is)
    (case h_TN_10 => k_is)
    (case h_TN_11 => k_is)
    (case h_TN_12 => k_is)
    (case h_TN_13 => k_is)
    (case h_TN_14 => k_is)
    (case h_TN_15 => k_is)
    (case h_TN_17 => k_is)
    (case h_TN_18 => k_is)
    (case h_TN_20 => k_is)
    (case h_TN_21 => k_is)
    (case h_TN_25 => k_is)
    (case h_TN_29 => k_is)
    (case h_xT_0 => k_is)
    (case h_xT_1 => k_is)
    (case h_xT_3 => k_is)
    (case h_xT_4 => k_is)
    (case h_xT_5 => k_is)
    (case h_xT_7 => k_is)
    (case h_kT => k_is)
    (case h_bT => k_is)
    (case h_tT => k_is)
    (case h_nTT_0 => k_is)
    (case h_nTT_1 => k_is)
    (case h_nTT_2 => k_is)
    (case h_nTT_3 => k_is)
    (case h_nYI_0 => k_is)
    (case h_nYI_1 => k_is)
    (case h_nYI_2 => k_is)
    (case h_nYI_3 => k_is)
    (case h_nSI_0 => k_is)
    (case h_nSI_1 => k_is)
    (case h_nSI_2 => k_is)
    (case h_nSI_3 => k_is)
    (case h_nSY_0 => k_is)
    (case h_nSY_1 => k_is)
    (case h_nSY_2 => k_is)
    (case h_nSY_3 => k_is)
    (case h_nEI_0 => k_is)
    (case h_nEI_1 => k_is)
    (case h_nEI_2 => k_is)
    (case h_nEI_3 => k_is)
    (case h_nEY_0 => k_is)
    (case h_nEY_1 => k_is)
    (case h_nEY_2 => k_is)
    (case h_nEY_3 => k_is)
    (case h_nES_0 => k_is)
    (case h_nES_1 => k_is)
    (case h_nES_2 => k_is)
    (case h_nES_3 => k_is)
    (case h_nMI_0 => k_is)
    (case h_nMI_1 => k_is)
    (case h_nMI_2 => k_is)
    (case h_nMI_3 => k_is)
    (case h_nMY_0 => k_is)
    (case h_nMY_1 => k_is)
    (case h_nMY_2 => k_is)
    (case h_nMY_3 => k_is)
    (case h_nMS_0 => k_is)
    (case h_nMS_1 => k_is)
    (case h_nMS_2 => k_is)
    (case h_nMS_3 => k_is)
    (case h_nME_0 => k_is)
    (case h_nME_1 => k_is)
    (case h_nME_2 => k_is)
    (case h_nME_3 => k_is)
    (case h_nNI_0 => k_is)
    (case h_nNI_1 => k_is)
    (case h_nNI_2 => k_is)
    (case h_nNI_3 => k_is)
    (case h_nNY_0 => k_is)
    (case h_nNY_1 => k_is)
    (case h_nNY_2 => k_is)
    (case h_nNY_3 => k_is)
    (case h_nNS_0 => k_is)
    (case h_nNS_1 => k_is)
    (case h_nNS_2 => k_is)
    (case h_nNS_3 => k_is)
    (case h_nNE_0 => k_is)
    (case h_nNE_1 => k_is)
    (case h_nNE_2 => k_is)
    (case h_nNE_3 => k_is)
    (case h_nNM_0 => k_is)
    (case h_nNM_1 => k_is)
    (case h_nNM_2 => k_is)
    (case h_nNM_3 => k_is)
    (case h_nTI_0 => k_is)
    (case h_nTI_1 => k_is)
    (case h_nTI_2 => k_is)
    (case h_nTI_3 => k_is)
    (case h_nTY_0 => k_is)
    (case h_nTY_1 => k_is)
    (case h_nTY_2 => k_is)
    (case h_nTY_3 => k_is)
    (case h_nTS_0 => k_is)
    (case h_nTS_1 => k_is)
    (case h_nTS_2 => k_is)
    (case h_nTS_3 => k_is)
    (case h_nTE_0 => k_is)
    (case h_nTE_1 => k_is)
    (case h_nTE_2 => k_is)
    (case h_nTE_3 => k_is)
    (case h_nTM_0 => k_is)
    (case h_nTM_1 => k_is)
    (case h_nTM_2 => k_is)
    (case h_nTM_3 => k_is)
    (case h_nTN_0 => k_is)
    (case h_nTN_1 => k_is)
    (case h_nTN_2 => k_is)
    (case h_nTN_3 => k_is)
    (case h_mkD => k_is)
    (case h_kD => k_is)
    (case h_m_OI_0 => k_is)
    (case h_m_OI_1 => k_is)
    (case h_m_OI_2 => k_is)
    (case h_m_OI_3 => k_is)
    (case h_m_OI_4 => k_is)
    (case h_m_OI_5 => k_is)
    (case h_m_OI_6 => k_is)
    (case h_m_OI_7 => k_is)
    (case h_d_is_integer_0 => k_is)
    (case h_d_is_integer_1 => k_is)
    (case h_d_is_integer_2 => k_is)
    (case h_d_is_integer_3 => k_is)
    (case h_d_is_natural_0 => k_is)
    (case h_d_is_natural_1 => k_is)
    (case h_d_is_natural_2 => k_is)
    (case h_d_is_natural_3 => k_is)
    (case h_d_is_name_0 => k_is)
    (case h_d_is_name_1 => k_is)
    (case h_d_is_name_2 => k_is)
    (case h_d_is_name_3 => k_is)
    (case h_d_are_integers_0 => k_is)
    (case h_d_are_integers_1 => k_is)
    (case h_d_are_integers_2 => k_is)
    (case h_d_are_integers_3 => k_is)
    (case h_d_is_late_0 => k_is)
    (case h_d_is_late_1 => k_is)
    (case h_d_is_late_2 => k_is)
    (case h_d_is_late_3 => k_is)
    (case h_d_is_lates_0 => k_is)
    (case h_d_is_lates_1 => k_is)
    (case h_d_is_lates_2 => k_is)
    (case h_d_is_lates_3 => k_is)
    (case h_d_is_entry_0 => k_is)
    (case h_d_is_entry_1 => k_is)
    (case h_d_is_entry_2 => k_is)
    (case h_d_is_entry_3 => k_is)
    (case h_d_arrival_of_0 => k_is)
    (case h_d_arrival_of_1 => k_is)
    (case h_d_arrival_of_2 => k_is)
    (case h_d_arrival_of_3 => k_is)
    (case h_d_placed_0 => k_is)
    (case h_d_placed_1 => k_is)
    (case h_d_placed_2 => k_is)
    (case h_d_placed_3 => k_is)
    (case h_d_row_behind_0 => k_is)
    (case h_d_row_behind_1 => k_is)
    (case h_d_row_behind_2 => k_is)
    (case h_d_row_behind_3 => k_is)
    (case h_d_walked_0 => k_is)
    (case h_d_walked_1 => k_is)
    (case h_d_walked_2 => k_is)
    (case h_d_walked_3 => k_is)
    (case h_d_is_row_0 => k_is)
    (case h_d_is_row_1 => k_is)
    (case h_d_is_row_2 => k_is)
    (case h_d_is_row_3 => k_is)
    (case h_m_Init_0 => k_is)
    (case h_m_Init_1 => k_is)
    (case h_m_Init_2 => k_is)
    (case h_m_Init_3 => k_is)
    (case h_m_Init_4 => k_is)
    (case h_m_Has_0 => k_is)
    (case h_m_Has_1 => k_is)
    (case h_m_Has_2 => k_is)
    (case h_m_Has_3 => k_is)
    (case h_m_Has_4 => k_is)
    (case h_m_Late_0 => k_is)
    (case h_m_Late_1 => k_is)
    (case h_m_Late_2 => k_is)
    (case h_m_Late_3 => k_is)
    (case h_m_Late_4 => k_is)
    (case h_m_J_0 => k_is)
    (case h_m_J_1 => k_is)
    (case h_m_J_2 => k_is)
    (case h_m_J_3 => k_is)
    (case h_m_J_4 => k_is)
    (case h_m_J_5 => k_is)
    (case h_m_J_6 => k_is)
    (case h_m_J_7 => k_is)
    (case h_m_Then_0 => k_is)
    (case h_m_Then_1 => k_is)
    (case h_m_Then_2 => k_is)
    (case h_m_Then_3 => k_is)
    (case h_m_Then_4 => k_is)
    (case h_m_Len_0 => k_is)
    (case h_m_Len_1 => k_is)
    (case h_m_Len_2 => k_is)
    (case h_m_Len_3 => k_is)
    (case h_m_Len_4 => k_is)
    (case h_m_Beq_0 => k_is)
    (case h_m_Beq_1 => k_is)
    (case h_m_Beq_2 => k_is)
    (case h_m_Beq_3 => k_is)
    (case h_m_Beq_4 => k_is)
    (case h_bne_0 => k_is)
    (case h_bne_1 => k_is)
    (case h_bne_3 => k_is)
    (case h_bne_4 => k_is)
    (case h_bne_5 => k_is)
    (case h_m_DInit_0 => k_is)
    (case h_m_DInit_1 => k_is)
    (case h_m_DInit_2 => k_is)
    (case h_m_DInit_3 => k_is)
    (case h_m_DInit_4 => k_is)
    (case h_m_DraftOf_0 => k_is)
    (case h_m_DraftOf_1 => k_is)
    (case h_m_DraftOf_2 => k_is)
    (case h_m_DraftOf_3 => k_is)
    (case h_m_DraftOf_4 => k_is)
    (case h_m_Begin_0 => k_is)
    (case h_m_Begin_1 => k_is)
    (case h_m_Begin_2 => k_is)
    (case h_m_Begin_3 => k_is)
    (case h_m_Begin_4 => k_is)
    (case h_m_Put_0 => k_is)
    (case h_m_Put_1 => k_is)
    (case h_m_Put_2 => k_is)
    (case h_m_Put_3 => k_is)
    (case h_m_Put_4 => k_is)
    (case h_m_Row_0 => k_is)
    (case h_m_Row_1 => k_is)
    (case h_m_Row_2 => k_is)
    (case h_m_Row_3 => k_is)
    (case h_m_Row_4 => k_is)
    (case h_m_Fix_0 => k_is)
    (case h_m_Fix_1 => k_is)
    (case h_m_Fix_2 => k_is)
    (case h_m_Fix_3 => k_is)
    (case h_m_Fix_4 => k_is)
    (case h_m_Gone_0 => k_is)
    (case h_m_Gone_1 => k_is)
    (case h_m_Gone_2 => k_is)
    (case h_m_Gone_3 => k_is)
    (case h_m_Gone_4 => k_is)
    (case h_m_Drop_0 => k_is)
    (case h_m_Drop_1 => k_is)
    (case h_m_Drop_2 => k_is)
    (case h_m_Drop_3 => k_is)
    (case h_m_Drop_4 => k_is)
    (case h_m_Tell_0 => k_is)
    (case h_m_Tell_1 => k_is)
    (case h_m_Tell_2 => k_is)
    (case h_m_Tell_3 => k_is)
    (case h_m_Tell_4 => k_is)
    (case h_m_Writers_0 => k_is)
    (case h_m_Writers_1 => k_is)
    (case h_m_Writers_2 => k_is)
    (case h_m_Writers_3 => k_is)
    (case h_m_Writers_4 => k_is)
    (case h_m_Fresh_0 => k_is)
    (case h_m_Fresh_1 => k_is)
    (case h_m_Fresh_2 => k_is)
    (case h_m_Fresh_3 => k_is)
    (case h_m_Fresh_4 => k_is)
    (case h_m_Behind_0 => k_is)
    (case h_m_Behind_1 => k_is)
    (case h_m_Behind_2 => k_is)
    (case h_m_Behind_3 => k_is)
    (case h_m_Behind_4 => k_is)
    (case h_m_Close_0 => k_is)
    (case h_m_Close_1 => k_is)
    (case h_m_Close_2 => k_is)
    (case h_m_Close_3 => k_is)
    (case h_m_Close_4 => k_is)
    (case h_m_Undo_0 => k_is)
    (case h_m_Undo_1 => k_is)
    (case h_m_Undo_2 => k_is)
    (case h_m_Undo_3 => k_is)
    (case h_m_Undo_4 => k_is)
    (case h_d__law_called_0 => k_is)
    (case h_d__law_called_1 => k_is)
    (case h_d__law_called_2 => k_is)
    (case h_d__law_called_3 => k_is)
    (case h_d__law_done_0 => k_is)
    (case h_d__law_done_1 => k_is)
    (case h_d__law_done_2 => k_is)
    (case h_d__law_done_3 => k_is)
    (case h_d__law_put_in_0 => k_is)
    (case h_d__law_put_in_1 => k_is)
    (case h_d__law_put_in_2 => k_is)
    (case h_d__law_put_in_3 => k_is)
    (case h_d__law_pool_0 => k_is)
    (case h_d__law_pool_1 => k_is)
    (case h_d__law_pool_2 => k_is)
    (case h_d__law_pool_3 => k_is)
    (case h_d__law_draw_0 => k_is)
    (case h_d__law_draw_1 => k_is)
    (case h_d__law_draw_2 => k_is)
    (case h_d__law_draw_3 => k_is)
    (case h_d__law_names_0 => k_is)
    (case h_d__law_names_1 => k_is)
    (case h_d__law_names_2 => k_is)
    (case h_d__law_names_3 => k_is)
    (case h_d__law_lates_0 => k_is)
    (case h_d__law_lates_1 => k_is)
    (case h_d__law_lates_2 => k_is)
    (case h_d__law_lates_3 => k_is)
    (case h_d__law_amount_0 => k_is)
    (case h_d__law_amount_1 => k_is)
    (case h_d__law_amount_2 => k_is)
    (case h_d__law_amount_3 => k_is)
    (case h_d__law_entry_0 => k_is)
    (case h_d__law_entry_1 => k_is)
    (case h_d__law_entry_2 => k_is)
    (case h_d__law_entry_3 => k_is)
    (case h_d__law_put_0 => k_is)
    (case h_d__law_put_1 => k_is)
    (case h_d__law_put_2 => k_is)
    (case h_d__law_put_3 => k_is)
    (case h_d__law_entries_0 => k_is)
    (case h_d__law_entries_1 => k_is)
    (case h_d__law_entries_2 => k_is)
    (case h_d__law_entries_3 => k_is)
    (case h_d__law_states_0 => k_is)
    (case h_d__law_states_1 => k_is)
    (case h_d__law_states_2 => k_is)
    (case h_d__law_states_3 => k_is)
    (case h_d__law_drafted_0 => k_is)
    (case h_d__law_drafted_1 => k_is)
    (case h_d__law_drafted_2 => k_is)
    (case h_d__law_drafted_3 => k_is)
    (case h_m_Jeq_0 => k_is)
    (case h_m_Jeq_1 => k_is)
    (case h_m_Jeq_2 => k_is)
    (case h_m_Jeq_3 => k_is)
    (case h_m_Jeq_4 => k_is)
    (case h_jne_0 => k_is)
    (case h_jne_1 => k_is)
    (case h_jne_3 => k_is)
    (case h_jne_4 => k_is)
    (case h_jne_5 => k_is)
    (case h_d__law_appended_0 => k_is)
    (case h_d__law_appended_1 => k_is)
    (case h_d__law_appended_2 => k_is)
    (case h_d__law_appended_3 => k_is)
    (case h_d__law_replayed_0 => k_is)
    (case h_d__law_replayed_1 => k_is)
    (case h_d__law_replayed_2 => k_is)
    (case h_d__law_replayed_3 => k_is)
    (case h_d__law_deed_0 => k_is)
    (case h_d__law_deed_1 => k_is)
    (case h_d__law_deed_2 => k_is)
    (case h_d__law_deed_3 => k_is)
    (case h_TE_1 => decide +kernel)
    (case h_TE_16 => ks_is)
    (case h_TE_19 => decide +kernel)
    (case h_TE_22 => exact rfl)
    (case h_TE_23 => exact rfl)
    (case h_TE_24 => exact fun s u v => .of_eq rfl)
    (case h_TE_26 => exact rfl)
    (case h_TE_27 => decide +kernel)
    (case h_TE_28 => decide +kernel)
    (case h_TI_1 => decide +kernel)
    (case h_TI_16 => ks_is)
    (case h_TI_19 => decide +kernel)
    (case h_TI_22 => exact rfl)
    (case h_TI_23 => exact rfl)
    (case h_TI_24 => exact fun s u v => .of_eq rfl)
    (case h_TI_26 => exact rfl)
    (case h_TI_27 => decide +kernel)
    (case h_TI_28 => decide +kernel)
    (case h_TY_1 => decide +kernel)
    (case h_TY_16 => ks_is)
    (case h_TY_19 => decide +kernel)
    (case h_TY_22 => exact rfl)
    (case h_TY_23 => exact rfl)
    (case h_TY_24 => exact fun s u v => .of_eq rfl)
    (case h_TY_26 => exact rfl)
    (case h_TY_27 => decide +kernel)
    (case h_TY_28 => decide +kernel)
    (case h_TS_1 => decide +kernel)
    (case h_TS_16 => ks_is)
    (case h_TS_19 => decide +kernel)
    (case h_TS_22 => exact rfl)
    (case h_TS_23 => exact rfl)
    (case h_TS_24 => exact fun s u v => .of_eq rfl)
    (case h_TS_26 => exact rfl)
    (case h_TS_27 => decide +kernel)
    (case h_TS_28 => decide +kernel)
    (case h_TM_1 => decide +kernel)
    (case h_TM_16 => ks_is)
    (case h_TM_19 => decide +kernel)
    (case h_TM_22 => exact rfl)
    (case h_TM_23 => exact rfl)
    (case h_TM_24 => exact fun s u v => .of_eq rfl)
    (case h_TM_26 => exact rfl)
    (case h_TM_27 => decide +kernel)
    (case h_TM_28 => decide +kernel)
    (case h_TN_1 => decide +kernel)
    (case h_TN_16 => ks_is)
    (case h_TN_19 => decide +kernel)
    (case h_TN_22 => exact rfl)
    (case h_TN_23 => exact rfl)
    (case h_TN_24 => exact fun s u v => .of_eq rfl)
    (case h_TN_26 => exact rfl)
    (case h_TN_27 => decide +kernel)
    (case h_TN_28 => decide +kernel)
    (case h_xT_2 => first | rfl | decide +kernel)
    (case h_xT_6 => first | rfl | decide +kernel)
    (case h_bne_2 => first | rfl | decide +kernel)
    (case h_bne_6 => rfl)
    (case h_jne_2 => first | rfl | decide +kernel)
    (case h_jne_6 => rfl)

