import PyProof.Rows.All
import Wide.All
import OpenK.AllK
import Wide.FinOn
import PyProof.EqAt
import PyProof.EqKinds
import PyProof.TupleCall
import KE.KExcSuper
import HandS.ForMost
import HandS.ForExc
import HandS.ExcInit
import HandS.IsInst
import HandS.Wide
import HandS.Star
import HandS.CallSlots
import HandS.DictComp
import HandS.OwnEq
import HandS.Codes
import HandS.Defaults
import HandS.Walk
import PySem.Challenge.RW_asofhall_k12_shifts_joined_and_sizes
import PyProof.Rows.SortShellAny
import HandS.SetFor
import HandS.SetKeys
import HandS.SortRule
import HandS.More
import HandS.Deep
import PyProof.InstNe
import OpenK.KOwn
import OpenK.KOps
import HandS.Sort
import OpenK.KMeth
import HandS.SlotsOwn
import KE.KOpsOwn
import KE.DatumOrd
import HandS.SortKw
import HandS.TupLe
import HandS.Small
import HandS.ExcOwn
import HandS.Exc
import HandS.TryMany
set_option Elab.async false
set_option linter.all false
set_option maxRecDepth 100000
set_option maxHeartbeats 4000000
namespace PySem
namespace BadX
open PySem.W PySem.Calls PyProof.Rows PySem.HandSPX
/-- super().__init__(text); self.fl = par -/
def shape (tx par fl : Str) (p0 p1 p2 p3 p4 p5 p6 p7 p8 p9 : Pos) (j : Nat) : List Stmt :=
  [.Expr (.Call (.Attribute (.Call (.Name "super" p0) [] [] p1) "__init__" p2) [.Constant (.str tx) j p3] [] p4) p5,
   .Assign [.Attribute (.Name "self" p6) fl p7] (.Name par p8) p9]
def sco (par : Str) : Scope := { kind := .function, names := [(PySem.Str.ofString "self", .local), (par, .local), (PySem.Str.ofString "__class__", .free), (PySem.Str.ofString "super", .globalImplicit)], isGenerator := false, isCoroutine := false, more := [] }
/-- what the written part says of an own error's class at C, its __init__ at fI, whose one field is fl -/
structure Txt (P : Program) (K : Frag) (mg : Str → Option Value) (par fl : Str) (C fI : Addr) : Prop where
  cls : ∃ nm q N bs bm sn sub ab col dd k0 k1 k2 k3 k5, K.lookup C = some (excClassObj nm q C N bs bm true sn sub ab col dd k0 k1 k2 k3 k5 "ValueError.__new__") ∧ refsVE bm = true
  sa : findIn K (.ref C) "__setattr__" = some (some (.builtin "object.__setattr__"))
  ga : findIn K (.ref C) "__getattribute__" = some (some (.builtin "BaseException.__getattribute__"))
  gg : findIn K (.ref C) "__getattr__" = some none
  noN : findIn K (.ref C) fl = some none
  iC : findIn K (.ref C) "__init__" = some (some (.ref fI))
  tC : typeIn K (.ref fI) = some (.type "function")
  kC : keepIn K (.ref C) = true
  exC : subIn K (.ref C) (.type "BaseException") = some true
  veC : subIn K (.ref C) (.type "ValueError") = some true
  slf : mroIn K C (.ref C) = some true
  tyC : typeIn K (.ref C) = some (.type "type")
  hdC : hasDictIn K C = true
  te : exmOne K (.ref C) (.ref C) = some true
  along : ks_superIn K C C "__init__" = some (some (.builtin "ValueError.__init__"))
  opq : nsIn K cStatics "thirdparty.any" = some none
  sup : mg "super" = none
  top : (P.main.scope.names.lookup ("super" : Str)).isSome = false
  fn : ∃ (oc : Value) (od : Option Addr) (qual tx : Str) (doc pm : Value) (an : Option Addr) (cda cc : Addr) (ct : Value) (osl : Array (Option Value)) (pa : Arguments) (p0 p1 p2 p3 p4 p5 p6 p7 p8 p9 : Pos) (j : Nat) (a0 : Arg),
    K.lookup fI = some ⟨oc, od, .func (ksFn "__init__" qual pa (shape tx par fl p0 p1 p2 p3 p4 p5 p6 p7 p8 p9 j) (sco par) .none .none doc pm an (.ref cda) ct cc), osl⟩ ∧ codeIn K (.ref cda) qual = true ∧
    (pa.posonlyargs ++ pa.args).head? = some a0 ∧ a0.arg = "self" ∧
    (∀ (s : Shared) (u v : Value), BindsTo s (ksFn "__init__" qual pa (shape tx par fl p0 p1 p2 p3 p4 p5 p6 p7 p8 p9 j) (sco par) .none .none doc pm an (.ref cda) ct cc) ⟨[u, v], []⟩ [("self", u), (par, v)]) ∧
    (∃ ccl cdd vs ccs file tf, K.lookup cda = some ⟨ccl, cdd, .fields vs, ccs⟩ ∧ vs[2]? = some (.str file tf) ∧ ((P.main.file : Str) == file) = true) ∧
    (p2.endLine == p4.line) = true ∧
    (∃ cl cld csl, K.lookup cc = some ⟨cl, cld, .cell (some (.ref C)), csl⟩)
/-- what __init__ leaves of a fresh exception at x -/
structure Left (fl : Str) (h h' : Heap) (x C dx t1 : Addr) (v : Value) : Prop where
  keep : ∀ b o, b ≠ x → h.get? b = some o → h'.get? b = some o
  obj : h'.get? x = some { cls := .ref C, dict := some dx, data := .fields #[.ref t1, .none, .none, .none, .bool false, .none] }
  dbig : h.objs.size ≤ dx
  dne : dx ≠ x
  ns : h'.Ns1 dx (fun y => if y = fl then some v else none)
section
variable {prog : Program} {w : World} {A : Around} {E : Value → Shared → Prop} {R : Result → Shared → Prop} {s : Shared} {K : Frag} {mg mb : Str → Option Value} {C fI : Addr} {par fl : Str}
/-- the wrapper of ValueError.__init__, bound to x, called -/
theorem call_bound {h : Heap} {g : Array GenState} {d : Drawn} {t : Nat} {os : OsState} {u x t0 : Addr} {rest : List Value} {Q : Value → Shared → Prop} {nm q : Str} {N : Addr} {bs bm : List Value} {sn : List Str} {sub : List Value} {ab : Bool} {col : Option Bool} {dd : Option Addr} {k0 k1 k2 k3 k5 : Option Value}
    (hC : h.get? C = some (excClassObj nm q C N bs bm true sn sub ab col dd k0 k1 k2 k3 k5 "ValueError.__new__")) (hx : h.get? x = some (excO C t0)) (hu : h.get? u = some (kxs_mw "ValueError.__init__" x)) (hr : rest.length ≤ sizeLine)
    (hq : ∀ h', (∀ b o, b ≠ x → h.get? b = some o → h'.get? b = some o) → h'.get? x = some (excO C h.objs.size) → Q .none ⟨h', g, d, t, os⟩) :
    wpAny (model prog w) A (call (.ref u) rest) Q E ⟨h, g, d, t, os⟩ := by
  have FB := F.excBase_ValueError
  refine wpAny_call (codeAny_of_tree ?_)
  show wpAny _ A.in1 (callAny (.ref u) ⟨rest, []⟩) _ _ _
  simp only [callAny]
  refine wpAny_bind (wpAny_load hu ?_)
  have c1 : (Value.type "method-wrapper" == Value.type "method" || Value.type "method-wrapper" == Value.type "builtin_function_or_method" || Value.type "method-wrapper" == Value.type "method-wrapper") = true := by decide
  simp only [kxs_mw, c1, if_true]
  refine KFB.if_so (by decide) (wpAny_bind (check_bound_init FB.toExcCallFacts hC hx rfl (wpAny_bind (wpAny_pure (wpAny_pure ⟨plainId_quiet FB.init.plain _, codeAny_builtin FB.initEntry ?_⟩)))))
  exact exc_init_tree (cls := .ref C) (t0 := t0) (dv := none) (c2 := .none) (c3 := .none) (b4 := .bool false) hx hr fun h' k e' _ => hq h' k e'
theorem init_ok {x t0 : Addr} {v : Value} (T : Txt prog K mg par fl C fI) (X : K.In s.heap) (G : s.heap.Ns mainGlobals mg) (B : s.heap.Ns builtinsNs mb) (hb : mb "super" = some (.type "super")) (hlim : s.heap.NoLimit)
    (hx : s.heap.get? x = some (excO C t0)) (hnx : K.lookup x = none) (hroom : A.depth < recursionLimit) (hp1 : (par == ("__debug__" : Str)) = false) (hp2 : ¬ par = "self")
    (hloc : (sco par).names.lookup par = some .local) (hks : (sco par).names.lookup ("super" : Str) = some .globalImplicit) (hkc : (sco par).names.lookup ("__class__" : Str) = some .free)
    (hq : ∀ h' tk t1 dx, Left fl s.heap h' x C dx t1 v → R (.ok (.ret .none)) { s with heap := h', toks := tk }) :
    codeAny (model prog w) A (.call (.ref fI) ⟨[.ref x, v], []⟩) R s := by
  obtain ⟨oc, od, qual, tx, doc, pm, an, cda, cc, ct, osl, pa, p0, p1, p2, p3, p4, p5, p6, p7, p8, p9, j, a0, ho, hcd, ha0, ha1, hbd, ⟨ccl, cdd, vs, ccs, file, tf, hcode, hvs, hfile⟩, hpe, ⟨cl, cld, csl, hcell⟩⟩ := T.fn
  obtain ⟨nm, q, N, bs, bm, sn, sub, ab, col, dd, k0, k1, k2, k3, k5, hC, hbm⟩ := T.cls
  have hcl : clsIn K C = some { name := nm, bases := bs, mro := .ref C :: bm, ns := N, qualname := q, hasDict := true, slotNames := sn, subclasses := sub, abstract := ab, collection := col, hasDel := false } := by unfold clsIn; rw [hC] <;> rfl
  refine ks_codeAny_call_defAt (binds := [("self", .ref x), (par, v)]) hroom (X _ _ ho) rfl hlim (codeRec_of X hcd) rfl (hbd s (.ref x) v) ?_ ?_ (fun h₁ hns hk₁ => ?_)
  · intro y hy
    have : y ∈ [(PySem.Str.ofString "self", NameKind.local), (par, .local), (PySem.Str.ofString "__class__", .free), (PySem.Str.ofString "super", .globalImplicit)] := hy
    simp only [List.mem_cons, List.not_mem_nil, or_false] at this
    rcases this with rfl | rfl | rfl | rfl <;> (intro z; cases z)
  · intro y hy
    simp only [List.mem_cons, List.not_mem_nil, or_false] at hy
    rcases hy with rfl | rfl
    · exact (by rfl : (sco par).names.lookup ("self" : Str) = some .local)
    · exact hloc
  have hself : ([(("self" : Str), Value.ref x), (par, v)] : List (Str × Value)).reverse.lookup ("self" : Str) = some (Value.ref x) := by
    show List.lookup ("self" : Str) [(par, v), (("self" : Str), Value.ref x)] = _
    have e1 : (("self" : Str) == par) = false := by simpa using fun z => hp2 z.symm
    simp [List.lookup, e1]
  have hpar : ([(("self" : Str), Value.ref x), (par, v)] : List (Str × Value)).reverse.lookup par = some v := by
    show List.lookup par [(par, v), (("self" : Str), Value.ref x)] = _
    simp [List.lookup]
  have X₁ : K.In h₁ := X.keeps hk₁
  have hx₁ := hk₁ _ _ hx
  refine ks_wpAt_execs_cons (ks_wpAt_Expr_any (ks_wpAt_MethodCall (pl := ?pl) ?_ ?he))
  case he =>
    rw [arm_eval_Call]
    unfold methodCall methodCallPos
    rw [hpe]
    with_unfolding_all rfl
  refine ks_wpAt_super_base (hks := hks) (hkc := hkc) (by decide +kernel) rfl (X₁ _ _ ho) rfl ha0 rfl (X₁ _ _ hcode) rfl hvs hfile T.top ?_
  refine ks_loadName_global rfl hks (loadGlobal_builtin (G.keeps hk₁) T.sup (B.keeps hk₁) hb ⟨rfl, ?_⟩)
  refine wpAny_loadName_free rfl hkc rfl ⟨_, X₁ _ _ hcell, rfl⟩ ?_
  rw [ha1]
  refine wpAny_loadName_local rfl rfl hns hself ?_
  refine ks_wpAny_isType_cls (X₁ _ _ hC) rfl ⟨rfl, ?_⟩
  refine ks_wpAny_call_super (X₁ _ _ hC) rfl hx₁ rfl (fun c e => by cases e) (looks_mroIn X₁ T.slf) (fun h₂ e₂ k₂ => ?_)
  have X₂ : K.In h₂ := X₁.keeps k₂
  have hx₂ := k₂ _ _ hx₁
  have I₂ : InstAt h₂ x (excO C t0) C none := ⟨hx₂, rfl, rfl, trivial⟩
  have hal := T.along
  unfold ks_superIn at hal
  rw [hcl] at hal
  refine kxs_getMethod kxs_ValueError e₂ (looks_opaque X₂ T.opq) (l₀ := .ref C :: bm) ?_ rfl X₂ hal (I₂.type.andThen (looks_subIn X₂ T.veC)) (ks_ne X₂ I₂ hcl) (by decide +kernel) ?_
  · exact fun A Q E s k q => wpAny_bind ((looks_clsIn X₂ hcl) A _ E s k (wpAny_pure q))
  have hu : (h₂.push (kxs_mw "ValueError.__init__" x)).get? h₂.objs.size = some (kxs_mw "ValueError.__init__" x) := Heap.get?_push_at rfl rfl
  have k₃ : ∀ b o, h₂.get? b = some o → (h₂.push (kxs_mw "ValueError.__init__" x)).get? b = some o := fun b o e => Heap.get?_push_of_some _ e
  let H₃ := h₂.push (kxs_mw "ValueError.__init__" x)
  refine kxs_callWith1 (i := "ValueError.__init__") (x := x) (u := h₂.objs.size) (h₀ := Att.noObjs H₃) (L := h₂.objs.size + 7) (news := [(h₂.objs.size, kxs_mw "ValueError.__init__" x)]) (fun q hq => ?_) (List.Mem.head _) ?_
  · rcases List.mem_cons.mp hq with rfl | hq
    · exact ⟨hu, by show h₂.objs.size ≠ h₂.objs.size + 7; omega, Att.noObjs_get _ _⟩
    · cases hq
  refine wpAny_items_cons (Constant_str ?_)
  refine wpAny_items_nil ⟨hu, ?_⟩
  have X₃ : K.In (h₂.push (kxs_mw "ValueError.__init__" x)) := X₂.keeps k₃
  refine call_bound (X₃ _ _ hC) (k₃ _ _ hx₂) hu (by rw [sizeLine_eq]; exact (by decide : 1 ≤ 16777216)) fun h₄ k₄ e₄ => ?_
  -- self.fl = par
  have k14 : ∀ b o, b ≠ x → h₁.get? b = some o → h₄.get? b = some o := fun b o hb e => k₄ b o hb (k₃ b o (k₂ b o e))
  have xL : s.heap.objs.size ≠ x := Nat.ne_of_gt (Heap.lt_size hx)
  obtain ⟨oL, es, ep, hL, hr⟩ := hns
  have hns₄ : h₄.Ns s.heap.objs.size (fun y => ([(("self" : Str), Value.ref x), (par, v)] : List (Str × Value)).reverse.lookup y) := ⟨oL, es, ep, k14 _ _ xL hL, hr⟩
  have X₄ : K.In h₄ := fun a o e => k₄ a o (fun z => by rw [z, hnx] at e; cases e) (X₃ a o e)
  refine wpAt_of_wpAny (wpAny_execs_cons (plainObj_wpAny_Assign_Attribute ?_))
  refine wpAny_Name (wpAny_loadName_local rfl hloc hns₄ hpar ?_) hp1
  refine wpAny_Name (wpAny_loadName_local rfl rfl hns₄ hself ?_) (by decide)
  refine set_plain X₄ (ox := excO C h₂.objs.size.succ) (od := none) ⟨?_, rfl, rfl, trivial⟩ T.sa ?_
  · show h₄.get? x = some (excO C h₂.objs.size.succ)
    rw [e₄, Heap.size_push]
  have e₄' : h₄.get? x = some (excO C h₂.objs.size.succ) := by
    rw [e₄, Heap.size_push]
  refine exc_osa X₄ e₄' hcl (show refsVE (.ref C :: bm) = true from hbm) rfl T.noN (fun h₅ tk₅ dx k₅ dn dne hx₅ hn₅ => ?_)
  have z1 : s.heap.objs.size < h₄.objs.size := Heap.lt_size (k14 _ _ xL hL)
  refine wpAny_execs_nil (hq h₅ tk₅ _ dx ⟨fun b o hb e => k₅ b o hb (k14 b o hb (hk₁ b o e)), hx₅, Nat.le_of_lt (Nat.lt_of_lt_of_le z1 dn), dne, hn₅⟩)
theorem one_le (v : Value) : [v].length ≤ sizeLine := by
  rw [sizeLine_eq]
  exact (by decide : 1 ≤ 16777216)
/-- a made error -/
structure Made (fl : Str) (h h' : Heap) (e C d : Addr) (v : Value) : Prop where
  keep : ∀ b o, h.get? b = some o → h'.get? b = some o
  new : h.objs.size ≤ e
  obj : ∃ oe vs, h'.get? e = some oe ∧ oe.cls = .ref C ∧ oe.dict = some d ∧ oe.data = .fields vs ∧ vs[1]? = some .none ∧ vs[2]? = some .none ∧ 4 < vs.size
  dbig : h.objs.size ≤ d
  dne : d ≠ e
  ns : h'.Ns1 d (fun y => if y = fl then some v else none)
/-- the names of such an __init__ -/
structure Par (par : Str) : Prop where
  p1 : (par == ("__debug__" : Str)) = false
  p2 : ¬ par = "self"
  p3 : (sco par).names.lookup par = some .local
  p4 : (sco par).names.lookup ("super" : Str) = some .globalImplicit
  p5 : (sco par).names.lookup ("__class__" : Str) = some .free
theorem made_ok {v : Value} (T : Txt prog K mg par fl C fI) (p : Par par) (X : K.In s.heap) (G : s.heap.Ns mainGlobals mg) (B : s.heap.Ns builtinsNs mb) (hb : mb "super" = some (.type "super")) (hlim : s.heap.NoLimit) (hroom : A.depth + 1 < recursionLimit)
    (hq : ∀ h' tk e d, Made fl s.heap h' e C d v → R (.ok (.ret (.ref e))) { s with heap := h', toks := tk }) :
    codeAny (model prog w) A (.call (.ref C) ⟨[v], []⟩) R s := by
  obtain ⟨nm, q, N, bs, bm, sn, sub, ab, col, dd, k0, k1, k2, k3, k5, hC, hbm⟩ := T.cls
  obtain ⟨hp, g, dr, tk, os⟩ := s
  let hp2 := (hp.push (kdv_tup [v])).push (excO C hp.objs.size)
  have k : ∀ b o, hp.get? b = some o → hp2.get? b = some o := fun b o e => Heap.get?_push_of_some _ (Heap.get?_push_of_some _ e)
  have hget : hp2.get? (hp.objs.size + 1) = some (excO C hp.objs.size) := by
    show ((hp.push (kdv_tup [v])).push (excO C hp.objs.size)).get? (hp.objs.size + 1) = _
    heap_get
  have hsz : hp2.objs.size = hp.objs.size + 2 := by
    show ((hp.push (kdv_tup [v])).push (excO C hp.objs.size)).objs.size = _
    rw [Heap.size_push, Heap.size_push]
  have hnx : K.lookup (hp.objs.size + 1) = none := by
    cases e : K.lookup (hp.objs.size + 1) with
    | none => rfl
    | some o => exact absurd (Nat.lt_of_succ_lt (Heap.lt_size (show hp.get? _ = some o from X _ _ e))) (Nat.lt_irrefl _)
  refine call_own F.excBase_ValueError (fun Y => refsVE_contains Y bm hbm) (X _ _ hC) (looks_findIn X T.iC) (fun self => bind_fn X self T.tC) (one_le v) ?_
  refine init_ok (s := ⟨hp2, g, dr, tk, os⟩) T (X.keeps k) (G.keeps k) (B.keeps k) hb (hlim.keeps k) hget hnx (show A.depth + 1 < recursionLimit from hroom) p.p1 p.p2 p.p3 p.p4 p.p5 fun h' tk' t1 dx ⟨k', hx, dn, dne, hns⟩ => ?_
  have old : ∀ b o, hp.get? b = some o → h'.get? b = some o := fun b o e => k' b o (Nat.ne_of_lt (Nat.lt_succ_of_lt (Heap.lt_size e))) (k b o e)
  have dn' : hp2.objs.size ≤ dx := dn
  rw [hsz] at dn'
  exact ⟨rfl, hq h' tk' (hp.objs.size + 1) dx ⟨old, Nat.le_succ _, ⟨_, _, hx, rfl, rfl, rfl, rfl, rfl, (show 4 < 6 by decide)⟩, (by show hp.objs.size ≤ dx; omega), dne, hns⟩⟩
end
end BadX
end PySem
namespace L2
open PySem PySem.Spec PyProof.Rows
theorem relO_one {v : V} {v' : Value} (r : RelV v v') (fl f : Str) : RelO (List.lookup f [(fl, v)]) (if f = fl then some v' else none) := by
  by_cases hw : f = fl
  · subst hw
    rw [if_pos rfl]
    have q : List.lookup f [(f, v)] = some v := by simp [List.lookup]
    rw [q]
    exact r
  · rw [if_neg hw]
    have qw : (f == fl) = false := by simpa using hw
    have q2 : List.lookup f [(fl, v)] = none := by simp [List.lookup, qw]
    rw [q2]
    trivial
section
variable {X : Cx} {C fI : Addr}
/-- Cls(e), an own error with the one field fl -/
def tMkB (fl : Str) (C : Addr) (ta : TA) : St → Hp → XK → Prop := fun σ H Q => ta σ H fun vs H1 => ∃ v, vs = [v] ∧ ∀ d, H1 d = none → Q (.ref C) (some d) (upd H1 d (.xd [(fl, v)]))
theorem pmk_bad {x par fl : Str} {a : Expr} {ta : TA} {p pos : Pos} {k : Nat} (T : PySem.BadX.Txt X.prog X.K X.mg par fl C fI) (pr : PySem.BadX.Par par) (hm : X.mg x = some (.ref C)) (hr : Room k X.A) (ha : PA X [a] ta) (hg : Gl X x)
    (hdb : (x == ("__debug__" : Str)) = false := by decide)
    (he : starEach (a :: []) X.env = (false, eval a X.env) :: starEach [] X.env := by rfl) (hpl : (backTo pos (starEach [] X.env)).any (·.1) = false := by rfl) :
    PMk X (.Call (.Name x p) [a] [] pos) (tMkB fl C ta) := by
  intro pins s σ H Q I h
  refine wpAny_Call_Name_kw (ld_glob I hg hm ?_ hdb)
  refine PySem.W.callWith_K (h₀ := X.base) I.ok.mod.kin T.kC (thn (ha.run pos pins s σ H _ I h) fun us s1 hh => ?_) he hpl
  obtain ⟨vs, H1, I1, r1, v, ev, q1⟩ := hh
  subst ev
  refine ⟨I1.kIn, ?_⟩
  cases r1 with
  | cons rv rn =>
    rename_i v' us'
    cases rn
    show wpAny _ _ (call (.ref C) [v']) _ _ _
    have hlim := I1.nolimit
    obtain ⟨mb, hb1, hb2⟩ := I1.mod.blt
    have Gn : s1.heap.Ns mainGlobals X.mg := I1.mod.glob.keeps I1.bk
    have Bn : s1.heap.Ns builtinsNs mb := hb1.keeps I1.bk
    have hbs : mb "super" = some (.type "super") := (hb2 _ (by decide +kernel)).trans (by first | boot_by_name | rfl | kernel_rfl)
    obtain ⟨hp, g, dr, tk, os⟩ := s1
    refine wpAny_call (PySem.BadX.made_ok T pr I1.kIn Gn Bn hbs hlim (by have := hr.dp; omega) fun h' tk' e d M => ?_)
    show MkP X pins σ Q (.ref e) ⟨h', g, dr, tk', os⟩
    obtain ⟨oe, fv, hoe, hc, hd, hdat, h1, _⟩ := M.obj
    have hns := M.ns
    obtain ⟨G', g1, g2⟩ := restrict h' fun b => decide (b ≠ e)
    have gk : ∀ b, b ≠ e → G'.get? b = h'.get? b := fun b hb => g1 b (decide_eq_true hb)
    have ge : G'.get? e = none := g2 e (by simp)
    have old : ∀ b o, hp.get? b = some o → G'.get? b = some o := fun b o q => (gk b (Nat.ne_of_lt (Nat.lt_of_lt_of_le (Heap.lt_size q) M.new))).trans (M.keep b o q)
    have ob : ObjOk X.prog X.w (upd H1 d (.xd [(fl, v)])) G' d (.xd [(fl, v)]) :=
      ⟨_, hns.at (fun o q => (gk d M.dne).trans q), fun f => relO_one rv fl f⟩
    have J : Inv X pins σ (upd H1 d (.xd [(fl, v)])) ⟨G', g, dr, tk', os⟩ := I1.laid (t' := tk') old M.dbig ob
    refine ⟨e, oe, fv, ⟨G', g, dr, tk', os⟩, _, .ref C, some d, rfl, J, fun b o q => ?_, ge, hoe, ⟨hc, hd⟩, hdat, h1, ?_, rfl, I1.bare, raises_own T.exC T.tyC, q1 d (I1.hok.fresh M.dbig)⟩
    · by_cases hb : b = e
      · have q' : G'.get? b = some o := q
        rw [hb, ge] at q'; cases q'
      · exact (gk b hb).symm.trans q
    · rw [upd_ne (Ne.symm M.dne)]
      exact I1.hok.fresh M.new
/-- raise Cls(e) -/
def tRaiseB (fl : Str) (C : Addr) (W : WX) (ta : TA) : TS := fun _ σ H => tMkB fl C ta σ H fun cls d H' => W cls d σ H'
theorem ps_raiseB {x par fl : Str} {a : Expr} {ta : TA} {W : WX} {p pos pos2 : Pos} {k : Nat} (hc : X.calm = true) (T : PySem.BadX.Txt X.prog X.K X.mg par fl C fI) (pr : PySem.BadX.Par par) (hm : X.mg x = some (.ref C)) (hr : Room k X.A) (tk : Takes X W) (ha : PA X [a] ta) (hg : Gl X x)
    (hdb : (x == ("__debug__" : Str)) = false := by decide)
    (he : starEach (a :: []) X.env = (false, eval a X.env) :: starEach [] X.env := by rfl) (hpl : (backTo pos (starEach [] X.env)).any (·.1) = false := by rfl) :
    PS X (.Raise (some (.Call (.Name x p) [a] [] pos)) none pos2) (tRaiseB fl C W ta) := ps_raise hc tk (pmk_bad T pr hm hr ha hg hdb he hpl)
end
end L2

set_option Elab.async false
set_option linter.all false
set_option maxRecDepth 100000
set_option maxHeartbeats 4000000
namespace Ash
open PySem PySem.Spec PyProof.Rows L2
abbrev topS (i : Nat) : Stmt := PySem.Challenge.pw_asofhall_k12_shifts_joined_and_sizes.main.body.getD i (.Pass ⟨0, 0, 0, 0⟩)
/-- a def of the top by its name, with its promise -/
structure Cal (P : Program) (w : World) (K : PySem.W.Frag) (mg : Str → Option Value) (base : Heap) (CX : CXT) (x : Str) (k : Nat) (ps : List Str) (sp : Sp) : Prop where
  ex : ∃ f fd, mg x = some (.ref f) ∧ PySem.W.keepIn K (.ref f) = true ∧ Binds K fd ps [] ∧ FnOk P w K mg base CX k f fd ps sp
section
variable {X : Cx} {CX : CXT} {k j : Nat} {ps : List Str} {sp : Sp} {E : XK} {x : Str} {p pos : Pos} {e : Expr} {es : List Expr} {t : TA}
theorem pe_cal (G : Cal X.prog X.w X.K X.mg X.base CX x k ps sp) (hr : Room k X.A) (hx : Passes CX X E) (ha : PA X (e :: es) t) (hg : Gl X x := by rfl)
    (hdb : (x == ("__debug__" : Str)) = false := by decide) (he : starEach (e :: es) X.env = (false, eval e X.env) :: starEach es X.env := by rfl) (hpl : (backTo pos (starEach es X.env)).any (·.1) = false := by rfl) :
    PE X (.Call (.Name x p) (e :: es) [] pos) (tCall sp [] E t) := by
  obtain ⟨f, fd, hm, hk, hb, F⟩ := G.ex
  exact pe_call F hr hg hm hk hb .nil hx ha hdb he hpl
theorem pe_calS {E : L2.St → XK} (G : Cal X.prog X.w X.K X.mg X.base CX x k ps sp) (hr : Room k X.A) (hx : ∀ σ, PassesAt CX X σ (E σ)) (ha : PA X (e :: es) t) (hg : Gl X x := by rfl)
    (hdb : (x == ("__debug__" : Str)) = false := by decide) (he : starEach (e :: es) X.env = (false, eval e X.env) :: starEach es X.env := by rfl) (hpl : (backTo pos (starEach es X.env)).any (·.1) = false := by rfl) :
    PE X (.Call (.Name x p) (e :: es) [] pos) (tCallSD sp [] E t) := by
  obtain ⟨f, fd, hm, hk, hb, F⟩ := G.ex
  exact pe_callSD F hr hg hm hk hb .nil hx ha hdb he hpl
/-- a class by its name, with its __init__'s promise -/
structure Mak (P : Program) (w : World) (K : PySem.W.Frag) (mg : Str → Option Value) (base : Heap) (CX : CXT) (x : Str) (C : Addr) (k : Nat) (ps : List Str) (sp : Sp) : Prop where
  ex : ∃ f fd, Mk K C f ∧ mg x = some (.ref C) ∧ Binds K fd ps [] ∧ FnOk P w K mg base CX k f fd ps sp
theorem pe_mak {C : Addr} (G : Mak X.prog X.w X.K X.mg X.base CX x C k ps sp) (hr : Room (k + 1) X.A) (hx : Passes CX X E) (ha : PA X (e :: es) t) (hg : Gl X x := by rfl)
    (hdb : (x == ("__debug__" : Str)) = false := by decide) (he : starEach (e :: es) X.env = (false, eval e X.env) :: starEach es X.env := by rfl) (hpl : (backTo pos (starEach es X.env)).any (·.1) = false := by rfl) :
    PE X (.Call (.Name x p) (e :: es) [] pos) (tMake C sp [] E t) := by
  obtain ⟨f, fd, M, hm, hb, F⟩ := G.ex
  exact pe_make M F hr hg hm hb .nil hx ha hdb he hpl
/-- int(n) of an int -/
theorem call_intI : CallR X (.type "int") (fun xs H Q => ∃ i, xs = [.int i] ∧ Q (.int i) H) := by
  intro pins s σ H xs us Q I r h
  exact call_int1 pins s σ H xs us Q I r (.inl h)
end
/-- what is wanted of an exception at any slots of the def -/
def WEl (X : Cx) (W : WX) : XK := fun cls d H => ∀ σ : L2.St, σ.length = X.N.length → W cls d σ H
theorem passW {X : Cx} {W : WX} (tk : Takes X W) : Passes (L2.CX X.prog X.w) X (WEl X W) := fun _ σ _ _ e s' I c => tk e s' (XE.of_call I (fun cls d H' h => h σ I.len) c)
theorem passE {X : Cx} {E : XK} (tk : Takes X (fun cls d _ H => E cls d H)) : Passes (L2.CX X.prog X.w) X E := passes_call tk fun _ _ _ _ h => h
/-- a method of a class, with its promise -/
structure Met (P : Program) (w : World) (K : PySem.W.Frag) (mg : Str → Option Value) (base : Heap) (CX : CXT) (C : Addr) (m : Str) (k : Nat) (ps : List Str) (sp : Sp) : Prop where
  ex : ∃ f fd, Meth K C m f ∧ Binds K fd ps [] ∧ FnOk P w K mg base CX k f fd ps sp
/-- a dict comprehension over a walk: as lc_it -/
theorem dc_it {J : It} {n : Nat} {W0 : Hp → Prop} {Y : Nat → Hp → V → Hp → Prop} (wk : Walk J n W0 Y) {g : TG} {tt : TT} {tk tv : TE} {vs : List Nat} {σ : L2.St} {H1 : Hp} {D : Addr} {Qd : Hp → Prop} (Pv : Nat → Hp → Prop) (h0 : Pv 0 (upd H1 D (.dK []))) (hG : ∀ i H, i ≤ n → Pv i H → W0 H)
    (hs : ∀ i x H H', i < n → Pv i H → Y i H x H' → g x (wipe σ vs) H' fun σ2 H2 => wipe σ2 vs = wipe σ vs ∧ tt σ2 H2 fun b H3 =>
      if b = true then tk σ2 H3 fun y H4 => tv σ2 H4 fun z H5 => ∃ kvs k, y = kV k ∧ H5 D = some (.dK kvs) ∧ kvs.length < sizeLine ∧ Pv (i + 1) (upd H5 D (.dK (putK kvs k z))) else Pv (i + 1) H3) (hd : ∀ H, Pv n H → Qd H) :
    ∃ W : Nat → Nat → Hp → Prop, (∃ m, W 0 m (upd H1 D (.dK []))) ∧ ∀ i m H, W i m H →
      (J.stop i H ∧ Qd H) ∨ (J.go i H ∧ ∃ Nx : Hp → Prop, (∀ H', Nx H' → ∃ m', m' < m ∧ W (i + 1) m' H') ∧ ∀ x H', J.yld i H x H' → g x (wipe σ vs) H' fun σ2 H2 => wipe σ2 vs = wipe σ vs ∧ tt σ2 H2 fun b H3 =>
        if b = true then tk σ2 H3 fun y H4 => tv σ2 H4 fun z H5 => ∃ kvs k, y = kV k ∧ H5 D = some (.dK kvs) ∧ kvs.length < sizeLine ∧ Nx (upd H5 D (.dK (putK kvs k z))) else Nx H3) := by
  refine ⟨fun i m H => (m + i = n) ∧ Pv i H, ⟨n, rfl, h0⟩, ?_⟩
  rintro i m H ⟨hm, pv⟩
  by_cases c : i < n
  · refine .inr ⟨wk.goes i H c (hG i H (by omega) pv), Pv (i + 1), fun H' pv' => ⟨m - 1, by omega, by omega, pv'⟩, fun x H' y => ?_⟩
    exact hs i x H H' c pv (wk.yields i H x H' c (hG i H (by omega) pv) y)
  · have : i = n := by omega
    subst this
    exact .inl ⟨wk.stops H (hG _ H (Nat.le_refl _) pv), hd H pv⟩
/-- the built-in names that the top leaves alone -/
structure Blt (mg : Str → Option Value) : Prop where
  len : mg "len" = none
  int : mg "int" = none
  bool : mg "bool" = none
  str : mg "str" = none
  list : mg "list" = none
  tuple : mg "tuple" = none
  dict : mg "dict" = none
  isinstance : mg "isinstance" = none
  all : mg "all" = none
  range : mg "range" = none
  enumerate : mg "enumerate" = none
  sorted : mg "sorted" = none
  min : mg "min" = none
  max : mg "max" = none
  set : mg "set" = none
  sum : mg "sum" = none
  abs : mg "abs" = none
/-- data without depth -/
def flatD : PyData → Bool
  | .none => true
  | .bool _ => true
  | .int _ => true
  | .str x => PyData.strOk x
  | _ => false
theorem flat_lay : ∀ {ds : List PyData}, ds.all flatD = true → PyData.canLayAll0 ds = true ∧ PyData.depthAll ds ≤ 1
  | [], _ => by simp [PyData.canLayAll0, PyData.depthAll]
  | d :: ds, h => by
    rw [List.all_cons, Bool.and_eq_true] at h
    obtain ⟨h1, h2⟩ := flat_lay h.2
    cases d with
    | none => simp [PyData.canLayAll0, PyData.depthAll, PyData.canLay0, PyData.depth, h1, h2]
    | bool b => simp [PyData.canLayAll0, PyData.depthAll, PyData.canLay0, PyData.depth, h1, h2]
    | int b => simp [PyData.canLayAll0, PyData.depthAll, PyData.canLay0, PyData.depth, h1, h2]
    | str b =>
      have hb : PyData.strOk b = true := h.1
      simp [PyData.canLayAll0, PyData.depthAll, PyData.canLay0, PyData.depth, h1, h2, hb]
    | _ => exact absurd h.1 (by simp [flatD])
theorem shaped_flat {ds : List PyData} (h : ds.all flatD = true) : SeqAt.shaped (.tuple ds) = true := by
  obtain ⟨h1, h2⟩ := flat_lay h
  unfold SeqAt.shaped
  simp [PyData.canLay0, PyData.depth, h1]
  omega
/-- all but p stands -/
def But (p : Addr) (H H' : Hp) : Prop := ∀ b o, H b = some o → b ≠ p → H' b = some o
theorem But.refl (p : Addr) (H : Hp) : But p H H := fun _ _ h _ => h
theorem But.trans {p : Addr} {H H1 H2 : Hp} (a : But p H H1) (b : But p H1 H2) : But p H H2 := fun c o h n => b c o (a c o h n) n
theorem But.upd {p : Addr} {H H' : Hp} {o : HO} (a : But p H H') : But p H (L2.upd H' p o) := fun c u h n => by rw [upd_ne n]; exact a c u h n
theorem But.new {p q : Addr} {H H' : Hp} {o : HO} (a : But p H H') (h : H' q = none) (hp : H q = none ∨ q ≠ p := by first | exact .inl ‹_› | exact .inr ‹_›) : But p H (L2.upd H' q o) := fun c u hc n => by
  rw [upd_ne]
  · exact a c u hc n
  · intro z
    subst z
    rw [a c u hc n] at h
    cases h
theorem But.at {p q : Addr} {H H' : Hp} {o : HO} (a : But p H H') (h : H q = none) : But p H (L2.upd H' q o) := fun c u hc n => by
  rw [upd_ne (ne_of_none hc h)]
  exact a c u hc n
theorem sameAt {q : Addr} {H H' : Hp} {o : HO} (a : Same H H') (h : H q = none) : Same H (L2.upd H' q o) := fun c u hc => by
  rw [upd_ne (ne_of_none hc h)]
  exact a c u hc
theorem But.same {p : Addr} {H H' : Hp} (a : Same H H') : But p H H' := fun c o h _ => a c o h
theorem Same.new {q : Addr} {H H' : Hp} {o : HO} (a : Same H H') (h : H' q = none) : Same H (upd H' q o) := fun c u hc => by
  rw [upd_ne (ne_of_none (a c u hc) h)]
  exact a c u hc
theorem But.seq {K : PySem.W.Frag} {p a : Addr} {H H' : Hp} {xs : List V} (e : But p H H') (hn : ∀ o, H p = some o → ∀ ys, o ≠ .lst ys → True) (h : H a = some (.lst xs)) (n : a ≠ p) : SqL K H' a xs := .of (e _ _ h n)
end Ash

set_option Elab.async false
set_option linter.all false
set_option maxRecDepth 100000
set_option maxHeartbeats 4000000
namespace Ash
open PySem PySem.Spec PyProof.Rows L2
open C8 (pss_cut)
/-- the pool of drawn numbers at p, the script's copy at s -/
def PoolAt (H : Hp) (p s : Addr) : Prop := ∃ (ns : List Int) (i c k n : Int), H p = some (.lst [.ref s, .int i, .int c, .int k, .int n]) ∧ H s = some (.lst (ns.map V.int)) ∧ 0 ≤ i ∧ s ≠ p
theorem PoolAt.same {H H' : Hp} {p s : Addr} (h : PoolAt H p s) (e : Same H H') : PoolAt H' p s := by
  obtain ⟨ns, i, c, k, n, h1, h2, h3, h4⟩ := h
  exact ⟨ns, i, c, k, n, e _ _ h1, e _ _ h2, h3, h4⟩
theorem PoolAt.off {H : Hp} {p s q : Addr} {o : HO} (h : PoolAt H p s) (hp : q ≠ p) (hs : q ≠ s) : PoolAt (L2.upd H q o) p s := by
  obtain ⟨ns, i, c, k, n, h1, h2, h3, h4⟩ := h
  exact ⟨ns, i, c, k, n, by rw [upd_ne hp.symm]; exact h1, by rw [upd_ne hs.symm]; exact h2, h3, h4⟩
/-- from H0 to H nothing that was tracked has changed but the pool -/
structure Pl (H0 H : Hp) (p s : Addr) : Prop where
  now : PoolAt H p s
  op : H0 p ≠ none
  os : H0 s ≠ none
  but : But p H0 H
section
variable {H0 H H1 : Hp} {p s q : Addr} {o : HO}
theorem PoolAt.ne (h : PoolAt H p s) : H p ≠ none ∧ H s ≠ none := by
  obtain ⟨ns, i, c, k, n, h1, h2, h3, h4⟩ := h
  rw [h1, h2]
  exact ⟨Option.some_ne_none _, Option.some_ne_none _⟩
theorem Pl.refl (h : PoolAt H p s) : Pl H H p s := ⟨h, h.ne.1, h.ne.2, But.refl p H⟩
theorem Pl.at (h : Pl H0 H p s) (hq : H0 q = none) : Pl H0 (L2.upd H q o) p s :=
  ⟨h.now.off (fun z => h.op (z ▸ hq)) (fun z => h.os (z ▸ hq)), h.op, h.os, h.but.at hq⟩
theorem Pl.keep (h : Pl H0 H p s) {b : Addr} {u : HO} (e : H0 b = some u) (n : b ≠ p) : H b = some u := h.but b u e n
theorem Pl.free (h : Pl H0 H p s) (hq : H q = none) : H0 q = none := by
  cases e : H0 q with
  | none => rfl
  | some u =>
    by_cases hp : q = p
    · exact absurd (hp ▸ hq) h.now.ne.1
    · rw [h.but q u e hp] at hq
      cases hq
theorem Pl.trans (a : Pl H0 H p s) (b : Pl H H1 p s) : Pl H0 H1 p s := ⟨b.now, a.op, a.os, a.but.trans b.but⟩
/-- a new thing -/
theorem Pl.new (h : Pl H0 H p s) (hq : H q = none) : Pl H0 (L2.upd H q o) p s := h.at (h.free hq)
theorem Pl.same (h : Pl H0 H p s) (e : Same H H1) : Pl H0 H1 p s := ⟨h.now.same e, h.op, h.os, fun b u hb n => e b u (h.but b u hb n)⟩
end
def spPool (K : PySem.W.Frag) : Sp := fun vs H Q _ => ∃ (a : Addr) (ns : List Int), vs = [.ref a] ∧ SqL K H a (ns.map V.int) ∧ ∀ p s H', H p = none → PoolAt H' p s → Same H H' → Q (.ref p) H'
def spDraw : Sp := fun vs H Q _ => ∃ (p s : Addr) (many : Int), vs = [.ref p, .int many] ∧ PoolAt H p s ∧ 0 < many ∧ many < 2 ^ 200 ∧ ∀ (d : Int) H', 0 ≤ d → d < many → Pl H H' p s → Q (.int d) H'
section
variable {P : Program} {w : World} {K : PySem.W.Frag} {mg : Str → Option Value} {base : Heap}
abbrev s_l_pool : Stmt := topS 40
theorem sc_l_pool : FnScope ["script"] ["script"] (defScope s_l_pool) := ⟨rfl, rfl, rfl, by decide +kernel, rfl, by decide +kernel, by decide +kernel⟩
theorem ok_pool {f : Addr} {fd : FuncData} (F : Fun K "_law_pool" "_law_pool" s_l_pool f fd) (B : Blt mg) : FnOk P w K mg base CX0 1 f fd ["script"] (spPool K) := by
  refine F.ok sc_l_pool (fun vs H Q E h => ?_) (fun cdv A outer s H vs Q E hr h => ?_)
  · obtain ⟨a, ns, rfl, _⟩ := h
    rfl
  · obtain ⟨a, ns, rfl, hS, k⟩ := h
    refine ⟨_, (pss_one (ps_ret (pe_lst (pa_cons (pe_callTy call_list_of (by rfl) B.list (by decide +kernel) (pa_cons (pv 0) pa_nil)) (pa_cons pe_int (pa_cons pe_int (pa_cons pe_int (pa_cons pe_int pa_nil)))))))), ?_⟩
    refine ⟨_, rfl, _, _, rfl, .inl hS, fun l hl => ⟨(by show 5 ≤ sizeLine; decide), fun p hp => ?_⟩⟩
    have hpl : l ≠ p := fun z => by rw [z, upd_same] at hp; cases hp
    have hp0 : H p = none := by rw [upd_ne (Ne.symm hpl)] at hp; exact hp
    refine k p l _ hp0 ⟨ns, _, _, _, _, upd_same, (by rw [upd_ne hpl, upd_same]), (by decide), hpl⟩ ?_
    exact Same.new (Same.new (Same.refl H) hl) hp
abbrev s_l_draw : Stmt := topS 41
theorem sc_l_draw : FnScope ["pool", "many", "cell", "digit", "number"] ["pool", "many"] (defScope s_l_draw) := ⟨rfl, rfl, rfl, by decide +kernel, rfl, by decide +kernel, by decide +kernel⟩
theorem ok_draw {f : Addr} {fd : FuncData} (F : Fun K "_law_draw" "_law_draw" s_l_draw f fd) (B : Blt mg) : FnOk P w K mg base CX0 1 f fd ["pool", "many"] spDraw := by
  refine F.ok sc_l_draw (fun vs H Q E h => ?_) (fun cdv A outer s H vs Q E hr h => ?_)
  · obtain ⟨p, _, many, rfl, _⟩ := h
    rfl
  · obtain ⟨p, s, many, rfl, hPP, hm, hm2, kk⟩ := h
    obtain ⟨ns, i, c, k, n, hp, hs, hi, hsp⟩ := id hPP
    refine ⟨_, (pss_cons (ps_asg (pe_op op_add (pe_ix ix_list (pv 0) pe_int (fun _ _ => rfl)) pe_int) (pg_sub (pv 0) pe_int set_list))
    (pss_cut (ps_if (PW.pt (pw_and (pt_cmpR op_eq (pe_ix ix_list (pv 0) pe_int (fun _ _ => rfl)) pe_int (nomark _)) (pw_and1 (pt_cmpR op_lt (pe_ix ix_list (pv 0) pe_int (fun _ _ => rfl)) (pe_callB call_len_seq (by rfl) B.len (by decide +kernel) (pa_cons (pe_ix ix_list (pv 0) pe_int (fun _ _ => rfl)) pa_nil)) (nomark _)))))
      (pss_cons (ps_set (i := 2) sc_l_draw.nd rfl (Or.inl rfl) (pe_callB call_abs (by rfl) B.abs (by decide +kernel) (pa_cons (pe_callTy call_intI (by rfl) B.int (by decide +kernel) (pa_cons (pe_ix ix_list (pe_ix ix_list (pv 0) pe_int (fun _ _ => rfl)) (pe_ix ix_list (pv 0) pe_int (fun _ _ => rfl)) (fun _ _ => rfl)) pa_nil)) pa_nil)))
      (pss_cons (ps_asg (pe_op op_add (pe_ix ix_list (pv 0) pe_int (fun _ _ => rfl)) pe_int) (pg_sub (pv 0) pe_int set_list))
      (pss_one (ps_if (pt_cmpR op_ge (pv 2) (pe_op op_pow pe_int pe_int) (nomark _))
        (pss_one (ps_asg (pv 2) (pg_sub (pv 0) pe_int set_list)))
        (pss_one (ps_asg (pe_op op_mod (pe_callTy call_intI (by rfl) B.int (by decide +kernel) (pa_cons (pe_op op_add (pe_op op_add (pe_op op_mul (pe_ix ix_list (pv 0) pe_int (fun _ _ => rfl)) pe_int) (pv 2)) pe_int) pa_nil)) pe_int) (pg_sub (pv 0) pe_int set_list)))))))
      pss_nil)
    (pss_cons (ps_if (pt_cmpR op_gt (pe_ix ix_list (pv 0) pe_int (fun _ _ => rfl)) pe_int (nomark _))
      (pss_cons (ps_set (i := 3) sc_l_draw.nd rfl (Or.inl rfl) (pe_op op_mod (pe_callTy call_intI (by rfl) B.int (by decide +kernel) (pa_cons (pe_ix ix_list (pv 0) pe_int (fun _ _ => rfl)) pa_nil)) (pv 1)))
      (pss_cons (ps_asg (pe_op op_fdivW (pe_callTy call_intI (by rfl) B.int (by decide +kernel) (pa_cons (pe_ix ix_list (pv 0) pe_int (fun _ _ => rfl)) pa_nil)) (pv 1)) (pg_sub (pv 0) pe_int set_list))
      (pss_one (ps_ret (pv 3)))))
      pss_nil)
    (pss_cons (ps_set (i := 4) sc_l_draw.nd rfl (Or.inl rfl) (pe_op op_mod (pe_op op_mul (pe_callTy call_intI (by rfl) B.int (by decide +kernel) (pa_cons (pe_op op_add (pe_op op_add (pe_ix ix_list (pv 0) pe_int (fun _ _ => rfl)) (pe_op op_mul (pe_ix ix_list (pv 0) pe_int (fun _ _ => rfl)) pe_int)) pe_int) pa_nil)) pe_int) pe_int))
    (pss_cons (ps_set (i := 4) sc_l_draw.nd rfl (Or.inl rfl) (pe_op op_mod (pe_callTy call_intI (by rfl) B.int (by decide +kernel) (pa_cons (pe_op op_mul (pv 4) (pe_op op_add (pe_op op_fdiv (pv 4) pe_int) pe_int)) pa_nil)) pe_int))
    (pss_cons (ps_set (i := 4) sc_l_draw.nd rfl (Or.inl rfl) (pe_op op_mod (pe_callTy call_intI (by rfl) B.int (by decide +kernel) (pa_cons (pe_op op_mul (pv 4) (pe_op op_add (pe_op op_fdiv (pv 4) pe_int) pe_int)) pa_nil)) pe_int))
    (pss_cons (ps_asg (pv 4) (pg_sub (pv 0) pe_int set_list))
    (pss_one (ps_ret (pe_op op_mod (pe_callTy call_intI (by rfl) B.int (by decide +kernel) (pa_cons (pe_op op_fdiv (pv 4) pe_int) pa_nil)) (pv 1))))))))))), ?_⟩
    refine ⟨_, rfl, _, _, _, _, rfl, rfl, SqL.of hp, rfl, _, _, rfl, rfl, _, rfl, _, _, _, _, rfl, rfl, hp, rfl, ?_⟩
    refine ⟨fun σ H1 => (∃ cell, σ = [some (.ref p), some (.int many), cell, none, none]) ∧ ∃ (i c k n : Int), H1 p = some (.lst [.ref s, .int i, .int c, .int k, .int n]) ∧ H1 s = some (.lst (ns.map V.int)) ∧ 0 ≤ i ∧ But p H H1, ?_, ?_⟩
    · generalize eH : upd H p (.lst _) = H1
      have hp1 : H1 p = some (.lst [.ref s, .int i, .int c, .int (k + 1), .int n]) := by rw [← eH]; exact upd_same
      have hs1 : H1 s = some (.lst (ns.map V.int)) := by rw [← eH, upd_ne hsp]; exact hs
      have hb1 : But p H H1 := by rw [← eH]; exact (But.refl p H).upd
      clear eH
      refine ⟨_, rfl, _, _, _, _, rfl, rfl, SqL.of hp1, rfl, rfl, _, rfl, ?_⟩
      refine ite2 (fun c2 => ?_) (fun c2 => ?_)
      · refine ⟨_, rfl, _, _, _, _, rfl, rfl, SqL.of hp1, rfl, _, rfl, _, _, _, _, rfl, rfl, SqL.of hp1, rfl, _, _, rfl, .inl (SqL.of hs1), _, _, rfl, rfl, _, rfl, ?_⟩
        refine ite2 (fun c3 => ?_) (fun c3 => ?_)
        · have c3' : i < (ns.map V.int).length := of_decide_eq_true c3
          obtain ⟨j, rfl⟩ : ∃ j : Nat, i = (j : Int) := ⟨i.toNat, by omega⟩
          have hj : j < ns.length := by rw [List.length_map] at c3'; omega
          refine ⟨_, rfl, _, _, _, _, rfl, rfl, SqL.of hp1, rfl, _, rfl, _, _, _, _, rfl, rfl, SqL.of hp1, rfl, _, _, _, V.int ns[j], rfl, rfl, SqL.of hs1, atI_nat (by rw [List.getElem?_map, List.getElem?_eq_getElem hj]; rfl), _, rfl, _, rfl, ?_⟩
          refine ⟨_, rfl, _, _, _, _, rfl, rfl, SqL.of hp1, rfl, _, _, rfl, rfl, _, rfl, _, _, _, _, rfl, rfl, hp1, rfl, ?_⟩
          refine ⟨_, rfl, _, _, rfl, rfl, ⟨by decide, by decide, by decide⟩, _, _, rfl, rfl, _, rfl, ?_⟩
          refine ite2 (fun c4 => ?_) (fun c4 => ?_)
          · refine ⟨_, rfl, _, rfl, _, _, _, _, rfl, rfl, upd_same, rfl, ⟨_, rfl⟩, _, _, _, _, upd_same, (by rw [upd_ne hsp, upd_ne hsp]; exact hs1), (by omega), hb1.upd.upd⟩
          · refine ⟨_, rfl, _, _, _, _, rfl, rfl, SqL.of upd_same, rfl, _, _, rfl, rfl, .inr ⟨by decide, by decide⟩, _, rfl, _, _, rfl, rfl, _, _, rfl, rfl, _, rfl, _, _, rfl, rfl, (by show (0 : Int) < 2147483647; decide), _, rfl, _, _, _, _, rfl, rfl, upd_same, rfl, ⟨_, rfl⟩, _, _, _, _, upd_same, (by rw [upd_ne hsp, upd_ne hsp]; exact hs1), (by omega), hb1.upd.upd⟩
        · exact ⟨⟨_, rfl⟩, _, _, _, _, hp1, hs1, hi, hb1⟩
      · exact ⟨⟨_, rfl⟩, _, _, _, _, hp1, hs1, hi, hb1⟩
    · rintro σ' H1 ⟨⟨cell, rfl⟩, i, c, k, n, hp1, hs1, hi, hb1⟩
      refine ⟨_, rfl, _, _, _, _, rfl, rfl, SqL.of hp1, rfl, _, _, rfl, rfl, _, rfl, ?_⟩
      refine ite2 (fun c2 => ?_) (fun c2 => ?_)
      · refine ⟨_, rfl, _, _, _, _, rfl, rfl, SqL.of hp1, rfl, _, rfl, _, rfl, _, _, rfl, rfl, hm, _, rfl, _, _, _, _, rfl, rfl, SqL.of hp1, rfl, _, rfl, _, rfl, _, _, rfl, rfl, wide_div (b := 200) hm (by omega) (by decide) (by decide), _, rfl, _, _, _, _, rfl, rfl, hp1, rfl, _, rfl, ?_⟩
        refine kk _ _ (Int.emod_nonneg _ (by omega)) (Int.emod_lt_of_pos _ hm) ⟨⟨ns, _, _, _, _, upd_same, (by rw [upd_ne hsp]; exact hs1), hi, hsp⟩, hPP.ne.1, hPP.ne.2, hb1.upd⟩
      · refine ⟨_, rfl, _, _, _, _, rfl, rfl, SqL.of hp1, rfl, _, rfl, _, _, _, _, rfl, rfl, SqL.of hp1, rfl, _, _, rfl, rfl, .inr ⟨by decide, by decide⟩, _, _, rfl, rfl, _, _, rfl, rfl, _, rfl, _, _, rfl, rfl, .inr ⟨by decide, by decide⟩, _, _, rfl, rfl, (by show (0 : Int) < 2147483647; decide), ?_⟩
        generalize ea : (n + k * 104729 + 1) * 48271 % 2147483647 = a
        have a0 : 0 ≤ a := by rw [← ea]; exact Int.emod_nonneg _ (by decide)
        have a1 : a < 2147483647 := by rw [← ea]; exact Int.emod_lt_of_pos _ (by decide)
        refine ⟨_, rfl, _, rfl, _, _, rfl, rfl, ⟨by decide, by decide⟩, _, _, rfl, rfl, _, _, rfl, rfl, .inl ⟨by omega, by omega⟩, _, rfl, _, _, rfl, rfl, (by show (0 : Int) < 2147483629; decide), ?_⟩
        generalize eb : a * (a / 1009 + 69621) % 2147483629 = b
        have b0 : 0 ≤ b := by rw [← eb]; exact Int.emod_nonneg _ (by decide)
        have b1 : b < 2147483629 := by rw [← eb]; exact Int.emod_lt_of_pos _ (by decide)
        refine ⟨_, rfl, _, rfl, _, _, rfl, rfl, ⟨by decide, by decide⟩, _, _, rfl, rfl, _, _, rfl, rfl, .inl ⟨by omega, by omega⟩, _, rfl, _, _, rfl, rfl, (by show (0 : Int) < 2147483399; decide), ?_⟩
        refine ⟨_, rfl, _, rfl, _, _, _, _, rfl, rfl, hp1, rfl, _, rfl, _, _, rfl, rfl, ⟨by decide, by decide⟩, _, rfl, _, rfl, _, _, rfl, rfl, hm, ?_⟩
        refine kk _ _ (Int.emod_nonneg _ (by omega)) (Int.emod_lt_of_pos _ hm) ⟨⟨ns, _, _, _, _, upd_same, (by rw [upd_ne hsp]; exact hs1), hi, hsp⟩, hPP.ne.1, hPP.ne.2, hb1.upd⟩
end
end Ash

set_option Elab.async false
set_option linter.all false
set_option maxRecDepth 100000
set_option maxHeartbeats 4000000
namespace Ash
open PySem PySem.Spec PyProof.Rows L2
open C8 (pss_cut)
/-! ### names -/
def LET : List Nat := [97, 98, 99, 100, 101, 102, 103, 104, 105, 106, 107, 108, 109, 110, 111, 112, 113, 114, 115, 116, 117, 118, 119, 120, 121, 122]
abbrev abc : Str := "abcdefghijklmnopqrstuvwxyz"
theorem abc_let : abc.cps.toList = LET := by decide +kernel
theorem abc_size : abc.cps.size = 26 := by decide +kernel
/-- a name: 1 to 8 letters -/
def IsNm (z : Str) : Prop := 1 ≤ z.length ∧ z.length ≤ 8 ∧ ∀ c ∈ z.cps.toList, c ∈ LET
theorem let_small : ∀ c ∈ LET, c < 0x110000 := by decide
theorem nm_ok {z : Str} (h : IsNm z) : PyData.strOk z = true := by
  unfold PyData.strOk
  rw [← Array.all_toList, List.all_eq_true]
  exact fun c hc => decide_eq_true (let_small c (h.2.2 c hc))
theorem append_length (a b : Str) : (a ++ b).length = a.length + b.length := by
  show (a.cps ++ b.cps).size = a.cps.size + b.cps.size
  rw [Array.size_append]
theorem append_list (a b : Str) : (a ++ b).cps.toList = a.cps.toList ++ b.cps.toList := by
  show (a.cps ++ b.cps).toList = _
  rw [Array.toList_append]
theorem one_nm {c : Nat} (h : c ∈ LET) : IsNm ⟨#[c]⟩ := ⟨Nat.le_refl 1, (by show 1 ≤ 8; decide), fun d hd => by
  have e : d = c := by simpa using hd
  rw [e]
  exact h⟩
theorem inV_str {z : Str} : ∀ {l : List Str}, inV (.str z) (l.map V.str) = decide (z ∈ l)
  | [] => by simp [inV]
  | a :: l => by
    have ih := inV_str (z := z) (l := l)
    unfold inV at ih ⊢
    rw [List.map_cons, List.any_cons, ih]
    show ((a == z) || decide (z ∈ l)) = decide (z ∈ a :: l)
    by_cases h : a = z
    · subst h
      simp
    · have h' : ¬ z = a := fun q => h q.symm
      by_cases h2 : z ∈ l <;> simp [h, h', h2]
theorem flat_strs (l : List Str) : (l.map V.str).all flatV = true := by
  induction l with
  | nil => rfl
  | cons a l ih =>
    rw [List.map_cons, List.all_cons, ih]
    rfl
theorem sub_len {α : Type} [DecidableEq α] : ∀ {l m : List α}, l.Nodup → (∀ x ∈ l, x ∈ m) → l.length ≤ m.length
  | [], m, _, _ => Nat.zero_le _
  | a :: l, m, hn, h => by
    obtain ⟨h1, h2⟩ := List.nodup_cons.mp hn
    have ha : a ∈ m := h a List.mem_cons_self
    have ih := sub_len (l := l) (m := m.erase a) h2 fun x hx => (List.mem_erase_of_ne (fun z => h1 (by rw [← z]; exact hx))).mpr (h x (List.mem_cons_of_mem _ hx))
    rw [List.length_erase_of_mem ha] at ih
    have : 0 < m.length := List.length_pos_of_mem ha
    rw [List.length_cons]
    omega
theorem atI_natC {α : Type} {xs : List α} {j : Nat} (h : j < xs.length) : atI xs (j : Int) = some xs[j] := by
  unfold atI ixN
  rw [if_pos (by omega), if_pos (by omega), Option.bind_some, Int.toNat_natCast]
  exact List.getElem?_eq_getElem h
theorem let_strs : (LET.map fun c => (⟨#[c]⟩ : Str)).Nodup := by decide +kernel
theorem not_all {l : List Str} (hl : l.length ≤ 25) (h : ∀ c ∈ LET, (⟨#[c]⟩ : Str) ∈ l) : False := by
  have := sub_len let_strs (m := l) fun x hx => by
    obtain ⟨c, hc, rfl⟩ := List.mem_map.mp hx
    exact h c hc
  have e : (LET.map fun c => (⟨#[c]⟩ : Str)).length = 26 := by decide +kernel
  omega
def spNames : Sp := fun vs H Q _ => ∃ (p s : Addr) (many : Int), vs = [.ref p, .int many] ∧ PoolAt H p s ∧ 0 ≤ many ∧ many ≤ 25 ∧
  ∀ (q : Addr) (l : List Str) H', H q = none → H' q = some (.lst (l.map V.str)) → l.length = many.toNat → l.Nodup → (∀ z ∈ l, IsNm z) → Pl H H' p s → Q (.ref q) H'
section
variable {P : Program} {w : World} {K : PySem.W.Frag} {mg : Str → Option Value} {base : Heap}
abbrev CDraw (P : Program) (w : World) (K : PySem.W.Frag) (mg : Str → Option Value) (base : Heap) : Prop := Cal P w K mg base CX0 "_law_draw" 1 ["pool", "many"] spDraw
structure G1 (P : Program) (w : World) (K : PySem.W.Frag) (mg : Str → Option Value) (base : Heap) : Prop where
  law_draw : CDraw P w K mg base
/-- the words of the wordings -/
def WORDS : List Str := ["last", "at", "now", "next", "or", "to", "from", "number"]
theorem words_nm : ∀ z ∈ WORDS, IsNm z := fun z hz => by
  have q : ∀ z ∈ WORDS, (1 ≤ z.length ∧ z.length ≤ 8) ∧ (z.cps.toList.all fun c => decide (c ∈ LET)) = true := by decide +kernel
  obtain ⟨⟨h1, h2⟩, h3⟩ := q z hz
  exact ⟨h1, h2, fun c hc => of_decide_eq_true (List.all_eq_true.mp h3 c hc)⟩
theorem joinL_one : ∀ cs : List Nat, TL.joinL [] (cs.map fun c => [c]) = cs
  | [] => rfl
  | [c] => rfl
  | c :: d :: r => by
    show [c] ++ ([] ++ TL.joinL [] ((d :: r).map fun c => [c])) = _
    rw [joinL_one (d :: r)]
    rfl
theorem join_one (cs : List Nat) : (Txt.join "" (cs.map fun c => (⟨#[c]⟩ : Str))).cps.toList = cs := by
  have e := TL.tl_join "" (cs.map fun c => (⟨#[c]⟩ : Str))
  have e2 : (cs.map fun c => (⟨#[c]⟩ : Str)).map TL.tl = cs.map fun c => [c] := by
    rw [List.map_map]
    rfl
  rw [e2, show TL.tl ("" : Str) = [] from rfl, joinL_one] at e
  exact (congrArg TL.tl (TL.join_eq "" _)).trans e
theorem sum_ones (cs : List Nat) : (((cs.map fun c => (⟨#[c]⟩ : Str)).map (·.length)).sum) = cs.length := by
  induction cs with
  | nil => rfl
  | cons c r ih =>
    rw [List.map_cons, List.map_cons, List.sum_cons, ih, List.length_cons]
    show 1 + r.length = _
    omega
abbrev s_l_names : Stmt := topS 42
theorem sc_l_names : FnScope ["pool", "many", "letters", "words", "names", "k", "name", "letter", "at"] ["pool", "many"] (defScope s_l_names) := ⟨rfl, rfl, rfl, by decide +kernel, rfl, by decide +kernel, by decide +kernel⟩
theorem ok_names {f : Addr} {fd : FuncData} (F : Fun K "_law_names" "_law_names" s_l_names f fd) (B : Blt mg) (G : G1 P w K mg base) : FnOk P w K mg base CX0 2 f fd ["pool", "many"] spNames := by
  refine F.ok sc_l_names (fun vs H Q E h => ?_) (fun cdv A outer s H vs Q E hr h => ?_)
  · obtain ⟨p, _, many, rfl, _⟩ := h
    rfl
  · obtain ⟨p, s0, many, rfl, hP, hm, hm2, kk⟩ := h
    refine ⟨_, (pss_cons (ps_set (i := 2) sc_l_names.nd rfl (Or.inr rfl) pe_str)
    (pss_cons (ps_set (i := 3) sc_l_names.nd rfl (Or.inl rfl) (pe_lst (pa_cons pe_str (pa_cons pe_str (pa_cons pe_str (pa_cons pe_str (pa_cons pe_str (pa_cons pe_str (pa_cons pe_str (pa_cons pe_str pa_nil))))))))))
    (pss_cons (ps_set (i := 4) sc_l_names.nd rfl (Or.inl rfl) (pe_lst pa_nil))
    (pss_cons (ps_for PassesOwn.never rfl (pi_range1 (by rfl) B.range (pa_cons (pv 1) pa_nil)) (pg_name (i := 5) sc_l_names.nd rfl (Or.inl rfl))
      (pss_cons (ps_set (i := 6) sc_l_names.nd rfl (Or.inl rfl) (pe_ix ix_list (pv 3) (pe_cal G.law_draw (hr.mono (by decide)) pass0 (pa_cons (pv 0) (pa_cons pe_int pa_nil))) (fun _ _ => rfl)))
      (pss_cut (ps_if (pt_cmpR op_gt (pe_cal G.law_draw (hr.mono (by decide)) pass0 (pa_cons (pv 0) (pa_cons pe_int pa_nil))) pe_int (nomark _))
        (pss_one (ps_set (i := 6) sc_l_names.nd rfl (Or.inl rfl) (pe_bm PySem.F.plainAttrs_str PySem.F.slot_str_join PySem.F.type_str_join mt_join pe_str (pa_cons (pe_lc (own := [("at", 8)]) (g := gName 8) (tt := tYes) (by rfl) sc_l_names.nd (pi_range1 (by rfl) B.range (pa_cons (pe_op op_add pe_int (pe_cal G.law_draw (hr.mono (by decide)) pass0 (pa_cons (pv 0) (pa_cons pe_int pa_nil)))) pa_nil)) (blkOk_by (own := [("at", 8)]) (N := ["pool", "many", "letters", "words", "names", "k", "name", "letter", "at"]) (sc := defScope s_l_names) (by decide +kernel)) (fun _ _ _ _ _ => (pg_name (i := 8) sc_l_names.nd rfl (Or.inl rfl))) (fun _ _ _ _ _ => pts_nil) (fun _ _ _ _ _ => (pe_ix ix_str (pv 2) (pe_cal G.law_draw (hr.mono (by decide)) pass0 (pa_cons (pv 0) (pa_cons pe_int pa_nil))) (fun _ _ => rfl)))) pa_nil))))
        pss_nil)
      (pss_cut (ps_for PassesOwn.never rfl (pi_str (pv 2)) (pg_name (i := 7) sc_l_names.nd rfl (Or.inl rfl))
        (pss_one (ps_if (PW.pt (pw_and (pt_cmpR op_in_seq (pv 6) (pv 4) rfl) (pw_and1 (pt_cmpR op_notIn_seq (pv 7) (pv 4) rfl))))
          (pss_one (ps_set (i := 6) sc_l_names.nd rfl (Or.inl rfl) (pv 7)))
          pss_nil)))
      (pss_one (ps_expr (pe_bm PySem.F.plainAttrs_list PySem.F.slot_list_append PySem.F.type_list_append mt_append (pv 4) (pa_cons (pv 6) pa_nil))))))))
    (pss_one (ps_ret (pv 4))))))), ?_⟩
    refine ⟨(by show 8 ≤ sizeLine; decide), fun lw hlw => ⟨(by show 0 ≤ sizeLine; decide), fun q hq => ?_⟩⟩
    have PW : Pl H (upd H lw (.lst [.str "last", .str "at", .str "now", .str "next", .str "or", .str "to", .str "from", .str "number"])) p s0 := (Pl.refl hP).at hlw
    have hw0 : (upd H lw (.lst [.str "last", .str "at", .str "now", .str "next", .str "or", .str "to", .str "from", .str "number"])) lw = some (.lst (WORDS.map V.str)) := upd_same
    generalize (upd H lw (.lst [.str "last", .str "at", .str "now", .str "next", .str "or", .str "to", .str "from", .str "number"])) = HW at PW hw0 hq ⊢
    have hqH : H q = none := PW.free hq
    have lwp : lw ≠ p := fun z => hP.ne.1 (z ▸ hlw)
    have lwq : lw ≠ q := ne_of_none hw0 hq
    have hr1 : Room 1 _ := hr.mono (by decide)
    refine ⟨_, rfl, _, rfl, (by omega), (by omega), for_range (n := many.toNat) (fun i σ H1 => (∃ a b c d, σ = [some (.ref p), some (.int many), some (.str abc), some (.ref lw), some (.ref q), a, b, c, d]) ∧ ∃ l : List Str, H1 q = some (.lst (l.map V.str)) ∧ l.length = i ∧ l.Nodup ∧ (∀ z ∈ l, IsNm z) ∧ Pl H H1 p s0 ∧ H1 lw = some (.lst (WORDS.map V.str))) ?_ ?_ ?_⟩
    · exact ⟨⟨_, _, _, _, rfl⟩, [], upd_same, rfl, List.nodup_nil, (fun z hz => nomatch hz), PW.new hq, by rw [upd_ne lwq]; exact hw0⟩
    · rintro i σ H1 hi ⟨⟨a, b, c, d, rfl⟩, l, hl, hlen, hnd, hnm, PL, hw1⟩
      have hqp : q ≠ p := fun z => hP.ne.1 (z ▸ hqH)
      refine ⟨_, rfl, _, rfl, p, s0, 8, rfl, PL.now, (by decide), (by decide), fun x H2 x0 x8 P2 => ?_⟩
      obtain ⟨g, rfl⟩ : ∃ g : Nat, x = (g : Int) := ⟨x.toNat, by omega⟩
      have hg : g < WORDS.length := by show g < 8; omega
      have hw2 := P2.keep hw1 lwp
      refine ⟨_, _, _, .str WORDS[g], rfl, rfl, SqL.of hw2, atI_nat (by rw [List.getElem?_map, List.getElem?_eq_getElem hg]; rfl), ?_⟩
      -- name
      refine ⟨fun σ H3 => (∃ k nm d e, σ = [some (.ref p), some (.int many), some (.str abc), some (.ref lw), some (.ref q), k, some (.str nm), d, e] ∧ IsNm nm) ∧ Pl H1 H3 p s0, ?_, ?_⟩
      · refine ⟨_, rfl, p, s0, 3, rfl, P2.now, (by decide), (by decide), fun y H3 y0 y3 P3 => ⟨_, _, rfl, rfl, _, rfl, ?_⟩⟩
        have P13 := P2.trans P3
        refine ite2 (fun c2 => ?_) (fun c2 => ?_)
        · refine ⟨rfl, _, rfl, p, s0, 8, rfl, P3.now, (by decide), (by decide), fun n H4 n0 n8 P4 => ⟨_, _, rfl, rfl, _, rfl, (by omega), (by omega), fun D hD => ?_⟩⟩
          have P14 := P13.trans P4
          refine lc_range (n := (1 + n).toNat) (fun j H5 => (∃ cs : List Nat, H5 D = some (.lst ((cs.map fun c => (⟨#[c]⟩ : Str)).map V.str)) ∧ cs.length = j ∧ ∀ c ∈ cs, c ∈ LET) ∧ Pl H1 H5 p s0) ⟨⟨[], upd_same, rfl, fun c hc => nomatch hc⟩, P14.new hD⟩ ?_ ?_
          · rintro j H5 hj ⟨⟨cs, hD5, hcs, hcl⟩, P5⟩
            refine ⟨rfl, _, rfl, _, rfl, p, s0, 26, rfl, P5.now, (by decide), (by decide), fun x H6 x0' x26 P6 => ?_⟩
            obtain ⟨g2, rfl⟩ : ∃ g : Nat, x = (g : Int) := ⟨x.toNat, by omega⟩
            have hg2 : g2 < LET.length := by show g2 < 26; omega
            have Dp : D ≠ p := fun z => P14.now.ne.1 (z ▸ hD)
            refine ⟨_, _, LET[g2], rfl, rfl, (by show abc.cps.size ≤ sizeLine; rw [abc_size]; decide), (by rw [abc_let]; exact atI_natC hg2), _, P6.keep hD5 Dp, (by rw [List.length_map, List.length_map]; exact small1000 (by omega)), ⟨cs ++ [LET[g2]], ?_, by rw [List.length_append, hcs]; rfl, fun c hc => ?_⟩, (P5.trans P6).at (P14.free hD)⟩
            · rw [upd_same, List.map_append, List.map_append]
              rfl
            · rcases List.mem_append.mp hc with h | h
              · exact hcl c h
              · rw [List.mem_singleton.mp h]
                exact List.getElem_mem hg2
          · rintro H5 ⟨⟨cs, hD5, hcs, hcl⟩, P5⟩
            have e1 := join_one cs
            refine ⟨_, D, _, rfl, rfl, .inl (SqL.of hD5), ?_, ?_⟩
            · rw [sum_ones, List.length_map]
              show cs.length + cs.length * 0 ≤ _
              omega
            · refine ⟨⟨_, _, _, _, rfl, ?_⟩, P5⟩
              have hz : (Txt.join "" (cs.map fun c => (⟨#[c]⟩ : Str))).length = cs.length := by
                show (Txt.join "" (cs.map fun c => (⟨#[c]⟩ : Str))).cps.size = _
                rw [← Array.length_toList, e1]
              exact ⟨by rw [hz]; omega, by rw [hz]; omega, fun c hc => hcl c (by rw [← e1]; exact hc)⟩
        · exact ⟨⟨_, _, _, _, rfl, words_nm _ (List.getElem_mem hg)⟩, P13⟩
      rintro σ H3 ⟨⟨k, nm, d, e, rfl, hN⟩, P3⟩
      -- another name
      have hq3 : H3 q = some (.lst (l.map V.str)) := P3.keep hl hqp
      refine ⟨fun σ H4 => (∃ k nm d e, σ = [some (.ref p), some (.int many), some (.str abc), some (.ref lw), some (.ref q), k, some (.str nm), d, e] ∧ IsNm nm ∧ nm ∉ l) ∧ H4 = H3, ?_, ?_⟩
      · refine ⟨_, rfl, _, rfl, for_it (walk_str (z := abc)) (fun j σ H4 => (∃ nm d, σ = [some (.ref p), some (.int many), some (.str abc), some (.ref lw), some (.ref q), k, some (.str nm), d, e] ∧ IsNm nm ∧ (nm ∈ l → ∀ (i : Nat) (x : Nat), i < j → LET[i]? = some x → (⟨#[x]⟩ : Str) ∈ l)) ∧ H4 = H3) ?_ (fun _ _ _ _ _ => trivial) ?_ ?_⟩
        · exact ⟨⟨_, _, rfl, hN, fun _ i x hi => by omega⟩, rfl⟩
        · rintro j x σ H4 H5 hj ⟨⟨nm, d, rfl, hN, hall⟩, rfl⟩ ⟨rfl, c, hc, rfl⟩
          have hc' : LET[j]? = some c := by
            rw [← abc_let, Array.getElem?_toList]
            exact hc
          have hcm : c ∈ LET := List.mem_of_getElem? hc'
          refine ⟨_, rfl, _, rfl, _, _, rfl, .inl (SqL.of hq3), rfl, flat_strs l, _, rfl, ?_⟩
          rw [if_neg (by decide), inV_str]
          refine ite2 (fun c2 => ?_) (fun c2 => ?_)
          · have c2 : nm ∈ l := of_decide_eq_true c2
            refine ⟨_, rfl, _, rfl, _, _, rfl, .inl (SqL.of hq3), rfl, flat_strs l, _, rfl, ?_⟩
            rw [if_pos rfl, inV_str]
            refine ite2 (fun c3 => ?_) (fun c3 => ?_)
            · have c3 : ¬ (⟨#[c]⟩ : Str) ∈ l := by simpa using c3
              exact ⟨_, rfl, ⟨_, _, rfl, one_nm hcm, fun z => absurd z c3⟩, rfl⟩
            · have c3 : (⟨#[c]⟩ : Str) ∈ l := by simpa using c3
              refine ⟨⟨_, _, rfl, hN, fun _ i x hi hx => ?_⟩, rfl⟩
              by_cases hij : i < j
              · exact hall c2 i x hij hx
              · have : i = j := by omega
                subst this
                rw [hc'] at hx
                cases hx
                exact c3
          · have c2 : ¬ nm ∈ l := by simpa using c2
            exact ⟨⟨_, _, rfl, hN, fun z => absurd z c2⟩, rfl⟩
        · rintro σ H4 ⟨⟨nm, d, rfl, hN, hall⟩, rfl⟩
          refine ⟨⟨_, _, _, _, rfl, hN, fun hm => ?_⟩, rfl⟩
          have hl25 : l.length ≤ 25 := by omega
          refine not_all hl25 fun c hc => ?_
          obtain ⟨i, hi, e⟩ := List.getElem_of_mem hc
          exact hall hm i c (by show i < abc.cps.size; rw [abc_size]; exact hi) (by rw [List.getElem?_eq_getElem hi, e])
      rintro σ H4 ⟨⟨k, nm, d, e, rfl, hN, hno⟩, rfl⟩
      refine ⟨_, rfl, .inl ⟨rfl, _, SqL.of hq3⟩, _, rfl, q, _, _, rfl, rfl, hq3, (by rw [List.length_map]; exact small1000 (by omega)), ⟨_, _, _, _, rfl⟩, l ++ [nm], ?_, by rw [List.length_append, hlen]; rfl, ?_, fun z hz => ?_, (PL.trans P3).at hqH, ?_⟩
      · rw [upd_same, List.map_append]
        rfl
      · rw [List.nodup_append]
        exact ⟨hnd, by simp, fun a ha b hb z => hno (by rw [← List.mem_singleton.mp hb, ← z]; exact ha)⟩
      · rcases List.mem_append.mp hz with h | h
        · exact hnm z h
        · rw [List.mem_singleton.mp h]
          exact hN
      · rw [upd_ne lwq]
        exact P3.keep hw1 lwp
    · rintro σ H1 ⟨⟨a, b, c, d, rfl⟩, l, hl, hlen, hnd, hnm, PL, hw1⟩
      exact ⟨_, rfl, kk q l H1 hqH hl hlen hnd hnm PL⟩
end
end Ash

set_option Elab.async false
set_option linter.all false
set_option maxRecDepth 100000
set_option maxHeartbeats 4000000
namespace L2
open PySem PySem.Spec PyProof.Rows
/-! ### sets of keys (ints, texts) that can be walked; sorted(set(xs)) -/
/-- the key that a value is -/
def vK : Value → Key
  | .int k _ => .inl k
  | .str x _ => .inr x
  | _ => .inl 0
theorem vK_of {k : Key} {v : Value} (r : RelV (kV k) v) : vK v = k := by
  cases k with
  | inl i =>
    obtain ⟨t, rfl⟩ := r
    rfl
  | inr x =>
    obtain ⟨t, rfl⟩ := r
    rfl
def GoodM (w : World) (e : Int × Value) : Prop := ∃ k, RelV (kV k) e.2 ∧ e.1 = keyH w k
def eK (e : Int × Value) : Key := vK e.2
/-- among the keys -/
def kIn (ks : List Key) (j : Key) : Bool := ks.any fun x => decide (x = j)
theorem kIn_iff {ks : List Key} {j : Key} : kIn ks j = true ↔ j ∈ ks := by
  unfold kIn
  rw [List.any_eq_true]
  constructor
  · rintro ⟨x, hx, e⟩
    rw [← of_decide_eq_true e]
    exact hx
  · intro h
    exact ⟨j, h, decide_eq_true rfl⟩
theorem kIn_next {ks : List Key} {i : Nat} {z : Key} (hz : ks[i]? = some z) (j : Key) : kIn (ks.take (i + 1)) j = (kIn (ks.take i) j || decide (j = z)) := by
  rw [List.take_add_one, hz]
  unfold kIn
  rw [List.any_append]
  congr 1
  by_cases c : j = z
  · subst c
    simp
  · have c' : ¬ z = j := fun q => c q.symm
    simp [c, c']
/-- the set at a: S its members, n their number; it can be walked -/
def SetM (w : World) (h : Heap) (a : Addr) (S : Key → Bool) (n : Nat) : Prop :=
  ∃ o es ep t, h.get? a = some o ∧ o.ExactSet ∧ o.data = .set es ep t ∧ (∀ e ∈ es.toList, GoodM w e) ∧ (es.toList.map eK).Nodup ∧ (∀ k, S k = true ↔ k ∈ es.toList.map eK) ∧
    es.size < scanBound ∧ t.fits es.size = true ∧ es.size = n ∧ Ris t.place.toList ∧ (w.params.followText "set-order" = true ∨ t.led = true)
section
variable {P : Program} {w : World} {h h' : Heap} {a : Addr} {S : Key → Bool} {n : Nat}
theorem SetM.at (R : SetM w h a S n) (k : ∀ o, h.get? a = some o → h'.get? a = some o) : SetM w h' a S n := by
  obtain ⟨o, es, ep, t, ho, r⟩ := R
  exact ⟨o, es, ep, t, k o ho, r⟩
theorem SetM.congr {S' : Key → Bool} (R : SetM w h a S n) (e : ∀ k, S' k = S k) : SetM w h a S' n := by
  rw [show S' = S from funext e]
  exact R
theorem goodM_elems {l : List (Int × Value)} (g : ∀ e ∈ l, GoodM w e) : ElemsOf (mixKind P w) l := fun e he => by
  obtain ⟨k, h1, h2⟩ := g e he
  exact ⟨⟨k, kV_is h1, h2⟩, key_scan h1⟩
theorem goodM_is {e : Int × Value} (g : GoodM w e) (k : Key) : (mixKind P w).is k e.2 = true ↔ eK e = k := by
  obtain ⟨k0, h1, _⟩ := g
  unfold eK
  rw [vK_of h1]
  constructor
  · intro q
    exact (mixKind P w).inj _ _ _ (kV_is h1) q
  · intro q
    rw [← q]
    exact kV_is h1
theorem goodM_mem {l : List (Int × Value)} (g : ∀ e ∈ l, GoodM w e) (k : Key) : k ∈ l.map eK ↔ ∃ e ∈ l, (mixKind P w).is k e.2 = true := by
  rw [List.mem_map]
  constructor
  · rintro ⟨e, he, q⟩
    exact ⟨e, he, (goodM_is (g e he) k).2 q⟩
  · rintro ⟨e, he, q⟩
    exact ⟨e, he, (goodM_is (g e he) k).1 q⟩
end
section
variable {P : Program} {w : World} {A : Around} {E : Value → Shared → Prop} {s : Shared} {a : Addr} {S : Key → Bool} {n : Nat}
theorem setM_tail {g : Bool → Sem Unit} (hg : ∀ (b : Bool) (s₁ : Shared) (Q' : Unit → Shared → Prop), Q' () s₁ → wpAny (model P w) A (g b) Q' E s₁)
    {o : Obj} {es : Array (Int × Value)} {ep : Nat} {t : SetTable} (ho : s.heap.get? a = some o) (hex : o.ExactSet) (hd : o.data = .set es ep t)
    {fs : Array (Int × Value)} {u : SetTable} {S' : Key → Bool} (gf : ∀ e ∈ fs.toList, GoodM w e) (nf : (fs.toList.map eK).Nodup) (mf : ∀ k, S' k = true ↔ k ∈ fs.toList.map eK)
    (bf : fs.size < scanBound) (ff : u.fits fs.size = true) (rf : Ris u.place.toList) (lf : w.params.followText "set-order" = true ∨ u.led = true) {wasDummy : Bool} {R : Option Bool → Shared → Prop}
    (hR : ∀ h', Heap.SameBut a s.heap h' → SetM w h' a S' fs.size → R (some true) { s with heap := h' }) :
    wpAny (model P w) A (do
        storeSet a fs u
        if (!wasDummy && u.tooFull) = true then do
            g (relayAll u fs (SetTable.grown fs.size)).2.2
            storeSet a (relayAll u fs (SetTable.grown fs.size)).1 (relayAll u fs (SetTable.grown fs.size)).2.1
            pure (some true)
          else pure (some true)) R E s := by
  refine wpAny_bind (wpAny_storeSet_of ho hd ?_ (fits_of_scanBound bf))
  have h1 := store_at (es' := fs) (t' := u) ho hd
  have b1 := Heap.SameBut.update s.heap a (Obj.putSet fs u)
  split
  · have pm := relayAll_perm u fs (SetTable.grown fs.size)
    have f2 := relayAll_fits u fs (SetTable.grown fs.size)
    have r2 := relayAll_ris u fs (SetTable.grown fs.size)
    have l2 := relayAll_led u fs (SetTable.grown fs.size)
    generalize relayAll u fs (SetTable.grown fs.size) = Z at pm f2 r2 l2 ⊢
    obtain ⟨gs, u2, gave⟩ := Z
    dsimp only at pm f2 r2 l2 ⊢
    have sz : gs.size = fs.size := by rw [← Array.length_toList, pm.length_eq, Array.length_toList]
    have bg : gs.size < scanBound := by rw [sz]; exact bf
    refine wpAny_bind (hg _ _ _ ?_)
    refine wpAny_bind (wpAny_storeSet_of h1 rfl ?_ (fits_of_scanBound bg))
    have h2 := store_at (es' := gs) (t' := u2) h1 rfl
    refine wpAny_pure (hR _ (b1.trans (Heap.SameBut.update _ a _)) ?_)
    exact ⟨_, gs, _, u2, h2, hex, rfl, fun e he => gf e (pm.mem_iff.mp he), (pm.map eK).nodup_iff.mpr nf, fun k => (mf k).trans (pm.map eK).mem_iff.symm, bg, f2, sz, r2, lf.imp id fun z => by rw [l2]; exact z⟩
  · exact wpAny_pure (hR _ b1 ⟨_, fs, _, u, h1, hex, rfl, gf, nf, mf, bf, ff, rfl, rf, lf⟩)
theorem setM_add {k : Key} {v : Value} {Q : Bool → Shared → Prop} (rv : RelV (kV k) v) (R : SetM w s.heap a S n) (room : n + 1 < scanBound)
    (hQ : ∀ h', Heap.SameBut a s.heap h' → SetM w h' a (fun j => S j || decide (j = k)) (if S k = true then n else n + 1) → Q (!S k) { s with heap := h' }) :
    wpAny (model P w) A (setAddHashed a v ((mixKind P w).hash k)) Q E s := by
  obtain ⟨o, es, ep, t, ho, hex, hd, g, nd, hm, hb, hf, hn, hr, hl⟩ := R
  have hkey : (mixKind P w).is k v = true := kV_is rv
  have hsc : v.scannable = true := key_scan rv
  have hel : ElemsOf (mixKind P w) es.toList := goodM_elems g
  unfold setAddHashed setAddHashedIn
  refine wpAny_holding (wpAny_bind (wpAny_setState_of ho hd hf ?_))
  dsimp only
  rw [byScan_of hsc hb hel]
  simp only [↓reduceIte]
  unfold setAddByScan
  refine wpAny_bind ?_
  refine wpAny_bind (wpAny_rule ?_)
  refine wpAny_bind (wpAny_setScan_of hkey ho hd hf hel ?_)
  cases hfi : List.findIdx? (fun e => (mixKind P w).is k e.2) es.toList with
  | some j =>
    dsimp only
    obtain ⟨hj, pj, _⟩ := List.findIdx?_eq_some_iff_getElem.mp hfi
    have hSk : S k = true := (hm k).2 ((goodM_mem (P := P) g k).2 ⟨es.toList[j], List.getElem_mem hj, pj⟩)
    refine wpAny_pure (wpAny_pure ?_)
    have q := hQ s.heap (Heap.SameBut.refl a s.heap) ⟨o, es, ep, t, ho, hex, hd, g, nd, fun i => by
      rw [Bool.or_eq_true, decide_eq_true_eq, ← hm i]
      exact ⟨fun z => z.elim id (fun e => e ▸ hSk), .inl⟩, hb, hf, by rw [if_pos hSk]; exact hn, hr, hl⟩
    rw [hSk] at q
    exact q
  | none =>
    dsimp only
    have hnk : k ∉ es.toList.map eK := fun z => by
      obtain ⟨e, he, q⟩ := (goodM_mem (P := P) (w := w) g k).1 z
      have c := List.findIdx?_eq_none_iff.mp hfi e he
      rw [q] at c
      cases c
    have hSk : S k = false := Bool.eq_false_iff.mpr fun q => hnk ((hm k).1 q)
    have hgw : ∀ (b : Bool) {s₁ : Shared} {Q' : Unit → Shared → Prop}, Q' () s₁ → wpAny (model P w) A (match b with | true => rule "set.scan.the-table-gave-way" | false => pure ()) Q' E s₁ :=
      fun b s₁ Q' q => by cases b <;> first | exact wpAny_pure q | exact wpAny_rule q
    have pm := layNew_perm t es ((mixKind P w).hash k) v
    have f1 := layNew_fits t es ((mixKind P w).hash k) v
    have r1 := layNew_ris t es ((mixKind P w).hash k) v hr
    have l1 := layNew_led t es ((mixKind P w).hash k) v
    generalize layNew t es ((mixKind P w).hash k) v = Z at pm f1 r1 l1 ⊢
    obtain ⟨fs, t1, wasDummy, gave⟩ := Z
    dsimp only at pm f1 r1 l1 ⊢
    rw [Array.toList_push] at pm
    have pc : fs.toList.Perm (((mixKind P w).hash k, v) :: es.toList) := pm.trans (List.perm_append_singleton _ _)
    have pk : (fs.toList.map eK).Perm (k :: es.toList.map eK) := by
      have z := pc.map eK
      rw [List.map_cons, show eK ((mixKind P w).hash k, v) = k from vK_of rv] at z
      exact z
    have gf : ∀ e ∈ fs.toList, GoodM w e := fun e he => by
      rcases List.mem_cons.mp (pc.mem_iff.mp he) with z | z
      · rw [z]
        exact ⟨k, rv, rfl⟩
      · exact g e z
    have nf : (fs.toList.map eK).Nodup := pk.nodup_iff.mpr (List.nodup_cons.mpr ⟨hnk, nd⟩)
    have mf : ∀ i, (S i || decide (i = k)) = true ↔ i ∈ fs.toList.map eK := fun i => by
      rw [Bool.or_eq_true, decide_eq_true_eq, hm i, pk.mem_iff, List.mem_cons]
      exact Or.comm
    have sz : fs.size = n + 1 := by rw [← Array.length_toList, pc.length_eq, List.length_cons, Array.length_toList, hn]
    have bf : fs.size < scanBound := by rw [sz]; exact room
    have lf : w.params.followText "set-order" = true ∨ t1.led = true := hl.imp id fun z => by rw [l1]; exact z
    have fin : ∀ h', Heap.SameBut a s.heap h' → SetM w h' a (fun j => S j || decide (j = k)) fs.size → Q true { s with heap := h' } := fun h' sb r => by
      have q := hQ h' sb
      rw [hSk] at q
      rw [sz] at r
      exact q r
    refine wpAny_bind (hgw _ ?_)
    split
    · refine wpAny_bind ?_
      rw [hashByValue_scannable 8 hsc]
      refine wpAny_pure ?_
      refine setM_tail ?_ ho hex hd gf nf mf bf ?_ ?_ ?_ ?_
      · intro b s₁ Q' q; cases b <;> first | exact wpAny_pure q | exact wpAny_rule q
      · first | (split <;> first | exact f1 | exact SetTable.fits_plain_off f1) | exact f1
      · first | (split <;> exact r1) | exact r1
      · first | (split <;> exact lf) | exact lf
      · intro h' sb r; dsimp only; exact wpAny_pure (fin h' sb r)
    · refine wpAny_bind (wpAny_pure ?_)
      simp only [↓reduceIte]
      refine setM_tail ?_ ho hex hd gf nf mf bf f1 r1 lf ?_
      · intro b s₁ Q' q; cases b <;> first | exact wpAny_pure q | exact wpAny_rule q
      · intro h' sb r; dsimp only; exact wpAny_pure (fin h' sb r)
theorem setM_new {h : Heap} {a : Addr} (ho : h.get? a = some { cls := .type "set", dict := none, data := .set #[] 0 (.fresh 0 0 (!w.params.followText "set-order")) }) : SetM w h a (fun _ => false) 0 :=
  ⟨_, #[], 0, _, ho, ⟨rfl, rfl, rfl⟩, rfl, (fun e he => by simp at he), (by simp), (fun k => by simp), (by decide), (by rfl), rfl, List.Pairwise.nil, by
    show _ ∨ (!w.params.followText "set-order") = true
    cases w.params.followText "set-order"
    · exact .inr rfl
    · exact .inl rfl⟩
theorem setM_update {I : Addr} {fp wr : List Addr} {G : Array GenState → Array GenState → Prop} {n : Nat} {Pv : Nat → Value → Prop} {St : Nat → Shared → Prop} {R : Result → Shared → Prop}
    (W : WalksS P w A.in1 I fp wr G n Pv St) (S : Addr) (hSf : S ∉ fp) (ks : List Key) (hn : n = ks.length) (hb : ks.length + 1 < scanBound) (hval : ∀ i v, Pv i v → ∃ k, ks[i]? = some k ∧ RelV (kV k) v) :
    ∀ (m i : Nat) (s : Shared), n - i = m → i ≤ n → St i s → (∃ c, c ≤ i ∧ SetM w s.heap S (kIn (ks.take i)) c) →
      (∀ s' c, Moved (S :: wr) G s s' → c ≤ n → SetM w s'.heap S (kIn ks) c → R (.ok (.ret .none)) s') →
      codeAny (model P w) A (.builtin "set.update.loop" ⟨[.ref S, .ref I], []⟩) R s := by
  have hSw : S ∉ wr := fun h => hSf (W.sub _ h)
  have sub : ∀ b ∈ wr, b ∈ S :: wr := fun b hb => List.mem_cons_of_mem _ hb
  intro m
  induction m with
  | zero =>
    intro i s hm hi hst ⟨c, hc, hS⟩ hR
    obtain rfl : i = n := by omega
    refine codeAny_builtin F.entry_set_update_loop ?_
    rw [Around.under_plainId F.plain_set_update_loop _]
    show wpAny _ A.in1 (pyNext (.ref I) >>= _) _ _ s
    refine wpAny_bind (W.done s _ _ hst fun s' mv => ?_)
    show wpAny _ A.in1 (ret Value.none) _ _ s'
    rw [List.take_of_length_le (show ks.length ≤ i by omega)] at hS
    exact wpAny_pure (hR s' c (mv.mono sub) hc (hS.at fun o e => mv.heap S o hSw e))
  | succ m ih =>
    intro i s hm hi hst ⟨c, hc, hS⟩ hR
    have hlt : i < n := by omega
    refine codeAny_builtin F.entry_set_update_loop ?_
    rw [Around.under_plainId F.plain_set_update_loop _]
    show wpAny _ A.in1 (pyNext (.ref I) >>= _) _ _ s
    refine wpAny_bind (W.item i s _ _ hlt hst fun v s' hP hst' mv => ?_)
    obtain ⟨z, hz, rz⟩ := hval i v hP
    have hS1 : SetM w s'.heap S (kIn (ks.take i)) c := hS.at fun o e => mv.heap S o hSw e
    show wpAny _ A.in1 (holding [v] (setAdd S v) >>= _) _ _ s'
    refine wpAny_bind (wpAny_holding ?_)
    unfold setAdd
    refine wpAny_holding ?_
    refine wpAny_bind ((mixKind P w).pyHash (k := z) (kV_is rz) ?_)
    refine setM_add (s := { s' with toks := s'.toks + 1 }) rz hS1 (by omega) fun h' sb hS2 => ?_
    have hS3 : SetM w h' S (kIn (ks.take (i + 1))) (if kIn (ks.take i) z = true then c else c + 1) := hS2.congr fun j => kIn_next hz j
    have hc3 : (if kIn (ks.take i) z = true then c else c + 1) ≤ i + 1 := by
      split <;> omega
    refine wpAny_pure ⟨plainId_quiet F.plain_set_update_loop _, ih (i + 1) _ (by omega) hlt (W.frame _ s' _ _ hst' (Nat.le_succ _) fun b hb o e => ?_) ⟨_, hc3, hS3⟩ fun s2 c2 mv2 hc2 hS4 => ?_⟩
    · rw [sb.2 b (fun h : b = S => hSf (by rw [← h]; exact hb))]
      exact e
    · refine hR s2 c2 (Moved.trans W.gtrans ((mv.mono sub).then_heap (Nat.le_succ _) fun b o hb e => ?_) mv2) hc2 hS4
      rw [sb.2 b (fun h : b = S => hb (by rw [h]; exact List.mem_cons_self))]
      exact e
end
end L2

set_option Elab.async false
set_option linter.all false
set_option maxRecDepth 100000
set_option maxHeartbeats 4000000
namespace L2
open PySem PySem.Spec PyProof.Rows
section
variable {P : Program} {w : World} {A : Around} {E : Value → Shared → Prop} {s : Shared}
/-- the empty set's object -/
abbrev noSet (w : World) : Obj := { cls := .type "set", dict := none, data := .set #[] 0 (.fresh 0 0 (!w.params.followText "set-order")) }
/-- set(xs) of a list of keys -/
theorem call_setL {l : Addr} {items : Array Value} (ks : List Key) {Q : Value → Shared → Prop} (hh : A.handled = none) (hl : s.heap.IsList l items) (hit : Vals (ks.map kV) items.toList) (hb : ks.length + 1 < scanBound)
    (h : ∀ (h' : Heap) (tk c : Nat), SetM w h' s.heap.objs.size (kIn ks) c → c ≤ ks.length → (∀ b o, s.heap.get? b = some o → h'.get? b = some o) → Q (.ref s.heap.objs.size) { s with heap := h', toks := tk }) :
    wpAny (model P w) A (call (.type "set") [.ref l]) Q E s := by
  have hisz : items.size = ks.length := by
    have q := hit.length
    have q2 : items.toList.length = items.size := Array.length_toList
    rw [List.length_map] at q
    omega
  obtain ⟨c, tl, hmro⟩ := F.called_set.mro
  have hmade := F.called_set.made
  have hsub := F.called_set.sub
  refine wpAny_call (codeAny_of_tree ?_)
  show wpAny _ _ (callAny (.type "set") _) _ _ _
  refine wpAny_pure ⟨Code.quiet_builtin _ (by decide +kernel), codeAny_builtin F.entry_type_call ?_⟩
  rw [Around.under_plain (weight_type_call_type "set" [.ref l] []) rfl]
  have h1 := F.called_set.notType
  have h2 := F.called_set.canCreate
  have hct := F.typeCall_set_1 (.ref l)
  repeat (any_goals (first | assumption | wp_step))
  refine codeAny_mono (code_set_led1 (.ref l) (E := E) (Q₁ := fun obj s₁ => obj = .ref s.heap.objs.size ∧ s₁ = { s with heap := s.heap.push (noSet w) }) ⟨rfl, rfl⟩) fun r s₁ hr => ?_
  cases r with
  | error e => exact hr
  | ok fl =>
    cases fl with
    | ret obj =>
      obtain ⟨rfl, rfl⟩ := hr
      have hS : (s.heap.push (noSet w)).get? s.heap.objs.size = some (noSet w) := Heap.get?_push_size _ rfl
      have hT : Shared.TypeIs { s with heap := s.heap.push (noSet w) } (.ref s.heap.objs.size) "set" := ⟨_, hS, rfl⟩
      have hli := F.called_set.init.lookup
      have hbi := F.called_set.init.bind (.ref s.heap.objs.size)
      repeat (any_goals (first | assumption | wp_step))
      refine codeAny_mono (codeAny_call_builtin (R := wants (fun r s₂ => r = .none ∧ ∃ h' tk c, s₂ = { s with heap := h', toks := tk } ∧ SetM w h' s.heap.objs.size (kIn ks) c ∧ c ≤ ks.length ∧
          (∀ b o, s.heap.get? b = some o → h'.get? b = some o)) E) F.called_set.init.plain F.entry_set_init (check_set_init_1 hT ?_)) fun r₂ s₂ hr₂ => ?_
      · obtain ⟨ol, hol, hcl, nl, hdl⟩ := hl
        obtain ⟨ocls, odict, odata, oslots⟩ := ol
        simp only at hcl hdl
        subst hcl; subst hdl
        have hol' : (s.heap.push (noSet w)).get? l = some { cls := .type "list", dict := odict, data := .seq items nl, slots := oslots } := Heap.get?_push_of_some _ hol
        have hsls := F.sub_list_set
        have hslf := F.sub_list_frozenset
        have hne : (Value.type "list" == Value.type "dict") = false := by decide
        have hl1 : (s.heap.push (noSet w)).IsList l items := ⟨_, hol', rfl, nl, rfl⟩
        unfold Builtin.«set.__init__» noKeywords Builtin.Frozenset.updateFrom
        generalize hPI : pyIter = PI
        wp_walk
        subst hPI
        refine wpAny_pyIter_list hl1 ?_
        refine wpAny_bind (wpAny_runValue ?_)
        have hlS : l < s.heap.objs.size := Heap.lt_size hol
        have hh3 : A.in1.in1.in1.handled = none := by simp [hh]
        have hneI : l ≠ (s.heap.push (noSet w)).objs.size := by
          rw [Heap.size_push]
          exact Nat.ne_of_lt (Nat.lt_succ_of_lt hlS)
        have hSf : s.heap.objs.size ∉ [(s.heap.push (noSet w)).objs.size, l] := by
          rw [Heap.size_push]
          simp only [List.mem_cons, List.mem_singleton, List.not_mem_nil, or_false, not_or]
          exact ⟨Nat.ne_of_lt (Nat.lt_succ_self _), Nat.ne_of_gt hlS⟩
        have hval : ∀ (i : Nat) (v : Value), items[i]? = some v → ∃ k, ks[i]? = some k ∧ RelV (kV k) v := fun i v hv => by
          have hi : i < ks.length := by rw [← hisz]; exact (Array.getElem?_eq_some_iff.mp hv).1
          have e : (ks.map kV)[i]? = some (kV ks[i]) := by rw [List.getElem?_map, List.getElem?_eq_getElem hi]; rfl
          obtain ⟨u, hu, ru⟩ := hit.get e
          rw [Array.getElem?_toList, hv] at hu
          cases hu
          exact ⟨_, List.getElem?_eq_getElem hi, ru⟩
        refine setM_update ((Walks.list hh3 _ l hneI items).toS) s.heap.objs.size hSf ks hisz hb hval (items.size - 0) 0 _ (by omega) (Nat.zero_le _) ⟨⟨_, Heap.get?_push_size _ rfl, rfl, rfl⟩, (hl1.push _)⟩ ?hS0 ?hR
        case hS0 =>
          have hget : ((s.heap.push (noSet w)).push { cls := .type "list_iterator", data := .fields #[.ref l, .int 0 0] }).get? s.heap.objs.size = some (noSet w) := Heap.get?_push_of_some _ hS
          exact ⟨0, Nat.le_refl 0, (setM_new hget).congr fun k => rfl⟩
        case hR =>
          intro s' c' hm hc' hS'
          obtain ⟨h', g2, d', tk', os'⟩ := s'
          have eg : g2 = s.gens := hm.gens
          have ed : d' = s.drawn := hm.drawn
          have eo : os' = s.os := hm.os
          subst eg; subst ed; subst eo
          show wpAny _ _ _ _ _ _
          refine wpAny_pure ?_
          show wpAny _ _ (ret Value.none) _ _ _
          rw [hisz] at hc'
          refine wpAny_pure ⟨rfl, h', tk', c', rfl, hS', hc', fun b o e => ?_⟩
          have hb0 : b < s.heap.objs.size := Heap.lt_size e
          have hb1 : b ≠ s.heap.objs.size := Nat.ne_of_lt hb0
          have hb2 : b ≠ (s.heap.push (noSet w)).objs.size := by
            rw [Heap.size_push]
            exact Nat.ne_of_lt (Nat.lt_succ_of_lt hb0)
          exact hm.heap b o (by simp only [List.mem_cons, List.mem_singleton, List.not_mem_nil, or_false, not_or]; exact ⟨hb1, hb2⟩) (Heap.get?_push_of_some _ (Heap.get?_push_of_some _ e))
      · cases r₂ with
        | error e => exact hr₂
        | ok fl₂ =>
          cases fl₂ with
          | ret r =>
            obtain ⟨rfl, h', tk, c', rfl, hS', hc', hk'⟩ := hr₂
            repeat (any_goals (first | assumption | wp_step))
            exact h _ _ _ hS' hc' hk'
          | _ => exact hr₂.elim
    | _ => exact hr.elim
/-- sorted(set), any kind of keys -/
theorem sorted_setG {κ : PyProof.Rows.KeyKind} (hO : κ.OneLt) {a : Addr} {S : Key → Bool} {n : Nat} {Q : Value → Shared → Prop} (R : SetM w s.heap a S n) (hh : A.handled = none)
    (hK : ∀ vs : List Value, (∀ v ∈ vs, ∃ k, S k = true ∧ RelV (kV k) v) → KeysOf κ (pairsOf vs) ∧ ∀ v₁ v₂ rest, vs = v₁ :: v₂ :: rest → keyKind' (v₁ :: v₂ :: rest).toArray = pure oneType')
    (hQ : ∀ s' p (vs : List Value) (st' : SortSt) (c : Nat), (∀ b o, s.heap.get? b = some o → s'.heap.get? b = some o) → s'.gens = s.gens → s'.os = s.os → s.heap.objs.size ≤ p → s'.heap.get? p = some (seqObj "list" ((arrOf st').map (·.2)) c) →
      (∀ v ∈ vs, ∃ k, S k = true ∧ RelV (kV k) v) → (vs.map vK).Nodup → (∀ k, S k = true ↔ k ∈ vs.map vK) → vs.length = n → (arrOf st').Perm (pairsOf vs) → SortedToK κ (arrOf st') (pairsOf vs).size → Q (.ref p) s') :
    wpAny (model P w) A (call (.builtin "sorted") [.ref a]) Q E s := by
  obtain ⟨o, es, ep, t, ho, hex, hd, g, nd, hm, hb, hf, hn, hr, hl⟩ := R
  refine Calls.call_function_entry kind_sorted plain_sorted entry_sorted (args_sorted1 _) ?_
  unfold Builtin.«sorted»
  refine wpAny_bind (m := checkCount "sorted" 1 1 _) (wpAny_pure ?_)
  refine wpAny_bind (collect_set (A := A.in1) hh ⟨o, ho, hex.1, hd⟩ hf hb hr hl fun s1 vs k1 hz g1 o1 pm => ?_)
  have hvl : vs.length = n := by rw [pm.length_eq, List.length_map, Array.length_toList]; exact hn
  have ev : (es.toList.map (·.2)).map vK = es.toList.map eK := by rw [List.map_map]; rfl
  have pk : (vs.map vK).Perm (es.toList.map eK) := by rw [← ev]; exact pm.map vK
  have hv : ∀ v ∈ vs, ∃ k, S k = true ∧ RelV (kV k) v := fun v hv => by
    obtain ⟨e, he, rfl⟩ := List.mem_map.mp (pm.mem_iff.mp hv)
    obtain ⟨k, h1, _⟩ := g e he
    exact ⟨k, (hm k).2 (List.mem_map.mpr ⟨e, he, vK_of h1⟩), h1⟩
  have hn2 : vs.length ≤ sizeLine := by rw [hvl, ← hn]; exact fits_of_scanBound hb
  refine wpAny_bind (wpAny_newList ?_ hn2)
  have hoL : (s1.heap.push (seqObj "list" vs.toArray 0)).get? s1.heap.objs.size = some (seqObj "list" vs.toArray 0) := Heap.get?_push_size _ rfl
  obtain ⟨q1, q2⟩ := hK vs hv
  refine wpAny_bind (wpAny_holding (wpAny_call_entry slot_list_sort ⟨_, hoL, rfl⟩ entry_list_sort (list_sort_treeKAny hO hoL q1 q2 hn2 fun st' a1 a2 => ⟨_, rfl, ?_⟩) (args_list_sort _)))
  obtain ⟨c, hc⟩ := sortedHeap_at (vs := vs) (out := (arrOf st').map (·.2)) hoL
  refine wpAny_pure ⟨_, rfl, hQ _ s1.heap.objs.size vs st' c (fun b u e => ?_) g1 o1 hz hc hv (pk.nodup_iff.mpr nd) (fun k => by rw [pk.mem_iff, ← hm k]) hvl a1 a2⟩
  have q := k1 b u e
  have hlt := Heap.lt_size q
  show (sortedHeap (s1.heap.push (seqObj "list" vs.toArray 0)) s1.heap.objs.size vs ((arrOf st').map (·.2))).get? b = some u
  rw [sortedHeap_old (Nat.ne_of_lt hlt) (by rw [size_push']; exact Nat.lt_succ_of_lt hlt)]
  exact Heap.get?_push_of_some _ q
end
/-- texts, strictly ascending -/
theorem strs_of_keys : ∀ {vs : List Value}, (∀ v ∈ vs, ∃ x : Str, RelV (.str x) v) → ∃ ss : List Str, StrsAre vs ss ∧ vs.map vK = ss.map Sum.inr
  | [], _ => ⟨[], .nil, rfl⟩
  | v :: vs, h => by
    obtain ⟨ss, h1, h2⟩ := strs_of_keys (vs := vs) fun u hu => h u (List.mem_cons_of_mem _ hu)
    obtain ⟨x, t, rfl⟩ := h v List.mem_cons_self
    exact ⟨x :: ss, .cons x t h1, by rw [List.map_cons, h2]; rfl⟩
theorem ints_of_keys : ∀ {vs : List Value}, (∀ v ∈ vs, ∃ x : Int, RelV (.int x) v) → ∃ ss : List Int, IntsAre vs ss ∧ vs.map vK = ss.map Sum.inl
  | [], _ => ⟨[], .nil, rfl⟩
  | v :: vs, h => by
    obtain ⟨ss, h1, h2⟩ := ints_of_keys (vs := vs) fun u hu => h u (List.mem_cons_of_mem _ hu)
    obtain ⟨x, t, rfl⟩ := h v List.mem_cons_self
    exact ⟨x :: ss, .cons x t h1, by rw [List.map_cons, h2]; rfl⟩
/-- the set of keys at a, that can be walked -/
def SetMO (w : World) (a : Addr) (S : Key → Bool) (n : Nat) : HO := .ext fun h => SetM w h a S n
section
variable {X : Cx}
theorem setMO_new {w : World} {P : Program} {H : Hp} {h : Heap} {a : Addr} {S : Key → Bool} {n : Nat} (R : SetM w h a S n) : ObjOk P w H h a (SetMO w a S n) := by
  have ⟨o, _, _, _, ho, _⟩ := R
  exact ⟨R, ⟨o, ho⟩, fun h1 h2 p k => SetM.at p k⟩
/-- set(xs), xs a list of ints or texts -/
def rSetLs (K : PySem.W.Frag) (w : World) : List V → Hp → VK → Prop := fun xs H Q => ∃ (l : Addr) (ks : List Key), xs = [V.ref l] ∧ SqL K H l (ks.map kV) ∧ ks.length ≤ 1000 ∧ ∀ p n, H p = none → n ≤ ks.length → Q (.ref p) (upd H p (SetMO w p (kIn ks) n))
theorem cr_setL (hc : X.calm = true) : CallR X (.type "set") (rSetLs X.K X.w) := by
  intro pins s σ H xs us Q I r h
  obtain ⟨l, ks, rfl, hl, hk, q⟩ := h
  rw [Vals.ref1 r]
  obtain ⟨its, rv, pl, hz⟩ := I.list hl
  have hn : H s.heap.objs.size = none := I.hok.fresh (Nat.le_refl _)
  refine call_setL (P := X.prog) (w := X.w) ks (I.ok.hd hc) pl.isList (by simpa using rv) (by unfold scanBound; omega) fun h' tk c R hcn k => ?_
  exact ⟨.ref s.heap.objs.size, upd H s.heap.objs.size (SetMO X.w s.heap.objs.size (kIn ks) c), I.laid (t' := tk) k (Nat.le_refl _) (setMO_new R), rfl, q _ c hn hcn⟩
/-- sorted(set) -/
def rSortM (w : World) : List V → Hp → VK → Prop := fun vs H Q => ∃ (a : Addr) (S : Key → Bool) (n : Nat), vs = [V.ref a] ∧ H a = some (SetMO w a S n) ∧
  ((∃ xs : List Str, (∀ k, S k = true ↔ k ∈ xs.map (Sum.inr : Str → Key)) ∧ ∀ (ys : List Str) (p : Addr), H p = none → ys.Nodup → (∀ z, z ∈ ys ↔ z ∈ xs) → sortedS ys = true → ys.length = n → Q (.ref p) (upd H p (.lst (ys.map V.str)))) ∨
   (∃ xs : List Int, (∀ k, S k = true ↔ k ∈ xs.map (Sum.inl : Int → Key)) ∧ ∀ (ys : List Int) (p : Addr), H p = none → ys.Pairwise (· < ·) → (∀ z, z ∈ ys ↔ z ∈ xs) → ys.length = n → Q (.ref p) (upd H p (.lst (ys.map V.int)))))
theorem nodup_inj {α β : Type} {f : α → β} {l : List α} (h : (l.map f).Nodup) : l.Nodup := List.Pairwise.of_map f (fun _ _ hne e => hne (congrArg f e)) h
theorem cr_sortM (hc : X.calm = true) : CallR X (.builtin "sorted") (rSortM X.w) := by
  intro pins s σ H vs us Q I r h
  obtain ⟨a, S, n, rfl, ha, h⟩ := h
  have R : SetM X.w s.heap a S n := (I.hok a _ ha).1
  have nz : n ≤ sizeLine := by
    obtain ⟨o, es, ep, t, _, _, _, _, _, _, hb, _, hn, _⟩ := R
    rw [← hn]
    exact fits_of_scanBound hb
  rw [Vals.ref1 r]
  rcases h with ⟨xs, hx, q⟩ | ⟨xs, hx, q⟩
  · have hstr : ∀ vs : List Value, (∀ v ∈ vs, ∃ k, S k = true ∧ RelV (kV k) v) → ∃ ss : List Str, StrsAre vs ss ∧ vs.map vK = ss.map Sum.inr := fun vs hv => strs_of_keys fun v hm => by
      obtain ⟨k, h1, h2⟩ := hv v hm
      obtain ⟨x, _, rfl⟩ := List.mem_map.mp ((hx k).1 h1)
      exact ⟨x, h2⟩
    refine sorted_setG strKind_oneLt R (I.ok.hd hc) (fun vs hv => ?_) fun s' p vs st' c k g o hp hg hv nd hm hl a1 a2 => ?_
    · obtain ⟨ss, h1, _⟩ := hstr vs hv
      exact ⟨h1.keysOf, fun v₁ v₂ rest e => keyKind_strs (by rw [← e]; exact h1)⟩
    · obtain ⟨ss, h1, h2⟩ := hstr vs hv
      obtain ⟨ys, b1, b2, b3⟩ := sorted_out_str h1 a1 a2
      have ln : ys.length = n := by
        rw [b2.length_eq, ← hl]
        have z := congrArg List.length h2
        rw [List.length_map, List.length_map] at z
        exact z.symm
      have hlen : (ys.map V.str).length ≤ sizeLine := by rw [List.length_map, ln]; exact nz
      have hn : H p = none := I.hok.fresh hp
      have J : Inv X pins σ (upd H p (.lst (ys.map V.str))) { s with heap := s'.heap, gens := s'.gens, drawn := s'.drawn, toks := s'.toks } :=
        I.call (ch := []) (Un.laid k hp hn) (I.hok.laid k hp ⟨hlen, _, c, vals_of_strs b1, hg⟩) (by rw [g]; exact I.bare) (fun _ z => nomatch z)
      have e : s' = { s with heap := s'.heap, gens := s'.gens, drawn := s'.drawn, toks := s'.toks } := by
        cases s'
        cases s
        cases o
        rfl
      rw [e]
      rw [h2] at nd
      refine ⟨.ref p, _, J, rfl, q ys p hn (b2.nodup_iff.mpr (nodup_inj nd)) (fun z => ?_) b3 ln⟩
      have e1 := hm (Sum.inr z)
      rw [h2] at e1
      have e2 := hx (Sum.inr z)
      have inj : ∀ l : List Str, (Sum.inr z : Key) ∈ l.map Sum.inr ↔ z ∈ l := fun l => by simp
      rw [inj] at e1 e2
      rw [b2.mem_iff, ← e1, e2]
  · have hint : ∀ vs : List Value, (∀ v ∈ vs, ∃ k, S k = true ∧ RelV (kV k) v) → ∃ ss : List Int, IntsAre vs ss ∧ vs.map vK = ss.map Sum.inl := fun vs hv => ints_of_keys fun v hm => by
      obtain ⟨k, h1, h2⟩ := hv v hm
      obtain ⟨x, _, rfl⟩ := List.mem_map.mp ((hx k).1 h1)
      exact ⟨x, h2⟩
    refine sorted_setG PyProof.Rows.intKind_oneLt R (I.ok.hd hc) (fun vs hv => ?_) fun s' p vs st' c k g o hp hg hv nd hm hl a1 a2 => ?_
    · obtain ⟨ss, h1, _⟩ := hint vs hv
      exact ⟨h1.keysOfInt, fun v₁ v₂ rest e => keyKind_ints (by rw [← e]; exact h1)⟩
    · obtain ⟨ss, h1, h2⟩ := hint vs hv
      obtain ⟨ys, b1, b2, b3⟩ := sorted_out h1 a1 (sortedTo_of_int a2)
      have ln : ys.length = n := by
        rw [b2.length_eq, ← hl]
        have z := congrArg List.length h2
        rw [List.length_map, List.length_map] at z
        exact z.symm
      have hlen : (ys.map V.int).length ≤ sizeLine := by rw [List.length_map, ln]; exact nz
      have hn : H p = none := I.hok.fresh hp
      have J : Inv X pins σ (upd H p (.lst (ys.map V.int))) { s with heap := s'.heap, gens := s'.gens, drawn := s'.drawn, toks := s'.toks } :=
        I.call (ch := []) (Un.laid k hp hn) (I.hok.laid k hp ⟨hlen, _, c, vals_of_ints b1, hg⟩) (by rw [g]; exact I.bare) (fun _ z => nomatch z)
      have e : s' = { s with heap := s'.heap, gens := s'.gens, drawn := s'.drawn, toks := s'.toks } := by
        cases s'
        cases s
        cases o
        rfl
      rw [e]
      rw [h2] at nd
      refine ⟨.ref p, _, J, rfl, q ys p hn (lt_of_le_nodup ys b3 (b2.nodup_iff.mpr (nodup_inj nd))) (fun z => ?_) ln⟩
      have e1 := hm (Sum.inl z)
      rw [h2] at e1
      have e2 := hx (Sum.inl z)
      have inj : ∀ l : List Int, (Sum.inl z : Key) ∈ l.map Sum.inl ↔ z ∈ l := fun l => by simp
      rw [inj] at e1 e2
      rw [b2.mem_iff, ← e1, e2]
end
end L2

set_option Elab.async false
set_option linter.all false
set_option maxRecDepth 100000
set_option maxHeartbeats 4000000
/-! sorted of triples of ints -/
namespace SrtT
open PySem PyProof.Rows Srt SrtO
abbrev T3 := Int × Int × Int
def lex3 (p q : T3) : Bool := if p.1 = q.1 then (if p.2.1 = q.2.1 then decide (p.2.2 < q.2.2) else decide (p.2.1 < q.2.1)) else decide (p.1 < q.1)
theorem lex3_iff {p q : T3} : lex3 p q = true ↔ p.1 < q.1 ∨ (p.1 = q.1 ∧ (p.2.1 < q.2.1 ∨ (p.2.1 = q.2.1 ∧ p.2.2 < q.2.2))) := by
  unfold lex3
  split
  · split <;> (rw [decide_eq_true_eq]; omega)
  · rw [decide_eq_true_eq]; omega
theorem lex3_no {p q : T3} : lex3 p q = false ↔ ¬ (p.1 < q.1 ∨ (p.1 = q.1 ∧ (p.2.1 < q.2.1 ∨ (p.2.1 = q.2.1 ∧ p.2.2 < q.2.2)))) := by
  rw [← lex3_iff]
  cases lex3 p q <;> simp
theorem swo3 {α : Type} (k : α → T3) : Swo fun v u => lex3 (k v) (k u) := by
  constructor
  · intro x y h
    rw [lex3_no]
    rw [lex3_iff] at h
    omega
  · intro x y z h1 h2
    rw [lex3_no] at h1 h2 ⊢
    omega
/-- v is a tuple of three ints in the heap -/
def Is3 (h : Heap) (v : Value) (p : T3) : Prop := ∃ a o t1 t2 t3 n, v = .ref a ∧ h.get? a = some o ∧ o.cls = .type "tuple" ∧ o.data = .seq #[.int p.1 t1, .int p.2.1 t2, .int p.2.2 t3] n
theorem Is3.stay {h h' : Heap} {v : Value} {p : T3} (i : Is3 h v p) (k : ∀ b o, h.get? b = some o → o.cls = .type "tuple" → h'.get? b = some o) : Is3 h' v p := by
  obtain ⟨a, o, t1, t2, t3, n, e1, e2, e3, e4⟩ := i
  exact ⟨a, o, t1, t2, t3, n, e1, k a o e2 e3, e3, e4⟩
section
variable {prog : Program} {w : World} {A : Around} {E : Value → Shared → Prop} {s : Shared}
theorem cmp3 {vs : List Value} {k : Value → T3} (hp : ∀ v ∈ vs, Is3 s.heap v (k v)) : SrtO.Cmp prog w A s (tuples' true) (fun p => p.1 ∈ vs) (lt2 fun v u => lex3 (k v) (k u)) := by
  intro p q mp mq
  have i1 := hp _ mp
  have i2 := hp _ mq
  show wpAny (model prog w) A (keyLt' (tuples' true) p.1 q.1) (fun r s' => s' = s ∧ r = lex3 (k p.1) (k q.1)) (fun _ _ => False) s
  generalize k p.1 = P at i1 ⊢
  generalize k q.1 = R at i2 ⊢
  obtain ⟨x, y, z⟩ := P
  obtain ⟨x', y', z'⟩ := R
  obtain ⟨a, o, t, u, v, n, e, ho, hc, hd⟩ := i1
  obtain ⟨a', o', t', u', v', n', e', ho', hc', hd'⟩ := i2
  rw [e, e']
  show wpAny _ _ _ (fun r s' => s' = s ∧ r = (if x = x' then (if y = y' then decide (z < z') else decide (y < y')) else decide (x < x'))) _ _
  refine PySem.W.kat_lt ho hd ho' hd' ?_
  show PySem.W.KatLex prog w A true (decide (3 < 3)) _ [(.int x t, .int x' t'), (.int y u, .int y' u'), (.int z v, .int z' v')] 0 s
  refine PySem.W.kat_cons (SeqAt.EqAt.int_int x t x' t' prog w _ _ (PySem.W.kat_go (fun c1 => ?_) fun c1 => ?_))
  · have ex : x = x' := by simpa using c1
    rw [if_pos ex]
    refine PySem.W.kat_yes (PySem.W.kat_cons (SeqAt.EqAt.int_int y u y' u' prog w _ _ (PySem.W.kat_go (fun c2 => ?_) fun c2 => ?_)))
    · have ey : y = y' := by simpa using c2
      rw [if_pos ey]
      refine PySem.W.kat_yes (PySem.W.kat_cons (SeqAt.EqAt.int_int z v z' v' prog w _ _ (PySem.W.kat_go (fun c3 => ?_) fun c3 => ?_)))
      · have ez : z = z' := by simpa using c3
        exact PySem.W.kat_yes (PySem.W.kat_nil ⟨rfl, by rw [ez]; exact (decide_eq_false (Int.lt_irrefl z')).symm⟩)
      · refine PySem.W.kat_no (PySem.W.kat_one _ _ (PyProof.Rows.lt_int ?_))
        exact (⟨rfl, rfl⟩ : s = s ∧ decide (z < z') = decide (z < z'))
    · have ey : ¬ y = y' := by simpa using c2
      rw [if_neg ey]
      refine PySem.W.kat_no (PySem.W.kat_one _ _ (PyProof.Rows.lt_int ?_))
      exact (⟨rfl, rfl⟩ : s = s ∧ decide (y < y') = decide (y < y'))
  · have ex : ¬ x = x' := by simpa using c1
    rw [if_neg ex]
    exact PySem.W.kat_no (oneLt_int ⟨rfl, rfl⟩)
theorem firsts3 {h : Heap} {k : Value → T3} : ∀ {vs : List Value}, (∀ v ∈ vs, Is3 h v (k v)) → ∃ fs : List Value, PySem.W.KatTups h vs fs ∧ fs.length = vs.length ∧ ∀ f ∈ fs, ∃ x t, f = Value.int x t
  | [], _ => ⟨[], PySem.W.KatTups.nil, rfl, fun f hf => nomatch hf⟩
  | v :: vs, hp => by
    obtain ⟨fs, g1, g2, g3⟩ := firsts3 (vs := vs) fun z hz => hp z (List.mem_cons_of_mem v hz)
    obtain ⟨a, o, t1, t2, t3, n, rfl, e2, e3, e4⟩ := hp v List.mem_cons_self
    refine ⟨.int (k (.ref a)).1 t1 :: fs, PySem.W.KatTups.cons e2 e3 e4 rfl g1, congrArg Nat.succ g2, fun f hf => ?_⟩
    rcases List.mem_cons.mp hf with rfl | hf
    · exact ⟨_, _, rfl⟩
    · exact g3 f hf
theorem sortable3 {a : Addr} {vs : List Value} {k : Value → T3} (h0 : 0 < vs.length) (hp : ∀ v ∈ vs, Is3 s.heap v (k v)) (ha : ∀ o, s.heap.get? a = some o → o.cls ≠ .type "tuple") : SortableO prog w A s a vs fun v u => lex3 (k v) (k u) := fun h' keep => by
  have st : ∀ v ∈ vs, Is3 h' v (k v) := fun v hv => (hp v hv).stay fun b o g c => keep b o (fun z => ha o (z ▸ g) c) g
  obtain ⟨fs, g1, g2, g3⟩ := firsts3 st
  refine ⟨tuples' true, fun Q E hq => PySem.W.kat_kind (T := .type "int") g1 (by omega) (fun f hf => ?_) (by rfl) ?_, cmp3 st⟩
  · obtain ⟨x, t, rfl⟩ := g3 f hf
    exact PySem.W.Looks.now
  · rw [show (Value.type "int" != Value.type "tuple") = true from by first | decide +kernel | rfl]
    exact hq
/-- sorted(l) of triples of ints -/
theorem sorted3 {l : Addr} {vs : List Value} {k : Value → T3} {Q : Value → Shared → Prop} (hl : s.heap.IsList l vs.toArray) (hz : vs.length ≤ sizeLine) (hp : ∀ v ∈ vs, Is3 s.heap v (k v))
    (h : ∀ (h' : Heap) (d : Addr) (out : List Value), Srtd (fun v u => lex3 (k v) (k u)) out → Stb (fun v u => lex3 (k v) (k u)) out vs → (∀ b o, s.heap.get? b = some o → h'.get? b = some o) → s.heap.objs.size ≤ d → (∃ n, h'.get? d = some (seqObj "list" out.toArray n)) → Q (.ref d) { s with heap := h' }) :
    wpAny (model prog w) A (call (.builtin "sorted") [.ref l]) Q E s := by
  refine sorted_ord (swo3 k) hl hz (fun h2 h₁ a ha kk => sortable3 (s := { s with heap := h₁ }) (by omega) (fun v hv => (hp v hv).stay fun b o g _ => (kk b o g).2) fun o g c => ?_) fun out hs hb => h _ _ out hs hb (fun b o g => sortedAll_old g) (Nat.le_succ _) (sortedAll_at s.heap vs out.toArray)
  have g' : some o = some (seqObj "list" vs.toArray 0) := g.symm.trans ha
  cases g'
  exact absurd (Value.type.inj c) (by decide)
end
end SrtT
namespace L2
open PySem PySem.Spec PyProof.Rows SrtT
/-- sorted(xs), xs a list of triples of ints (k says which): a new list, sorted -/
def rSorted3 (K : PySem.W.Frag) : List V → Hp → VK → Prop := fun vs H Q => ∃ (a : Addr) (xs : List V) (k : V → T3), vs = [V.ref a] ∧ SqL K H a xs ∧ (∀ x ∈ xs, ∃ t, x = V.ref t ∧ H t = some (.tup [.int (k x).1, .int (k x).2.1, .int (k x).2.2])) ∧
  ∀ ys p, SrtO.Srtd (fun x y => lex3 (k x) (k y)) ys → ys.Perm xs → H p = none → Q (.ref p) (upd H p (.lst ys))
theorem cr_sorted3 {X : Cx} : CallR X (.builtin "sorted") (rSorted3 X.K) := by
  intro pins s σ H vs us Q I r h
  obtain ⟨a, xs, k, rfl, hs, hx, q⟩ := h
  obtain ⟨its, rv, hl, hz⟩ := I.list hs
  rw [Vals.ref1 r]
  obtain ⟨e1, e2⟩ := refs_back rv fun x m => (hx x m).imp fun t ht => ht.1
  refine sorted3 (k := fun u => k (backV u)) hl.isList (by rw [← rv.length]; exact hz) (fun v hv => ?_) fun h' d out g1 g2 kp hd hn => ?_
  · obtain ⟨t, rfl⟩ := e2 v hv
    obtain ⟨t', e, ht⟩ := hx (.ref t) (by rw [e1]; exact List.mem_map.mpr ⟨_, hv, rfl⟩)
    cases e
    obtain ⟨_, its2, r2, o, ho, hc, n, hdt⟩ := I.hok _ _ ht
    cases r2 with
    | cons r2a r2 => cases r2 with
      | cons r2b r2 => cases r2 with
        | cons r2c r2 =>
          cases r2
          obtain ⟨ta, rfl⟩ := r2a
          obtain ⟨tb, rfl⟩ := r2b
          obtain ⟨tc, rfl⟩ := r2c
          exact ⟨t, o, ta, tb, tc, n, rfl, ho, hc, hdt⟩
  · obtain ⟨n, hn⟩ := hn
    have back : ∀ u ∈ out, ∃ a, u = Value.ref a := fun u hu => e2 u (g2.perm.mem_iff.mp hu)
    have pm : (out.map backV).Perm xs := by rw [e1]; exact g2.perm.map backV
    refine ⟨.ref d, upd H d (.lst (out.map backV)), I.laid (t' := s.toks) kp hd ⟨?_, out, n, vals_back back, hn⟩, rfl, q _ d (SrtO.srtd_map g1) pm (I.hok.fresh hd)⟩
    rw [pm.length_eq]
    exact hz
end L2

set_option Elab.async false
set_option linter.all false
set_option maxRecDepth 100000
set_option maxHeartbeats 4000000
namespace L2
open PySem PySem.Spec PyProof.Rows
/-! ### an own __eq__ asked by !=, an own __len__, list(d.values()) -/
/-- a name of a written namespace -/
theorem ns_at {K : PySem.W.Frag} {h : Heap} {N : Addr} {mN : Str → Option Value} {n : Str} {v : Value} (X : K.In h) (G : h.Ns N mN) (e : PySem.W.nsIn K N n = some (some v)) : mN n = some v := by
  obtain ⟨o, es, ep, ho, hd, _, hf⟩ := G
  unfold PySem.W.nsIn at e
  split at e
  case h_2 => cases e
  case h_1 c d es' n' sl q =>
    have z := X _ _ q
    rw [ho] at z
    cases z
    cases hd
    split at e
    case h_2 => split at e <;> cases e
    case h_1 en he =>
      cases e
      rw [← hf]
      unfold nsFind findBy
      rw [← Array.find?_toList, he]
      rfl
/-- a plain class with an own __eq__ and no __ne__ -/
structure NeC (K : PySem.W.Frag) (C f : Addr) : Prop where
  ex : ∃ (nm q : Str) (N : Addr) (bs : List Value) (hd : Bool) (sn : List Str) (sub : List Value) (ab : Bool) (col : Option Bool) (dd : Option Addr) (k0 k1 k2 k3 k5 : Option Value) (nid : String) (fo : Obj),
    K.lookup C = some (excClassObj nm q C N bs [.type "object"] hd sn sub ab col dd k0 k1 k2 k3 k5 nid) ∧ PySem.W.nsOkIn K N = true ∧ PySem.W.nsIn K N "__eq__" = some (some (.ref f)) ∧ PySem.W.nsIn K N "__ne__" = some none ∧ K.lookup f = some fo ∧ fo.cls = .type "function"
theorem obj_eq : ∃ y, typeLookup (.type "object") "__eq__" = pure y := ⟨_, PySem.F.cmp_object.eq.lookup⟩
section
variable {X : Cx} {n : Nat} {CX : CXT} {C f : Addr} {fd : FuncData} {ps : List Str} {R : Addr → Addr → Hp → Prop} {E : XK}
theorem op_neG (F : FnOk X.prog X.w X.K X.mg X.base CX n f fd ps (spEq R)) (Z : NeC X.K C f) (hb : Binds X.K fd ps []) (hx : Passes CX X E) (hr : Room (n + 2) X.A) :
    OpR X (compareOp .NotEq) (fun x y H Q => DIns C R x y H ∧ ∀ H', Ext H H' → Q (.bl false) H') := by
  intro pins s σ H x y v u Q I rx ry hq
  obtain ⟨⟨a, b, dx, dy, fs, gs, rfl, rfl, ha, hb', hR⟩, q⟩ := hq
  cases rx
  cases ry
  obtain ⟨mA, J, _⟩ := ins_get I.hok ha
  obtain ⟨mB, J', _⟩ := ins_get I.hok hb'
  obtain ⟨od, J, _⟩ := J.look
  obtain ⟨od', J', _⟩ := J'.look
  obtain ⟨nm, qn, N, bs, hd, sn, sub, ab, col, dd, k0, k1, k2, k3, k5, nid, fo, z1, z2, z3, z4, z5, z6⟩ := Z.ex
  have XK := I.kIn
  have Gn := Heap.Ns.of_isNs (PySem.W.isNs_of_in XK z2)
  obtain ⟨y0, hy0⟩ := obj_eq
  have Y : s.heap.OwnEqNoNe a C f "object" [.type "object"] := ⟨_, fo, nm, qn, N, bs, hd, sn, sub, ab, col, dd, k0, k1, k2, k3, k5, nid, _, y0, J.at_, J.cls, XK _ _ z1, Gn, ns_at XK Gn z3, XK _ _ z5, z6, PySem.F.mro_object, hy0, PySem.W.ns_none_of XK Gn z4⟩
  obtain ⟨hp, gg, dw, tk, os⟩ := s
  refine compareOp_ne_ownEq PySem.F.cmp_object Y J'.at_ J'.cls hr.in1.units0 ?_
  have hsp : spEq R [.ref a, .ref b] H (fun v H' => v = .bl true ∧ Ext H H') E := ⟨a, b, rfl, hR, fun H' e => ⟨rfl, e⟩⟩
  have e0 : Env0 X.prog X.w X.K X.mg X.base X.A.in1 X.stack ⟨hp, gg, dw, tk, os⟩ H := by
    have e := I.env0
    exact ⟨e.frames, e.mod, e.bs, e.bsz, e.funs, e.frf, e.hok, e.bare⟩
  have hl := F.len _ _ _ _ hsp
  have r2 : Vals [V.ref a, V.ref b] [Value.ref a, Value.ref b] := .cons rfl (.cons rfl .nil)
  refine wpAny_call (codeAny_mono (F.run X.A.in1 X.stack _ H ⟨[.ref a, .ref b], []⟩ [.ref a, .ref b] [.ref a, .ref b] _ E (hr.in1.mono (by omega)) e0 (by
    have := hb ⟨hp, gg, dw, tk, os⟩ [.ref a, .ref b] I.kIn (by simpa using hl)
    simpa using this) r2 hsp) fun r s' hq => ?_)
  cases r with
  | error e => exact hx pins σ H _ e s' I hq
  | ok fl =>
    cases fl with
    | ret w =>
      obtain ⟨z, H', I', rz, ez, ex⟩ := I.after hq
      subst ez
      cases rz
      exact ⟨true, rfl, .bl false, H', I', rfl, q H' ex⟩
    | next => exact False.elim hq
    | brk => exact False.elim hq
    | cont => exact False.elim hq
/-- len(o) by an own __len__ -/
theorem call_lenI {sp : Sp} (F : FnOk X.prog X.w X.K X.mg X.base CX n f fd ["self"] sp) (hs : PySem.W.findIn X.K (.ref C) "__len__" = some (some (.ref f))) (hf : PySem.W.isFn X.K (.ref f) = true) (hb : Binds X.K fd ["self"] []) (hx : Passes CX X E) (hr : Room (n + 1) X.A) :
    CallR X (.builtin "len") (fun xs H Q => ∃ a dx fs, xs = [.ref a] ∧ H a = some (.ins C dx fs) ∧ sp [.ref a] H (fun v H' => ∃ m : Nat, v = .int m ∧ m < 2 ^ 62 ∧ Q (.int m) H') E) := by
  intro pins s σ H xs us Q I r h
  obtain ⟨a, dx, fs, rfl, ha, h⟩ := h
  rw [Vals.ref1 r]
  obtain ⟨mA, J, _⟩ := ins_get I.hok ha
  obtain ⟨od, J, _⟩ := J.look
  obtain ⟨m, hF⟩ := I.fr
  refine PySem.W.len_K hF I.ok.mod.kin J hs hf ?_
  have e0 : Env0 X.prog X.w X.K X.mg X.base X.A.in1 X.stack s H := by
    have e := I.env0
    exact ⟨e.frames, e.mod, e.bs, e.bsz, e.funs, e.frf, e.hok, e.bare⟩
  have hl := F.len _ _ _ _ h
  refine wpAny_call (codeAny_mono (F.run X.A.in1 X.stack _ H ⟨[.ref a], []⟩ [.ref a] [.ref a] _ E (hr.in1.mono (by omega)) e0 (by
    have := hb s [.ref a] I.kIn (by simpa using hl)
    simpa using this) (.cons rfl .nil) h) fun r s' hq => ?_)
  cases r with
  | error e => exact hx pins σ H _ e s' I hq
  | ok fl =>
    cases fl with
    | ret w =>
      obtain ⟨z, H', I', rz, m, ez, hm, q⟩ := I.after hq
      subst ez
      obtain ⟨t, rfl⟩ := rz
      exact ⟨⟨Int.natCast_nonneg m, by omega⟩, .int m, H', I'.tok _, ⟨_, rfl⟩, q⟩
    | next => exact False.elim hq
    | brk => exact False.elim hq
    | cont => exact False.elim hq
/-- the same object -/
def DOne : Eqv := fun x y _ => x = y ∧ ∃ a, x = .ref a
theorem mon_one : Mon DOne := fun _ _ _ _ _ d => d
theorem eqG_one : EqG X 0 DOne := by
  intro A pins s σ H x y u v sb I rx ry d
  obtain ⟨rfl, a, rfl⟩ := d
  cases rx
  cases ry
  exact SeqAt.EqAt.same (A := A) (s := s) (.ref a) X.prog X.w X.xe _ ⟨rfl, H, I, Ext.rfl'⟩
end
section
variable {X : Cx} {o : Expr} {p pos apos mpos : Pos} {td : TE}
/-- list(o.values()) of a dict -/
def tListVals (td : TE) : TE := fun σ H Q => td σ H fun x H1 => ∃ a kvs, x = V.ref a ∧ H1 a = some (.dK kvs) ∧ ∀ l, H1 l = none → Q (.ref l) (upd H1 l (.lst (kvs.map (·.2))))
theorem vals_vals {kvs : List (Key × V)} {vs : List (Key × Value)} (r : KV kvs vs) {us : List Value} (hn : us.length = vs.length) (hu : ∀ (j : Nat) v, us[j]? = some v → ∃ k, vs[j]? = some (k, v)) : Vals (kvs.map (·.2)) us := by
  have e : us = vs.map (·.2) := PySem.W.kdl_vals_eq us hn hu
  subst e
  unfold KV at r
  clear hn hu
  induction r with
  | nil => exact .nil
  | cons h t ih => exact .cons h.2 ih
theorem pe_listVals (hcalm : X.calm = true) (hg : Gl X "list") (hm : X.mg "list" = none) (hd : PE X o td) (hbase : attributeBase o "values" X.env (eval o X.env) = eval o X.env := by rfl) (hline : (apos.endLine == mpos.line) = true := by rfl)
    (hse : starEach [Expr.Call (.Attribute o "values" apos) [] [] mpos] X.env = [(false, eval (Expr.Call (.Attribute o "values" apos) [] [] mpos) X.env)] := by rfl) :
    PE X (.Call (.Name "list" p) [.Call (.Attribute o "values" apos) [] [] mpos] [] pos) (tListVals td) := by
  refine ⟨fun pins s σ H Q I h => ?_⟩
  refine wpAny_Call_Name_kw (ld_blt I hg hm (u := .type "list") (by first | rfl | decide +kernel) ?_ (by first | decide +kernel | decide) (by first | decide +kernel | decide))
  rw [hse]
  refine PySem.callWith_type1 (wpAny_Call_method0_late hbase hline (thn (hd.run pins s σ H _ I h) fun v s1 ⟨x, H1, I1, r1, a, kvs, ex, ha, q⟩ => ?_))
  subst ex
  obtain rfl : v = Value.ref a := r1
  obtain ⟨hz, hsys, vs, rel, dof⟩ := dk_of I1.hok ha
  obtain ⟨ep, dat⟩ := dof.dictAt
  obtain ⟨ob, es, ho, ex, _⟩ := id dat
  refine ⟨"dict", "dict.values", F.plainAttrs_dict, F.slot_dict_values, F.type_dict_values, ⟨ob, ho, ex.1⟩, fun b e => ?_, Calls.callWith_builtin rfl (PySem.evalArgs_none ?_)⟩
  · cases e
    exact ⟨ob, ho, ex.2.1⟩
  refine call_meetsIn F.slot_dict_values ⟨ob, ho, ex.1⟩ F.entry_dict_values (F.args_dict_values_1 _) (meets_dict_values (mixKind X.prog X.w) a hsys) ⟨⟨vs, dof⟩, ?_⟩
  have up : ∀ b u, s1.heap.get? b = some u → (s1.heap.push { cls := .type "dict_values", data := .fields #[.ref a] }).get? b = some u := fun b u e => Heap.get?_push_of_some _ e
  have hlen : vs.length = kvs.length := (KV.length rel).symm
  refine PySem.W.kdl_call (PySem.W.kdl_values (knd := mixKind X.prog X.w) (kvs := vs) (ep := ep)) (I1.ok.hd hcalm) ⟨⟨_, Heap.get?_push_size _ rfl, rfl, rfl⟩, dat.keep up⟩ (by rw [hlen]; exact hz) fun h' tk acc c' hk hD hacc => ?_
  have hv : Vals (kvs.map (·.2)) acc.toList := vals_vals rel (by rw [Array.length_toList]; exact hacc.1) fun j v e => hacc.2 j v (by rw [← Array.getElem?_toList]; exact e)
  refine ⟨.ref _, upd H1 _ (.lst (kvs.map (·.2))), I1.laid (t' := tk) (fun b u e => hk b u (up b u e)) (Nat.le_of_lt (Nat.lt_of_lt_of_le (Nat.lt_succ_self _) (by rw [Heap.size_push]; exact Nat.le_refl _)))
    (show ObjOk X.prog X.w _ _ _ (.lst (kvs.map (·.2))) from ⟨by rw [List.length_map]; exact hz, acc.toList, c', hv, by rw [Array.toArray_toList]; exact hD⟩), rfl, q _ (I1.hok.fresh (Nat.le_of_lt (Nat.lt_of_lt_of_le (Nat.lt_succ_self _) (by rw [Heap.size_push]; exact Nat.le_refl _))))⟩
end
end L2

set_option Elab.async false
set_option linter.all false
set_option maxRecDepth 100000
set_option maxHeartbeats 4000000
namespace L2
open PySem PySem.Spec PyProof.Rows
section
variable {X : Cx} {n : Nat} {CX : CXT} {C f : Addr} {fd : FuncData} {ps : List Str} {sp : Sp} {E : XK}
/-- x op y of two instances of one class, with an own method for it -/
def rOwnOp (C : Addr) (sp : Sp) (E : XK) : R2 := fun x y H Q => ∃ a b dx dy fs gs, x = .ref a ∧ y = .ref b ∧ H a = some (.ins C dx fs) ∧ H b = some (.ins C dy gs) ∧ sp [x, y] H Q E
theorem op_own {op : Operator} (hc : PySem.W.selfFirst X.K C = true) (hs : PySem.W.findIn X.K (.ref C) (PySem.dunder op.info.2) = some (some (.ref f))) (hf : PySem.W.isFn X.K (.ref f) = true)
    (F : FnOk X.prog X.w X.K X.mg X.base CX n f fd ps sp) (hb : Binds X.K fd ps []) (hx : Passes CX X E) (hr : Room n X.A) : OpR X (binaryOp op) (rOwnOp C sp E) := by
  intro pins s σ H x y v u Q I rx ry hq
  obtain ⟨a, b, dx, dy, fs, gs, rfl, rfl, ha, hb', hsp⟩ := hq
  cases rx
  cases ry
  obtain ⟨mA, J, _⟩ := ins_get I.hok ha
  obtain ⟨mB, J', _⟩ := ins_get I.hok hb'
  obtain ⟨od, J, _⟩ := J.look
  obtain ⟨od', J', _⟩ := J'.look
  obtain ⟨m, Fm⟩ := I.fr
  refine PySem.W.binop_K Fm I.ok.mod.kin J J'.type hc hs hf (wpAny_mono (run_fn (us := [.ref a, .ref b]) (vs := [.ref a, .ref b]) F hr hb .nil hx I (.cons rfl (.cons rfl .nil)) hsp) (fun z s' hz => ?_) fun _ _ e => e)
  obtain ⟨zv, H', I', rz, q⟩ := hz
  exact SlX.cmpback rz ⟨zv, H', I', rz, q⟩
end
end L2

set_option Elab.async false
set_option linter.all false
set_option maxRecDepth 100000
set_option maxHeartbeats 4000000
namespace L2
open PySem PySem.Spec PyProof.Rows
/-! ### o.f as a target among others -/
section
variable {X : Cx} {o : Expr} {ta : TE} {f : Str} {pos : Pos}
def gFld (K : PySem.W.Frag) (ta : TE) (f : Str) : TG := fun v σ H Q => ta σ H fun x H1 => ∃ a C dx fs, x = .ref a ∧ H1 a = some (.ins C dx fs) ∧ Cls K C ∧ NoAttr K C f ∧ fs.length < 1000 ∧ Q σ (upd H1 a (.ins C dx (putF f v fs)))
theorem pg_fld (ha : PE X o ta) : PG X (.Attribute o f pos) (gFld X.K ta f) := by
  refine ⟨fun pins s σ H v u Q I r h => ?_⟩
  rw [assign_Attribute]
  refine wpAny_bind (wpAny_holding (thn (ha.run pins s σ H _ I h) fun ov s1 ⟨x, H1, I1, rx, a, C, dx, fs, ex, ea, c, n, l, q⟩ => ?_))
  subst ex
  obtain rfl : ov = Value.ref a := rx
  refine wpAny_bind (wpAny_standAt ?_)
  refine wpAny_bind (wpAny_holding (setattr_ok I1 ea c n l r fun s3 I3 => ?_))
  exact wpAny_release ⟨σ, _, I3, q⟩
end
/-! ### operators of instances of a family of classes -/
section
variable {prog : Program} {w : World} {A : Around} {E : Value → Shared → Prop} {s : Shared} {K : PySem.W.Frag} {x C D L f : Addr} {h₀ : Heap} {m : Str → Option Value} {ox : Obj} {od : Option Obj}
open PySem.W PySem.Calls in
/-- x op y of instances of two classes, none of which is beneath the other -/
theorem binO {op : Operator} {b : Value} {rc rd : Option Value} {g : Addr} {Q : Value → Shared → Prop} (F : Fr h₀ L s.heap m) (X₀ : K.In h₀) (I : InstAt s.heap x ox C od) (hb : Looks (model prog w) s.heap (typeOf b) (.ref D)) (hne : C ≠ D) (hc : selfFirst K C = true) (hd : selfFirst K D = true)
    (hs : findIn K (.ref C) (PySem.dunder op.info.2) = some (some (.ref f))) (hf : isFn K (.ref f) = true) (hr : findIn K (.ref C) (dunderR op.info.2) = some rc) (hp : rc = none ∨ ∃ g : Addr, rc = some (.ref g))
    (gs : findIn K (.ref D) (PySem.dunder op.info.2) = some (some (.ref g))) (gr : findIn K (.ref D) (dunderR op.info.2) = some rd) (gp : rd = none ∨ ∃ g : Addr, rd = some (.ref g)) (hsub : subIn K (.ref D) (.ref C) = some false)
    (h : wpAny (model prog w) A (call (.ref f) [.ref x, b]) (PySem.W.CmpBack Q) E s) : wpAny (model prog w) A (binaryOp op (.ref x) b) Q E s := by
  have X := X₀.keeps F.keep
  obtain ⟨cd, rest, hcd, hm⟩ := ksp_first hc
  obtain ⟨dd, rest', hdd, hm'⟩ := ksp_first hd
  rcases hi : op.info with ⟨sym, nm'⟩
  rw [hi] at hs hr gs gr
  dsimp only at hs hr gs gr
  have one := ksp_try X I hs hf h
  obtain ⟨hh, gg, d, tt, os⟩ := s
  have L1 : Looks (model prog w) hh (typeOf (.ref x)) (.ref C) := I.type
  have L3 : Looks (model prog w) hh (fillsNumberSlot (.ref C) nm') true := fills_K X hcd hm hs
  have L4 : Looks (model prog w) hh (fillsNumberSlot (.ref D) nm') true := fills_K X hdd hm' gs
  have L5 : Looks (model prog w) hh (isSubtype (.ref D) (.ref C)) false := looks_subIn X hsub
  have L6 : Looks (model prog w) hh (numberSlotInPython (.ref C) nm') true := ksp_inPy X hs hr hp
  have L7 : Looks (model prog w) hh (numberSlotInPython (.ref D) nm') true := ksp_inPy X gs gr gp
  have hne' : (Value.ref C == Value.ref D) = false := Bool.eq_false_iff.mpr fun q => by
    have := beq_iff_eq.mp q
    cases this
    exact hne rfl
  simp only [binaryOp, hi]
  refine wpAny_holding (wpAny_bind ?_)
  unfold binaryOp1
  refine wpAny_bind (L1.at (wpAny_bind (hb.at (wpAny_bind (L3.at ?_)))))
  simp only [hne', Bool.false_eq_true, if_false]
  ksp_lk
  refine wpAny_mono one (fun r s' hr' => ?_) fun _ _ e => e
  obtain ⟨v, rfl, hq⟩ := hr'
  ksp_lk
  exact hq
end
/-- what the top says of an operator of a family of classes -/
structure OpF (K : PySem.W.Frag) (S : Addr → Prop) (op : Operator) (f : Addr) : Prop where
  sf : ∀ C, S C → PySem.W.selfFirst K C = true
  at_ : ∀ C, S C → PySem.W.findIn K (.ref C) (PySem.dunder op.info.2) = some (some (.ref f))
  rt : ∀ C, S C → PySem.W.findIn K (.ref C) (dunderR op.info.2) = some none
  fn : PySem.W.isFn K (.ref f) = true
  sub : ∀ C D, S C → S D → C ≠ D → PySem.W.subIn K (.ref D) (.ref C) = some false
section
variable {X : Cx} {n : Nat} {CX : CXT} {f : Addr} {fd : FuncData} {ps : List Str} {sp : Sp} {E : XK} {S : Addr → Prop} {op : Operator}
def rOpF (S : Addr → Prop) (sp : Sp) (E : XK) : R2 := fun x y H Q => ∃ a b C D dx dy fs gs, x = .ref a ∧ y = .ref b ∧ H a = some (.ins C dx fs) ∧ S C ∧ H b = some (.ins D dy gs) ∧ S D ∧ sp [x, y] H Q E
theorem op_fam (O : OpF X.K S op f) (F : FnOk X.prog X.w X.K X.mg X.base CX n f fd ps sp) (hb : Binds X.K fd ps []) (hx : Passes CX X E) (hr : Room n X.A) : OpR X (binaryOp op) (rOpF S sp E) := by
  intro pins s σ H x y v u Q I rx ry hq
  obtain ⟨a, b, C, D, dx, dy, fs, gs, rfl, rfl, ha, sC, hb', sD, hsp⟩ := hq
  cases rx
  cases ry
  obtain ⟨mA, J, _⟩ := ins_get I.hok ha
  obtain ⟨mB, J', _⟩ := ins_get I.hok hb'
  obtain ⟨od, J, _⟩ := J.look
  obtain ⟨od', J', _⟩ := J'.look
  obtain ⟨m, Fm⟩ := I.fr
  have body : wpAny (model X.prog X.w) X.A (call (.ref f) [.ref a, .ref b]) (PySem.W.CmpBack (EP X pins σ Q)) X.xe s := wpAny_mono (run_fn (us := [.ref a, .ref b]) (vs := [.ref a, .ref b]) F hr hb .nil hx I (.cons rfl (.cons rfl .nil)) hsp) (fun z s' hz => by
    obtain ⟨zv, H', I', rz, q⟩ := hz
    exact SlX.cmpback rz ⟨zv, H', I', rz, q⟩) fun _ _ e => e
  by_cases e : C = D
  · subst e
    exact PySem.W.binop_K Fm I.ok.mod.kin J J'.type (O.sf C sC) (O.at_ C sC) O.fn body
  · exact binO Fm I.ok.mod.kin J J'.type e (O.sf C sC) (O.sf D sD) (O.at_ C sC) O.fn (O.rt C sC) (.inl rfl) (O.at_ D sD) (O.rt D sD) (.inl rfl) (O.sub C D sC sD e) body
/-- with an int -/
structure OpI (K : PySem.W.Frag) (S : Addr → Prop) (op : Operator) (f : Addr) : Prop where
  sf : ∀ C, S C → PySem.W.selfFirst K C = true
  at_ : ∀ C, S C → PySem.W.findIn K (.ref C) (PySem.dunder op.info.2) = some (some (.ref f))
  rt : ∀ C, S C → PySem.W.findIn K (.ref C) (dunderR op.info.2) = some none
  fn : PySem.W.isFn K (.ref f) = true
  sub : ∀ C, S C → PySem.W.subIn K (.type "int") (.ref C) = some false
  i1 : ∃ fo, PySem.W.findIn K (.type "int") (PySem.dunder op.info.2) = some fo
  i2 : ∃ ro, PySem.W.findIn K (.type "int") (dunderR op.info.2) = some ro
def rOpI (S : Addr → Prop) (sp : Sp) (E : XK) : R2 := fun x y H Q => ∃ a C dx fs i, x = .ref a ∧ y = .int i ∧ H a = some (.ins C dx fs) ∧ S C ∧ sp [x, y] H Q E
theorem op_int (O : OpI X.K S op f) (F : FnOk X.prog X.w X.K X.mg X.base CX n f fd ps sp) (hb : Binds X.K fd ps []) (hx : Passes CX X E) (hr : Room n X.A) : OpR X (binaryOp op) (rOpI S sp E) := by
  intro pins s σ H x y v u Q I rx ry hq
  obtain ⟨a, C, dx, fs, i, rfl, rfl, ha, sC, hsp⟩ := hq
  cases rx
  obtain ⟨t, rfl⟩ := (show ∃ t, u = Value.int i t from ry)
  obtain ⟨mA, J, _⟩ := ins_get I.hok ha
  obtain ⟨od, J, _⟩ := J.look
  obtain ⟨m, Fm⟩ := I.fr
  obtain ⟨fo, h1⟩ := O.i1
  obtain ⟨ro, h2⟩ := O.i2
  refine PySem.W.ksp_binT (T := "int") Fm I.ok.mod.kin J rfl (O.sf C sC) (O.at_ C sC) O.fn (O.rt C sC) (.inl rfl) h1 h2 (O.sub C sC) (wpAny_mono (run_fn (us := [.ref a, .int i t]) (vs := [.ref a, .int i]) F hr hb .nil hx I (.cons rfl (.cons ⟨t, rfl⟩ .nil)) hsp) (fun z s' hz => ?_) fun _ _ e => e)
  obtain ⟨zv, H', I', rz, q⟩ := hz
  exact SlX.cmpback rz ⟨zv, H', I', rz, q⟩
end
/-! ### methods of a family of classes -/
/-- a method that all of the classes have from one place -/
structure MethF (K : PySem.W.Frag) (S : Addr → Prop) (m : Str) (f : Addr) : Prop where
  at_ : ∀ C, S C → Cls K C ∧ PySem.W.findIn K (.ref C) m = some (some (.ref f))
  fn : PySem.W.isFn K (.ref f) = true
  kp : PySem.W.keepIn K (.ref f) = true
section
variable {X : Cx} {k : Nat} {CX : CXT} {f : Addr} {fd : FuncData} {ps : List Str} {sp : Sp} {E : XK} {S : Addr → Prop} {o e : Expr} {es : List Expr} {m : Str} {ta : TE} {t : TA} {apos pos : Pos}
def tMethF (S : Addr → Prop) (m : Str) (sp : Sp) (E : XK) (ta : TE) (t : TA) : TE := fun σ H Q => ta σ H fun x H1 => ∃ a C dx fs, x = .ref a ∧ H1 a = some (.ins C dx fs) ∧ S C ∧ fs.lookup m = none ∧
  t σ H1 fun vs H2 => sp (x :: vs) H2 Q E
theorem pe_methF {pl : Sem Bool} (he : PE X o ta) (M : MethF X.K S m f) (F : FnOk X.prog X.w X.K X.mg X.base CX k f fd ps sp) (hr : Room k X.A) (hb : Binds X.K fd ps []) (hx : Passes CX X E) (ha : PA X (e :: es) t)
    (hst : starEach (e :: es) X.env = (false, eval e X.env) :: starEach es X.env := by rfl) (hpl : (backTo pos (starEach es X.env)).any (·.1) = false := by rfl)
    (ht : eval (.Call (.Attribute o m apos) (e :: es) [] pos) X.env = (do
      let ov ← eval o X.env
      standAt apos.atName
      let (f, first) ← holding [ov] (getMethod ov m pl)
      callWith pos f first (backTo pos (starEach (e :: es) X.env)) (backToKw pos (keywordEach [] X.env))) := by rfl) :
    PE X (.Call (.Attribute o m apos) (e :: es) [] pos) (tMethF S m sp E ta t) := by
  refine ⟨fun pins s σ H Q I h => ?_⟩
  refine PySem.W.methodCall_KW (pl := pl) (thn (he.run pins s σ H _ I h) fun u s1 ⟨x, H1, I1, rx, a, C, dx, fs, ex, ea, sC, l, q⟩ => ?_) ht
  subst ex
  obtain rfl : u = Value.ref a := rx
  obtain ⟨c, at_⟩ := M.at_ C sC
  have hm : Meth X.K C m f := ⟨at_, M.fn, M.kp⟩
  refine getmeth_ok I1 ea c hm l ?_
  refine PySem.W.callWith_K (first := [.ref a]) (h₀ := X.base) I.ok.mod.kin hm.kp (thn (ha.run pos pins s1 σ H1 _ I1 q) fun us s2 ⟨vs, H2, I2, r, q2⟩ => ⟨I2.kIn, ?_⟩) hst hpl
  exact run_fn (us := .ref a :: us) (vs := .ref a :: vs) F hr hb .nil hx I2 (.cons rfl r) (by simpa using q2)
theorem pe_methF0 {pl : Sem Bool} (he : PE X o ta) (M : MethF X.K S m f) (F : FnOk X.prog X.w X.K X.mg X.base CX k f fd ps sp) (hr : Room k X.A) (hb : Binds X.K fd ps []) (hx : Passes CX X E)
    (ht : eval (.Call (.Attribute o m apos) [] [] pos) X.env = (do
      let ov ← eval o X.env
      standAt apos.atName
      let (f, first) ← holding [ov] (getMethod ov m pl)
      callWith pos f first (backTo pos (starEach [] X.env)) (backToKw pos (keywordEach [] X.env))) := by rfl) :
    PE X (.Call (.Attribute o m apos) [] [] pos) (tMethF S m sp E ta tNil) := by
  refine ⟨fun pins s σ H Q I h => ?_⟩
  refine PySem.W.methodCall_KW (pl := pl) (thn (he.run pins s σ H _ I h) fun u s1 ⟨x, H1, I1, rx, a, C, dx, fs, ex, ea, sC, l, q⟩ => ?_) ht
  subst ex
  obtain rfl : u = Value.ref a := rx
  obtain ⟨c, at_⟩ := M.at_ C sC
  have hm : Meth X.K C m f := ⟨at_, M.fn, M.kp⟩
  refine getmeth_ok I1 ea c hm l ?_
  exact PySem.W.callWith_K0 (first := [.ref a]) I1.kIn hm.kp (run_fn (us := [.ref a]) (vs := [.ref a]) F hr hb .nil hx I1 (.cons rfl .nil) q)
end
/-! ### max(xs, default=d) -/
def mxD : List Int → Int → Int
  | [], d => d
  | y :: ys, _ => PySem.W.maxOf y ys
section
variable {X : Cx}
def rMaxD (K : PySem.W.Frag) : List V → List V → Hp → VK → Prop := fun vs zs H Q => ∃ (a : Addr) (ns : List Int) (d : Int), vs = [V.ref a] ∧ zs = [V.int d] ∧ SqL K H a (ns.map V.int) ∧ Q (.int (mxD ns d)) H
theorem cr_maxD (hc : X.calm = true) (hu : X.A.units + 9 < cLine) : CallRK X (.builtin "max") [Str.ofString "default"] (rMaxD X.K) := by
  intro pins s σ H vs zs us ws Q I r rz h
  obtain ⟨a, ns, d, rfl, rfl, hs, q⟩ := h
  obtain rfl := Vals.ref1 r
  obtain ⟨w1, rfl, e1⟩ := vals1 rz
  obtain ⟨t, rfl⟩ := (show ∃ t, w1 = Value.int d t from e1)
  obtain ⟨its, rv, hL, hz⟩ := I.list hs
  have hH : PySem.W.HoldAll s.heap its.toArray.toList ns := PySem.W.HoldAll.of_ints (by simpa using rv.ints)
  refine PySem.W.max_list_datum_default (I.ok.hd hc) hL.isList hH ?_ (fun e h' tk hk => ?_) fun y ys i v h' tk e hi hv hk => ?_
  · have : PySem.W.Datum.depth Int = 0 := rfl
    omega
  · subst e
    exact ⟨.int d, H, I.kept hk, ⟨_, rfl⟩, q⟩
  · subst e
    obtain ⟨t', rfl⟩ := PySem.W.int_of_holds hv
    exact ⟨.int _, H, I.kept hk, ⟨_, rfl⟩, q⟩
end
end L2

set_option Elab.async false
set_option linter.all false
set_option maxRecDepth 100000
set_option maxHeartbeats 4000000
namespace Ash
open PySem PySem.Spec PyProof.Rows L2
/-! ### moment terms -/
inductive Tm where
  | now
  | last (s : Str) (t : Tm)
  | next (s : Str) (t : Tm)
  | shift (n : Int) (t : Tm)
  | either (a b : Tm)
  | later (a b : Tm)
  | earlier (a b : Tm)
  deriving DecidableEq
namespace Tm
def mx (a b : Int) : Int := if a < b then b else a
def dep : Tm → Int
  | .now => 1
  | .last _ t => 1 + dep t
  | .next _ t => 1 + dep t
  | .shift _ t => 1 + dep t
  | .either a b => 1 + mx (dep a) (dep b)
  | .later a b => 1 + mx (dep a) (dep b)
  | .earlier a b => 1 + mx (dep a) (dep b)
def par : Tm → Int
  | .now => 1
  | .last _ t => 1 + par t
  | .next _ t => 1 + par t
  | .shift _ t => 1 + par t
  | .either a b => 1 + (par a + par b)
  | .later a b => 1 + (par a + par b)
  | .earlier a b => 1 + (par a + par b)
def lok : Tm → Int
  | .now => 0
  | .last _ t => 1 + lok t
  | .next _ t => 1 + lok t
  | .shift _ t => 0 + lok t
  | .either a b => 0 + (lok a + lok b)
  | .later a b => 0 + (lok a + lok b)
  | .earlier a b => 0 + (lok a + lok b)
def cho : Tm → Int
  | .now => 0
  | .last _ t => 1 + cho t
  | .next _ t => 1 + cho t
  | .shift _ t => 0 + cho t
  | .either a b => 0 + (cho a + cho b)
  | .later a b => 1 + (cho a + cho b)
  | .earlier a b => 1 + (cho a + cho b)
def spell : Tm → List V
  | .now => [.str "now"]
  | .last s t => .str "last" :: .str s :: spell t
  | .next s t => .str "next" :: .str s :: spell t
  | .shift n t => .str "shift" :: .int n :: spell t
  | .either a b => .str "either" :: (spell a ++ spell b)
  | .later a b => .str "later" :: (spell a ++ spell b)
  | .earlier a b => .str "earlier" :: (spell a ++ spell b)
/-- not too large -/
def Fit (t : Tm) : Prop := t.dep ≤ 12 ∧ t.par ≤ 40 ∧ t.lok ≤ 12
theorem mx_l (a b : Int) : a ≤ mx a b := by unfold mx; split <;> omega
theorem mx_r (a b : Int) : b ≤ mx a b := by unfold mx; split <;> omega
theorem par_pos : ∀ t : Tm, 1 ≤ t.par
  | .now => by simp [par]
  | .last _ t => by have := par_pos t; simp [par]; omega
  | .next _ t => by have := par_pos t; simp [par]; omega
  | .shift _ t => by have := par_pos t; simp [par]; omega
  | .either a b => by have := par_pos a; have := par_pos b; simp [par]; omega
  | .later a b => by have := par_pos a; have := par_pos b; simp [par]; omega
  | .earlier a b => by have := par_pos a; have := par_pos b; simp [par]; omega
theorem lok_nn : ∀ t : Tm, 0 ≤ t.lok
  | .now => by simp [lok]
  | .last _ t => by have := lok_nn t; simp [lok]; omega
  | .next _ t => by have := lok_nn t; simp [lok]; omega
  | .shift _ t => by have := lok_nn t; simp [lok]; omega
  | .either a b => by have := lok_nn a; have := lok_nn b; simp [lok]; omega
  | .later a b => by have := lok_nn a; have := lok_nn b; simp [lok]; omega
  | .earlier a b => by have := lok_nn a; have := lok_nn b; simp [lok]; omega
theorem dep_pos : ∀ t : Tm, 1 ≤ t.dep
  | .now => by simp [dep]
  | .last _ t => by have := dep_pos t; simp [dep]; omega
  | .next _ t => by have := dep_pos t; simp [dep]; omega
  | .shift _ t => by have := dep_pos t; simp [dep]; omega
  | .either a b => by have := dep_pos a; have := mx_l a.dep b.dep; simp [dep]; omega
  | .later a b => by have := dep_pos a; have := mx_l a.dep b.dep; simp [dep]; omega
  | .earlier a b => by have := dep_pos a; have := mx_l a.dep b.dep; simp [dep]; omega
/-- a spelling is no longer than three times its parts -/
theorem spell_len : ∀ t : Tm, ((spell t).length : Int) ≤ 3 * t.par
  | .now => by simp [spell, par]
  | .last _ t => by have := spell_len t; simp [spell, par]; omega
  | .next _ t => by have := spell_len t; simp [spell, par]; omega
  | .shift _ t => by have := spell_len t; simp [spell, par]; omega
  | .either a b => by have := spell_len a; have := spell_len b; simp [spell, par]; omega
  | .later a b => by have := spell_len a; have := spell_len b; simp [spell, par]; omega
  | .earlier a b => by have := spell_len a; have := spell_len b; simp [spell, par]; omega
/-- all streams are names -/
def Nm : Tm → Prop
  | .now => True
  | .last s t => (1 ≤ s.length ∧ s.length ≤ 8) ∧ Nm t
  | .next s t => (1 ≤ s.length ∧ s.length ≤ 8) ∧ Nm t
  | .shift _ t => Nm t
  | .either a b => Nm a ∧ Nm b
  | .later a b => Nm a ∧ Nm b
  | .earlier a b => Nm a ∧ Nm b
end Tm
/-- the classes of terms -/
structure TC where
  now : Addr
  last : Addr
  next : Addr
  shift : Addr
  either : Addr
  later : Addr
  earlier : Addr
def TC.of (C : TC) : Tm → Addr
  | .now => C.now
  | .last _ _ => C.last
  | .next _ _ => C.next
  | .shift _ _ => C.shift
  | .either _ _ => C.either
  | .later _ _ => C.later
  | .earlier _ _ => C.earlier
/-- one of the classes -/
def TC.Is (C : TC) (a : Addr) : Prop := a = C.now ∨ a = C.last ∨ a = C.next ∨ a = C.shift ∨ a = C.either ∨ a = C.later ∨ a = C.earlier
theorem TC.is_of (C : TC) (t : Tm) : C.Is (C.of t) := by
  cases t
  · exact .inl rfl
  · exact .inr (.inl rfl)
  · exact .inr (.inr (.inl rfl))
  · exact .inr (.inr (.inr (.inl rfl)))
  · exact .inr (.inr (.inr (.inr (.inl rfl))))
  · exact .inr (.inr (.inr (.inr (.inr (.inl rfl)))))
  · exact .inr (.inr (.inr (.inr (.inr (.inr rfl)))))
/-- what stands in each term -/
def fCom (sp : Addr) (t : Tm) : List (Str × V) := [("spelling", .ref sp), ("depth", .int t.dep), ("parts", .int t.par), ("looks", .int t.lok), ("choices", .int t.cho)]
/-- the term t at a -/
def TmAt (C : TC) (H : Hp) : Addr → Tm → Prop
  | a, .now => ∃ dx sp, H a = some (.ins C.now dx (fCom sp .now)) ∧ H sp = some (.tup (Tm.spell .now))
  | a, .last s t => ∃ dx b sp, H a = some (.ins C.last dx (("stream", .str s) :: ("term", .ref b) :: fCom sp (.last s t))) ∧ H sp = some (.tup (Tm.spell (.last s t))) ∧ TmAt C H b t
  | a, .next s t => ∃ dx b sp, H a = some (.ins C.next dx (("stream", .str s) :: ("term", .ref b) :: fCom sp (.next s t))) ∧ H sp = some (.tup (Tm.spell (.next s t))) ∧ TmAt C H b t
  | a, .shift n t => ∃ dx b sp, H a = some (.ins C.shift dx (("term", .ref b) :: ("amount", .int n) :: fCom sp (.shift n t))) ∧ H sp = some (.tup (Tm.spell (.shift n t))) ∧ TmAt C H b t
  | a, .either s t => ∃ dx b c sp, H a = some (.ins C.either dx (("first", .ref b) :: ("second", .ref c) :: fCom sp (.either s t))) ∧ H sp = some (.tup (Tm.spell (.either s t))) ∧ TmAt C H b s ∧ TmAt C H c t
  | a, .later s t => ∃ dx b c sp, H a = some (.ins C.later dx (("first", .ref b) :: ("second", .ref c) :: fCom sp (.later s t))) ∧ H sp = some (.tup (Tm.spell (.later s t))) ∧ TmAt C H b s ∧ TmAt C H c t
  | a, .earlier s t => ∃ dx b c sp, H a = some (.ins C.earlier dx (("first", .ref b) :: ("second", .ref c) :: fCom sp (.earlier s t))) ∧ H sp = some (.tup (Tm.spell (.earlier s t))) ∧ TmAt C H b s ∧ TmAt C H c t
/-- all but lists stands -/
def NL (H H' : Hp) : Prop := ∀ c o, H c = some o → (∀ xs, o ≠ .lst xs) → H' c = some o
theorem NL.trans {H H1 H2 : Hp} (a : NL H H1) (b : NL H1 H2) : NL H H2 := fun c o h n => b c o (a c o h n) n
theorem nl_same {H H' : Hp} (s : Same H H') : NL H H' := fun c o h _ => s c o h
theorem TmAt.nl {C : TC} {H H' : Hp} (n : NL H H') : ∀ {t : Tm} {a : Addr}, TmAt C H a t → TmAt C H' a t
  | .now, a, ⟨dx, sp, h1, h2⟩ => ⟨dx, sp, n _ _ h1 (fun _ z => nomatch z), n _ _ h2 (fun _ z => nomatch z)⟩
  | .last s t, a, ⟨dx, b, sp, h1, h2, h3⟩ => ⟨dx, b, sp, n _ _ h1 (fun _ z => nomatch z), n _ _ h2 (fun _ z => nomatch z), TmAt.nl n h3⟩
  | .next s t, a, ⟨dx, b, sp, h1, h2, h3⟩ => ⟨dx, b, sp, n _ _ h1 (fun _ z => nomatch z), n _ _ h2 (fun _ z => nomatch z), TmAt.nl n h3⟩
  | .shift s t, a, ⟨dx, b, sp, h1, h2, h3⟩ => ⟨dx, b, sp, n _ _ h1 (fun _ z => nomatch z), n _ _ h2 (fun _ z => nomatch z), TmAt.nl n h3⟩
  | .either s t, a, ⟨dx, b, c, sp, h1, h2, h3, h4⟩ => ⟨dx, b, c, sp, n _ _ h1 (fun _ z => nomatch z), n _ _ h2 (fun _ z => nomatch z), TmAt.nl n h3, TmAt.nl n h4⟩
  | .later s t, a, ⟨dx, b, c, sp, h1, h2, h3, h4⟩ => ⟨dx, b, c, sp, n _ _ h1 (fun _ z => nomatch z), n _ _ h2 (fun _ z => nomatch z), TmAt.nl n h3, TmAt.nl n h4⟩
  | .earlier s t, a, ⟨dx, b, c, sp, h1, h2, h3, h4⟩ => ⟨dx, b, c, sp, n _ _ h1 (fun _ z => nomatch z), n _ _ h2 (fun _ z => nomatch z), TmAt.nl n h3, TmAt.nl n h4⟩
theorem TmAt.same {C : TC} {H H' : Hp} {t : Tm} {a : Addr} (h : TmAt C H a t) (s : Same H H') : TmAt C H' a t := h.nl (nl_same s)
/-- what all terms have -/
theorem TmAt.ins {C : TC} {H : Hp} : ∀ {t : Tm} {a : Addr}, TmAt C H a t → ∃ dx fs sp, H a = some (.ins (C.of t) dx fs) ∧ H sp = some (.tup t.spell) ∧ ∃ x y : Str × V, (fs = fCom sp t ∨ fs = x :: y :: fCom sp t ∧ x.1 ∈ [("stream" : Str), "term", "first"] ∧ y.1 ∈ [("term" : Str), "amount", "second"])
  | .now, a, ⟨dx, sp, h1, h2⟩ => ⟨dx, _, sp, h1, h2, ("", .non), ("", .non), .inl rfl⟩
  | .last s t, a, ⟨dx, b, sp, h1, h2, h3⟩ => ⟨dx, _, sp, h1, h2, _, _, .inr ⟨rfl, by simp, by simp⟩⟩
  | .next s t, a, ⟨dx, b, sp, h1, h2, h3⟩ => ⟨dx, _, sp, h1, h2, _, _, .inr ⟨rfl, by simp, by simp⟩⟩
  | .shift s t, a, ⟨dx, b, sp, h1, h2, h3⟩ => ⟨dx, _, sp, h1, h2, _, _, .inr ⟨rfl, by simp, by simp⟩⟩
  | .either s t, a, ⟨dx, b, c, sp, h1, h2, h3, h4⟩ => ⟨dx, _, sp, h1, h2, _, _, .inr ⟨rfl, by simp, by simp⟩⟩
  | .later s t, a, ⟨dx, b, c, sp, h1, h2, h3, h4⟩ => ⟨dx, _, sp, h1, h2, _, _, .inr ⟨rfl, by simp, by simp⟩⟩
  | .earlier s t, a, ⟨dx, b, c, sp, h1, h2, h3, h4⟩ => ⟨dx, _, sp, h1, h2, _, _, .inr ⟨rfl, by simp, by simp⟩⟩
theorem skip2 {x y : Str × V} {l : List (Str × V)} {f : Str} (hx : x.1 ∈ [("stream" : Str), "term", "first"]) (hy : y.1 ∈ [("term" : Str), "amount", "second"]) (hf : f ∉ [("stream" : Str), "term", "first", "amount", "second"]) : List.lookup f (x :: y :: l) = List.lookup f l := by
  obtain ⟨x1, x2⟩ := x
  obtain ⟨y1, y2⟩ := y
  have e1 : (f == x1) = false := by
    refine beq_eq_false_iff_ne.mpr fun z => hf ?_
    subst z
    simp only [List.mem_cons, List.not_mem_nil, or_false] at hx ⊢
    rcases hx with h | h | h <;> simp [h]
  have e2 : (f == y1) = false := by
    refine beq_eq_false_iff_ne.mpr fun z => hf ?_
    subst z
    simp only [List.mem_cons, List.not_mem_nil, or_false] at hy ⊢
    rcases hy with h | h | h <;> simp [h]
  simp only [List.lookup, e1, e2]
/-- the attributes that all terms have -/
structure TmIn (C : TC) (H : Hp) (a : Addr) (t : Tm) (dx : Addr) (fs : List (Str × V)) (sp : Addr) : Prop where
  at_ : H a = some (.ins (C.of t) dx fs)
  spl : H sp = some (.tup t.spell)
  spelling : fs.lookup ("spelling" : Str) = some (.ref sp)
  depth : fs.lookup ("depth" : Str) = some (.int t.dep)
  parts : fs.lookup ("parts" : Str) = some (.int t.par)
  looks : fs.lookup ("looks" : Str) = some (.int t.lok)
  choices : fs.lookup ("choices" : Str) = some (.int t.cho)
  no : ∀ f : Str, f ∉ [("stream" : Str), "term", "first", "amount", "second"] → f ∉ [("spelling" : Str), "depth", "parts", "looks", "choices"] → fs.lookup f = none
theorem fCom_no {sp : Addr} {t : Tm} {f : Str} (h : f ∉ [("spelling" : Str), "depth", "parts", "looks", "choices"]) : (fCom sp t).lookup f = none := by
  simp only [List.mem_cons, List.not_mem_nil, or_false, not_or] at h
  obtain ⟨h1, h2, h3, h4, h5⟩ := h
  simp [fCom, List.lookup, beq_eq_false_iff_ne.mpr h1, beq_eq_false_iff_ne.mpr h2, beq_eq_false_iff_ne.mpr h3, beq_eq_false_iff_ne.mpr h4, beq_eq_false_iff_ne.mpr h5]
theorem TmAt.in_ {C : TC} {H : Hp} {t : Tm} {a : Addr} (h : TmAt C H a t) : ∃ dx fs sp, TmIn C H a t dx fs sp := by
  obtain ⟨dx, fs, sp, h1, h2, x, y, e⟩ := h.ins
  refine ⟨dx, fs, sp, h1, h2, ?_, ?_, ?_, ?_, ?_, fun f n1 n2 => ?_⟩
  · rcases e with rfl | ⟨rfl, ex, ey⟩
    · rfl
    · rw [skip2 ex ey (by decide +kernel)]; rfl
  · rcases e with rfl | ⟨rfl, ex, ey⟩
    · rfl
    · rw [skip2 ex ey (by decide +kernel)]; rfl
  · rcases e with rfl | ⟨rfl, ex, ey⟩
    · rfl
    · rw [skip2 ex ey (by decide +kernel)]; rfl
  · rcases e with rfl | ⟨rfl, ex, ey⟩
    · rfl
    · rw [skip2 ex ey (by decide +kernel)]; rfl
  · rcases e with rfl | ⟨rfl, ex, ey⟩
    · rfl
    · rw [skip2 ex ey (by decide +kernel)]; rfl
  · rcases e with rfl | ⟨rfl, ex, ey⟩
    · exact fCom_no n2
    · rw [skip2 ex ey n1]; exact fCom_no n2
end Ash

set_option Elab.async false
set_option linter.all false
set_option maxRecDepth 100000
set_option maxHeartbeats 4000000
namespace L2
open PySem PySem.Spec PyProof.Rows
def rGtT (K : PySem.W.Frag) : R2 := fun x y H Q => ∃ (a b : Addr) (i j k l : Int), x = .ref a ∧ y = .ref b ∧ SqT K H a [.int i, .int j] ∧ SqT K H b [.int k, .int l] ∧
  Q (.bl (if i = k then (if j = l then false else decide (l < j)) else decide (k < i))) H
/-- (i, j) > (k, l) -/
theorem op_gtT {X : Cx} (hu : X.A.units < cLine) : OpR X (compareOp .Gt) (rGtT X.K) := by
  intro pins s σ H x y v u Q I rx ry h
  obtain ⟨a, b, i0, j0, k0, l0, rfl, rfl, ha, hb, q⟩ := h
  cases rx
  cases ry
  obtain ⟨its, r1, p1, _⟩ := I.tuple ha
  obtain ⟨its2, r2, p2, _⟩ := I.tuple hb
  obtain ⟨ns, hns⟩ : ∃ ns : List Int, ns = [i0, j0] := ⟨_, rfl⟩
  obtain ⟨ms, hms⟩ : ∃ ms : List Int, ms = [k0, l0] := ⟨_, rfl⟩
  have i1 : IntsAre its ns := Vals.ints (by rw [hns]; exact r1)
  have i2 : IntsAre its2 ms := Vals.ints (by rw [hms]; exact r2)
  have e1 : its.toArray.size = ns.length := by rw [List.size_toArray]; exact i1.length
  have e2 : its2.toArray.size = ms.length := by rw [List.size_toArray]; exact i2.length
  have at1 : ∀ j (h1 : j < its.toArray.size), ∃ t, its.toArray[j] = .int (ns.getD j 0) t := fun j h1 => PyProof.Rows.IntsAre.int_at i1 _ _ (by simp at h1; simp [h1])
  have at2 : ∀ j (h1 : j < its2.toArray.size), ∃ t, its2.toArray[j] = .int (ms.getD j 0) t := fun j h1 => PyProof.Rows.IntsAre.int_at i2 _ _ (by simp at h1; simp [h1])
  have R := Ob.RcOp.tuples_gt (A := X.A) (s := s) (e := fun j => decide (ns.getD j 0 = ms.getD j 0)) (r := fun j => decide (ms.getD j 0 < ns.getD j 0)) p1 p2 hu (fun j h1 h2 => by
    obtain ⟨t, et⟩ := at1 j h1
    obtain ⟨t', et'⟩ := at2 j h2
    rw [et, et']
    have z : (ns.getD j 0 == ms.getD j 0) = decide (ns.getD j 0 = ms.getD j 0) := by
      by_cases q : ns.getD j 0 = ms.getD j 0
      · rw [decide_eq_true q]; exact beq_iff_eq.mpr q
      · rw [decide_eq_false q]; exact beq_eq_false_iff_ne.mpr q
    rw [← z]
    exact SeqAt.EqAt.int_int _ _ _ _) (fun j h1 h2 _ => by
    obtain ⟨t, et⟩ := at1 j h1
    obtain ⟨t', et'⟩ := at2 j h2
    rw [et, et']
    exact Ob.RcOp.gt_int _ _ _ _)
  rw [e1, e2, hns, hms] at R
  have z : wpAny (model X.prog X.w) X.A (compareOp .Gt (.ref a) (.ref b)) (EP X pins σ Q) X.xe s := by
    refine R X.prog X.w X.xe (EP X pins σ Q) ⟨.bl _, H, I, rfl, ?_⟩
    have ee : Ob.lexAt (fun j => decide (([i0, j0] : List Int).getD j 0 = ([k0, l0] : List Int).getD j 0)) (fun j => decide (([k0, l0] : List Int).getD j 0 < ([i0, j0] : List Int).getD j 0)) (decide (([i0, j0] : List Int).length > ([k0, l0] : List Int).length)) 0 (min ([i0, j0] : List Int).length ([k0, l0] : List Int).length) = (if i0 = k0 then (if j0 = l0 then false else decide (l0 < j0)) else decide (k0 < i0)) := by
      show Ob.lexAt _ _ _ 0 2 = _
      rw [Ob.lexAt_succ, Ob.lexAt_succ, Ob.lexAt_zero]
      show (if decide (i0 = k0) = true then (if decide (j0 = l0) = true then decide (2 > 2) else decide (l0 < j0)) else decide (k0 < i0)) = _
      by_cases c1 : i0 = k0 <;> by_cases c2 : j0 = l0 <;> simp [c1, c2]
    rw [← ee] at q
    exact q
  exact z
end L2
namespace Ash
open PySem PySem.Spec PyProof.Rows L2 SrtT
open C8 (pss_cut)
/-! ### rows by streams, as data -/
theorem none_of {H H' : Hp} {q : Addr} (s : Same H H') (h : H' q = none) : H q = none := by
  cases e : H q with
  | none => rfl
  | some o => rw [s _ _ e] at h; cases h
theorem list_take {α : Type} {l : List α} {i : Nat} {x : α} (h : l[i]? = some x) : l.take (i + 1) = l.take i ++ [x] := by
  rw [List.take_add_one, h]
  rfl
def tv (t : T3) : List V := [.int t.1, .int t.2.1, .int t.2.2]
/-- ys are tuples of the triples ts -/
def TrAt (H : Hp) (ys : List V) (ts : List T3) : Prop := ys.length = ts.length ∧ ∀ (i : Nat) v t, ys[i]? = some v → ts[i]? = some t → ∃ e, v = .ref e ∧ H e = some (.tup (tv t))
theorem TrAt.tk {H H' : Hp} {ys : List V} {ts : List T3} (h : TrAt H ys ts) (s : ∀ t xs, H t = some (.tup xs) → H' t = some (.tup xs)) : TrAt H' ys ts := ⟨h.1, fun i v t a b => by
  obtain ⟨e, h1, h2⟩ := h.2 i v t a b
  exact ⟨e, h1, s _ _ h2⟩⟩
theorem TrAt.snoc {H : Hp} {ys : List V} {ts : List T3} {e : Addr} {t : T3} (h : TrAt H ys ts) (he : H e = some (.tup (tv t))) : TrAt H (ys ++ [.ref e]) (ts ++ [t]) := by
  refine ⟨by rw [List.length_append, List.length_append, h.1]; rfl, fun i v u a b => ?_⟩
  by_cases hi : i < ys.length
  · rw [List.getElem?_append_left hi] at a
    rw [List.getElem?_append_left (by rw [← h.1]; exact hi)] at b
    exact h.2 i v u a b
  · have hi' : i = ys.length := by
      have := (List.getElem?_eq_some_iff.mp a).1
      rw [List.length_append] at this
      have : i < ys.length + 1 := this
      omega
    subst hi'
    rw [List.getElem?_append_right (Nat.le_refl _), Nat.sub_self] at a
    rw [h.1, List.getElem?_append_right (Nat.le_refl _), Nat.sub_self] at b
    cases a
    cases b
    exact ⟨e, rfl, he⟩
/-- the triple of a tuple -/
def triOf (H : Hp) : V → T3
  | .ref e => match H e with
    | some (.tup [.int a, .int b, .int c]) => (a, b, c)
    | _ => (0, 0, 0)
  | _ => (0, 0, 0)
theorem triOf_at {H : Hp} {e : Addr} {t : T3} (h : H e = some (.tup (tv t))) : triOf H (.ref e) = t := by
  show (match H e with
    | some (.tup [.int a, .int b, .int c]) => (a, b, c)
    | _ => (0, 0, 0)) = t
  rw [h]
  rfl
theorem TrAt.map {H : Hp} {ys : List V} {ts : List T3} (h : TrAt H ys ts) : ys.map (triOf H) = ts := by
  apply List.ext_getElem?
  intro i
  rw [List.getElem?_map]
  by_cases hi : i < ys.length
  · have hj : i < ts.length := by rw [← h.1]; exact hi
    obtain ⟨e, h1, h2⟩ := h.2 i _ _ (List.getElem?_eq_getElem hi) (List.getElem?_eq_getElem hj)
    rw [List.getElem?_eq_getElem hi, List.getElem?_eq_getElem hj, h1, Option.map_some, triOf_at h2]
  · rw [List.getElem?_eq_none (by omega), List.getElem?_eq_none (by rw [← h.1]; omega)]
    rfl
theorem TrAt.get {H : Hp} {ys : List V} {ts : List T3} (h : TrAt H ys ts) {i : Nat} {t : T3} (e : ts[i]? = some t) : ∃ a, ys[i]? = some (.ref a) ∧ H a = some (.tup (tv t)) := by
  have hi : i < ys.length := by rw [h.1]; exact (List.getElem?_eq_some_iff.mp e).1
  obtain ⟨a, h1, h2⟩ := h.2 i _ _ (List.getElem?_eq_getElem hi) e
  exact ⟨a, by rw [List.getElem?_eq_getElem hi, h1], h2⟩
abbrev Tr := Str → List T3
def idsOf (names : List Str) (T : Tr) : List Int := names.flatMap fun z => (T z).map (·.2.1)
def addT (T : Tr) (z : Str) (t : T3) : Tr := fun y => if y = z then T z ++ [t] else T y
theorem addT_at {T : Tr} {z : Str} {t : T3} : addT T z t z = T z ++ [t] := if_pos rfl
theorem addT_no {T : Tr} {z y : Str} {t : T3} (h : ¬ y = z) : addT T z t y = T y := if_neg h
theorem ids_skip {T : Tr} {z : Str} {t : T3} : ∀ {names : List Str}, z ∉ names → idsOf names (addT T z t) = idsOf names T
  | [], _ => rfl
  | a :: r, h => by
    have h1 : ¬ a = z := fun q => h (by rw [q]; exact List.mem_cons_self)
    show (addT T z t a).map (·.2.1) ++ idsOf r (addT T z t) = (T a).map (·.2.1) ++ idsOf r T
    rw [addT_no h1, ids_skip (fun q => h (List.mem_cons_of_mem _ q))]
theorem ids_add {T : Tr} {z : Str} {t : T3} : ∀ {names : List Str}, names.Nodup → z ∈ names → (idsOf names (addT T z t)).Perm (idsOf names T ++ [t.2.1])
  | [], _, h => nomatch h
  | a :: r, hn, h => by
    obtain ⟨h1, h2⟩ := List.nodup_cons.mp hn
    show ((addT T z t a).map (·.2.1) ++ idsOf r (addT T z t)).Perm ((T a).map (·.2.1) ++ idsOf r T ++ [t.2.1])
    by_cases e : a = z
    · subst e
      rw [ids_skip h1, addT_at, List.map_append, List.append_assoc, List.append_assoc]
      exact List.Perm.append_left _ (List.perm_append_comm)
    · rw [addT_no e, List.append_assoc]
      exact List.Perm.append_left _ (ids_add h2 ((List.mem_cons.mp h).resolve_left fun q => e q.symm))
theorem mem_ids {names : List Str} {T : Tr} {i : Int} : i ∈ idsOf names T ↔ ∃ z ∈ names, ∃ t ∈ T z, t.2.1 = i := by
  unfold idsOf
  simp only [List.mem_flatMap, List.mem_map]
theorem ids_sub {names : List Str} {T : Tr} {z : Str} : z ∈ names → ((T z).map (·.2.1)).Sublist (idsOf names T) := fun h => by
  unfold idsOf
  induction names with
  | nil => cases h
  | cons a r ih =>
    rw [List.flatMap_cons]
    rcases List.mem_cons.mp h with rfl | h
    · exact List.sublist_append_left _ _
    · exact (ih h).trans (List.sublist_append_right _ _)
/-- rows whose ids are told apart -/
structure GoodT (names : List Str) (T : Tr) (n : Nat) : Prop where
  len : (idsOf names T).length = n
  nd : (idsOf names T).Nodup
  lo : ∀ i ∈ idsOf names T, 0 ≤ i
theorem GoodT.few {names : List Str} {T : Tr} {n : Nat} {z : Str} (g : GoodT names T n) (h : z ∈ names) : (T z).length ≤ n := by
  have := (ids_sub (T := T) h).length_le
  rw [List.length_map, g.len] at this
  exact this
theorem GoodT.apart {names : List Str} {T : Tr} {n : Nat} {z : Str} (g : GoodT names T n) (h : z ∈ names) : ((T z).map (·.2.1)).Nodup := g.nd.sublist (ids_sub h)
/-- the rows of each stream, in the lists of a dict -/
structure RwAt (H : Hp) (d : Addr) (names : List Str) (A : Str → Addr) (T : Tr) : Prop where
  at_ : H d = some (.dK (names.map fun z => (Sum.inr z, V.ref (A z))))
  row : ∀ z ∈ names, ∃ ys, H (A z) = some (.lst ys) ∧ TrAt H ys (T z)
  inj : ∀ z ∈ names, ∀ y ∈ names, A z = A y → z = y
theorem RwAt.same {H H' : Hp} {d : Addr} {names : List Str} {A : Str → Addr} {T : Tr} (h : RwAt H d names A T) (s : Same H H') : RwAt H' d names A T :=
  ⟨s _ _ h.at_, fun z hz => by
    obtain ⟨ys, h1, h2⟩ := h.row z hz
    exact ⟨ys, s _ _ h1, h2.tk fun t xs q => s _ _ q⟩, h.inj⟩
theorem RwAt.pl {H H' : Hp} {p s d : Addr} {names : List Str} {A : Str → Addr} {T : Tr} (h : RwAt H d names A T) (P0 : PoolAt H p s) (n : ∀ z ∈ names, A z ≠ p) (P : Pl H H' p s) : RwAt H' d names A T := by
  obtain ⟨ns, i, c, k, m, hp, _⟩ := id P0
  exact ⟨P.keep h.at_ (ne_of h.at_ hp (by intro z; cases z)), fun z hz => by
    obtain ⟨ys, h1, h2⟩ := h.row z hz
    exact ⟨ys, P.keep h1 (n z hz), h2.tk fun t xs q => P.keep q (ne_of q hp (by intro z; cases z))⟩, h.inj⟩
theorem valV_nm {A : Str → V} {z : Str} : ∀ {names : List Str}, valV (names.map fun z => ((Sum.inr z : Key), A z)) (Sum.inr z : Key) = if z ∈ names then some (A z) else none
  | [] => rfl
  | a :: r => by
    rw [List.map_cons]
    by_cases e : a = z
    · subst e
      rw [valV_pos rfl, if_pos List.mem_cons_self]
    · rw [valV_neg (fun q => e (Sum.inr.inj q)), valV_nm]
      by_cases h : z ∈ r
      · rw [if_pos h, if_pos (List.mem_cons_of_mem _ h)]
      · rw [if_neg h, if_neg (fun q => (List.mem_cons.mp q).elim (fun q => e q.symm) h)]
/-- one more row -/
theorem RwAt.add {H1 : Hp} {d e : Addr} {names : List Str} {A : Str → Addr} {T : Tr} {z : Str} {t : T3} {ys : List V} (h : RwAt H1 d names A T) (hz : z ∈ names) (hy : H1 (A z) = some (.lst ys)) (hT : TrAt H1 ys (T z)) (he : H1 e = some (.tup (tv t))) :
    RwAt (upd H1 (A z) (.lst (ys ++ [.ref e]))) d names A (addT T z t) := by
  have tk : ∀ t xs, H1 t = some (.tup xs) → (upd H1 (A z) (.lst (ys ++ [.ref e]))) t = some (.tup xs) := fun t xs q => by rw [upd_ne (ne_of q hy (by intro z; cases z))]; exact q
  refine ⟨by rw [upd_ne (ne_of h.at_ hy (by intro z; cases z))]; exact h.at_, fun y hy2 => ?_, h.inj⟩
  by_cases c : y = z
  · subst c
    rw [addT_at]
    exact ⟨_, upd_same, (hT.tk tk).snoc (tk _ _ he)⟩
  · rw [addT_no c]
    obtain ⟨us, h1, h2⟩ := h.row y hy2
    exact ⟨us, by rw [upd_ne (fun q => c (h.inj y hy2 z hz q))]; exact h1, h2.tk tk⟩
def spMoment : Sp := fun vs H Q _ => ∃ (p s : Addr), vs = [.ref p] ∧ PoolAt H p s ∧ ∀ (m : Int) H', Pl H H' p s → Q (.int m) H'
def spLWRows : Sp := fun vs H Q _ => ∃ (p s l : Addr) (names : List Str) (many : Int), vs = [.ref p, .ref l, .int many] ∧ PoolAt H p s ∧ l ≠ p ∧ H l = some (.lst (names.map V.str)) ∧ 1 ≤ names.length ∧ names.length ≤ 25 ∧ names.Nodup ∧ 0 ≤ many ∧ many ≤ 100 ∧
  ∀ (d : Addr) (A : Str → Addr) (T : Tr) H', H d = none → (∀ z ∈ names, H (A z) = none) → RwAt H' d names A T → GoodT names T many.toNat → Pl H H' p s → Q (.ref d) H'
section
variable {P : Program} {w : World} {K : PySem.W.Frag} {mg : Str → Option Value} {base : Heap}
abbrev s_l_moment : Stmt := topS 43
theorem sc_l_moment : FnScope ["pool"] ["pool"] (defScope s_l_moment) := ⟨rfl, rfl, rfl, by decide +kernel, rfl, by decide +kernel, by decide +kernel⟩
theorem ok_moment {f : Addr} {fd : FuncData} (F : Fun K "_law_moment" "_law_moment" s_l_moment f fd) (B : Blt mg) (G : G1 P w K mg base) : FnOk P w K mg base CX0 2 f fd ["pool"] spMoment := by
  refine F.ok sc_l_moment (fun vs H Q E h => ?_) (fun cdv A outer s H vs Q E hr h => ?_)
  · obtain ⟨p, _, rfl, _⟩ := h
    rfl
  · obtain ⟨p, s0, rfl, hP, kk⟩ := h
    refine ⟨_, (pss_cons (ps_if (pt_cmpR op_eq (pe_cal G.law_draw (hr.mono (by decide)) pass0 (pa_cons (pv 0) (pa_cons pe_int pa_nil))) pe_int (nomark _))
      (pss_one (ps_ret (pe_op op_add (pe_op op_mul (pe_op op_sub (pe_cal G.law_draw (hr.mono (by decide)) pass0 (pa_cons (pv 0) (pa_cons pe_int pa_nil))) pe_int) (pe_op op_pow pe_int pe_int)) (pe_cal G.law_draw (hr.mono (by decide)) pass0 (pa_cons (pv 0) (pa_cons pe_int pa_nil))))))
      pss_nil)
    (pss_one (ps_ret (pe_op op_sub (pe_cal G.law_draw (hr.mono (by decide)) pass0 (pa_cons (pv 0) (pa_cons pe_int pa_nil))) pe_int)))), ?_⟩
    refine ⟨_, rfl, p, s0, 8, rfl, hP, (by decide), (by decide), fun x H1 x0 x8 P1 => ⟨rfl, _, rfl, ?_⟩⟩
    refine ite2 (fun c => ?_) (fun c => ?_)
    · refine ⟨_, rfl, p, s0, 2000001, rfl, P1.now, (by decide), (by decide), fun y H2 y0 y8 P2 => ?_⟩
      refine ⟨_, _, rfl, rfl, _, _, rfl, rfl, ⟨by decide, by decide, by decide⟩, _, _, rfl, rfl, .inl ⟨by omega, by omega⟩, _, rfl, p, s0, 5, rfl, P2.now, (by decide), (by decide), fun u H3 u0 u8 P3 => ⟨_, _, rfl, rfl, kk _ H3 ((P1.trans P2).trans P3)⟩⟩
    · refine ⟨_, rfl, p, s0, 15, rfl, P1.now, (by decide), (by decide), fun y H2 y0 y8 P2 => ⟨_, _, rfl, rfl, kk _ H2 (P1.trans P2)⟩⟩
end
end Ash

set_option Elab.async false
set_option linter.all false
set_option maxRecDepth 100000
set_option maxHeartbeats 4000000
namespace Ash
open PySem PySem.Spec PyProof.Rows L2
open C8 (pss_cut)
/-! ### kinds of values -/
def NotInt (K : PySem.W.Frag) (H : Hp) (v : V) : Prop := ∃ t bi bb, TyX K H v t ∧ PySem.W.kitOne K t (.type "int") = some bi ∧ PySem.W.kitOne K t (.type "bool") = some bb ∧ (bi && !bb) = false
def NotStr (K : PySem.W.Frag) (H : Hp) (v : V) : Prop := ∃ t, TyX K H v t ∧ PySem.W.kitOne K t (.type "str") = some false
def NotTup (K : PySem.W.Frag) (H : Hp) (v : V) : Prop := ∃ t, TyX K H v t ∧ PySem.W.kitOne K t (.type "tuple") = some false
def spIsInt (K : PySem.W.Frag) : Sp := fun vs H Q _ => ∃ v, vs = [v] ∧ ((∃ n, v = .int n ∧ Q (.bl true) H) ∨ (NotInt K H v ∧ Q (.bl false) H))
def spIsNat (K : PySem.W.Frag) : Sp := fun vs H Q _ => ∃ v, vs = [v] ∧ ((∃ n, v = .int n ∧ Q (.bl (decide (0 ≤ n))) H) ∨ (NotInt K H v ∧ Q (.bl false) H))
/-- the test of names -/
def nmB (z : Str) : Bool := decide (1 ≤ z.length ∧ z.length ≤ 8) && z.cps.toList.all fun c => decide (c ∈ LET)
theorem nmB_iff (z : Str) : nmB z = true ↔ IsNm z := by
  unfold nmB IsNm
  simp only [Bool.and_eq_true, decide_eq_true_eq, List.all_eq_true]
  exact ⟨fun ⟨⟨a, b⟩, c⟩ => ⟨a, b, c⟩, fun ⟨a, b, c⟩ => ⟨⟨a, b⟩, c⟩⟩
def spIsName (K : PySem.W.Frag) : Sp := fun vs H Q _ => ∃ v, vs = [v] ∧ ((∃ z, v = .str z ∧ z.length ≤ sizeLine ∧ ∀ H', Same H H' → Q (.bl (nmB z)) H') ∨ (NotStr K H v ∧ Q (.bl false) H))
def spAreInts (K : PySem.W.Frag) : Sp := fun vs H Q _ => ∃ (a : Addr) (ns : List Int), vs = [.ref a] ∧ SqT K H a (ns.map V.int) ∧ ns.length ≤ 100 ∧ ∀ H', Same H H' → Q (.bl true) H'
def spIsRow (K : PySem.W.Frag) : Sp := fun vs H Q _ => ∃ (a : Addr) (us : List V), vs = [.ref a] ∧ (H a = some (.lst us) ∨ SqT K H a us) ∧ ∀ H', Same H H' → Q (.bl true) H'
theorem list_lit (l : List Nat) : ∀ i x, l[i]? = some x → l.take (i + 1) = l.take i ++ [x] := fun i x h => by
  rw [List.take_add_one, h]
  rfl
structure Cst (mg : Str → Option Value) : Prop where
  k_LETTERS : ∃ t, mg "LETTERS" = some (.str abc t)
  k_LONGEST_NAME : ∃ t, mg "LONGEST_NAME" = some (.int 8 t)
  k_MOST_DEPTH : ∃ t, mg "MOST_DEPTH" = some (.int 12 t)
  k_MOST_PARTS : ∃ t, mg "MOST_PARTS" = some (.int 40 t)
  k_MOST_LOOKS : ∃ t, mg "MOST_LOOKS" = some (.int 12 t)
section
variable {P : Program} {w : World} {K : PySem.W.Frag} {mg : Str → Option Value} {base : Heap}
structure K1 (P : Program) (w : World) (K : PySem.W.Frag) (mg : Str → Option Value) (base : Heap) : Prop where
  is_integer : Cal P w K mg base CX0 "is_integer" 1 ["thing"] (spIsInt K)
abbrev s_is_integer : Stmt := topS 9
theorem sc_is_integer : FnScope ["thing"] ["thing"] (defScope s_is_integer) := ⟨rfl, rfl, rfl, by decide +kernel, rfl, by decide +kernel, by decide +kernel⟩
theorem ok_is_integer {f : Addr} {fd : FuncData} (F : Fun K "is_integer" "is_integer" s_is_integer f fd) (B : Blt mg) : FnOk P w K mg base CX0 1 f fd ["thing"] (spIsInt K) := by
  refine F.ok sc_is_integer (fun vs H Q E h => ?_) (fun cdv A outer s H vs Q E hr h => ?_)
  · obtain ⟨v, rfl, _⟩ := h
    rfl
  · obtain ⟨v, rfl, hv⟩ := h
    refine ⟨_, (pss_one (ps_ret (pe_and (pe_callB call_isi (by rfl) B.isinstance (by decide +kernel) (pa_cons (pv 0) (pa_cons (pe_bltn (v := .ty "int") (by rfl) B.int (by decide +kernel) rfl) pa_nil))) (pe_one (pe_not (pe_callB call_isi (by rfl) B.isinstance (by decide +kernel) (pa_cons (pv 0) (pa_cons (pe_bltn (v := .ty "bool") (by rfl) B.bool (by decide +kernel) rfl) pa_nil)))))))), ?_⟩
    rcases hv with ⟨n, rfl, q⟩ | ⟨⟨t, bi, bb, ty, e1, e2, e3⟩, q⟩
    · refine ⟨_, rfl, _, _, _, _, true, rfl, ClsV.ty _, .base (.int n), kit_ty (by decide +kernel), _, rfl, iteT ?_⟩
      refine ⟨_, rfl, _, _, _, _, false, rfl, ClsV.ty _, .base (.int n), kit_ty (by decide +kernel), _, rfl, q⟩
    · refine ⟨_, rfl, _, _, _, _, bi, rfl, ClsV.ty _, ty, e1, _, rfl, ?_⟩
      cases bi with
      | false => exact iteF q
      | true =>
        refine iteT ⟨_, rfl, _, _, _, _, bb, rfl, ClsV.ty _, ty, e2, _, rfl, ?_⟩
        have e3 : (!bb) = false := e3
        rw [e3]
        exact q
abbrev s_is_name : Stmt := topS 10
theorem sc_is_name : FnScope ["thing", "letter"] ["thing"] (defScope s_is_name) := ⟨rfl, rfl, rfl, by decide +kernel, rfl, by decide +kernel, by decide +kernel⟩
theorem ok_is_name {f : Addr} {fd : FuncData} (F : Fun K "is_name" "is_name" s_is_name f fd) (B : Blt mg) (Cs : Cst mg) : FnOk P w K mg base CX0 1 f fd ["thing"] (spIsName K) := by
  obtain ⟨t1, g_LETTERS⟩ := Cs.k_LETTERS
  obtain ⟨t2, g_LONGEST_NAME⟩ := Cs.k_LONGEST_NAME
  refine F.ok sc_is_name (fun vs H Q E h => ?_) (fun cdv A outer s H vs Q E hr h => ?_)
  · obtain ⟨v, rfl, _⟩ := h
    rfl
  · obtain ⟨v, rfl, hv⟩ := h
    refine ⟨_, (pss_cons (ps_if (PW.pt (pw_or (pt_not (pt_val (pe_callB call_isi (by rfl) B.isinstance (by decide +kernel) (pa_cons (pv 0) (pa_cons (pe_bltn (v := .ty "str") (by rfl) B.str (by decide +kernel) rfl) pa_nil))))) (pw_or1 (pt_not (pt_chain op_le op_le pe_int (pe_callB call_len_str (by rfl) B.len (by decide +kernel) (pa_cons (pv 0) pa_nil)) (pe_glob (v := .int 8) (by rfl) g_LONGEST_NAME ⟨_, rfl⟩))))))
      (pss_one (ps_ret pe_bl))
      pss_nil)
    (pss_one (ps_ret (pe_callB (cr_all rfl) (by rfl) B.all (by decide +kernel) (pa_cons (pe_lc (own := [("letter", 1)]) (g := gName 1) (tt := tYes) (by rfl) sc_is_name.nd (pi_str (pv 0)) (blkOk_by (own := [("letter", 1)]) (N := ["thing", "letter"]) (sc := defScope s_is_name) (by decide +kernel)) (fun _ _ _ _ _ => (pg_name (i := 1) sc_is_name.nd rfl (Or.inl rfl))) (fun _ _ _ _ _ => pts_nil) (fun _ _ _ _ _ => (pe_cmpR op_in_sign (pv 1) (pe_glob (v := .str "abcdefghijklmnopqrstuvwxyz") (by rfl) g_LETTERS ⟨_, rfl⟩) rfl))) pa_nil))))), ?_⟩
    rcases hv with ⟨z, rfl, hz, q⟩ | ⟨⟨t, ty, e1⟩, q⟩
    · refine ⟨_, rfl, _, _, _, _, true, rfl, ClsV.ty _, .base (.str z), kit_ty (by decide +kernel), _, rfl, iteF ?_⟩
      refine ⟨_, rfl, _, rfl, hz, _, _, rfl, rfl, _, rfl, ?_⟩
      refine ite2 (fun c1 => ?_) (fun c1 => ?_)
      · have c1 : (1 : Int) ≤ z.length := of_decide_eq_true c1
        refine ⟨_, _, rfl, rfl, _, rfl, ?_⟩
        by_cases c8 : (z.length : Int) ≤ 8
        · refine iteNS c8 ?_
          refine ⟨_, rfl, z, rfl, fun D hD => lc_it (walk_str (z := z)) (fun i H1 => H1 D = some (.lst (((z.cps.toList.take i).map fun c => decide (c ∈ LET)).map V.bl)) ∧ Same H H1) ⟨upd_same, sameAt (Same.refl H) hD⟩ (fun _ _ _ _ => trivial) ?_ ?_⟩
          · rintro i x H1 H2 hi ⟨hD1, hs⟩ ⟨rfl, c, hc, rfl⟩
            have hc' : z.cps.toList[i]? = some c := by rw [Array.getElem?_toList]; exact hc
            have hlen : (z.cps.toList.take i).length ≤ 8 := by
              have : i < z.length := hi
              rw [List.length_take]
              omega
            refine ⟨rfl, _, rfl, c, abc, rfl, rfl, _, hD1, (by rw [List.length_map, List.length_map]; exact small1000 (by omega)), ?_, sameAt hs hD⟩
            rw [upd_same, list_lit _ _ _ hc', abc_let, List.map_append, List.map_append]
            rfl
          · rintro H1 ⟨hD1, hs⟩
            have e : z.cps.toList.take z.cps.size = z.cps.toList := by rw [← Array.length_toList, List.take_length]
            rw [e] at hD1
            refine ⟨D, _, rfl, SqL.of hD1, ?_⟩
            have e2 : ((z.cps.toList.map fun c => decide (c ∈ LET)).all id) = nmB z := by
              unfold nmB
              rw [decide_eq_true (show 1 ≤ z.length ∧ z.length ≤ 8 by omega), Bool.true_and, List.all_map]
              rfl
            rw [e2]
            exact q _ hs
        · rw [decide_eq_false c8]
          refine iteT ?_
          have e2 : nmB z = false := by
            unfold nmB
            rw [decide_eq_false (show ¬ (1 ≤ z.length ∧ z.length ≤ 8) by omega), Bool.false_and]
          have := q H (Same.refl H)
          rw [e2] at this
          exact this
      · have c1 : ¬ (1 : Int) ≤ z.length := by simpa using c1
        refine ⟨_, rfl, iteT ?_⟩
        have e2 : nmB z = false := by
          unfold nmB
          rw [decide_eq_false (show ¬ (1 ≤ z.length ∧ z.length ≤ 8) by omega), Bool.false_and]
        have := q H (Same.refl H)
        rw [e2] at this
        exact this
    · refine ⟨_, rfl, _, _, _, _, false, rfl, ClsV.ty _, ty, e1, _, rfl, iteT q⟩
structure K2 (P : Program) (w : World) (K : PySem.W.Frag) (mg : Str → Option Value) (base : Heap) : Prop extends K1 P w K mg base where
  is_name : Cal P w K mg base CX0 "is_name" 1 ["thing"] (spIsName K)
end
end Ash

set_option Elab.async false
set_option linter.all false
set_option maxRecDepth 100000
set_option maxHeartbeats 4000000
namespace L2
open PySem PySem.Spec PyProof.Rows
/-- a walk, whatever is done in a turn -/
theorem w_it {J : It} {n : Nat} {G : Hp → Prop} {Y : Nat → Hp → V → Hp → Prop} (w : Walk J n G Y) {Nx : Hp → Prop} {Bd : V → Hp → (Hp → Prop) → Prop} {H1 : Hp} (Pv : Nat → Hp → Prop) (h0 : Pv 0 H1) (hG : ∀ i H, i ≤ n → Pv i H → G H)
    (hs : ∀ i x H H', i < n → Pv i H → Y i H x H' → Bd x H' (Pv (i + 1))) (hd : ∀ H, Pv n H → Nx H) :
    ∃ W : Nat → Nat → Hp → Prop, (∃ m, W 0 m H1) ∧ ∀ i m H, W i m H →
      (J.stop i H ∧ Nx H) ∨ (J.go i H ∧ ∃ N : Hp → Prop, (∀ H', N H' → ∃ m', m' < m ∧ W (i + 1) m' H') ∧ ∀ x H', J.yld i H x H' → Bd x H' N) := by
  refine ⟨fun i m H => m = n - i ∧ i ≤ n ∧ Pv i H, ⟨n, by simp, Nat.zero_le _, h0⟩, ?_⟩
  rintro i m H ⟨rfl, hi, p⟩
  have q := hG i H hi p
  by_cases hlt : i < n
  · refine .inr ⟨w.goes i H hlt q, Pv (i + 1), fun H' p' => ⟨n - (i + 1), by omega, rfl, hlt, p'⟩, fun x H' y => hs i x H H' hlt p (w.yields i H x H' hlt q y)⟩
  · have e : i = n := by omega
    subst e
    exact .inl ⟨w.stops H q, hd H p⟩
def tTru (K : PySem.W.Frag) (ta : TE) : TT := fun σ H Q => ta σ H fun x H' => ∃ k, TruV K x H' k ∧ Q k H'
def rTupS (K : PySem.W.Frag) : List V → Hp → VK → Prop := fun xs H Q => ∃ p ys, xs = [.ref p] ∧ ((SqL K H p ys ∧ ∀ l, H l = none → Q (.ref l) (upd H l (.tup ys))) ∨ (SqT K H p ys ∧ Q (.ref p) H))
end L2
namespace Ash
open PySem PySem.Spec PyProof.Rows L2
structure W2 (P : Program) (w : World) (K : PySem.W.Frag) (mg : Str → Option Value) (base : Heap) : Prop extends K2 P w K mg base
end Ash

set_option Elab.async false
set_option linter.all false
set_option maxRecDepth 100000
set_option maxHeartbeats 4000000
namespace Ash
open PySem PySem.Spec PyProof.Rows L2
open C8 (pss_cut)
/-! ### terms: classes, sizes -/
abbrev ATTRS : List Str := ["stream", "term", "first", "second", "amount", "spelling", "depth", "parts", "looks", "choices"]
/-- the facts of the classes of terms -/
structure TF (K : PySem.W.Frag) (mg : Str → Option Value) (C : TC) : Prop where
  cl : ∀ a, C.Is a → Cls K a
  no : ∀ a, C.Is a → ∀ f ∈ ATTRS, NoAttr K a f
  ty : ∀ a, C.Is a → PySem.W.findIn K (.ref a) "__class__" = some (some (.builtin "object.__class__")) ∧ PySem.W.specialIn K (.builtin "object.__class__") "__get__" = some (some (.builtin "getset_descriptor.__get__")) ∧ PySem.W.takesIn K (.builtin "object.__class__") = some true ∧ PySem.W.mroIn K a (.type "object") = some true
  one : ∀ a b, C.Is a → C.Is b → PySem.W.kitOne K (.ref a) (.ref b) = some (decide (a = b))
  Now : mg "Now" = some (.ref C.now)
  Last : mg "Last" = some (.ref C.last)
  Next : mg "Next" = some (.ref C.next)
  Shift : mg "Shift" = some (.ref C.shift)
  Either : mg "Either" = some (.ref C.either)
  Later : mg "Later" = some (.ref C.later)
  Earlier : mg "Earlier" = some (.ref C.earlier)
theorem TF.tyx {K : PySem.W.Frag} {mg : Str → Option Value} {C : TC} (T : TF K mg C) {H : Hp} {a : Addr} {t : Tm} (h : TmAt C H a t) : TyX K H (.ref a) (.ref (C.of t)) := by
  obtain ⟨dx, fs, sp, i⟩ := h.in_
  obtain ⟨h1, h2, h3, h4⟩ := T.ty _ (C.is_of t)
  exact .base (.ins i.at_ (T.cl _ (C.is_of t)) h1 h2 h3 h4)
theorem TmAt.off {C : TC} {H H' : Hp} {b D dx : Addr} (hb : H b = some (.ins D dx [])) (k : ∀ c o, H c = some o → c ≠ b → H' c = some o) : ∀ {t : Tm} {a : Addr}, TmAt C H a t → TmAt C H' a t
  | .now, a, ⟨dx, sp, h1, h2⟩ => ⟨dx, sp, k _ _ h1 (ne_of h1 hb (by intro z; cases z)), k _ _ h2 (ne_of h2 hb (by intro z; cases z))⟩
  | .last s t, a, ⟨dx, c, sp, h1, h2, h3⟩ => ⟨dx, c, sp, k _ _ h1 (ne_of h1 hb (by intro z; cases z)), k _ _ h2 (ne_of h2 hb (by intro z; cases z)), TmAt.off hb k h3⟩
  | .next s t, a, ⟨dx, c, sp, h1, h2, h3⟩ => ⟨dx, c, sp, k _ _ h1 (ne_of h1 hb (by intro z; cases z)), k _ _ h2 (ne_of h2 hb (by intro z; cases z)), TmAt.off hb k h3⟩
  | .shift s t, a, ⟨dx, c, sp, h1, h2, h3⟩ => ⟨dx, c, sp, k _ _ h1 (ne_of h1 hb (by intro z; cases z)), k _ _ h2 (ne_of h2 hb (by intro z; cases z)), TmAt.off hb k h3⟩
  | .either s t, a, ⟨dx, c, d, sp, h1, h2, h3, h4⟩ => ⟨dx, c, d, sp, k _ _ h1 (ne_of h1 hb (by intro z; cases z)), k _ _ h2 (ne_of h2 hb (by intro z; cases z)), TmAt.off hb k h3, TmAt.off hb k h4⟩
  | .later s t, a, ⟨dx, c, d, sp, h1, h2, h3, h4⟩ => ⟨dx, c, d, sp, k _ _ h1 (ne_of h1 hb (by intro z; cases z)), k _ _ h2 (ne_of h2 hb (by intro z; cases z)), TmAt.off hb k h3, TmAt.off hb k h4⟩
  | .earlier s t, a, ⟨dx, c, d, sp, h1, h2, h3, h4⟩ => ⟨dx, c, d, sp, k _ _ h1 (ne_of h1 hb (by intro z; cases z)), k _ _ h2 (ne_of h2 hb (by intro z; cases z)), TmAt.off hb k h3, TmAt.off hb k h4⟩
def Tm.isLook : Tm → Bool
  | .last _ _ => true
  | .next _ _ => true
  | _ => false
theorem tyx_same {K : PySem.W.Frag} {H H' : Hp} {v : V} {t : Value} (h : TyX K H v t) (s : Same H H') : TyX K H' v t := by
  cases h with
  | base b =>
    refine .base ?_
    cases b with
    | non => exact .non
    | bl x => exact .bl x
    | int x => exact .int x
    | str x => exact .str x
    | flt x => exact .flt x
    | lst e => exact .lst (s _ _ e)
    | frz e => exact .frz (s _ _ e)
    | tup e => exact .tup (s _ _ e)
    | dK e => exact .dK (s _ _ e)
    | dT e => exact .dT (s _ _ e)
    | ins e c a b d f => exact .ins (s _ _ e) c a b d f
  | byt b => exact .byt b
  | set e => exact .set (s _ _ e)
  | kList e c => exact .kList e c
  | kTuple e c => exact .kTuple e c
  | kDict e c => exact .kDict e c
  | fTuple e => exact .fTuple (s _ _ e)
  | fDict e => exact .fDict (s _ _ e)
/-- the classes are apart -/
structure TD (C : TC) : Prop where
  nd : [C.now, C.last, C.next, C.shift, C.either, C.later, C.earlier].Nodup
theorem TD.look {C : TC} (D : TD C) (t : Tm) : decide (C.of t ∈ [C.last, C.next]) = t.isLook := by
  have h := D.nd
  simp only [List.nodup_cons, List.mem_cons, List.not_mem_nil, or_false, not_or] at h
  obtain ⟨⟨a1, a2, a3, a4, a5, a6⟩, ⟨b1, b2, b3, b4, b5⟩, ⟨c1, c2, c3, c4⟩, _⟩ := h
  cases t <;> simp [TC.of, Tm.isLook, a1, a2, Ne.symm b2, Ne.symm b3, Ne.symm b4, Ne.symm b5, Ne.symm c1, Ne.symm c2, Ne.symm c3, Ne.symm c4, Ne.symm b1]
/-- no term -/
def NotTm (K : PySem.W.Frag) (C : TC) (H : Hp) (v : V) : Prop := ∃ t, TyX K H v t ∧ ∀ a, C.Is a → PySem.W.kitOne K t (.ref a) = some false
def spIsTerm (K : PySem.W.Frag) (C : TC) : Sp := fun vs H Q _ => ∃ v, vs = [v] ∧ ((∃ a t, v = .ref a ∧ TmAt C H a t ∧ ∀ H', Same H H' → Q (.bl true) H') ∨ (NotTm K C H v ∧ ∀ H', Same H H' → Q (.bl false) H'))
def spIsLook (C : TC) : Sp := fun vs H Q _ => ∃ a t, vs = [.ref a] ∧ TmAt C H a t ∧ ∀ H', Same H H' → Q (.bl t.isLook) H'
def spCStream : Sp := fun vs H Q _ => ∃ z, vs = [.str z] ∧ IsNm z ∧ ∀ H', Same H H' → Q (.str z) H'
def spCTerm (C : TC) : Sp := fun vs H Q _ => ∃ a t, vs = [.ref a] ∧ TmAt C H a t ∧ ∀ H', Same H H' → Q (.ref a) H'
def szD (ts : List Tm) : Int := 1 + mxD (ts.map Tm.dep) 0
def szP (ts : List Tm) : Int := 1 + (ts.map Tm.par).sum
def szL (ts : List Tm) : Int := (ts.map Tm.lok).sum
def szC (ts : List Tm) : Int := (ts.map Tm.cho).sum
def spSizes (C : TC) : Sp := fun vs H Q _ => ∃ (tp : Addr) (as : List Addr) (ts : List Tm) (l0 c0 : Int), vs = [.ref tp, .int l0, .int c0] ∧ H tp = some (.tup (as.map V.ref)) ∧ as.length = ts.length ∧ as.length ≤ 2 ∧ (∀ (i : Nat) a t, as[i]? = some a → ts[i]? = some t → TmAt C H a t) ∧
  szD ts ≤ 12 ∧ szP ts ≤ 40 ∧ l0 + szL ts ≤ 12 ∧ ∀ (q : Addr) H', Same H H' → H q = none → H' q = some (.tup [.int (szD ts), .int (szP ts), .int (l0 + szL ts), .int (c0 + szC ts)]) → Q (.ref q) H'
/-- one more attribute -/
def Keep (b : Addr) (H H' : Hp) : Prop := ∀ c o, H c = some o → c ≠ b → H' c = some o
def spInit0 (C : TC) : Sp := fun vs H Q _ => ∃ (b dx : Addr), vs = [.ref b] ∧ H b = some (.ins C.now dx []) ∧ ∀ H', TmAt C H' b .now → Keep b H H' → Q .non H'
def spInitL (C : TC) (D : Addr) (mk : Str → Tm → Tm) : Sp := fun vs H Q _ => ∃ (b dx a : Addr) (z : Str) (t : Tm), vs = [.ref b, .str z, .ref a] ∧ H b = some (.ins D dx []) ∧ IsNm z ∧ TmAt C H a t ∧ (mk z t).Fit ∧ ∀ H', TmAt C H' b (mk z t) → Keep b H H' → Q .non H'
def spInitS (C : TC) : Sp := fun vs H Q _ => ∃ (b dx a : Addr) (n : Int) (t : Tm), vs = [.ref b, .ref a, .int n] ∧ H b = some (.ins C.shift dx []) ∧ TmAt C H a t ∧ (Tm.shift n t).Fit ∧ ∀ H', TmAt C H' b (.shift n t) → Keep b H H' → Q .non H'
def spInitP (C : TC) (D : Addr) (mk : Tm → Tm → Tm) : Sp := fun vs H Q _ => ∃ (b dx a c : Addr) (t u : Tm), vs = [.ref b, .ref a, .ref c] ∧ H b = some (.ins D dx []) ∧ TmAt C H a t ∧ TmAt C H c u ∧ (mk t u).Fit ∧ ∀ H', TmAt C H' b (mk t u) → Keep b H H' → Q .non H'
section
variable {P : Program} {w : World} {K : PySem.W.Frag} {mg : Str → Option Value} {base : Heap} {C : TC}
theorem TF.any (T : TF K mg C) {a : Addr} (ha : C.Is a) : ∀ {bs : List Addr}, (∀ b ∈ bs, C.Is b) → PySem.W.kitAny K (.ref a) (bs.map Value.ref) = some (decide (a ∈ bs))
  | [], _ => rfl
  | b :: r, h => by
    have ih := T.any ha (bs := r) fun b hb => h b (List.mem_cons_of_mem _ hb)
    refine kitAny_cons (b := decide (a = b)) (T.one a b ha (h b List.mem_cons_self)) (fun e => ?_) (fun e => ?_)
    · rw [ih]
      have : ¬ a = b := of_decide_eq_false e
      simp [this]
    · have : a = b := of_decide_eq_true e
      simp [this]
abbrev s_is_term : Stmt := topS 23
theorem sc_is_term : FnScope ["thing"] ["thing"] (defScope s_is_term) := ⟨rfl, rfl, rfl, by decide +kernel, rfl, by decide +kernel, by decide +kernel⟩
theorem ok_is_term {f : Addr} {fd : FuncData} (F : Fun K "is_term" "is_term" s_is_term f fd) (B : Blt mg) (T : TF K mg C) : FnOk P w K mg base CX0 1 f fd ["thing"] (spIsTerm K C) := by
  obtain ⟨t_cl, t_no, t_ty, t_one, c_Now, c_Last, c_Next, c_Shift, c_Either, c_Later, c_Earlier⟩ := id T
  refine F.ok sc_is_term (fun vs H Q E h => ?_) (fun cdv A outer s H vs Q E hr h => ?_)
  · obtain ⟨v, rfl, _⟩ := h
    rfl
  · obtain ⟨v, rfl, hv⟩ := h
    refine ⟨_, (pss_one (ps_ret (pe_callB call_isiT (by rfl) B.isinstance (by decide +kernel) (pa_cons (pv 0) (pa_cons (pe_tup (pa_cons (pe_glob (v := .ref C.now) (by rfl) c_Now rfl) (pa_cons (pe_glob (v := .ref C.last) (by rfl) c_Last rfl) (pa_cons (pe_glob (v := .ref C.next) (by rfl) c_Next rfl) (pa_cons (pe_glob (v := .ref C.shift) (by rfl) c_Shift rfl) (pa_cons (pe_glob (v := .ref C.either) (by rfl) c_Either rfl) (pa_cons (pe_glob (v := .ref C.later) (by rfl) c_Later rfl) (pa_cons (pe_glob (v := .ref C.earlier) (by rfl) c_Earlier rfl) pa_nil)))))))) pa_nil))))), ?_⟩
    refine ⟨_, rfl, (by show 7 ≤ sizeLine; decide), fun p hp => ?_⟩
    have s1 : ∀ {o}, Same H (upd H p o) := fun {o} => sameAt (Same.refl H) hp
    have cs : ∀ b ∈ [C.now, C.last, C.next, C.shift, C.either, C.later, C.earlier], C.Is b := fun b hb => by
      simp only [List.mem_cons, List.not_mem_nil, or_false] at hb
      exact hb
    rcases hv with ⟨a, t, rfl, h, q⟩ | ⟨⟨t, h, hn⟩, q⟩
    · have k := T.any (C.is_of t) cs
      have e : decide (C.of t ∈ [C.now, C.last, C.next, C.shift, C.either, C.later, C.earlier]) = true := by
        have := C.is_of t
        simp only [List.mem_cons, List.not_mem_nil, or_false, decide_eq_true_eq]
        exact this
      rw [e] at k
      exact ⟨_, p, _, _, _, true, rfl, upd_same, .cons (.own _) (.cons (.own _) (.cons (.own _) (.cons (.own _) (.cons (.own _) (.cons (.own _) (.cons (.own _) .nil)))))), T.tyx (h.same s1), k, q _ s1⟩
    · have k : PySem.W.kitAny K t ([C.now, C.last, C.next, C.shift, C.either, C.later, C.earlier].map Value.ref) = some false := by
        have : ∀ bs : List Addr, (∀ b ∈ bs, C.Is b) → PySem.W.kitAny K t (bs.map Value.ref) = some false := fun bs => by
          induction bs with
          | nil => exact fun _ => rfl
          | cons b r ih => exact fun hb => kitAny_cons (hn b (hb b List.mem_cons_self)) (fun _ => ih fun b hb' => hb b (List.mem_cons_of_mem _ hb')) (fun z => nomatch z)
        exact this _ cs
      exact ⟨_, p, _, _, _, false, rfl, upd_same, .cons (.own _) (.cons (.own _) (.cons (.own _) (.cons (.own _) (.cons (.own _) (.cons (.own _) (.cons (.own _) .nil)))))), tyx_same h s1, k, q _ s1⟩
abbrev s_is_look : Stmt := topS 24
theorem sc_is_look : FnScope ["thing"] ["thing"] (defScope s_is_look) := ⟨rfl, rfl, rfl, by decide +kernel, rfl, by decide +kernel, by decide +kernel⟩
theorem ok_is_look {f : Addr} {fd : FuncData} (F : Fun K "is_look" "is_look" s_is_look f fd) (B : Blt mg) (T : TF K mg C) (D : TD C) : FnOk P w K mg base CX0 1 f fd ["thing"] (spIsLook C) := by
  obtain ⟨t_cl, t_no, t_ty, t_one, c_Now, c_Last, c_Next, c_Shift, c_Either, c_Later, c_Earlier⟩ := id T
  refine F.ok sc_is_look (fun vs H Q E h => ?_) (fun cdv A outer s H vs Q E hr h => ?_)
  · obtain ⟨a, t, rfl, _⟩ := h
    rfl
  · obtain ⟨a, t, rfl, h, q⟩ := h
    refine ⟨_, (pss_one (ps_ret (pe_callB call_isiT (by rfl) B.isinstance (by decide +kernel) (pa_cons (pv 0) (pa_cons (pe_tup (pa_cons (pe_glob (v := .ref C.last) (by rfl) c_Last rfl) (pa_cons (pe_glob (v := .ref C.next) (by rfl) c_Next rfl) pa_nil))) pa_nil))))), ?_⟩
    refine ⟨_, rfl, (by show 2 ≤ sizeLine; decide), fun p hp => ?_⟩
    have s1 : ∀ {o}, Same H (upd H p o) := fun {o} => sameAt (Same.refl H) hp
    have cs : ∀ b ∈ [C.last, C.next], C.Is b := fun b hb => by
      simp only [List.mem_cons, List.not_mem_nil, or_false] at hb
      exact .inr (hb.elim .inl fun z => .inr (.inl z))
    have k := T.any (C.is_of t) cs
    refine ⟨_, p, _, _, _, _, rfl, upd_same, .cons (.own _) (.cons (.own _) .nil), T.tyx (h.same s1), k, ?_⟩
    have e : decide (C.of t ∈ [C.last, C.next]) = t.isLook := D.look t
    rw [e]
    exact q _ s1
structure T1 (P : Program) (w : World) (K : PySem.W.Frag) (mg : Str → Option Value) (base : Heap) (C : TC) : Prop extends W2 P w K mg base where
  is_term : Cal P w K mg base CX0 "is_term" 1 ["thing"] (spIsTerm K C)
  is_look : Cal P w K mg base CX0 "is_look" 1 ["thing"] (spIsLook C)
abbrev s_checked_stream : Stmt := topS 25
theorem sc_checked_stream : FnScope ["stream"] ["stream"] (defScope s_checked_stream) := ⟨rfl, rfl, rfl, by decide +kernel, rfl, by decide +kernel, by decide +kernel⟩
theorem ok_cstream {f : Addr} {fd : FuncData} (F : Fun K "checked_stream" "checked_stream" s_checked_stream f fd) (B : Blt mg) (G : T1 P w K mg base C) : FnOk P w K mg base CX0 2 f fd ["stream"] spCStream := by
  refine F.ok sc_checked_stream (fun vs H Q E h => ?_) (fun cdv A outer s H vs Q E hr h => ?_)
  · obtain ⟨z, rfl, _⟩ := h
    rfl
  · obtain ⟨z, rfl, hz, q⟩ := h
    refine ⟨_, (pss_cons (ps_if (pt_not (pt_val (pe_cal G.is_name (hr.mono (by decide)) pass0 (pa_cons (pv 0) pa_nil))))
      (pss_one ps_never)
      pss_nil)
    (pss_one (ps_ret (pv 0)))), ?_⟩
    refine ⟨_, rfl, _, rfl, .inl ⟨z, rfl, (by have := hz.2.1; rw [sizeLine_eq]; omega), fun H1 s1 => ⟨_, rfl, ?_⟩⟩⟩
    rw [(nmB_iff z).mpr hz]
    exact iteF ⟨_, rfl, q H1 s1⟩
abbrev s_checked_term : Stmt := topS 26
theorem sc_checked_term : FnScope ["term"] ["term"] (defScope s_checked_term) := ⟨rfl, rfl, rfl, by decide +kernel, rfl, by decide +kernel, by decide +kernel⟩
theorem ok_cterm {f : Addr} {fd : FuncData} (F : Fun K "checked_term" "checked_term" s_checked_term f fd) (B : Blt mg) (G : T1 P w K mg base C) : FnOk P w K mg base CX0 2 f fd ["term"] (spCTerm C) := by
  refine F.ok sc_checked_term (fun vs H Q E h => ?_) (fun cdv A outer s H vs Q E hr h => ?_)
  · obtain ⟨a, t, rfl, _⟩ := h
    rfl
  · obtain ⟨a, t, rfl, h, q⟩ := h
    refine ⟨_, (pss_cons (ps_if (pt_not (pt_val (pe_cal G.is_term (hr.mono (by decide)) pass0 (pa_cons (pv 0) pa_nil))))
      (pss_one ps_never)
      pss_nil)
    (pss_one (ps_ret (pv 0)))), ?_⟩
    exact ⟨_, rfl, _, rfl, .inl ⟨a, t, rfl, h, fun H1 s1 => ⟨_, rfl, iteF ⟨_, rfl, q H1 s1⟩⟩⟩⟩
abbrev s_sizes : Stmt := topS 27
theorem sc_sizes : FnScope ["children", "looks", "choices", "depth", "parts", "child"] ["children", "looks", "choices"] (defScope s_sizes) := ⟨rfl, rfl, rfl, by decide +kernel, rfl, by decide +kernel, by decide +kernel⟩
theorem ok_sizes {f : Addr} {fd : FuncData} (F : Fun K "sizes" "sizes" s_sizes f fd) (B : Blt mg) (Cs : Cst mg) (T : TF K mg C) : FnOk P w K mg base CX0 1 f fd ["children", "looks", "choices"] (spSizes C) := by
  obtain ⟨t1, g_MOST_DEPTH⟩ := Cs.k_MOST_DEPTH
  obtain ⟨t2, g_MOST_PARTS⟩ := Cs.k_MOST_PARTS
  obtain ⟨t3, g_MOST_LOOKS⟩ := Cs.k_MOST_LOOKS
  refine F.ok sc_sizes (fun vs H Q E h => ?_) (fun cdv A outer s H vs Q E hr h => ?_)
  · obtain ⟨tp, as, ts, l0, c0, rfl, _⟩ := h
    rfl
  · obtain ⟨tp, as, ts, l0, c0, rfl, ht, hl, h2, hT, hd, hp, hk, q⟩ := h
    have hu9 : (A.deeper (envOfC "sizes" (defScope s_sizes) s.heap.objs.size f cdv)).units + 9 < cLine := by
      have := hr.units
      omega
    have comp : ∀ (nm : Str) (F : Tm → Int) (hF : ∀ {H2 a t dx fs sp}, TmIn C H2 a t dx fs sp → fs.lookup nm = some (.int (F t))) (hA : nm ∈ ATTRS) (H1 : Hp) (s1 : Same H H1) (D : Addr) (hD : H1 D = none) (x1 x2 x3 x4 x5 : Option V) (Qd : Hp → Prop), (∀ H2, Same H H2 → H2 D = some (.lst ((ts.map F).map V.int)) → Qd H2) →
        ∃ W : Nat → Nat → Hp → Prop, (∃ m, W 0 m (upd H1 D (.lst []))) ∧ ∀ i m H, W i m H →
          ((Itt K tp).stop i H ∧ Qd H) ∨ ((Itt K tp).go i H ∧ ∃ Nx : Hp → Prop, (∀ H', Nx H' → ∃ m', m' < m ∧ W (i + 1) m' H') ∧ ∀ x H', (Itt K tp).yld i H x H' → gName 5 x (wipe [some (.ref tp), x1, x2, x3, x4, x5] [5]) H' fun σ2 H2 => wipe σ2 [5] = wipe [some (.ref tp), x1, x2, x3, x4, x5] [5] ∧ tYes σ2 H2 fun b H3 =>
            if b = true then tFld K (tVar 5) nm σ2 H3 fun y H4 => ∃ acc, H4 D = some (.lst acc) ∧ acc.length < sizeLine ∧ Nx (upd H4 D (.lst (acc ++ [y]))) else Nx H3) := fun nm F hF hA H1 s1 D hD x1 x2 x3 x4 x5 Qd q2 => by
      refine lc_it (walk_tup (xs := as.map V.ref)) (fun i H3 => H3 D = some (.lst (((ts.take i).map F).map V.int)) ∧ Same H1 H3) ⟨upd_same, sameAt (Same.refl H1) hD⟩ (fun i H3 _ hv => SqT.of (hv.2 _ _ (s1 _ _ ht))) ?_ ?_
      · rintro i x H3 H4 hi ⟨hD3, s3⟩ ⟨rfl, hx⟩
        rw [List.length_map] at hi
        rw [List.getElem?_map, List.getElem?_eq_getElem hi, Option.map_some] at hx
        cases hx
        have hi2 : i < ts.length := by rw [← hl]; exact hi
        have ht2 := List.getElem?_eq_getElem hi2
        have hm := (hT i _ _ (List.getElem?_eq_getElem hi) ht2).same (s1.trans s3)
        obtain ⟨dx, fs, sp, In⟩ := hm.in_
        refine ⟨rfl, _, rfl, _, _, dx, fs, _, rfl, In.at_, T.cl _ (C.is_of _), T.no _ (C.is_of _) _ hA, hF In, _, hD3, ?_, ?_, sameAt s3 hD⟩
        · rw [List.length_map, List.length_map, List.length_take]
          exact small1000 (by omega)
        · rw [upd_same, list_take ht2, List.map_append, List.map_append]
          rfl
      · rintro H3 ⟨hD3, s3⟩
        rw [List.length_map, hl, List.take_length] at hD3
        exact q2 H3 (s1.trans s3) hD3
    refine ⟨_, (pss_cons (ps_set (i := 3) sc_sizes.nd rfl (Or.inl rfl) (pe_op op_add pe_int (pe_callBK (cr_maxD rfl hu9) (by rfl) B.max (by decide +kernel) (pa_cons (pe_lc (own := [("child", 5)]) (g := gName 5) (tt := tYes) (by rfl) sc_sizes.nd (pi_tup (pv 0)) (blkOk_by (own := [("child", 5)]) (N := ["children", "looks", "choices", "depth", "parts", "child"]) (sc := defScope s_sizes) (by decide +kernel)) (fun _ _ _ _ _ => (pg_name (i := 5) sc_sizes.nd rfl (Or.inl rfl))) (fun _ _ _ _ _ => pts_nil) (fun _ _ _ _ _ => (show PE _ _ (tFld K _ _) from pe_fld (pv 5) rfl))) pa_nil) (pk_cons pe_int pk_nil))))
    (pss_cons (ps_set (i := 4) sc_sizes.nd rfl (Or.inl rfl) (pe_op op_add pe_int (pe_callB (cr_sum rfl) (by rfl) B.sum (by decide +kernel) (pa_cons (pe_lc (own := [("child", 5)]) (g := gName 5) (tt := tYes) (by rfl) sc_sizes.nd (pi_tup (pv 0)) (blkOk_by (own := [("child", 5)]) (N := ["children", "looks", "choices", "depth", "parts", "child"]) (sc := defScope s_sizes) (by decide +kernel)) (fun _ _ _ _ _ => (pg_name (i := 5) sc_sizes.nd rfl (Or.inl rfl))) (fun _ _ _ _ _ => pts_nil) (fun _ _ _ _ _ => (show PE _ _ (tFld K _ _) from pe_fld (pv 5) rfl))) pa_nil))))
    (pss_cons (ps_set (i := 1) sc_sizes.nd rfl (Or.inl rfl) (pe_op op_add (pv 1) (pe_callB (cr_sum rfl) (by rfl) B.sum (by decide +kernel) (pa_cons (pe_lc (own := [("child", 5)]) (g := gName 5) (tt := tYes) (by rfl) sc_sizes.nd (pi_tup (pv 0)) (blkOk_by (own := [("child", 5)]) (N := ["children", "looks", "choices", "depth", "parts", "child"]) (sc := defScope s_sizes) (by decide +kernel)) (fun _ _ _ _ _ => (pg_name (i := 5) sc_sizes.nd rfl (Or.inl rfl))) (fun _ _ _ _ _ => pts_nil) (fun _ _ _ _ _ => (show PE _ _ (tFld K _ _) from pe_fld (pv 5) rfl))) pa_nil))))
    (pss_cons (ps_set (i := 2) sc_sizes.nd rfl (Or.inl rfl) (pe_op op_add (pv 2) (pe_callB (cr_sum rfl) (by rfl) B.sum (by decide +kernel) (pa_cons (pe_lc (own := [("child", 5)]) (g := gName 5) (tt := tYes) (by rfl) sc_sizes.nd (pi_tup (pv 0)) (blkOk_by (own := [("child", 5)]) (N := ["children", "looks", "choices", "depth", "parts", "child"]) (sc := defScope s_sizes) (by decide +kernel)) (fun _ _ _ _ _ => (pg_name (i := 5) sc_sizes.nd rfl (Or.inl rfl))) (fun _ _ _ _ _ => pts_nil) (fun _ _ _ _ _ => (show PE _ _ (tFld K _ _) from pe_fld (pv 5) rfl))) pa_nil))))
    (pss_cons (ps_if (PW.pt (pw_or (pt_cmpR op_gt (pv 3) (pe_glob (v := .int 12) (by rfl) g_MOST_DEPTH ⟨_, rfl⟩) (nomark _)) (pw_or (pt_cmpR op_gt (pv 4) (pe_glob (v := .int 40) (by rfl) g_MOST_PARTS ⟨_, rfl⟩) (nomark _)) (pw_or1 (pt_cmpR op_gt (pv 1) (pe_glob (v := .int 12) (by rfl) g_MOST_LOOKS ⟨_, rfl⟩) (nomark _))))))
      (pss_one ps_never)
      pss_nil)
    (pss_one (ps_ret (pe_tup (pa_cons (pv 3) (pa_cons (pv 4) (pa_cons (pv 1) (pa_cons (pv 2) pa_nil)))))))))))), ?_⟩
    refine ⟨_, rfl, tp, rfl, ⟨_, SqT.of ht⟩, fun D1 hD1 => comp "depth" Tm.dep (fun i => i.depth) (by decide +kernel) H (Same.refl H) D1 hD1 _ _ _ _ _ _ fun H1 s1 h1 => ?_⟩
    refine ⟨D1, ts.map Tm.dep, 0, rfl, rfl, SqL.of h1, _, _, rfl, rfl, ?_⟩
    refine ⟨_, rfl, tp, rfl, ⟨_, SqT.of (s1 _ _ ht)⟩, fun D2 hD2 => comp "parts" Tm.par (fun i => i.parts) (by decide +kernel) H1 s1 D2 hD2 _ _ _ _ _ _ fun H2 s2 h2' => ?_⟩
    refine ⟨D2, ts.map Tm.par, rfl, SqL.of h2', _, _, rfl, rfl, _, rfl, ?_⟩
    refine ⟨_, rfl, tp, rfl, ⟨_, SqT.of (s2 _ _ ht)⟩, fun D3 hD3 => comp "looks" Tm.lok (fun i => i.looks) (by decide +kernel) H2 s2 D3 hD3 _ _ _ _ _ _ fun H3 s3 h3 => ?_⟩
    refine ⟨D3, ts.map Tm.lok, rfl, SqL.of h3, _, _, rfl, rfl, _, rfl, ?_⟩
    refine ⟨_, rfl, tp, rfl, ⟨_, SqT.of (s3 _ _ ht)⟩, fun D4 hD4 => comp "choices" Tm.cho (fun i => i.choices) (by decide +kernel) H3 s3 D4 hD4 _ _ _ _ _ _ fun H4 s4 h4 => ?_⟩
    refine ⟨D4, ts.map Tm.cho, rfl, SqL.of h4, _, _, rfl, rfl, ?_⟩
    have e1 : decide ((12 : Int) < 1 + mxD (ts.map Tm.dep) 0) = false := decide_eq_false (by have h : 1 + mxD (ts.map Tm.dep) 0 ≤ 12 := hd; omega)
    have e2 : decide ((40 : Int) < 1 + (ts.map Tm.par).sum) = false := decide_eq_false (by have h : 1 + (ts.map Tm.par).sum ≤ 40 := hp; omega)
    have e3 : decide ((12 : Int) < l0 + (ts.map Tm.lok).sum) = false := decide_eq_false (by have h : l0 + (ts.map Tm.lok).sum ≤ 12 := hk; omega)
    refine ⟨_, rfl, _, _, rfl, rfl, _, rfl, ?_⟩
    rw [e1]
    refine iteF ⟨_, rfl, _, _, rfl, rfl, _, rfl, ?_⟩
    rw [e2]
    refine iteF ⟨_, rfl, _, _, rfl, rfl, _, rfl, ?_⟩
    rw [e3]
    refine iteF ⟨_, rfl, _, rfl, _, rfl, _, rfl, (by show 4 ≤ sizeLine; decide), fun t ht2 => ?_⟩
    exact q t _ (s4.trans (sameAt (Same.refl H4) ht2)) (none_of s4 ht2) upd_same
structure T2 (P : Program) (w : World) (K : PySem.W.Frag) (mg : Str → Option Value) (base : Heap) (C : TC) : Prop extends T1 P w K mg base C where
  checked_stream : Cal P w K mg base CX0 "checked_stream" 2 ["stream"] spCStream
  checked_term : Cal P w K mg base CX0 "checked_term" 2 ["term"] (spCTerm C)
  sizes : Cal P w K mg base CX0 "sizes" 1 ["children", "looks", "choices"] (spSizes C)
theorem putF_no {f : Str} {v : V} : ∀ {fs : List (Str × V)}, fs.lookup f = none → putF f v fs = fs ++ [(f, v)]
  | [], _ => rfl
  | (g, x) :: r, h => by
    by_cases e : g = f
    · subst e
      simp [List.lookup] at h
    · have h' : (f == g) = false := beq_eq_false_iff_ne.mpr fun z => e z.symm
      simp only [List.lookup, h'] at h
      show (if g = f then (g, v) :: r else (g, x) :: putF f v r) = _
      rw [if_neg e, putF_no h]
      rfl
theorem pl {f : Str} {v : V} {n : Nat} {fs : List (Str × V)} (h : fs.length ≤ n) : (putF f v fs).length ≤ n + 1 := by
  induction fs generalizing n with
  | nil => exact Nat.succ_le_succ (Nat.zero_le n)
  | cons x r ih =>
    obtain ⟨g, x⟩ := x
    show (if g = f then (g, v) :: r else (g, x) :: putF f v r).length ≤ n + 1
    have h : r.length + 1 ≤ n := h
    split
    · show r.length + 1 ≤ n + 1
      omega
    · show (putF f v r).length + 1 ≤ n + 1
      have := ih (n := n - 1) (by omega)
      omega
theorem lk_app {f : Str} : ∀ {fs gs : List (Str × V)}, fs.lookup f = none → gs.lookup f = none → (fs ++ gs).lookup f = none
  | [], _, _, h => h
  | (g, x) :: r, gs, h1, h2 => by
    by_cases e : f = g
    · subst e
      simp [List.lookup] at h1
    · have h' : (f == g) = false := beq_eq_false_iff_ne.mpr e
      simp only [List.lookup, h'] at h1
      show List.lookup f ((g, x) :: (r ++ gs)) = none
      simp only [List.lookup, h']
      exact lk_app h1 h2
theorem fend {pre : List (Str × V)} {s d p l c : V} (h1 : pre.lookup ("spelling" : Str) = none) (h2 : pre.lookup ("depth" : Str) = none) (h3 : pre.lookup ("parts" : Str) = none) (h4 : pre.lookup ("looks" : Str) = none) (h5 : pre.lookup ("choices" : Str) = none) :
    putF "choices" c (putF "looks" l (putF "parts" p (putF "depth" d (putF "spelling" s pre)))) = pre ++ [(("spelling" : Str), s), ("depth", d), ("parts", p), ("looks", l), ("choices", c)] := by
  rw [putF_no h1, putF_no (lk_app h2 (by rfl)), putF_no (lk_app (lk_app h3 (by rfl)) (by rfl)), putF_no (lk_app (lk_app (lk_app h4 (by rfl)) (by rfl)) (by rfl)), putF_no (lk_app (lk_app (lk_app (lk_app h5 (by rfl)) (by rfl)) (by rfl)) (by rfl))]
  simp
theorem Keep.same {b : Addr} {H H1 H2 : Hp} (k : Keep b H H1) (s : Same H1 H2) : Keep b H H2 := fun c o hc hn => s _ _ (k c o hc hn)
theorem Keep.upd {b : Addr} {H H1 : Hp} {u : HO} (k : Keep b H H1) : Keep b H (upd H1 b u) := fun c o hc hn => by rw [upd_ne hn]; exact k c o hc hn
theorem Keep.refl {b : Addr} {H : Hp} : Keep b H H := fun _ _ h _ => h
theorem Keep.at {b q : Addr} {H H1 : Hp} {u : HO} (k : Keep b H H1) (hq : H1 q = none) : Keep b H (L2.upd H1 q u) := k.same (sameAt (Same.refl H1) hq)
abbrev s_Now_init : Stmt := inClass (topS 16) 0
theorem sc_Now_init : FnScope ["self"] ["self"] (defScope s_Now_init) := ⟨rfl, rfl, rfl, by decide +kernel, rfl, by decide +kernel, by decide +kernel⟩
theorem ok_now {f : Addr} {fd : FuncData} (F : Fun K "__init__" "Now.__init__" s_Now_init f fd) (B : Blt mg) (T : TF K mg C) (G : T2 P w K mg base C) : FnOk P w K mg base CX0 2 f fd ["self"] (spInit0 C) := by
  refine F.ok sc_Now_init (fun vs H Q E h => ?_) (fun cdv A outer s H vs Q E hr h => ?_)
  · obtain ⟨b, dx, rfl, _⟩ := h
    rfl
  · obtain ⟨b, dx, rfl, hb, q⟩ := h
    have Is : C.Is C.now := C.is_of .now
    refine ⟨_, (pss_cons (ps_fld (pv 0) (pe_tup (pa_cons pe_str pa_nil)) rfl)
    (pss_one (ps_asg (pe_cal G.sizes (hr.mono (by decide)) pass0 (pa_cons (pe_tup pa_nil) (pa_cons pe_int (pa_cons pe_int pa_nil)))) (pg_tup (by rfl) (pgs_cons (pg_fld (pv 0)) (pgs_cons (pg_fld (pv 0)) (pgs_cons (pg_fld (pv 0)) (pgs_cons (pg_fld (pv 0)) pgs_nil)))))))), ?_⟩
    refine ⟨(by show 1 ≤ sizeLine; decide), fun sp hsp => ⟨_, rfl, b, C.now, dx, [], rfl, (sameAt (Same.refl H) hsp) _ _ hb, T.cl _ Is, T.no _ Is _ (by decide +kernel), (by show 0 < 1000; decide), ?_⟩⟩
    have sb : sp ≠ b := fun z => by rw [z, hb] at hsp; cases hsp
    have K1 : Keep b H (upd (upd H sp (.tup [.str "now"])) b (.ins C.now dx (putF "spelling" (.ref sp) []))) := (Keep.refl.at hsp).upd
    refine ⟨(by show 0 ≤ sizeLine; decide), fun tp htp => ⟨tp, [], [], 0, 0, rfl, upd_same, rfl, by decide, (fun i a t h => by simp at h), by decide, by decide, by decide, fun q1 H5 s5 hq1 hq5 => ?_⟩⟩
    have K5 := (K1.at htp (u := .tup [])).same s5
    have HB : H5 b = some (.ins C.now dx (putF "spelling" (.ref sp) [])) := s5 _ _ (sameAt (Same.refl _) htp _ _ upd_same)
    have hs5 : H5 sp = some (.tup [.str "now"]) := s5 _ _ (sameAt (Same.refl _) htp _ _ (by rw [upd_ne sb, upd_same]))
    have h0 : (putF "spelling" (.ref sp) []).length ≤ 1 := Nat.le_refl 1
    obtain ⟨D, hD⟩ : ∃ D, D = C.now := ⟨_, rfl⟩
    obtain ⟨fs0, hf⟩ : ∃ fs0, fs0 = putF "spelling" (.ref sp) [] := ⟨_, rfl⟩
    rw [← hD] at Is
    rw [← hD, ← hf] at HB
    rw [← hf] at h0
    refine ⟨q1, _, rfl, SqT.of hq5, rfl, _, _, rfl, _, rfl, b, D, dx, fs0, rfl, HB, T.cl _ Is, T.no _ Is _ (by decide +kernel), Nat.lt_of_le_of_lt h0 (by decide), _, _, rfl, _, rfl, b, D, dx, _, rfl, upd_same, T.cl _ Is, T.no _ Is _ (by decide +kernel), Nat.lt_of_le_of_lt (pl h0) (by decide), _, _, rfl, _, rfl, b, D, dx, _, rfl, upd_same, T.cl _ Is, T.no _ Is _ (by decide +kernel), Nat.lt_of_le_of_lt (pl (pl h0)) (by decide), _, _, rfl, _, rfl, b, D, dx, _, rfl, upd_same, T.cl _ Is, T.no _ Is _ (by decide +kernel), Nat.lt_of_le_of_lt (pl (pl (pl h0))) (by decide), rfl, ?_⟩
    refine q _ ⟨dx, sp, ?_, ?_⟩ K5.upd.upd.upd.upd
    · rw [upd_same, hf, fend (by rfl) (by rfl) (by rfl) (by rfl) (by rfl), hD]
      rfl
    · rw [upd_ne sb, upd_ne sb, upd_ne sb, upd_ne sb]
      exact hs5
end
end Ash

set_option Elab.async false
set_option linter.all false
set_option maxRecDepth 100000
set_option maxHeartbeats 4000000
namespace Ash
open PySem PySem.Spec PyProof.Rows L2
open C8 (pss_cut)
/-! ### the other terms are made -/
theorem szD1 (t : Tm) : szD [t] = 1 + t.dep := rfl
theorem szP1 (t : Tm) : szP [t] = 1 + t.par := by simp [szP]
theorem szL1 (t : Tm) : szL [t] = t.lok := by simp [szL]
theorem szC1 (t : Tm) : szC [t] = t.cho := by simp [szC]
theorem szD2 (t u : Tm) : szD [t, u] = 1 + Tm.mx t.dep u.dep := by
  show 1 + (if decide (t.dep < u.dep) = true then u.dep else t.dep) = 1 + (if t.dep < u.dep then u.dep else t.dep)
  by_cases c : t.dep < u.dep
  · rw [if_pos c, if_pos (decide_eq_true c)]
  · rw [if_neg c, if_neg (fun z => c (of_decide_eq_true z))]
theorem szP2 (t u : Tm) : szP [t, u] = 1 + (t.par + u.par) := by simp [szP]
theorem szL2 (t u : Tm) : szL [t, u] = t.lok + u.lok := by simp [szL]
theorem szC2 (t u : Tm) : szC [t, u] = t.cho + u.cho := by simp [szC]
theorem pre2 {x y : Str} {v1 v2 : V} (h : x ≠ y) : putF y v2 (putF x v1 []) = [(x, v1), (y, v2)] := by
  show (if x = y then (x, v2) :: [] else (x, v1) :: putF y v2 []) = _
  rw [if_neg h]
  rfl
section
variable {P : Program} {w : World} {K : PySem.W.Frag} {mg : Str → Option Value} {base : Heap} {C : TC}
abbrev s_Last_init : Stmt := inClass (topS 17) 0
theorem sc_Last_init : FnScope ["self", "stream", "term"] ["self", "stream", "term"] (defScope s_Last_init) := ⟨rfl, rfl, rfl, by decide +kernel, rfl, by decide +kernel, by decide +kernel⟩
theorem ok_last {f : Addr} {fd : FuncData} (F : Fun K "__init__" "Last.__init__" s_Last_init f fd) (B : Blt mg) (T : TF K mg C) (G : T2 P w K mg base C) : FnOk P w K mg base CX0 3 f fd ["self", "stream", "term"] (spInitL C C.last Tm.last) := by
  refine F.ok sc_Last_init (fun vs H Q E h => ?_) (fun cdv A outer s H vs Q E hr h => ?_)
  · obtain ⟨b, dx, a, z, t, rfl, _⟩ := h
    rfl
  · obtain ⟨b, dx, a, z, t, rfl, hb, hz, hT, hF, q⟩ := h
    refine ⟨_, (pss_cons (ps_fld (pv 0) (pe_cal G.checked_stream (hr.mono (by decide)) pass0 (pa_cons (pv 1) pa_nil)) rfl)
    (pss_cons (ps_fld (pv 0) (pe_cal G.checked_term (hr.mono (by decide)) pass0 (pa_cons (pv 2) pa_nil)) rfl)
    (pss_cons (ps_fld (pv 0) (pe_tup (pa_cons pe_str (pa_cons (pv 1) (StX.pa_star (pe_fld (pv 2) rfl) pa_nil)))) rfl)
    (pss_one (ps_asg (pe_cal G.sizes (hr.mono (by decide)) pass0 (pa_cons (pe_tup (pa_cons (pv 2) pa_nil)) (pa_cons pe_int (pa_cons pe_int pa_nil)))) (pg_tup (by rfl) (pgs_cons (pg_fld (pv 0)) (pgs_cons (pg_fld (pv 0)) (pgs_cons (pg_fld (pv 0)) (pgs_cons (pg_fld (pv 0)) pgs_nil)))))))))), ?_⟩
    obtain ⟨D, hD⟩ : ∃ D, D = C.last := ⟨_, rfl⟩
    have Is : C.Is D := by rw [hD]; exact C.is_of (.last z t)
    rw [← hD] at hb
    refine ⟨_, rfl, z, rfl, hz, fun H1 s1 => ⟨_, rfl, b, D, dx, [], rfl, s1 _ _ hb, T.cl _ Is, T.no _ Is _ (by decide +kernel), (by show 0 < 1000; decide), ?_⟩⟩
    have K1 : Keep b H (upd H1 b (.ins D dx (putF "stream" (.str z) []))) := (Keep.refl.same s1).upd
    refine ⟨_, rfl, a, t, rfl, hT.off hb K1, fun H2 s2 => ⟨_, rfl, b, D, dx, _, rfl, s2 _ _ upd_same, T.cl _ Is, T.no _ Is _ (by decide +kernel), (by show 1 < 1000; decide), ?_⟩⟩
    have K2 : Keep b H (upd H2 b (.ins D dx (putF "term" (.ref a) (putF "stream" (.str z) [])))) := (K1.same s2).upd
    obtain ⟨dx1, fs1, sp1, In⟩ := (hT.off hb K2).in_
    have sl := Tm.spell_len t
    have hF2 : t.par ≤ 39 := by
      have h : 1 + t.par ≤ 40 := hF.2.1
      omega
    refine ⟨_, rfl, _, rfl, _, _, dx1, fs1, _, rfl, In.at_, T.cl _ (C.is_of _), T.no _ (C.is_of _) _ (by decide +kernel), In.spelling, sp1, _, rfl, .inl (SqT.of In.spl), ?_, fun sp hsp => ⟨_, rfl, b, D, dx, _, rfl, sameAt (Same.refl _) hsp _ _ upd_same, T.cl _ Is, T.no _ Is _ (by decide +kernel), (by show 2 < 1000; decide), ?_⟩⟩
    · show (t.spell ++ []).length + 1 + 1 ≤ sizeLine
      rw [sizeLine_eq, List.append_nil]
      omega
    have sb : sp ≠ b := fun z => by rw [z, upd_same] at hsp; cases hsp
    have K3 := (K2.at hsp (u := .tup (.str "last" :: .str z :: (t.spell ++ [])))).upd (u := .ins D dx (putF "spelling" (.ref sp) (putF "term" (.ref a) (putF "stream" (.str z) []))))
    refine ⟨_, rfl, (by show 1 ≤ sizeLine; decide), fun tp htp => ?_⟩
    have K4 := K3.at htp (u := .tup ([a].map V.ref))
    refine ⟨tp, [a], [t], 1, 1, rfl, upd_same, rfl, (by show 1 ≤ 2; decide), (fun i a' t' h1 h2 => ?_), ?_, ?_, ?_, fun q1 H5 s5 hq1 hq5 => ?_⟩
    · 
      match i, h1, h2 with
      | 0, h1, h2 =>
        cases h1
        cases h2
        exact hT.off hb K4
      | i + 1, h1, h2 => simp at h1
    · rw [szD1]; exact hF.1
    · rw [szP1]; exact hF.2.1
    · rw [szL1]; exact hF.2.2
    have K5 := K4.same s5
    obtain ⟨fs0, hf⟩ : ∃ fs0, fs0 = putF "spelling" (.ref sp) (putF "term" (.ref a) (putF "stream" (.str z) [])) := ⟨_, rfl⟩
    have HB : H5 b = some (.ins D dx fs0) := by rw [hf]; exact s5 _ _ (sameAt (Same.refl _) htp _ _ upd_same)
    have hs5 : H5 sp = some (.tup (.str "last" :: .str z :: (t.spell ++ []))) := s5 _ _ (sameAt (Same.refl _) htp _ _ (by rw [upd_ne sb, upd_same]))
    have h0 : fs0.length ≤ 3 := by rw [hf]; exact pl (pl (pl (Nat.le_refl 0)))
    refine ⟨q1, _, rfl, SqT.of hq5, rfl, _, _, rfl, _, rfl, b, D, dx, fs0, rfl, HB, T.cl _ Is, T.no _ Is _ (by decide +kernel), Nat.lt_of_le_of_lt h0 (by decide), _, _, rfl, _, rfl, b, D, dx, _, rfl, upd_same, T.cl _ Is, T.no _ Is _ (by decide +kernel), Nat.lt_of_le_of_lt (pl h0) (by decide), _, _, rfl, _, rfl, b, D, dx, _, rfl, upd_same, T.cl _ Is, T.no _ Is _ (by decide +kernel), Nat.lt_of_le_of_lt (pl (pl h0)) (by decide), _, _, rfl, _, rfl, b, D, dx, _, rfl, upd_same, T.cl _ Is, T.no _ Is _ (by decide +kernel), Nat.lt_of_le_of_lt (pl (pl (pl h0))) (by decide), rfl, ?_⟩
    have K9 := (((K5.upd (u := .ins D dx (putF "depth" (.int (szD [t])) fs0))).upd (u := .ins D dx (putF "parts" (.int (szP [t])) (putF "depth" (.int (szD [t])) fs0)))).upd (u := .ins D dx (putF "looks" (.int (1 + szL [t])) (putF "parts" (.int (szP [t])) (putF "depth" (.int (szD [t])) fs0))))).upd (u := .ins D dx (putF "choices" (.int (1 + szC [t])) (putF "looks" (.int (1 + szL [t])) (putF "parts" (.int (szP [t])) (putF "depth" (.int (szD [t])) fs0)))))
    refine q _ ⟨dx, a, sp, ?_, ?_, hT.off hb K9⟩ K9
    · rw [upd_same, hf, pre2 (by decide +kernel), fend (by rfl) (by rfl) (by rfl) (by rfl) (by rfl), hD, szD1, szP1, szL1, szC1]
      rfl
    · rw [upd_ne sb, upd_ne sb, upd_ne sb, upd_ne sb, hs5]
      simp [Tm.spell]
abbrev s_Next_init : Stmt := inClass (topS 18) 0
theorem sc_Next_init : FnScope ["self", "stream", "term"] ["self", "stream", "term"] (defScope s_Next_init) := ⟨rfl, rfl, rfl, by decide +kernel, rfl, by decide +kernel, by decide +kernel⟩
theorem ok_next {f : Addr} {fd : FuncData} (F : Fun K "__init__" "Next.__init__" s_Next_init f fd) (B : Blt mg) (T : TF K mg C) (G : T2 P w K mg base C) : FnOk P w K mg base CX0 3 f fd ["self", "stream", "term"] (spInitL C C.next Tm.next) := by
  refine F.ok sc_Next_init (fun vs H Q E h => ?_) (fun cdv A outer s H vs Q E hr h => ?_)
  · obtain ⟨b, dx, a, z, t, rfl, _⟩ := h
    rfl
  · obtain ⟨b, dx, a, z, t, rfl, hb, hz, hT, hF, q⟩ := h
    refine ⟨_, (pss_cons (ps_fld (pv 0) (pe_cal G.checked_stream (hr.mono (by decide)) pass0 (pa_cons (pv 1) pa_nil)) rfl)
    (pss_cons (ps_fld (pv 0) (pe_cal G.checked_term (hr.mono (by decide)) pass0 (pa_cons (pv 2) pa_nil)) rfl)
    (pss_cons (ps_fld (pv 0) (pe_tup (pa_cons pe_str (pa_cons (pv 1) (StX.pa_star (pe_fld (pv 2) rfl) pa_nil)))) rfl)
    (pss_one (ps_asg (pe_cal G.sizes (hr.mono (by decide)) pass0 (pa_cons (pe_tup (pa_cons (pv 2) pa_nil)) (pa_cons pe_int (pa_cons pe_int pa_nil)))) (pg_tup (by rfl) (pgs_cons (pg_fld (pv 0)) (pgs_cons (pg_fld (pv 0)) (pgs_cons (pg_fld (pv 0)) (pgs_cons (pg_fld (pv 0)) pgs_nil)))))))))), ?_⟩
    obtain ⟨D, hD⟩ : ∃ D, D = C.next := ⟨_, rfl⟩
    have Is : C.Is D := by rw [hD]; exact C.is_of (.next z t)
    rw [← hD] at hb
    refine ⟨_, rfl, z, rfl, hz, fun H1 s1 => ⟨_, rfl, b, D, dx, [], rfl, s1 _ _ hb, T.cl _ Is, T.no _ Is _ (by decide +kernel), (by show 0 < 1000; decide), ?_⟩⟩
    have K1 : Keep b H (upd H1 b (.ins D dx (putF "stream" (.str z) []))) := (Keep.refl.same s1).upd
    refine ⟨_, rfl, a, t, rfl, hT.off hb K1, fun H2 s2 => ⟨_, rfl, b, D, dx, _, rfl, s2 _ _ upd_same, T.cl _ Is, T.no _ Is _ (by decide +kernel), (by show 1 < 1000; decide), ?_⟩⟩
    have K2 : Keep b H (upd H2 b (.ins D dx (putF "term" (.ref a) (putF "stream" (.str z) [])))) := (K1.same s2).upd
    obtain ⟨dx1, fs1, sp1, In⟩ := (hT.off hb K2).in_
    have sl := Tm.spell_len t
    have hF2 : t.par ≤ 39 := by
      have h : 1 + t.par ≤ 40 := hF.2.1
      omega
    refine ⟨_, rfl, _, rfl, _, _, dx1, fs1, _, rfl, In.at_, T.cl _ (C.is_of _), T.no _ (C.is_of _) _ (by decide +kernel), In.spelling, sp1, _, rfl, .inl (SqT.of In.spl), ?_, fun sp hsp => ⟨_, rfl, b, D, dx, _, rfl, sameAt (Same.refl _) hsp _ _ upd_same, T.cl _ Is, T.no _ Is _ (by decide +kernel), (by show 2 < 1000; decide), ?_⟩⟩
    · show (t.spell ++ []).length + 1 + 1 ≤ sizeLine
      rw [sizeLine_eq, List.append_nil]
      omega
    have sb : sp ≠ b := fun z => by rw [z, upd_same] at hsp; cases hsp
    have K3 := (K2.at hsp (u := .tup (.str "next" :: .str z :: (t.spell ++ [])))).upd (u := .ins D dx (putF "spelling" (.ref sp) (putF "term" (.ref a) (putF "stream" (.str z) []))))
    refine ⟨_, rfl, (by show 1 ≤ sizeLine; decide), fun tp htp => ?_⟩
    have K4 := K3.at htp (u := .tup ([a].map V.ref))
    refine ⟨tp, [a], [t], 1, 1, rfl, upd_same, rfl, (by show 1 ≤ 2; decide), (fun i a' t' h1 h2 => ?_), ?_, ?_, ?_, fun q1 H5 s5 hq1 hq5 => ?_⟩
    · 
      match i, h1, h2 with
      | 0, h1, h2 =>
        cases h1
        cases h2
        exact hT.off hb K4
      | i + 1, h1, h2 => simp at h1
    · rw [szD1]; exact hF.1
    · rw [szP1]; exact hF.2.1
    · rw [szL1]; exact hF.2.2
    have K5 := K4.same s5
    obtain ⟨fs0, hf⟩ : ∃ fs0, fs0 = putF "spelling" (.ref sp) (putF "term" (.ref a) (putF "stream" (.str z) [])) := ⟨_, rfl⟩
    have HB : H5 b = some (.ins D dx fs0) := by rw [hf]; exact s5 _ _ (sameAt (Same.refl _) htp _ _ upd_same)
    have hs5 : H5 sp = some (.tup (.str "next" :: .str z :: (t.spell ++ []))) := s5 _ _ (sameAt (Same.refl _) htp _ _ (by rw [upd_ne sb, upd_same]))
    have h0 : fs0.length ≤ 3 := by rw [hf]; exact pl (pl (pl (Nat.le_refl 0)))
    refine ⟨q1, _, rfl, SqT.of hq5, rfl, _, _, rfl, _, rfl, b, D, dx, fs0, rfl, HB, T.cl _ Is, T.no _ Is _ (by decide +kernel), Nat.lt_of_le_of_lt h0 (by decide), _, _, rfl, _, rfl, b, D, dx, _, rfl, upd_same, T.cl _ Is, T.no _ Is _ (by decide +kernel), Nat.lt_of_le_of_lt (pl h0) (by decide), _, _, rfl, _, rfl, b, D, dx, _, rfl, upd_same, T.cl _ Is, T.no _ Is _ (by decide +kernel), Nat.lt_of_le_of_lt (pl (pl h0)) (by decide), _, _, rfl, _, rfl, b, D, dx, _, rfl, upd_same, T.cl _ Is, T.no _ Is _ (by decide +kernel), Nat.lt_of_le_of_lt (pl (pl (pl h0))) (by decide), rfl, ?_⟩
    have K9 := (((K5.upd (u := .ins D dx (putF "depth" (.int (szD [t])) fs0))).upd (u := .ins D dx (putF "parts" (.int (szP [t])) (putF "depth" (.int (szD [t])) fs0)))).upd (u := .ins D dx (putF "looks" (.int (1 + szL [t])) (putF "parts" (.int (szP [t])) (putF "depth" (.int (szD [t])) fs0))))).upd (u := .ins D dx (putF "choices" (.int (1 + szC [t])) (putF "looks" (.int (1 + szL [t])) (putF "parts" (.int (szP [t])) (putF "depth" (.int (szD [t])) fs0)))))
    refine q _ ⟨dx, a, sp, ?_, ?_, hT.off hb K9⟩ K9
    · rw [upd_same, hf, pre2 (by decide +kernel), fend (by rfl) (by rfl) (by rfl) (by rfl) (by rfl), hD, szD1, szP1, szL1, szC1]
      rfl
    · rw [upd_ne sb, upd_ne sb, upd_ne sb, upd_ne sb, hs5]
      simp [Tm.spell]
abbrev s_Shift_init : Stmt := inClass (topS 19) 0
theorem sc_Shift_init : FnScope ["self", "term", "amount"] ["self", "term", "amount"] (defScope s_Shift_init) := ⟨rfl, rfl, rfl, by decide +kernel, rfl, by decide +kernel, by decide +kernel⟩
theorem ok_shift {f : Addr} {fd : FuncData} (F : Fun K "__init__" "Shift.__init__" s_Shift_init f fd) (B : Blt mg) (T : TF K mg C) (G : T2 P w K mg base C) : FnOk P w K mg base CX0 2 f fd ["self", "term", "amount"] (spInitS C) := by
  refine F.ok sc_Shift_init (fun vs H Q E h => ?_) (fun cdv A outer s H vs Q E hr h => ?_)
  · obtain ⟨b, dx, a, n, t, rfl, _⟩ := h
    rfl
  · obtain ⟨b, dx, a, n, t, rfl, hb, hT, hF, q⟩ := h
    refine ⟨_, (pss_cons (ps_fld (pv 0) (pv 1) rfl)
    (pss_cons (ps_fld (pv 0) (pv 2) rfl)
    (pss_cons (ps_fld (pv 0) (pe_tup (pa_cons pe_str (pa_cons (pv 2) (StX.pa_star (pe_fld (pv 1) rfl) pa_nil)))) rfl)
    (pss_one (ps_asg (pe_cal G.sizes (hr.mono (by decide)) pass0 (pa_cons (pe_tup (pa_cons (pv 1) pa_nil)) (pa_cons pe_int (pa_cons pe_int pa_nil)))) (pg_tup (by rfl) (pgs_cons (pg_fld (pv 0)) (pgs_cons (pg_fld (pv 0)) (pgs_cons (pg_fld (pv 0)) (pgs_cons (pg_fld (pv 0)) pgs_nil)))))))))), ?_⟩
    obtain ⟨D, hD⟩ : ∃ D, D = C.shift := ⟨_, rfl⟩
    have Is : C.Is D := by rw [hD]; exact C.is_of (.shift n t)
    rw [← hD] at hb
    refine ⟨_, rfl, _, rfl, b, D, dx, [], rfl, hb, T.cl _ Is, T.no _ Is _ (by decide +kernel), (by show 0 < 1000; decide), ?_⟩
    have K1 : Keep b H (upd H b (.ins D dx (putF "term" (.ref a) []))) := Keep.refl.upd
    refine ⟨_, rfl, _, rfl, b, D, dx, _, rfl, upd_same, T.cl _ Is, T.no _ Is _ (by decide +kernel), (by show 1 < 1000; decide), ?_⟩
    have K2 : Keep b H (upd _ b (.ins D dx (putF "amount" (.int n) (putF "term" (.ref a) [])))) := K1.upd
    obtain ⟨dx1, fs1, sp1, In⟩ := (hT.off hb K2).in_
    have sl := Tm.spell_len t
    have hF2 : t.par ≤ 39 := by
      have h : 1 + t.par ≤ 40 := hF.2.1
      omega
    refine ⟨_, rfl, _, rfl, _, _, dx1, fs1, _, rfl, In.at_, T.cl _ (C.is_of _), T.no _ (C.is_of _) _ (by decide +kernel), In.spelling, sp1, _, rfl, .inl (SqT.of In.spl), ?_, fun sp hsp => ⟨_, rfl, b, D, dx, _, rfl, sameAt (Same.refl _) hsp _ _ upd_same, T.cl _ Is, T.no _ Is _ (by decide +kernel), (by show 2 < 1000; decide), ?_⟩⟩
    · show (t.spell ++ []).length + 1 + 1 ≤ sizeLine
      rw [sizeLine_eq, List.append_nil]
      omega
    have sb : sp ≠ b := fun z => by rw [z, upd_same] at hsp; cases hsp
    have K3 := (K2.at hsp (u := .tup (.str "shift" :: .int n :: (t.spell ++ [])))).upd (u := .ins D dx (putF "spelling" (.ref sp) (putF "amount" (.int n) (putF "term" (.ref a) []))))
    refine ⟨_, rfl, (by show 1 ≤ sizeLine; decide), fun tp htp => ?_⟩
    have K4 := K3.at htp (u := .tup ([a].map V.ref))
    refine ⟨tp, [a], [t], 0, 0, rfl, upd_same, rfl, (by show 1 ≤ 2; decide), (fun i a' t' h1 h2 => ?_), ?_, ?_, ?_, fun q1 H5 s5 hq1 hq5 => ?_⟩
    · 
      match i, h1, h2 with
      | 0, h1, h2 =>
        cases h1
        cases h2
        exact hT.off hb K4
      | i + 1, h1, h2 => simp at h1
    · rw [szD1]; exact hF.1
    · rw [szP1]; exact hF.2.1
    · rw [szL1]; exact hF.2.2
    have K5 := K4.same s5
    obtain ⟨fs0, hf⟩ : ∃ fs0, fs0 = putF "spelling" (.ref sp) (putF "amount" (.int n) (putF "term" (.ref a) [])) := ⟨_, rfl⟩
    have HB : H5 b = some (.ins D dx fs0) := by rw [hf]; exact s5 _ _ (sameAt (Same.refl _) htp _ _ upd_same)
    have hs5 : H5 sp = some (.tup (.str "shift" :: .int n :: (t.spell ++ []))) := s5 _ _ (sameAt (Same.refl _) htp _ _ (by rw [upd_ne sb, upd_same]))
    have h0 : fs0.length ≤ 3 := by rw [hf]; exact pl (pl (pl (Nat.le_refl 0)))
    refine ⟨q1, _, rfl, SqT.of hq5, rfl, _, _, rfl, _, rfl, b, D, dx, fs0, rfl, HB, T.cl _ Is, T.no _ Is _ (by decide +kernel), Nat.lt_of_le_of_lt h0 (by decide), _, _, rfl, _, rfl, b, D, dx, _, rfl, upd_same, T.cl _ Is, T.no _ Is _ (by decide +kernel), Nat.lt_of_le_of_lt (pl h0) (by decide), _, _, rfl, _, rfl, b, D, dx, _, rfl, upd_same, T.cl _ Is, T.no _ Is _ (by decide +kernel), Nat.lt_of_le_of_lt (pl (pl h0)) (by decide), _, _, rfl, _, rfl, b, D, dx, _, rfl, upd_same, T.cl _ Is, T.no _ Is _ (by decide +kernel), Nat.lt_of_le_of_lt (pl (pl (pl h0))) (by decide), rfl, ?_⟩
    have K9 := (((K5.upd (u := .ins D dx (putF "depth" (.int (szD [t])) fs0))).upd (u := .ins D dx (putF "parts" (.int (szP [t])) (putF "depth" (.int (szD [t])) fs0)))).upd (u := .ins D dx (putF "looks" (.int (0 + szL [t])) (putF "parts" (.int (szP [t])) (putF "depth" (.int (szD [t])) fs0))))).upd (u := .ins D dx (putF "choices" (.int (0 + szC [t])) (putF "looks" (.int (0 + szL [t])) (putF "parts" (.int (szP [t])) (putF "depth" (.int (szD [t])) fs0)))))
    refine q _ ⟨dx, a, sp, ?_, ?_, hT.off hb K9⟩ K9
    · rw [upd_same, hf, pre2 (by decide +kernel), fend (by rfl) (by rfl) (by rfl) (by rfl) (by rfl), hD, szD1, szP1, szL1, szC1]
      rfl
    · rw [upd_ne sb, upd_ne sb, upd_ne sb, upd_ne sb, hs5]
      simp [Tm.spell]
abbrev s_Either_init : Stmt := inClass (topS 20) 0
theorem sc_Either_init : FnScope ["self", "first", "second"] ["self", "first", "second"] (defScope s_Either_init) := ⟨rfl, rfl, rfl, by decide +kernel, rfl, by decide +kernel, by decide +kernel⟩
theorem ok_either {f : Addr} {fd : FuncData} (F : Fun K "__init__" "Either.__init__" s_Either_init f fd) (B : Blt mg) (T : TF K mg C) (G : T2 P w K mg base C) : FnOk P w K mg base CX0 2 f fd ["self", "first", "second"] (spInitP C C.either Tm.either) := by
  refine F.ok sc_Either_init (fun vs H Q E h => ?_) (fun cdv A outer s H vs Q E hr h => ?_)
  · obtain ⟨b, dx, a, c, t, u, rfl, _⟩ := h
    rfl
  · obtain ⟨b, dx, a, c, t, u, rfl, hb, hT, hU, hF, q⟩ := h
    refine ⟨_, (pss_cons (ps_fld (pv 0) (pv 1) rfl)
    (pss_cons (ps_fld (pv 0) (pv 2) rfl)
    (pss_cons (ps_fld (pv 0) (pe_tup (pa_cons pe_str (StX.pa_star (pe_fld (pv 1) rfl) (StX.pa_star (pe_fld (pv 2) rfl) pa_nil)))) rfl)
    (pss_one (ps_asg (pe_cal G.sizes (hr.mono (by decide)) pass0 (pa_cons (pe_tup (pa_cons (pv 1) (pa_cons (pv 2) pa_nil))) (pa_cons pe_int (pa_cons pe_int pa_nil)))) (pg_tup (by rfl) (pgs_cons (pg_fld (pv 0)) (pgs_cons (pg_fld (pv 0)) (pgs_cons (pg_fld (pv 0)) (pgs_cons (pg_fld (pv 0)) pgs_nil)))))))))), ?_⟩
    obtain ⟨D, hD⟩ : ∃ D, D = C.either := ⟨_, rfl⟩
    have Is : C.Is D := by rw [hD]; exact C.is_of (.either t u)
    rw [← hD] at hb
    refine ⟨_, rfl, _, rfl, b, D, dx, [], rfl, hb, T.cl _ Is, T.no _ Is _ (by decide +kernel), (by show 0 < 1000; decide), ?_⟩
    have K1 : Keep b H (upd H b (.ins D dx (putF "first" (.ref a) []))) := Keep.refl.upd
    refine ⟨_, rfl, _, rfl, b, D, dx, _, rfl, upd_same, T.cl _ Is, T.no _ Is _ (by decide +kernel), (by show 1 < 1000; decide), ?_⟩
    have K2 : Keep b H (upd _ b (.ins D dx (putF "second" (.ref c) (putF "first" (.ref a) [])))) := K1.upd
    obtain ⟨dx1, fs1, sp1, In⟩ := (hT.off hb K2).in_
    have sl := Tm.spell_len t
    obtain ⟨dx2, fs2, sp2, In2⟩ := (hU.off hb K2).in_
    have sl2 := Tm.spell_len u
    have hF2 : t.par + u.par ≤ 39 := by
      have h : 1 + (t.par + u.par) ≤ 40 := hF.2.1
      omega
    refine ⟨_, rfl, _, _, dx1, fs1, _, rfl, In.at_, T.cl _ (C.is_of _), T.no _ (C.is_of _) _ (by decide +kernel), In.spelling, sp1, _, rfl, .inl (SqT.of In.spl), _, rfl, _, _, dx2, fs2, _, rfl, In2.at_, T.cl _ (C.is_of _), T.no _ (C.is_of _) _ (by decide +kernel), In2.spelling, sp2, _, rfl, .inl (SqT.of In2.spl), ?_, fun sp hsp => ⟨_, rfl, b, D, dx, _, rfl, sameAt (Same.refl _) hsp _ _ upd_same, T.cl _ Is, T.no _ Is _ (by decide +kernel), (by show 2 < 1000; decide), ?_⟩⟩
    · show (t.spell ++ (u.spell ++ [])).length + 1 ≤ sizeLine
      rw [sizeLine_eq, List.length_append, List.append_nil]
      omega
    have sb : sp ≠ b := fun z => by rw [z, upd_same] at hsp; cases hsp
    have K3 := (K2.at hsp (u := .tup (.str "either" :: (t.spell ++ (u.spell ++ []))))).upd (u := .ins D dx (putF "spelling" (.ref sp) (putF "second" (.ref c) (putF "first" (.ref a) []))))
    refine ⟨_, rfl, _, rfl, (by show 2 ≤ sizeLine; decide), fun tp htp => ?_⟩
    have K4 := K3.at htp (u := .tup ([a, c].map V.ref))
    refine ⟨tp, [a, c], [t, u], 0, 0, rfl, upd_same, rfl, (by show 2 ≤ 2; decide), (fun i a' t' h1 h2 => ?_), ?_, ?_, ?_, fun q1 H5 s5 hq1 hq5 => ?_⟩
    · 
      match i, h1, h2 with
      | 0, h1, h2 =>
        cases h1
        cases h2
        exact hT.off hb K4
      | 1, h1, h2 =>
        cases h1
        cases h2
        exact hU.off hb K4
      | i + 2, h1, h2 => simp at h1
    · rw [szD2]; exact hF.1
    · rw [szP2]; exact hF.2.1
    · rw [szL2]; exact hF.2.2
    have K5 := K4.same s5
    obtain ⟨fs0, hf⟩ : ∃ fs0, fs0 = putF "spelling" (.ref sp) (putF "second" (.ref c) (putF "first" (.ref a) [])) := ⟨_, rfl⟩
    have HB : H5 b = some (.ins D dx fs0) := by rw [hf]; exact s5 _ _ (sameAt (Same.refl _) htp _ _ upd_same)
    have hs5 : H5 sp = some (.tup (.str "either" :: (t.spell ++ (u.spell ++ [])))) := s5 _ _ (sameAt (Same.refl _) htp _ _ (by rw [upd_ne sb, upd_same]))
    have h0 : fs0.length ≤ 3 := by rw [hf]; exact pl (pl (pl (Nat.le_refl 0)))
    refine ⟨q1, _, rfl, SqT.of hq5, rfl, _, _, rfl, _, rfl, b, D, dx, fs0, rfl, HB, T.cl _ Is, T.no _ Is _ (by decide +kernel), Nat.lt_of_le_of_lt h0 (by decide), _, _, rfl, _, rfl, b, D, dx, _, rfl, upd_same, T.cl _ Is, T.no _ Is _ (by decide +kernel), Nat.lt_of_le_of_lt (pl h0) (by decide), _, _, rfl, _, rfl, b, D, dx, _, rfl, upd_same, T.cl _ Is, T.no _ Is _ (by decide +kernel), Nat.lt_of_le_of_lt (pl (pl h0)) (by decide), _, _, rfl, _, rfl, b, D, dx, _, rfl, upd_same, T.cl _ Is, T.no _ Is _ (by decide +kernel), Nat.lt_of_le_of_lt (pl (pl (pl h0))) (by decide), rfl, ?_⟩
    have K9 := (((K5.upd (u := .ins D dx (putF "depth" (.int (szD [t, u])) fs0))).upd (u := .ins D dx (putF "parts" (.int (szP [t, u])) (putF "depth" (.int (szD [t, u])) fs0)))).upd (u := .ins D dx (putF "looks" (.int (0 + szL [t, u])) (putF "parts" (.int (szP [t, u])) (putF "depth" (.int (szD [t, u])) fs0))))).upd (u := .ins D dx (putF "choices" (.int (0 + szC [t, u])) (putF "looks" (.int (0 + szL [t, u])) (putF "parts" (.int (szP [t, u])) (putF "depth" (.int (szD [t, u])) fs0)))))
    refine q _ ⟨dx, a, c, sp, ?_, ?_, hT.off hb K9, hU.off hb K9⟩ K9
    · rw [upd_same, hf, pre2 (by decide +kernel), fend (by rfl) (by rfl) (by rfl) (by rfl) (by rfl), hD, szD2, szP2, szL2, szC2]
      rfl
    · rw [upd_ne sb, upd_ne sb, upd_ne sb, upd_ne sb, hs5]
      simp [Tm.spell]
abbrev s_Later_init : Stmt := inClass (topS 21) 0
theorem sc_Later_init : FnScope ["self", "first", "second"] ["self", "first", "second"] (defScope s_Later_init) := ⟨rfl, rfl, rfl, by decide +kernel, rfl, by decide +kernel, by decide +kernel⟩
theorem ok_later {f : Addr} {fd : FuncData} (F : Fun K "__init__" "Later.__init__" s_Later_init f fd) (B : Blt mg) (T : TF K mg C) (G : T2 P w K mg base C) : FnOk P w K mg base CX0 2 f fd ["self", "first", "second"] (spInitP C C.later Tm.later) := by
  refine F.ok sc_Later_init (fun vs H Q E h => ?_) (fun cdv A outer s H vs Q E hr h => ?_)
  · obtain ⟨b, dx, a, c, t, u, rfl, _⟩ := h
    rfl
  · obtain ⟨b, dx, a, c, t, u, rfl, hb, hT, hU, hF, q⟩ := h
    refine ⟨_, (pss_cons (ps_fld (pv 0) (pv 1) rfl)
    (pss_cons (ps_fld (pv 0) (pv 2) rfl)
    (pss_cons (ps_fld (pv 0) (pe_tup (pa_cons pe_str (StX.pa_star (pe_fld (pv 1) rfl) (StX.pa_star (pe_fld (pv 2) rfl) pa_nil)))) rfl)
    (pss_one (ps_asg (pe_cal G.sizes (hr.mono (by decide)) pass0 (pa_cons (pe_tup (pa_cons (pv 1) (pa_cons (pv 2) pa_nil))) (pa_cons pe_int (pa_cons pe_int pa_nil)))) (pg_tup (by rfl) (pgs_cons (pg_fld (pv 0)) (pgs_cons (pg_fld (pv 0)) (pgs_cons (pg_fld (pv 0)) (pgs_cons (pg_fld (pv 0)) pgs_nil)))))))))), ?_⟩
    obtain ⟨D, hD⟩ : ∃ D, D = C.later := ⟨_, rfl⟩
    have Is : C.Is D := by rw [hD]; exact C.is_of (.later t u)
    rw [← hD] at hb
    refine ⟨_, rfl, _, rfl, b, D, dx, [], rfl, hb, T.cl _ Is, T.no _ Is _ (by decide +kernel), (by show 0 < 1000; decide), ?_⟩
    have K1 : Keep b H (upd H b (.ins D dx (putF "first" (.ref a) []))) := Keep.refl.upd
    refine ⟨_, rfl, _, rfl, b, D, dx, _, rfl, upd_same, T.cl _ Is, T.no _ Is _ (by decide +kernel), (by show 1 < 1000; decide), ?_⟩
    have K2 : Keep b H (upd _ b (.ins D dx (putF "second" (.ref c) (putF "first" (.ref a) [])))) := K1.upd
    obtain ⟨dx1, fs1, sp1, In⟩ := (hT.off hb K2).in_
    have sl := Tm.spell_len t
    obtain ⟨dx2, fs2, sp2, In2⟩ := (hU.off hb K2).in_
    have sl2 := Tm.spell_len u
    have hF2 : t.par + u.par ≤ 39 := by
      have h : 1 + (t.par + u.par) ≤ 40 := hF.2.1
      omega
    refine ⟨_, rfl, _, _, dx1, fs1, _, rfl, In.at_, T.cl _ (C.is_of _), T.no _ (C.is_of _) _ (by decide +kernel), In.spelling, sp1, _, rfl, .inl (SqT.of In.spl), _, rfl, _, _, dx2, fs2, _, rfl, In2.at_, T.cl _ (C.is_of _), T.no _ (C.is_of _) _ (by decide +kernel), In2.spelling, sp2, _, rfl, .inl (SqT.of In2.spl), ?_, fun sp hsp => ⟨_, rfl, b, D, dx, _, rfl, sameAt (Same.refl _) hsp _ _ upd_same, T.cl _ Is, T.no _ Is _ (by decide +kernel), (by show 2 < 1000; decide), ?_⟩⟩
    · show (t.spell ++ (u.spell ++ [])).length + 1 ≤ sizeLine
      rw [sizeLine_eq, List.length_append, List.append_nil]
      omega
    have sb : sp ≠ b := fun z => by rw [z, upd_same] at hsp; cases hsp
    have K3 := (K2.at hsp (u := .tup (.str "later" :: (t.spell ++ (u.spell ++ []))))).upd (u := .ins D dx (putF "spelling" (.ref sp) (putF "second" (.ref c) (putF "first" (.ref a) []))))
    refine ⟨_, rfl, _, rfl, (by show 2 ≤ sizeLine; decide), fun tp htp => ?_⟩
    have K4 := K3.at htp (u := .tup ([a, c].map V.ref))
    refine ⟨tp, [a, c], [t, u], 0, 1, rfl, upd_same, rfl, (by show 2 ≤ 2; decide), (fun i a' t' h1 h2 => ?_), ?_, ?_, ?_, fun q1 H5 s5 hq1 hq5 => ?_⟩
    · 
      match i, h1, h2 with
      | 0, h1, h2 =>
        cases h1
        cases h2
        exact hT.off hb K4
      | 1, h1, h2 =>
        cases h1
        cases h2
        exact hU.off hb K4
      | i + 2, h1, h2 => simp at h1
    · rw [szD2]; exact hF.1
    · rw [szP2]; exact hF.2.1
    · rw [szL2]; exact hF.2.2
    have K5 := K4.same s5
    obtain ⟨fs0, hf⟩ : ∃ fs0, fs0 = putF "spelling" (.ref sp) (putF "second" (.ref c) (putF "first" (.ref a) [])) := ⟨_, rfl⟩
    have HB : H5 b = some (.ins D dx fs0) := by rw [hf]; exact s5 _ _ (sameAt (Same.refl _) htp _ _ upd_same)
    have hs5 : H5 sp = some (.tup (.str "later" :: (t.spell ++ (u.spell ++ [])))) := s5 _ _ (sameAt (Same.refl _) htp _ _ (by rw [upd_ne sb, upd_same]))
    have h0 : fs0.length ≤ 3 := by rw [hf]; exact pl (pl (pl (Nat.le_refl 0)))
    refine ⟨q1, _, rfl, SqT.of hq5, rfl, _, _, rfl, _, rfl, b, D, dx, fs0, rfl, HB, T.cl _ Is, T.no _ Is _ (by decide +kernel), Nat.lt_of_le_of_lt h0 (by decide), _, _, rfl, _, rfl, b, D, dx, _, rfl, upd_same, T.cl _ Is, T.no _ Is _ (by decide +kernel), Nat.lt_of_le_of_lt (pl h0) (by decide), _, _, rfl, _, rfl, b, D, dx, _, rfl, upd_same, T.cl _ Is, T.no _ Is _ (by decide +kernel), Nat.lt_of_le_of_lt (pl (pl h0)) (by decide), _, _, rfl, _, rfl, b, D, dx, _, rfl, upd_same, T.cl _ Is, T.no _ Is _ (by decide +kernel), Nat.lt_of_le_of_lt (pl (pl (pl h0))) (by decide), rfl, ?_⟩
    have K9 := (((K5.upd (u := .ins D dx (putF "depth" (.int (szD [t, u])) fs0))).upd (u := .ins D dx (putF "parts" (.int (szP [t, u])) (putF "depth" (.int (szD [t, u])) fs0)))).upd (u := .ins D dx (putF "looks" (.int (0 + szL [t, u])) (putF "parts" (.int (szP [t, u])) (putF "depth" (.int (szD [t, u])) fs0))))).upd (u := .ins D dx (putF "choices" (.int (1 + szC [t, u])) (putF "looks" (.int (0 + szL [t, u])) (putF "parts" (.int (szP [t, u])) (putF "depth" (.int (szD [t, u])) fs0)))))
    refine q _ ⟨dx, a, c, sp, ?_, ?_, hT.off hb K9, hU.off hb K9⟩ K9
    · rw [upd_same, hf, pre2 (by decide +kernel), fend (by rfl) (by rfl) (by rfl) (by rfl) (by rfl), hD, szD2, szP2, szL2, szC2]
      rfl
    · rw [upd_ne sb, upd_ne sb, upd_ne sb, upd_ne sb, hs5]
      simp [Tm.spell]
abbrev s_Earlier_init : Stmt := inClass (topS 22) 0
theorem sc_Earlier_init : FnScope ["self", "first", "second"] ["self", "first", "second"] (defScope s_Earlier_init) := ⟨rfl, rfl, rfl, by decide +kernel, rfl, by decide +kernel, by decide +kernel⟩
theorem ok_earlier {f : Addr} {fd : FuncData} (F : Fun K "__init__" "Earlier.__init__" s_Earlier_init f fd) (B : Blt mg) (T : TF K mg C) (G : T2 P w K mg base C) : FnOk P w K mg base CX0 2 f fd ["self", "first", "second"] (spInitP C C.earlier Tm.earlier) := by
  refine F.ok sc_Earlier_init (fun vs H Q E h => ?_) (fun cdv A outer s H vs Q E hr h => ?_)
  · obtain ⟨b, dx, a, c, t, u, rfl, _⟩ := h
    rfl
  · obtain ⟨b, dx, a, c, t, u, rfl, hb, hT, hU, hF, q⟩ := h
    refine ⟨_, (pss_cons (ps_fld (pv 0) (pv 1) rfl)
    (pss_cons (ps_fld (pv 0) (pv 2) rfl)
    (pss_cons (ps_fld (pv 0) (pe_tup (pa_cons pe_str (StX.pa_star (pe_fld (pv 1) rfl) (StX.pa_star (pe_fld (pv 2) rfl) pa_nil)))) rfl)
    (pss_one (ps_asg (pe_cal G.sizes (hr.mono (by decide)) pass0 (pa_cons (pe_tup (pa_cons (pv 1) (pa_cons (pv 2) pa_nil))) (pa_cons pe_int (pa_cons pe_int pa_nil)))) (pg_tup (by rfl) (pgs_cons (pg_fld (pv 0)) (pgs_cons (pg_fld (pv 0)) (pgs_cons (pg_fld (pv 0)) (pgs_cons (pg_fld (pv 0)) pgs_nil)))))))))), ?_⟩
    obtain ⟨D, hD⟩ : ∃ D, D = C.earlier := ⟨_, rfl⟩
    have Is : C.Is D := by rw [hD]; exact C.is_of (.earlier t u)
    rw [← hD] at hb
    refine ⟨_, rfl, _, rfl, b, D, dx, [], rfl, hb, T.cl _ Is, T.no _ Is _ (by decide +kernel), (by show 0 < 1000; decide), ?_⟩
    have K1 : Keep b H (upd H b (.ins D dx (putF "first" (.ref a) []))) := Keep.refl.upd
    refine ⟨_, rfl, _, rfl, b, D, dx, _, rfl, upd_same, T.cl _ Is, T.no _ Is _ (by decide +kernel), (by show 1 < 1000; decide), ?_⟩
    have K2 : Keep b H (upd _ b (.ins D dx (putF "second" (.ref c) (putF "first" (.ref a) [])))) := K1.upd
    obtain ⟨dx1, fs1, sp1, In⟩ := (hT.off hb K2).in_
    have sl := Tm.spell_len t
    obtain ⟨dx2, fs2, sp2, In2⟩ := (hU.off hb K2).in_
    have sl2 := Tm.spell_len u
    have hF2 : t.par + u.par ≤ 39 := by
      have h : 1 + (t.par + u.par) ≤ 40 := hF.2.1
      omega
    refine ⟨_, rfl, _, _, dx1, fs1, _, rfl, In.at_, T.cl _ (C.is_of _), T.no _ (C.is_of _) _ (by decide +kernel), In.spelling, sp1, _, rfl, .inl (SqT.of In.spl), _, rfl, _, _, dx2, fs2, _, rfl, In2.at_, T.cl _ (C.is_of _), T.no _ (C.is_of _) _ (by decide +kernel), In2.spelling, sp2, _, rfl, .inl (SqT.of In2.spl), ?_, fun sp hsp => ⟨_, rfl, b, D, dx, _, rfl, sameAt (Same.refl _) hsp _ _ upd_same, T.cl _ Is, T.no _ Is _ (by decide +kernel), (by show 2 < 1000; decide), ?_⟩⟩
    · show (t.spell ++ (u.spell ++ [])).length + 1 ≤ sizeLine
      rw [sizeLine_eq, List.length_append, List.append_nil]
      omega
    have sb : sp ≠ b := fun z => by rw [z, upd_same] at hsp; cases hsp
    have K3 := (K2.at hsp (u := .tup (.str "earlier" :: (t.spell ++ (u.spell ++ []))))).upd (u := .ins D dx (putF "spelling" (.ref sp) (putF "second" (.ref c) (putF "first" (.ref a) []))))
    refine ⟨_, rfl, _, rfl, (by show 2 ≤ sizeLine; decide), fun tp htp => ?_⟩
    have K4 := K3.at htp (u := .tup ([a, c].map V.ref))
    refine ⟨tp, [a, c], [t, u], 0, 1, rfl, upd_same, rfl, (by show 2 ≤ 2; decide), (fun i a' t' h1 h2 => ?_), ?_, ?_, ?_, fun q1 H5 s5 hq1 hq5 => ?_⟩
    · 
      match i, h1, h2 with
      | 0, h1, h2 =>
        cases h1
        cases h2
        exact hT.off hb K4
      | 1, h1, h2 =>
        cases h1
        cases h2
        exact hU.off hb K4
      | i + 2, h1, h2 => simp at h1
    · rw [szD2]; exact hF.1
    · rw [szP2]; exact hF.2.1
    · rw [szL2]; exact hF.2.2
    have K5 := K4.same s5
    obtain ⟨fs0, hf⟩ : ∃ fs0, fs0 = putF "spelling" (.ref sp) (putF "second" (.ref c) (putF "first" (.ref a) [])) := ⟨_, rfl⟩
    have HB : H5 b = some (.ins D dx fs0) := by rw [hf]; exact s5 _ _ (sameAt (Same.refl _) htp _ _ upd_same)
    have hs5 : H5 sp = some (.tup (.str "earlier" :: (t.spell ++ (u.spell ++ [])))) := s5 _ _ (sameAt (Same.refl _) htp _ _ (by rw [upd_ne sb, upd_same]))
    have h0 : fs0.length ≤ 3 := by rw [hf]; exact pl (pl (pl (Nat.le_refl 0)))
    refine ⟨q1, _, rfl, SqT.of hq5, rfl, _, _, rfl, _, rfl, b, D, dx, fs0, rfl, HB, T.cl _ Is, T.no _ Is _ (by decide +kernel), Nat.lt_of_le_of_lt h0 (by decide), _, _, rfl, _, rfl, b, D, dx, _, rfl, upd_same, T.cl _ Is, T.no _ Is _ (by decide +kernel), Nat.lt_of_le_of_lt (pl h0) (by decide), _, _, rfl, _, rfl, b, D, dx, _, rfl, upd_same, T.cl _ Is, T.no _ Is _ (by decide +kernel), Nat.lt_of_le_of_lt (pl (pl h0)) (by decide), _, _, rfl, _, rfl, b, D, dx, _, rfl, upd_same, T.cl _ Is, T.no _ Is _ (by decide +kernel), Nat.lt_of_le_of_lt (pl (pl (pl h0))) (by decide), rfl, ?_⟩
    have K9 := (((K5.upd (u := .ins D dx (putF "depth" (.int (szD [t, u])) fs0))).upd (u := .ins D dx (putF "parts" (.int (szP [t, u])) (putF "depth" (.int (szD [t, u])) fs0)))).upd (u := .ins D dx (putF "looks" (.int (0 + szL [t, u])) (putF "parts" (.int (szP [t, u])) (putF "depth" (.int (szD [t, u])) fs0))))).upd (u := .ins D dx (putF "choices" (.int (1 + szC [t, u])) (putF "looks" (.int (0 + szL [t, u])) (putF "parts" (.int (szP [t, u])) (putF "depth" (.int (szD [t, u])) fs0)))))
    refine q _ ⟨dx, a, c, sp, ?_, ?_, hT.off hb K9, hU.off hb K9⟩ K9
    · rw [upd_same, hf, pre2 (by decide +kernel), fend (by rfl) (by rfl) (by rfl) (by rfl) (by rfl), hD, szD2, szP2, szL2, szC2]
      rfl
    · rw [upd_ne sb, upd_ne sb, upd_ne sb, upd_ne sb, hs5]
      simp [Tm.spell]
end
end Ash

set_option Elab.async false
set_option linter.all false
set_option maxRecDepth 100000
set_option maxHeartbeats 4000000
namespace L2
open PySem PySem.Spec PyProof.Rows
variable {X : Cx} {C : Addr} {bmB : List Value} {B newId initId : String} {x : Str} {p pos : Pos}
/-- C(), C an own error without an __init__ of its own -/
theorem pmk_own0 (F : ExcBaseFacts B newId initId bmB) (q : PySem.W.excIn X.K C bmB newId = true) (gC : X.mg x = some (.ref C)) (kC : PySem.W.keepIn X.K (.ref C) = true) (r : Raises X (.ref C)) (hg : Gl X x) (hdb : (x == ("__debug__" : Str)) = false := by decide) :
    PMk X (.Call (.Name x p) [] [] pos) (fun _ H Q => Q (.ref C) none H) := by
  intro pins s σ H Q I h
  refine wpAny_Call_Name_kw (ld_glob I hg gC ?_ hdb)
  refine PySem.W.callWith_K0 I.kIn kC ?_
  obtain ⟨bm, N, nm, qn, bs, hdct, sn, sub, ab, col, dd, k0, k1, k2, k3, k5, mN, hC, hN, hni, T⟩ := exc_obj I.kIn q
  exact wpAny_call_exc_subT F T hC hN hni (fun h' e hm => mk_of I hm r h (I.hok.gone hm.new)) (Nat.zero_le _)
end L2

set_option Elab.async false
set_option linter.all false
set_option maxRecDepth 100000
set_option maxHeartbeats 4000000
namespace Ash
open PySem PySem.Spec PyProof.Rows L2
open C8 (pss_cut)
/-! ### sizes that may be refused -/
/-- what the top says of TooMany -/
structure TMy (K : PySem.W.Frag) (mg : Str → Option Value) (CT : Addr) : Prop where
  g : mg "TooMany" = some (.ref CT)
  ex : PySem.W.excIn K CT [.type "ValueError", .type "Exception", .type "BaseException", .type "object"] "ValueError.__new__" = true
  kp : PySem.W.keepIn K (.ref CT) = true
  sub : PySem.W.subIn K (.ref CT) (.type "BaseException") = some true
  ty : PySem.W.typeIn K (.ref CT) = some (.type "type")
  te : PySem.W.exmOne K (.ref CT) (.ref CT) = some true
def spSizesX (C : TC) (CT : Addr) : Sp := fun vs H Q E => ∃ (tp : Addr) (as : List Addr) (ts : List Tm) (l0 c0 : Int), vs = [.ref tp, .int l0, .int c0] ∧ H tp = some (.tup (as.map V.ref)) ∧ as.length = ts.length ∧ as.length ≤ 2 ∧ (∀ (i : Nat) a t, as[i]? = some a → ts[i]? = some t → TmAt C H a t) ∧
  ((szD ts ≤ 12 ∧ szP ts ≤ 40 ∧ l0 + szL ts ≤ 12 ∧ ∀ (q : Addr) H', Same H H' → H q = none → H' q = some (.tup [.int (szD ts), .int (szP ts), .int (l0 + szL ts), .int (c0 + szC ts)]) → Q (.ref q) H') ∨
   ((12 < szD ts ∨ 40 < szP ts ∨ 12 < l0 + szL ts) ∧ ∀ H', Same H H' → E (.ref CT) none H'))
def spInitSX (C : TC) (CT : Addr) : Sp := fun vs H Q E => ∃ (b dx a : Addr) (n : Int) (t : Tm), vs = [.ref b, .ref a, .int n] ∧ H b = some (.ins C.shift dx []) ∧ TmAt C H a t ∧ t.Fit ∧
  (((Tm.shift n t).Fit ∧ ∀ H', TmAt C H' b (.shift n t) → Keep b H H' → Q .non H') ∨ (¬ (Tm.shift n t).Fit ∧ ∀ H', Keep b H H' → E (.ref CT) none H'))
def spInitPX (C : TC) (D CT : Addr) (mk : Tm → Tm → Tm) : Sp := fun vs H Q E => ∃ (b dx a c : Addr) (t u : Tm), vs = [.ref b, .ref a, .ref c] ∧ H b = some (.ins D dx []) ∧ TmAt C H a t ∧ TmAt C H c u ∧ t.Fit ∧ u.Fit ∧
  (((mk t u).Fit ∧ ∀ H', TmAt C H' b (mk t u) → Keep b H H' → Q .non H') ∨ (¬ (mk t u).Fit ∧ ∀ H', Keep b H H' → E (.ref CT) none H'))
def spInitX (C : TC) (D CT : Addr) (mk : Str → Tm → Tm) : Sp := fun vs H Q E => ∃ (b dx a : Addr) (z : Str) (t : Tm), vs = [.ref b, .str z, .ref a] ∧ H b = some (.ins D dx []) ∧ IsNm z ∧ TmAt C H a t ∧ t.Fit ∧
  (((mk z t).Fit ∧ ∀ H', TmAt C H' b (mk z t) → Keep b H H' → Q .non H') ∨ (¬ (mk z t).Fit ∧ ∀ H', Keep b H H' → E (.ref CT) none H'))
section
variable {P : Program} {w : World} {K : PySem.W.Frag} {mg : Str → Option Value} {base : Heap} {C : TC}
theorem ok_sizesX {CT : Addr} (M : TMy K mg CT) {f : Addr} {fd : FuncData} (F : Fun K "sizes" "sizes" s_sizes f fd) (B : Blt mg) (Cs : Cst mg) (T : TF K mg C) : FnOk P w K mg base (L2.CX P w) 1 f fd ["children", "looks", "choices"] (spSizesX C CT) := by
  obtain ⟨t1, g_MOST_DEPTH⟩ := Cs.k_MOST_DEPTH
  obtain ⟨t2, g_MOST_PARTS⟩ := Cs.k_MOST_PARTS
  obtain ⟨t3, g_MOST_LOOKS⟩ := Cs.k_MOST_LOOKS
  refine F.okX sc_sizes (fun vs H Q E h => ?_) (fun cdv A outer s H vs Q E hr h => ?_)
  · obtain ⟨tp, as, ts, l0, c0, rfl, _⟩ := h
    rfl
  · obtain ⟨tp, as, ts, l0, c0, rfl, ht, hl, h2, hT, q⟩ := h
    have hu9 : (A.deeper (envOfC "sizes" (defScope s_sizes) s.heap.objs.size f cdv)).units + 9 < cLine := by
      have := hr.units
      omega
    have comp : ∀ (nm : Str) (F : Tm → Int) (hF : ∀ {H2 a t dx fs sp}, TmIn C H2 a t dx fs sp → fs.lookup nm = some (.int (F t))) (hA : nm ∈ ATTRS) (H1 : Hp) (s1 : Same H H1) (D : Addr) (hD : H1 D = none) (x1 x2 x3 x4 x5 : Option V) (Qd : Hp → Prop), (∀ H2, Same H H2 → H2 D = some (.lst ((ts.map F).map V.int)) → Qd H2) →
        ∃ W : Nat → Nat → Hp → Prop, (∃ m, W 0 m (upd H1 D (.lst []))) ∧ ∀ i m H, W i m H →
          ((Itt K tp).stop i H ∧ Qd H) ∨ ((Itt K tp).go i H ∧ ∃ Nx : Hp → Prop, (∀ H', Nx H' → ∃ m', m' < m ∧ W (i + 1) m' H') ∧ ∀ x H', (Itt K tp).yld i H x H' → gName 5 x (wipe [some (.ref tp), x1, x2, x3, x4, x5] [5]) H' fun σ2 H2 => wipe σ2 [5] = wipe [some (.ref tp), x1, x2, x3, x4, x5] [5] ∧ tYes σ2 H2 fun b H3 =>
            if b = true then tFld K (tVar 5) nm σ2 H3 fun y H4 => ∃ acc, H4 D = some (.lst acc) ∧ acc.length < sizeLine ∧ Nx (upd H4 D (.lst (acc ++ [y]))) else Nx H3) := fun nm F hF hA H1 s1 D hD x1 x2 x3 x4 x5 Qd q2 => by
      refine lc_it (walk_tup (xs := as.map V.ref)) (fun i H3 => H3 D = some (.lst (((ts.take i).map F).map V.int)) ∧ Same H1 H3) ⟨upd_same, sameAt (Same.refl H1) hD⟩ (fun i H3 _ hv => SqT.of (hv.2 _ _ (s1 _ _ ht))) ?_ ?_
      · rintro i x H3 H4 hi ⟨hD3, s3⟩ ⟨rfl, hx⟩
        rw [List.length_map] at hi
        rw [List.getElem?_map, List.getElem?_eq_getElem hi, Option.map_some] at hx
        cases hx
        have hi2 : i < ts.length := by rw [← hl]; exact hi
        have ht2 := List.getElem?_eq_getElem hi2
        have hm := (hT i _ _ (List.getElem?_eq_getElem hi) ht2).same (s1.trans s3)
        obtain ⟨dx, fs, sp, In⟩ := hm.in_
        refine ⟨rfl, _, rfl, _, _, dx, fs, _, rfl, In.at_, T.cl _ (C.is_of _), T.no _ (C.is_of _) _ hA, hF In, _, hD3, ?_, ?_, sameAt s3 hD⟩
        · rw [List.length_map, List.length_map, List.length_take]
          exact small1000 (by omega)
        · rw [upd_same, list_take ht2, List.map_append, List.map_append]
          rfl
      · rintro H3 ⟨hD3, s3⟩
        rw [List.length_map, hl, List.take_length] at hD3
        exact q2 H3 (s1.trans s3) hD3
    refine ⟨_, (pss_cons (ps_set (i := 3) sc_sizes.nd rfl (Or.inl rfl) (pe_op op_add pe_int (pe_callBK (cr_maxD rfl hu9) (by rfl) B.max (by decide +kernel) (pa_cons (pe_lc (own := [("child", 5)]) (g := gName 5) (tt := tYes) (by rfl) sc_sizes.nd (pi_tup (pv 0)) (blkOk_by (own := [("child", 5)]) (N := ["children", "looks", "choices", "depth", "parts", "child"]) (sc := defScope s_sizes) (by decide +kernel)) (fun _ _ _ _ _ => (pg_name (i := 5) sc_sizes.nd rfl (Or.inl rfl))) (fun _ _ _ _ _ => pts_nil) (fun _ _ _ _ _ => (show PE _ _ (tFld K _ _) from pe_fld (pv 5) rfl))) pa_nil) (pk_cons pe_int pk_nil))))
    (pss_cons (ps_set (i := 4) sc_sizes.nd rfl (Or.inl rfl) (pe_op op_add pe_int (pe_callB (cr_sum rfl) (by rfl) B.sum (by decide +kernel) (pa_cons (pe_lc (own := [("child", 5)]) (g := gName 5) (tt := tYes) (by rfl) sc_sizes.nd (pi_tup (pv 0)) (blkOk_by (own := [("child", 5)]) (N := ["children", "looks", "choices", "depth", "parts", "child"]) (sc := defScope s_sizes) (by decide +kernel)) (fun _ _ _ _ _ => (pg_name (i := 5) sc_sizes.nd rfl (Or.inl rfl))) (fun _ _ _ _ _ => pts_nil) (fun _ _ _ _ _ => (show PE _ _ (tFld K _ _) from pe_fld (pv 5) rfl))) pa_nil))))
    (pss_cons (ps_set (i := 1) sc_sizes.nd rfl (Or.inl rfl) (pe_op op_add (pv 1) (pe_callB (cr_sum rfl) (by rfl) B.sum (by decide +kernel) (pa_cons (pe_lc (own := [("child", 5)]) (g := gName 5) (tt := tYes) (by rfl) sc_sizes.nd (pi_tup (pv 0)) (blkOk_by (own := [("child", 5)]) (N := ["children", "looks", "choices", "depth", "parts", "child"]) (sc := defScope s_sizes) (by decide +kernel)) (fun _ _ _ _ _ => (pg_name (i := 5) sc_sizes.nd rfl (Or.inl rfl))) (fun _ _ _ _ _ => pts_nil) (fun _ _ _ _ _ => (show PE _ _ (tFld K _ _) from pe_fld (pv 5) rfl))) pa_nil))))
    (pss_cons (ps_set (i := 2) sc_sizes.nd rfl (Or.inl rfl) (pe_op op_add (pv 2) (pe_callB (cr_sum rfl) (by rfl) B.sum (by decide +kernel) (pa_cons (pe_lc (own := [("child", 5)]) (g := gName 5) (tt := tYes) (by rfl) sc_sizes.nd (pi_tup (pv 0)) (blkOk_by (own := [("child", 5)]) (N := ["children", "looks", "choices", "depth", "parts", "child"]) (sc := defScope s_sizes) (by decide +kernel)) (fun _ _ _ _ _ => (pg_name (i := 5) sc_sizes.nd rfl (Or.inl rfl))) (fun _ _ _ _ _ => pts_nil) (fun _ _ _ _ _ => (show PE _ _ (tFld K _ _) from pe_fld (pv 5) rfl))) pa_nil))))
    (pss_cons (ps_if (PW.pt (pw_or (pt_cmpR op_gt (pv 3) (pe_glob (v := .int 12) (by rfl) g_MOST_DEPTH ⟨_, rfl⟩) (nomark _)) (pw_or (pt_cmpR op_gt (pv 4) (pe_glob (v := .int 40) (by rfl) g_MOST_PARTS ⟨_, rfl⟩) (nomark _)) (pw_or1 (pt_cmpR op_gt (pv 1) (pe_glob (v := .int 12) (by rfl) g_MOST_LOOKS ⟨_, rfl⟩) (nomark _))))))
      (pss_one (ps_raise rfl (takes_of rfl rfl rfl rfl) (pmk_own0 PySem.F.excBase_ValueError M.ex M.g M.kp (raises_own M.sub M.ty) (by rfl))))
      pss_nil)
    (pss_one (ps_ret (pe_tup (pa_cons (pv 3) (pa_cons (pv 4) (pa_cons (pv 1) (pa_cons (pv 2) pa_nil)))))))))))), ?_⟩
    refine ⟨_, rfl, tp, rfl, ⟨_, SqT.of ht⟩, fun D1 hD1 => comp "depth" Tm.dep (fun i => i.depth) (by decide +kernel) H (Same.refl H) D1 hD1 _ _ _ _ _ _ fun H1 s1 h1 => ?_⟩
    refine ⟨D1, ts.map Tm.dep, 0, rfl, rfl, SqL.of h1, _, _, rfl, rfl, ?_⟩
    refine ⟨_, rfl, tp, rfl, ⟨_, SqT.of (s1 _ _ ht)⟩, fun D2 hD2 => comp "parts" Tm.par (fun i => i.parts) (by decide +kernel) H1 s1 D2 hD2 _ _ _ _ _ _ fun H2 s2 h2' => ?_⟩
    refine ⟨D2, ts.map Tm.par, rfl, SqL.of h2', _, _, rfl, rfl, _, rfl, ?_⟩
    refine ⟨_, rfl, tp, rfl, ⟨_, SqT.of (s2 _ _ ht)⟩, fun D3 hD3 => comp "looks" Tm.lok (fun i => i.looks) (by decide +kernel) H2 s2 D3 hD3 _ _ _ _ _ _ fun H3 s3 h3 => ?_⟩
    refine ⟨D3, ts.map Tm.lok, rfl, SqL.of h3, _, _, rfl, rfl, _, rfl, ?_⟩
    refine ⟨_, rfl, tp, rfl, ⟨_, SqT.of (s3 _ _ ht)⟩, fun D4 hD4 => comp "choices" Tm.cho (fun i => i.choices) (by decide +kernel) H3 s3 D4 hD4 _ _ _ _ _ _ fun H4 s4 h4 => ?_⟩
    refine ⟨D4, ts.map Tm.cho, rfl, SqL.of h4, _, _, rfl, rfl, ?_⟩
    have e1 : 1 + mxD (ts.map Tm.dep) 0 = szD ts := rfl
    have e2 : 1 + (ts.map Tm.par).sum = szP ts := rfl
    have e3 : (ts.map Tm.lok).sum = szL ts := rfl
    rcases q with ⟨hd, hp, hk, q⟩ | ⟨hx, q⟩
    · have c1 : decide ((12 : Int) < 1 + mxD (ts.map Tm.dep) 0) = false := decide_eq_false (by omega)
      have c2 : decide ((40 : Int) < 1 + (ts.map Tm.par).sum) = false := decide_eq_false (by omega)
      have c3 : decide ((12 : Int) < l0 + (ts.map Tm.lok).sum) = false := decide_eq_false (by omega)
      refine ⟨_, rfl, _, _, rfl, rfl, _, rfl, ?_⟩
      rw [c1]
      refine iteF ⟨_, rfl, _, _, rfl, rfl, _, rfl, ?_⟩
      rw [c2]
      refine iteF ⟨_, rfl, _, _, rfl, rfl, _, rfl, ?_⟩
      rw [c3]
      refine iteF ⟨_, rfl, _, rfl, _, rfl, _, rfl, (by show 4 ≤ sizeLine; decide), fun t ht2 => ?_⟩
      exact q t _ (s4.trans (sameAt (Same.refl H4) ht2)) (none_of s4 ht2) upd_same
    · have gone : E (.ref CT) none H4 := q _ s4
      refine ⟨_, rfl, _, _, rfl, rfl, _, rfl, ?_⟩
      refine ite2 (fun _ => gone) (fun n1 => ?_)
      refine ⟨_, rfl, _, _, rfl, rfl, _, rfl, ?_⟩
      refine ite2 (fun _ => gone) (fun n2 => ?_)
      refine ⟨_, rfl, _, _, rfl, rfl, _, rfl, ?_⟩
      refine ite2 (fun _ => gone) (fun n3 => ?_)
      have n1 : ¬ (12 : Int) < szD ts := fun z => n1 (decide_eq_true z)
      have n2 : ¬ (40 : Int) < szP ts := fun z => n2 (decide_eq_true z)
      have n3 : ¬ (12 : Int) < l0 + szL ts := fun z => n3 (decide_eq_true z)
      omega
/-- the callees of Last.__init__ -/
structure T2X (P : Program) (w : World) (K : PySem.W.Frag) (mg : Str → Option Value) (base : Heap) (C : TC) (CT : Addr) : Prop extends T2 P w K mg base C where
  sizesX : Cal P w K mg base (L2.CX P w) "sizes" 1 ["children", "looks", "choices"] (spSizesX C CT)
theorem ok_lastX {CT : Addr} {f : Addr} {fd : FuncData} (F : Fun K "__init__" "Last.__init__" s_Last_init f fd) (B : Blt mg) (T : TF K mg C) (G : T2X P w K mg base C CT) : FnOk P w K mg base (L2.CX P w) 3 f fd ["self", "stream", "term"] (spInitX C C.last CT Tm.last) := by
  refine F.okX sc_Last_init (fun vs H Q E h => ?_) (fun cdv A outer s H vs Q E hr h => ?_)
  · obtain ⟨b, dx, a, z, t, rfl, _⟩ := h
    rfl
  · obtain ⟨b, dx, a, z, t, rfl, hb, hz, hT, hF0, q⟩ := h
    refine ⟨_, (pss_cons (ps_fld (pv 0) (pe_cal G.checked_stream (hr.mono (by decide)) pass0 (pa_cons (pv 1) pa_nil)) rfl)
    (pss_cons (ps_fld (pv 0) (pe_cal G.checked_term (hr.mono (by decide)) pass0 (pa_cons (pv 2) pa_nil)) rfl)
    (pss_cons (ps_fld (pv 0) (pe_tup (pa_cons pe_str (pa_cons (pv 1) (StX.pa_star (pe_fld (pv 2) rfl) pa_nil)))) rfl)
    (pss_one (ps_asg (pe_cal G.sizesX (hr.mono (by decide)) (passE (takes_of rfl rfl rfl rfl)) (pa_cons (pe_tup (pa_cons (pv 2) pa_nil)) (pa_cons pe_int (pa_cons pe_int pa_nil)))) (pg_tup (by rfl) (pgs_cons (pg_fld (pv 0)) (pgs_cons (pg_fld (pv 0)) (pgs_cons (pg_fld (pv 0)) (pgs_cons (pg_fld (pv 0)) pgs_nil)))))))))), ?_⟩
    obtain ⟨D, hD⟩ : ∃ D, D = C.last := ⟨_, rfl⟩
    have Is : C.Is D := by rw [hD]; exact C.is_of (.last z t)
    rw [← hD] at hb
    refine ⟨_, rfl, z, rfl, hz, fun H1 s1 => ⟨_, rfl, b, D, dx, [], rfl, s1 _ _ hb, T.cl _ Is, T.no _ Is _ (by decide +kernel), (by show 0 < 1000; decide), ?_⟩⟩
    have K1 : Keep b H (upd H1 b (.ins D dx (putF "stream" (.str z) []))) := (Keep.refl.same s1).upd
    refine ⟨_, rfl, a, t, rfl, hT.off hb K1, fun H2 s2 => ⟨_, rfl, b, D, dx, _, rfl, s2 _ _ upd_same, T.cl _ Is, T.no _ Is _ (by decide +kernel), (by show 1 < 1000; decide), ?_⟩⟩
    have K2 : Keep b H (upd H2 b (.ins D dx (putF "term" (.ref a) (putF "stream" (.str z) [])))) := (K1.same s2).upd
    obtain ⟨dx1, fs1, sp1, In⟩ := (hT.off hb K2).in_
    have sl := Tm.spell_len t
    have hF2 : t.par ≤ 40 := hF0.2.1
    refine ⟨_, rfl, _, rfl, _, _, dx1, fs1, _, rfl, In.at_, T.cl _ (C.is_of _), T.no _ (C.is_of _) _ (by decide +kernel), In.spelling, sp1, _, rfl, .inl (SqT.of In.spl), ?_, fun sp hsp => ⟨_, rfl, b, D, dx, _, rfl, sameAt (Same.refl _) hsp _ _ upd_same, T.cl _ Is, T.no _ Is _ (by decide +kernel), (by show 2 < 1000; decide), ?_⟩⟩
    · show (t.spell ++ []).length + 1 + 1 ≤ sizeLine
      rw [sizeLine_eq, List.append_nil]
      omega
    have sb : sp ≠ b := fun z => by rw [z, upd_same] at hsp; cases hsp
    have K3 := (K2.at hsp (u := .tup (.str "last" :: .str z :: (t.spell ++ [])))).upd (u := .ins D dx (putF "spelling" (.ref sp) (putF "term" (.ref a) (putF "stream" (.str z) []))))
    refine ⟨_, rfl, (by show 1 ≤ sizeLine; decide), fun tp htp => ?_⟩
    have K4 := K3.at htp (u := .tup ([a].map V.ref))
    refine ⟨tp, [a], [t], 1, 1, rfl, upd_same, rfl, (by show 1 ≤ 2; decide), (fun i a' t' h1 h2 => ?_), ?_⟩
    · 
      match i, h1, h2 with
      | 0, h1, h2 =>
        cases h1
        cases h2
        exact hT.off hb K4
      | i + 1, h1, h2 => simp at h1
    rcases q with ⟨hF, q⟩ | ⟨hF, q⟩
    rotate_left
    · refine .inr ⟨?_, fun H5 s5 => q H5 (K4.same s5)⟩
      rw [szD1, szP1, szL1]
      have hF : ¬ (1 + t.dep ≤ 12 ∧ 1 + t.par ≤ 40 ∧ 1 + t.lok ≤ 12) := hF
      omega
    refine .inl ⟨(by rw [szD1]; exact hF.1), (by rw [szP1]; exact hF.2.1), (by rw [szL1]; exact hF.2.2), fun q1 H5 s5 hq1 hq5 => ?_⟩
    have K5 := K4.same s5
    obtain ⟨fs0, hf⟩ : ∃ fs0, fs0 = putF "spelling" (.ref sp) (putF "term" (.ref a) (putF "stream" (.str z) [])) := ⟨_, rfl⟩
    have HB : H5 b = some (.ins D dx fs0) := by rw [hf]; exact s5 _ _ (sameAt (Same.refl _) htp _ _ upd_same)
    have hs5 : H5 sp = some (.tup (.str "last" :: .str z :: (t.spell ++ []))) := s5 _ _ (sameAt (Same.refl _) htp _ _ (by rw [upd_ne sb, upd_same]))
    have h0 : fs0.length ≤ 3 := by rw [hf]; exact pl (pl (pl (Nat.le_refl 0)))
    refine ⟨q1, _, rfl, SqT.of hq5, rfl, _, _, rfl, _, rfl, b, D, dx, fs0, rfl, HB, T.cl _ Is, T.no _ Is _ (by decide +kernel), Nat.lt_of_le_of_lt h0 (by decide), _, _, rfl, _, rfl, b, D, dx, _, rfl, upd_same, T.cl _ Is, T.no _ Is _ (by decide +kernel), Nat.lt_of_le_of_lt (pl h0) (by decide), _, _, rfl, _, rfl, b, D, dx, _, rfl, upd_same, T.cl _ Is, T.no _ Is _ (by decide +kernel), Nat.lt_of_le_of_lt (pl (pl h0)) (by decide), _, _, rfl, _, rfl, b, D, dx, _, rfl, upd_same, T.cl _ Is, T.no _ Is _ (by decide +kernel), Nat.lt_of_le_of_lt (pl (pl (pl h0))) (by decide), rfl, ?_⟩
    have K9 := (((K5.upd (u := .ins D dx (putF "depth" (.int (szD [t])) fs0))).upd (u := .ins D dx (putF "parts" (.int (szP [t])) (putF "depth" (.int (szD [t])) fs0)))).upd (u := .ins D dx (putF "looks" (.int (1 + szL [t])) (putF "parts" (.int (szP [t])) (putF "depth" (.int (szD [t])) fs0))))).upd (u := .ins D dx (putF "choices" (.int (1 + szC [t])) (putF "looks" (.int (1 + szL [t])) (putF "parts" (.int (szP [t])) (putF "depth" (.int (szD [t])) fs0)))))
    refine q _ ⟨dx, a, sp, ?_, ?_, hT.off hb K9⟩ K9
    · rw [upd_same, hf, pre2 (by decide +kernel), fend (by rfl) (by rfl) (by rfl) (by rfl) (by rfl), hD, szD1, szP1, szL1, szC1]
      rfl
    · rw [upd_ne sb, upd_ne sb, upd_ne sb, upd_ne sb, hs5]
      simp [Tm.spell]
theorem ok_nextX {CT : Addr} {f : Addr} {fd : FuncData} (F : Fun K "__init__" "Next.__init__" s_Next_init f fd) (B : Blt mg) (T : TF K mg C) (G : T2X P w K mg base C CT) : FnOk P w K mg base (L2.CX P w) 3 f fd ["self", "stream", "term"] (spInitX C C.next CT Tm.next) := by
  refine F.okX sc_Next_init (fun vs H Q E h => ?_) (fun cdv A outer s H vs Q E hr h => ?_)
  · obtain ⟨b, dx, a, z, t, rfl, _⟩ := h
    rfl
  · obtain ⟨b, dx, a, z, t, rfl, hb, hz, hT, hF0, q⟩ := h
    refine ⟨_, (pss_cons (ps_fld (pv 0) (pe_cal G.checked_stream (hr.mono (by decide)) pass0 (pa_cons (pv 1) pa_nil)) rfl)
    (pss_cons (ps_fld (pv 0) (pe_cal G.checked_term (hr.mono (by decide)) pass0 (pa_cons (pv 2) pa_nil)) rfl)
    (pss_cons (ps_fld (pv 0) (pe_tup (pa_cons pe_str (pa_cons (pv 1) (StX.pa_star (pe_fld (pv 2) rfl) pa_nil)))) rfl)
    (pss_one (ps_asg (pe_cal G.sizesX (hr.mono (by decide)) (passE (takes_of rfl rfl rfl rfl)) (pa_cons (pe_tup (pa_cons (pv 2) pa_nil)) (pa_cons pe_int (pa_cons pe_int pa_nil)))) (pg_tup (by rfl) (pgs_cons (pg_fld (pv 0)) (pgs_cons (pg_fld (pv 0)) (pgs_cons (pg_fld (pv 0)) (pgs_cons (pg_fld (pv 0)) pgs_nil)))))))))), ?_⟩
    obtain ⟨D, hD⟩ : ∃ D, D = C.next := ⟨_, rfl⟩
    have Is : C.Is D := by rw [hD]; exact C.is_of (.next z t)
    rw [← hD] at hb
    refine ⟨_, rfl, z, rfl, hz, fun H1 s1 => ⟨_, rfl, b, D, dx, [], rfl, s1 _ _ hb, T.cl _ Is, T.no _ Is _ (by decide +kernel), (by show 0 < 1000; decide), ?_⟩⟩
    have K1 : Keep b H (upd H1 b (.ins D dx (putF "stream" (.str z) []))) := (Keep.refl.same s1).upd
    refine ⟨_, rfl, a, t, rfl, hT.off hb K1, fun H2 s2 => ⟨_, rfl, b, D, dx, _, rfl, s2 _ _ upd_same, T.cl _ Is, T.no _ Is _ (by decide +kernel), (by show 1 < 1000; decide), ?_⟩⟩
    have K2 : Keep b H (upd H2 b (.ins D dx (putF "term" (.ref a) (putF "stream" (.str z) [])))) := (K1.same s2).upd
    obtain ⟨dx1, fs1, sp1, In⟩ := (hT.off hb K2).in_
    have sl := Tm.spell_len t
    have hF2 : t.par ≤ 40 := hF0.2.1
    refine ⟨_, rfl, _, rfl, _, _, dx1, fs1, _, rfl, In.at_, T.cl _ (C.is_of _), T.no _ (C.is_of _) _ (by decide +kernel), In.spelling, sp1, _, rfl, .inl (SqT.of In.spl), ?_, fun sp hsp => ⟨_, rfl, b, D, dx, _, rfl, sameAt (Same.refl _) hsp _ _ upd_same, T.cl _ Is, T.no _ Is _ (by decide +kernel), (by show 2 < 1000; decide), ?_⟩⟩
    · show (t.spell ++ []).length + 1 + 1 ≤ sizeLine
      rw [sizeLine_eq, List.append_nil]
      omega
    have sb : sp ≠ b := fun z => by rw [z, upd_same] at hsp; cases hsp
    have K3 := (K2.at hsp (u := .tup (.str "next" :: .str z :: (t.spell ++ [])))).upd (u := .ins D dx (putF "spelling" (.ref sp) (putF "term" (.ref a) (putF "stream" (.str z) []))))
    refine ⟨_, rfl, (by show 1 ≤ sizeLine; decide), fun tp htp => ?_⟩
    have K4 := K3.at htp (u := .tup ([a].map V.ref))
    refine ⟨tp, [a], [t], 1, 1, rfl, upd_same, rfl, (by show 1 ≤ 2; decide), (fun i a' t' h1 h2 => ?_), ?_⟩
    · 
      match i, h1, h2 with
      | 0, h1, h2 =>
        cases h1
        cases h2
        exact hT.off hb K4
      | i + 1, h1, h2 => simp at h1
    rcases q with ⟨hF, q⟩ | ⟨hF, q⟩
    rotate_left
    · refine .inr ⟨?_, fun H5 s5 => q H5 (K4.same s5)⟩
      rw [szD1, szP1, szL1]
      have hF : ¬ (1 + t.dep ≤ 12 ∧ 1 + t.par ≤ 40 ∧ 1 + t.lok ≤ 12) := hF
      omega
    refine .inl ⟨(by rw [szD1]; exact hF.1), (by rw [szP1]; exact hF.2.1), (by rw [szL1]; exact hF.2.2), fun q1 H5 s5 hq1 hq5 => ?_⟩
    have K5 := K4.same s5
    obtain ⟨fs0, hf⟩ : ∃ fs0, fs0 = putF "spelling" (.ref sp) (putF "term" (.ref a) (putF "stream" (.str z) [])) := ⟨_, rfl⟩
    have HB : H5 b = some (.ins D dx fs0) := by rw [hf]; exact s5 _ _ (sameAt (Same.refl _) htp _ _ upd_same)
    have hs5 : H5 sp = some (.tup (.str "next" :: .str z :: (t.spell ++ []))) := s5 _ _ (sameAt (Same.refl _) htp _ _ (by rw [upd_ne sb, upd_same]))
    have h0 : fs0.length ≤ 3 := by rw [hf]; exact pl (pl (pl (Nat.le_refl 0)))
    refine ⟨q1, _, rfl, SqT.of hq5, rfl, _, _, rfl, _, rfl, b, D, dx, fs0, rfl, HB, T.cl _ Is, T.no _ Is _ (by decide +kernel), Nat.lt_of_le_of_lt h0 (by decide), _, _, rfl, _, rfl, b, D, dx, _, rfl, upd_same, T.cl _ Is, T.no _ Is _ (by decide +kernel), Nat.lt_of_le_of_lt (pl h0) (by decide), _, _, rfl, _, rfl, b, D, dx, _, rfl, upd_same, T.cl _ Is, T.no _ Is _ (by decide +kernel), Nat.lt_of_le_of_lt (pl (pl h0)) (by decide), _, _, rfl, _, rfl, b, D, dx, _, rfl, upd_same, T.cl _ Is, T.no _ Is _ (by decide +kernel), Nat.lt_of_le_of_lt (pl (pl (pl h0))) (by decide), rfl, ?_⟩
    have K9 := (((K5.upd (u := .ins D dx (putF "depth" (.int (szD [t])) fs0))).upd (u := .ins D dx (putF "parts" (.int (szP [t])) (putF "depth" (.int (szD [t])) fs0)))).upd (u := .ins D dx (putF "looks" (.int (1 + szL [t])) (putF "parts" (.int (szP [t])) (putF "depth" (.int (szD [t])) fs0))))).upd (u := .ins D dx (putF "choices" (.int (1 + szC [t])) (putF "looks" (.int (1 + szL [t])) (putF "parts" (.int (szP [t])) (putF "depth" (.int (szD [t])) fs0)))))
    refine q _ ⟨dx, a, sp, ?_, ?_, hT.off hb K9⟩ K9
    · rw [upd_same, hf, pre2 (by decide +kernel), fend (by rfl) (by rfl) (by rfl) (by rfl) (by rfl), hD, szD1, szP1, szL1, szC1]
      rfl
    · rw [upd_ne sb, upd_ne sb, upd_ne sb, upd_ne sb, hs5]
      simp [Tm.spell]
theorem ok_shiftX {CT : Addr} {f : Addr} {fd : FuncData} (F : Fun K "__init__" "Shift.__init__" s_Shift_init f fd) (B : Blt mg) (T : TF K mg C) (G : T2X P w K mg base C CT) : FnOk P w K mg base (L2.CX P w) 2 f fd ["self", "term", "amount"] (spInitSX C CT) := by
  refine F.okX sc_Shift_init (fun vs H Q E h => ?_) (fun cdv A outer s H vs Q E hr h => ?_)
  · obtain ⟨b, dx, a, n, t, rfl, _⟩ := h
    rfl
  · obtain ⟨b, dx, a, n, t, rfl, hb, hT, hF0, q⟩ := h
    refine ⟨_, (pss_cons (ps_fld (pv 0) (pv 1) rfl)
    (pss_cons (ps_fld (pv 0) (pv 2) rfl)
    (pss_cons (ps_fld (pv 0) (pe_tup (pa_cons pe_str (pa_cons (pv 2) (StX.pa_star (pe_fld (pv 1) rfl) pa_nil)))) rfl)
    (pss_one (ps_asg (pe_cal G.sizesX (hr.mono (by decide)) (passE (takes_of rfl rfl rfl rfl)) (pa_cons (pe_tup (pa_cons (pv 1) pa_nil)) (pa_cons pe_int (pa_cons pe_int pa_nil)))) (pg_tup (by rfl) (pgs_cons (pg_fld (pv 0)) (pgs_cons (pg_fld (pv 0)) (pgs_cons (pg_fld (pv 0)) (pgs_cons (pg_fld (pv 0)) pgs_nil)))))))))), ?_⟩
    obtain ⟨D, hD⟩ : ∃ D, D = C.shift := ⟨_, rfl⟩
    have Is : C.Is D := by rw [hD]; exact C.is_of (.shift n t)
    rw [← hD] at hb
    refine ⟨_, rfl, _, rfl, b, D, dx, [], rfl, hb, T.cl _ Is, T.no _ Is _ (by decide +kernel), (by show 0 < 1000; decide), ?_⟩
    have K1 : Keep b H (upd H b (.ins D dx (putF "term" (.ref a) []))) := Keep.refl.upd
    refine ⟨_, rfl, _, rfl, b, D, dx, _, rfl, upd_same, T.cl _ Is, T.no _ Is _ (by decide +kernel), (by show 1 < 1000; decide), ?_⟩
    have K2 : Keep b H (upd _ b (.ins D dx (putF "amount" (.int n) (putF "term" (.ref a) [])))) := K1.upd
    obtain ⟨dx1, fs1, sp1, In⟩ := (hT.off hb K2).in_
    have sl := Tm.spell_len t
    have hF2 : t.par ≤ 40 := hF0.2.1
    refine ⟨_, rfl, _, rfl, _, _, dx1, fs1, _, rfl, In.at_, T.cl _ (C.is_of _), T.no _ (C.is_of _) _ (by decide +kernel), In.spelling, sp1, _, rfl, .inl (SqT.of In.spl), ?_, fun sp hsp => ⟨_, rfl, b, D, dx, _, rfl, sameAt (Same.refl _) hsp _ _ upd_same, T.cl _ Is, T.no _ Is _ (by decide +kernel), (by show 2 < 1000; decide), ?_⟩⟩
    · show (t.spell ++ []).length + 1 + 1 ≤ sizeLine
      rw [sizeLine_eq, List.append_nil]
      omega
    have sb : sp ≠ b := fun z => by rw [z, upd_same] at hsp; cases hsp
    have K3 := (K2.at hsp (u := .tup (.str "shift" :: .int n :: (t.spell ++ [])))).upd (u := .ins D dx (putF "spelling" (.ref sp) (putF "amount" (.int n) (putF "term" (.ref a) []))))
    refine ⟨_, rfl, (by show 1 ≤ sizeLine; decide), fun tp htp => ?_⟩
    have K4 := K3.at htp (u := .tup ([a].map V.ref))
    refine ⟨tp, [a], [t], 0, 0, rfl, upd_same, rfl, (by show 1 ≤ 2; decide), (fun i a' t' h1 h2 => ?_), ?_⟩
    · 
      match i, h1, h2 with
      | 0, h1, h2 =>
        cases h1
        cases h2
        exact hT.off hb K4
      | i + 1, h1, h2 => simp at h1
    rcases q with ⟨hF, q⟩ | ⟨hF, q⟩
    rotate_left
    · refine .inr ⟨?_, fun H5 s5 => q H5 (K4.same s5)⟩
      rw [szD1, szP1, szL1]
      have hF : ¬ (1 + t.dep ≤ 12 ∧ 1 + t.par ≤ 40 ∧ 0 + t.lok ≤ 12) := hF
      omega
    refine .inl ⟨(by rw [szD1]; exact hF.1), (by rw [szP1]; exact hF.2.1), (by rw [szL1]; exact hF.2.2), fun q1 H5 s5 hq1 hq5 => ?_⟩
    have K5 := K4.same s5
    obtain ⟨fs0, hf⟩ : ∃ fs0, fs0 = putF "spelling" (.ref sp) (putF "amount" (.int n) (putF "term" (.ref a) [])) := ⟨_, rfl⟩
    have HB : H5 b = some (.ins D dx fs0) := by rw [hf]; exact s5 _ _ (sameAt (Same.refl _) htp _ _ upd_same)
    have hs5 : H5 sp = some (.tup (.str "shift" :: .int n :: (t.spell ++ []))) := s5 _ _ (sameAt (Same.refl _) htp _ _ (by rw [upd_ne sb, upd_same]))
    have h0 : fs0.length ≤ 3 := by rw [hf]; exact pl (pl (pl (Nat.le_refl 0)))
    refine ⟨q1, _, rfl, SqT.of hq5, rfl, _, _, rfl, _, rfl, b, D, dx, fs0, rfl, HB, T.cl _ Is, T.no _ Is _ (by decide +kernel), Nat.lt_of_le_of_lt h0 (by decide), _, _, rfl, _, rfl, b, D, dx, _, rfl, upd_same, T.cl _ Is, T.no _ Is _ (by decide +kernel), Nat.lt_of_le_of_lt (pl h0) (by decide), _, _, rfl, _, rfl, b, D, dx, _, rfl, upd_same, T.cl _ Is, T.no _ Is _ (by decide +kernel), Nat.lt_of_le_of_lt (pl (pl h0)) (by decide), _, _, rfl, _, rfl, b, D, dx, _, rfl, upd_same, T.cl _ Is, T.no _ Is _ (by decide +kernel), Nat.lt_of_le_of_lt (pl (pl (pl h0))) (by decide), rfl, ?_⟩
    have K9 := (((K5.upd (u := .ins D dx (putF "depth" (.int (szD [t])) fs0))).upd (u := .ins D dx (putF "parts" (.int (szP [t])) (putF "depth" (.int (szD [t])) fs0)))).upd (u := .ins D dx (putF "looks" (.int (0 + szL [t])) (putF "parts" (.int (szP [t])) (putF "depth" (.int (szD [t])) fs0))))).upd (u := .ins D dx (putF "choices" (.int (0 + szC [t])) (putF "looks" (.int (0 + szL [t])) (putF "parts" (.int (szP [t])) (putF "depth" (.int (szD [t])) fs0)))))
    refine q _ ⟨dx, a, sp, ?_, ?_, hT.off hb K9⟩ K9
    · rw [upd_same, hf, pre2 (by decide +kernel), fend (by rfl) (by rfl) (by rfl) (by rfl) (by rfl), hD, szD1, szP1, szL1, szC1]
      rfl
    · rw [upd_ne sb, upd_ne sb, upd_ne sb, upd_ne sb, hs5]
      simp [Tm.spell]
theorem ok_eitherX {CT : Addr} {f : Addr} {fd : FuncData} (F : Fun K "__init__" "Either.__init__" s_Either_init f fd) (B : Blt mg) (T : TF K mg C) (G : T2X P w K mg base C CT) : FnOk P w K mg base (L2.CX P w) 2 f fd ["self", "first", "second"] (spInitPX C C.either CT Tm.either) := by
  refine F.okX sc_Either_init (fun vs H Q E h => ?_) (fun cdv A outer s H vs Q E hr h => ?_)
  · obtain ⟨b, dx, a, c, t, u, rfl, _⟩ := h
    rfl
  · obtain ⟨b, dx, a, c, t, u, rfl, hb, hT, hU, hF0, hF1, q⟩ := h
    refine ⟨_, (pss_cons (ps_fld (pv 0) (pv 1) rfl)
    (pss_cons (ps_fld (pv 0) (pv 2) rfl)
    (pss_cons (ps_fld (pv 0) (pe_tup (pa_cons pe_str (StX.pa_star (pe_fld (pv 1) rfl) (StX.pa_star (pe_fld (pv 2) rfl) pa_nil)))) rfl)
    (pss_one (ps_asg (pe_cal G.sizesX (hr.mono (by decide)) (passE (takes_of rfl rfl rfl rfl)) (pa_cons (pe_tup (pa_cons (pv 1) (pa_cons (pv 2) pa_nil))) (pa_cons pe_int (pa_cons pe_int pa_nil)))) (pg_tup (by rfl) (pgs_cons (pg_fld (pv 0)) (pgs_cons (pg_fld (pv 0)) (pgs_cons (pg_fld (pv 0)) (pgs_cons (pg_fld (pv 0)) pgs_nil)))))))))), ?_⟩
    obtain ⟨D, hD⟩ : ∃ D, D = C.either := ⟨_, rfl⟩
    have Is : C.Is D := by rw [hD]; exact C.is_of (.either t u)
    rw [← hD] at hb
    refine ⟨_, rfl, _, rfl, b, D, dx, [], rfl, hb, T.cl _ Is, T.no _ Is _ (by decide +kernel), (by show 0 < 1000; decide), ?_⟩
    have K1 : Keep b H (upd H b (.ins D dx (putF "first" (.ref a) []))) := Keep.refl.upd
    refine ⟨_, rfl, _, rfl, b, D, dx, _, rfl, upd_same, T.cl _ Is, T.no _ Is _ (by decide +kernel), (by show 1 < 1000; decide), ?_⟩
    have K2 : Keep b H (upd _ b (.ins D dx (putF "second" (.ref c) (putF "first" (.ref a) [])))) := K1.upd
    obtain ⟨dx1, fs1, sp1, In⟩ := (hT.off hb K2).in_
    have sl := Tm.spell_len t
    obtain ⟨dx2, fs2, sp2, In2⟩ := (hU.off hb K2).in_
    have sl2 := Tm.spell_len u
    have hF2 : t.par + u.par ≤ 80 := by
      have h1 : t.par ≤ 40 := hF0.2.1
      have h2 : u.par ≤ 40 := hF1.2.1
      omega
    refine ⟨_, rfl, _, _, dx1, fs1, _, rfl, In.at_, T.cl _ (C.is_of _), T.no _ (C.is_of _) _ (by decide +kernel), In.spelling, sp1, _, rfl, .inl (SqT.of In.spl), _, rfl, _, _, dx2, fs2, _, rfl, In2.at_, T.cl _ (C.is_of _), T.no _ (C.is_of _) _ (by decide +kernel), In2.spelling, sp2, _, rfl, .inl (SqT.of In2.spl), ?_, fun sp hsp => ⟨_, rfl, b, D, dx, _, rfl, sameAt (Same.refl _) hsp _ _ upd_same, T.cl _ Is, T.no _ Is _ (by decide +kernel), (by show 2 < 1000; decide), ?_⟩⟩
    · show (t.spell ++ (u.spell ++ [])).length + 1 ≤ sizeLine
      rw [sizeLine_eq, List.length_append, List.append_nil]
      omega
    have sb : sp ≠ b := fun z => by rw [z, upd_same] at hsp; cases hsp
    have K3 := (K2.at hsp (u := .tup (.str "either" :: (t.spell ++ (u.spell ++ []))))).upd (u := .ins D dx (putF "spelling" (.ref sp) (putF "second" (.ref c) (putF "first" (.ref a) []))))
    refine ⟨_, rfl, _, rfl, (by show 2 ≤ sizeLine; decide), fun tp htp => ?_⟩
    have K4 := K3.at htp (u := .tup ([a, c].map V.ref))
    refine ⟨tp, [a, c], [t, u], 0, 0, rfl, upd_same, rfl, (by show 2 ≤ 2; decide), (fun i a' t' h1 h2 => ?_), ?_⟩
    · 
      match i, h1, h2 with
      | 0, h1, h2 =>
        cases h1
        cases h2
        exact hT.off hb K4
      | 1, h1, h2 =>
        cases h1
        cases h2
        exact hU.off hb K4
      | i + 2, h1, h2 => simp at h1
    rcases q with ⟨hF, q⟩ | ⟨hF, q⟩
    rotate_left
    · refine .inr ⟨?_, fun H5 s5 => q H5 (K4.same s5)⟩
      rw [szD2, szP2, szL2]
      have hF : ¬ (1 + Tm.mx t.dep u.dep ≤ 12 ∧ 1 + (t.par + u.par) ≤ 40 ∧ 0 + (t.lok + u.lok) ≤ 12) := hF
      omega
    refine .inl ⟨(by rw [szD2]; exact hF.1), (by rw [szP2]; exact hF.2.1), (by rw [szL2]; exact hF.2.2), fun q1 H5 s5 hq1 hq5 => ?_⟩
    have K5 := K4.same s5
    obtain ⟨fs0, hf⟩ : ∃ fs0, fs0 = putF "spelling" (.ref sp) (putF "second" (.ref c) (putF "first" (.ref a) [])) := ⟨_, rfl⟩
    have HB : H5 b = some (.ins D dx fs0) := by rw [hf]; exact s5 _ _ (sameAt (Same.refl _) htp _ _ upd_same)
    have hs5 : H5 sp = some (.tup (.str "either" :: (t.spell ++ (u.spell ++ [])))) := s5 _ _ (sameAt (Same.refl _) htp _ _ (by rw [upd_ne sb, upd_same]))
    have h0 : fs0.length ≤ 3 := by rw [hf]; exact pl (pl (pl (Nat.le_refl 0)))
    refine ⟨q1, _, rfl, SqT.of hq5, rfl, _, _, rfl, _, rfl, b, D, dx, fs0, rfl, HB, T.cl _ Is, T.no _ Is _ (by decide +kernel), Nat.lt_of_le_of_lt h0 (by decide), _, _, rfl, _, rfl, b, D, dx, _, rfl, upd_same, T.cl _ Is, T.no _ Is _ (by decide +kernel), Nat.lt_of_le_of_lt (pl h0) (by decide), _, _, rfl, _, rfl, b, D, dx, _, rfl, upd_same, T.cl _ Is, T.no _ Is _ (by decide +kernel), Nat.lt_of_le_of_lt (pl (pl h0)) (by decide), _, _, rfl, _, rfl, b, D, dx, _, rfl, upd_same, T.cl _ Is, T.no _ Is _ (by decide +kernel), Nat.lt_of_le_of_lt (pl (pl (pl h0))) (by decide), rfl, ?_⟩
    have K9 := (((K5.upd (u := .ins D dx (putF "depth" (.int (szD [t, u])) fs0))).upd (u := .ins D dx (putF "parts" (.int (szP [t, u])) (putF "depth" (.int (szD [t, u])) fs0)))).upd (u := .ins D dx (putF "looks" (.int (0 + szL [t, u])) (putF "parts" (.int (szP [t, u])) (putF "depth" (.int (szD [t, u])) fs0))))).upd (u := .ins D dx (putF "choices" (.int (0 + szC [t, u])) (putF "looks" (.int (0 + szL [t, u])) (putF "parts" (.int (szP [t, u])) (putF "depth" (.int (szD [t, u])) fs0)))))
    refine q _ ⟨dx, a, c, sp, ?_, ?_, hT.off hb K9, hU.off hb K9⟩ K9
    · rw [upd_same, hf, pre2 (by decide +kernel), fend (by rfl) (by rfl) (by rfl) (by rfl) (by rfl), hD, szD2, szP2, szL2, szC2]
      rfl
    · rw [upd_ne sb, upd_ne sb, upd_ne sb, upd_ne sb, hs5]
      simp [Tm.spell]
theorem ok_laterX {CT : Addr} {f : Addr} {fd : FuncData} (F : Fun K "__init__" "Later.__init__" s_Later_init f fd) (B : Blt mg) (T : TF K mg C) (G : T2X P w K mg base C CT) : FnOk P w K mg base (L2.CX P w) 2 f fd ["self", "first", "second"] (spInitPX C C.later CT Tm.later) := by
  refine F.okX sc_Later_init (fun vs H Q E h => ?_) (fun cdv A outer s H vs Q E hr h => ?_)
  · obtain ⟨b, dx, a, c, t, u, rfl, _⟩ := h
    rfl
  · obtain ⟨b, dx, a, c, t, u, rfl, hb, hT, hU, hF0, hF1, q⟩ := h
    refine ⟨_, (pss_cons (ps_fld (pv 0) (pv 1) rfl)
    (pss_cons (ps_fld (pv 0) (pv 2) rfl)
    (pss_cons (ps_fld (pv 0) (pe_tup (pa_cons pe_str (StX.pa_star (pe_fld (pv 1) rfl) (StX.pa_star (pe_fld (pv 2) rfl) pa_nil)))) rfl)
    (pss_one (ps_asg (pe_cal G.sizesX (hr.mono (by decide)) (passE (takes_of rfl rfl rfl rfl)) (pa_cons (pe_tup (pa_cons (pv 1) (pa_cons (pv 2) pa_nil))) (pa_cons pe_int (pa_cons pe_int pa_nil)))) (pg_tup (by rfl) (pgs_cons (pg_fld (pv 0)) (pgs_cons (pg_fld (pv 0)) (pgs_cons (pg_fld (pv 0)) (pgs_cons (pg_fld (pv 0)) pgs_nil)))))))))), ?_⟩
    obtain ⟨D, hD⟩ : ∃ D, D = C.later := ⟨_, rfl⟩
    have Is : C.Is D := by rw [hD]; exact C.is_of (.later t u)
    rw [← hD] at hb
    refine ⟨_, rfl, _, rfl, b, D, dx, [], rfl, hb, T.cl _ Is, T.no _ Is _ (by decide +kernel), (by show 0 < 1000; decide), ?_⟩
    have K1 : Keep b H (upd H b (.ins D dx (putF "first" (.ref a) []))) := Keep.refl.upd
    refine ⟨_, rfl, _, rfl, b, D, dx, _, rfl, upd_same, T.cl _ Is, T.no _ Is _ (by decide +kernel), (by show 1 < 1000; decide), ?_⟩
    have K2 : Keep b H (upd _ b (.ins D dx (putF "second" (.ref c) (putF "first" (.ref a) [])))) := K1.upd
    obtain ⟨dx1, fs1, sp1, In⟩ := (hT.off hb K2).in_
    have sl := Tm.spell_len t
    obtain ⟨dx2, fs2, sp2, In2⟩ := (hU.off hb K2).in_
    have sl2 := Tm.spell_len u
    have hF2 : t.par + u.par ≤ 80 := by
      have h1 : t.par ≤ 40 := hF0.2.1
      have h2 : u.par ≤ 40 := hF1.2.1
      omega
    refine ⟨_, rfl, _, _, dx1, fs1, _, rfl, In.at_, T.cl _ (C.is_of _), T.no _ (C.is_of _) _ (by decide +kernel), In.spelling, sp1, _, rfl, .inl (SqT.of In.spl), _, rfl, _, _, dx2, fs2, _, rfl, In2.at_, T.cl _ (C.is_of _), T.no _ (C.is_of _) _ (by decide +kernel), In2.spelling, sp2, _, rfl, .inl (SqT.of In2.spl), ?_, fun sp hsp => ⟨_, rfl, b, D, dx, _, rfl, sameAt (Same.refl _) hsp _ _ upd_same, T.cl _ Is, T.no _ Is _ (by decide +kernel), (by show 2 < 1000; decide), ?_⟩⟩
    · show (t.spell ++ (u.spell ++ [])).length + 1 ≤ sizeLine
      rw [sizeLine_eq, List.length_append, List.append_nil]
      omega
    have sb : sp ≠ b := fun z => by rw [z, upd_same] at hsp; cases hsp
    have K3 := (K2.at hsp (u := .tup (.str "later" :: (t.spell ++ (u.spell ++ []))))).upd (u := .ins D dx (putF "spelling" (.ref sp) (putF "second" (.ref c) (putF "first" (.ref a) []))))
    refine ⟨_, rfl, _, rfl, (by show 2 ≤ sizeLine; decide), fun tp htp => ?_⟩
    have K4 := K3.at htp (u := .tup ([a, c].map V.ref))
    refine ⟨tp, [a, c], [t, u], 0, 1, rfl, upd_same, rfl, (by show 2 ≤ 2; decide), (fun i a' t' h1 h2 => ?_), ?_⟩
    · 
      match i, h1, h2 with
      | 0, h1, h2 =>
        cases h1
        cases h2
        exact hT.off hb K4
      | 1, h1, h2 =>
        cases h1
        cases h2
        exact hU.off hb K4
      | i + 2, h1, h2 => simp at h1
    rcases q with ⟨hF, q⟩ | ⟨hF, q⟩
    rotate_left
    · refine .inr ⟨?_, fun H5 s5 => q H5 (K4.same s5)⟩
      rw [szD2, szP2, szL2]
      have hF : ¬ (1 + Tm.mx t.dep u.dep ≤ 12 ∧ 1 + (t.par + u.par) ≤ 40 ∧ 0 + (t.lok + u.lok) ≤ 12) := hF
      omega
    refine .inl ⟨(by rw [szD2]; exact hF.1), (by rw [szP2]; exact hF.2.1), (by rw [szL2]; exact hF.2.2), fun q1 H5 s5 hq1 hq5 => ?_⟩
    have K5 := K4.same s5
    obtain ⟨fs0, hf⟩ : ∃ fs0, fs0 = putF "spelling" (.ref sp) (putF "second" (.ref c) (putF "first" (.ref a) [])) := ⟨_, rfl⟩
    have HB : H5 b = some (.ins D dx fs0) := by rw [hf]; exact s5 _ _ (sameAt (Same.refl _) htp _ _ upd_same)
    have hs5 : H5 sp = some (.tup (.str "later" :: (t.spell ++ (u.spell ++ [])))) := s5 _ _ (sameAt (Same.refl _) htp _ _ (by rw [upd_ne sb, upd_same]))
    have h0 : fs0.length ≤ 3 := by rw [hf]; exact pl (pl (pl (Nat.le_refl 0)))
    refine ⟨q1, _, rfl, SqT.of hq5, rfl, _, _, rfl, _, rfl, b, D, dx, fs0, rfl, HB, T.cl _ Is, T.no _ Is _ (by decide +kernel), Nat.lt_of_le_of_lt h0 (by decide), _, _, rfl, _, rfl, b, D, dx, _, rfl, upd_same, T.cl _ Is, T.no _ Is _ (by decide +kernel), Nat.lt_of_le_of_lt (pl h0) (by decide), _, _, rfl, _, rfl, b, D, dx, _, rfl, upd_same, T.cl _ Is, T.no _ Is _ (by decide +kernel), Nat.lt_of_le_of_lt (pl (pl h0)) (by decide), _, _, rfl, _, rfl, b, D, dx, _, rfl, upd_same, T.cl _ Is, T.no _ Is _ (by decide +kernel), Nat.lt_of_le_of_lt (pl (pl (pl h0))) (by decide), rfl, ?_⟩
    have K9 := (((K5.upd (u := .ins D dx (putF "depth" (.int (szD [t, u])) fs0))).upd (u := .ins D dx (putF "parts" (.int (szP [t, u])) (putF "depth" (.int (szD [t, u])) fs0)))).upd (u := .ins D dx (putF "looks" (.int (0 + szL [t, u])) (putF "parts" (.int (szP [t, u])) (putF "depth" (.int (szD [t, u])) fs0))))).upd (u := .ins D dx (putF "choices" (.int (1 + szC [t, u])) (putF "looks" (.int (0 + szL [t, u])) (putF "parts" (.int (szP [t, u])) (putF "depth" (.int (szD [t, u])) fs0)))))
    refine q _ ⟨dx, a, c, sp, ?_, ?_, hT.off hb K9, hU.off hb K9⟩ K9
    · rw [upd_same, hf, pre2 (by decide +kernel), fend (by rfl) (by rfl) (by rfl) (by rfl) (by rfl), hD, szD2, szP2, szL2, szC2]
      rfl
    · rw [upd_ne sb, upd_ne sb, upd_ne sb, upd_ne sb, hs5]
      simp [Tm.spell]
theorem ok_earlierX {CT : Addr} {f : Addr} {fd : FuncData} (F : Fun K "__init__" "Earlier.__init__" s_Earlier_init f fd) (B : Blt mg) (T : TF K mg C) (G : T2X P w K mg base C CT) : FnOk P w K mg base (L2.CX P w) 2 f fd ["self", "first", "second"] (spInitPX C C.earlier CT Tm.earlier) := by
  refine F.okX sc_Earlier_init (fun vs H Q E h => ?_) (fun cdv A outer s H vs Q E hr h => ?_)
  · obtain ⟨b, dx, a, c, t, u, rfl, _⟩ := h
    rfl
  · obtain ⟨b, dx, a, c, t, u, rfl, hb, hT, hU, hF0, hF1, q⟩ := h
    refine ⟨_, (pss_cons (ps_fld (pv 0) (pv 1) rfl)
    (pss_cons (ps_fld (pv 0) (pv 2) rfl)
    (pss_cons (ps_fld (pv 0) (pe_tup (pa_cons pe_str (StX.pa_star (pe_fld (pv 1) rfl) (StX.pa_star (pe_fld (pv 2) rfl) pa_nil)))) rfl)
    (pss_one (ps_asg (pe_cal G.sizesX (hr.mono (by decide)) (passE (takes_of rfl rfl rfl rfl)) (pa_cons (pe_tup (pa_cons (pv 1) (pa_cons (pv 2) pa_nil))) (pa_cons pe_int (pa_cons pe_int pa_nil)))) (pg_tup (by rfl) (pgs_cons (pg_fld (pv 0)) (pgs_cons (pg_fld (pv 0)) (pgs_cons (pg_fld (pv 0)) (pgs_cons (pg_fld (pv 0)) pgs_nil)))))))))), ?_⟩
    obtain ⟨D, hD⟩ : ∃ D, D = C.earlier := ⟨_, rfl⟩
    have Is : C.Is D := by rw [hD]; exact C.is_of (.earlier t u)
    rw [← hD] at hb
    refine ⟨_, rfl, _, rfl, b, D, dx, [], rfl, hb, T.cl _ Is, T.no _ Is _ (by decide +kernel), (by show 0 < 1000; decide), ?_⟩
    have K1 : Keep b H (upd H b (.ins D dx (putF "first" (.ref a) []))) := Keep.refl.upd
    refine ⟨_, rfl, _, rfl, b, D, dx, _, rfl, upd_same, T.cl _ Is, T.no _ Is _ (by decide +kernel), (by show 1 < 1000; decide), ?_⟩
    have K2 : Keep b H (upd _ b (.ins D dx (putF "second" (.ref c) (putF "first" (.ref a) [])))) := K1.upd
    obtain ⟨dx1, fs1, sp1, In⟩ := (hT.off hb K2).in_
    have sl := Tm.spell_len t
    obtain ⟨dx2, fs2, sp2, In2⟩ := (hU.off hb K2).in_
    have sl2 := Tm.spell_len u
    have hF2 : t.par + u.par ≤ 80 := by
      have h1 : t.par ≤ 40 := hF0.2.1
      have h2 : u.par ≤ 40 := hF1.2.1
      omega
    refine ⟨_, rfl, _, _, dx1, fs1, _, rfl, In.at_, T.cl _ (C.is_of _), T.no _ (C.is_of _) _ (by decide +kernel), In.spelling, sp1, _, rfl, .inl (SqT.of In.spl), _, rfl, _, _, dx2, fs2, _, rfl, In2.at_, T.cl _ (C.is_of _), T.no _ (C.is_of _) _ (by decide +kernel), In2.spelling, sp2, _, rfl, .inl (SqT.of In2.spl), ?_, fun sp hsp => ⟨_, rfl, b, D, dx, _, rfl, sameAt (Same.refl _) hsp _ _ upd_same, T.cl _ Is, T.no _ Is _ (by decide +kernel), (by show 2 < 1000; decide), ?_⟩⟩
    · show (t.spell ++ (u.spell ++ [])).length + 1 ≤ sizeLine
      rw [sizeLine_eq, List.length_append, List.append_nil]
      omega
    have sb : sp ≠ b := fun z => by rw [z, upd_same] at hsp; cases hsp
    have K3 := (K2.at hsp (u := .tup (.str "earlier" :: (t.spell ++ (u.spell ++ []))))).upd (u := .ins D dx (putF "spelling" (.ref sp) (putF "second" (.ref c) (putF "first" (.ref a) []))))
    refine ⟨_, rfl, _, rfl, (by show 2 ≤ sizeLine; decide), fun tp htp => ?_⟩
    have K4 := K3.at htp (u := .tup ([a, c].map V.ref))
    refine ⟨tp, [a, c], [t, u], 0, 1, rfl, upd_same, rfl, (by show 2 ≤ 2; decide), (fun i a' t' h1 h2 => ?_), ?_⟩
    · 
      match i, h1, h2 with
      | 0, h1, h2 =>
        cases h1
        cases h2
        exact hT.off hb K4
      | 1, h1, h2 =>
        cases h1
        cases h2
        exact hU.off hb K4
      | i + 2, h1, h2 => simp at h1
    rcases q with ⟨hF, q⟩ | ⟨hF, q⟩
    rotate_left
    · refine .inr ⟨?_, fun H5 s5 => q H5 (K4.same s5)⟩
      rw [szD2, szP2, szL2]
      have hF : ¬ (1 + Tm.mx t.dep u.dep ≤ 12 ∧ 1 + (t.par + u.par) ≤ 40 ∧ 0 + (t.lok + u.lok) ≤ 12) := hF
      omega
    refine .inl ⟨(by rw [szD2]; exact hF.1), (by rw [szP2]; exact hF.2.1), (by rw [szL2]; exact hF.2.2), fun q1 H5 s5 hq1 hq5 => ?_⟩
    have K5 := K4.same s5
    obtain ⟨fs0, hf⟩ : ∃ fs0, fs0 = putF "spelling" (.ref sp) (putF "second" (.ref c) (putF "first" (.ref a) [])) := ⟨_, rfl⟩
    have HB : H5 b = some (.ins D dx fs0) := by rw [hf]; exact s5 _ _ (sameAt (Same.refl _) htp _ _ upd_same)
    have hs5 : H5 sp = some (.tup (.str "earlier" :: (t.spell ++ (u.spell ++ [])))) := s5 _ _ (sameAt (Same.refl _) htp _ _ (by rw [upd_ne sb, upd_same]))
    have h0 : fs0.length ≤ 3 := by rw [hf]; exact pl (pl (pl (Nat.le_refl 0)))
    refine ⟨q1, _, rfl, SqT.of hq5, rfl, _, _, rfl, _, rfl, b, D, dx, fs0, rfl, HB, T.cl _ Is, T.no _ Is _ (by decide +kernel), Nat.lt_of_le_of_lt h0 (by decide), _, _, rfl, _, rfl, b, D, dx, _, rfl, upd_same, T.cl _ Is, T.no _ Is _ (by decide +kernel), Nat.lt_of_le_of_lt (pl h0) (by decide), _, _, rfl, _, rfl, b, D, dx, _, rfl, upd_same, T.cl _ Is, T.no _ Is _ (by decide +kernel), Nat.lt_of_le_of_lt (pl (pl h0)) (by decide), _, _, rfl, _, rfl, b, D, dx, _, rfl, upd_same, T.cl _ Is, T.no _ Is _ (by decide +kernel), Nat.lt_of_le_of_lt (pl (pl (pl h0))) (by decide), rfl, ?_⟩
    have K9 := (((K5.upd (u := .ins D dx (putF "depth" (.int (szD [t, u])) fs0))).upd (u := .ins D dx (putF "parts" (.int (szP [t, u])) (putF "depth" (.int (szD [t, u])) fs0)))).upd (u := .ins D dx (putF "looks" (.int (0 + szL [t, u])) (putF "parts" (.int (szP [t, u])) (putF "depth" (.int (szD [t, u])) fs0))))).upd (u := .ins D dx (putF "choices" (.int (1 + szC [t, u])) (putF "looks" (.int (0 + szL [t, u])) (putF "parts" (.int (szP [t, u])) (putF "depth" (.int (szD [t, u])) fs0)))))
    refine q _ ⟨dx, a, c, sp, ?_, ?_, hT.off hb K9, hU.off hb K9⟩ K9
    · rw [upd_same, hf, pre2 (by decide +kernel), fend (by rfl) (by rfl) (by rfl) (by rfl) (by rfl), hD, szD2, szP2, szL2, szC2]
      rfl
    · rw [upd_ne sb, upd_ne sb, upd_ne sb, upd_ne sb, hs5]
      simp [Tm.spell]
end
end Ash

set_option Elab.async false
set_option linter.all false
set_option maxRecDepth 100000
set_option maxHeartbeats 4000000
namespace Ash
open PySem PySem.Spec PyProof.Rows L2
open C8 (pss_cut)
/-! ### shifts -/
/-- all its streams are names -/
def Tm.NmS : Tm → Prop
  | .now => True
  | .last s t => IsNm s ∧ t.NmS
  | .next s t => IsNm s ∧ t.NmS
  | .shift _ t => t.NmS
  | .either a b => a.NmS ∧ b.NmS
  | .later a b => a.NmS ∧ b.NmS
  | .earlier a b => a.NmS ∧ b.NmS
/-- t + n -/
def Tm.plus (t : Tm) (n : Int) : Tm := if n = 0 then t else match t with
  | .shift m u => if m + n = 0 then u else .shift (m + n) u
  | t => .shift n t
theorem keep_make {H H' : Hp} {x dx : Addr} {o1 o2 : HO} (k : Keep x (upd (upd H dx o1) x o2) H') (hx : H x = none) (hd : H dx = none) : Same H H' := fun c o hc => k c o (by rw [upd_ne (ne_of_none hc hx), upd_ne (ne_of_none hc hd)]; exact hc) (ne_of_none hc hx)
def Tm.isShift : Tm → Bool
  | .shift _ _ => true
  | _ => false
theorem TD.shift {C : TC} (D : TD C) (t : Tm) : decide (C.of t = C.shift) = t.isShift := by
  have h := D.nd
  simp only [List.nodup_cons, List.mem_cons, List.not_mem_nil, or_false, not_or] at h
  obtain ⟨⟨a1, a2, a3, a4, a5, a6⟩, ⟨b1, b2, b3, b4, b5⟩, ⟨c1, c2, c3, c4⟩, ⟨d1, d2, d3⟩, _⟩ := h
  cases t <;> simp [TC.of, Tm.isShift, a1, a2, a3, b2, c1, Ne.symm d1, Ne.symm d2, Ne.symm d3]
theorem plus_no {t : Tm} {n : Int} (h : t.isShift = false) (n0 : ¬ n = 0) : t.plus n = .shift n t := by
  unfold Tm.plus
  rw [if_neg n0]
  cases t <;> first | rfl | exact absurd h (by simp [Tm.isShift])
end Ash

set_option Elab.async false
set_option linter.all false
set_option maxRecDepth 100000
set_option maxHeartbeats 4000000
set_option pp.maxSteps 1500
namespace Ash
open PySem PySem.Spec PyProof.Rows L2
open C8 (pss_cut)
/-! ### operators of terms that may refuse -/
def spShiftX (C : TC) (CT : Addr) : Sp := fun vs H Q E => ∃ (a : Addr) (t : Tm) (n : Int), vs = [.ref a, .int n] ∧ TmAt C H a t ∧ t.Fit ∧
  (((t.plus n).Fit ∧ ∀ a' H', TmAt C H' a' (t.plus n) → Same H H' → Q (.ref a') H') ∨ (¬ (t.plus n).Fit ∧ ∀ H', Same H H' → E (.ref CT) none H'))
def spMinusX (C : TC) (CT : Addr) : Sp := fun vs H Q E => ∃ (a : Addr) (t : Tm) (n : Int), vs = [.ref a, .int n] ∧ TmAt C H a t ∧ t.Fit ∧
  (((t.plus (-n)).Fit ∧ ∀ a' H', TmAt C H' a' (t.plus (-n)) → Same H H' → Q (.ref a') H') ∨ (¬ (t.plus (-n)).Fit ∧ ∀ H', Same H H' → E (.ref CT) none H'))
def spPairX (C : TC) (CT : Addr) (mk : Tm → Tm → Tm) : Sp := fun vs H Q E => ∃ (a b : Addr) (t u : Tm), vs = [.ref a, .ref b] ∧ TmAt C H a t ∧ TmAt C H b u ∧ t.Fit ∧ u.Fit ∧
  (((mk t u).Fit ∧ ∀ a' H', TmAt C H' a' (mk t u) → Same H H' → Q (.ref a') H') ∨ (¬ (mk t u).Fit ∧ ∀ H', Same H H' → E (.ref CT) none H'))
section
variable {P : Program} {w : World} {K : PySem.W.Frag} {mg : Str → Option Value} {base : Heap} {C : TC} {CT : Addr}
structure T3X (P : Program) (w : World) (K : PySem.W.Frag) (mg : Str → Option Value) (base : Heap) (C : TC) (CT : Addr) : Prop extends T2X P w K mg base C CT where
  Shift : Mak P w K mg base (L2.CX P w) "Shift" C.shift 2 ["self", "term", "amount"] (spInitSX C CT)
  Either : Mak P w K mg base (L2.CX P w) "Either" C.either 2 ["self", "first", "second"] (spInitPX C C.either CT Tm.either)
  Later : Mak P w K mg base (L2.CX P w) "Later" C.later 2 ["self", "first", "second"] (spInitPX C C.later CT Tm.later)
  Earlier : Mak P w K mg base (L2.CX P w) "Earlier" C.earlier 2 ["self", "first", "second"] (spInitPX C C.earlier CT Tm.earlier)
abbrev s_shifted : Stmt := topS 28
theorem sc_shifted : FnScope ["term", "amount", "inner", "total"] ["term", "amount"] (defScope s_shifted) := ⟨rfl, rfl, rfl, by decide +kernel, rfl, by decide +kernel, by decide +kernel⟩
theorem ok_shiftedX {f : Addr} {fd : FuncData} (F : Fun K "shifted" "shifted" s_shifted f fd) (B : Blt mg) (T : TF K mg C) (D : TD C) (G : T3X P w K mg base C CT) : FnOk P w K mg base (L2.CX P w) 4 f fd ["term", "amount"] (spShiftX C CT) := by
  obtain ⟨t_cl, t_no, t_ty, t_one, c_Now, c_Last, c_Next, c_Shift, c_Either, c_Later, c_Earlier⟩ := id T
  refine F.okX sc_shifted (fun vs H Q E h => ?_) (fun cdv A outer s H vs Q E hr h => ?_)
  · obtain ⟨a, t, n, rfl, _⟩ := h
    rfl
  · obtain ⟨a, t, n, rfl, hT, hF0, q⟩ := h
    refine ⟨_, (pss_cons (ps_if (pt_cmpR op_eq (pv 1) pe_int (nomark _))
      (pss_one (ps_ret (pv 0)))
      pss_nil)
    (pss_cons (ps_par (i := 2) (j := 3) (by rfl) sc_shifted.nd rfl rfl (by decide) rfl rfl (pa_cons (pv 0) (pa_cons (pv 1) pa_nil)) (by rfl))
    (pss_cons (ps_if (pt_val (pe_callB call_isi (by rfl) B.isinstance (by decide +kernel) (pa_cons (pv 0) (pa_cons (pe_glob (v := .ref C.shift) (by rfl) c_Shift rfl) pa_nil))))
      (pss_one (ps_par (i := 2) (j := 3) (by rfl) sc_shifted.nd rfl rfl (by decide) rfl rfl (pa_cons (pe_fld (pv 0) rfl) (pa_cons (pe_op op_add (pe_fld (pv 0) rfl) (pv 1)) pa_nil)) (by rfl)))
      pss_nil)
    (pss_cons (ps_if (pt_cmpR op_eq (pv 3) pe_int (nomark _))
      (pss_one (ps_ret (pv 2)))
      pss_nil)
    (pss_one (ps_ret (pe_mak G.Shift (hr.mono (by decide)) (passE (takes_of rfl rfl rfl rfl)) (pa_cons (pv 2) (pa_cons (pv 3) pa_nil))))))))), ?_⟩
    refine ⟨_, rfl, rfl, _, rfl, ?_⟩
    refine ite2 (fun c => ?_) (fun c => ?_)
    · have n0 : n = 0 := V.int.inj (of_decide_eq_true c)
      subst n0
      rcases q with ⟨_, q⟩ | ⟨nq, _⟩
      · have q : ∀ a' H', TmAt C H' a' t → Same H H' → Q (.ref a') H' := q
        exact ⟨_, rfl, q a H hT (Same.refl H)⟩
      · exact absurd hF0 nq
    · have n0 : ¬ n = 0 := fun z => by rw [z] at c; simp at c
      have tx := T.tyx hT
      have k := T.one (C.of t) C.shift (C.is_of t) (C.is_of (.shift 0 .now))
      rw [D.shift] at k
      refine ⟨_, rfl, _, rfl, _, _, rfl, _, rfl, _, _, _, _, _, rfl, .own _, tx, k, _, rfl, ?_⟩
      cases hs : t.isShift with
      | false =>
        rw [plus_no hs n0] at q
        refine iteF ⟨_, rfl, rfl, _, rfl, ?_⟩
        rw [show decide (V.int n = V.int 0) = false from decide_eq_false fun z => n0 (V.int.inj z)]
        refine iteF ⟨_, rfl, _, rfl, fun x dx hx hdx hne => ⟨x, dx, a, n, t, rfl, upd_same, hT.same (sameAt (sameAt (Same.refl H) hdx) hx), hF0, ?_⟩⟩
        rcases q with ⟨hF, q⟩ | ⟨hF, q⟩
        · exact .inl ⟨hF, fun H' hT' hK => ⟨rfl, q x H' hT' (keep_make hK hx hdx)⟩⟩
        · exact .inr ⟨hF, fun H' hK => q H' (keep_make hK hx hdx)⟩
      | true =>
        cases t with
        | shift m u =>
          have e : (Tm.shift m u).plus n = if m + n = 0 then u else .shift (m + n) u := by
            show (if n = 0 then _ else _) = _
            rw [if_neg n0]
          have hu0 : u.Fit := ⟨by have h : 1 + u.dep ≤ 12 := hF0.1; omega, by have h : 1 + u.par ≤ 40 := hF0.2.1; omega, by have h : 0 + u.lok ≤ 12 := hF0.2.2; omega⟩
          have hfit : ((Tm.shift m u).plus n).Fit := by
            rw [e]
            split
            · exact hu0
            · exact hF0
          have q : ∀ a' H', TmAt C H' a' ((Tm.shift m u).plus n) → Same H H' → Q (.ref a') H' := q.elim (fun h => h.2) (fun h => absurd hfit h.1)
          rw [e] at q
          obtain ⟨dx, b, sp, h1, h2, h3⟩ := id hT
          have Is : C.Is C.shift := C.is_of (.shift 0 .now)
          refine iteT ⟨_, rfl, a, C.shift, dx, _, _, rfl, h1, T.cl _ Is, T.no _ Is _ (by decide +kernel), rfl, _, rfl, a, C.shift, dx, _, _, rfl, h1, T.cl _ Is, T.no _ Is _ (by decide +kernel), rfl, _, rfl, _, _, rfl, rfl, _, _, rfl, ?_⟩
          refine ⟨_, rfl, rfl, _, rfl, ?_⟩
          refine ite2 (fun c2 => ?_) (fun c2 => ?_)
          · have z : m + n = 0 := V.int.inj (of_decide_eq_true c2)
            rw [if_pos z] at q
            exact ⟨_, rfl, q b H h3 (Same.refl H)⟩
          · have z : ¬ m + n = 0 := fun z => c2 (decide_eq_true (by show V.int (m + n) = V.int 0; rw [z]))
            rw [if_neg z] at q
            exact ⟨_, rfl, _, rfl, fun x dx hx hdx hne => ⟨x, dx, b, m + n, u, rfl, upd_same, h3.same (sameAt (sameAt (Same.refl H) hdx) hx), hu0, .inl ⟨hF0, fun H' hT' hK => ⟨rfl, q x H' hT' (keep_make hK hx hdx)⟩⟩⟩⟩
        | _ => exact absurd hs (by simp [Tm.isShift])
structure T4X (P : Program) (w : World) (K : PySem.W.Frag) (mg : Str → Option Value) (base : Heap) (C : TC) (CT : Addr) : Prop extends T3X P w K mg base C CT where
  shifted : Cal P w K mg base (L2.CX P w) "shifted" 4 ["term", "amount"] (spShiftX C CT)
abbrev s_Term_add : Stmt := inClass (topS 15) 1
theorem sc_Term_add : FnScope ["self", "other"] ["self", "other"] (defScope s_Term_add) := ⟨rfl, rfl, rfl, by decide +kernel, rfl, by decide +kernel, by decide +kernel⟩
theorem ok_taddX {f : Addr} {fd : FuncData} (F : Fun K "__add__" "Term.__add__" s_Term_add f fd) (B : Blt mg) (G : T4X P w K mg base C CT) : FnOk P w K mg base (L2.CX P w) 5 f fd ["self", "other"] (spShiftX C CT) := by
  refine F.okX sc_Term_add (fun vs H Q E h => ?_) (fun cdv A outer s H vs Q E hr h => ?_)
  · obtain ⟨a, t, n, rfl, _⟩ := h
    rfl
  · obtain ⟨a, t, n, rfl, hT, hF, q⟩ := h
    refine ⟨_, (pss_cons (ps_if (pt_not (pt_val (pe_cal G.is_integer (hr.mono (by decide)) pass0 (pa_cons (pv 1) pa_nil))))
      (pss_one ps_never)
      pss_nil)
    (pss_one (ps_ret (pe_cal G.shifted (hr.mono (by decide)) (passE (takes_of rfl rfl rfl rfl)) (pa_cons (pv 0) (pa_cons (pv 1) pa_nil)))))), ?_⟩
    exact ⟨_, rfl, _, rfl, .inl ⟨n, rfl, _, rfl, iteF ⟨_, rfl, _, rfl, a, t, n, rfl, hT, hF, q⟩⟩⟩
abbrev s_Term_sub : Stmt := inClass (topS 15) 2
theorem sc_Term_sub : FnScope ["self", "other"] ["self", "other"] (defScope s_Term_sub) := ⟨rfl, rfl, rfl, by decide +kernel, rfl, by decide +kernel, by decide +kernel⟩
theorem ok_tsubX {f : Addr} {fd : FuncData} (F : Fun K "__sub__" "Term.__sub__" s_Term_sub f fd) (B : Blt mg) (G : T4X P w K mg base C CT) : FnOk P w K mg base (L2.CX P w) 5 f fd ["self", "other"] (spMinusX C CT) := by
  refine F.okX sc_Term_sub (fun vs H Q E h => ?_) (fun cdv A outer s H vs Q E hr h => ?_)
  · obtain ⟨a, t, n, rfl, _⟩ := h
    rfl
  · obtain ⟨a, t, n, rfl, hT, hF, q⟩ := h
    refine ⟨_, (pss_cons (ps_if (pt_not (pt_val (pe_cal G.is_integer (hr.mono (by decide)) pass0 (pa_cons (pv 1) pa_nil))))
      (pss_one ps_never)
      pss_nil)
    (pss_one (ps_ret (pe_cal G.shifted (hr.mono (by decide)) (passE (takes_of rfl rfl rfl rfl)) (pa_cons (pv 0) (pa_cons (pe_un un_neg (pv 1)) pa_nil)))))), ?_⟩
    exact ⟨_, rfl, _, rfl, .inl ⟨n, rfl, _, rfl, iteF ⟨_, rfl, _, rfl, _, rfl, a, t, -n, rfl, hT, hF, q⟩⟩⟩
abbrev s_Term_or : Stmt := inClass (topS 15) 3
theorem sc_Term_or : FnScope ["self", "other"] ["self", "other"] (defScope s_Term_or) := ⟨rfl, rfl, rfl, by decide +kernel, rfl, by decide +kernel, by decide +kernel⟩
theorem ok_torX {f : Addr} {fd : FuncData} (F : Fun K "__or__" "Term.__or__" s_Term_or f fd) (B : Blt mg) (G : T3X P w K mg base C CT) : FnOk P w K mg base (L2.CX P w) 4 f fd ["self", "other"] (spPairX C CT Tm.either) := by
  refine F.okX sc_Term_or (fun vs H Q E h => ?_) (fun cdv A outer s H vs Q E hr h => ?_)
  · obtain ⟨a, b, t, u, rfl, _⟩ := h
    rfl
  · obtain ⟨a, b, t, u, rfl, hT, hU, hF, hF2, q⟩ := h
    refine ⟨_, (pss_cons (ps_if (pt_not (pt_val (pe_cal G.is_term (hr.mono (by decide)) pass0 (pa_cons (pv 1) pa_nil))))
      (pss_one ps_never)
      pss_nil)
    (pss_one (ps_ret (pe_mak G.Either (hr.mono (by decide)) (passE (takes_of rfl rfl rfl rfl)) (pa_cons (pv 0) (pa_cons (pv 1) pa_nil)))))), ?_⟩
    refine ⟨_, rfl, _, rfl, .inl ⟨b, u, rfl, hU, fun H1 s1 => ⟨_, rfl, iteF ?_⟩⟩⟩
    refine ⟨_, rfl, _, rfl, fun x dx hx hdx hne => ⟨x, dx, a, b, t, u, rfl, upd_same, (hT.same s1).same (sameAt (sameAt (Same.refl H1) hdx) hx), (hU.same s1).same (sameAt (sameAt (Same.refl H1) hdx) hx), hF, hF2, ?_⟩⟩
    rcases q with ⟨hf, q⟩ | ⟨hf, q⟩
    · exact .inl ⟨hf, fun H' hT' hK => ⟨rfl, q x H' hT' (s1.trans (keep_make hK hx hdx))⟩⟩
    · exact .inr ⟨hf, fun H' hK => q H' (s1.trans (keep_make hK hx hdx))⟩
abbrev s_Term_later : Stmt := inClass (topS 15) 4
theorem sc_Term_later : FnScope ["self", "other"] ["self", "other"] (defScope s_Term_later) := ⟨rfl, rfl, rfl, by decide +kernel, rfl, by decide +kernel, by decide +kernel⟩
theorem ok_tlaterX {f : Addr} {fd : FuncData} (F : Fun K "later" "Term.later" s_Term_later f fd) (B : Blt mg) (G : T3X P w K mg base C CT) : FnOk P w K mg base (L2.CX P w) 4 f fd ["self", "other"] (spPairX C CT Tm.later) := by
  refine F.okX sc_Term_later (fun vs H Q E h => ?_) (fun cdv A outer s H vs Q E hr h => ?_)
  · obtain ⟨a, b, t, u, rfl, _⟩ := h
    rfl
  · obtain ⟨a, b, t, u, rfl, hT, hU, hF, hF2, q⟩ := h
    refine ⟨_, (pss_cons (ps_if (pt_not (pt_val (pe_cal G.is_term (hr.mono (by decide)) pass0 (pa_cons (pv 1) pa_nil))))
      (pss_one ps_never)
      pss_nil)
    (pss_one (ps_ret (pe_mak G.Later (hr.mono (by decide)) (passE (takes_of rfl rfl rfl rfl)) (pa_cons (pv 0) (pa_cons (pv 1) pa_nil)))))), ?_⟩
    refine ⟨_, rfl, _, rfl, .inl ⟨b, u, rfl, hU, fun H1 s1 => ⟨_, rfl, iteF ?_⟩⟩⟩
    refine ⟨_, rfl, _, rfl, fun x dx hx hdx hne => ⟨x, dx, a, b, t, u, rfl, upd_same, (hT.same s1).same (sameAt (sameAt (Same.refl H1) hdx) hx), (hU.same s1).same (sameAt (sameAt (Same.refl H1) hdx) hx), hF, hF2, ?_⟩⟩
    rcases q with ⟨hf, q⟩ | ⟨hf, q⟩
    · exact .inl ⟨hf, fun H' hT' hK => ⟨rfl, q x H' hT' (s1.trans (keep_make hK hx hdx))⟩⟩
    · exact .inr ⟨hf, fun H' hK => q H' (s1.trans (keep_make hK hx hdx))⟩
abbrev s_Term_earlier : Stmt := inClass (topS 15) 5
theorem sc_Term_earlier : FnScope ["self", "other"] ["self", "other"] (defScope s_Term_earlier) := ⟨rfl, rfl, rfl, by decide +kernel, rfl, by decide +kernel, by decide +kernel⟩
theorem ok_tearlierX {f : Addr} {fd : FuncData} (F : Fun K "earlier" "Term.earlier" s_Term_earlier f fd) (B : Blt mg) (G : T3X P w K mg base C CT) : FnOk P w K mg base (L2.CX P w) 4 f fd ["self", "other"] (spPairX C CT Tm.earlier) := by
  refine F.okX sc_Term_earlier (fun vs H Q E h => ?_) (fun cdv A outer s H vs Q E hr h => ?_)
  · obtain ⟨a, b, t, u, rfl, _⟩ := h
    rfl
  · obtain ⟨a, b, t, u, rfl, hT, hU, hF, hF2, q⟩ := h
    refine ⟨_, (pss_cons (ps_if (pt_not (pt_val (pe_cal G.is_term (hr.mono (by decide)) pass0 (pa_cons (pv 1) pa_nil))))
      (pss_one ps_never)
      pss_nil)
    (pss_one (ps_ret (pe_mak G.Earlier (hr.mono (by decide)) (passE (takes_of rfl rfl rfl rfl)) (pa_cons (pv 0) (pa_cons (pv 1) pa_nil)))))), ?_⟩
    refine ⟨_, rfl, _, rfl, .inl ⟨b, u, rfl, hU, fun H1 s1 => ⟨_, rfl, iteF ?_⟩⟩⟩
    refine ⟨_, rfl, _, rfl, fun x dx hx hdx hne => ⟨x, dx, a, b, t, u, rfl, upd_same, (hT.same s1).same (sameAt (sameAt (Same.refl H1) hdx) hx), (hU.same s1).same (sameAt (sameAt (Same.refl H1) hdx) hx), hF, hF2, ?_⟩⟩
    rcases q with ⟨hf, q⟩ | ⟨hf, q⟩
    · exact .inl ⟨hf, fun H' hT' hK => ⟨rfl, q x H' hT' (s1.trans (keep_make hK hx hdx))⟩⟩
    · exact .inr ⟨hf, fun H' hK => q H' (s1.trans (keep_make hK hx hdx))⟩
end
end Ash

set_option Elab.async false
set_option linter.all false
set_option maxRecDepth 100000
set_option maxHeartbeats 4000000
namespace L2
open PySem PySem.Spec PyProof.Rows
open Sem (wp)
open Builtin
/-! ### != of instances of one class, whose __eq__ may be inherited -/
section
open PySem.W PySem.Calls
variable {prog : Program} {w : World} {A : Around} {E : Value → Shared → Prop} {s : Shared} {K : PySem.W.Frag} {x y C f : Addr} {ox oy : Obj} {od od' : Option Obj}
theorem ifBound_slot {M : Model} {name : Str} {id : String} {args : List Value} {Q : Option Value → Shared → Prop} (X : K.In s.heap) (I : InstAt s.heap x ox C od) (hs : findIn K (.ref C) name = some (some (.builtin id))) (hb : ∀ v, bindSpecial (.builtin id) v = pure (.builtin id, [v]))
    (h : wpAny M A (call (.builtin id) (.ref x :: args)) (fun v => Q (some v)) E s) : wpAny M A (callSpecialIfBound? (.ref x) name args) Q E s := by
  simp only [callSpecialIfBound?, bindSpecialIfBound?]
  refine wpAny_holding (wpAny_bind (wpAny_bind (wpAny_bind (I.type.here ((looks_findIn X hs).here ?_)))))
  refine wpAny_bind (wpAny_askSetting (wpAny_ite ?_))
  have fin : wpAny M A (call (.builtin id) ([.ref x] ++ args) >>= fun v => pure (some v)) Q E s := wpAny_bind (wpAny_mono h (fun v s' h' => wpAny_pure h') fun _ _ h' => h')
  rw [hb]
  split
  · exact wpAny_bind (wpAny_pure (wpAny_pure fin))
  · exact wpAny_tryCatch (wpAny_bind (wpAny_pure (wpAny_pure fin)))
theorem objNe_K {b : Value} {Q : Fin → Shared → Prop} (hu : A.units < cLine) (X : K.In s.heap) (I : InstAt s.heap x ox C od) (he : findIn K (.ref C) "__eq__" = some (some (.ref f))) (hf : isFn K (.ref f) = true)
    (hcall : wpAny (model prog w) A (call (.ref f) [.ref x, b]) (fun v s' => ∃ c, v = .bool c ∧ Q (.done (.ret (.bool (!c)))) s') E s) :
    wpAny (model prog w) A (Builtin.«object.__ne__» ⟨[.ref x, b], []⟩) Q E s := by
  unfold Builtin.«object.__ne__»
  repeat (first
    | with_reducible refine wpAny_cRoomFor hu ?_
    | (refine wpAny_bind (m := callSpecialIfBound? (.ref x) (Str.ofString "__eq__") [b])
        (ifBound_K X I he hf (wpAny_mono hcall (fun r s' hr => by
          obtain ⟨c, rfl, hq⟩ := hr
          repeat (first | exact hq | exact wpAny_pure hq | exact wpAny_truthy_bool hq | (refine wpAny_bind (m := truthy (.bool _)) (wpAny_truthy_bool ?_)) | wp_step)) fun _ _ e => e)))
    | wp_step)
theorem tryNe_K {b : Value} {Q : Option Value → Shared → Prop} (hu : A.units + 1 < cLine) (X : K.In s.heap) (I : InstAt s.heap x ox C od) (hn : findIn K (.ref C) "__ne__" = some (some (.builtin "object.__ne__"))) (he : findIn K (.ref C) "__eq__" = some (some (.ref f))) (hf : isFn K (.ref f) = true)
    (hob : subIn K (.ref C) (.type "object") = some true)
    (hcall : wpAny (model prog w) A.in1 (call (.ref f) [.ref x, b]) (fun v s' => ∃ c, v = .bool c ∧ Q (some (.bool (!c))) s') E s) :
    wpAny (model prog w) A (tryCompare (.ref x) "__ne__" b) Q E s := by
  simp only [tryCompare]
  have hi : Looks (model prog w) s.heap (isInstance (.ref x) (.type "object")) true := I.type.andThen (looks_subIn X hob)
  refine wpAny_bind (ifBound_slot X I hn PySem.F.cmp_object.ne.bind (wpAny_call (codeAny_call_builtin PySem.F.cmp_object.ne.plain F.cmpEntry_ne
    (check_slot F.cmpKind_ne F.cmpSplit_ne hi (F.cmpArgs_ne _ _)
      (objNe_K (A := A.in1) hu X I he hf (wpAny_mono hcall (fun v s' hv => ?_) fun _ _ e => e))))))
  obtain ⟨c, rfl, hq⟩ := hv
  first | exact ⟨c, rfl, wpAny_pure hq⟩ | exact ⟨c, rfl, wpAny_pure (wpAny_pure hq)⟩ | exact ⟨c, rfl, hq⟩
theorem compareNe_K {Q : Value → Shared → Prop} (hu : A.units + 1 < cLine) (X : K.In s.heap) (I : InstAt s.heap x ox C od) (J : InstAt s.heap y oy C od') (hn : findIn K (.ref C) "__ne__" = some (some (.builtin "object.__ne__"))) (he : findIn K (.ref C) "__eq__" = some (some (.ref f))) (hf : isFn K (.ref f) = true)
    (hob : subIn K (.ref C) (.type "object") = some true)
    (hcall : wpAny (model prog w) A.in1 (call (.ref f) [.ref x, .ref y]) (fun v s' => ∃ c, v = .bool c ∧ Q (.bool (!c)) s') E s) :
    wpAny (model prog w) A (compareOp .NotEq (.ref x) (.ref y)) Q E s := by
  unfold compareOp richCompare
  simp only [oneThing_ref]
  refine wpAny_holding (wpAny_bind (wpAny_cRoomFor (Nat.lt_of_succ_lt hu) ?_))
  rw [cmpInfo_NotEq]
  dsimp only
  refine wpAny_bind (I.type.here (wpAny_bind (J.type.here ?_)))
  rw [show (Value.ref C != Value.ref C) = false from by simp]
  simp only [Bool.false_eq_true, if_false]
  refine wpAny_bind (wpAny_pure ?_)
  simp only [Bool.false_eq_true, if_false]
  refine wpAny_bind (tryNe_K hu X I hn he hf hob (wpAny_mono hcall (fun v s' hv => ?_) fun _ _ e => e))
  obtain ⟨c, rfl, hq⟩ := hv
  first | exact ⟨c, rfl, wpAny_pure hq⟩ | exact ⟨c, rfl, wpAny_pure (wpAny_pure hq)⟩
end
/-- what the top says of != in a family of classes -/
structure NeF (K : PySem.W.Frag) (S : Addr → Prop) (f : Addr) : Prop where
  ne : ∀ C, S C → PySem.W.findIn K (.ref C) "__ne__" = some (some (.builtin "object.__ne__"))
  eq : ∀ C, S C → PySem.W.findIn K (.ref C) "__eq__" = some (some (.ref f))
  fn : PySem.W.isFn K (.ref f) = true
  ob : ∀ C, S C → PySem.W.subIn K (.ref C) (.type "object") = some true
section
variable {X : Cx} {n : Nat} {CX : CXT} {f : Addr} {fd : FuncData} {ps : List Str} {S : Addr → Prop} {sp : Sp} {E : XK}
/-- x != y of two instances of one class: not what the own __eq__ says -/
def rNeF (S : Addr → Prop) (sp : Sp) (E : XK) : R2 := fun x y H Q => ∃ a b C dx dy fs gs, x = .ref a ∧ y = .ref b ∧ H a = some (.ins C dx fs) ∧ H b = some (.ins C dy gs) ∧ S C ∧ sp [x, y] H (fun v H' => ∃ c, v = .bl c ∧ Q (.bl (!c)) H') E
theorem op_neF (Z : NeF X.K S f) (F : FnOk X.prog X.w X.K X.mg X.base CX n f fd ps sp) (hb : Binds X.K fd ps []) (hx : Passes CX X E) (hr : Room (n + 2) X.A) : OpR X (compareOp .NotEq) (rNeF S sp E) := by
  intro pins s σ H x y v u Q I rx ry hq
  obtain ⟨a, b, C, dx, dy, fs, gs, rfl, rfl, ha, hb', sC, hsp⟩ := hq
  cases rx
  cases ry
  obtain ⟨mA, J, _⟩ := ins_get I.hok ha
  obtain ⟨mB, J', _⟩ := ins_get I.hok hb'
  obtain ⟨od, J, _⟩ := J.look
  obtain ⟨od', J', _⟩ := J'.look
  refine compareNe_K hr.in1.units0 I.kIn J J' (Z.ne C sC) (Z.eq C sC) Z.fn (Z.ob C sC) ?_
  have e0 : Env0 X.prog X.w X.K X.mg X.base X.A.in1 X.stack s H := by
    have e := I.env0
    exact ⟨e.frames, e.mod, e.bs, e.bsz, e.funs, e.frf, e.hok, e.bare⟩
  have hl := F.len _ _ _ _ hsp
  have r2 : Vals [V.ref a, V.ref b] [Value.ref a, Value.ref b] := .cons rfl (.cons rfl .nil)
  refine wpAny_call (codeAny_mono (F.run X.A.in1 X.stack _ H ⟨[.ref a, .ref b], []⟩ [.ref a, .ref b] [.ref a, .ref b] _ E (hr.in1.mono (by omega)) e0 (by
    have := hb s [.ref a, .ref b] I.kIn (by simpa using hl)
    simpa using this) r2 hsp) fun r s' hq => ?_)
  cases r with
  | error e => exact hx pins σ H _ e s' I hq
  | ok fl =>
    cases fl with
    | ret w =>
      obtain ⟨z, H', I', rz, c, ez, ex⟩ := I.after hq
      subst ez
      cases rz
      exact ⟨c, rfl, .bl (!c), H', I', rfl, ex⟩
    | next => exact False.elim hq
    | brk => exact False.elim hq
    | cont => exact False.elim hq
end
end L2

set_option Elab.async false
set_option linter.all false
set_option maxRecDepth 100000
set_option maxHeartbeats 4000000
namespace L2
open PySem PySem.Spec PyProof.Rows
open Sem (wp)
open Builtin
/-! ### == and != of an instance of a family of classes with any other thing -/
section
open PySem.W PySem.Calls
variable {prog : Program} {w : World} {A : Around} {E : Value → Shared → Prop} {s : Shared} {K : PySem.W.Frag} {x C f : Addr} {b tb : Value} {ox : Obj} {od : Option Obj}
theorem compareNe_V {Q : Value → Shared → Prop} (hu : A.units + 1 < cLine) (X : K.In s.heap) (I : InstAt s.heap x ox C od) (hb : Looks (model prog w) s.heap (typeOf b) tb) (hn0 : notFirst K C tb = true) (hn : findIn K (.ref C) "__ne__" = some (some (.builtin "object.__ne__"))) (he : findIn K (.ref C) "__eq__" = some (some (.ref f))) (hf : isFn K (.ref f) = true)
    (hob : subIn K (.ref C) (.type "object") = some true)
    (hcall : wpAny (model prog w) A.in1 (call (.ref f) [.ref x, b]) (fun v s' => ∃ c, v = .bool c ∧ Q (.bool (!c)) s') E s) :
    wpAny (model prog w) A (compareOp .NotEq (.ref x) b) Q E s := by
  have one : wpAny (model prog w) A (tryCompare (.ref x) "__ne__" b) (fun r s' => ∃ c, r = some (.bool c) ∧ Q (.bool c) s') E s := tryNe_K hu X I hn he hf hob (wpAny_mono hcall (fun v s' hv => by
    obtain ⟨c, rfl, hq⟩ := hv
    exact ⟨c, rfl, _, rfl, hq⟩) fun _ _ e => e)
  unfold compareOp richCompare
  simp only [oneThing_ref]
  refine wpAny_holding (wpAny_bind (wpAny_cRoomFor (Nat.lt_of_succ_lt hu) ?_))
  rw [cmpInfo_NotEq]
  dsimp only
  refine wpAny_bind (I.type.here (wpAny_bind (hb.here ?_)))
  split
  · rename_i q
    have e : subIn K tb (.ref C) = some false := by
      rcases Bool.or_eq_true_iff.mp hn0 with e | e
      · rw [beq_iff_eq.mp e] at q; simp at q
      · exact beq_iff_eq.mp e
    refine wpAny_bind ((looks_subIn X e).here ?_)
    simp only [Bool.false_eq_true, if_false]
    refine wpAny_bind (wpAny_mono one (fun r s' z => ?_) fun _ _ e => e)
    obtain ⟨c, rfl, hq⟩ := z
    exact wpAny_pure hq
  · refine wpAny_bind (wpAny_pure ?_)
    simp only [Bool.false_eq_true, if_false]
    refine wpAny_bind (wpAny_mono one (fun r s' z => ?_) fun _ _ e => e)
    obtain ⟨c, rfl, hq⟩ := z
    exact wpAny_pure hq
end
section
variable {X : Cx} {n : Nat} {CX : CXT} {f : Addr} {fd : FuncData} {ps : List Str} {S : Addr → Prop} {sp : Sp} {E : XK}
def rEqF (K : PySem.W.Frag) (S : Addr → Prop) (sp : Sp) (E : XK) : R2 := fun x y H Q => ∃ a C dx fs t, x = .ref a ∧ H a = some (.ins C dx fs) ∧ S C ∧ TyX K H y t ∧ PySem.W.notFirst K C t = true ∧ sp [x, y] H Q E
theorem op_eqF (Z : NeF X.K S f) (F : FnOk X.prog X.w X.K X.mg X.base CX n f fd ps sp) (hb : Binds X.K fd ps []) (hx : Passes CX X E) (hr : Room n X.A) : OpR X (compareOp .Eq) (rEqF X.K S sp E) := by
  intro pins s σ H x y v u Q I rx ry hq
  obtain ⟨a, C, dx, fs, t, rfl, ha, sC, ty, nf, hsp⟩ := hq
  cases rx
  obtain ⟨mA, J, _⟩ := ins_get I.hok ha
  obtain ⟨od, J, _⟩ := J.look
  obtain ⟨m, Fm⟩ := I.fr
  obtain ⟨Pk, kx, hp, _⟩ := kit_of I ry ty
  refine PySem.W.cmp_K (op := .Eq) (tb := t) hr.units0 Fm I.ok.mod.kin J (kx.ty _ _ I.kIn hp) nf (Z.eq C sC) Z.fn (wpAny_mono (run_fn (us := [.ref a, u]) (vs := [.ref a, y]) F hr hb .nil hx I (.cons rfl (.cons ry .nil)) hsp) (fun z s' hz => ?_) fun _ _ e => e)
  obtain ⟨zv, H', I', rz, q⟩ := hz
  exact SlX.cmpback rz ⟨zv, H', I', rz, q⟩
def rNeFV (K : PySem.W.Frag) (S : Addr → Prop) (sp : Sp) (E : XK) : R2 := fun x y H Q => ∃ a C dx fs t, x = .ref a ∧ H a = some (.ins C dx fs) ∧ S C ∧ TyX K H y t ∧ PySem.W.notFirst K C t = true ∧ sp [x, y] H (fun v H' => ∃ c, v = .bl c ∧ Q (.bl (!c)) H') E
theorem op_neFV (Z : NeF X.K S f) (F : FnOk X.prog X.w X.K X.mg X.base CX n f fd ps sp) (hb : Binds X.K fd ps []) (hx : Passes CX X E) (hr : Room (n + 2) X.A) : OpR X (compareOp .NotEq) (rNeFV X.K S sp E) := by
  intro pins s σ H x y v u Q I rx ry hq
  obtain ⟨a, C, dx, fs, t, rfl, ha, sC, ty, nf, hsp⟩ := hq
  cases rx
  obtain ⟨mA, J, _⟩ := ins_get I.hok ha
  obtain ⟨od, J, _⟩ := J.look
  obtain ⟨Pk, kx, hp, _⟩ := kit_of I ry ty
  refine compareNe_V hr.in1.units0 I.kIn J (kx.ty _ _ I.kIn hp) nf (Z.ne C sC) (Z.eq C sC) Z.fn (Z.ob C sC) ?_
  have e0 : Env0 X.prog X.w X.K X.mg X.base X.A.in1 X.stack s H := by
    have e := I.env0
    exact ⟨e.frames, e.mod, e.bs, e.bsz, e.funs, e.frf, e.hok, e.bare⟩
  have hl := F.len _ _ _ _ hsp
  have r2 : Vals [V.ref a, y] [Value.ref a, u] := .cons rfl (.cons ry .nil)
  refine wpAny_call (codeAny_mono (F.run X.A.in1 X.stack _ H ⟨[.ref a, u], []⟩ [.ref a, u] [.ref a, y] _ E (hr.in1.mono (by omega)) e0 (by
    have := hb s [.ref a, u] I.kIn (by simpa using hl)
    simpa using this) r2 hsp) fun r s' hq => ?_)
  cases r with
  | error e => exact hx pins σ H _ e s' I hq
  | ok fl =>
    cases fl with
    | ret w =>
      obtain ⟨z, H', I', rz, c, ez, ex⟩ := I.after hq
      subst ez
      cases rz
      exact ⟨c, rfl, .bl (!c), H', I', rfl, ex⟩
    | next => exact False.elim hq
    | brk => exact False.elim hq
    | cont => exact False.elim hq
end
end L2

set_option Elab.async false
set_option linter.all false
set_option maxRecDepth 100000
set_option maxHeartbeats 4000000
namespace Ash
open PySem PySem.Spec PyProof.Rows L2
open C8 (pss_cut)
/-! ### amounts -/
inductive Am where
  | number (s : Str) (t : Tm)
  | count (s : Str) (t u : Tm)
  | total (s : Str) (t u : Tm)
  | gap (t u : Tm)
structure AC where
  number : Addr
  count : Addr
  total : Addr
  gap : Addr
def AC.of (A : AC) : Am → Addr
  | .number _ _ => A.number
  | .count _ _ _ => A.count
  | .total _ _ _ => A.total
  | .gap _ _ => A.gap
def AC.Is (A : AC) (a : Addr) : Prop := a = A.number ∨ a = A.count ∨ a = A.total ∨ a = A.gap
theorem AC.is_of (A : AC) (q : Am) : A.Is (A.of q) := by
  cases q
  · exact .inl rfl
  · exact .inr (.inl rfl)
  · exact .inr (.inr (.inl rfl))
  · exact .inr (.inr (.inr rfl))
def Am.spell : Am → List V
  | .number s t => .str "number" :: .str s :: t.spell
  | .count s t u => .str "count" :: .str s :: (t.spell ++ u.spell)
  | .total s t u => .str "total" :: .str s :: (t.spell ++ u.spell)
  | .gap t u => .str "gap" :: (t.spell ++ u.spell)
/-- the amount question q at a -/
def AmAt (A : AC) (C : TC) (H : Hp) (a : Addr) : Am → Prop
  | .number s t => ∃ dx b sp, H a = some (.ins A.number dx [("stream", .str s), ("term", .ref b), ("spelling", .ref sp)]) ∧ H sp = some (.tup (Am.spell (.number s t))) ∧ TmAt C H b t
  | .count s t u => ∃ dx b c sp, H a = some (.ins A.count dx [("stream", .str s), ("first", .ref b), ("last", .ref c), ("spelling", .ref sp)]) ∧ H sp = some (.tup (Am.spell (.count s t u))) ∧ TmAt C H b t ∧ TmAt C H c u
  | .total s t u => ∃ dx b c sp, H a = some (.ins A.total dx [("stream", .str s), ("first", .ref b), ("last", .ref c), ("spelling", .ref sp)]) ∧ H sp = some (.tup (Am.spell (.total s t u))) ∧ TmAt C H b t ∧ TmAt C H c u
  | .gap t u => ∃ dx b c sp, H a = some (.ins A.gap dx [("first", .ref b), ("last", .ref c), ("spelling", .ref sp)]) ∧ H sp = some (.tup (Am.spell (.gap t u))) ∧ TmAt C H b t ∧ TmAt C H c u
theorem AmAt.nl {A : AC} {C : TC} {H H' : Hp} (n : NL H H') {a : Addr} : ∀ {q : Am}, AmAt A C H a q → AmAt A C H' a q
  | .number _ _, ⟨dx, b, sp, h1, h2, h3⟩ => ⟨dx, b, sp, n _ _ h1 (fun _ z => nomatch z), n _ _ h2 (fun _ z => nomatch z), h3.nl n⟩
  | .count _ _ _, ⟨dx, b, c, sp, h1, h2, h3, h4⟩ => ⟨dx, b, c, sp, n _ _ h1 (fun _ z => nomatch z), n _ _ h2 (fun _ z => nomatch z), h3.nl n, h4.nl n⟩
  | .total _ _ _, ⟨dx, b, c, sp, h1, h2, h3, h4⟩ => ⟨dx, b, c, sp, n _ _ h1 (fun _ z => nomatch z), n _ _ h2 (fun _ z => nomatch z), h3.nl n, h4.nl n⟩
  | .gap _ _, ⟨dx, b, c, sp, h1, h2, h3, h4⟩ => ⟨dx, b, c, sp, n _ _ h1 (fun _ z => nomatch z), n _ _ h2 (fun _ z => nomatch z), h3.nl n, h4.nl n⟩
theorem AmAt.same {A : AC} {C : TC} {H H' : Hp} {a : Addr} {q : Am} (h : AmAt A C H a q) (s : Same H H') : AmAt A C H' a q := h.nl (nl_same s)
abbrev AATTRS : List Str := ["stream", "term", "first", "last", "spelling"]
/-- the facts of the classes of amounts -/
structure AF (K : PySem.W.Frag) (mg : Str → Option Value) (A : AC) (C : TC) : Prop where
  cl : ∀ a, A.Is a → Cls K a
  no : ∀ a, A.Is a → ∀ f ∈ AATTRS, NoAttr K a f
  ty : ∀ a, A.Is a → PySem.W.findIn K (.ref a) "__class__" = some (some (.builtin "object.__class__")) ∧ PySem.W.specialIn K (.builtin "object.__class__") "__get__" = some (some (.builtin "getset_descriptor.__get__")) ∧ PySem.W.takesIn K (.builtin "object.__class__") = some true ∧ PySem.W.mroIn K a (.type "object") = some true
  one : ∀ a b, A.Is a → A.Is b → PySem.W.kitOne K (.ref a) (.ref b) = some (decide (a = b))
  noT : ∀ a b, A.Is a → C.Is b → PySem.W.kitOne K (.ref a) (.ref b) = some false
  Number : mg "Number" = some (.ref A.number)
  Count : mg "Count" = some (.ref A.count)
  Total : mg "Total" = some (.ref A.total)
  Gap : mg "Gap" = some (.ref A.gap)
  nd : [A.number, A.count, A.total, A.gap].Nodup
theorem AmAt.ins {A : AC} {C : TC} {H : Hp} {a : Addr} : ∀ {q : Am}, AmAt A C H a q → ∃ dx fs, H a = some (.ins (A.of q) dx fs)
  | .number _ _, ⟨dx, b, sp, h1, _⟩ => ⟨dx, _, h1⟩
  | .count _ _ _, ⟨dx, b, c, sp, h1, _⟩ => ⟨dx, _, h1⟩
  | .total _ _ _, ⟨dx, b, c, sp, h1, _⟩ => ⟨dx, _, h1⟩
  | .gap _ _, ⟨dx, b, c, sp, h1, _⟩ => ⟨dx, _, h1⟩
theorem AF.tyx {K : PySem.W.Frag} {mg : Str → Option Value} {A : AC} {C : TC} (T : AF K mg A C) {H : Hp} {a : Addr} {q : Am} (h : AmAt A C H a q) : TyX K H (.ref a) (.ref (A.of q)) := by
  obtain ⟨dx, fs, i⟩ := h.ins
  obtain ⟨h1, h2, h3, h4⟩ := T.ty _ (A.is_of q)
  exact .base (.ins i (T.cl _ (A.is_of q)) h1 h2 h3 h4)
/-- an amount question is no term -/
theorem AF.noTm {K : PySem.W.Frag} {mg : Str → Option Value} {A : AC} {C : TC} (T : AF K mg A C) {H : Hp} {a : Addr} {q : Am} (h : AmAt A C H a q) : NotTm K C H (.ref a) := ⟨_, T.tyx h, fun b hb => T.noT _ _ (A.is_of q) hb⟩
def Am.NmS : Am → Prop
  | .number s t => IsNm s ∧ t.NmS
  | .count s t u => IsNm s ∧ t.NmS ∧ u.NmS
  | .total s t u => IsNm s ∧ t.NmS ∧ u.NmS
  | .gap t u => t.NmS ∧ u.NmS
def Am.Fit : Am → Prop
  | .number _ t => t.Fit
  | .count _ t u => t.Fit ∧ u.Fit
  | .total _ t u => t.Fit ∧ u.Fit
  | .gap t u => t.Fit ∧ u.Fit
def spInitN (A : AC) (C : TC) : Sp := fun vs H Q _ => ∃ (b dx a : Addr) (z : Str) (t : Tm), vs = [.ref b, .str z, .ref a] ∧ H b = some (.ins A.number dx []) ∧ IsNm z ∧ TmAt C H a t ∧ t.Fit ∧ ∀ H', AmAt A C H' b (.number z t) → Keep b H H' → Q .non H'
def spInitC (A : AC) (C : TC) (D : Addr) (mk : Str → Tm → Tm → Am) : Sp := fun vs H Q _ => ∃ (b dx a c : Addr) (z : Str) (t u : Tm), vs = [.ref b, .str z, .ref a, .ref c] ∧ H b = some (.ins D dx []) ∧ IsNm z ∧ TmAt C H a t ∧ TmAt C H c u ∧ t.Fit ∧ u.Fit ∧ ∀ H', AmAt A C H' b (mk z t u) → Keep b H H' → Q .non H'
def spInitG (A : AC) (C : TC) : Sp := fun vs H Q _ => ∃ (b dx a c : Addr) (t u : Tm), vs = [.ref b, .ref a, .ref c] ∧ H b = some (.ins A.gap dx []) ∧ TmAt C H a t ∧ TmAt C H c u ∧ t.Fit ∧ u.Fit ∧ ∀ H', AmAt A C H' b (.gap t u) → Keep b H H' → Q .non H'
def spIsAmount (A : AC) (C : TC) : Sp := fun vs H Q _ => ∃ a q, vs = [.ref a] ∧ AmAt A C H a q ∧ ∀ H', Same H H' → Q (.bl true) H'
section
variable {P : Program} {w : World} {K : PySem.W.Frag} {mg : Str → Option Value} {base : Heap} {C : TC} {CW : Addr} {A0 : AC}
theorem len3 {a b : V} {f g h : Str} {x y z : V} : putF h z (putF g y (putF f x [])) = [(f, x), (g, y), (h, z)] ∨ True := .inr trivial
abbrev s_Number_init : Stmt := inClass (topS 33) 0
theorem sc_Number_init : FnScope ["self", "stream", "term"] ["self", "stream", "term"] (defScope s_Number_init) := ⟨rfl, rfl, rfl, by decide +kernel, rfl, by decide +kernel, by decide +kernel⟩
theorem ok_number {f : Addr} {fd : FuncData} (F : Fun K "__init__" "Number.__init__" s_Number_init f fd) (B : Blt mg) (T : TF K mg C) (AT : AF K mg A0 C) (G : T2 P w K mg base C) : FnOk P w K mg base CX0 3 f fd ["self", "stream", "term"] (spInitN A0 C) := by
  refine F.ok sc_Number_init (fun vs H Q E h => ?_) (fun cdv A outer s H vs Q E hr h => ?_)
  · obtain ⟨b, dx, a, z, t, rfl, _⟩ := h
    rfl
  · obtain ⟨b, dx, a, z, t, rfl, hb, hz, hT, hF, q⟩ := h
    refine ⟨_, (pss_cons (ps_fld (pv 0) (pe_cal G.checked_stream (hr.mono (by decide)) pass0 (pa_cons (pv 1) pa_nil)) rfl)
    (pss_cons (ps_fld (pv 0) (pe_cal G.checked_term (hr.mono (by decide)) pass0 (pa_cons (pv 2) pa_nil)) rfl)
    (pss_one (ps_fld (pv 0) (pe_tup (pa_cons pe_str (pa_cons (pv 1) (StX.pa_star (pe_fld (pv 2) rfl) pa_nil)))) rfl)))), ?_⟩
    obtain ⟨D, hD⟩ : ∃ D, D = A0.number := ⟨_, rfl⟩
    have Is : A0.Is D := .inl hD
    rw [← hD] at hb
    refine ⟨_, rfl, z, rfl, hz, fun H1 s1 => ⟨_, rfl, b, D, dx, [], rfl, s1 _ _ hb, AT.cl _ Is, AT.no _ Is _ (by decide +kernel), (by show 0 < 1000; decide), ?_⟩⟩
    have K1 : Keep b H (upd H1 b (.ins D dx (putF "stream" (.str z) []))) := (Keep.refl.same s1).upd
    refine ⟨_, rfl, a, t, rfl, hT.off hb K1, fun H2 s2 => ⟨_, rfl, b, D, dx, _, rfl, s2 _ _ upd_same, AT.cl _ Is, AT.no _ Is _ (by decide +kernel), (by show 1 < 1000; decide), ?_⟩⟩
    have K2 : Keep b H (upd H2 b (.ins D dx (putF "term" (.ref a) (putF "stream" (.str z) [])))) := (K1.same s2).upd
    obtain ⟨dx1, fs1, sp1, In⟩ := (hT.off hb K2).in_
    have sl := Tm.spell_len t
    have hF2 : t.par ≤ 40 := hF.2.1
    refine ⟨_, rfl, _, rfl, _, _, dx1, fs1, _, rfl, In.at_, T.cl _ (C.is_of _), T.no _ (C.is_of _) _ (by decide +kernel), In.spelling, sp1, _, rfl, .inl (SqT.of In.spl), ?_, fun sp hsp => ⟨_, rfl, b, D, dx, _, rfl, sameAt (Same.refl _) hsp _ _ upd_same, AT.cl _ Is, AT.no _ Is _ (by decide +kernel), (by show 2 < 1000; decide), ?_⟩⟩
    · show (t.spell ++ []).length + 1 + 1 ≤ sizeLine
      rw [sizeLine_eq, List.append_nil]
      omega
    have sb : sp ≠ b := fun z => by rw [z, upd_same] at hsp; cases hsp
    have K3 := (K2.at hsp (u := .tup (.str "number" :: .str z :: (t.spell ++ [])))).upd (u := .ins D dx (putF "spelling" (.ref sp) (putF "term" (.ref a) (putF "stream" (.str z) []))))
    refine q _ ⟨dx, a, sp, ?_, ?_, hT.off hb K3⟩ K3
    · rw [upd_same, putF_no (fs := putF "term" (.ref a) (putF "stream" (.str z) [])) (by rw [pre2 (by decide +kernel)]; rfl), pre2 (by decide +kernel), hD]
      rfl
    · rw [upd_ne sb, upd_same]
      simp [Am.spell]
abbrev s_Count_init : Stmt := inClass (topS 34) 0
theorem sc_Count_init : FnScope ["self", "stream", "first", "last"] ["self", "stream", "first", "last"] (defScope s_Count_init) := ⟨rfl, rfl, rfl, by decide +kernel, rfl, by decide +kernel, by decide +kernel⟩
theorem ok_count {f : Addr} {fd : FuncData} (F : Fun K "__init__" "Count.__init__" s_Count_init f fd) (B : Blt mg) (T : TF K mg C) (AT : AF K mg A0 C) (G : T2 P w K mg base C) : FnOk P w K mg base CX0 3 f fd ["self", "stream", "first", "last"] (spInitC A0 C A0.count Am.count) := by
  refine F.ok sc_Count_init (fun vs H Q E h => ?_) (fun cdv A outer s H vs Q E hr h => ?_)
  · obtain ⟨b, dx, a, c, z, t, u, rfl, _⟩ := h
    rfl
  · obtain ⟨b, dx, a, c, z, t, u, rfl, hb, hz, hT, hU, hF, hG, q⟩ := h
    refine ⟨_, (pss_cons (ps_fld (pv 0) (pe_cal G.checked_stream (hr.mono (by decide)) pass0 (pa_cons (pv 1) pa_nil)) rfl)
    (pss_cons (ps_fld (pv 0) (pe_cal G.checked_term (hr.mono (by decide)) pass0 (pa_cons (pv 2) pa_nil)) rfl)
    (pss_cons (ps_fld (pv 0) (pe_cal G.checked_term (hr.mono (by decide)) pass0 (pa_cons (pv 3) pa_nil)) rfl)
    (pss_one (ps_fld (pv 0) (pe_tup (pa_cons pe_str (pa_cons (pv 1) (StX.pa_star (pe_fld (pv 2) rfl) (StX.pa_star (pe_fld (pv 3) rfl) pa_nil))))) rfl))))), ?_⟩
    obtain ⟨D, hD⟩ : ∃ D, D = A0.count := ⟨_, rfl⟩
    have Is : A0.Is D := .inr (.inl hD)
    rw [← hD] at hb
    refine ⟨_, rfl, z, rfl, hz, fun Hz sz => ⟨_, rfl, b, D, dx, [], rfl, sz _ _ hb, AT.cl _ Is, AT.no _ Is _ (by decide +kernel), (by show 0 < 1000; decide), ?_⟩⟩
    have K0 : Keep b H (upd Hz b (.ins D dx (putF "stream" (.str z) []))) := (Keep.refl.same sz).upd
    have hb0 : (upd Hz b (.ins D dx (putF "stream" (.str z) []))) b = some (.ins D dx (putF "stream" (.str z) [])) := upd_same
    refine ⟨_, rfl, a, t, rfl, hT.off hb K0, fun H1 s1 => ⟨_, rfl, b, D, dx, _, rfl, s1 _ _ hb0, AT.cl _ Is, AT.no _ Is _ (by decide +kernel), (by show 1 < 1000; decide), ?_⟩⟩
    have K1 : Keep b H (upd H1 b (.ins D dx (putF "first" (.ref a) (putF "stream" (.str z) [])))) := (K0.same s1).upd
    refine ⟨_, rfl, c, u, rfl, hU.off hb K1, fun H2 s2 => ⟨_, rfl, b, D, dx, _, rfl, s2 _ _ upd_same, AT.cl _ Is, AT.no _ Is _ (by decide +kernel), (by show 2 < 1000; decide), ?_⟩⟩
    have K2 : Keep b H (upd H2 b (.ins D dx (putF "last" (.ref c) (putF "first" (.ref a) (putF "stream" (.str z) []))))) := (K1.same s2).upd
    obtain ⟨dx1, fs1, sp1, In⟩ := (hT.off hb K2).in_
    obtain ⟨dx2, fs2, sp2, In2⟩ := (hU.off hb K2).in_
    have sl := Tm.spell_len t
    have sl2 := Tm.spell_len u
    have hF2 : t.par ≤ 40 := hF.2.1
    have hG2 : u.par ≤ 40 := hG.2.1
    refine ⟨_, rfl, _, rfl, _, _, dx1, fs1, _, rfl, In.at_, T.cl _ (C.is_of _), T.no _ (C.is_of _) _ (by decide +kernel), In.spelling, sp1, _, rfl, .inl (SqT.of In.spl), _, rfl, _, _, dx2, fs2, _, rfl, In2.at_, T.cl _ (C.is_of _), T.no _ (C.is_of _) _ (by decide +kernel), In2.spelling, sp2, _, rfl, .inl (SqT.of In2.spl), ?_, fun sp hsp => ⟨_, rfl, b, D, dx, _, rfl, sameAt (Same.refl _) hsp _ _ upd_same, AT.cl _ Is, AT.no _ Is _ (by decide +kernel), (by show 3 < 1000; decide), ?_⟩⟩
    · show (t.spell ++ (u.spell ++ [])).length + 1 + 1 ≤ sizeLine
      rw [sizeLine_eq, List.length_append, List.append_nil]
      omega
    have sb : sp ≠ b := fun z => by rw [z, upd_same] at hsp; cases hsp
    have K3 := (K2.at hsp (u := .tup (.str "count" :: .str z :: (t.spell ++ (u.spell ++ []))))).upd (u := .ins D dx (putF "spelling" (.ref sp) (putF "last" (.ref c) (putF "first" (.ref a) (putF "stream" (.str z) [])))))
    refine q _ ⟨dx, a, c, sp, ?_, ?_, hT.off hb K3, hU.off hb K3⟩ K3
    · rw [upd_same, pre2 (by decide +kernel), putF_no (f := "last") (by rfl), putF_no (f := "spelling") (by rfl), hD]
      rfl
    · rw [upd_ne sb, upd_same]
      simp [Am.spell]
abbrev s_Total_init : Stmt := inClass (topS 35) 0
theorem sc_Total_init : FnScope ["self", "stream", "first", "last"] ["self", "stream", "first", "last"] (defScope s_Total_init) := ⟨rfl, rfl, rfl, by decide +kernel, rfl, by decide +kernel, by decide +kernel⟩
theorem ok_total {f : Addr} {fd : FuncData} (F : Fun K "__init__" "Total.__init__" s_Total_init f fd) (B : Blt mg) (T : TF K mg C) (AT : AF K mg A0 C) (G : T2 P w K mg base C) : FnOk P w K mg base CX0 3 f fd ["self", "stream", "first", "last"] (spInitC A0 C A0.total Am.total) := by
  refine F.ok sc_Total_init (fun vs H Q E h => ?_) (fun cdv A outer s H vs Q E hr h => ?_)
  · obtain ⟨b, dx, a, c, z, t, u, rfl, _⟩ := h
    rfl
  · obtain ⟨b, dx, a, c, z, t, u, rfl, hb, hz, hT, hU, hF, hG, q⟩ := h
    refine ⟨_, (pss_cons (ps_fld (pv 0) (pe_cal G.checked_stream (hr.mono (by decide)) pass0 (pa_cons (pv 1) pa_nil)) rfl)
    (pss_cons (ps_fld (pv 0) (pe_cal G.checked_term (hr.mono (by decide)) pass0 (pa_cons (pv 2) pa_nil)) rfl)
    (pss_cons (ps_fld (pv 0) (pe_cal G.checked_term (hr.mono (by decide)) pass0 (pa_cons (pv 3) pa_nil)) rfl)
    (pss_one (ps_fld (pv 0) (pe_tup (pa_cons pe_str (pa_cons (pv 1) (StX.pa_star (pe_fld (pv 2) rfl) (StX.pa_star (pe_fld (pv 3) rfl) pa_nil))))) rfl))))), ?_⟩
    obtain ⟨D, hD⟩ : ∃ D, D = A0.total := ⟨_, rfl⟩
    have Is : A0.Is D := .inr (.inr (.inl hD))
    rw [← hD] at hb
    refine ⟨_, rfl, z, rfl, hz, fun Hz sz => ⟨_, rfl, b, D, dx, [], rfl, sz _ _ hb, AT.cl _ Is, AT.no _ Is _ (by decide +kernel), (by show 0 < 1000; decide), ?_⟩⟩
    have K0 : Keep b H (upd Hz b (.ins D dx (putF "stream" (.str z) []))) := (Keep.refl.same sz).upd
    have hb0 : (upd Hz b (.ins D dx (putF "stream" (.str z) []))) b = some (.ins D dx (putF "stream" (.str z) [])) := upd_same
    refine ⟨_, rfl, a, t, rfl, hT.off hb K0, fun H1 s1 => ⟨_, rfl, b, D, dx, _, rfl, s1 _ _ hb0, AT.cl _ Is, AT.no _ Is _ (by decide +kernel), (by show 1 < 1000; decide), ?_⟩⟩
    have K1 : Keep b H (upd H1 b (.ins D dx (putF "first" (.ref a) (putF "stream" (.str z) [])))) := (K0.same s1).upd
    refine ⟨_, rfl, c, u, rfl, hU.off hb K1, fun H2 s2 => ⟨_, rfl, b, D, dx, _, rfl, s2 _ _ upd_same, AT.cl _ Is, AT.no _ Is _ (by decide +kernel), (by show 2 < 1000; decide), ?_⟩⟩
    have K2 : Keep b H (upd H2 b (.ins D dx (putF "last" (.ref c) (putF "first" (.ref a) (putF "stream" (.str z) []))))) := (K1.same s2).upd
    obtain ⟨dx1, fs1, sp1, In⟩ := (hT.off hb K2).in_
    obtain ⟨dx2, fs2, sp2, In2⟩ := (hU.off hb K2).in_
    have sl := Tm.spell_len t
    have sl2 := Tm.spell_len u
    have hF2 : t.par ≤ 40 := hF.2.1
    have hG2 : u.par ≤ 40 := hG.2.1
    refine ⟨_, rfl, _, rfl, _, _, dx1, fs1, _, rfl, In.at_, T.cl _ (C.is_of _), T.no _ (C.is_of _) _ (by decide +kernel), In.spelling, sp1, _, rfl, .inl (SqT.of In.spl), _, rfl, _, _, dx2, fs2, _, rfl, In2.at_, T.cl _ (C.is_of _), T.no _ (C.is_of _) _ (by decide +kernel), In2.spelling, sp2, _, rfl, .inl (SqT.of In2.spl), ?_, fun sp hsp => ⟨_, rfl, b, D, dx, _, rfl, sameAt (Same.refl _) hsp _ _ upd_same, AT.cl _ Is, AT.no _ Is _ (by decide +kernel), (by show 3 < 1000; decide), ?_⟩⟩
    · show (t.spell ++ (u.spell ++ [])).length + 1 + 1 ≤ sizeLine
      rw [sizeLine_eq, List.length_append, List.append_nil]
      omega
    have sb : sp ≠ b := fun z => by rw [z, upd_same] at hsp; cases hsp
    have K3 := (K2.at hsp (u := .tup (.str "total" :: .str z :: (t.spell ++ (u.spell ++ []))))).upd (u := .ins D dx (putF "spelling" (.ref sp) (putF "last" (.ref c) (putF "first" (.ref a) (putF "stream" (.str z) [])))))
    refine q _ ⟨dx, a, c, sp, ?_, ?_, hT.off hb K3, hU.off hb K3⟩ K3
    · rw [upd_same, pre2 (by decide +kernel), putF_no (f := "last") (by rfl), putF_no (f := "spelling") (by rfl), hD]
      rfl
    · rw [upd_ne sb, upd_same]
      simp [Am.spell]
abbrev s_Gap_init : Stmt := inClass (topS 36) 0
theorem sc_Gap_init : FnScope ["self", "first", "last"] ["self", "first", "last"] (defScope s_Gap_init) := ⟨rfl, rfl, rfl, by decide +kernel, rfl, by decide +kernel, by decide +kernel⟩
theorem ok_gap {f : Addr} {fd : FuncData} (F : Fun K "__init__" "Gap.__init__" s_Gap_init f fd) (B : Blt mg) (T : TF K mg C) (AT : AF K mg A0 C) (G : T2 P w K mg base C) : FnOk P w K mg base CX0 3 f fd ["self", "first", "last"] (spInitG A0 C) := by
  refine F.ok sc_Gap_init (fun vs H Q E h => ?_) (fun cdv A outer s H vs Q E hr h => ?_)
  · obtain ⟨b, dx, a, c, t, u, rfl, _⟩ := h
    rfl
  · obtain ⟨b, dx, a, c, t, u, rfl, hb, hT, hU, hF, hG, q⟩ := h
    refine ⟨_, (pss_cons (ps_fld (pv 0) (pe_cal G.checked_term (hr.mono (by decide)) pass0 (pa_cons (pv 1) pa_nil)) rfl)
    (pss_cons (ps_fld (pv 0) (pe_cal G.checked_term (hr.mono (by decide)) pass0 (pa_cons (pv 2) pa_nil)) rfl)
    (pss_one (ps_fld (pv 0) (pe_tup (pa_cons pe_str (StX.pa_star (pe_fld (pv 1) rfl) (StX.pa_star (pe_fld (pv 2) rfl) pa_nil)))) rfl)))), ?_⟩
    obtain ⟨D, hD⟩ : ∃ D, D = A0.gap := ⟨_, rfl⟩
    have Is : A0.Is D := .inr (.inr (.inr hD))
    rw [← hD] at hb
    have s0 : Same H H := Same.refl H
    have K0 : Keep b H H := Keep.refl
    have hb0 : H b = some (.ins D dx ([])) := hb
    refine ⟨_, rfl, a, t, rfl, hT.off hb K0, fun H1 s1 => ⟨_, rfl, b, D, dx, _, rfl, s1 _ _ hb0, AT.cl _ Is, AT.no _ Is _ (by decide +kernel), (by show 0 < 1000; decide), ?_⟩⟩
    have K1 : Keep b H (upd H1 b (.ins D dx (putF "first" (.ref a) ([])))) := (K0.same s1).upd
    refine ⟨_, rfl, c, u, rfl, hU.off hb K1, fun H2 s2 => ⟨_, rfl, b, D, dx, _, rfl, s2 _ _ upd_same, AT.cl _ Is, AT.no _ Is _ (by decide +kernel), (by show 1 < 1000; decide), ?_⟩⟩
    have K2 : Keep b H (upd H2 b (.ins D dx (putF "last" (.ref c) (putF "first" (.ref a) ([]))))) := (K1.same s2).upd
    obtain ⟨dx1, fs1, sp1, In⟩ := (hT.off hb K2).in_
    obtain ⟨dx2, fs2, sp2, In2⟩ := (hU.off hb K2).in_
    have sl := Tm.spell_len t
    have sl2 := Tm.spell_len u
    have hF2 : t.par ≤ 40 := hF.2.1
    have hG2 : u.par ≤ 40 := hG.2.1
    refine ⟨_, rfl, _, _, dx1, fs1, _, rfl, In.at_, T.cl _ (C.is_of _), T.no _ (C.is_of _) _ (by decide +kernel), In.spelling, sp1, _, rfl, .inl (SqT.of In.spl), _, rfl, _, _, dx2, fs2, _, rfl, In2.at_, T.cl _ (C.is_of _), T.no _ (C.is_of _) _ (by decide +kernel), In2.spelling, sp2, _, rfl, .inl (SqT.of In2.spl), ?_, fun sp hsp => ⟨_, rfl, b, D, dx, _, rfl, sameAt (Same.refl _) hsp _ _ upd_same, AT.cl _ Is, AT.no _ Is _ (by decide +kernel), (by show 2 < 1000; decide), ?_⟩⟩
    · show (t.spell ++ (u.spell ++ [])).length + 1 ≤ sizeLine
      rw [sizeLine_eq, List.length_append, List.append_nil]
      omega
    have sb : sp ≠ b := fun z => by rw [z, upd_same] at hsp; cases hsp
    have K3 := (K2.at hsp (u := .tup (.str "gap" :: (t.spell ++ (u.spell ++ []))))).upd (u := .ins D dx (putF "spelling" (.ref sp) (putF "last" (.ref c) (putF "first" (.ref a) ([])))))
    refine q _ ⟨dx, a, c, sp, ?_, ?_, hT.off hb K3, hU.off hb K3⟩ K3
    · rw [upd_same, pre2 (by decide +kernel), putF_no (by rfl), hD]
      rfl
    · rw [upd_ne sb, upd_same]
      simp [Am.spell]
end
end Ash

set_option Elab.async false
set_option linter.all false
set_option maxRecDepth 100000
set_option maxHeartbeats 4000000
set_option pp.maxSteps 1500
namespace Ash
open PySem PySem.Spec PyProof.Rows L2
open C8 (pss_cut)
/-! ### == of terms and of amount questions with any thing -/
def Tm.spd : Tm → List PyData
  | .now => [.str "now"]
  | .last s t => .str "last" :: .str s :: spd t
  | .next s t => .str "next" :: .str s :: spd t
  | .shift n t => .str "shift" :: .int n :: spd t
  | .either a b => .str "either" :: (spd a ++ spd b)
  | .later a b => .str "later" :: (spd a ++ spd b)
  | .earlier a b => .str "earlier" :: (spd a ++ spd b)
theorem dp_app {K : PySem.W.Frag} {H : Hp} : ∀ {xs ys : List V} {ds es : List PyData}, DpAll K H xs ds → DpAll K H ys es → DpAll K H (xs ++ ys) (ds ++ es)
  | _, _, _, _, .nil, h => h
  | _, _, _, _, .cons a b, h => .cons a (dp_app b h)
theorem spd_dp {K : PySem.W.Frag} {H : Hp} : ∀ t : Tm, DpAll K H t.spell t.spd
  | .now => .cons (.str _) .nil
  | .last s t => .cons (.str _) (.cons (.str _) (spd_dp t))
  | .next s t => .cons (.str _) (.cons (.str _) (spd_dp t))
  | .shift n t => .cons (.str _) (.cons (.int _) (spd_dp t))
  | .either a b => .cons (.str _) (dp_app (spd_dp a) (spd_dp b))
  | .later a b => .cons (.str _) (dp_app (spd_dp a) (spd_dp b))
  | .earlier a b => .cons (.str _) (dp_app (spd_dp a) (spd_dp b))
theorem spd_flat : ∀ {t : Tm}, t.NmS → t.spd.all flatD = true
  | .now, _ => by simp [Tm.spd, flatD, (by decide +kernel : PyData.strOk "now" = true)]
  | .last s t, h => by simp only [Tm.spd, List.all_cons, flatD, (by decide +kernel : PyData.strOk "last" = true), nm_ok h.1, spd_flat h.2, Bool.and_self]
  | .next s t, h => by simp only [Tm.spd, List.all_cons, flatD, (by decide +kernel : PyData.strOk "next" = true), nm_ok h.1, spd_flat h.2, Bool.and_self]
  | .shift n t, h => by
    have h : t.NmS := h
    simp only [Tm.spd, List.all_cons, flatD, (by decide +kernel : PyData.strOk "shift" = true), spd_flat h, Bool.and_self]
  | .either a b, h => by simp only [Tm.spd, List.all_cons, List.all_append, flatD, (by decide +kernel : PyData.strOk "either" = true), spd_flat h.1, spd_flat h.2, Bool.and_self]
  | .later a b, h => by simp only [Tm.spd, List.all_cons, List.all_append, flatD, (by decide +kernel : PyData.strOk "later" = true), spd_flat h.1, spd_flat h.2, Bool.and_self]
  | .earlier a b, h => by simp only [Tm.spd, List.all_cons, List.all_append, flatD, (by decide +kernel : PyData.strOk "earlier" = true), spd_flat h.1, spd_flat h.2, Bool.and_self]
/-- a term is told by its spelling -/
theorem spd_inj : ∀ {t u : Tm} {r s : List PyData}, t.spd ++ r = u.spd ++ s → t = u ∧ r = s
  | .now, u, r, s, h => by
    cases u <;> simp only [Tm.spd, List.cons_append, List.nil_append, List.append_assoc, List.cons.injEq, PyData.str.injEq] at h <;>
      first | exact absurd h.1 (by decide) | exact ⟨rfl, h.2⟩
  | .last z t, u, r, s, h => by
    cases u <;> simp only [Tm.spd, List.cons_append, List.nil_append, List.append_assoc, List.cons.injEq, PyData.str.injEq] at h <;>
      first | exact absurd h.1 (by decide) | (obtain ⟨e1, e2⟩ := spd_inj h.2.2; exact ⟨by rw [h.2.1, e1], e2⟩)
  | .next z t, u, r, s, h => by
    cases u <;> simp only [Tm.spd, List.cons_append, List.nil_append, List.append_assoc, List.cons.injEq, PyData.str.injEq] at h <;>
      first | exact absurd h.1 (by decide) | (obtain ⟨e1, e2⟩ := spd_inj h.2.2; exact ⟨by rw [h.2.1, e1], e2⟩)
  | .shift n t, u, r, s, h => by
    cases u <;> simp only [Tm.spd, List.cons_append, List.nil_append, List.append_assoc, List.cons.injEq, PyData.str.injEq, PyData.int.injEq] at h <;>
      first | exact absurd h.1 (by decide) | (obtain ⟨e1, e2⟩ := spd_inj h.2.2; exact ⟨by rw [h.2.1, e1], e2⟩)
  | .either a b, u, r, s, h => by
    cases u <;> simp only [Tm.spd, List.cons_append, List.nil_append, List.append_assoc, List.cons.injEq, PyData.str.injEq] at h <;>
      first | exact absurd h.1 (by decide) | (obtain ⟨e1, e2⟩ := spd_inj h.2; obtain ⟨e3, e4⟩ := spd_inj e2; exact ⟨by rw [e1, e3], e4⟩)
  | .later a b, u, r, s, h => by
    cases u <;> simp only [Tm.spd, List.cons_append, List.nil_append, List.append_assoc, List.cons.injEq, PyData.str.injEq] at h <;>
      first | exact absurd h.1 (by decide) | (obtain ⟨e1, e2⟩ := spd_inj h.2; obtain ⟨e3, e4⟩ := spd_inj e2; exact ⟨by rw [e1, e3], e4⟩)
  | .earlier a b, u, r, s, h => by
    cases u <;> simp only [Tm.spd, List.cons_append, List.nil_append, List.append_assoc, List.cons.injEq, PyData.str.injEq] at h <;>
      first | exact absurd h.1 (by decide) | (obtain ⟨e1, e2⟩ := spd_inj h.2; obtain ⟨e3, e4⟩ := spd_inj e2; exact ⟨by rw [e1, e3], e4⟩)
def siD : PyData → Bool
  | .str _ => true
  | .int _ => true
  | _ => false
theorem eqv_si {x y : PyData} (hx : siD x = true) (hy : siD y = true) (h : PyData.eqv x y = true) : x = y := by
  cases x with
  | int a =>
    cases y with
    | int b => rw [PyData.eqv] at h; exact congrArg _ (eq_of_beq h)
    | str b => rw [PyData.eqv] at h; cases h
    | _ => cases hy
  | str a =>
    cases y with
    | str b => rw [PyData.eqv] at h; exact congrArg _ (eq_of_beq h)
    | int b => rw [PyData.eqv] at h; cases h
    | _ => cases hy
  | _ => cases hx
theorem eqvAll_si : ∀ {xs ys : List PyData}, xs.all siD = true → ys.all siD = true → PyData.eqvAll xs ys = true → xs = ys
  | [], [], _, _, _ => rfl
  | [], _ :: _, _, _, h => by rw [PyData.eqvAll] at h; cases h
  | _ :: _, [], _, _, h => by rw [PyData.eqvAll] at h; cases h
  | x :: xs, y :: ys, hx, hy, h => by
    rw [List.all_cons, Bool.and_eq_true] at hx hy
    rw [PyData.eqvAll, Bool.and_eq_true] at h
    rw [eqv_si hx.1 hy.1 h.1, eqvAll_si hx.2 hy.2 h.2]
theorem spd_si : ∀ t : Tm, t.spd.all siD = true
  | .now => rfl
  | .last s t => by simp only [Tm.spd, List.all_cons, siD, spd_si t, Bool.and_self]
  | .next s t => by simp only [Tm.spd, List.all_cons, siD, spd_si t, Bool.and_self]
  | .shift n t => by simp only [Tm.spd, List.all_cons, siD, spd_si t, Bool.and_self]
  | .either a b => by simp only [Tm.spd, List.all_cons, List.all_append, siD, spd_si a, spd_si b, Bool.and_self]
  | .later a b => by simp only [Tm.spd, List.all_cons, List.all_append, siD, spd_si a, spd_si b, Bool.and_self]
  | .earlier a b => by simp only [Tm.spd, List.all_cons, List.all_append, siD, spd_si a, spd_si b, Bool.and_self]
theorem flat_shaped {ds : List PyData} (h : ds.all flatD = true) : SeqAt.shaped (.tuple ds) = true := by
  obtain ⟨h1, h2⟩ := flat_lay h
  unfold SeqAt.shaped
  simp [PyData.canLay0, PyData.depth, h1]
  omega
theorem eqv_self {d : PyData} (h : SeqAt.shaped d = true) : PyData.eqv d d = true := SeqAt.eqv_refl d (SeqAt.canLay_of_shaped h)
noncomputable instance : DecidableEq Tm := fun _ _ => Classical.propDecidable _
theorem spd_eqv {t u : Tm} (ht : t.NmS) : PyData.eqv (.tuple t.spd) (.tuple u.spd) = decide (t = u) := by
  by_cases c : t = u
  · subst c
    rw [decide_eq_true rfl, eqv_self (flat_shaped (spd_flat ht))]
  · rw [decide_eq_false c]
    cases e : PyData.eqv (.tuple t.spd) (.tuple u.spd) with
    | false => rfl
    | true =>
      rw [PyData.eqv] at e
      exact absurd (spd_inj (r := []) (s := []) (by rw [eqvAll_si (spd_si t) (spd_si u) e])).1 c
def Am.spd : Am → List PyData
  | .number s t => .str "number" :: .str s :: t.spd
  | .count s t u => .str "count" :: .str s :: (t.spd ++ u.spd)
  | .total s t u => .str "total" :: .str s :: (t.spd ++ u.spd)
  | .gap t u => .str "gap" :: (t.spd ++ u.spd)
theorem aspd_dp {K : PySem.W.Frag} {H : Hp} : ∀ q : Am, DpAll K H q.spell q.spd
  | .number s t => .cons (.str _) (.cons (.str _) (spd_dp t))
  | .count s t u => .cons (.str _) (.cons (.str _) (dp_app (spd_dp t) (spd_dp u)))
  | .total s t u => .cons (.str _) (.cons (.str _) (dp_app (spd_dp t) (spd_dp u)))
  | .gap t u => .cons (.str _) (dp_app (spd_dp t) (spd_dp u))
theorem aspd_flat : ∀ {q : Am}, q.NmS → q.spd.all flatD = true
  | .number s t, h => by simp only [Am.spd, List.all_cons, flatD, (by decide +kernel : PyData.strOk "number" = true), nm_ok h.1, spd_flat h.2, Bool.and_self]
  | .count s t u, h => by simp only [Am.spd, List.all_cons, List.all_append, flatD, (by decide +kernel : PyData.strOk "count" = true), nm_ok h.1, spd_flat h.2.1, spd_flat h.2.2, Bool.and_self]
  | .total s t u, h => by simp only [Am.spd, List.all_cons, List.all_append, flatD, (by decide +kernel : PyData.strOk "total" = true), nm_ok h.1, spd_flat h.2.1, spd_flat h.2.2, Bool.and_self]
  | .gap t u, h => by simp only [Am.spd, List.all_cons, List.all_append, flatD, (by decide +kernel : PyData.strOk "gap" = true), spd_flat h.1, spd_flat h.2, Bool.and_self]
theorem aspd_si : ∀ q : Am, q.spd.all siD = true
  | .number s t => by simp only [Am.spd, List.all_cons, siD, spd_si t, Bool.and_self]
  | .count s t u => by simp only [Am.spd, List.all_cons, List.all_append, siD, spd_si t, spd_si u, Bool.and_self]
  | .total s t u => by simp only [Am.spd, List.all_cons, List.all_append, siD, spd_si t, spd_si u, Bool.and_self]
  | .gap t u => by simp only [Am.spd, List.all_cons, List.all_append, siD, spd_si t, spd_si u, Bool.and_self]
theorem two_inj {t u t' u' : Tm} (h : t.spd ++ u.spd = t'.spd ++ u'.spd) : t = t' ∧ u = u' := by
  obtain ⟨e1, e2⟩ := spd_inj h
  exact ⟨e1, (spd_inj (r := []) (s := []) (by rw [e2])).1⟩
theorem aspd_inj {q p : Am} (h : q.spd = p.spd) : q = p := by
  cases q <;> cases p <;> simp only [Am.spd, List.cons.injEq, PyData.str.injEq] at h <;> first
    | exact absurd h.1 (by decide)
    | (obtain ⟨_, e, h⟩ := h; have e1 := (spd_inj (r := []) (s := []) (congrArg (· ++ []) h)).1; rw [e, e1])
    | (obtain ⟨_, e, h⟩ := h; obtain ⟨e1, e2⟩ := two_inj h; rw [e, e1, e2])
    | (obtain ⟨_, h⟩ := h; obtain ⟨e1, e2⟩ := two_inj h; rw [e1, e2])
noncomputable instance : DecidableEq Am := fun _ _ => Classical.propDecidable _
theorem aspd_eqv {t u : Am} (ht : t.NmS) : PyData.eqv (.tuple t.spd) (.tuple u.spd) = decide (t = u) := by
  by_cases c : t = u
  · subst c
    rw [decide_eq_true rfl, eqv_self (flat_shaped (aspd_flat ht))]
  · rw [decide_eq_false c]
    cases e : PyData.eqv (.tuple t.spd) (.tuple u.spd) with
    | false => rfl
    | true =>
      rw [PyData.eqv] at e
      exact absurd (aspd_inj (eqvAll_si (aspd_si t) (aspd_si u) e)) c
theorem AmAt.spl {A : AC} {C : TC} {H : Hp} {a : Addr} {q : Am} (h : AmAt A C H a q) : ∃ dx fs sp, H a = some (.ins (A.of q) dx fs) ∧ fs.lookup ("spelling" : Str) = some (.ref sp) ∧ H sp = some (.tup q.spell) := by
  cases q with
  | number s t =>
    obtain ⟨dx, b, sp, h1, h2, h3⟩ := h
    exact ⟨dx, _, sp, h1, rfl, h2⟩
  | count s t u =>
    obtain ⟨dx, b, c, sp, h1, h2, h3, h4⟩ := h
    exact ⟨dx, _, sp, h1, rfl, h2⟩
  | total s t u =>
    obtain ⟨dx, b, c, sp, h1, h2, h3, h4⟩ := h
    exact ⟨dx, _, sp, h1, rfl, h2⟩
  | gap t u =>
    obtain ⟨dx, b, c, sp, h1, h2, h3, h4⟩ := h
    exact ⟨dx, _, sp, h1, rfl, h2⟩
/-- no amount question -/
def NotAm (K : PySem.W.Frag) (A : AC) (H : Hp) (v : V) : Prop := ∃ t, TyX K H v t ∧ ∀ a, A.Is a → PySem.W.kitOne K t (.ref a) = some false
def spIsAm (K : PySem.W.Frag) (A : AC) (C : TC) : Sp := fun vs H Q _ => ∃ v, vs = [v] ∧ ((∃ a q, v = .ref a ∧ AmAt A C H a q ∧ ∀ H', Same H H' → Q (.bl true) H') ∨ (NotAm K A H v ∧ ∀ H', Same H H' → Q (.bl false) H'))
def spTEq (K : PySem.W.Frag) (C : TC) : Sp := fun vs H Q _ => ∃ (a : Addr) (t : Tm) (v : V), vs = [.ref a, v] ∧ TmAt C H a t ∧ t.NmS ∧ ((∃ b u, v = .ref b ∧ TmAt C H b u ∧ u.NmS ∧ ∀ H', Same H H' → Q (.bl (decide (t = u))) H') ∨ (NotTm K C H v ∧ ∀ H', Same H H' → Q (.bl false) H'))
def spAEq (K : PySem.W.Frag) (A : AC) (C : TC) : Sp := fun vs H Q _ => ∃ (a : Addr) (t : Am) (v : V), vs = [.ref a, v] ∧ AmAt A C H a t ∧ t.NmS ∧ ((∃ b u, v = .ref b ∧ AmAt A C H b u ∧ u.NmS ∧ ∀ H', Same H H' → Q (.bl (decide (t = u))) H') ∨ (NotAm K A H v ∧ ∀ H', Same H H' → Q (.bl false) H'))
section
variable {P : Program} {w : World} {K : PySem.W.Frag} {mg : Str → Option Value} {base : Heap} {C : TC} {A0 : AC} {CT : Addr}
abbrev s_is_amount : Stmt := topS 37
theorem sc_is_amount : FnScope ["thing"] ["thing"] (defScope s_is_amount) := ⟨rfl, rfl, rfl, by decide +kernel, rfl, by decide +kernel, by decide +kernel⟩
theorem ok_isam {f : Addr} {fd : FuncData} (F : Fun K "is_amount" "is_amount" s_is_amount f fd) (B : Blt mg) (AT : AF K mg A0 C) : FnOk P w K mg base CX0 1 f fd ["thing"] (spIsAm K A0 C) := by
  have c_Number := AT.Number
  have c_Count := AT.Count
  have c_Total := AT.Total
  have c_Gap := AT.Gap
  refine F.ok sc_is_amount (fun vs H Q E h => ?_) (fun cdv A outer s H vs Q E hr h => ?_)
  · obtain ⟨v, rfl, _⟩ := h
    rfl
  · obtain ⟨v, rfl, h⟩ := h
    refine ⟨_, (pss_one (ps_ret (pe_callB call_isiT (by rfl) B.isinstance (by decide +kernel) (pa_cons (pv 0) (pa_cons (pe_tup (pa_cons (pe_glob (v := .ref A0.number) (by rfl) c_Number rfl) (pa_cons (pe_glob (v := .ref A0.count) (by rfl) c_Count rfl) (pa_cons (pe_glob (v := .ref A0.total) (by rfl) c_Total rfl) (pa_cons (pe_glob (v := .ref A0.gap) (by rfl) c_Gap rfl) pa_nil))))) pa_nil))))), ?_⟩
    refine ⟨_, rfl, (by show 4 ≤ sizeLine; decide), fun p hp => ?_⟩
    have s1 : ∀ {o}, Same H (upd H p o) := fun {o} => sameAt (Same.refl H) hp
    have cs : ∀ b ∈ [A0.number, A0.count, A0.total, A0.gap], A0.Is b := fun b hb => by
      simp only [List.mem_cons, List.not_mem_nil, or_false] at hb
      exact hb
    rcases h with ⟨a, am, rfl, h, q⟩ | ⟨⟨t, h, hn⟩, q⟩
    · have k : PySem.W.kitAny K (.ref (A0.of am)) ([A0.number, A0.count, A0.total, A0.gap].map Value.ref) = some true := by
        have any : ∀ bs : List Addr, (∀ b ∈ bs, A0.Is b) → A0.of am ∈ bs → PySem.W.kitAny K (.ref (A0.of am)) (bs.map Value.ref) = some true := fun bs => by
          induction bs with
          | nil => exact fun _ h => nomatch h
          | cons b r ih =>
            intro hb hm
            refine kitAny_cons (AT.one _ b (A0.is_of am) (hb b List.mem_cons_self)) (fun e => ?_) (fun _ => rfl)
            exact ih (fun c hc => hb c (List.mem_cons_of_mem _ hc)) ((List.mem_cons.mp hm).resolve_left (of_decide_eq_false e))
        refine any _ cs ?_
        have := A0.is_of am
        simp only [List.mem_cons, List.not_mem_nil, or_false]
        exact this
      exact ⟨_, p, _, _, _, true, rfl, upd_same, .cons (.own _) (.cons (.own _) (.cons (.own _) (.cons (.own _) .nil))), AT.tyx (h.same s1), k, q _ s1⟩
    · have k : PySem.W.kitAny K t ([A0.number, A0.count, A0.total, A0.gap].map Value.ref) = some false := by
        have : ∀ bs : List Addr, (∀ b ∈ bs, A0.Is b) → PySem.W.kitAny K t (bs.map Value.ref) = some false := fun bs => by
          induction bs with
          | nil => exact fun _ => rfl
          | cons b r ih => exact fun hb => kitAny_cons (hn b (hb b List.mem_cons_self)) (fun _ => ih fun b hb' => hb b (List.mem_cons_of_mem _ hb')) (fun z => nomatch z)
        exact this _ cs
      exact ⟨_, p, _, _, _, false, rfl, upd_same, .cons (.own _) (.cons (.own _) (.cons (.own _) (.cons (.own _) .nil))), tyx_same h s1, k, q _ s1⟩
structure G0e (P : Program) (w : World) (K : PySem.W.Frag) (mg : Str → Option Value) (base : Heap) (A0 : AC) (C : TC) : Prop where
  is_term : Cal P w K mg base CX0 "is_term" 1 ["thing"] (spIsTerm K C)
  is_amount : Cal P w K mg base CX0 "is_amount" 1 ["thing"] (spIsAm K A0 C)
abbrev s_Term_eq : Stmt := inClass (topS 15) 0
theorem sc_Term_eq : FnScope ["self", "other"] ["self", "other"] (defScope s_Term_eq) := ⟨rfl, rfl, rfl, by decide +kernel, rfl, by decide +kernel, by decide +kernel⟩
theorem ok_teq {f : Addr} {fd : FuncData} (F : Fun K "__eq__" "Term.__eq__" s_Term_eq f fd) (B : Blt mg) (T : TF K mg C) (G : G0e P w K mg base A0 C) : FnOk P w K mg base CX0 2 f fd ["self", "other"] (spTEq K C) := by
  refine F.ok sc_Term_eq (fun vs H Q E h => ?_) (fun cdv A outer s H vs Q E hr h => ?_)
  · obtain ⟨a, t, v, rfl, _⟩ := h
    rfl
  · obtain ⟨a, t, v, rfl, hT, hN, h⟩ := h
    refine ⟨_, (pss_one (ps_ret (pe_and (pe_cal G.is_term (hr.mono (by decide)) pass0 (pa_cons (pv 1) pa_nil)) (pe_one (pe_cmpR (op_eqD hr.units) (pe_fld (pv 0) rfl) (pe_fld (pv 1) rfl) (nomark _)))))), ?_⟩
    rcases h with ⟨b, u, rfl, hU, hM, q⟩ | ⟨hn, q⟩
    · refine ⟨_, rfl, _, rfl, .inl ⟨b, u, rfl, hU, fun H1 s1 => ?_⟩⟩
      obtain ⟨dx, fs, sp, i⟩ := (hT.same s1).in_
      obtain ⟨dx2, fs2, sp2, i2⟩ := (hU.same s1).in_
      refine ⟨_, rfl, iteT ⟨_, rfl, a, _, dx, fs, _, rfl, i.at_, T.cl _ (C.is_of _), T.no _ (C.is_of _) _ (by decide +kernel), i.spelling, _, rfl, b, _, dx2, fs2, _, rfl, i2.at_, T.cl _ (C.is_of _), T.no _ (C.is_of _) _ (by decide +kernel), i2.spelling, ?_⟩⟩
      refine ⟨_, _, .tup (SqT.of i.spl) (spd_dp t), .tup (SqT.of i2.spl) (spd_dp u), flat_shaped (spd_flat hN), flat_shaped (spd_flat hM), ?_⟩
      rw [spd_eqv hN]
      exact q H1 s1
    · exact ⟨_, rfl, _, rfl, .inr ⟨hn, fun H1 s1 => ⟨_, rfl, iteF (q H1 s1)⟩⟩⟩
abbrev s_Amount_eq : Stmt := inClass (topS 32) 0
theorem sc_Amount_eq : FnScope ["self", "other"] ["self", "other"] (defScope s_Amount_eq) := ⟨rfl, rfl, rfl, by decide +kernel, rfl, by decide +kernel, by decide +kernel⟩
theorem ok_aeq {f : Addr} {fd : FuncData} (F : Fun K "__eq__" "Amount.__eq__" s_Amount_eq f fd) (B : Blt mg) (AT : AF K mg A0 C) (G : G0e P w K mg base A0 C) : FnOk P w K mg base CX0 2 f fd ["self", "other"] (spAEq K A0 C) := by
  refine F.ok sc_Amount_eq (fun vs H Q E h => ?_) (fun cdv A outer s H vs Q E hr h => ?_)
  · obtain ⟨a, t, v, rfl, _⟩ := h
    rfl
  · obtain ⟨a, t, v, rfl, hT, hN, h⟩ := h
    refine ⟨_, (pss_one (ps_ret (pe_and (pe_cal G.is_amount (hr.mono (by decide)) pass0 (pa_cons (pv 1) pa_nil)) (pe_one (pe_cmpR (op_eqD hr.units) (pe_fld (pv 0) rfl) (pe_fld (pv 1) rfl) (nomark _)))))), ?_⟩
    rcases h with ⟨b, u, rfl, hU, hM, q⟩ | ⟨hn, q⟩
    · refine ⟨_, rfl, _, rfl, .inl ⟨b, u, rfl, hU, fun H1 s1 => ?_⟩⟩
      obtain ⟨dx, fs, sp, i1, i2, i3⟩ := (hT.same s1).spl
      obtain ⟨dx2, fs2, sp2, j1, j2, j3⟩ := (hU.same s1).spl
      refine ⟨_, rfl, iteT ⟨_, rfl, a, _, dx, fs, _, rfl, i1, AT.cl _ (A0.is_of _), AT.no _ (A0.is_of _) _ (by decide +kernel), i2, _, rfl, b, _, dx2, fs2, _, rfl, j1, AT.cl _ (A0.is_of _), AT.no _ (A0.is_of _) _ (by decide +kernel), j2, ?_⟩⟩
      refine ⟨_, _, .tup (SqT.of i3) (aspd_dp t), .tup (SqT.of j3) (aspd_dp u), flat_shaped (aspd_flat hN), flat_shaped (aspd_flat hM), ?_⟩
      rw [aspd_eqv hN]
      exact q H1 s1
    · exact ⟨_, rfl, _, rfl, .inr ⟨hn, fun H1 s1 => ⟨_, rfl, iteF (q H1 s1)⟩⟩⟩
end
end Ash

set_option Elab.async false
set_option linter.all false
set_option maxRecDepth 100000
set_option maxHeartbeats 4000000
set_option pp.maxSteps 1500
namespace Ash
open PySem PySem.Spec PyProof.Rows L2
open C8 (pss_cut)
/-! ### the parts of a term, its streams -/
def Tm.kids : Tm → List Tm
  | .now => []
  | .last _ t => [t]
  | .next _ t => [t]
  | .shift _ t => [t]
  | .either a b => [a, b]
  | .later a b => [a, b]
  | .earlier a b => [a, b]
def Tm.pts : Tm → List Tm
  | .now => [.now]
  | .last s t => pts t ++ [.last s t]
  | .next s t => pts t ++ [.next s t]
  | .shift s t => pts t ++ [.shift s t]
  | .either a b => pts a ++ pts b ++ [.either a b]
  | .later a b => pts a ++ pts b ++ [.later a b]
  | .earlier a b => pts a ++ pts b ++ [.earlier a b]
def Tm.streams : Tm → List Str
  | .now => []
  | .last s t => s :: streams t
  | .next s t => s :: streams t
  | .shift _ t => streams t
  | .either a b => streams a ++ streams b
  | .later a b => streams a ++ streams b
  | .earlier a b => streams a ++ streams b
def Tm.st? : Tm → List Str
  | .last s _ => [s]
  | .next s _ => [s]
  | _ => []
theorem pts_len : ∀ t : Tm, (t.pts.length : Int) = t.par
  | .now => rfl
  | .last s t => by have := pts_len t; simp only [Tm.pts, Tm.par, List.length_append, List.length_singleton]; omega
  | .next s t => by have := pts_len t; simp only [Tm.pts, Tm.par, List.length_append, List.length_singleton]; omega
  | .shift s t => by have := pts_len t; simp only [Tm.pts, Tm.par, List.length_append, List.length_singleton]; omega
  | .either a b => by have := pts_len a; have := pts_len b; simp only [Tm.pts, Tm.par, List.length_append, List.length_singleton]; omega
  | .later a b => by have := pts_len a; have := pts_len b; simp only [Tm.pts, Tm.par, List.length_append, List.length_singleton]; omega
  | .earlier a b => by have := pts_len a; have := pts_len b; simp only [Tm.pts, Tm.par, List.length_append, List.length_singleton]; omega
theorem st_len : ∀ ps : List Tm, (ps.flatMap Tm.st?).length ≤ ps.length
  | [] => Nat.le_refl _
  | p :: ps => by
    have := st_len ps
    rw [List.flatMap_cons, List.length_append, List.length_cons]
    have : p.st?.length ≤ 1 := by cases p <;> simp [Tm.st?]
    omega
theorem pts_kids : ∀ t : Tm, t.pts = t.kids.flatMap Tm.pts ++ [t]
  | .now => rfl
  | .last s t => by simp [Tm.pts, Tm.kids]
  | .next s t => by simp [Tm.pts, Tm.kids]
  | .shift s t => by simp [Tm.pts, Tm.kids]
  | .either a b => by simp [Tm.pts, Tm.kids]
  | .later a b => by simp [Tm.pts, Tm.kids]
  | .earlier a b => by simp [Tm.pts, Tm.kids]
theorem pts_strs : ∀ (t : Tm) (z : Str), z ∈ t.pts.flatMap Tm.st? ↔ z ∈ t.streams
  | .now, z => by simp [Tm.pts, Tm.st?, Tm.streams]
  | .last s t, z => by simp only [Tm.pts, List.flatMap_append, List.mem_append, pts_strs t z, Tm.streams, List.mem_cons]; simp [Tm.st?, or_comm]
  | .next s t, z => by simp only [Tm.pts, List.flatMap_append, List.mem_append, pts_strs t z, Tm.streams, List.mem_cons]; simp [Tm.st?, or_comm]
  | .shift s t, z => by simp only [Tm.pts, List.flatMap_append, List.mem_append, pts_strs t z, Tm.streams]; simp [Tm.st?]
  | .either a b, z => by simp only [Tm.pts, List.flatMap_append, List.mem_append, pts_strs a z, pts_strs b z, Tm.streams]; simp [Tm.st?]
  | .later a b, z => by simp only [Tm.pts, List.flatMap_append, List.mem_append, pts_strs a z, pts_strs b z, Tm.streams]; simp [Tm.st?]
  | .earlier a b, z => by simp only [Tm.pts, List.flatMap_append, List.mem_append, pts_strs a z, pts_strs b z, Tm.streams]; simp [Tm.st?]
theorem strs_len : ∀ t : Tm, (t.streams.length : Int) = t.lok
  | .now => rfl
  | .last s t => by have := strs_len t; simp only [Tm.streams, Tm.lok, List.length_cons]; omega
  | .next s t => by have := strs_len t; simp only [Tm.streams, Tm.lok, List.length_cons]; omega
  | .shift s t => by have := strs_len t; simp only [Tm.streams, Tm.lok]; omega
  | .either a b => by have := strs_len a; have := strs_len b; simp only [Tm.streams, Tm.lok, List.length_append]; omega
  | .later a b => by have := strs_len a; have := strs_len b; simp only [Tm.streams, Tm.lok, List.length_append]; omega
  | .earlier a b => by have := strs_len a; have := strs_len b; simp only [Tm.streams, Tm.lok, List.length_append]; omega
/-- terms in a row -/
def TmsAt (C : TC) (H : Hp) (us : List V) (ts : List Tm) : Prop := us.length = ts.length ∧ ∀ (i : Nat) v t, us[i]? = some v → ts[i]? = some t → ∃ a, v = .ref a ∧ TmAt C H a t
theorem TmsAt.same {C : TC} {H H' : Hp} {us : List V} {ts : List Tm} (h : TmsAt C H us ts) (s : Same H H') : TmsAt C H' us ts := ⟨h.1, fun i v t a b => by
  obtain ⟨e, h1, h2⟩ := h.2 i v t a b
  exact ⟨e, h1, h2.same s⟩⟩
theorem TmsAt.nil {C : TC} {H : Hp} : TmsAt C H [] [] := ⟨rfl, fun _ _ _ e => nomatch e⟩
theorem TmsAt.app {C : TC} {H : Hp} {us vs : List V} {ts ps : List Tm} (h : TmsAt C H us ts) (g : TmsAt C H vs ps) : TmsAt C H (us ++ vs) (ts ++ ps) := by
  obtain ⟨al, a⟩ := h
  obtain ⟨bl, b⟩ := g
  refine ⟨by rw [List.length_append, List.length_append, al, bl], fun i v x h1 h2 => ?_⟩
  by_cases c : i < us.length
  · rw [List.getElem?_append_left c] at h1
    rw [List.getElem?_append_left (by omega)] at h2
    exact a i v x h1 h2
  · rw [List.getElem?_append_right (by omega)] at h1
    rw [List.getElem?_append_right (by omega), ← al] at h2
    exact b _ v x h1 h2
theorem TmsAt.one {C : TC} {H : Hp} {a : Addr} {t : Tm} (h : TmAt C H a t) : TmsAt C H [.ref a] [t] := ⟨rfl, fun i v x h1 h2 => by
  match i, h1, h2 with
  | 0, h1, h2 => cases h1; cases h2; exact ⟨a, rfl, h⟩⟩
def spKids (C : TC) : Sp := fun vs H Q _ => ∃ (a : Addr) (t : Tm), vs = [.ref a] ∧ TmAt C H a t ∧ ∀ (q : Addr) us H', Same H H' → H' q = some (.tup us) → TmsAt C H' us t.kids → Q (.ref q) H'
def spPts (C : TC) (d : Nat) : Sp := fun vs H Q _ => ∃ (a : Addr) (t : Tm), vs = [.ref a] ∧ TmAt C H a t ∧ t.dep ≤ (d : Int) ∧ t.par ≤ 40 ∧ ∀ (q : Addr) us H', Same H H' → H q = none → H' q = some (.lst us) → TmsAt C H' us t.pts → Q (.ref q) H'
def spStrs (C : TC) : Sp := fun vs H Q _ => ∃ (a : Addr) (t : Tm), vs = [.ref a] ∧ TmAt C H a t ∧ t.Fit ∧ ∀ (q : Addr) (ys : List Str) H', Same H H' → H q = none → H' q = some (.lst (ys.map V.str)) → ys.Nodup → sortedS ys = true → (∀ z, z ∈ ys ↔ z ∈ t.streams) → Q (.ref q) H'
section
variable {P : Program} {w : World} {K : PySem.W.Frag} {mg : Str → Option Value} {base : Heap} {C : TC} {A0 : AC} {CT : Addr}
theorem TD.now {C : TC} (D : TD C) (t : Tm) : decide (C.of t = C.now) = (t.kids.length == 0) := by
  have h := D.nd
  simp only [List.nodup_cons, List.mem_cons, List.not_mem_nil, or_false, not_or] at h
  obtain ⟨⟨a1, a2, a3, a4, a5, a6⟩, _⟩ := h
  cases t <;> simp [TC.of, Tm.kids, Ne.symm a1, Ne.symm a2, Ne.symm a3, Ne.symm a4, Ne.symm a5, Ne.symm a6]
theorem TD.single {C : TC} (D : TD C) (t : Tm) : decide (C.of t ∈ [C.last, C.next, C.shift]) = (t.kids.length == 1) := by
  have h := D.nd
  simp only [List.nodup_cons, List.mem_cons, List.not_mem_nil, or_false, not_or] at h
  obtain ⟨⟨a1, a2, a3, a4, a5, a6⟩, ⟨b1, b2, b3, b4, b5⟩, ⟨c1, c2, c3, c4⟩, ⟨d1, d2, d3⟩, _⟩ := h
  cases t <;> simp [TC.of, Tm.kids, a1, a2, a3, Ne.symm b3, Ne.symm b4, Ne.symm b5, Ne.symm c2, Ne.symm c3, Ne.symm c4, Ne.symm d1, Ne.symm d2, Ne.symm d3]
abbrev s_children_of : Stmt := topS 29
theorem sc_children_of : FnScope ["term"] ["term"] (defScope s_children_of) := ⟨rfl, rfl, rfl, by decide +kernel, rfl, by decide +kernel, by decide +kernel⟩
theorem ok_kids {f : Addr} {fd : FuncData} (F : Fun K "children_of" "children_of" s_children_of f fd) (B : Blt mg) (T : TF K mg C) (D : TD C) : FnOk P w K mg base CX0 1 f fd ["term"] (spKids C) := by
  obtain ⟨t_cl, t_no, t_ty, t_one, c_Now, c_Last, c_Next, c_Shift, c_Either, c_Later, c_Earlier⟩ := id T
  refine F.ok sc_children_of (fun vs H Q E h => ?_) (fun cdv A outer s H vs Q E hr h => ?_)
  · obtain ⟨a, t, rfl, _⟩ := h
    rfl
  · obtain ⟨a, t, rfl, hT, q⟩ := h
    refine ⟨_, (pss_cons (ps_if (pt_val (pe_callB call_isi (by rfl) B.isinstance (by decide +kernel) (pa_cons (pv 0) (pa_cons (pe_glob (v := .ref C.now) (by rfl) c_Now rfl) pa_nil))))
      (pss_one (ps_ret (pe_tup pa_nil)))
      pss_nil)
    (pss_cons (ps_if (pt_val (pe_callB call_isiT (by rfl) B.isinstance (by decide +kernel) (pa_cons (pv 0) (pa_cons (pe_tup (pa_cons (pe_glob (v := .ref C.last) (by rfl) c_Last rfl) (pa_cons (pe_glob (v := .ref C.next) (by rfl) c_Next rfl) (pa_cons (pe_glob (v := .ref C.shift) (by rfl) c_Shift rfl) pa_nil)))) pa_nil))))
      (pss_one (ps_ret (pe_tup (pa_cons (pe_fld (pv 0) rfl) pa_nil))))
      pss_nil)
    (pss_one (ps_ret (pe_tup (pa_cons (pe_fld (pv 0) rfl) (pa_cons (pe_fld (pv 0) rfl) pa_nil))))))), ?_⟩
    have k := T.one (C.of t) C.now (C.is_of t) (C.is_of .now)
    rw [D.now] at k
    refine ⟨_, rfl, _, _, _, _, _, rfl, .own _, T.tyx hT, k, _, rfl, ?_⟩
    have k3 := T.any (C.is_of t) (bs := [C.last, C.next, C.shift]) fun b hb => by
      simp only [List.mem_cons, List.not_mem_nil, or_false] at hb
      rcases hb with rfl | rfl | rfl
      · exact C.is_of (.last "" .now)
      · exact C.is_of (.next "" .now)
      · exact C.is_of (.shift 0 .now)
    rw [D.single] at k3
    cases t with
    | now =>
      refine iteT ⟨(by show 0 ≤ sizeLine; decide), fun q1 hq1 => ?_⟩
      exact q q1 [] _ (sameAt (Same.refl _) hq1) upd_same .nil
    | last s u =>
      obtain ⟨dx, b, sp, h1, h2, h3⟩ := id hT
      have Is := C.is_of (.last s u)
      refine iteF ⟨_, rfl, (by show 3 ≤ sizeLine; decide), fun p hp => ?_⟩
      have s1 := sameAt (o := .tup [.ref C.last, .ref C.next, .ref C.shift]) (Same.refl H) hp
      refine ⟨_, p, _, _, _, _, rfl, upd_same, .cons (.own _) (.cons (.own _) (.cons (.own _) .nil)), T.tyx (hT.same s1), k3, _, rfl, iteT ?_⟩
      refine ⟨_, rfl, a, _, dx, _, _, rfl, s1 _ _ h1, T.cl _ Is, T.no _ Is _ (by decide +kernel), rfl, (by show 1 ≤ sizeLine; decide), fun q1 hq1 => ?_⟩
      have s2 := s1.trans (sameAt (o := .tup [.ref b]) (Same.refl _) hq1)
      exact q q1 _ _ s2 upd_same (.one (h3.same s2))
    | next s u =>
      obtain ⟨dx, b, sp, h1, h2, h3⟩ := id hT
      have Is := C.is_of (.next s u)
      refine iteF ⟨_, rfl, (by show 3 ≤ sizeLine; decide), fun p hp => ?_⟩
      have s1 := sameAt (o := .tup [.ref C.last, .ref C.next, .ref C.shift]) (Same.refl H) hp
      refine ⟨_, p, _, _, _, _, rfl, upd_same, .cons (.own _) (.cons (.own _) (.cons (.own _) .nil)), T.tyx (hT.same s1), k3, _, rfl, iteT ?_⟩
      refine ⟨_, rfl, a, _, dx, _, _, rfl, s1 _ _ h1, T.cl _ Is, T.no _ Is _ (by decide +kernel), rfl, (by show 1 ≤ sizeLine; decide), fun q1 hq1 => ?_⟩
      have s2 := s1.trans (sameAt (o := .tup [.ref b]) (Same.refl _) hq1)
      exact q q1 _ _ s2 upd_same (.one (h3.same s2))
    | shift s u =>
      obtain ⟨dx, b, sp, h1, h2, h3⟩ := id hT
      have Is := C.is_of (.shift s u)
      refine iteF ⟨_, rfl, (by show 3 ≤ sizeLine; decide), fun p hp => ?_⟩
      have s1 := sameAt (o := .tup [.ref C.last, .ref C.next, .ref C.shift]) (Same.refl H) hp
      refine ⟨_, p, _, _, _, _, rfl, upd_same, .cons (.own _) (.cons (.own _) (.cons (.own _) .nil)), T.tyx (hT.same s1), k3, _, rfl, iteT ?_⟩
      refine ⟨_, rfl, a, _, dx, _, _, rfl, s1 _ _ h1, T.cl _ Is, T.no _ Is _ (by decide +kernel), rfl, (by show 1 ≤ sizeLine; decide), fun q1 hq1 => ?_⟩
      have s2 := s1.trans (sameAt (o := .tup [.ref b]) (Same.refl _) hq1)
      exact q q1 _ _ s2 upd_same (.one (h3.same s2))
    | either u v =>
      obtain ⟨dx, b, c, sp, h1, h2, h3, h4⟩ := id hT
      have Is := C.is_of (.either u v)
      refine iteF ⟨_, rfl, (by show 3 ≤ sizeLine; decide), fun p hp => ?_⟩
      have s1 := sameAt (o := .tup [.ref C.last, .ref C.next, .ref C.shift]) (Same.refl H) hp
      refine ⟨_, p, _, _, _, _, rfl, upd_same, .cons (.own _) (.cons (.own _) (.cons (.own _) .nil)), T.tyx (hT.same s1), k3, _, rfl, iteF ?_⟩
      refine ⟨_, rfl, a, _, dx, _, _, rfl, s1 _ _ h1, T.cl _ Is, T.no _ Is _ (by decide +kernel), rfl, _, rfl, a, _, dx, _, _, rfl, s1 _ _ h1, T.cl _ Is, T.no _ Is _ (by decide +kernel), rfl, (by show 2 ≤ sizeLine; decide), fun q1 hq1 => ?_⟩
      have s2 := s1.trans (sameAt (o := .tup [.ref b, .ref c]) (Same.refl _) hq1)
      exact q q1 _ _ s2 upd_same (TmsAt.app (.one (h3.same s2)) (.one (h4.same s2)))
    | later u v =>
      obtain ⟨dx, b, c, sp, h1, h2, h3, h4⟩ := id hT
      have Is := C.is_of (.later u v)
      refine iteF ⟨_, rfl, (by show 3 ≤ sizeLine; decide), fun p hp => ?_⟩
      have s1 := sameAt (o := .tup [.ref C.last, .ref C.next, .ref C.shift]) (Same.refl H) hp
      refine ⟨_, p, _, _, _, _, rfl, upd_same, .cons (.own _) (.cons (.own _) (.cons (.own _) .nil)), T.tyx (hT.same s1), k3, _, rfl, iteF ?_⟩
      refine ⟨_, rfl, a, _, dx, _, _, rfl, s1 _ _ h1, T.cl _ Is, T.no _ Is _ (by decide +kernel), rfl, _, rfl, a, _, dx, _, _, rfl, s1 _ _ h1, T.cl _ Is, T.no _ Is _ (by decide +kernel), rfl, (by show 2 ≤ sizeLine; decide), fun q1 hq1 => ?_⟩
      have s2 := s1.trans (sameAt (o := .tup [.ref b, .ref c]) (Same.refl _) hq1)
      exact q q1 _ _ s2 upd_same (TmsAt.app (.one (h3.same s2)) (.one (h4.same s2)))
    | earlier u v =>
      obtain ⟨dx, b, c, sp, h1, h2, h3, h4⟩ := id hT
      have Is := C.is_of (.earlier u v)
      refine iteF ⟨_, rfl, (by show 3 ≤ sizeLine; decide), fun p hp => ?_⟩
      have s1 := sameAt (o := .tup [.ref C.last, .ref C.next, .ref C.shift]) (Same.refl H) hp
      refine ⟨_, p, _, _, _, _, rfl, upd_same, .cons (.own _) (.cons (.own _) (.cons (.own _) .nil)), T.tyx (hT.same s1), k3, _, rfl, iteF ?_⟩
      refine ⟨_, rfl, a, _, dx, _, _, rfl, s1 _ _ h1, T.cl _ Is, T.no _ Is _ (by decide +kernel), rfl, _, rfl, a, _, dx, _, _, rfl, s1 _ _ h1, T.cl _ Is, T.no _ Is _ (by decide +kernel), rfl, (by show 2 ≤ sizeLine; decide), fun q1 hq1 => ?_⟩
      have s2 := s1.trans (sameAt (o := .tup [.ref b, .ref c]) (Same.refl _) hq1)
      exact q q1 _ _ s2 upd_same (TmsAt.app (.one (h3.same s2)) (.one (h4.same s2)))
structure G1s (P : Program) (w : World) (K : PySem.W.Frag) (mg : Str → Option Value) (base : Heap) (C : TC) (d : Nat) : Prop where
  children_of : Cal P w K mg base CX0 "children_of" 1 ["term"] (spKids C)
  parts_of : Cal P w K mg base CX0 "parts_of" (d + 2) ["term"] (spPts C d)
abbrev s_parts_of : Stmt := topS 30
theorem sc_parts_of : FnScope ["term", "found", "child"] ["term"] (defScope s_parts_of) := ⟨rfl, rfl, rfl, by decide +kernel, rfl, by decide +kernel, by decide +kernel⟩
theorem ok_pts0 {f : Addr} {fd : FuncData} (F : Fun K "parts_of" "parts_of" s_parts_of f fd) : FnOk P w K mg base CX0 (0 + 2) f fd ["term"] (spPts C 0) := by
  refine F.ok sc_parts_of (fun vs H Q E h => ?_) (fun cdv A outer s H vs Q E hr h => ?_)
  · obtain ⟨a, t, rfl, _⟩ := h
    rfl
  · obtain ⟨a, t, rfl, _, hd, _⟩ := h
    have := t.dep_pos
    have hd : t.dep ≤ 0 := hd
    omega
theorem kid_sz {t u : Tm} (h : u ∈ t.kids) : u.dep + 1 ≤ t.dep ∧ u.par + 1 ≤ t.par := by
  cases t with
  | now => cases h
  | last s v => cases List.mem_singleton.mp h; exact ⟨by show u.dep + 1 ≤ 1 + u.dep; omega, by show u.par + 1 ≤ 1 + u.par; omega⟩
  | next s v => cases List.mem_singleton.mp h; exact ⟨by show u.dep + 1 ≤ 1 + u.dep; omega, by show u.par + 1 ≤ 1 + u.par; omega⟩
  | shift s v => cases List.mem_singleton.mp h; exact ⟨by show u.dep + 1 ≤ 1 + u.dep; omega, by show u.par + 1 ≤ 1 + u.par; omega⟩
  | either a b =>
    have m1 := Tm.mx_l a.dep b.dep
    have m2 := Tm.mx_r a.dep b.dep
    have p1 := a.par_pos
    have p2 := b.par_pos
    have h : u ∈ [a, b] := h
    simp only [List.mem_cons, List.not_mem_nil, or_false] at h
    rcases h with rfl | rfl
    · exact ⟨by show u.dep + 1 ≤ 1 + Tm.mx u.dep b.dep; omega, by show u.par + 1 ≤ 1 + (u.par + b.par); omega⟩
    · exact ⟨by show u.dep + 1 ≤ 1 + Tm.mx a.dep u.dep; omega, by show u.par + 1 ≤ 1 + (a.par + u.par); omega⟩
  | later a b =>
    have m1 := Tm.mx_l a.dep b.dep
    have m2 := Tm.mx_r a.dep b.dep
    have p1 := a.par_pos
    have p2 := b.par_pos
    have h : u ∈ [a, b] := h
    simp only [List.mem_cons, List.not_mem_nil, or_false] at h
    rcases h with rfl | rfl
    · exact ⟨by show u.dep + 1 ≤ 1 + Tm.mx u.dep b.dep; omega, by show u.par + 1 ≤ 1 + (u.par + b.par); omega⟩
    · exact ⟨by show u.dep + 1 ≤ 1 + Tm.mx a.dep u.dep; omega, by show u.par + 1 ≤ 1 + (a.par + u.par); omega⟩
  | earlier a b =>
    have m1 := Tm.mx_l a.dep b.dep
    have m2 := Tm.mx_r a.dep b.dep
    have p1 := a.par_pos
    have p2 := b.par_pos
    have h : u ∈ [a, b] := h
    simp only [List.mem_cons, List.not_mem_nil, or_false] at h
    rcases h with rfl | rfl
    · exact ⟨by show u.dep + 1 ≤ 1 + Tm.mx u.dep b.dep; omega, by show u.par + 1 ≤ 1 + (u.par + b.par); omega⟩
    · exact ⟨by show u.dep + 1 ≤ 1 + Tm.mx a.dep u.dep; omega, by show u.par + 1 ≤ 1 + (a.par + u.par); omega⟩
theorem pts_take {ts : List Tm} {i : Nat} : ((ts.take i).flatMap Tm.pts).length ≤ (ts.flatMap Tm.pts).length := by
  have : ts.flatMap Tm.pts = (ts.take i).flatMap Tm.pts ++ (ts.drop i).flatMap Tm.pts := by rw [← List.flatMap_append, List.take_append_drop]
  rw [this, List.length_append]
  omega
theorem ok_pts {f : Addr} {fd : FuncData} {d : Nat} (F : Fun K "parts_of" "parts_of" s_parts_of f fd) (B : Blt mg) (G : G1s P w K mg base C d) : FnOk P w K mg base CX0 (d + 1 + 2) f fd ["term"] (spPts C (d + 1)) := by
  refine F.ok sc_parts_of (fun vs H Q E h => ?_) (fun cdv A outer s H vs Q E hr h => ?_)
  · obtain ⟨a, t, rfl, _⟩ := h
    rfl
  · obtain ⟨a, t, rfl, hT, hd, hp, q⟩ := h
    refine ⟨_, (pss_cons (ps_set (i := 1) sc_parts_of.nd rfl (Or.inl rfl) (pe_lst pa_nil))
    (pss_cons (ps_for PassesOwn.never rfl (pi_tup (pe_cal G.children_of (hr.mono (by omega)) pass0 (pa_cons (pv 0) pa_nil))) (pg_name (i := 2) sc_parts_of.nd rfl (Or.inl rfl))
      (pss_one (ps_set (i := 1) sc_parts_of.nd rfl (Or.inl rfl) (pe_lst (StX.pa_star (pv 1) (StX.pa_star (pe_cal G.parts_of (hr.mono (by omega)) pass0 (pa_cons (pv 2) pa_nil)) pa_nil))))))
    (pss_one (ps_ret (pe_lst (StX.pa_star (pv 1) (pa_cons (pv 0) pa_nil))))))), ?_⟩
    refine ⟨(by show 0 ≤ sizeLine; decide), fun l hl => ?_⟩
    have s0 := sameAt (o := .lst []) (Same.refl H) hl
    refine ⟨_, rfl, a, t, rfl, hT.same s0, fun q1 us H1 s1 hq1 hk => ⟨q1, rfl, ⟨_, SqT.of hq1⟩, ?_⟩⟩
    have hl1 : H1 l = some (.lst []) := s1 _ _ upd_same
    have hpl : ((t.kids.flatMap Tm.pts).length : Int) + 1 = t.par := by
      have := pts_len t
      rw [pts_kids, List.length_append] at this
      exact this
    have kl := hk.1
    have n0 : ∀ {p : Addr} {H2 : Hp}, Same H1 H2 → H2 p = none → H p = none := fun s h => none_of ((s0.trans s1).trans s) h
    refine for_it (walk_tup (K := K) (a := q1) (xs := us)) (fun i σ H2 => (∃ l' x2, σ = [some (.ref a), some (.ref l'), x2] ∧ ∃ vs, H2 l' = some (.lst vs) ∧ TmsAt C H2 vs ((t.kids.take i).flatMap Tm.pts)) ∧ Same H1 H2) ⟨⟨l, _, rfl, [], hl1, .nil⟩, Same.refl _⟩ (fun i σ H2 _ hv => SqT.of (hv.2 _ _ hq1)) ?_ ?_
    · rintro i y σ H2 _ hi ⟨⟨l', x2, rfl, vs, hl', hP⟩, s2⟩ ⟨rfl, hy⟩
      have hil : i < t.kids.length := by rw [← kl]; exact (List.getElem?_eq_some_iff.mp hy).1
      obtain ⟨u, hu⟩ : ∃ u, t.kids[i]? = some u := ⟨_, List.getElem?_eq_getElem hil⟩
      obtain ⟨e, rfl, he⟩ := hk.2 i y u hy hu
      obtain ⟨z1, z2⟩ := kid_sz (List.mem_of_getElem? hu)
      have lv : vs.length + u.pts.length ≤ 40 := by
        have h1 : ((t.kids.take (i + 1)).flatMap Tm.pts).length ≤ (t.kids.flatMap Tm.pts).length := pts_take
        rw [list_take hu, List.flatMap_append, List.length_append, ← hP.1] at h1
        have h2 : ([u].flatMap Tm.pts).length = u.pts.length := by simp
        omega
      refine ⟨_, rfl, l', vs, rfl, .inr (SqL.of hl'), _, rfl, e, u, rfl, he.same s2, by omega, by omega, fun q2 vs2 H3 s3 hn hq2 hP2 => ⟨q2, vs2, rfl, .inr (SqL.of hq2), ?_, fun l2 hl2 => ?_⟩⟩
      · have := hP2.1
        rw [List.append_nil, List.length_append, this, sizeLine_eq]
        omega
      · have s4 := s3.trans (sameAt (o := .lst (vs ++ (vs2 ++ []))) (Same.refl H3) hl2)
        refine ⟨⟨l2, _, rfl, vs ++ (vs2 ++ []), upd_same, ?_⟩, s2.trans s4⟩
        rw [list_take hu, List.flatMap_append]
        have h2 : [u].flatMap Tm.pts = u.pts := by simp
        rw [h2]
        have g := (hP.same s4).app (hP2.same (sameAt (o := .lst (vs ++ (vs2 ++ []))) (Same.refl H3) hl2))
        simp only [List.append_nil] at g ⊢
        exact g
    · rintro σ H2 ⟨⟨l', x2, rfl, vs, hl', hP⟩, s2⟩
      rw [kl, List.take_length] at hP
      refine ⟨_, rfl, l', vs, rfl, .inr (SqL.of hl'), _, rfl, ?_, fun l2 hl2 => ?_⟩
      · show (vs ++ [V.ref a]).length ≤ sizeLine
        rw [List.length_append, hP.1, sizeLine_eq]
        show _ + 1 ≤ _
        omega
      · have s3 := s2.trans (sameAt (o := .lst (vs ++ [.ref a])) (Same.refl H2) hl2)
        refine q l2 _ _ ((s0.trans s1).trans s3) (n0 s2 hl2) upd_same ?_
        rw [pts_kids]
        exact (hP.same (sameAt (Same.refl H2) hl2)).app (.one (((hT.same s0).same s1).same s3))
structure G2s (P : Program) (w : World) (K : PySem.W.Frag) (mg : Str → Option Value) (base : Heap) (C : TC) : Prop where
  parts_of : Cal P w K mg base CX0 "parts_of" 14 ["term"] (spPts C 12)
  is_look : Cal P w K mg base CX0 "is_look" 1 ["thing"] (spIsLook C)
abbrev s_Term_streams : Stmt := inClass (topS 15) 6
theorem sc_Term_streams : FnScope ["self", "part"] ["self"] (defScope s_Term_streams) := ⟨rfl, rfl, rfl, by decide +kernel, rfl, by decide +kernel, by decide +kernel⟩
theorem ok_streams {f : Addr} {fd : FuncData} (F : Fun K "streams" "Term.streams" s_Term_streams f fd) (B : Blt mg) (T : TF K mg C) (G : G2s P w K mg base C) : FnOk P w K mg base CX0 15 f fd ["self"] (spStrs C) := by
  refine F.ok sc_Term_streams (fun vs H Q E h => ?_) (fun cdv A outer s H vs Q E hr h => ?_)
  · obtain ⟨a, t, rfl, _⟩ := h
    rfl
  · obtain ⟨a, t, rfl, hT, hF, q⟩ := h
    refine ⟨_, (pss_one (ps_ret (pe_callB (cr_sortM rfl) (by rfl) B.sorted (by decide +kernel) (pa_cons (pe_callTy (cr_setL rfl) (by rfl) B.set (by decide +kernel) (pa_cons (pe_lc (own := [("part", 1)]) (g := gName 1) (by rfl) sc_Term_streams.nd (pi_list (pe_cal G.parts_of (hr.mono (by omega)) pass0 (pa_cons (pv 0) pa_nil))) (blkOk_by (own := [("part", 1)]) (N := ["self", "part"]) (sc := defScope s_Term_streams) (by decide +kernel)) (fun _ _ _ _ _ => (pg_name (i := 1) sc_Term_streams.nd rfl (Or.inl rfl))) (fun _ _ _ _ _ => pts_one (pt_val (pe_cal G.is_look (hr.mono (by omega)) pass0 (pa_cons (pv 1) pa_nil)))) (fun _ _ _ _ _ => (show PE _ _ (tFld K _ _) from pe_fld (pv 1) rfl))) pa_nil)) pa_nil)))), ?_⟩
    refine ⟨_, rfl, a, t, rfl, hT, hF.1, hF.2.1, fun q1 us H1 s1 hn1 hq1 hP => ⟨q1, rfl, ⟨_, SqL.of hq1⟩, fun D hD => ?_⟩⟩
    refine lc_list (a := q1) (xs := us) (fun i H5 => H5 D = some (.lst (((t.pts.take i).flatMap Tm.st?).map V.str)) ∧ Same H1 H5) ⟨upd_same, sameAt (Same.refl _) hD⟩ (fun i H5 _ hv => SqL.of (hv.2 _ _ hq1)) ?_ ?_
    · rintro i v H5 hvi ⟨hD5, s5⟩
      have hil : i < t.pts.length := by rw [← hP.1]; exact (List.getElem?_eq_some_iff.mp hvi).1
      obtain ⟨u, hu⟩ : ∃ u, t.pts[i]? = some u := ⟨_, List.getElem?_eq_getElem hil⟩
      obtain ⟨e, rfl, he⟩ := hP.2 i v u hvi hu
      have he5 := he.same s5
      refine ⟨rfl, _, rfl, e, u, rfl, he5, fun H6 s6 => ⟨_, rfl, ?_⟩⟩
      have he6 := he5.same s6
      have hD6 := s6 _ _ hD5
      have st : (t.pts.take (i + 1)).flatMap Tm.st? = (t.pts.take i).flatMap Tm.st? ++ u.st? := by rw [list_take hu, List.flatMap_append]; simp
      have lf : ((t.pts.take i).flatMap Tm.st?).length ≤ 40 := by
        have h1 := st_len (t.pts.take i)
        have h2 := pts_len t
        have h3 : t.par ≤ 40 := hF.2.1
        rw [List.length_take] at h1
        omega
      cases u with
      | last z p =>
        obtain ⟨dx, b, sp, h1, h2, h3⟩ := id he6
        have Is := C.is_of (.last z p)
        refine iteT ⟨_, rfl, e, _, dx, _, _, rfl, h1, T.cl _ Is, T.no _ Is _ (by decide +kernel), rfl, _, hD6, (by rw [List.length_map]; exact small1000 (by omega)), ?_, sameAt (s5.trans s6) hD⟩
        rw [upd_same, st, List.map_append]
        rfl
      | next z p =>
        obtain ⟨dx, b, sp, h1, h2, h3⟩ := id he6
        have Is := C.is_of (.next z p)
        refine iteT ⟨_, rfl, e, _, dx, _, _, rfl, h1, T.cl _ Is, T.no _ Is _ (by decide +kernel), rfl, _, hD6, (by rw [List.length_map]; exact small1000 (by omega)), ?_, sameAt (s5.trans s6) hD⟩
        rw [upd_same, st, List.map_append]
        rfl
      | _ => exact iteF ⟨by rw [st]; exact hD6.trans (by rw [show Tm.st? _ = [] from rfl, List.append_nil]), s5.trans s6⟩
    · rintro H5 ⟨hD5, s5⟩
      rw [hP.1, List.take_length] at hD5
      have lf : (t.pts.flatMap Tm.st?).length ≤ 40 := by
        have h1 := st_len t.pts
        have h2 := pts_len t
        have h3 : t.par ≤ 40 := hF.2.1
        omega
      have ek : ((t.pts.flatMap Tm.st?).map (Sum.inr : Str → Key)).map kV = (t.pts.flatMap Tm.st?).map V.str := by rw [List.map_map]; rfl
      refine ⟨D, (t.pts.flatMap Tm.st?).map Sum.inr, rfl, SqL.of (by rw [ek]; exact hD5), by rw [List.length_map]; omega, fun p n hp hn => ?_⟩
      refine ⟨p, _, n, rfl, upd_same, .inl ⟨t.pts.flatMap Tm.st?, fun k => kIn_iff, fun ys q1' hq1' nd hm hs hln => ?_⟩⟩
      have s6 : Same H5 (upd H5 p (SetMO w p (kIn ((t.pts.flatMap Tm.st?).map Sum.inr)) n)) := sameAt (Same.refl _) hp
      have s7 := (s1.trans s5).trans s6
      exact q q1' ys _ (s7.trans (sameAt (Same.refl _) hq1')) (none_of s7 hq1') upd_same nd hs fun z => (hm z).trans (pts_strs t z)
def Am.tms : Am → List Tm
  | .number _ t => [t]
  | .count _ t u => [t, u]
  | .total _ t u => [t, u]
  | .gap t u => [t, u]
def Am.own : Am → List Str
  | .number s _ => [s]
  | .count s _ _ => [s]
  | .total s _ _ => [s]
  | .gap _ _ => []
def Am.streams (q : Am) : List Str := q.own ++ q.tms.flatMap Tm.streams
def spTmsOf (A : AC) (C : TC) : Sp := fun vs H Q _ => ∃ (a : Addr) (t : Am), vs = [.ref a] ∧ AmAt A C H a t ∧ ∀ (q : Addr) us H', Same H H' → H' q = some (.tup us) → TmsAt C H' us t.tms → Q (.ref q) H'
def spAStrs (A : AC) (C : TC) : Sp := fun vs H Q _ => ∃ (a : Addr) (t : Am), vs = [.ref a] ∧ AmAt A C H a t ∧ t.Fit ∧ ∀ (q : Addr) (ys : List Str) H', Same H H' → H q = none → H' q = some (.lst (ys.map V.str)) → ys.Nodup → sortedS ys = true → (∀ z, z ∈ ys ↔ z ∈ t.streams) → Q (.ref q) H'
abbrev s_terms_of : Stmt := topS 38
theorem sc_terms_of : FnScope ["question"] ["question"] (defScope s_terms_of) := ⟨rfl, rfl, rfl, by decide +kernel, rfl, by decide +kernel, by decide +kernel⟩
theorem ok_tmsof {f : Addr} {fd : FuncData} (F : Fun K "terms_of" "terms_of" s_terms_of f fd) (B : Blt mg) (AT : AF K mg A0 C) : FnOk P w K mg base CX0 1 f fd ["question"] (spTmsOf A0 C) := by
  have c_Number := AT.Number
  refine F.ok sc_terms_of (fun vs H Q E h => ?_) (fun cdv A outer s H vs Q E hr h => ?_)
  · obtain ⟨a, t, rfl, _⟩ := h
    rfl
  · obtain ⟨a, t, rfl, hT, q⟩ := h
    refine ⟨_, (pss_cons (ps_if (pt_val (pe_callB call_isi (by rfl) B.isinstance (by decide +kernel) (pa_cons (pv 0) (pa_cons (pe_glob (v := .ref A0.number) (by rfl) c_Number rfl) pa_nil))))
      (pss_one (ps_ret (pe_tup (pa_cons (pe_fld (pv 0) rfl) pa_nil))))
      pss_nil)
    (pss_one (ps_ret (pe_tup (pa_cons (pe_fld (pv 0) rfl) (pa_cons (pe_fld (pv 0) rfl) pa_nil)))))), ?_⟩
    have k := AT.one (A0.of t) A0.number (A0.is_of t) (A0.is_of (.number "" .now))
    have nd := AT.nd
    simp only [List.nodup_cons, List.mem_cons, List.not_mem_nil, or_false, not_or] at nd
    obtain ⟨⟨a1, a2, a3⟩, _⟩ := nd
    refine ⟨_, rfl, _, _, _, _, _, rfl, .own _, AT.tyx hT, k, _, rfl, ?_⟩
    cases t with
    | number s t =>
      obtain ⟨dx, b, sp, h1, h2, h3⟩ := id hT
      have Is := A0.is_of (.number s t)
      rw [show decide (A0.of (.number s t) = A0.number) = true from decide_eq_true rfl]
      refine iteT ⟨_, rfl, a, _, dx, _, _, rfl, h1, AT.cl _ Is, AT.no _ Is _ (by decide +kernel), rfl, (by show 1 ≤ sizeLine; decide), fun q1 hq1 => ?_⟩
      have s2 := sameAt (o := .tup [.ref b]) (Same.refl _) hq1
      exact q q1 _ _ s2 upd_same (.one (h3.same s2))
    | count s t u =>
      obtain ⟨dx, b, c, sp, h1, h2, h3, h4⟩ := id hT
      have Is := A0.is_of (.count s t u)
      rw [show decide (A0.of (.count s t u) = A0.number) = false from decide_eq_false (Ne.symm a1)]
      refine iteF ⟨_, rfl, a, _, dx, _, _, rfl, h1, AT.cl _ Is, AT.no _ Is _ (by decide +kernel), rfl, _, rfl, a, _, dx, _, _, rfl, h1, AT.cl _ Is, AT.no _ Is _ (by decide +kernel), rfl, (by show 2 ≤ sizeLine; decide), fun q1 hq1 => ?_⟩
      have s2 := sameAt (o := .tup [.ref b, .ref c]) (Same.refl _) hq1
      exact q q1 _ _ s2 upd_same (TmsAt.app (.one (h3.same s2)) (.one (h4.same s2)))
    | total s t u =>
      obtain ⟨dx, b, c, sp, h1, h2, h3, h4⟩ := id hT
      have Is := A0.is_of (.total s t u)
      rw [show decide (A0.of (.total s t u) = A0.number) = false from decide_eq_false (Ne.symm a2)]
      refine iteF ⟨_, rfl, a, _, dx, _, _, rfl, h1, AT.cl _ Is, AT.no _ Is _ (by decide +kernel), rfl, _, rfl, a, _, dx, _, _, rfl, h1, AT.cl _ Is, AT.no _ Is _ (by decide +kernel), rfl, (by show 2 ≤ sizeLine; decide), fun q1 hq1 => ?_⟩
      have s2 := sameAt (o := .tup [.ref b, .ref c]) (Same.refl _) hq1
      exact q q1 _ _ s2 upd_same (TmsAt.app (.one (h3.same s2)) (.one (h4.same s2)))
    | gap t u =>
      obtain ⟨dx, b, c, sp, h1, h2, h3, h4⟩ := id hT
      have Is := A0.is_of (.gap t u)
      rw [show decide (A0.of (.gap t u) = A0.number) = false from decide_eq_false (Ne.symm a3)]
      refine iteF ⟨_, rfl, a, _, dx, _, _, rfl, h1, AT.cl _ Is, AT.no _ Is _ (by decide +kernel), rfl, _, rfl, a, _, dx, _, _, rfl, h1, AT.cl _ Is, AT.no _ Is _ (by decide +kernel), rfl, (by show 2 ≤ sizeLine; decide), fun q1 hq1 => ?_⟩
      have s2 := sameAt (o := .tup [.ref b, .ref c]) (Same.refl _) hq1
      exact q q1 _ _ s2 upd_same (TmsAt.app (.one (h3.same s2)) (.one (h4.same s2)))
structure G3s (P : Program) (w : World) (K : PySem.W.Frag) (mg : Str → Option Value) (base : Heap) (A0 : AC) (C : TC) : Prop where
  terms_of : Cal P w K mg base CX0 "terms_of" 1 ["question"] (spTmsOf A0 C)
  streams : ∃ f fd, MethF K C.Is "streams" f ∧ FnOk P w K mg base CX0 15 f fd ["self"] (spStrs C) ∧ Binds K fd ["self"] []
abbrev s_Amount_streams : Stmt := inClass (topS 32) 1
theorem sc_Amount_streams : FnScope ["self", "found", "term"] ["self"] (defScope s_Amount_streams) := ⟨rfl, rfl, rfl, by decide +kernel, rfl, by decide +kernel, by decide +kernel⟩
theorem ok_astreams {f : Addr} {fd : FuncData} (F : Fun K "streams" "Amount.streams" s_Amount_streams f fd) (B : Blt mg) (AT : AF K mg A0 C) (G : G3s P w K mg base A0 C) : FnOk P w K mg base CX0 16 f fd ["self"] (spAStrs A0 C) := by
  have c_Gap := AT.Gap
  obtain ⟨fs, fds, MS, Fs, bs⟩ := G.streams
  refine F.ok sc_Amount_streams (fun vs H Q E h => ?_) (fun cdv A outer s H vs Q E hr h => ?_)
  · obtain ⟨a, t, rfl, _⟩ := h
    rfl
  · obtain ⟨a, t, rfl, hT, hF, q⟩ := h
    refine ⟨_, (pss_cons (ps_set (i := 1) sc_Amount_streams.nd rfl (Or.inl rfl) (pe_lst pa_nil))
    (pss_cut (ps_if (pt_not (pt_val (pe_callB call_isi (by rfl) B.isinstance (by decide +kernel) (pa_cons (pv 0) (pa_cons (pe_glob (v := .ref A0.gap) (by rfl) c_Gap rfl) pa_nil)))))
      (pss_one (ps_set (i := 1) sc_Amount_streams.nd rfl (Or.inl rfl) (pe_lst (pa_cons (pe_fld (pv 0) rfl) pa_nil))))
      pss_nil)
    (pss_cons (ps_for PassesOwn.never rfl (pi_tup (pe_cal G.terms_of (hr.mono (by omega)) pass0 (pa_cons (pv 0) pa_nil))) (pg_name (i := 2) sc_Amount_streams.nd rfl (Or.inl rfl))
      (pss_one (ps_set (i := 1) sc_Amount_streams.nd rfl (Or.inl rfl) (pe_lst (StX.pa_star (pv 1) (StX.pa_star (pe_methF0 (pv 2) MS Fs (hr.mono (by omega)) bs pass0) pa_nil))))))
    (pss_one (ps_ret (pe_callB (cr_sortM rfl) (by rfl) B.sorted (by decide +kernel) (pa_cons (pe_callTy (cr_setL rfl) (by rfl) B.set (by decide +kernel) (pa_cons (pv 1) pa_nil)) pa_nil))))))), ?_⟩
    have nd := AT.nd
    simp only [List.nodup_cons, List.mem_cons, List.not_mem_nil, or_false, not_or] at nd
    obtain ⟨⟨a1, a2, a3⟩, ⟨b1, b2⟩, b3, _⟩ := nd
    refine ⟨(by show 0 ≤ sizeLine; decide), fun l hl => ?_⟩
    have s0 := sameAt (o := .lst []) (Same.refl H) hl
    have hT0 := hT.same s0
    have k := AT.one (A0.of t) A0.gap (A0.is_of t) (A0.is_of (.gap .now .now))
    refine ⟨fun σ H1 => ∃ l' x2, σ = [some (.ref a), some (.ref l'), x2] ∧ H1 l' = some (.lst (t.own.map V.str)) ∧ Same H H1, ?_, ?_⟩
    · refine ⟨_, rfl, _, _, _, _, _, rfl, .own _, AT.tyx hT0, k, _, rfl, ?_⟩
      cases t with
      | number s t =>
        obtain ⟨dx, b, sp, h1, h2, h3⟩ := id hT0
        have Is := A0.is_of (.number s t)
        rw [show decide (A0.of (.number s t) = A0.gap) = false from decide_eq_false a3]
        refine iteT ⟨_, rfl, a, _, dx, _, _, rfl, h1, AT.cl _ Is, AT.no _ Is _ (by decide +kernel), rfl, (by show 1 ≤ sizeLine; decide), fun l2 hl2 => ?_⟩
        exact ⟨l2, _, rfl, upd_same, s0.trans (sameAt (Same.refl _) hl2)⟩
      | count s t u =>
        obtain ⟨dx, b, c, sp, h1, h2, h3, h4⟩ := id hT0
        have Is := A0.is_of (.count s t u)
        rw [show decide (A0.of (.count s t u) = A0.gap) = false from decide_eq_false b2]
        refine iteT ⟨_, rfl, a, _, dx, _, _, rfl, h1, AT.cl _ Is, AT.no _ Is _ (by decide +kernel), rfl, (by show 1 ≤ sizeLine; decide), fun l2 hl2 => ?_⟩
        exact ⟨l2, _, rfl, upd_same, s0.trans (sameAt (Same.refl _) hl2)⟩
      | total s t u =>
        obtain ⟨dx, b, c, sp, h1, h2, h3, h4⟩ := id hT0
        have Is := A0.is_of (.total s t u)
        rw [show decide (A0.of (.total s t u) = A0.gap) = false from decide_eq_false b3]
        refine iteT ⟨_, rfl, a, _, dx, _, _, rfl, h1, AT.cl _ Is, AT.no _ Is _ (by decide +kernel), rfl, (by show 1 ≤ sizeLine; decide), fun l2 hl2 => ?_⟩
        exact ⟨l2, _, rfl, upd_same, s0.trans (sameAt (Same.refl _) hl2)⟩
      | gap t u =>
        rw [show decide (A0.of (.gap t u) = A0.gap) = true from decide_eq_true rfl]
        exact iteF ⟨l, _, rfl, upd_same, s0⟩
    rintro σ H1 ⟨l', x2, rfl, hl', s1⟩
    clear k a1 a2 a3 b1 b2 b3 hT0 s0 hl
    have own1 : t.own.length ≤ 1 := by cases t <;> simp [Am.own]
    have fits : ∀ u ∈ t.tms, u.Fit := fun u hu => by
      cases t with
      | number s t => rw [List.mem_singleton.mp hu]; exact hF
      | count s t v =>
        have hu : u ∈ [t, v] := hu
        simp only [List.mem_cons, List.not_mem_nil, or_false] at hu
        rcases hu with rfl | rfl
        · exact hF.1
        · exact hF.2
      | total s t v =>
        have hu : u ∈ [t, v] := hu
        simp only [List.mem_cons, List.not_mem_nil, or_false] at hu
        rcases hu with rfl | rfl
        · exact hF.1
        · exact hF.2
      | gap t v =>
        have hu : u ∈ [t, v] := hu
        simp only [List.mem_cons, List.not_mem_nil, or_false] at hu
        rcases hu with rfl | rfl
        · exact hF.1
        · exact hF.2
    have tl : t.tms.length ≤ 2 := by cases t <;> simp [Am.tms]
    refine ⟨_, rfl, a, t, rfl, hT.same s1, fun q1 us H2 s2 hq1 hk => ⟨q1, rfl, ⟨_, SqT.of hq1⟩, ?_⟩⟩
    have kl := hk.1
    refine for_it (walk_tup (K := K) (a := q1) (xs := us)) (fun i σ H3 => (∃ l' x2, σ = [some (.ref a), some (.ref l'), x2] ∧ ∃ zs : List Str, H3 l' = some (.lst (zs.map V.str)) ∧ zs.length ≤ 1 + 12 * i ∧ ∀ z, z ∈ zs ↔ z ∈ t.own ++ (t.tms.take i).flatMap Tm.streams) ∧ Same H2 H3) ⟨⟨l', _, rfl, t.own, s2 _ _ hl', by omega, fun z => by simp⟩, Same.refl _⟩ (fun i σ H3 _ hv => SqT.of (hv.2 _ _ hq1)) ?_ ?_
    · rintro i y σ H3 _ hi ⟨⟨l3, x3, rfl, zs, hl3, zl, zm⟩, s3⟩ ⟨rfl, hy⟩
      have hil : i < t.tms.length := by rw [← kl]; exact (List.getElem?_eq_some_iff.mp hy).1
      obtain ⟨u, hu⟩ : ∃ u, t.tms[i]? = some u := ⟨_, List.getElem?_eq_getElem hil⟩
      obtain ⟨e, rfl, he⟩ := hk.2 i y u hy hu
      have he3 := he.same s3
      have fu := fits u (List.mem_of_getElem? hu)
      obtain ⟨dx, fs', sp, In⟩ := he3.in_
      refine ⟨_, rfl, l3, _, rfl, .inr (SqL.of hl3), _, rfl, e, _, dx, fs', rfl, In.at_, C.is_of _, In.no _ (by decide +kernel) (by decide +kernel), e, u, rfl, he3, fu, fun q2 ys H4 s4 hn hq2 nd so hm => ⟨q2, _, rfl, .inr (SqL.of hq2), ?_, fun l5 hl5 => ?_⟩⟩
      · have yl : ys.length ≤ u.streams.length := sub_len nd fun z hz => (hm z).mp hz
        have := strs_len u
        have : u.lok ≤ 12 := fu.2.2
        rw [List.append_nil, List.length_append, List.length_map, List.length_map, sizeLine_eq]
        omega
      · have yl : ys.length ≤ u.streams.length := sub_len nd fun z hz => (hm z).mp hz
        have := strs_len u
        have : u.lok ≤ 12 := fu.2.2
        have s5 := sameAt (o := .lst (zs.map V.str ++ (ys.map V.str ++ []))) (Same.refl H4) hl5
        refine ⟨⟨l5, _, rfl, zs ++ ys, ?_, by rw [List.length_append]; omega, fun z => ?_⟩, (s3.trans s4).trans s5⟩
        · rw [List.map_append]
          simp only [List.append_nil]
          exact upd_same
        · rw [list_take hu, List.flatMap_append, List.mem_append, zm z, hm z]
          have h2 : [u].flatMap Tm.streams = u.streams := by simp
          rw [h2]
          simp only [List.mem_append, or_assoc]
    · rintro σ H3 ⟨⟨l3, x3, rfl, zs, hl3, zl, zm⟩, s3⟩
      rw [kl, List.take_length] at zm
      rw [kl] at zl
      have ek : (zs.map (Sum.inr : Str → Key)).map kV = zs.map V.str := by rw [List.map_map]; rfl
      refine ⟨_, rfl, l3, zs.map Sum.inr, rfl, SqL.of (by rw [ek]; exact hl3), by rw [List.length_map]; omega, fun p n hp hn => ?_⟩
      refine ⟨p, _, n, rfl, upd_same, .inl ⟨zs, fun k => kIn_iff, fun ys q1' hq1' nd hm hs hln => ?_⟩⟩
      have s6 : Same H3 (upd H3 p (SetMO w p (kIn (zs.map Sum.inr)) n)) := sameAt (Same.refl _) hp
      have s7 := ((s1.trans s2).trans s3).trans s6
      exact q q1' ys _ (s7.trans (sameAt (Same.refl _) hq1')) (none_of s7 hq1') upd_same nd hs fun z => (hm z).trans (zm z)
end
end Ash

set_option Elab.async false
set_option linter.all false
set_option maxRecDepth 100000
set_option maxHeartbeats 4000000
set_option pp.maxSteps 1500
namespace Ash
open PySem PySem.Spec PyProof.Rows L2
open C8 (pss_cut)
/-! ### the law's own terms: tuples in tuples -/
def MdAt (H : Hp) : Addr → Tm → Prop
  | e, .now => H e = some (.tup [.str "now"])
  | e, .last s t => ∃ b, H e = some (.tup [.str "last", .str s, .ref b]) ∧ MdAt H b t
  | e, .next s t => ∃ b, H e = some (.tup [.str "next", .str s, .ref b]) ∧ MdAt H b t
  | e, .shift n t => ∃ b, H e = some (.tup [.str "shift", .int n, .ref b]) ∧ MdAt H b t
  | e, .either t u => ∃ b c, H e = some (.tup [.str "either", .ref b, .ref c]) ∧ MdAt H b t ∧ MdAt H c u
  | e, .later t u => ∃ b c, H e = some (.tup [.str "later", .ref b, .ref c]) ∧ MdAt H b t ∧ MdAt H c u
  | e, .earlier t u => ∃ b c, H e = some (.tup [.str "earlier", .ref b, .ref c]) ∧ MdAt H b t ∧ MdAt H c u
theorem MdAt.tk {H H' : Hp} (n : ∀ t xs, H t = some (.tup xs) → H' t = some (.tup xs)) : ∀ {t : Tm} {a : Addr}, MdAt H a t → MdAt H' a t
  | .now, a, h => n _ _ h
  | .last s t, a, ⟨b, h1, h2⟩ => ⟨b, n _ _ h1, MdAt.tk n h2⟩
  | .next s t, a, ⟨b, h1, h2⟩ => ⟨b, n _ _ h1, MdAt.tk n h2⟩
  | .shift s t, a, ⟨b, h1, h2⟩ => ⟨b, n _ _ h1, MdAt.tk n h2⟩
  | .either s t, a, ⟨b, c, h1, h2, h3⟩ => ⟨b, c, n _ _ h1, MdAt.tk n h2, MdAt.tk n h3⟩
  | .later s t, a, ⟨b, c, h1, h2, h3⟩ => ⟨b, c, n _ _ h1, MdAt.tk n h2, MdAt.tk n h3⟩
  | .earlier s t, a, ⟨b, c, h1, h2, h3⟩ => ⟨b, c, n _ _ h1, MdAt.tk n h2, MdAt.tk n h3⟩
theorem MdAt.same {H H' : Hp} {t : Tm} {a : Addr} (h : MdAt H a t) (s : Same H H') : MdAt H' a t := h.tk fun t xs q => s _ _ q
/-- a shift is of something, and not of a shift -/
def Tm.Nf1 (t : Tm) : Prop := ∀ m u, t = .shift m u → m ≠ 0 ∧ u.isShift = false
theorem nf1_of {t : Tm} (h : t.isShift = false) : t.Nf1 := fun m u e => by rw [e] at h; cases h
theorem nf1_plus {t : Tm} {n : Int} (h : t.Nf1) : (t.plus n).Nf1 := by
  by_cases n0 : n = 0
  · subst n0
    exact h
  · cases hs : t.isShift with
    | false =>
      rw [plus_no hs n0]
      intro m u e
      cases e
      exact ⟨n0, hs⟩
    | true =>
      cases t with
      | shift m u =>
        obtain ⟨m0, us⟩ := h m u rfl
        have e : (Tm.shift m u).plus n = if m + n = 0 then u else .shift (m + n) u := by
          show (if n = 0 then _ else _) = _
          rw [if_neg n0]
        rw [e]
        split
        · exact nf1_of us
        · rename_i z
          intro m' u' e'
          cases e'
          exact ⟨z, us⟩
      | _ => cases hs
/-- what a tuple of tuples is, as data -/
def Tm.mdd : Tm → PyData
  | .now => .tuple [.str "now"]
  | .last s t => .tuple [.str "last", .str s, mdd t]
  | .next s t => .tuple [.str "next", .str s, mdd t]
  | .shift n t => .tuple [.str "shift", .int n, mdd t]
  | .either a b => .tuple [.str "either", mdd a, mdd b]
  | .later a b => .tuple [.str "later", mdd a, mdd b]
  | .earlier a b => .tuple [.str "earlier", mdd a, mdd b]
theorem mdd_dp {K : PySem.W.Frag} {H : Hp} : ∀ {t : Tm} {a : Addr}, MdAt H a t → Dp K H (.ref a) t.mdd
  | .now, a, h => .tup (SqT.of h) (.cons (.str _) .nil)
  | .last s t, a, ⟨b, h1, h2⟩ => .tup (SqT.of h1) (.cons (.str _) (.cons (.str _) (.cons (mdd_dp h2) .nil)))
  | .next s t, a, ⟨b, h1, h2⟩ => .tup (SqT.of h1) (.cons (.str _) (.cons (.str _) (.cons (mdd_dp h2) .nil)))
  | .shift s t, a, ⟨b, h1, h2⟩ => .tup (SqT.of h1) (.cons (.str _) (.cons (.int _) (.cons (mdd_dp h2) .nil)))
  | .either s t, a, ⟨b, c, h1, h2, h3⟩ => .tup (SqT.of h1) (.cons (.str _) (.cons (mdd_dp h2) (.cons (mdd_dp h3) .nil)))
  | .later s t, a, ⟨b, c, h1, h2, h3⟩ => .tup (SqT.of h1) (.cons (.str _) (.cons (mdd_dp h2) (.cons (mdd_dp h3) .nil)))
  | .earlier s t, a, ⟨b, c, h1, h2, h3⟩ => .tup (SqT.of h1) (.cons (.str _) (.cons (mdd_dp h2) (.cons (mdd_dp h3) .nil)))
theorem mdd_lay : ∀ {t : Tm}, t.NmS → t.mdd.canLay0 = true ∧ (t.mdd.depth : Int) ≤ t.dep + 1
  | .now, _ => by
    have e : PyData.strOk "now" = true := by decide +kernel
    simp [Tm.mdd, PyData.canLay0, PyData.canLayAll0, PyData.depth, PyData.depthAll, e, Tm.dep]
  | .last s t, h => by
    obtain ⟨h1, h2⟩ := mdd_lay h.2
    have e : PyData.strOk "last" = true := by decide +kernel
    simp [Tm.mdd, PyData.canLay0, PyData.canLayAll0, PyData.depth, PyData.depthAll, e, nm_ok h.1, h1, Tm.dep]
    omega
  | .next s t, h => by
    obtain ⟨h1, h2⟩ := mdd_lay h.2
    have e : PyData.strOk "next" = true := by decide +kernel
    simp [Tm.mdd, PyData.canLay0, PyData.canLayAll0, PyData.depth, PyData.depthAll, e, nm_ok h.1, h1, Tm.dep]
    omega
  | .shift s t, h => by
    obtain ⟨h1, h2⟩ := mdd_lay (t := t) h
    have e : PyData.strOk "shift" = true := by decide +kernel
    simp [Tm.mdd, PyData.canLay0, PyData.canLayAll0, PyData.depth, PyData.depthAll, e, h1, Tm.dep]
    omega
  | .either a b, h => by
    obtain ⟨h1, h2⟩ := mdd_lay h.1
    obtain ⟨h3, h4⟩ := mdd_lay h.2
    have e : PyData.strOk "either" = true := by decide +kernel
    have m1 := Tm.mx_l a.dep b.dep
    have m2 := Tm.mx_r a.dep b.dep
    simp [Tm.mdd, PyData.canLay0, PyData.canLayAll0, PyData.depth, PyData.depthAll, e, h1, h3, Tm.dep]
    omega
  | .later a b, h => by
    obtain ⟨h1, h2⟩ := mdd_lay h.1
    obtain ⟨h3, h4⟩ := mdd_lay h.2
    have e : PyData.strOk "later" = true := by decide +kernel
    have m1 := Tm.mx_l a.dep b.dep
    have m2 := Tm.mx_r a.dep b.dep
    simp [Tm.mdd, PyData.canLay0, PyData.canLayAll0, PyData.depth, PyData.depthAll, e, h1, h3, Tm.dep]
    omega
  | .earlier a b, h => by
    obtain ⟨h1, h2⟩ := mdd_lay h.1
    obtain ⟨h3, h4⟩ := mdd_lay h.2
    have e : PyData.strOk "earlier" = true := by decide +kernel
    have m1 := Tm.mx_l a.dep b.dep
    have m2 := Tm.mx_r a.dep b.dep
    simp [Tm.mdd, PyData.canLay0, PyData.canLayAll0, PyData.depth, PyData.depthAll, e, h1, h3, Tm.dep]
    omega
theorem mdd_shaped {t : Tm} (h : t.NmS) (d : t.dep ≤ 20) : SeqAt.shaped t.mdd = true := by
  obtain ⟨h1, h2⟩ := mdd_lay h
  unfold SeqAt.shaped
  simp [h1]
  omega
def MdsAt (H : Hp) (us : List V) (ts : List Tm) : Prop := us.length = ts.length ∧ ∀ (i : Nat) v t, us[i]? = some v → ts[i]? = some t → ∃ a, v = .ref a ∧ MdAt H a t
theorem MdsAt.same {H H' : Hp} {us : List V} {ts : List Tm} (h : MdsAt H us ts) (s : Same H H') : MdsAt H' us ts := ⟨h.1, fun i v t a b => by
  obtain ⟨e, h1, h2⟩ := h.2 i v t a b
  exact ⟨e, h1, h2.same s⟩⟩
theorem MdsAt.nil {H : Hp} : MdsAt H [] [] := ⟨rfl, fun _ _ _ e => nomatch e⟩
theorem MdsAt.one {H : Hp} {a : Addr} {t : Tm} (h : MdAt H a t) : MdsAt H [.ref a] [t] := ⟨rfl, fun i v x h1 h2 => by
  match i, h1, h2 with
  | 0, h1, h2 => cases h1; cases h2; exact ⟨a, rfl, h⟩⟩
theorem MdsAt.two {H : Hp} {a b : Addr} {t u : Tm} (h : MdAt H a t) (g : MdAt H b u) : MdsAt H [.ref a, .ref b] [t, u] := ⟨rfl, fun i v x h1 h2 => by
  match i, h1, h2 with
  | 0, h1, h2 => cases h1; cases h2; exact ⟨a, rfl, h⟩
  | 1, h1, h2 => cases h1; cases h2; exact ⟨b, rfl, g⟩⟩
def spJoined : Sp := fun vs H Q _ => ∃ (e : Addr) (t : Tm) (n : Int), vs = [.ref e, .int n] ∧ MdAt H e t ∧ t.Nf1 ∧ ∀ e' H', MdAt H' e' (t.plus n) → Same H H' → Q (.ref e') H'
def spMKids : Sp := fun vs H Q _ => ∃ (e : Addr) (t : Tm), vs = [.ref e] ∧ MdAt H e t ∧ ∀ l us H', Same H H' → H l = none → H' l = some (.lst us) → MdsAt H' us t.kids → Q (.ref l) H'
def spMSizes (d : Nat) : Sp := fun vs H Q _ => ∃ (e : Addr) (t : Tm), vs = [.ref e] ∧ MdAt H e t ∧ t.dep ≤ (d : Int) ∧ ∀ l H', Same H H' → H l = none → H' l = some (.lst [.int t.dep, .int t.par, .int t.lok, .int t.cho]) → Q (.ref l) H'
def spMStrs (d : Nat) : Sp := fun vs H Q _ => ∃ (e : Addr) (t : Tm), vs = [.ref e] ∧ MdAt H e t ∧ t.dep ≤ (d : Int) ∧ t.lok ≤ 100 ∧ ∀ l H', Same H H' → H l = none → H' l = some (.lst (t.streams.map V.str)) → Q (.ref l) H'
def spTaken (C : TC) (d : Nat) : Sp := fun vs H Q _ => ∃ (a : Addr) (t : Tm), vs = [.ref a] ∧ TmAt C H a t ∧ t.dep ≤ (d : Int) ∧ ∀ e H', MdAt H' e t → Same H H' → Q (.ref e) H'
section
variable {P : Program} {w : World} {K : PySem.W.Frag} {mg : Str → Option Value} {base : Heap} {C : TC} {A0 : AC} {CT : Addr}
abbrev s_l_joined : Stmt := topS 45
theorem sc_l_joined : FnScope ["model", "amount"] ["model", "amount"] (defScope s_l_joined) := ⟨rfl, rfl, rfl, by decide +kernel, rfl, by decide +kernel, by decide +kernel⟩
theorem ok_joined {f : Addr} {fd : FuncData} (F : Fun K "_law_joined" "_law_joined" s_l_joined f fd) (B : Blt mg) : FnOk P w K mg base CX0 1 f fd ["model", "amount"] spJoined := by
  refine F.ok sc_l_joined (fun vs H Q E h => ?_) (fun cdv A outer s H vs Q E hr h => ?_)
  · obtain ⟨e, t, n, rfl, _⟩ := h
    rfl
  · obtain ⟨e, t, n, rfl, hM, hN, q⟩ := h
    refine ⟨_, (pss_cons (ps_if (pt_cmpR op_eq (pe_ix ix_tup (pv 0) pe_int (fun _ _ => rfl)) pe_str (nomark _))
      (pss_cons (ps_set (i := 1) sc_l_joined.nd rfl (Or.inl rfl) (pe_op op_add (pv 1) (pe_ix ix_tup (pv 0) pe_int (fun _ _ => rfl))))
      (pss_one (ps_set (i := 0) sc_l_joined.nd rfl (Or.inl rfl) (pe_ix ix_tup (pv 0) pe_int (fun _ _ => rfl)))))
      pss_nil)
    (pss_cons (ps_if (pt_cmpR op_eq (pv 1) pe_int (nomark _))
      (pss_one (ps_ret (pv 0)))
      pss_nil)
    (pss_one (ps_ret (pe_tup (pa_cons pe_str (pa_cons (pv 1) (pa_cons (pv 0) pa_nil)))))))), ?_⟩
    cases hs : t.isShift with
    | true =>
      cases t with
      | shift m u =>
        obtain ⟨b, he, hu⟩ := hM
        obtain ⟨m0, us⟩ := hN m u rfl
        refine ⟨_, rfl, _, _, _, _, rfl, rfl, SqT.of he, rfl, rfl, _, rfl, iteT ⟨_, rfl, _, rfl, _, _, _, _, rfl, rfl, SqT.of he, rfl, _, _, rfl, rfl, _, rfl, _, _, _, _, rfl, rfl, SqT.of he, rfl, _, rfl, rfl, _, rfl, ?_⟩⟩
        have e : (Tm.shift m u).plus n = if n + m = 0 then u else .shift (n + m) u := by
          by_cases n0 : n = 0
          · subst n0
            rw [if_neg (by omega), Int.zero_add]
            rfl
          · show (if n = 0 then _ else _) = _
            rw [if_neg n0]
            show (if m + n = 0 then u else Tm.shift (m + n) u) = _
            rw [Int.add_comm m n]
        rw [e] at q
        refine ite2 (fun c => ?_) (fun c => ?_)
        · have z : n + m = 0 := V.int.inj (of_decide_eq_true c)
          rw [if_pos z] at q
          exact ⟨_, rfl, q b H hu (Same.refl H)⟩
        · have z : ¬ n + m = 0 := fun z => c (decide_eq_true (by show V.int (n + m) = V.int 0; rw [z]))
          rw [if_neg z] at q
          refine ⟨_, rfl, _, rfl, (by show 3 ≤ sizeLine; decide), fun e' he' => ?_⟩
          have s1 := sameAt (o := .tup [.str "shift", .int (n + m), .ref b]) (Same.refl H) he'
          exact q e' _ ⟨b, upd_same, hu.same s1⟩ s1
      | _ => cases hs
    | false =>
      have hw : ∃ hd us', H e = some (.tup (.str hd :: us')) ∧ hd ≠ "shift" := by
        cases t with
        | now => exact ⟨_, _, hM, by decide⟩
        | last s t => obtain ⟨b, h, _⟩ := hM; exact ⟨_, _, h, by decide⟩
        | next s t => obtain ⟨b, h, _⟩ := hM; exact ⟨_, _, h, by decide⟩
        | shift s t => cases hs
        | either s t => obtain ⟨b, c, h, _⟩ := hM; exact ⟨_, _, h, by decide⟩
        | later s t => obtain ⟨b, c, h, _⟩ := hM; exact ⟨_, _, h, by decide⟩
        | earlier s t => obtain ⟨b, c, h, _⟩ := hM; exact ⟨_, _, h, by decide⟩
      obtain ⟨hd, us', he, hne⟩ := hw
      refine ⟨_, rfl, _, _, _, _, rfl, rfl, SqT.of he, atI_natC (xs := V.str hd :: us') (j := 0) (Nat.succ_pos _), rfl, _, rfl, ?_⟩
      rw [show decide ((V.str hd :: us')[0] = V.str "shift") = false from decide_eq_false fun z => hne (V.str.inj z)]
      refine iteF ⟨_, rfl, rfl, _, rfl, ?_⟩
      refine ite2 (fun c => ?_) (fun c => ?_)
      · have z : n = 0 := V.int.inj (of_decide_eq_true c)
        subst z
        exact ⟨_, rfl, q e H hM (Same.refl H)⟩
      · have z : ¬ n = 0 := fun z => c (decide_eq_true (by show V.int n = V.int 0; rw [z]))
        rw [plus_no hs z] at q
        refine ⟨_, rfl, _, rfl, (by show 3 ≤ sizeLine; decide), fun e' he' => ?_⟩
        have s1 := sameAt (o := .tup [.str "shift", .int n, .ref e]) (Same.refl H) he'
        exact q e' _ ⟨e, upd_same, hM.same s1⟩ s1
abbrev s_l_children : Stmt := topS 46
theorem sc_l_children : FnScope ["model"] ["model"] (defScope s_l_children) := ⟨rfl, rfl, rfl, by decide +kernel, rfl, by decide +kernel, by decide +kernel⟩
theorem ok_mkids {f : Addr} {fd : FuncData} (F : Fun K "_law_children" "_law_children" s_l_children f fd) (B : Blt mg) : FnOk P w K mg base CX0 1 f fd ["model"] spMKids := by
  refine F.ok sc_l_children (fun vs H Q E h => ?_) (fun cdv A outer s H vs Q E hr h => ?_)
  · obtain ⟨e, t, rfl, _⟩ := h
    rfl
  · obtain ⟨e, t, rfl, hM, q⟩ := h
    refine ⟨_, (pss_cons (ps_if (pt_cmpR op_eq (pe_ix ix_tup (pv 0) pe_int (fun _ _ => rfl)) pe_str (nomark _))
      (pss_one (ps_ret (pe_lst pa_nil)))
      pss_nil)
    (pss_cons (ps_if (pt_cmpR op_in_seq (pe_ix ix_tup (pv 0) pe_int (fun _ _ => rfl)) (pe_lst (pa_cons pe_str (pa_cons pe_str (pa_cons pe_str pa_nil)))) rfl)
      (pss_one (ps_ret (pe_lst (pa_cons (pe_ix ix_tup (pv 0) pe_int (fun _ _ => rfl)) pa_nil))))
      pss_nil)
    (pss_one (ps_ret (pe_lst (pa_cons (pe_ix ix_tup (pv 0) pe_int (fun _ _ => rfl)) (pa_cons (pe_ix ix_tup (pv 0) pe_int (fun _ _ => rfl)) pa_nil))))))), ?_⟩
    cases t with
    | now => exact ⟨_, rfl, _, _, _, _, rfl, rfl, SqT.of hM, rfl, rfl, _, rfl, iteT ⟨(by show 0 ≤ sizeLine; decide), fun l hl => q l [] _ (sameAt (Same.refl H) hl) hl upd_same .nil⟩⟩
    | last s t =>
      obtain ⟨b, he, hu⟩ := hM
      refine ⟨_, rfl, _, _, _, _, rfl, rfl, SqT.of he, rfl, rfl, _, rfl, iteF ⟨_, rfl, _, _, _, _, rfl, rfl, SqT.of he, rfl, (by show 3 ≤ sizeLine; decide), fun p hp => ?_⟩⟩
      have sp : Same H _ := sameAt (o := .lst [.str "shift", .str "last", .str "next"]) (Same.refl H) hp
      have he1 := sp _ _ he
      refine ⟨p, _, rfl, .inl (SqL.of upd_same), rfl, (by decide), _, rfl, ?_⟩
      rw [if_neg Bool.false_ne_true, show inV (.str "last") [.str "shift", .str "last", .str "next"] = true from by decide]
      refine iteT ⟨_, rfl, _, _, _, _, rfl, rfl, SqT.of he1, rfl, (by show 1 ≤ sizeLine; decide), fun l hl => ?_⟩
      have sl : Same _ _ := sameAt (o := .lst [.ref b]) (Same.refl _) hl
      exact q l _ _ (sp.trans sl) (none_of sp hl) upd_same (.one (hu.same (sp.trans sl)))
    | next s t =>
      obtain ⟨b, he, hu⟩ := hM
      refine ⟨_, rfl, _, _, _, _, rfl, rfl, SqT.of he, rfl, rfl, _, rfl, iteF ⟨_, rfl, _, _, _, _, rfl, rfl, SqT.of he, rfl, (by show 3 ≤ sizeLine; decide), fun p hp => ?_⟩⟩
      have sp : Same H _ := sameAt (o := .lst [.str "shift", .str "last", .str "next"]) (Same.refl H) hp
      have he1 := sp _ _ he
      refine ⟨p, _, rfl, .inl (SqL.of upd_same), rfl, (by decide), _, rfl, ?_⟩
      rw [if_neg Bool.false_ne_true, show inV (.str "next") [.str "shift", .str "last", .str "next"] = true from by decide]
      refine iteT ⟨_, rfl, _, _, _, _, rfl, rfl, SqT.of he1, rfl, (by show 1 ≤ sizeLine; decide), fun l hl => ?_⟩
      have sl : Same _ _ := sameAt (o := .lst [.ref b]) (Same.refl _) hl
      exact q l _ _ (sp.trans sl) (none_of sp hl) upd_same (.one (hu.same (sp.trans sl)))
    | shift s t =>
      obtain ⟨b, he, hu⟩ := hM
      refine ⟨_, rfl, _, _, _, _, rfl, rfl, SqT.of he, rfl, rfl, _, rfl, iteF ⟨_, rfl, _, _, _, _, rfl, rfl, SqT.of he, rfl, (by show 3 ≤ sizeLine; decide), fun p hp => ?_⟩⟩
      have sp : Same H _ := sameAt (o := .lst [.str "shift", .str "last", .str "next"]) (Same.refl H) hp
      have he1 := sp _ _ he
      refine ⟨p, _, rfl, .inl (SqL.of upd_same), rfl, (by decide), _, rfl, ?_⟩
      rw [if_neg Bool.false_ne_true, show inV (.str "shift") [.str "shift", .str "last", .str "next"] = true from by decide]
      refine iteT ⟨_, rfl, _, _, _, _, rfl, rfl, SqT.of he1, rfl, (by show 1 ≤ sizeLine; decide), fun l hl => ?_⟩
      have sl : Same _ _ := sameAt (o := .lst [.ref b]) (Same.refl _) hl
      exact q l _ _ (sp.trans sl) (none_of sp hl) upd_same (.one (hu.same (sp.trans sl)))
    | either s t =>
      obtain ⟨b, c, he, hu, hv⟩ := hM
      refine ⟨_, rfl, _, _, _, _, rfl, rfl, SqT.of he, rfl, rfl, _, rfl, iteF ⟨_, rfl, _, _, _, _, rfl, rfl, SqT.of he, rfl, (by show 3 ≤ sizeLine; decide), fun p hp => ?_⟩⟩
      have sp : Same H _ := sameAt (o := .lst [.str "shift", .str "last", .str "next"]) (Same.refl H) hp
      have he1 := sp _ _ he
      refine ⟨p, _, rfl, .inl (SqL.of upd_same), rfl, (by decide), _, rfl, ?_⟩
      rw [if_neg Bool.false_ne_true, show inV (.str "either") [.str "shift", .str "last", .str "next"] = false from by decide]
      refine iteF ⟨_, rfl, _, _, _, _, rfl, rfl, SqT.of he1, rfl, _, rfl, _, _, _, _, rfl, rfl, SqT.of he1, rfl, (by show 2 ≤ sizeLine; decide), fun l hl => ?_⟩
      have sl : Same _ _ := sameAt (o := .lst [.ref b, .ref c]) (Same.refl _) hl
      exact q l _ _ (sp.trans sl) (none_of sp hl) upd_same (.two (hu.same (sp.trans sl)) (hv.same (sp.trans sl)))
    | later s t =>
      obtain ⟨b, c, he, hu, hv⟩ := hM
      refine ⟨_, rfl, _, _, _, _, rfl, rfl, SqT.of he, rfl, rfl, _, rfl, iteF ⟨_, rfl, _, _, _, _, rfl, rfl, SqT.of he, rfl, (by show 3 ≤ sizeLine; decide), fun p hp => ?_⟩⟩
      have sp : Same H _ := sameAt (o := .lst [.str "shift", .str "last", .str "next"]) (Same.refl H) hp
      have he1 := sp _ _ he
      refine ⟨p, _, rfl, .inl (SqL.of upd_same), rfl, (by decide), _, rfl, ?_⟩
      rw [if_neg Bool.false_ne_true, show inV (.str "later") [.str "shift", .str "last", .str "next"] = false from by decide]
      refine iteF ⟨_, rfl, _, _, _, _, rfl, rfl, SqT.of he1, rfl, _, rfl, _, _, _, _, rfl, rfl, SqT.of he1, rfl, (by show 2 ≤ sizeLine; decide), fun l hl => ?_⟩
      have sl : Same _ _ := sameAt (o := .lst [.ref b, .ref c]) (Same.refl _) hl
      exact q l _ _ (sp.trans sl) (none_of sp hl) upd_same (.two (hu.same (sp.trans sl)) (hv.same (sp.trans sl)))
    | earlier s t =>
      obtain ⟨b, c, he, hu, hv⟩ := hM
      refine ⟨_, rfl, _, _, _, _, rfl, rfl, SqT.of he, rfl, rfl, _, rfl, iteF ⟨_, rfl, _, _, _, _, rfl, rfl, SqT.of he, rfl, (by show 3 ≤ sizeLine; decide), fun p hp => ?_⟩⟩
      have sp : Same H _ := sameAt (o := .lst [.str "shift", .str "last", .str "next"]) (Same.refl H) hp
      have he1 := sp _ _ he
      refine ⟨p, _, rfl, .inl (SqL.of upd_same), rfl, (by decide), _, rfl, ?_⟩
      rw [if_neg Bool.false_ne_true, show inV (.str "earlier") [.str "shift", .str "last", .str "next"] = false from by decide]
      refine iteF ⟨_, rfl, _, _, _, _, rfl, rfl, SqT.of he1, rfl, _, rfl, _, _, _, _, rfl, rfl, SqT.of he1, rfl, (by show 2 ≤ sizeLine; decide), fun l hl => ?_⟩
      have sl : Same _ _ := sameAt (o := .lst [.ref b, .ref c]) (Same.refl _) hl
      exact q l _ _ (sp.trans sl) (none_of sp hl) upd_same (.two (hu.same (sp.trans sl)) (hv.same (sp.trans sl)))
end
end Ash

set_option Elab.async false
set_option linter.all false
set_option maxRecDepth 100000
set_option maxHeartbeats 4000000
namespace Ash
open PySem PySem.Spec PyProof.Rows L2
/-! ### texts in order; models as data -/
theorem ty_tup {K : PySem.W.Frag} {H : Hp} {a : Addr} {xs : List V} (h : SqT K H a xs) : TyX K H (.ref a) (.type "tuple") := by
  rcases h with (h | ⟨o, h⟩) | ⟨o, its, n, h1, h2, h3⟩
  · exact .base (.tup h)
  · exact .fTuple h
  · exact .kTuple h1 h2
theorem str_ext {a b : Str} (h : a.cps.toList = b.cps.toList) : a = b := by
  obtain ⟨x⟩ := a
  obtain ⟨y⟩ := b
  have h : x.toList = y.toList := h
  rw [Array.toList_inj.mp h]
/-- texts in order -/
def LeS (a b : Str) : Prop := decide (b.cps.toList < a.cps.toList) = false
theorem leS_anti {a b : Str} (h : LeS a b) (g : LeS b a) : a = b := str_ext (PyProof.Rows.strKind.total _ _ g h)
theorem leS_trans {a b c : Str} (h : LeS a b) (g : LeS b c) : LeS a c := by
  unfold LeS at *
  cases e : decide (c.cps.toList < a.cps.toList) with
  | false => rfl
  | true =>
    rcases PyProof.Rows.strKind.negTrans _ b.cps.toList _ e with q | q
    · exact absurd (show decide (c.cps.toList < b.cps.toList) = true from q) (by rw [g]; exact Bool.false_ne_true)
    · exact absurd (show decide (b.cps.toList < a.cps.toList) = true from q) (by rw [h]; exact Bool.false_ne_true)
theorem ris_pw : ∀ (l : List Str) (p : Str), risingS p l = true → (p :: l).Pairwise LeS
  | [], p, _ => List.pairwise_singleton _ _
  | x :: r, p, h => by
    have h : (!ltCps x.cps.toList p.cps.toList && risingS x r) = true := h
    rw [Bool.and_eq_true] at h
    have e1 : LeS p x := by
      unfold LeS
      rw [← ltCps_eq]
      simpa using h.1
    have ih := ris_pw r x h.2
    refine List.pairwise_cons.mpr ⟨fun y hy => ?_, ih⟩
    rcases List.mem_cons.mp hy with rfl | hy
    · exact e1
    · exact leS_trans e1 (List.rel_of_pairwise_cons ih hy)
theorem srtS_pw : ∀ {l : List Str}, sortedS l = true → l.Pairwise LeS
  | [], _ => .nil
  | p :: r, h => ris_pw r p h
theorem srt_uniq {α : Type} {le : α → α → Prop} (anti : ∀ a b, le a b → le b a → a = b) : ∀ {l m : List α}, l.Pairwise le → m.Pairwise le → l.Perm m → l = m
  | [], m, _, _, p => (List.nil_perm.mp p).symm
  | a :: l, [], _, _, p => absurd p.symm (by simp)
  | a :: l, b :: m, hl, hm, p => by
    have e : a = b := by
      rcases List.mem_cons.mp (p.mem_iff.mp (List.mem_cons_self (a := a) (l := l))) with h | h
      · exact h
      · rcases List.mem_cons.mp (p.mem_iff.mpr (List.mem_cons_self (a := b) (l := m))) with g | g
        · exact g.symm
        · exact anti _ _ (List.rel_of_pairwise_cons hl g) (List.rel_of_pairwise_cons hm h)
    subst e
    rw [srt_uniq anti (List.pairwise_cons.mp hl).2 (List.pairwise_cons.mp hm).2 ((List.perm_cons a).mp p)]
theorem strs_same {l m : List Str} (hl : sortedS l = true) (hm : sortedS m = true) (nl : l.Nodup) (nm : m.Nodup) (h : ∀ z, z ∈ l ↔ z ∈ m) : l = m :=
  srt_uniq (fun _ _ => leS_anti) (srtS_pw hl) (srtS_pw hm) ((List.perm_ext_iff_of_nodup nl nm).mpr h)
theorem dp_strs {K : PySem.W.Frag} {H : Hp} : ∀ is : List Str, DpAll K H (is.map V.str) (is.map PyData.str)
  | [] => .nil
  | i :: r => .cons (.str i) (dp_strs r)
theorem strs_shaped {is : List Str} (h : ∀ z ∈ is, PyData.strOk z = true) : SeqAt.shaped (.list (is.map PyData.str)) = true := by
  have q : (is.map PyData.str).all flatD = true := by
    rw [List.all_eq_true]
    intro d hd
    obtain ⟨z, hz, rfl⟩ := List.mem_map.mp hd
    exact h z hz
  obtain ⟨h1, h2⟩ := flat_lay q
  unfold SeqAt.shaped
  simp [PyData.canLay0, PyData.depth, h1]
  omega
theorem eqv_mdd : ∀ {t u : Tm}, PyData.eqv t.mdd u.mdd = true → t = u
  | .now, u, h => by
    cases u <;> simp only [Tm.mdd, PyData.eqv, PyData.eqvAll, Bool.and_eq_true, beq_iff_eq] at h <;> first | rfl | exact absurd h.1 (by decide) | exact absurd h.2 (by decide)
  | .last a b, u, h => by
    cases u <;> simp only [Tm.mdd, PyData.eqv, PyData.eqvAll, Bool.and_eq_true, beq_iff_eq] at h <;> first | exact absurd h.1 (by decide) | exact absurd h.2 (by decide) | (obtain ⟨_, h1, h2, _⟩ := h; rw [h1, eqv_mdd h2])
  | .next a b, u, h => by
    cases u <;> simp only [Tm.mdd, PyData.eqv, PyData.eqvAll, Bool.and_eq_true, beq_iff_eq] at h <;> first | exact absurd h.1 (by decide) | exact absurd h.2 (by decide) | (obtain ⟨_, h1, h2, _⟩ := h; rw [h1, eqv_mdd h2])
  | .shift a b, u, h => by
    cases u <;> simp only [Tm.mdd, PyData.eqv, PyData.eqvAll, Bool.and_eq_true, beq_iff_eq] at h <;> first | exact absurd h.1 (by decide) | exact absurd h.2 (by decide) | (obtain ⟨_, h1, h2, _⟩ := h; rw [h1, eqv_mdd h2])
  | .either a b, u, h => by
    cases u <;> simp only [Tm.mdd, PyData.eqv, PyData.eqvAll, Bool.and_eq_true, beq_iff_eq] at h <;> first | exact absurd h.1 (by decide) | exact absurd h.2 (by decide) | (obtain ⟨_, h1, h2, _⟩ := h; rw [eqv_mdd h1, eqv_mdd h2])
  | .later a b, u, h => by
    cases u <;> simp only [Tm.mdd, PyData.eqv, PyData.eqvAll, Bool.and_eq_true, beq_iff_eq] at h <;> first | exact absurd h.1 (by decide) | exact absurd h.2 (by decide) | (obtain ⟨_, h1, h2, _⟩ := h; rw [eqv_mdd h1, eqv_mdd h2])
  | .earlier a b, u, h => by
    cases u <;> simp only [Tm.mdd, PyData.eqv, PyData.eqvAll, Bool.and_eq_true, beq_iff_eq] at h <;> first | exact absurd h.1 (by decide) | exact absurd h.2 (by decide) | (obtain ⟨_, h1, h2, _⟩ := h; rw [eqv_mdd h1, eqv_mdd h2])
theorem mdd_eqv {t u : Tm} (h : t.NmS) (d : t.dep ≤ 20) : PyData.eqv t.mdd u.mdd = decide (t = u) := by
  by_cases c : t = u
  · subst c
    rw [decide_eq_true rfl, eqv_self (mdd_shaped h d)]
  · rw [decide_eq_false c]
    cases e : PyData.eqv t.mdd u.mdd with
    | false => rfl
    | true => exact absurd (eqv_mdd e) c
theorem nms_str {t : Tm} (h : t.NmS) : ∀ z ∈ t.streams, IsNm z := by
  induction t with
  | now => intro z hz; cases hz
  | last s t ih =>
    intro z hz
    rcases List.mem_cons.mp hz with rfl | hz
    · exact h.1
    · exact ih h.2 z hz
  | next s t ih =>
    intro z hz
    rcases List.mem_cons.mp hz with rfl | hz
    · exact h.1
    · exact ih h.2 z hz
  | shift s t ih => exact ih h
  | either a b iha ihb =>
    intro z hz
    rcases List.mem_append.mp hz with hz | hz
    · exact iha h.1 z hz
    · exact ihb h.2 z hz
  | later a b iha ihb =>
    intro z hz
    rcases List.mem_append.mp hz with hz | hz
    · exact iha h.1 z hz
    · exact ihb h.2 z hz
  | earlier a b iha ihb =>
    intro z hz
    rcases List.mem_append.mp hz with hz | hz
    · exact iha h.1 z hz
    · exact ihb h.2 z hz
end Ash

set_option Elab.async false
set_option linter.all false
set_option maxRecDepth 100000
set_option maxHeartbeats 4000000
set_option pp.maxSteps 1500
namespace Ash
open PySem PySem.Spec PyProof.Rows L2
open C8 (pss_cut)
/-! ### how large a model is -/
theorem atI_hd {v : V} {ws : List V} : atI (v :: ws) 0 = some v := atI_natC (xs := v :: ws) (j := 0) (Nat.succ_pos _)
/-- its first word -/
def Tm.hd : Tm → Str
  | .now => "now"
  | .last _ _ => "last"
  | .next _ _ => "next"
  | .shift _ _ => "shift"
  | .either _ _ => "either"
  | .later _ _ => "later"
  | .earlier _ _ => "earlier"
theorem MdAt.head {H : Hp} {t : Tm} {a : Addr} (h : MdAt H a t) : ∃ us, H a = some (.tup (.str t.hd :: us)) := by
  cases t with
  | now => exact ⟨_, h⟩
  | last s t => obtain ⟨b, h, _⟩ := h; exact ⟨_, h⟩
  | next s t => obtain ⟨b, h, _⟩ := h; exact ⟨_, h⟩
  | shift s t => obtain ⟨b, h, _⟩ := h; exact ⟨_, h⟩
  | either s t => obtain ⟨b, c, h, _⟩ := h; exact ⟨_, h⟩
  | later s t => obtain ⟨b, c, h, _⟩ := h; exact ⟨_, h⟩
  | earlier s t => obtain ⟨b, c, h, _⟩ := h; exact ⟨_, h⟩
def Tm.ol : Tm → Bool
  | .last _ _ => true
  | .next _ _ => true
  | _ => false
def Tm.oc : Tm → Bool
  | .now => false
  | .shift _ _ => false
  | .either _ _ => false
  | _ => true
theorem ol_in (t : Tm) : inV (.str t.hd) [.str "last", .str "next"] = t.ol := by cases t <;> (simp only [Tm.hd, Tm.ol]; decide)
theorem oc_in (t : Tm) : inV (.str t.hd) [.str "last", .str "next", .str "later", .str "earlier"] = t.oc := by cases t <;> (simp only [Tm.hd, Tm.oc]; decide)
def bI (b : Bool) : Int := if b then 1 else 0
def Tm.sz (t : Tm) : List Int := [t.dep, t.par, t.lok, t.cho]
def Tm.own (t : Tm) : List Int := [1, bI t.ol, bI t.oc]
def cI (k : Nat) (t : Tm) : Int := t.sz.getD k 0
theorem sz_sum (t : Tm) {k : Nat} (h : k < 3) : t.own.getD k 0 + (t.kids.map (cI (k + 1))).sum = cI (k + 1) t := by
  match k, h with
  | 0, _ => cases t <;> simp [Tm.own, Tm.kids, cI, Tm.sz, Tm.par]
  | 1, _ => cases t <;> simp [Tm.own, Tm.kids, cI, Tm.sz, Tm.lok, Tm.ol, bI]
  | 2, _ => cases t <;> simp [Tm.own, Tm.kids, cI, Tm.sz, Tm.cho, Tm.oc, bI]
theorem sz_dep (t : Tm) {m : Int} (h : m ∈ 0 :: t.kids.map (cI 0)) (g : ∀ y, y ∈ 0 :: t.kids.map (cI 0) → y ≤ m) : t.dep = 1 + m := by
  cases t with
  | now =>
    have : m = 0 := by simpa [Tm.kids] using h
    rw [this]
    rfl
  | last s t =>
    have h1 := g t.dep (by simp [Tm.kids, cI, Tm.sz])
    have h2 := t.dep_pos
    have h3 : m = 0 ∨ m = t.dep := by simpa [Tm.kids, cI, Tm.sz] using h
    show 1 + t.dep = _
    omega
  | next s t =>
    have h1 := g t.dep (by simp [Tm.kids, cI, Tm.sz])
    have h2 := t.dep_pos
    have h3 : m = 0 ∨ m = t.dep := by simpa [Tm.kids, cI, Tm.sz] using h
    show 1 + t.dep = _
    omega
  | shift s t =>
    have h1 := g t.dep (by simp [Tm.kids, cI, Tm.sz])
    have h2 := t.dep_pos
    have h3 : m = 0 ∨ m = t.dep := by simpa [Tm.kids, cI, Tm.sz] using h
    show 1 + t.dep = _
    omega
  | either t u =>
    have h1 := g t.dep (by simp [Tm.kids, cI, Tm.sz])
    have h4 := g u.dep (by simp [Tm.kids, cI, Tm.sz])
    have h2 := t.dep_pos
    have h3 : m = 0 ∨ m = t.dep ∨ m = u.dep := by simpa [Tm.kids, cI, Tm.sz] using h
    show 1 + Tm.mx t.dep u.dep = _
    unfold Tm.mx
    split <;> omega
  | later t u =>
    have h1 := g t.dep (by simp [Tm.kids, cI, Tm.sz])
    have h4 := g u.dep (by simp [Tm.kids, cI, Tm.sz])
    have h2 := t.dep_pos
    have h3 : m = 0 ∨ m = t.dep ∨ m = u.dep := by simpa [Tm.kids, cI, Tm.sz] using h
    show 1 + Tm.mx t.dep u.dep = _
    unfold Tm.mx
    split <;> omega
  | earlier t u =>
    have h1 := g t.dep (by simp [Tm.kids, cI, Tm.sz])
    have h4 := g u.dep (by simp [Tm.kids, cI, Tm.sz])
    have h2 := t.dep_pos
    have h3 : m = 0 ∨ m = t.dep ∨ m = u.dep := by simpa [Tm.kids, cI, Tm.sz] using h
    show 1 + Tm.mx t.dep u.dep = _
    unfold Tm.mx
    split <;> omega
/-- lists of sizes in a row, none of them at X -/
def SzsAt (X : Addr) (H : Hp) (us : List V) (ts : List Tm) : Prop := us.length = ts.length ∧ ∀ (i : Nat) v t, us[i]? = some v → ts[i]? = some t → ∃ p, v = .ref p ∧ p ≠ X ∧ H p = some (.lst (t.sz.map V.int))
theorem SzsAt.nil {X : Addr} {H : Hp} : SzsAt X H [] [] := ⟨rfl, fun _ _ _ e => nomatch e⟩
theorem SzsAt.same {X : Addr} {H H' : Hp} {us : List V} {ts : List Tm} (h : SzsAt X H us ts) (s : Same H H') : SzsAt X H' us ts := ⟨h.1, fun i v t a b => by
  obtain ⟨p, h1, h2, h3⟩ := h.2 i v t a b
  exact ⟨p, h1, h2, s _ _ h3⟩⟩
theorem SzsAt.upd {X : Addr} {H : Hp} {o : HO} {us : List V} {ts : List Tm} (h : SzsAt X H us ts) : SzsAt X (upd H X o) us ts := ⟨h.1, fun i v t a b => by
  obtain ⟨p, h1, h2, h3⟩ := h.2 i v t a b
  exact ⟨p, h1, h2, by rw [upd_ne h2]; exact h3⟩⟩
theorem SzsAt.add {X : Addr} {H : Hp} {us : List V} {ts : List Tm} {p : Addr} {t : Tm} (h : SzsAt X H us ts) (hp : p ≠ X) (hs : H p = some (.lst (t.sz.map V.int))) : SzsAt X H (us ++ [.ref p]) (ts ++ [t]) := by
  obtain ⟨al, a⟩ := h
  refine ⟨by rw [List.length_append, List.length_append, al]; rfl, fun i v x h1 h2 => ?_⟩
  by_cases c : i < us.length
  · rw [List.getElem?_append_left c] at h1
    rw [List.getElem?_append_left (by omega)] at h2
    exact a i v x h1 h2
  · rw [List.getElem?_append_right (by omega)] at h1
    rw [List.getElem?_append_right (by omega), ← al] at h2
    match i - us.length, h1, h2 with
    | 0, h1, h2 => cases h1; cases h2; exact ⟨p, rfl, hp, hs⟩
section
variable {P : Program} {w : World} {K : PySem.W.Frag} {mg : Str → Option Value} {base : Heap} {C : TC} {A0 : AC} {CT : Addr}
structure G1m (P : Program) (w : World) (K : PySem.W.Frag) (mg : Str → Option Value) (base : Heap) (d : Nat) : Prop where
  kids : Cal P w K mg base CX0 "_law_children" 1 ["model"] spMKids
  sizes : Cal P w K mg base CX0 "_law_sizes" (d + 2) ["model"] (spMSizes d)
abbrev s_l_sizes : Stmt := topS 47
theorem sc_l_sizes : FnScope ["model", "inner", "own", "sizes_v", "k", "child", "size"] ["model"] (defScope s_l_sizes) := ⟨rfl, rfl, rfl, by decide +kernel, rfl, by decide +kernel, by decide +kernel⟩
theorem ok_msizes0 {f : Addr} {fd : FuncData} (F : Fun K "_law_sizes" "_law_sizes" s_l_sizes f fd) : FnOk P w K mg base CX0 (0 + 2) f fd ["model"] (spMSizes 0) := by
  refine F.ok sc_l_sizes (fun vs H Q E h => ?_) (fun cdv A outer s H vs Q E hr h => ?_)
  · obtain ⟨e, t, rfl, _⟩ := h
    rfl
  · obtain ⟨e, t, rfl, _, hd, _⟩ := h
    have := t.dep_pos
    have hd : t.dep ≤ 0 := hd
    omega
theorem ok_msizes {f : Addr} {fd : FuncData} {d : Nat} (F : Fun K "_law_sizes" "_law_sizes" s_l_sizes f fd) (B : Blt mg) (G : G1m P w K mg base d) : FnOk P w K mg base CX0 (d + 1 + 2) f fd ["model"] (spMSizes (d + 1)) := by
  refine F.ok sc_l_sizes (fun vs H Q E h => ?_) (fun cdv A outer s H vs Q E hr h => ?_)
  · obtain ⟨e, t, rfl, _⟩ := h
    rfl
  · obtain ⟨e, t, rfl, hT, hd, q⟩ := h
    refine ⟨_, (pss_cons (ps_setLc (i := 1) (own := [("child", 5)]) (g := gName 5) (tt := tYes) (by rfl) sc_l_sizes.nd rfl rfl (sw_true rfl rfl rfl (by decide +kernel)) (pi_list (pe_cal G.kids (hr.mono (by omega)) pass0 (pa_cons (pv 0) pa_nil))) (blkOk_by (own := [("child", 5)]) (N := ["model", "inner", "own", "sizes_v", "k", "child", "size"]) (sc := defScope s_l_sizes) (by decide +kernel)) (fun _ _ _ _ _ => (pg_name (i := 5) sc_l_sizes.nd rfl (Or.inl rfl))) (fun _ _ _ _ _ => pts_nil) (fun _ _ _ _ _ => (pe_cal G.sizes (hr.mono (by omega)) pass0 (pa_cons (pv 5) pa_nil))))
    (pss_cons (ps_set (i := 2) sc_l_sizes.nd rfl (Or.inl rfl) (pe_lst (pa_cons pe_int (pa_cons (pe_callTy call_int1 (by rfl) B.int (by decide +kernel) (pa_cons (pe_cmpR op_in_seq (pe_ix ix_tup (pv 0) pe_int (fun _ _ => rfl)) (pe_lst (pa_cons pe_str (pa_cons pe_str pa_nil))) rfl) pa_nil)) (pa_cons (pe_callTy call_int1 (by rfl) B.int (by decide +kernel) (pa_cons (pe_cmpR op_in_seq (pe_ix ix_tup (pv 0) pe_int (fun _ _ => rfl)) (pe_lst (pa_cons pe_str (pa_cons pe_str (pa_cons pe_str (pa_cons pe_str pa_nil))))) rfl) pa_nil)) pa_nil)))))
    (pss_cons (ps_set (i := 3) sc_l_sizes.nd rfl (Or.inl rfl) (pe_lst (pa_cons (pe_op op_add pe_int (pe_callB (cr_max rfl) (by rfl) B.max (by decide +kernel) (pa_cons (pe_op op_cat (pe_lst (pa_cons pe_int pa_nil)) (pe_lc (own := [("size", 6)]) (g := gName 6) (tt := tYes) (by rfl) sc_l_sizes.nd (pi_list (pv 1)) (blkOk_by (own := [("size", 6)]) (N := ["model", "inner", "own", "sizes_v", "k", "child", "size"]) (sc := defScope s_l_sizes) (by decide +kernel)) (fun _ _ _ _ _ => (pg_name (i := 6) sc_l_sizes.nd rfl (Or.inl rfl))) (fun _ _ _ _ _ => pts_nil) (fun _ _ _ _ _ => (pe_ix (show IxR _ (rIxL K) from ix_list) (pv 6) pe_int (fun _ _ => rfl))))) pa_nil))) pa_nil)))
    (pss_cons (ps_for PassesOwn.never rfl (pi_range1 (by rfl) B.range (pa_cons pe_int pa_nil)) (pg_name (i := 4) sc_l_sizes.nd rfl (Or.inr rfl))
      (pss_one (ps_expr (pe_bm PySem.F.plainAttrs_list PySem.F.slot_list_append PySem.F.type_list_append mt_append (pv 3) (pa_cons (pe_op op_add (pe_ix ix_list (pv 2) (pv 4) (fun _ _ => rfl)) (pe_callB (cr_sum rfl) (by rfl) B.sum (by decide +kernel) (pa_cons (pe_lc (own := [("size", 6)]) (g := gName 6) (tt := tYes) (by rfl) sc_l_sizes.nd (pi_list (pv 1)) (blkOk_by (own := [("size", 6)]) (N := ["model", "inner", "own", "sizes_v", "k", "child", "size"]) (sc := defScope s_l_sizes) (by decide +kernel)) (fun _ _ _ _ _ => (pg_name (i := 6) sc_l_sizes.nd rfl (Or.inl rfl))) (fun _ _ _ _ _ => pts_nil) (fun _ _ _ _ _ => (pe_ix (show IxR _ (rIxL K) from ix_list) (pv 6) (pe_op op_add (pv 4) pe_int) (fun _ _ => rfl)))) pa_nil))) pa_nil)))))
    (pss_one (ps_ret (pv 3))))))), ?_⟩
    refine ⟨_, rfl, e, t, rfl, hT, fun l us H1 s1 hn1 hl hk => ⟨l, rfl, ⟨_, SqL.of hl⟩, fun D hD => ?_⟩⟩
    have kl := hk.1
    have k2 : t.kids.length ≤ 2 := by cases t <;> simp [Tm.kids]
    refine lc_list (a := l) (xs := us) (fun i H5 => ∃ vs, H5 D = some (.lst vs) ∧ SzsAt D H5 vs (t.kids.take i) ∧ Same H1 H5) ⟨[], upd_same, .nil, sameAt (Same.refl _) hD⟩ (fun i H5 _ hv => SqL.of (by obtain ⟨_, _, _, s⟩ := hv; exact s _ _ hl)) ?_ ?_
    · rintro i v H5 hvi ⟨vs, hD5, hS, s5⟩
      have hil : i < t.kids.length := by rw [← kl]; exact (List.getElem?_eq_some_iff.mp hvi).1
      obtain ⟨u, hu⟩ : ∃ u, t.kids[i]? = some u := ⟨_, List.getElem?_eq_getElem hil⟩
      obtain ⟨b, rfl, hb⟩ := hk.2 i v u hvi hu
      obtain ⟨z1, _⟩ := kid_sz (List.mem_of_getElem? hu)
      refine ⟨rfl, _, rfl, b, u, rfl, hb.same s5, by omega, fun p H6 s6 hp6 hp => ?_⟩
      have sl := hS.1
      rw [List.length_take] at sl
      have pD : p ≠ D := fun z => by rw [z] at hp6; rw [hp6] at hD5; cases hD5
      refine ⟨vs, s6 _ _ hD5, small1000 (by omega), vs ++ [.ref p], upd_same, ?_, sameAt (s5.trans s6) hD⟩
      rw [list_take hu]
      exact ((hS.same s6).add pD hp).upd
    · rintro H5 ⟨vs, hD5, hS, s5⟩
      rw [kl, List.take_length] at hS
      have hT5 := (hT.same s1).same s5
      obtain ⟨ws, he5⟩ := hT5.head
      refine ⟨_, rfl, _, _, _, _, rfl, rfl, SqT.of he5, atI_hd, (by show 2 ≤ sizeLine; decide), fun p1 hp1 => ?_⟩
      have t1 : Same H5 _ := sameAt (o := .lst [.str "last", .str "next"]) (Same.refl _) hp1
      refine ⟨p1, _, rfl, .inl (SqL.of upd_same), rfl, (by decide), .inr ⟨_, rfl, ?_⟩⟩
      have he6 := t1 _ _ he5
      refine ⟨_, rfl, _, _, _, _, rfl, rfl, SqT.of he6, atI_hd, (by show 4 ≤ sizeLine; decide), fun p2 hp2 => ?_⟩
      have t2 : Same _ _ := t1.trans (sameAt (o := .lst [.str "last", .str "next", .str "later", .str "earlier"]) (Same.refl _) hp2)
      refine ⟨p2, _, rfl, .inl (SqL.of upd_same), rfl, (by decide), .inr ⟨_, rfl, ?_⟩⟩
      rw [if_neg Bool.false_ne_true, if_neg Bool.false_ne_true, ol_in, oc_in]
      refine ⟨(by show 3 ≤ sizeLine; decide), fun O hO => ?_⟩
      have t3 : Same H5 _ := t2.trans (sameAt (o := .lst (t.own.map V.int)) (Same.refl _) hO)
      refine ⟨(by show 1 ≤ sizeLine; decide), fun z hz => ?_⟩
      have t4 : Same H5 _ := t3.trans (sameAt (o := .lst [.int 0]) (Same.refl _) hz)
      have hS4 := hS.same t4
      refine ⟨_, rfl, D, rfl, ⟨_, SqL.of (t4 _ _ hD5)⟩, fun D2 hD2 => ?_⟩
      refine lc_list (a := D) (xs := vs) (fun i H7 => H7 D2 = some (.lst (((t.kids.take i).map (cI 0)).map V.int)) ∧ Same (upd (upd (upd (upd H5 p1 (.lst [.str "last", .str "next"])) p2 (.lst [.str "last", .str "next", .str "later", .str "earlier"])) O (.lst (t.own.map V.int))) z (.lst [.int 0])) H7) ⟨upd_same, sameAt (Same.refl _) hD2⟩ (fun i H7 _ hv => SqL.of ((t4.trans hv.2) _ _ hD5)) ?_ ?_
      · rintro i v H7 hvi ⟨hD7, s7⟩
        have hil : i < t.kids.length := by rw [← hS.1]; exact (List.getElem?_eq_some_iff.mp hvi).1
        obtain ⟨u, hu⟩ : ∃ u, t.kids[i]? = some u := ⟨_, List.getElem?_eq_getElem hil⟩
        obtain ⟨b, rfl, _, hb⟩ := hS.2 i v u hvi hu
        have hb7 := (t4.trans s7) _ _ hb
        refine ⟨rfl, _, rfl, _, _, _, _, rfl, rfl, SqL.of hb7, atI_hd, _, hD7, (by rw [List.length_map, List.length_map, List.length_take]; exact small1000 (by omega)), ?_, sameAt s7 hD2⟩
        rw [upd_same, list_take hu, List.map_append, List.map_append]
        rfl
      · rintro H7 ⟨hD7, s7⟩
        rw [hS.1, List.take_length] at hD7
        have t7 := t4.trans s7
        refine ⟨z, D2, [.int 0], _, rfl, rfl, s7 _ _ upd_same, hD7, (by rw [List.length_map, List.length_map]; exact Nat.le_of_lt (small1000 (show 1 + t.kids.length ≤ 1000 by omega))), fun L hL => ?_⟩
        have t8 : Same H7 _ := sameAt (o := .lst ([V.int 0] ++ (t.kids.map (cI 0)).map V.int)) (Same.refl H7) hL
        refine ⟨L, 0 :: t.kids.map (cI 0), rfl, SqL.of upd_same, Nat.succ_pos _, fun m hm hg => ?_⟩
        have dd := sz_dep t hm hg
        refine ⟨_, _, rfl, rfl, (by show 1 ≤ sizeLine; decide), fun S hS0 => ?_⟩
        have t9 := t7.trans t8
        have hDS := (t9 _ _ hD5)
        have hOS := ((sameAt (Same.refl _) hz).trans (s7.trans t8)) O (.lst (t.own.map V.int)) upd_same
        have S9 := hS.same t9
        have t10 : Same H (upd H7 L (.lst ([V.int 0] ++ (t.kids.map (cI 0)).map V.int))) := (s1.trans s5).trans t9
        generalize upd H7 L (.lst ([V.int 0] ++ (t.kids.map (cI 0)).map V.int)) = H8 at hS0 hDS hOS S9 t10 ⊢
        clear hg hm t8 t9 t7 s7 hD7 hL hD2 t4 hz t3 hO t2 hp2 t1 hp1 he5 he6
        refine ⟨_, rfl, (by decide), (by decide), for_range (n := 3) (fun i σ H9 => (∃ x4 x5 x6, σ = [some (.ref e), some (.ref D), some (.ref O), some (.ref S), x4, x5, x6] ∧ H9 S = some (.lst ((t.sz.take (i + 1)).map V.int))) ∧ Same H8 H9) ?_ ?_ ?_⟩
        · refine ⟨⟨_, _, _, rfl, ?_⟩, sameAt (Same.refl _) hS0⟩
          rw [upd_same]
          show some (HO.lst [V.int (1 + m)]) = _
          rw [← dd]
          rfl
        · rintro i σ H9 hi ⟨⟨x4, x5, x6, rfl, hS9⟩, s9⟩
          simp only [Int.zero_add]
          have ow : (t.own.map V.int)[i]? = some (.int (t.own.getD i 0)) := by
            match i, hi with
            | 0, _ => rfl
            | 1, _ => rfl
            | 2, _ => rfl
          refine ⟨_, rfl, .inl ⟨rfl, _, SqL.of hS9⟩, _, rfl, _, rfl, _, _, _, _, rfl, rfl, SqL.of (s9 _ _ hOS), atI_nat ow, ?_⟩
          refine ⟨_, rfl, D, rfl, ⟨_, SqL.of (s9 _ _ hDS)⟩, fun D3 hD3 => ?_⟩
          have hSD : S ≠ D3 := fun z => by rw [z, hD3] at hS9; cases hS9
          refine lc_list (a := D) (xs := vs) (fun j H7 => H7 D3 = some (.lst (((t.kids.take j).map (cI (i + 1))).map V.int)) ∧ Same H9 H7) ⟨upd_same, sameAt (Same.refl _) hD3⟩ (fun j H7 _ hv => SqL.of ((s9.trans hv.2) _ _ hDS)) ?_ ?_
          · rintro j v H7 hvi ⟨hD7, s7⟩
            have hil : j < t.kids.length := by rw [← hS.1]; exact (List.getElem?_eq_some_iff.mp hvi).1
            obtain ⟨u, hu⟩ : ∃ u, t.kids[j]? = some u := ⟨_, List.getElem?_eq_getElem hil⟩
            obtain ⟨b, rfl, _, hb⟩ := S9.2 j v u hvi hu
            have hb7 := (s9.trans s7) _ _ hb
            have uw : (u.sz.map V.int)[i + 1]? = some (.int (cI (i + 1) u)) := by
              match i, hi with
              | 0, _ => rfl
              | 1, _ => rfl
              | 2, _ => rfl
            refine ⟨rfl, _, rfl, _, rfl, _, _, rfl, rfl, _, _, _, _, rfl, rfl, SqL.of hb7, atI_nat uw, _, hD7, (by rw [List.length_map, List.length_map, List.length_take]; exact small1000 (by omega)), ?_, sameAt s7 hD3⟩
            rw [upd_same, list_take hu, List.map_append, List.map_append]
            rfl
          · rintro H7 ⟨hD7, s7⟩
            rw [hS.1, List.take_length] at hD7
            refine ⟨D3, t.kids.map (cI (i + 1)), rfl, SqL.of hD7, _, _, rfl, rfl, S, _, _, rfl, rfl, s7 _ _ hS9, (by rw [List.length_map, List.length_take]; exact small1000 (show min (i + 1) 4 ≤ 1000 by omega)), ⟨_, _, _, rfl, ?_⟩, ?_⟩
            · rw [upd_same]
              show some (HO.lst (_ ++ [V.int (t.own.getD i 0 + (t.kids.map (cI (i + 1))).sum)])) = _
              rw [sz_sum t hi]
              match i, hi with
              | 0, _ => rfl
              | 1, _ => rfl
              | 2, _ => rfl
            · exact sameAt (s9.trans s7) hS0
        · rintro σ H9 ⟨⟨x4, x5, x6, rfl, hS9⟩, s9⟩
          exact ⟨_, rfl, q S H9 (t10.trans s9) (none_of t10 hS0) hS9⟩
end
end Ash

set_option Elab.async false
set_option linter.all false
set_option maxRecDepth 100000
set_option maxHeartbeats 4000000
set_option pp.maxSteps 1500
namespace Ash
open PySem PySem.Spec PyProof.Rows L2
open C8 (pss_cut)
/-! ### the streams of a model -/
def Tm.os : Tm → List Str
  | .last s _ => [s]
  | .next s _ => [s]
  | _ => []
theorem str_kids : ∀ t : Tm, t.streams = t.os ++ t.kids.flatMap Tm.streams
  | .now => rfl
  | .last s t => by simp [Tm.streams, Tm.os, Tm.kids]
  | .next s t => by simp [Tm.streams, Tm.os, Tm.kids]
  | .shift s t => by simp [Tm.streams, Tm.os, Tm.kids]
  | .either a b => by simp [Tm.streams, Tm.os, Tm.kids]
  | .later a b => by simp [Tm.streams, Tm.os, Tm.kids]
  | .earlier a b => by simp [Tm.streams, Tm.os, Tm.kids]
theorem kid_lok {t u : Tm} (h : u ∈ t.kids) : u.lok ≤ t.lok := by
  cases t with
  | now => cases h
  | last s v => cases List.mem_singleton.mp h; show u.lok ≤ 1 + u.lok; omega
  | next s v => cases List.mem_singleton.mp h; show u.lok ≤ 1 + u.lok; omega
  | shift s v => cases List.mem_singleton.mp h; show u.lok ≤ 0 + u.lok; omega
  | either a b =>
    have p1 := a.lok_nn
    have p2 := b.lok_nn
    have h : u ∈ [a, b] := h
    simp only [List.mem_cons, List.not_mem_nil, or_false] at h
    show u.lok ≤ 0 + (a.lok + b.lok)
    rcases h with rfl | rfl <;> omega
  | later a b =>
    have p1 := a.lok_nn
    have p2 := b.lok_nn
    have h : u ∈ [a, b] := h
    simp only [List.mem_cons, List.not_mem_nil, or_false] at h
    show u.lok ≤ 0 + (a.lok + b.lok)
    rcases h with rfl | rfl <;> omega
  | earlier a b =>
    have p1 := a.lok_nn
    have p2 := b.lok_nn
    have h : u ∈ [a, b] := h
    simp only [List.mem_cons, List.not_mem_nil, or_false] at h
    show u.lok ≤ 0 + (a.lok + b.lok)
    rcases h with rfl | rfl <;> omega
section
variable {P : Program} {w : World} {K : PySem.W.Frag} {mg : Str → Option Value} {base : Heap} {C : TC} {A0 : AC} {CT : Addr}
structure G2m (P : Program) (w : World) (K : PySem.W.Frag) (mg : Str → Option Value) (base : Heap) (d : Nat) : Prop where
  kids : Cal P w K mg base CX0 "_law_children" 1 ["model"] spMKids
  mstr : Cal P w K mg base CX0 "_law_streams" (d + 2) ["model"] (spMStrs d)
abbrev s_l_streams : Stmt := topS 48
theorem sc_l_streams : FnScope ["model", "found", "child"] ["model"] (defScope s_l_streams) := ⟨rfl, rfl, rfl, by decide +kernel, rfl, by decide +kernel, by decide +kernel⟩
theorem ok_mstrs0 {f : Addr} {fd : FuncData} (F : Fun K "_law_streams" "_law_streams" s_l_streams f fd) : FnOk P w K mg base CX0 (0 + 2) f fd ["model"] (spMStrs 0) := by
  refine F.ok sc_l_streams (fun vs H Q E h => ?_) (fun cdv A outer s H vs Q E hr h => ?_)
  · obtain ⟨e, t, rfl, _⟩ := h
    rfl
  · obtain ⟨e, t, rfl, _, hd, _⟩ := h
    have := t.dep_pos
    have hd : t.dep ≤ 0 := hd
    omega
theorem ok_mstrs {f : Addr} {fd : FuncData} {d : Nat} (F : Fun K "_law_streams" "_law_streams" s_l_streams f fd) (B : Blt mg) (G : G2m P w K mg base d) : FnOk P w K mg base CX0 (d + 1 + 2) f fd ["model"] (spMStrs (d + 1)) := by
  refine F.ok sc_l_streams (fun vs H Q E h => ?_) (fun cdv A outer s H vs Q E hr h => ?_)
  · obtain ⟨e, t, rfl, _⟩ := h
    rfl
  · obtain ⟨e, t, rfl, hT, hd, hlk, q⟩ := h
    refine ⟨_, (pss_cons (ps_set (i := 1) sc_l_streams.nd rfl (Or.inl rfl) (pe_lst pa_nil))
    (pss_cut (ps_if (pt_cmpR op_in_seq (pe_ix ix_tup (pv 0) pe_int (fun _ _ => rfl)) (pe_lst (pa_cons pe_str (pa_cons pe_str pa_nil))) rfl)
      (pss_one (ps_expr (pe_bm PySem.F.plainAttrs_list PySem.F.slot_list_append PySem.F.type_list_append mt_append (pv 1) (pa_cons (pe_ix ix_tup (pv 0) pe_int (fun _ _ => rfl)) pa_nil))))
      pss_nil)
    (pss_cons (ps_for PassesOwn.never rfl (pi_list (pe_cal G.kids (hr.mono (by omega)) pass0 (pa_cons (pv 0) pa_nil))) (pg_name (i := 2) sc_l_streams.nd rfl (Or.inl rfl))
      (pss_one (ps_set (i := 1) sc_l_streams.nd rfl (Or.inl rfl) (pe_op op_cat (pv 1) (pe_cal G.mstr (hr.mono (by omega)) pass0 (pa_cons (pv 2) pa_nil))))))
    (pss_one (ps_ret (pv 1)))))), ?_⟩
    refine ⟨(by show 0 ≤ sizeLine; decide), fun l hl => ?_⟩
    have s0 := sameAt (o := .lst []) (Same.refl H) hl
    have hT0 := hT.same s0
    refine ⟨fun σ H1 => ∃ l', ∃ x2, σ = [some (.ref e), some (.ref l'), x2] ∧ H1 l' = some (.lst (t.os.map V.str)) ∧ Same H H1 ∧ H l' = none, ?_, ?_⟩
    · obtain ⟨ws, he⟩ := hT0.head
      refine ⟨_, rfl, _, _, _, _, rfl, rfl, SqT.of he, atI_hd, (by show 2 ≤ sizeLine; decide), fun p hp => ?_⟩
      have sp := sameAt (o := .lst [.str "last", .str "next"]) (Same.refl _) hp
      refine ⟨p, _, rfl, .inl (SqL.of upd_same), rfl, (by decide), _, rfl, ?_⟩
      rw [if_neg Bool.false_ne_true, ol_in]
      have sl := s0.trans sp
      have hl1 := sp _ _ (upd_same (H := H) (a := l))
      cases t with
      | last s u =>
        obtain ⟨b, h1, _⟩ := hT.same sl
        exact iteT ⟨_, rfl, .inl ⟨rfl, _, SqL.of hl1⟩, _, rfl, _, _, _, _, rfl, rfl, SqT.of h1, rfl, l, [], _, rfl, rfl, hl1, (by decide), l, _, rfl, upd_same, sameAt sl hl, hl⟩
      | next s u =>
        obtain ⟨b, h1, _⟩ := hT.same sl
        exact iteT ⟨_, rfl, .inl ⟨rfl, _, SqL.of hl1⟩, _, rfl, _, _, _, _, rfl, rfl, SqT.of h1, rfl, l, [], _, rfl, rfl, hl1, (by decide), l, _, rfl, upd_same, sameAt sl hl, hl⟩
      | now => exact iteF ⟨l, _, rfl, hl1, sl, hl⟩
      | shift s u => exact iteF ⟨l, _, rfl, hl1, sl, hl⟩
      | either s u => exact iteF ⟨l, _, rfl, hl1, sl, hl⟩
      | later s u => exact iteF ⟨l, _, rfl, hl1, sl, hl⟩
      | earlier s u => exact iteF ⟨l, _, rfl, hl1, sl, hl⟩
    rintro σ H1 ⟨l', x2, rfl, hl', s1, hn1⟩
    have os1 : t.os.length ≤ 1 := by cases t <;> simp [Tm.os]
    refine ⟨_, rfl, e, t, rfl, hT.same s1, fun q1 us H2 s2 hnq hq1 hk => ⟨q1, rfl, ⟨_, SqL.of hq1⟩, ?_⟩⟩
    have kl := hk.1
    have ln : (t.streams.length : Int) = t.lok := strs_len t
    rw [str_kids, List.length_append] at ln
    refine for_it (walk_list (K := K) (a := q1) (xs := us)) (fun i σ H3 => (∃ l' x2, σ = [some (.ref e), some (.ref l'), x2] ∧ H3 l' = some (.lst ((t.os ++ (t.kids.take i).flatMap Tm.streams).map V.str)) ∧ H l' = none) ∧ Same H2 H3) ⟨⟨l', _, rfl, by rw [List.take_zero, List.flatMap_nil, List.append_nil]; exact s2 _ _ hl', hn1⟩, Same.refl _⟩ (fun i σ H3 _ hv => SqL.of (hv.2 _ _ hq1)) ?_ ?_
    · rintro i y σ H3 _ hi ⟨⟨l3, x3, rfl, hl3, hn3⟩, s3⟩ ⟨rfl, hy⟩
      have hil : i < t.kids.length := by rw [← kl]; exact (List.getElem?_eq_some_iff.mp hy).1
      obtain ⟨u, hu⟩ : ∃ u, t.kids[i]? = some u := ⟨_, List.getElem?_eq_getElem hil⟩
      obtain ⟨b, rfl, hb⟩ := hk.2 i y u hy hu
      obtain ⟨z1, _⟩ := kid_sz (List.mem_of_getElem? hu)
      have z2 := kid_lok (List.mem_of_getElem? hu)
      have tk : ((t.kids.take (i + 1)).flatMap Tm.streams) = (t.kids.take i).flatMap Tm.streams ++ u.streams := by rw [list_take hu, List.flatMap_append]; simp
      have ln2 : ((t.kids.take i).flatMap Tm.streams).length + u.streams.length ≤ (t.kids.flatMap Tm.streams).length := by
        have e1 : t.kids.flatMap Tm.streams = (t.kids.take (i + 1)).flatMap Tm.streams ++ (t.kids.drop (i + 1)).flatMap Tm.streams := by rw [← List.flatMap_append, List.take_append_drop]
        rw [e1, tk, List.length_append, List.length_append]
        omega
      refine ⟨_, rfl, _, rfl, b, u, rfl, hb.same s3, by omega, by omega, fun l2 H4 s4 hn2 hl2 => ⟨l3, l2, _, _, rfl, rfl, s4 _ _ hl3, hl2, ?_, fun l5 hl5 => ⟨⟨l5, _, rfl, ?_, none_of (((s1.trans s2).trans s3).trans s4) hl5⟩, sameAt (s3.trans s4) (none_of (s3.trans s4) hl5)⟩⟩⟩
      · rw [List.length_map, List.length_map, List.length_append]
        exact Nat.le_of_lt (small1000 (by omega))
      · rw [upd_same, tk, List.map_append, List.map_append, List.map_append, List.append_assoc]
    · rintro σ H3 ⟨⟨l3, x3, rfl, hl3, hn3⟩, s3⟩
      rw [kl, List.take_length, ← str_kids] at hl3
      exact ⟨_, rfl, q l3 _ ((s1.trans s2).trans s3) hn3 hl3⟩
abbrev s_l_taken : Stmt := topS 50
theorem sc_l_taken : FnScope ["term"] ["term"] (defScope s_l_taken) := ⟨rfl, rfl, rfl, by decide +kernel, rfl, by decide +kernel, by decide +kernel⟩
structure G3m (P : Program) (w : World) (K : PySem.W.Frag) (mg : Str → Option Value) (base : Heap) (C : TC) (d : Nat) : Prop where
  taken : Cal P w K mg base CX0 "_law_taken" (d + 2) ["term"] (spTaken C d)
theorem ok_taken0 {f : Addr} {fd : FuncData} (F : Fun K "_law_taken" "_law_taken" s_l_taken f fd) : FnOk P w K mg base CX0 (0 + 2) f fd ["term"] (spTaken C 0) := by
  refine F.ok sc_l_taken (fun vs H Q E h => ?_) (fun cdv A outer s H vs Q E hr h => ?_)
  · obtain ⟨e, t, rfl, _⟩ := h
    rfl
  · obtain ⟨e, t, rfl, _, hd, _⟩ := h
    have := t.dep_pos
    have hd : t.dep ≤ 0 := hd
    omega
theorem ok_taken {f : Addr} {fd : FuncData} {d : Nat} (F : Fun K "_law_taken" "_law_taken" s_l_taken f fd) (B : Blt mg) (T : TF K mg C) (D : TD C) (G : G3m P w K mg base C d) : FnOk P w K mg base CX0 (d + 1 + 2) f fd ["term"] (spTaken C (d + 1)) := by
  obtain ⟨t_cl, t_no, t_ty, t_one, c_Now, c_Last, c_Next, c_Shift, c_Either, c_Later, c_Earlier⟩ := id T
  refine F.ok sc_l_taken (fun vs H Q E h => ?_) (fun cdv A outer s H vs Q E hr h => ?_)
  · obtain ⟨e, t, rfl, _⟩ := h
    rfl
  · obtain ⟨a, t, rfl, hT, hd, q⟩ := h
    refine ⟨_, (pss_cons (ps_if (pt_val (pe_callB call_isi (by rfl) B.isinstance (by decide +kernel) (pa_cons (pv 0) (pa_cons (pe_glob (v := .ref C.shift) (by rfl) c_Shift rfl) pa_nil))))
      (pss_one (ps_ret (pe_tup (pa_cons pe_str (pa_cons (pe_fld (pv 0) rfl) (pa_cons (pe_cal G.taken (hr.mono (by omega)) pass0 (pa_cons (pe_fld (pv 0) rfl) pa_nil)) pa_nil))))))
      pss_nil)
    (pss_cons (ps_if (pt_val (pe_callB call_isi (by rfl) B.isinstance (by decide +kernel) (pa_cons (pv 0) (pa_cons (pe_glob (v := .ref C.last) (by rfl) c_Last rfl) pa_nil))))
      (pss_one (ps_ret (pe_tup (pa_cons pe_str (pa_cons (pe_fld (pv 0) rfl) (pa_cons (pe_cal G.taken (hr.mono (by omega)) pass0 (pa_cons (pe_fld (pv 0) rfl) pa_nil)) pa_nil))))))
      pss_nil)
    (pss_cons (ps_if (pt_val (pe_callB call_isi (by rfl) B.isinstance (by decide +kernel) (pa_cons (pv 0) (pa_cons (pe_glob (v := .ref C.next) (by rfl) c_Next rfl) pa_nil))))
      (pss_one (ps_ret (pe_tup (pa_cons pe_str (pa_cons (pe_fld (pv 0) rfl) (pa_cons (pe_cal G.taken (hr.mono (by omega)) pass0 (pa_cons (pe_fld (pv 0) rfl) pa_nil)) pa_nil))))))
      pss_nil)
    (pss_cons (ps_if (pt_val (pe_callB call_isi (by rfl) B.isinstance (by decide +kernel) (pa_cons (pv 0) (pa_cons (pe_glob (v := .ref C.either) (by rfl) c_Either rfl) pa_nil))))
      (pss_one (ps_ret (pe_tup (pa_cons pe_str (pa_cons (pe_cal G.taken (hr.mono (by omega)) pass0 (pa_cons (pe_fld (pv 0) rfl) pa_nil)) (pa_cons (pe_cal G.taken (hr.mono (by omega)) pass0 (pa_cons (pe_fld (pv 0) rfl) pa_nil)) pa_nil))))))
      pss_nil)
    (pss_cons (ps_if (pt_val (pe_callB call_isi (by rfl) B.isinstance (by decide +kernel) (pa_cons (pv 0) (pa_cons (pe_glob (v := .ref C.later) (by rfl) c_Later rfl) pa_nil))))
      (pss_one (ps_ret (pe_tup (pa_cons pe_str (pa_cons (pe_cal G.taken (hr.mono (by omega)) pass0 (pa_cons (pe_fld (pv 0) rfl) pa_nil)) (pa_cons (pe_cal G.taken (hr.mono (by omega)) pass0 (pa_cons (pe_fld (pv 0) rfl) pa_nil)) pa_nil))))))
      pss_nil)
    (pss_cons (ps_if (pt_val (pe_callB call_isi (by rfl) B.isinstance (by decide +kernel) (pa_cons (pv 0) (pa_cons (pe_glob (v := .ref C.earlier) (by rfl) c_Earlier rfl) pa_nil))))
      (pss_one (ps_ret (pe_tup (pa_cons pe_str (pa_cons (pe_cal G.taken (hr.mono (by omega)) pass0 (pa_cons (pe_fld (pv 0) rfl) pa_nil)) (pa_cons (pe_cal G.taken (hr.mono (by omega)) pass0 (pa_cons (pe_fld (pv 0) rfl) pa_nil)) pa_nil))))))
      pss_nil)
    (pss_one (ps_ret (pe_tup (pa_cons pe_str pa_nil)))))))))), ?_⟩
    have nd := D.nd
    simp only [List.nodup_cons, List.mem_cons, List.not_mem_nil, or_false, not_or] at nd
    obtain ⟨⟨a1, a2, a3, a4, a5, a6⟩, ⟨b1, b2, b3, b4, b5⟩, ⟨c1, c2, c3, c4⟩, ⟨d1, d2, d3⟩, ⟨e1, e2⟩, f1, _⟩ := nd
    have tx := T.tyx hT
    have hd2 : t.dep ≤ (d : Int) + 1 := by have := hd; omega
    cases t with
    | now =>
      have Is := C.is_of (.now)
      refine ⟨_, rfl, _, _, _, _, _, rfl, .own _, tx, T.one _ C.shift Is (C.is_of (.shift 0 .now)), _, rfl, ?_⟩
      rw [show decide (C.of (.now) = C.shift) = false from decide_eq_false a3]
      refine iteF ?_
      refine ⟨_, rfl, _, _, _, _, _, rfl, .own _, tx, T.one _ C.last Is (C.is_of (.last "" .now)), _, rfl, ?_⟩
      rw [show decide (C.of (.now) = C.last) = false from decide_eq_false a1]
      refine iteF ?_
      refine ⟨_, rfl, _, _, _, _, _, rfl, .own _, tx, T.one _ C.next Is (C.is_of (.next "" .now)), _, rfl, ?_⟩
      rw [show decide (C.of (.now) = C.next) = false from decide_eq_false a2]
      refine iteF ?_
      refine ⟨_, rfl, _, _, _, _, _, rfl, .own _, tx, T.one _ C.either Is (C.is_of (.either .now .now)), _, rfl, ?_⟩
      rw [show decide (C.of (.now) = C.either) = false from decide_eq_false a4]
      refine iteF ?_
      refine ⟨_, rfl, _, _, _, _, _, rfl, .own _, tx, T.one _ C.later Is (C.is_of (.later .now .now)), _, rfl, ?_⟩
      rw [show decide (C.of (.now) = C.later) = false from decide_eq_false a5]
      refine iteF ?_
      refine ⟨_, rfl, _, _, _, _, _, rfl, .own _, tx, T.one _ C.earlier Is (C.is_of (.earlier .now .now)), _, rfl, ?_⟩
      rw [show decide (C.of (.now) = C.earlier) = false from decide_eq_false a6]
      refine iteF ?_
      exact ⟨(by show 1 ≤ sizeLine; decide), fun q1 hq1 => q q1 _ upd_same (sameAt (Same.refl _) hq1)⟩
    | last z u =>
      have Is := C.is_of (.last z u)
      obtain ⟨dx, b, sp, h1, h2, h3⟩ := id hT
      have hd2 : 1 + u.dep ≤ (d : Int) + 1 := hd2
      refine ⟨_, rfl, _, _, _, _, _, rfl, .own _, tx, T.one _ C.shift Is (C.is_of (.shift 0 .now)), _, rfl, ?_⟩
      rw [show decide (C.of (.last z u) = C.shift) = false from decide_eq_false b2]
      refine iteF ?_
      refine ⟨_, rfl, _, _, _, _, _, rfl, .own _, tx, T.one _ C.last Is (C.is_of (.last "" .now)), _, rfl, ?_⟩
      rw [show decide (C.of (.last z u) = C.last) = true from decide_eq_true rfl]
      refine iteT ⟨_, rfl, a, _, dx, _, _, rfl, h1, T.cl _ Is, T.no _ Is _ (by decide +kernel), rfl, _, rfl, a, _, dx, _, _, rfl, h1, T.cl _ Is, T.no _ Is _ (by decide +kernel), rfl, b, u, rfl, h3, by omega, fun e1 H1 hM s1 => ⟨(by show 3 ≤ sizeLine; decide), fun q1 hq1 => ?_⟩⟩
      have s2 := sameAt (o := .tup [.str "last", .str z, .ref e1]) (Same.refl _) hq1
      exact q q1 _ ⟨e1, upd_same, hM.same s2⟩ (s1.trans s2)
    | next z u =>
      have Is := C.is_of (.next z u)
      obtain ⟨dx, b, sp, h1, h2, h3⟩ := id hT
      have hd2 : 1 + u.dep ≤ (d : Int) + 1 := hd2
      refine ⟨_, rfl, _, _, _, _, _, rfl, .own _, tx, T.one _ C.shift Is (C.is_of (.shift 0 .now)), _, rfl, ?_⟩
      rw [show decide (C.of (.next z u) = C.shift) = false from decide_eq_false c1]
      refine iteF ?_
      refine ⟨_, rfl, _, _, _, _, _, rfl, .own _, tx, T.one _ C.last Is (C.is_of (.last "" .now)), _, rfl, ?_⟩
      rw [show decide (C.of (.next z u) = C.last) = false from decide_eq_false (Ne.symm b1)]
      refine iteF ?_
      refine ⟨_, rfl, _, _, _, _, _, rfl, .own _, tx, T.one _ C.next Is (C.is_of (.next "" .now)), _, rfl, ?_⟩
      rw [show decide (C.of (.next z u) = C.next) = true from decide_eq_true rfl]
      refine iteT ⟨_, rfl, a, _, dx, _, _, rfl, h1, T.cl _ Is, T.no _ Is _ (by decide +kernel), rfl, _, rfl, a, _, dx, _, _, rfl, h1, T.cl _ Is, T.no _ Is _ (by decide +kernel), rfl, b, u, rfl, h3, by omega, fun e1 H1 hM s1 => ⟨(by show 3 ≤ sizeLine; decide), fun q1 hq1 => ?_⟩⟩
      have s2 := sameAt (o := .tup [.str "next", .str z, .ref e1]) (Same.refl _) hq1
      exact q q1 _ ⟨e1, upd_same, hM.same s2⟩ (s1.trans s2)
    | shift n u =>
      have Is := C.is_of (.shift n u)
      obtain ⟨dx, b, sp, h1, h2, h3⟩ := id hT
      have hd2 : 1 + u.dep ≤ (d : Int) + 1 := hd2
      refine ⟨_, rfl, _, _, _, _, _, rfl, .own _, tx, T.one _ C.shift Is (C.is_of (.shift 0 .now)), _, rfl, ?_⟩
      rw [show decide (C.of (.shift n u) = C.shift) = true from decide_eq_true rfl]
      refine iteT ⟨_, rfl, a, _, dx, _, _, rfl, h1, T.cl _ Is, T.no _ Is _ (by decide +kernel), rfl, _, rfl, a, _, dx, _, _, rfl, h1, T.cl _ Is, T.no _ Is _ (by decide +kernel), rfl, b, u, rfl, h3, by omega, fun e1 H1 hM s1 => ⟨(by show 3 ≤ sizeLine; decide), fun q1 hq1 => ?_⟩⟩
      have s2 := sameAt (o := .tup [.str "shift", .int n, .ref e1]) (Same.refl _) hq1
      exact q q1 _ ⟨e1, upd_same, hM.same s2⟩ (s1.trans s2)
    | either u v =>
      have Is := C.is_of (.either u v)
      obtain ⟨dx, b, c, sp, h1, h2, h3, h4⟩ := id hT
      have m1 := Tm.mx_l u.dep v.dep
      have m2 := Tm.mx_r u.dep v.dep
      have hd2 : 1 + Tm.mx u.dep v.dep ≤ (d : Int) + 1 := hd2
      refine ⟨_, rfl, _, _, _, _, _, rfl, .own _, tx, T.one _ C.shift Is (C.is_of (.shift 0 .now)), _, rfl, ?_⟩
      rw [show decide (C.of (.either u v) = C.shift) = false from decide_eq_false (Ne.symm d1)]
      refine iteF ?_
      refine ⟨_, rfl, _, _, _, _, _, rfl, .own _, tx, T.one _ C.last Is (C.is_of (.last "" .now)), _, rfl, ?_⟩
      rw [show decide (C.of (.either u v) = C.last) = false from decide_eq_false (Ne.symm b3)]
      refine iteF ?_
      refine ⟨_, rfl, _, _, _, _, _, rfl, .own _, tx, T.one _ C.next Is (C.is_of (.next "" .now)), _, rfl, ?_⟩
      rw [show decide (C.of (.either u v) = C.next) = false from decide_eq_false (Ne.symm c2)]
      refine iteF ?_
      refine ⟨_, rfl, _, _, _, _, _, rfl, .own _, tx, T.one _ C.either Is (C.is_of (.either .now .now)), _, rfl, ?_⟩
      rw [show decide (C.of (.either u v) = C.either) = true from decide_eq_true rfl]
      refine iteT ⟨_, rfl, a, _, dx, _, _, rfl, h1, T.cl _ Is, T.no _ Is _ (by decide +kernel), rfl, b, u, rfl, h3, by omega, fun e1 H1 hM s1 => ⟨_, rfl, a, _, dx, _, _, rfl, s1 _ _ h1, T.cl _ Is, T.no _ Is _ (by decide +kernel), rfl, c, v, rfl, h4.same s1, by omega, fun e2 H2 hM2 s2 => ⟨(by show 3 ≤ sizeLine; decide), fun q1 hq1 => ?_⟩⟩⟩
      have s3 := sameAt (o := .tup [.str "either", .ref e1, .ref e2]) (Same.refl _) hq1
      exact q q1 _ ⟨e1, e2, upd_same, hM.same (s2.trans s3), hM2.same s3⟩ ((s1.trans s2).trans s3)
    | later u v =>
      have Is := C.is_of (.later u v)
      obtain ⟨dx, b, c, sp, h1, h2, h3, h4⟩ := id hT
      have m1 := Tm.mx_l u.dep v.dep
      have m2 := Tm.mx_r u.dep v.dep
      have hd2 : 1 + Tm.mx u.dep v.dep ≤ (d : Int) + 1 := hd2
      refine ⟨_, rfl, _, _, _, _, _, rfl, .own _, tx, T.one _ C.shift Is (C.is_of (.shift 0 .now)), _, rfl, ?_⟩
      rw [show decide (C.of (.later u v) = C.shift) = false from decide_eq_false (Ne.symm d2)]
      refine iteF ?_
      refine ⟨_, rfl, _, _, _, _, _, rfl, .own _, tx, T.one _ C.last Is (C.is_of (.last "" .now)), _, rfl, ?_⟩
      rw [show decide (C.of (.later u v) = C.last) = false from decide_eq_false (Ne.symm b4)]
      refine iteF ?_
      refine ⟨_, rfl, _, _, _, _, _, rfl, .own _, tx, T.one _ C.next Is (C.is_of (.next "" .now)), _, rfl, ?_⟩
      rw [show decide (C.of (.later u v) = C.next) = false from decide_eq_false (Ne.symm c3)]
      refine iteF ?_
      refine ⟨_, rfl, _, _, _, _, _, rfl, .own _, tx, T.one _ C.either Is (C.is_of (.either .now .now)), _, rfl, ?_⟩
      rw [show decide (C.of (.later u v) = C.either) = false from decide_eq_false (Ne.symm e1)]
      refine iteF ?_
      refine ⟨_, rfl, _, _, _, _, _, rfl, .own _, tx, T.one _ C.later Is (C.is_of (.later .now .now)), _, rfl, ?_⟩
      rw [show decide (C.of (.later u v) = C.later) = true from decide_eq_true rfl]
      refine iteT ⟨_, rfl, a, _, dx, _, _, rfl, h1, T.cl _ Is, T.no _ Is _ (by decide +kernel), rfl, b, u, rfl, h3, by omega, fun e1 H1 hM s1 => ⟨_, rfl, a, _, dx, _, _, rfl, s1 _ _ h1, T.cl _ Is, T.no _ Is _ (by decide +kernel), rfl, c, v, rfl, h4.same s1, by omega, fun e2 H2 hM2 s2 => ⟨(by show 3 ≤ sizeLine; decide), fun q1 hq1 => ?_⟩⟩⟩
      have s3 := sameAt (o := .tup [.str "later", .ref e1, .ref e2]) (Same.refl _) hq1
      exact q q1 _ ⟨e1, e2, upd_same, hM.same (s2.trans s3), hM2.same s3⟩ ((s1.trans s2).trans s3)
    | earlier u v =>
      have Is := C.is_of (.earlier u v)
      obtain ⟨dx, b, c, sp, h1, h2, h3, h4⟩ := id hT
      have m1 := Tm.mx_l u.dep v.dep
      have m2 := Tm.mx_r u.dep v.dep
      have hd2 : 1 + Tm.mx u.dep v.dep ≤ (d : Int) + 1 := hd2
      refine ⟨_, rfl, _, _, _, _, _, rfl, .own _, tx, T.one _ C.shift Is (C.is_of (.shift 0 .now)), _, rfl, ?_⟩
      rw [show decide (C.of (.earlier u v) = C.shift) = false from decide_eq_false (Ne.symm d3)]
      refine iteF ?_
      refine ⟨_, rfl, _, _, _, _, _, rfl, .own _, tx, T.one _ C.last Is (C.is_of (.last "" .now)), _, rfl, ?_⟩
      rw [show decide (C.of (.earlier u v) = C.last) = false from decide_eq_false (Ne.symm b5)]
      refine iteF ?_
      refine ⟨_, rfl, _, _, _, _, _, rfl, .own _, tx, T.one _ C.next Is (C.is_of (.next "" .now)), _, rfl, ?_⟩
      rw [show decide (C.of (.earlier u v) = C.next) = false from decide_eq_false (Ne.symm c4)]
      refine iteF ?_
      refine ⟨_, rfl, _, _, _, _, _, rfl, .own _, tx, T.one _ C.either Is (C.is_of (.either .now .now)), _, rfl, ?_⟩
      rw [show decide (C.of (.earlier u v) = C.either) = false from decide_eq_false (Ne.symm e2)]
      refine iteF ?_
      refine ⟨_, rfl, _, _, _, _, _, rfl, .own _, tx, T.one _ C.later Is (C.is_of (.later .now .now)), _, rfl, ?_⟩
      rw [show decide (C.of (.earlier u v) = C.later) = false from decide_eq_false (Ne.symm f1)]
      refine iteF ?_
      refine ⟨_, rfl, _, _, _, _, _, rfl, .own _, tx, T.one _ C.earlier Is (C.is_of (.earlier .now .now)), _, rfl, ?_⟩
      rw [show decide (C.of (.earlier u v) = C.earlier) = true from decide_eq_true rfl]
      refine iteT ⟨_, rfl, a, _, dx, _, _, rfl, h1, T.cl _ Is, T.no _ Is _ (by decide +kernel), rfl, b, u, rfl, h3, by omega, fun e1 H1 hM s1 => ⟨_, rfl, a, _, dx, _, _, rfl, s1 _ _ h1, T.cl _ Is, T.no _ Is _ (by decide +kernel), rfl, c, v, rfl, h4.same s1, by omega, fun e2 H2 hM2 s2 => ⟨(by show 3 ≤ sizeLine; decide), fun q1 hq1 => ?_⟩⟩⟩
      have s3 := sameAt (o := .tup [.str "earlier", .ref e1, .ref e2]) (Same.refl _) hq1
      exact q q1 _ ⟨e1, e2, upd_same, hM.same (s2.trans s3), hM2.same s3⟩ ((s1.trans s2).trans s3)
end
end Ash

set_option Elab.async false
set_option linter.all false
set_option maxRecDepth 100000
set_option maxHeartbeats 4000000
namespace L2
open PySem PySem.Spec PyProof.Rows
/-! ### several except clauses, each with a name or without -/
abbrev Clause := Value × Option Nat × (Addr → Value → Option Addr → TS)
/-- behind a suite its name is gone -/
def endAs (i : Nat) (D : Ends) : Ends := { nx := fun σ H => D.nx (σ.set i none) H, rt := D.rt, bk := fun σ H => D.bk (σ.set i none) H, ct := fun σ H => D.ct (σ.set i none) H }
def clGo (D : Ends) : Option Nat → (Addr → Value → Option Addr → TS) → WX
  | none, ts => fun cls d σ H => ∀ q, H q = none → ts q cls d D σ H
  | some i, ts => fun cls d σ H => ∀ q, H q = none → ts q cls d (endAs i D) (σ.set i (some (.ref q))) H
def wCls (K : PySem.W.Frag) (W0 : WX) (D : Ends) : List Clause → WX
  | [] => W0
  | (c, o, ts) :: r => fun cls d σ H => ∃ b, PySem.W.exmOne K cls c = some b ∧ (b = true → clGo D o ts cls d σ H) ∧ (b = false → wCls K W0 D r cls d σ H)
/-- the name of a clause -/
def ClName (X : Cx) : Option Str → Option Nat → Prop
  | none, none => True
  | some n, some i => X.N[i]? = some n ∧ X.env.kindOf n = some .local
  | _, _ => False
inductive ClsOk (X : Cx) : List ExceptHandler → List Clause → Prop
  | nil : ClsOk X [] []
  | cons {x : Str} {n : Option Str} {o : Option Nat} {c : Value} {ts : Addr → Value → Option Addr → TS} {b0 : Stmt} {su : List Stmt} {p1 p2 : Pos} {hs : List ExceptHandler} {l : List Clause} (hc : Names X x c) (hn : ClName X n o)
      (hsu : ∀ (q : Addr) (oe : Obj) (cls : Value) (d : Option Addr) (pn : List (Addr × Obj)), Zc cls d oe → (∃ vs, oe.data = .fields vs) → PSs (X.suite q ((q, oe) :: pn)) (b0 :: su) (ts q cls d)) (r : ClsOk X hs l) :
      ClsOk X (.ExceptHandler (some (.Name x p1)) n (b0 :: su) p2 :: hs) ((c, o, ts) :: l)
section
variable {X : Cx} {body : List Stmt} {h0 : ExceptHandler} {hs : List ExceptHandler} {l : List Clause} {pos : Pos} {tb : WX → TS} {W0 : WX}
theorem ps_try_cls (st : X.stack = X.env :: X.outer) (fr : X.env.frame = some X.env.locals) (nd : X.N.Nodup) (tk : Takes X W0)
    (hb : ∀ (W : WX) (pn : List (Addr × Obj)) (xe : Value → Shared → Prop), Takes (X.tr pn xe) W → PassesOwn (model X.prog X.w) X.A X.env xe → PSs (X.tr pn xe) body (tb W))
    (hh : ClsOk X (h0 :: hs) l) : PS X (.Try body (h0 :: hs) [] [] pos) (fun D σ H => tb (wCls X.K W0 D l) D σ H) := by
  refine ⟨fun pins s σ H D I h => ?_⟩
  have ok := I.ok
  have fA : X.A.frames = some (X.env :: X.outer) := by rw [ok.frames, st]
  refine wpAny_Try_except (wpAny_mono ((hb (wCls X.K W0 D l) (X.pn ++ pins) (fun e s1 => wpAny (model X.prog X.w) X.A (noteFrame e X.env) (fun _ s2 => wpAny (model X.prog X.w) X.A (setFlight e none) (fun _ s3 => wpAny (model X.prog X.w) X.A (handleBy e X.env (h0 :: hs)) (SP X pins D) X.xe s3) X.xe s2) X.xe s1)
    (fun u s' xx => ?_) PassesOwn.looking).run [] s σ H D (I.toTry _) h) (fun f s1 k => ?_) (fun _ _ he => he))
  · obtain ⟨q, M, t0, pins', τ, G, cls, d, rfl, J', nb, up, sky, nq, os, ag, w⟩ := xx
    have J : Inv X pins τ G t0 := J'.ofTry ok
    have sk : Sky M (X.env :: X.outer) q (Zc cls d) X.env.locals s'.heap := st ▸ sky
    refine (show wpAny (model X.prog X.w) X.A (noteFrame (.ref q) X.env) _ _ _ from Sky.land Zc.steady fA fr sk fun g3 f3 u3 => ?_)
    have J3 : Inv X pins τ G { s' with heap := g3 } := J.landed nb f3.1 (up.trans u3) os ag
    obtain ⟨oe3, vs3, he3, hz3, hd3⟩ := f3.there
    have off : ∀ {g : Heap} {o : Obj} {vs : Array Value}, g.FunFrames M (X.env :: X.outer) → g.get? q = some o → o.data = .fields vs → q ∉ frs (X.env :: X.outer) := fun {g o vs} ff e dd hm => by
      obtain ⟨_, o2, e2, hnf⟩ := ff.mem hm
      rw [e] at e2
      cases e2
      exact hnf _ dd
    have nfr := off f3.2.2.1 he3 hd3
    have nL : q ≠ X.env.locals := fun z => nfr (List.mem_filterMap.mpr ⟨X.env, List.mem_cons_self, fr.trans (congrArg some z.symm)⟩)
    have nF : q ∉ X.fs := fun hm => by
      obtain ⟨e, he, z⟩ := List.mem_filterMap.mp hm
      exact nfr (List.mem_filterMap.mpr ⟨e, List.mem_cons_of_mem _ he, z⟩)
    have S3 := J3.suite he3 hd3 nq nL nF
    have go : ∀ {ks : List ExceptHandler} {ls : List Clause}, ClsOk X ks ls → wCls X.K W0 D ls cls d τ G → wpAny (model X.prog X.w) X.A (handleBy (.ref q) X.env ks) (SP X pins D) X.xe { s' with heap := g3 } := by
      intro ks ls hk
      induction hk with
      | nil =>
        intro w
        refine wpAny_handleBy_nil ?_
        obtain ⟨_, _, _, oe, vs, T, oT, ts', he, hz, hd, h1, hr⟩ := id f3
        unfold PySem.passOn
        refine wpAny_bind (wpAny_field he hd h1 ?_)
        rw [if_neg (show ¬ ((Value.ref T == Value.none) = true) from Bool.false_ne_true)]
        have fin : wpAny (model X.prog X.w) X.A (setFlight (.ref q) X.env.frame) (fun _ s4 => wpAny (model X.prog X.w) X.A (throw (.ref q) : Sem Flow) (SP X pins D) X.xe s4) X.xe { s' with heap := g3 } := by
          rw [fr]
          exact HandSPX.setFlight_upZ f3 fun g4 k4 u4 => wpAny_throw (tk _ _ ⟨q, M, t0, pins, τ, G, cls, d, rfl, J, nb, (up.trans u3).trans u4, .inr (.inr (by rw [st]; exact k4)), nq, os, ag, w⟩)
        first
          | exact wpAny_bind (wpAny_pure (wpAny_bind fin))
          | exact wpAny_bind fin
      | @cons x n o c ts b0 su p1 p2 ks2 l2 hc hn hsu r ih =>
        intro w
        obtain ⟨b, b1, yes, no⟩ := w
        refine wpAny_handleBy_cons (codeAny_handlers_test ?_) (by intro z; cases z)
        have LM := PySem.W.exm_one (M := model X.prog X.w) (J3.kIn) (show PySem.W.Looks (model X.prog X.w) g3 (typeOf (.ref q)) cls from fun A Q E s k z => wpAny_typeOf_ref (k _ _ he3) (by rw [hz3.1]; exact z)) b1
        have test : ∀ {Q E : Value → Shared → Prop}, Q c { s' with heap := g3 } → wpAny (model X.prog X.w) (X.A.mark (some (.ref q))) (eval (.Name x p1) X.env) Q E { s' with heap := g3 } := fun {Q E} z => by
          obtain ⟨e1, e2, e3 | ⟨e3, e4, e5⟩⟩ := hc
          · exact ld_glob (X := X.suite q ((q, oe3) :: (X.pn ++ pins))) S3 e1 e3 z e2
          · exact ld_blt (X := X.suite q ((q, oe3) :: (X.pn ++ pins))) S3 e1 e3 e4 z e5 e2
        refine test (LM.here ?_)
        cases b with
        | false => exact (show wpAny _ X.A (handleBy (.ref q) X.env ks2) _ _ _ from ih (no rfl))
        | true =>
          have yes := yes rfl
          match n, o, hn with
          | none, none, _ =>
            refine codeAny_handlers_suite (HandSPX.lands_againZ f3 fun g4 f4 u4 => ?_)
            have J4 : Inv X pins τ G { s' with heap := g4 } := J.landed nb f4.1 ((up.trans u3).trans u4) os ag
            obtain ⟨oe4, vs4, he4, hz4, hd4⟩ := f4.there
            refine wpAny_mono ((hsu q oe4 cls d (X.pn ++ pins) hz4 ⟨_, hd4⟩).run [] _ _ G _ (J4.suite he4 hd4 nq nL nF) (yes q nq)) (fun f s6 k => ?_) (fun _ _ z => False.elim z)
            cases f with
            | ret u =>
              obtain ⟨v6, σ6, H6, S6, r6, q6⟩ := k
              exact ⟨_, _, _, S6.unsuite ok, r6, q6⟩
            | _ =>
              obtain ⟨σ6, H6, S6, q6⟩ := k
              exact ⟨_, _, S6.unsuite ok, q6⟩
          | some n, some i, ⟨hi, hln⟩ =>
            refine codeAny_handlers_suite_as (HandSPX.lands_againZ f3 fun g4 f4 u4 => ?_)
            have J4 : Inv X pins τ G { s' with heap := g4 } := J.landed nb f4.1 ((up.trans u3).trans u4) os ag
            obtain ⟨oe4, vs4, he4, hz4, hd4⟩ := f4.there
            have S4 := J4.suite he4 hd4 nq nL nF
            refine store_ok (X := X.suite q ((q, oe4) :: (X.pn ++ pins))) (v := .ref q) S4 nd hi (.inl hln) rfl (fun s5 S5 => ?_) (.inr hln)
            refine wpAny_mono ((hsu q oe4 cls d (X.pn ++ pins) hz4 ⟨_, hd4⟩).run [] s5 _ G _ S5 (yes q nq)) (fun f s6 k => ?_) (fun _ _ z => False.elim z)
            have out : ∀ {σ6 : St} {H6 : Hp} {Q : Shared → Prop}, Inv (X.suite q ((q, oe4) :: (X.pn ++ pins))) [] σ6 H6 s6 → (∀ s7, Inv X pins (σ6.set i none) H6 s7 → Q s7) → wpAny (model X.prog X.w) X.A (do bindName X.env n .none; unbindBehindTheSuite X.env n p2) (fun _ s7 => Q s7) X.xe s6 :=
              fun {σ6 H6 Q} S6 hq => gone_ok (S6.unsuite ok) nd hi hln hq
            cases f with
            | ret u =>
              obtain ⟨v6, σ6, H6, S6, r6, q6⟩ := k
              exact out S6 fun s7 J7 => ⟨_, _, _, J7, r6, q6⟩
            | _ =>
              obtain ⟨σ6, H6, S6, q6⟩ := k
              exact out S6 fun s7 J7 => ⟨_, _, J7, q6⟩
    exact go hh w
  · cases f with
    | next =>
      obtain ⟨τ, G, J', z⟩ := k
      exact wpAny_execs_nil ⟨τ, G, J'.ofTry ok, z⟩
    | ret u =>
      obtain ⟨v, τ, G, J', r, z⟩ := k
      exact ⟨v, τ, G, J'.ofTry ok, r, z⟩
    | _ =>
      obtain ⟨τ, G, J', z⟩ := k
      exact ⟨τ, G, J'.ofTry ok, z⟩
end
end L2

set_option Elab.async false
set_option linter.all false
set_option maxRecDepth 100000
set_option maxHeartbeats 4000000
namespace L2
open PySem PySem.Spec PyProof.Rows
/-! ### operators, methods and classes of a family: what is raised is wished for at the slots of the place -/
section
variable {X : Cx} {n : Nat} {CX : CXT} {f : Addr} {fd : FuncData} {ps : List Str} {sp : Sp} {E : St → XK} {S : Addr → Prop} {op : Operator} {a b : Expr} {ta tb : TE} {pos : Pos}
def tOpS (r : St → R2) (ta tb : TE) : TE := fun σ H Q => tOp (r σ) ta tb σ H Q
def rFamS (S : Addr → Prop) (sp : Sp) (E : St → XK) : St → R2 := fun σ => rOpF S sp (E σ)
def rIntS (S : Addr → Prop) (sp : Sp) (E : St → XK) : St → R2 := fun σ => rOpI S sp (E σ)
theorem famS (O : OpF X.K S op f) (F : FnOk X.prog X.w X.K X.mg X.base CX n f fd ps sp) (hb : Binds X.K fd ps []) (hx : ∀ σ, PassesAt CX X σ (E σ)) (hr : Room n X.A) (ha : PE X a ta) (hb2 : PE X b tb) : PE X (.BinOp a op b pos) (tOpS (rFamS S sp E) ta tb) := by
  refine ⟨fun pins s0 σ H Q I h => wpAny_BinOp (binT ha hb2 I h fun v u s x y H2 I2 rx ry hq => ?_)⟩
  obtain ⟨p, q, C, D, dx, dy, fs, gs, rfl, rfl, hp, sC, hq', sD, hsp⟩ := hq
  cases rx
  cases ry
  obtain ⟨m1, J, _⟩ := ins_get I2.hok hp
  obtain ⟨m2, J', _⟩ := ins_get I2.hok hq'
  obtain ⟨_, J, _⟩ := J.look
  obtain ⟨_, J', _⟩ := J'.look
  obtain ⟨m, Fm⟩ := I2.fr
  have body : wpAny (model X.prog X.w) X.A (call (.ref f) [.ref p, .ref q]) (PySem.W.CmpBack (EP X pins σ Q)) X.xe s := wpAny_mono (run_fnS (us := [.ref p, .ref q]) (vs := [.ref p, .ref q]) F hr hb (hx σ) I2 (.cons rfl (.cons rfl .nil)) hsp) (fun z s' hz => by
    obtain ⟨zv, H', I', rz, g⟩ := hz
    exact SlX.cmpback rz ⟨zv, H', I', rz, g⟩) fun _ _ e => e
  by_cases e : C = D
  · subst e
    exact PySem.W.binop_K Fm I2.ok.mod.kin J J'.type (O.sf C sC) (O.at_ C sC) O.fn body
  · exact binO Fm I2.ok.mod.kin J J'.type e (O.sf C sC) (O.sf D sD) (O.at_ C sC) O.fn (O.rt C sC) (.inl rfl) (O.at_ D sD) (O.rt D sD) (.inl rfl) (O.sub C D sC sD e) body
theorem intS (O : OpI X.K S op f) (F : FnOk X.prog X.w X.K X.mg X.base CX n f fd ps sp) (hb : Binds X.K fd ps []) (hx : ∀ σ, PassesAt CX X σ (E σ)) (hr : Room n X.A) (ha : PE X a ta) (hb2 : PE X b tb) : PE X (.BinOp a op b pos) (tOpS (rIntS S sp E) ta tb) := by
  refine ⟨fun pins s0 σ H Q I h => wpAny_BinOp (binT ha hb2 I h fun v u s x y H2 I2 rx ry hq => ?_)⟩
  obtain ⟨p, C, dx, fs, i, rfl, rfl, hp, sC, hsp⟩ := hq
  cases rx
  obtain ⟨t, rfl⟩ := (show ∃ t, u = Value.int i t from ry)
  obtain ⟨_, J, _⟩ := ins_get I2.hok hp
  obtain ⟨_, J, _⟩ := J.look
  obtain ⟨m, Fm⟩ := I2.fr
  obtain ⟨fo, h1⟩ := O.i1
  obtain ⟨ro, h2⟩ := O.i2
  refine PySem.W.ksp_binT (T := "int") Fm I2.ok.mod.kin J rfl (O.sf C sC) (O.at_ C sC) O.fn (O.rt C sC) (.inl rfl) h1 h2 (O.sub C sC) (wpAny_mono (run_fnS (us := [.ref p, .int i t]) (vs := [.ref p, .int i]) F hr hb (hx σ) I2 (.cons rfl (.cons ⟨t, rfl⟩ .nil)) hsp) (fun z s' hz => ?_) fun _ _ e => e)
  obtain ⟨zv, H', I', rz, g⟩ := hz
  exact SlX.cmpback rz ⟨zv, H', I', rz, g⟩
end
section
variable {X : Cx} {k : Nat} {CX : CXT} {f C : Addr} {fd : FuncData} {ps : List Str} {sp : Sp} {E : St → XK} {S : Addr → Prop} {o e : Expr} {es : List Expr} {m x : Str} {ta : TE} {t : TA} {apos pos p : Pos}
def tMetFS (S : Addr → Prop) (m : Str) (sp : Sp) (E : St → XK) (ta : TE) (t : TA) : TE := fun σ H Q => tMethF S m sp (E σ) ta t σ H Q
theorem metFS {pl : Sem Bool} (he : PE X o ta) (M : MethF X.K S m f) (F : FnOk X.prog X.w X.K X.mg X.base CX k f fd ps sp) (hr : Room k X.A) (hb : Binds X.K fd ps []) (hx : ∀ σ, PassesAt CX X σ (E σ)) (ha : PA X (e :: es) t)
    (hst : starEach (e :: es) X.env = (false, eval e X.env) :: starEach es X.env := by rfl) (hpl : (backTo pos (starEach es X.env)).any (·.1) = false := by rfl)
    (ht : eval (.Call (.Attribute o m apos) (e :: es) [] pos) X.env = (do
      let ov ← eval o X.env
      standAt apos.atName
      let (f, first) ← holding [ov] (getMethod ov m pl)
      callWith pos f first (backTo pos (starEach (e :: es) X.env)) (backToKw pos (keywordEach [] X.env))) := by rfl) :
    PE X (.Call (.Attribute o m apos) (e :: es) [] pos) (tMetFS S m sp E ta t) := by
  refine ⟨fun pins s σ H Q I h => PySem.W.methodCall_KW (pl := pl) (thn (he.run pins s σ H _ I h) fun u s1 ⟨y, H1, I1, rx, a, D, dx, fs, ex, ea, sC, l, q⟩ => ?_) ht⟩
  subst ex
  obtain rfl : u = Value.ref a := rx
  obtain ⟨c, at_⟩ := M.at_ D sC
  have hm : Meth X.K D m f := ⟨at_, M.fn, M.kp⟩
  refine getmeth_ok I1 ea c hm l (PySem.W.callWith_K (first := [.ref a]) (h₀ := X.base) I.ok.mod.kin hm.kp (thn (ha.run pos pins s1 σ H1 _ I1 q) fun us s2 ⟨vs, H2, I2, r, q2⟩ => ⟨I2.kIn, ?_⟩) hst hpl)
  exact run_fnS (us := .ref a :: us) (vs := .ref a :: vs) F hr hb (hx σ) I2 (.cons rfl r) q2
/-- C(..) at the slots of the place -/
theorem makAt {pins : List (Addr × Obj)} {σ : St} {H : Hp} {s : Shared} {Q : VK} {us : List Value} {vs : List V} (M : Mk X.K C f) (F : FnOk X.prog X.w X.K X.mg X.base CX k f fd ps sp) (hr : Room (k + 1) X.A) (hb : Binds X.K fd ps []) (hx : PassesAt CX X σ (E σ)) (I : Inv X pins σ H s) (r : Vals vs us)
    (h : ∀ y dx, H y = none → H dx = none → dx ≠ y → sp (.ref y :: vs) (upd (upd H dx (.own y)) y (.ins C dx [])) (fun v H2 => v = .non ∧ Q (.ref y) H2) (E σ)) : wpAny (model X.prog X.w) X.A (call (.ref C) us) (EP X pins σ Q) X.xe s := by
  have J := Inv.made (C := C) I
  have w := h (s.heap.objs.size + 1) s.heap.objs.size (I.hok.fresh (by omega)) (I.hok.fresh (Nat.le_refl s.heap.objs.size)) (Nat.ne_of_lt (Nat.lt_succ_self _))
  have rr : Vals (V.ref (s.heap.objs.size + 1) :: vs) (Value.ref (s.heap.objs.size + 1) :: us) := .cons rfl r
  have bd := hb _ (Value.ref (s.heap.objs.size + 1) :: us) J.kIn (by rw [List.append_nil, ← rr.length]; exact F.len _ _ _ _ w)
  rw [List.append_nil] at bd
  have run := F.run _ X.stack _ _ ⟨Value.ref (s.heap.objs.size + 1) :: us, []⟩ _ _ _ (E σ) (hr.make C us []) (J.env0.make C us []) bd rr w
  refine wpAny_call (make_map (f := f) I.kIn M.makes M.init (beq_iff_eq.mp M.fn) (codeAny_mono run fun g s2 hg => ?_))
  rcases g with e | fl
  · exact hx pins _ _ e s2 J hg
  · cases fl with
    | ret u =>
      obtain ⟨v, H3, I3, rv, ev, q3⟩ := J.after hg
      subst ev
      exact ⟨rv, V.ref (s.heap.objs.size + 1), H3, I3, rfl, q3⟩
    | _ => exact hg.elim
def tMakS (C : Addr) (sp : Sp) (E : St → XK) (t : TA) : TE := fun σ H Q => t σ H fun vs H1 => ∀ y dx, H1 y = none → H1 dx = none → dx ≠ y →
  sp (.ref y :: vs) (upd (upd H1 dx (.own y)) y (.ins C dx [])) (fun v H2 => v = .non ∧ Q (.ref y) H2) (E σ)
theorem makS (M : Mk X.K C f) (F : FnOk X.prog X.w X.K X.mg X.base CX k f fd ps sp) (hr : Room (k + 1) X.A) (hg : Gl X x) (hm : X.mg x = some (.ref C)) (hb : Binds X.K fd ps []) (hx : ∀ σ, PassesAt CX X σ (E σ))
    (ha : PA X (e :: es) t) (hdb : (x == ("__debug__" : Str)) = false := by decide) (he : starEach (e :: es) X.env = (false, eval e X.env) :: starEach es X.env := by rfl) (hpl : (backTo pos (starEach es X.env)).any (·.1) = false := by rfl) :
    PE X (.Call (.Name x p) (e :: es) [] pos) (tMakS C sp E t) := by
  refine ⟨fun pins s σ H Q I h => wpAny_Call_Name_kw (ld_glob I hg hm (PySem.W.callWith_K (h₀ := X.base) I.ok.mod.kin M.kp (thn (ha.run pos pins s σ H _ I h) fun us s1 ⟨vs, H1, I1, r, q⟩ => ⟨I1.kIn, ?_⟩) he hpl) hdb)⟩
  exact makAt M F hr hb (hx σ) I1 r q
end
end L2
namespace Ash
open PySem PySem.Spec PyProof.Rows L2
section
variable {X : Cx} {CX : CXT} {k : Nat} {x : Str} {ps : List Str} {sp : Sp} {E : L2.St → XK} {e : Expr} {es : List Expr} {t : TA} {p pos : Pos}
theorem pe_makS {C : Addr} (G : Mak X.prog X.w X.K X.mg X.base CX x C k ps sp) (hr : Room (k + 1) X.A) (hx : ∀ σ, PassesAt CX X σ (E σ)) (ha : PA X (e :: es) t) (hg : Gl X x := by rfl)
    (hdb : (x == ("__debug__" : Str)) = false := by decide) (he : starEach (e :: es) X.env = (false, eval e X.env) :: starEach es X.env := by rfl) (hpl : (backTo pos (starEach es X.env)).any (·.1) = false := by rfl) :
    PE X (.Call (.Name x p) (e :: es) [] pos) (tMakS C sp E t) := by
  obtain ⟨f, fd, M, hm, hb, F⟩ := G.ex
  exact makS M F hr hg hm hb hx ha hdb he hpl
end
end Ash

set_option Elab.async false
set_option linter.all false
set_option maxRecDepth 100000
set_option maxHeartbeats 4000000
set_option pp.maxSteps 1500
namespace Ash
open PySem PySem.Spec PyProof.Rows L2
open C8 (pss_cut)
/-! ### a step of the law -/
def WEn (n : Nat) (W : WX) : XK := fun cls d H => ∀ σ : L2.St, σ.length = n → W cls d σ H
theorem passN {X : Cx} {W : WX} {n : Nat} (hn : X.N.length = n) (tk : Takes X W) : Passes (L2.CX X.prog X.w) X (WEn n W) := fun _ σ _ _ e s' I c => tk e s' (XE.of_call I (fun cls d H' h => h σ (I.len.trans hn)) c)
theorem passF {X : Cx} : Passes (L2.CX X.prog X.w) X (fun _ _ _ => False) := fun _ _ _ _ _ _ _ c => by
  obtain ⟨a, B, H', cls, d, _, _, _, _, _, _, _, hE⟩ := c
  exact hE.elim
theorem nl_pl {H H' : Hp} {p s : Addr} (P0 : PoolAt H p s) (P : Pl H H' p s) : NL H H' := fun c o h n => by
  obtain ⟨ns, i, c', k, m, hp, _⟩ := P0
  exact P.keep h fun e => by rw [e, hp] at h; exact n _ (Option.some.inj h).symm
theorem plus_zero (t : Tm) : t.plus 0 = t := if_pos rfl
theorem plus_sh {m a : Int} {u : Tm} (a0 : ¬ a = 0) : (Tm.shift m u).plus a = if m + a = 0 then u else .shift (m + a) u := by
  show (if a = 0 then _ else _) = _
  rw [if_neg a0]
theorem plus_plus {t : Tm} {a b : Int} (h : t.Nf1) : (t.plus a).plus b = t.plus (a + b) := by
  by_cases a0 : a = 0
  · subst a0
    rw [plus_zero, Int.zero_add]
  by_cases b0 : b = 0
  · subst b0
    rw [plus_zero, Int.add_zero]
  cases hs : t.isShift with
  | false =>
    rw [plus_no hs a0, plus_sh b0]
    by_cases z : a + b = 0
    · rw [if_pos z, z, plus_zero]
    · rw [if_neg z, plus_no hs z]
  | true =>
    cases t with
    | shift m u =>
      obtain ⟨m0, us⟩ := h m u rfl
      rw [plus_sh a0]
      by_cases z1 : m + a = 0
      · rw [if_pos z1, plus_no us b0]
        by_cases z2 : a + b = 0
        · rw [z2, plus_zero, show b = m by omega]
        · rw [plus_sh z2, if_neg (by omega), show m + (a + b) = b by omega]
      · rw [if_neg z1, plus_sh b0]
        by_cases z2 : a + b = 0
        · rw [z2, plus_zero, if_neg (by omega), show m + a + b = m by omega]
        · rw [plus_sh z2, show m + (a + b) = m + a + b by omega]
    | _ => cases hs
theorem fit_plus {t : Tm} {a : Int} (f : t.Fit) (h1 : t.dep ≤ 11) (h2 : t.par ≤ 39) : (t.plus a).Fit := by
  by_cases a0 : a = 0
  · subst a0
    exact f
  · cases hs : t.isShift with
    | false =>
      rw [plus_no hs a0]
      exact ⟨by show 1 + t.dep ≤ 12; omega, by show 1 + t.par ≤ 40; omega, by show 0 + t.lok ≤ 12; have := f.2.2; omega⟩
    | true =>
      cases t with
      | shift m u =>
        rw [plus_sh a0]
        have e1 : (Tm.shift m u).dep = 1 + u.dep := rfl
        have e2 : (Tm.shift m u).par = 1 + u.par := rfl
        have e3 : (Tm.shift m u).lok = 0 + u.lok := rfl
        have e4 := f.2.2
        split
        · exact ⟨by omega, by omega, by omega⟩
        · exact ⟨by show 1 + u.dep ≤ 12; omega, by show 1 + u.par ≤ 40; omega, by show 0 + u.lok ≤ 12; omega⟩
      | _ => cases hs
theorem dep_plus {t : Tm} {a : Int} : (t.plus a).dep ≤ 1 + t.dep := by
  by_cases a0 : a = 0
  · subst a0
    rw [plus_zero]
    omega
  · cases hs : t.isShift with
    | false => rw [plus_no hs a0]; exact Int.le_refl _
    | true =>
      cases t with
      | shift m u =>
        rw [plus_sh a0]
        have e1 : (Tm.shift m u).dep = 1 + u.dep := rfl
        split
        · omega
        · show 1 + u.dep ≤ _; omega
      | _ => cases hs
theorem nms_plus {t : Tm} {a : Int} (h : t.NmS) : (t.plus a).NmS := by
  by_cases a0 : a = 0
  · subst a0
    exact h
  · cases hs : t.isShift with
    | false => rw [plus_no hs a0]; exact h
    | true =>
      cases t with
      | shift m u =>
        rw [plus_sh a0]
        split
        · exact h
        · exact h
      | _ => cases hs
/-- a term beside its model -/
structure Gd (t : Tm) : Prop where
  fit : t.Fit
  nf : t.Nf1
  nm : t.NmS
def GrAt (C : TC) (H : Hp) (g : Addr) (t : Tm) : Prop := ∃ a e, H g = some (.tup [.ref a, .ref e]) ∧ TmAt C H a t ∧ MdAt H e t
theorem GrAt.nl {C : TC} {H H' : Hp} {g : Addr} {t : Tm} (h : GrAt C H g t) (n : NL H H') : GrAt C H' g t := by
  obtain ⟨a, e, h1, h2, h3⟩ := h
  exact ⟨a, e, n _ _ h1 (fun _ z => nomatch z), h2.nl n, h3.tk fun t xs q => n _ _ q (fun _ z => nomatch z)⟩
theorem MdAt.nl {H H' : Hp} {t : Tm} {a : Addr} (h : MdAt H a t) (n : NL H H') : MdAt H' a t := h.tk fun t xs q => n _ _ q (fun _ z => nomatch z)
theorem iteP {P Q : Prop} {b : Bool} (h : b = true) (p : P) : if b = true then P else Q := by
  rw [if_pos h]
  exact p
theorem iteN {P Q : Prop} {b : Bool} (h : b = false) (q : Q) : if b = true then P else Q := by
  rw [if_neg (by rw [h]; exact Bool.false_ne_true)]
  exact q
/-- what a step makes -/
def Kd (k : Int) (x : Option V) (z : Str) (t o t' : Tm) : Prop := (k = 0 ∧ ∃ n, x = some (.int n) ∧ t' = t.plus n) ∨ (k = 1 ∧ t' = .last z t) ∨ (k = 2 ∧ t' = .next z t) ∨ (k = 3 ∧ t' = .either t o) ∨ (k = 4 ∧ t' = .later t o) ∨ (k = 5 ∧ t' = .earlier t o) ∨ (k = 6 ∧ t' = t)
theorem kd_gd {k : Int} {x : Option V} {z : Str} {t o t' : Tm} (h : Kd k x z t o t') (gT : Gd t) (gO : Gd o) (hz : IsNm z) : t'.Nf1 ∧ t'.NmS ∧ t'.dep ≤ 13 := by
  have m := Tm.mx t.dep o.dep
  have d1 := gT.fit.1
  have d2 := gO.fit.1
  have d3 : Tm.mx t.dep o.dep ≤ 12 := by unfold Tm.mx; split <;> omega
  rcases h with ⟨_, n, _, rfl⟩ | ⟨_, rfl⟩ | ⟨_, rfl⟩ | ⟨_, rfl⟩ | ⟨_, rfl⟩ | ⟨_, rfl⟩ | ⟨_, rfl⟩
  · exact ⟨nf1_plus gT.nf, nms_plus gT.nm, by have := dep_plus (t := t) (a := n); omega⟩
  · exact ⟨nf1_of rfl, ⟨hz, gT.nm⟩, by show 1 + t.dep ≤ 13; omega⟩
  · exact ⟨nf1_of rfl, ⟨hz, gT.nm⟩, by show 1 + t.dep ≤ 13; omega⟩
  · exact ⟨nf1_of rfl, ⟨gT.nm, gO.nm⟩, by show 1 + Tm.mx t.dep o.dep ≤ 13; omega⟩
  · exact ⟨nf1_of rfl, ⟨gT.nm, gO.nm⟩, by show 1 + Tm.mx t.dep o.dep ≤ 13; omega⟩
  · exact ⟨nf1_of rfl, ⟨gT.nm, gO.nm⟩, by show 1 + Tm.mx t.dep o.dep ≤ 13; omega⟩
  · exact ⟨gT.nf, gT.nm, by omega⟩
theorem kd_fin {k : Int} (h0 : 0 ≤ k) (h7 : k < 7) : k = 0 ∨ k = 1 ∨ k = 2 ∨ k = 3 ∨ k = 4 ∨ k = 5 ∨ k = 6 := by omega
theorem vi_ne {i j : Int} (h : i ≠ j) : decide (V.int i = V.int j) = false := decide_eq_false fun z => h (V.int.inj z)
theorem vi_eq {i : Int} : decide (V.int i = V.int i) = true := decide_eq_true rfl
def spLStep (C : TC) : Sp := fun vs H Q _ => ∃ (p s l g m : Addr) (names : List Str) (t u : Tm), vs = [.ref p, .ref l, .ref g, .ref m] ∧ PoolAt H p s ∧ l ≠ p ∧ H l = some (.lst (names.map V.str)) ∧ 1 ≤ names.length ∧ names.length ≤ 25 ∧ (∀ z ∈ names, IsNm z) ∧ GrAt C H g t ∧ GrAt C H m u ∧ Gd t ∧ Gd u ∧
  ∀ (q : Addr) us H', H' q = some (.tup us) → (us = [.str "refused", .bl true] ∨ ∃ g' t', us = [.str "made", .bl true, .ref g'] ∧ GrAt C H' g' t' ∧ Gd t') → Pl H H' p s → Q (.ref q) H'
section
variable {P : Program} {w : World} {K : PySem.W.Frag} {mg : Str → Option Value} {base : Heap} {C : TC} {A0 : AC} {CT : Addr}
structure OpX (P : Program) (w : World) (K : PySem.W.Frag) (mg : Str → Option Value) (base : Heap) (C : TC) (CT : Addr) : Prop where
  add : ∃ f fd, OpI K C.Is .Add f ∧ FnOk P w K mg base (L2.CX P w) 5 f fd ["self", "other"] (spShiftX C CT) ∧ Binds K fd ["self", "other"] []
  or_ : ∃ f fd, OpF K C.Is .BitOr f ∧ FnOk P w K mg base (L2.CX P w) 4 f fd ["self", "other"] (spPairX C CT Tm.either) ∧ Binds K fd ["self", "other"] []
  later : ∃ f fd, MethF K C.Is "later" f ∧ FnOk P w K mg base (L2.CX P w) 4 f fd ["self", "other"] (spPairX C CT Tm.later) ∧ Binds K fd ["self", "other"] []
  earlier : ∃ f fd, MethF K C.Is "earlier" f ∧ FnOk P w K mg base (L2.CX P w) 4 f fd ["self", "other"] (spPairX C CT Tm.earlier) ∧ Binds K fd ["self", "other"] []
structure G4m (P : Program) (w : World) (K : PySem.W.Frag) (mg : Str → Option Value) (base : Heap) (C : TC) (CT : Addr) : Prop where
  law_draw : CDraw P w K mg base
  law_moment : Cal P w K mg base CX0 "_law_moment" 2 ["pool"] spMoment
  joined : Cal P w K mg base CX0 "_law_joined" 1 ["model", "amount"] spJoined
  sizes : Cal P w K mg base CX0 "_law_sizes" 15 ["model"] (spMSizes 13)
  Last : Mak P w K mg base (L2.CX P w) "Last" C.last 3 ["self", "stream", "term"] (spInitX C C.last CT Tm.last)
  Next : Mak P w K mg base (L2.CX P w) "Next" C.next 3 ["self", "stream", "term"] (spInitX C C.next CT Tm.next)
abbrev s_l_step : Stmt := topS 49
theorem sc_l_step : FnScope ["pool", "streams", "grown", "smaller", "kind", "term", "model", "stream", "other", "amount", "sizes_v", "due"] ["pool", "streams", "grown", "smaller"] (defScope s_l_step) := ⟨rfl, rfl, rfl, by decide +kernel, rfl, by decide +kernel, by decide +kernel⟩
theorem ok_lstep {f : Addr} {fd : FuncData} (F : Fun K "_law_step" "_law_step" s_l_step f fd) (B : Blt mg) (T : TF K mg C) (M : TMy K mg CT) (O : OpX P w K mg base C CT) (G : G4m P w K mg base C CT) : FnOk P w K mg base CX0 16 f fd ["pool", "streams", "grown", "smaller"] (spLStep C) := by
  have c_TooMany := M.g
  obtain ⟨fA, fdA, OA, FA, bA⟩ := O.add
  obtain ⟨fO, fdO, OO, FO, bO⟩ := O.or_
  obtain ⟨fL, fdL, ML, FL, bL⟩ := O.later
  obtain ⟨fE, fdE, ME, FE, bE⟩ := O.earlier
  refine F.ok sc_l_step (fun vs H Q E h => ?_) (fun cdv A outer s H vs Q E hr h => ?_)
  · obtain ⟨p, s0, l, g, m, names, t, u, rfl, _⟩ := h
    rfl
  · obtain ⟨p, s0, l, g, m, names, t, u, rfl, hP, hlp, hl, n1, n25, hnm, hG, hM, gT, gU, q⟩ := h
    refine ⟨_, (pss_cons (ps_set (i := 4) sc_l_step.nd rfl (Or.inl rfl) (pe_cal G.law_draw (hr.mono (by decide)) pass0 (pa_cons (pv 0) (pa_cons pe_int pa_nil))))
    (pss_cons (ps_asg (pv 2) (pg_tup (by rfl) (pgs_cons (pg_name (i := 5) sc_l_step.nd rfl (Or.inl rfl)) (pgs_cons (pg_name (i := 6) sc_l_step.nd rfl (Or.inl rfl)) pgs_nil))))
    (pss_cons (ps_set (i := 7) sc_l_step.nd rfl (Or.inl rfl) (pe_ix ix_list (pv 1) (pe_cal G.law_draw (hr.mono (by decide)) pass0 (pa_cons (pv 0) (pa_cons (pe_callB call_len (by rfl) B.len (by decide +kernel) (pa_cons (pv 1) pa_nil)) pa_nil))) (fun _ _ => rfl)))
    (pss_cons (ps_set (i := 8) sc_l_step.nd rfl (Or.inl rfl) (pv 2))
    (pss_cut (ps_if (pt_cmpR op_eq (pe_cal G.law_draw (hr.mono (by decide)) pass0 (pa_cons (pv 0) (pa_cons pe_int pa_nil))) pe_int (nomark _))
      (pss_one (ps_set (i := 8) sc_l_step.nd rfl (Or.inl rfl) (pv 3)))
      pss_nil)
    (pss_cut (ps_if (pt_cmpR op_eq (pv 4) pe_int (nomark _))
      (pss_cons (ps_set (i := 9) sc_l_step.nd rfl (Or.inl rfl) (pe_cal G.law_moment (hr.mono (by decide)) pass0 (pa_cons (pv 0) pa_nil)))
      (pss_one (ps_set (i := 6) sc_l_step.nd rfl (Or.inl rfl) (pe_cal G.joined (hr.mono (by decide)) pass0 (pa_cons (pv 6) (pa_cons (pv 9) pa_nil))))))
      (pss_one (ps_if (pt_cmpR op_lt (pv 4) pe_int (nomark _))
        (pss_one (ps_set (i := 6) sc_l_step.nd rfl (Or.inl rfl) (pe_tup (pa_cons (pe_ix ix_list (pe_lst (pa_cons pe_str (pa_cons pe_str pa_nil))) (pe_op op_sub (pv 4) pe_int) (fun _ _ => rfl)) (pa_cons (pv 7) (pa_cons (pv 6) pa_nil))))))
        (pss_one (ps_if (pt_cmpR op_lt (pv 4) pe_int (nomark _))
          (pss_one (ps_set (i := 6) sc_l_step.nd rfl (Or.inl rfl) (pe_tup (pa_cons (pe_ix ix_list (pe_lst (pa_cons pe_str (pa_cons pe_str (pa_cons pe_str pa_nil)))) (pe_op op_sub (pv 4) pe_int) (fun _ _ => rfl)) (pa_cons (pv 6) (pa_cons (pe_ix ix_tup (pv 8) pe_int (fun _ _ => rfl)) pa_nil))))))
          pss_nil)))))
    (pss_cons (ps_set (i := 10) sc_l_step.nd rfl (Or.inl rfl) (pe_cal G.sizes (hr.mono (by decide)) pass0 (pa_cons (pv 6) pa_nil)))
    (pss_cut (ps_set (i := 11) sc_l_step.nd rfl (Or.inl rfl) (pe_or (pe_cmpR op_gt (pe_ix ix_list (pv 10) pe_int (fun _ _ => rfl)) pe_int (nomark _)) (pe_or (pe_cmpR op_gt (pe_ix ix_list (pv 10) pe_int (fun _ _ => rfl)) pe_int (nomark _)) (pe_one (pe_cmpR op_gt (pe_ix ix_list (pv 10) pe_int (fun _ _ => rfl)) pe_int (nomark _))))))
    (pss_cut (ps_try_cls (tb := fun W => _) (l := [(.ref CT, none, fun a cls d => tRet (tTup (tCons (tC (.str "refused")) (tCons (tVar 11) tNil))))]) (W0 := fun _ _ _ _ => False) rfl rfl sc_l_step.nd takes0 (fun W pn xe tk _ =>
      (pss_one (ps_if (pt_cmpR op_eq (pv 4) pe_int (nomark _))
        (pss_one (ps_set (i := 5) sc_l_step.nd rfl (Or.inl rfl) (intS OA FA bA (fun σ => passAt tk σ) (hr.mono (by decide)) (pv 5) (pv 9))))
        (pss_one (ps_if (pt_cmpR op_eq (pv 4) pe_int (nomark _))
          (pss_one (ps_set (i := 5) sc_l_step.nd rfl (Or.inl rfl) (pe_makS G.Last (hr.mono (by decide)) (fun σ => passAt tk σ) (pa_cons (pv 7) (pa_cons (pv 5) pa_nil)))))
          (pss_one (ps_if (pt_cmpR op_eq (pv 4) pe_int (nomark _))
            (pss_one (ps_set (i := 5) sc_l_step.nd rfl (Or.inl rfl) (pe_makS G.Next (hr.mono (by decide)) (fun σ => passAt tk σ) (pa_cons (pv 7) (pa_cons (pv 5) pa_nil)))))
            (pss_one (ps_if (pt_cmpR op_eq (pv 4) pe_int (nomark _))
              (pss_one (ps_set (i := 5) sc_l_step.nd rfl (Or.inl rfl) (famS OO FO bO (fun σ => passAt tk σ) (hr.mono (by decide)) (pv 5) (pe_ix (show IxR _ (rIxT K) from ix_tup) (pv 8) pe_int (fun _ _ => rfl)))))
              (pss_one (ps_if (pt_cmpR op_eq (pv 4) pe_int (nomark _))
                (pss_one (ps_set (i := 5) sc_l_step.nd rfl (Or.inl rfl) (metFS (pv 5) ML FL (hr.mono (by decide)) bL (fun σ => passAt tk σ) (pa_cons (pe_ix (show IxR _ (rIxT K) from ix_tup) (pv 8) pe_int (fun _ _ => rfl)) pa_nil))))
                (pss_one (ps_if (pt_cmpR op_eq (pv 4) pe_int (nomark _))
                  (pss_one (ps_set (i := 5) sc_l_step.nd rfl (Or.inl rfl) (metFS (pv 5) ME FE (hr.mono (by decide)) bE (fun σ => passAt tk σ) (pa_cons (pe_ix (show IxR _ (rIxT K) from ix_tup) (pv 8) pe_int (fun _ _ => rfl)) pa_nil))))
                  pss_nil)))))))))))))
      (.cons ⟨rfl, by decide, .inl c_TooMany⟩ trivial (fun a oe cls d pn hz hf => (pss_one (ps_ret (pe_tup (pa_cons pe_str (pa_cons (pv 11) pa_nil)))))) .nil))
    (pss_one (ps_ret (pe_tup (pa_cons pe_str (pa_cons (pe_not (pv 11)) (pa_cons (pe_tup (pa_cons (pv 5) (pa_cons (pv 6) pa_nil))) pa_nil))))))))))))))), ?_⟩
    obtain ⟨a, e, hg, ha, he⟩ := id hG
    refine ⟨_, rfl, p, s0, 7, rfl, hP, (by decide), (by decide), fun kd H1 k0 k7 P1 => ?_⟩
    have N1 := nl_pl hP P1
    refine ⟨_, rfl, g, _, rfl, SqT.of (N1 _ _ hg (fun _ z => nomatch z)), rfl, _, _, rfl, _, _, rfl, rfl, ?_⟩
    have hl1 := P1.keep hl hlp
    refine ⟨_, rfl, _, rfl, _, rfl, _, _, rfl, .inl ⟨_, SqL.of hl1, rfl⟩, p, s0, _, rfl, P1.now, (by rw [List.length_map]; omega), Int.lt_of_le_of_lt (show ((names.map V.str).length : Int) ≤ 25 by rw [List.length_map]; omega) (by decide), fun j H2 j0 j1 P2 => ?_⟩
    rw [List.length_map] at j1
    obtain ⟨j, rfl⟩ : ∃ i : Nat, j = (i : Int) := ⟨j.toNat, by omega⟩
    have hj : j < names.length := by omega
    have hz : names[j] ∈ names := List.getElem_mem hj
    generalize hzz : names[j] = z at hz
    have hz := hnm z hz
    refine ⟨_, _, _, .str z, rfl, rfl, SqL.of (P2.keep hl1 hlp), atI_nat (by rw [List.getElem?_map, List.getElem?_eq_getElem hj, hzz]; rfl), ?_⟩
    have P12 := P1.trans P2
    clear hzz hj j1 j0 hl1 N1
    refine ⟨_, rfl, fun σ H4 => (∃ og o, σ = [some (.ref p), some (.ref l), some (.ref g), some (.ref m), some (.int kd), some (.ref a), some (.ref e), some (.str z), some (.ref og), none, none, none] ∧ GrAt C H4 og o ∧ Gd o) ∧ Pl H H4 p s0, ?_, ?_⟩
    · refine ⟨_, rfl, p, s0, 2, rfl, P12.now, (by decide), (by decide), fun x H4 x0 x2 P4 => ⟨rfl, _, rfl, ?_⟩⟩
      have P14 := P12.trans P4
      refine ite2 (fun _ => ?_) (fun _ => ?_)
      · exact ⟨_, rfl, ⟨m, u, rfl, hM.nl (nl_pl hP P14), gU⟩, P14⟩
      · exact ⟨⟨g, t, rfl, hG.nl (nl_pl hP P14), gT⟩, P14⟩
    clear P12 P2 P1
    rintro σ H4 ⟨⟨og, o, rfl, hO, gO⟩, P4⟩
    obtain ⟨ao, eo, hog, hao, heo⟩ := id hO
    have N4 := nl_pl hP P4
    have he4 := he.nl N4
    refine ⟨fun σ H5 => ∃ e' t' x9, σ = [some (.ref p), some (.ref l), some (.ref g), some (.ref m), some (.int kd), some (.ref a), some (.ref e'), some (.str z), some (.ref og), x9, none, none] ∧ MdAt H5 e' t' ∧ Kd kd x9 z t o t' ∧ Pl H H5 p s0 ∧ GrAt C H5 og o, ?_, ?_⟩
    · rcases kd_fin k0 k7 with rfl | rfl | rfl | rfl | rfl | rfl | rfl
      · refine ⟨_, rfl, rfl, _, rfl, iteP vi_eq ⟨_, rfl, p, s0, rfl, P4.now, fun n H5 P5 => ⟨_, rfl, _, rfl, e, t, n, rfl, he4.nl (nl_pl P4.now P5), gT.nf, fun e' H6 hM6 s6 => ⟨e', _, _, rfl, hM6, .inl ⟨rfl, n, rfl, rfl⟩, (P4.trans P5).same s6, (hO.nl (nl_pl P4.now P5)).nl (nl_same s6)⟩⟩⟩⟩
      · refine ⟨_, rfl, rfl, _, rfl, iteN (vi_ne (by decide)) ⟨_, rfl, _, _, rfl, rfl, _, rfl, iteP (by decide) ⟨(by show 2 ≤ sizeLine; decide), fun p1 hp1 => ⟨_, rfl, _, _, rfl, rfl, p1, _, _, .str "last", rfl, rfl, SqL.of upd_same, rfl, _, rfl, _, rfl, (by show 3 ≤ sizeLine; decide), fun q1 hq1 => ?_⟩⟩⟩⟩
        have s5 := (sameAt (o := .lst [.str "last", .str "next"]) (Same.refl _) hp1).trans (sameAt (o := .tup [.str "last", .str z, .ref e]) (Same.refl _) hq1)
        exact ⟨q1, .last z t, none, rfl, ⟨e, upd_same, he4.same s5⟩, .inr (.inl ⟨rfl, rfl⟩), P4.same s5, hO.nl (nl_same s5)⟩
      · refine ⟨_, rfl, rfl, _, rfl, iteN (vi_ne (by decide)) ⟨_, rfl, _, _, rfl, rfl, _, rfl, iteP (by decide) ⟨(by show 2 ≤ sizeLine; decide), fun p1 hp1 => ⟨_, rfl, _, _, rfl, rfl, p1, _, _, .str "next", rfl, rfl, SqL.of upd_same, rfl, _, rfl, _, rfl, (by show 3 ≤ sizeLine; decide), fun q1 hq1 => ?_⟩⟩⟩⟩
        have s5 := (sameAt (o := .lst [.str "last", .str "next"]) (Same.refl _) hp1).trans (sameAt (o := .tup [.str "next", .str z, .ref e]) (Same.refl _) hq1)
        exact ⟨q1, .next z t, none, rfl, ⟨e, upd_same, he4.same s5⟩, .inr (.inr (.inl ⟨rfl, rfl⟩)), P4.same s5, hO.nl (nl_same s5)⟩
      · refine ⟨_, rfl, rfl, _, rfl, iteN (vi_ne (by decide)) ⟨_, rfl, _, _, rfl, rfl, _, rfl, iteN (by decide) ⟨_, rfl, _, _, rfl, rfl, _, rfl, iteP (by decide) ⟨(by show 3 ≤ sizeLine; decide), fun p1 hp1 => ?_⟩⟩⟩⟩
        have t5 := sameAt (o := .lst [.str "either", .str "later", .str "earlier"]) (Same.refl _) hp1
        refine ⟨_, rfl, _, _, rfl, rfl, p1, _, _, .str "either", rfl, rfl, SqL.of upd_same, rfl, _, rfl, _, rfl, _, _, _, _, rfl, rfl, SqT.of (t5 _ _ hog), rfl, (by show 3 ≤ sizeLine; decide), fun q1 hq1 => ?_⟩
        have s5 := t5.trans (sameAt (o := .tup [.str "either", .ref e, .ref eo]) (Same.refl _) hq1)
        exact ⟨q1, .either t o, none, rfl, ⟨e, eo, upd_same, he4.same s5, heo.same s5⟩, .inr (.inr (.inr (.inl ⟨rfl, rfl⟩))), P4.same s5, hO.nl (nl_same s5)⟩
      · refine ⟨_, rfl, rfl, _, rfl, iteN (vi_ne (by decide)) ⟨_, rfl, _, _, rfl, rfl, _, rfl, iteN (by decide) ⟨_, rfl, _, _, rfl, rfl, _, rfl, iteP (by decide) ⟨(by show 3 ≤ sizeLine; decide), fun p1 hp1 => ?_⟩⟩⟩⟩
        have t5 := sameAt (o := .lst [.str "either", .str "later", .str "earlier"]) (Same.refl _) hp1
        refine ⟨_, rfl, _, _, rfl, rfl, p1, _, _, .str "later", rfl, rfl, SqL.of upd_same, rfl, _, rfl, _, rfl, _, _, _, _, rfl, rfl, SqT.of (t5 _ _ hog), rfl, (by show 3 ≤ sizeLine; decide), fun q1 hq1 => ?_⟩
        have s5 := t5.trans (sameAt (o := .tup [.str "later", .ref e, .ref eo]) (Same.refl _) hq1)
        exact ⟨q1, .later t o, none, rfl, ⟨e, eo, upd_same, he4.same s5, heo.same s5⟩, .inr (.inr (.inr (.inr (.inl ⟨rfl, rfl⟩)))), P4.same s5, hO.nl (nl_same s5)⟩
      · refine ⟨_, rfl, rfl, _, rfl, iteN (vi_ne (by decide)) ⟨_, rfl, _, _, rfl, rfl, _, rfl, iteN (by decide) ⟨_, rfl, _, _, rfl, rfl, _, rfl, iteP (by decide) ⟨(by show 3 ≤ sizeLine; decide), fun p1 hp1 => ?_⟩⟩⟩⟩
        have t5 := sameAt (o := .lst [.str "either", .str "later", .str "earlier"]) (Same.refl _) hp1
        refine ⟨_, rfl, _, _, rfl, rfl, p1, _, _, .str "earlier", rfl, rfl, SqL.of upd_same, rfl, _, rfl, _, rfl, _, _, _, _, rfl, rfl, SqT.of (t5 _ _ hog), rfl, (by show 3 ≤ sizeLine; decide), fun q1 hq1 => ?_⟩
        have s5 := t5.trans (sameAt (o := .tup [.str "earlier", .ref e, .ref eo]) (Same.refl _) hq1)
        exact ⟨q1, .earlier t o, none, rfl, ⟨e, eo, upd_same, he4.same s5, heo.same s5⟩, .inr (.inr (.inr (.inr (.inr (.inl ⟨rfl, rfl⟩))))), P4.same s5, hO.nl (nl_same s5)⟩
      · exact ⟨_, rfl, rfl, _, rfl, iteN (vi_ne (by decide)) ⟨_, rfl, _, _, rfl, rfl, _, rfl, iteN (by decide) ⟨_, rfl, _, _, rfl, rfl, _, rfl, iteN (by decide) ⟨e, t, none, rfl, he4, .inr (.inr (.inr (.inr (.inr (.inr ⟨rfl, rfl⟩))))), P4, hO⟩⟩⟩⟩
    clear hog hao heo N4 he4 hO P4
    rintro σ H5 ⟨e', t', x9, rfl, hM5, K5, P5, hO5⟩
    obtain ⟨nf, nm, d13⟩ := kd_gd K5 gT gO hz
    refine ⟨_, rfl, e', t', rfl, hM5, d13, fun sl H6 s6 hn6 hl6 => ?_⟩
    refine ⟨fun σ H7 => (∃ b, σ = [some (.ref p), some (.ref l), some (.ref g), some (.ref m), some (.int kd), some (.ref a), some (.ref e'), some (.str z), some (.ref og), x9, some (.ref sl), some (.bl b)] ∧ (b = true ↔ ¬ t'.Fit)) ∧ Same H5 H7, ?_, ?_⟩
    · refine ⟨_, rfl, _, _, _, _, rfl, rfl, SqL.of hl6, rfl, _, _, rfl, rfl, _, rfl, ite2 (fun c => ?_) (fun c => ?_)⟩
      · exact ⟨⟨true, rfl, fun _ f => by have := f.1; have := of_decide_eq_true c; omega, fun _ => rfl⟩, s6⟩
      have c1 : ¬ 12 < t'.dep := fun z => c (decide_eq_true z)
      refine ⟨_, rfl, _, _, _, _, rfl, rfl, SqL.of hl6, rfl, _, _, rfl, rfl, _, rfl, ite2 (fun c => ?_) (fun c => ?_)⟩
      · exact ⟨⟨true, rfl, fun _ f => by have := f.2.1; have := of_decide_eq_true c; omega, fun _ => rfl⟩, s6⟩
      have c2 : ¬ 40 < t'.par := fun z => c (decide_eq_true z)
      refine ⟨_, rfl, _, _, _, _, rfl, rfl, SqL.of hl6, rfl, _, _, rfl, rfl, ⟨_, rfl, fun c f => by have := f.2.2; have := of_decide_eq_true c; omega, fun f => decide_eq_true ?_⟩, s6⟩
      have f : ¬ (t'.dep ≤ 12 ∧ t'.par ≤ 40 ∧ t'.lok ≤ 12) := f
      omega
    clear hl6 hn6 s6
    rintro σ H7 ⟨⟨b, rfl, hb⟩, s7⟩
    have P7 := P5.same s7
    have hT7 := ha.nl (nl_pl hP P7)
    have hO7 := hO5.nl (nl_same s7)
    have hM7 := hM5.same s7
    obtain ⟨ao, eo, hog, hao, heo⟩ := hO7
    obtain ⟨dx, fs, sp, In⟩ := hT7.in_
    obtain ⟨dy, gs, sq, Io⟩ := hao.in_
    refine ⟨fun σ H8 => (∃ a', σ = [some (.ref p), some (.ref l), some (.ref g), some (.ref m), some (.int kd), some (.ref a'), some (.ref e'), some (.str z), some (.ref og), x9, some (.ref sl), some (.bl b)] ∧ TmAt C H8 a' t') ∧ t'.Fit ∧ Same H7 H8, ?_, ?_⟩
    · rcases K5 with ⟨rfl, n, rfl, rfl⟩ | ⟨rfl, rfl⟩ | ⟨rfl, rfl⟩ | ⟨rfl, rfl⟩ | ⟨rfl, rfl⟩ | ⟨rfl, rfl⟩ | ⟨rfl, rfl⟩
      · refine ⟨_, rfl, rfl, _, rfl, iteP vi_eq ⟨_, rfl, _, rfl, a, _, dx, fs, n, rfl, rfl, In.at_, C.is_of _, a, t, n, rfl, hT7, gT.fit, ?_⟩⟩
        by_cases hF : (t.plus n).Fit
        · exact .inl ⟨hF, fun a' H8 hT8 s8 => ⟨⟨a', rfl, hT8⟩, hF, s8⟩⟩
        · have bt : b = true := hb.mpr hF
          refine .inr ⟨hF, fun H8 s8 => ?_⟩
          subst bt
          refine ⟨true, M.te, fun _ x hx => ?_, fun q => Bool.noConfusion q⟩
          exact ⟨_, rfl, (by show 2 ≤ sizeLine; decide), fun q1 hq1 => q q1 _ _ upd_same (.inl rfl) (P7.same (s8.trans (sameAt (Same.refl _) hq1)))⟩
      · refine ⟨_, rfl, rfl, _, rfl, iteN (vi_ne (by decide)) ⟨_, rfl, rfl, _, rfl, iteP vi_eq ⟨_, rfl, _, rfl, fun y dy2 hy hdy hne => ⟨y, dy2, a, z, t, rfl, upd_same, hz, hT7.same (sameAt (sameAt (Same.refl H7) hdy) hy), gT.fit, ?_⟩⟩⟩⟩
        by_cases hF : (Tm.last z t).Fit
        · exact .inl ⟨hF, fun H8 hT8 hK => ⟨rfl, ⟨y, rfl, hT8⟩, hF, keep_make hK hy hdy⟩⟩
        · have bt : b = true := hb.mpr hF
          refine .inr ⟨hF, fun H8 hK => ?_⟩
          subst bt
          refine ⟨true, M.te, fun _ x hx => ?_, fun q => Bool.noConfusion q⟩
          exact ⟨_, rfl, (by show 2 ≤ sizeLine; decide), fun q1 hq1 => q q1 _ _ upd_same (.inl rfl) (P7.same ((keep_make hK hy hdy).trans (sameAt (Same.refl _) hq1)))⟩
      · refine ⟨_, rfl, rfl, _, rfl, iteN (vi_ne (by decide)) ⟨_, rfl, rfl, _, rfl, iteN (vi_ne (by decide)) ⟨_, rfl, rfl, _, rfl, iteP vi_eq ⟨_, rfl, _, rfl, fun y dy2 hy hdy hne => ⟨y, dy2, a, z, t, rfl, upd_same, hz, hT7.same (sameAt (sameAt (Same.refl H7) hdy) hy), gT.fit, ?_⟩⟩⟩⟩⟩
        by_cases hF : (Tm.next z t).Fit
        · exact .inl ⟨hF, fun H8 hT8 hK => ⟨rfl, ⟨y, rfl, hT8⟩, hF, keep_make hK hy hdy⟩⟩
        · have bt : b = true := hb.mpr hF
          refine .inr ⟨hF, fun H8 hK => ?_⟩
          subst bt
          refine ⟨true, M.te, fun _ x hx => ?_, fun q => Bool.noConfusion q⟩
          exact ⟨_, rfl, (by show 2 ≤ sizeLine; decide), fun q1 hq1 => q q1 _ _ upd_same (.inl rfl) (P7.same ((keep_make hK hy hdy).trans (sameAt (Same.refl _) hq1)))⟩
      · refine ⟨_, rfl, rfl, _, rfl, iteN (vi_ne (by decide)) ⟨_, rfl, rfl, _, rfl, iteN (vi_ne (by decide)) ⟨_, rfl, rfl, _, rfl, iteN (vi_ne (by decide)) ⟨_, rfl, rfl, _, rfl, iteP vi_eq ⟨_, rfl, _, rfl, _, _, _, _, rfl, rfl, SqT.of hog, rfl, a, ao, _, _, dx, dy, fs, gs, rfl, rfl, In.at_, C.is_of _, Io.at_, C.is_of _, a, ao, t, o, rfl, hT7, hao, gT.fit, gO.fit, ?_⟩⟩⟩⟩⟩
        by_cases hF : (Tm.either t o).Fit
        · exact .inl ⟨hF, fun a' H8 hT8 s8 => ⟨⟨a', rfl, hT8⟩, hF, s8⟩⟩
        · have bt : b = true := hb.mpr hF
          refine .inr ⟨hF, fun H8 s8 => ?_⟩
          subst bt
          refine ⟨true, M.te, fun _ x hx => ?_, fun q => Bool.noConfusion q⟩
          exact ⟨_, rfl, (by show 2 ≤ sizeLine; decide), fun q1 hq1 => q q1 _ _ upd_same (.inl rfl) (P7.same (s8.trans (sameAt (Same.refl _) hq1)))⟩
      · refine ⟨_, rfl, rfl, _, rfl, iteN (vi_ne (by decide)) ⟨_, rfl, rfl, _, rfl, iteN (vi_ne (by decide)) ⟨_, rfl, rfl, _, rfl, iteN (vi_ne (by decide)) ⟨_, rfl, rfl, _, rfl, iteN (vi_ne (by decide)) ⟨_, rfl, rfl, _, rfl, iteP vi_eq ⟨_, rfl, a, _, dx, fs, rfl, In.at_, C.is_of _, In.no _ (by decide +kernel) (by decide +kernel), _, rfl, _, _, _, _, rfl, rfl, SqT.of hog, rfl, a, ao, t, o, rfl, hT7, hao, gT.fit, gO.fit, ?_⟩⟩⟩⟩⟩⟩
        by_cases hF : (Tm.later t o).Fit
        · exact .inl ⟨hF, fun a' H8 hT8 s8 => ⟨⟨a', rfl, hT8⟩, hF, s8⟩⟩
        · have bt : b = true := hb.mpr hF
          refine .inr ⟨hF, fun H8 s8 => ?_⟩
          subst bt
          refine ⟨true, M.te, fun _ x hx => ?_, fun q => Bool.noConfusion q⟩
          exact ⟨_, rfl, (by show 2 ≤ sizeLine; decide), fun q1 hq1 => q q1 _ _ upd_same (.inl rfl) (P7.same (s8.trans (sameAt (Same.refl _) hq1)))⟩
      · refine ⟨_, rfl, rfl, _, rfl, iteN (vi_ne (by decide)) ⟨_, rfl, rfl, _, rfl, iteN (vi_ne (by decide)) ⟨_, rfl, rfl, _, rfl, iteN (vi_ne (by decide)) ⟨_, rfl, rfl, _, rfl, iteN (vi_ne (by decide)) ⟨_, rfl, rfl, _, rfl, iteN (vi_ne (by decide)) ⟨_, rfl, rfl, _, rfl, iteP vi_eq ⟨_, rfl, a, _, dx, fs, rfl, In.at_, C.is_of _, In.no _ (by decide +kernel) (by decide +kernel), _, rfl, _, _, _, _, rfl, rfl, SqT.of hog, rfl, a, ao, t, o, rfl, hT7, hao, gT.fit, gO.fit, ?_⟩⟩⟩⟩⟩⟩⟩
        by_cases hF : (Tm.earlier t o).Fit
        · exact .inl ⟨hF, fun a' H8 hT8 s8 => ⟨⟨a', rfl, hT8⟩, hF, s8⟩⟩
        · have bt : b = true := hb.mpr hF
          refine .inr ⟨hF, fun H8 s8 => ?_⟩
          subst bt
          refine ⟨true, M.te, fun _ x hx => ?_, fun q => Bool.noConfusion q⟩
          exact ⟨_, rfl, (by show 2 ≤ sizeLine; decide), fun q1 hq1 => q q1 _ _ upd_same (.inl rfl) (P7.same (s8.trans (sameAt (Same.refl _) hq1)))⟩
      · exact ⟨_, rfl, rfl, _, rfl, iteN (vi_ne (by decide)) ⟨_, rfl, rfl, _, rfl, iteN (vi_ne (by decide)) ⟨_, rfl, rfl, _, rfl, iteN (vi_ne (by decide)) ⟨_, rfl, rfl, _, rfl, iteN (vi_ne (by decide)) ⟨_, rfl, rfl, _, rfl, iteN (vi_ne (by decide)) ⟨_, rfl, rfl, _, rfl, iteN (vi_ne (by decide)) ⟨⟨a, rfl, hT7⟩, gT.fit, Same.refl _⟩⟩⟩⟩⟩⟩⟩
    rintro σ H8 ⟨⟨a', rfl, hT8⟩, hF, s8⟩
    have bf : b = false := by
      cases b with
      | false => rfl
      | true => exact absurd hF (hb.mp rfl)
    subst bf
    refine ⟨_, rfl, _, rfl, _, rfl, _, rfl, (by show 2 ≤ sizeLine; decide), fun g' hg' => ⟨(by show 3 ≤ sizeLine; decide), fun q1 hq1 => ?_⟩⟩
    have s9 := (sameAt (o := .tup [.ref a', .ref e']) (Same.refl H8) hg').trans (sameAt (o := .tup [.str "made", .bl true, .ref g']) (Same.refl _) hq1)
    refine q q1 _ _ upd_same (.inr ⟨g', t', rfl, ⟨a', e', (sameAt (Same.refl _) hq1) _ _ upd_same, hT8.same s9, (hM7.same s8).same s9⟩, ⟨hF, nf, nm⟩⟩) (P7.same (s8.trans s9))
end
end Ash

set_option Elab.async false
set_option linter.all false
set_option maxRecDepth 100000
set_option maxHeartbeats 4000000
set_option pp.maxSteps 1500
namespace Ash
open PySem PySem.Spec PyProof.Rows L2
open C8 (pss_cut)
/-! ### a term is as large as its model -/
theorem dp_ints {K : PySem.W.Frag} {H : Hp} : ∀ is : List Int, DpAll K H (is.map V.int) (is.map PyData.int)
  | [] => .nil
  | i :: r => .cons (.int i) (dp_ints r)
theorem ints_shaped (is : List Int) : SeqAt.shaped (.list (is.map PyData.int)) = true := by
  have q : (is.map PyData.int).all flatD = true := by
    rw [List.all_eq_true]
    intro d hd
    obtain ⟨z, _, rfl⟩ := List.mem_map.mp hd
    rfl
  obtain ⟨h1, h2⟩ := flat_lay q
  unfold SeqAt.shaped
  simp [PyData.canLay0, PyData.depth, h1]
  omega
def spLSized (C : TC) : Sp := fun vs H Q _ => ∃ (a e : Addr) (t : Tm), vs = [.ref a, .ref e] ∧ TmAt C H a t ∧ MdAt H e t ∧ Gd t ∧ ∀ H', Same H H' → Q (.bl true) H'
section
variable {P : Program} {w : World} {K : PySem.W.Frag} {mg : Str → Option Value} {base : Heap} {C : TC} {A0 : AC} {CT : Addr}
structure G5m (P : Program) (w : World) (K : PySem.W.Frag) (mg : Str → Option Value) (base : Heap) (C : TC) : Prop where
  taken : Cal P w K mg base CX0 "_law_taken" 14 ["term"] (spTaken C 12)
  sizes : Cal P w K mg base CX0 "_law_sizes" 15 ["model"] (spMSizes 13)
  mstr : Cal P w K mg base CX0 "_law_streams" 14 ["model"] (spMStrs 12)
  streams : ∃ f fd, MethF K C.Is "streams" f ∧ FnOk P w K mg base CX0 15 f fd ["self"] (spStrs C) ∧ Binds K fd ["self"] []
abbrev s_l_is_sized : Stmt := topS 52
theorem sc_l_is_sized : FnScope ["term", "model", "sizes_v", "told", "size"] ["term", "model"] (defScope s_l_is_sized) := ⟨rfl, rfl, rfl, by decide +kernel, rfl, by decide +kernel, by decide +kernel⟩
theorem ok_lsized {f : Addr} {fd : FuncData} (F : Fun K "_law_is_sized" "_law_is_sized" s_l_is_sized f fd) (B : Blt mg) (T : TF K mg C) (G : G5m P w K mg base C) : FnOk P w K mg base CX0 16 f fd ["term", "model"] (spLSized C) := by
  obtain ⟨fs, fds, MS, FS, bS⟩ := G.streams
  refine F.ok sc_l_is_sized (fun vs H Q E h => ?_) (fun cdv A outer s H vs Q E hr h => ?_)
  · obtain ⟨a, e, t, rfl, _⟩ := h
    rfl
  · obtain ⟨a, e, t, rfl, hT, hM, gT, q⟩ := h
    refine ⟨_, (pss_cons (ps_if (pt_cmpR (op_neD hr.units) (pe_cal G.taken (hr.mono (by decide)) pass0 (pa_cons (pv 0) pa_nil)) (pv 1) (nomark _))
      (pss_one (ps_ret pe_bl))
      pss_nil)
    (pss_cons (ps_set (i := 2) sc_l_is_sized.nd rfl (Or.inl rfl) (pe_cal G.sizes (hr.mono (by decide)) pass0 (pa_cons (pv 1) pa_nil)))
    (pss_cons (ps_set (i := 3) sc_l_is_sized.nd rfl (Or.inl rfl) (pe_lst (pa_cons (pe_fld (pv 0) rfl) (pa_cons (pe_fld (pv 0) rfl) (pa_cons (pe_fld (pv 0) rfl) (pa_cons (pe_fld (pv 0) rfl) pa_nil))))))
    (pss_cons (ps_if (PW.pt (pw_or (pt_not (pt_val (pe_callB (cr_all rfl) (by rfl) B.all (by decide +kernel) (pa_cons (pe_lc (own := [("size", 4)]) (g := gName 4) (tt := tYes) (by rfl) sc_l_is_sized.nd (pi_list (pv 3)) (blkOk_by (own := [("size", 4)]) (N := ["term", "model", "sizes_v", "told", "size"]) (sc := defScope s_l_is_sized) (by decide +kernel)) (fun _ _ _ _ _ => (pg_name (i := 4) sc_l_is_sized.nd rfl (Or.inl rfl))) (fun _ _ _ _ _ => pts_nil) (fun _ _ _ _ _ => (pe_and (pe_callB (show CallR _ (.builtin "isinstance") (rIsi K) from call_isi) (by rfl) B.isinstance (by decide +kernel) (pa_cons (pv 4) (pa_cons (pe_bltn (v := .ty "int") (by rfl) B.int (by decide +kernel) rfl) pa_nil))) (pe_one (pe_not (pe_callB (show CallR _ (.builtin "isinstance") (rIsi K) from call_isi) (by rfl) B.isinstance (by decide +kernel) (pa_cons (pv 4) (pa_cons (pe_bltn (v := .ty "bool") (by rfl) B.bool (by decide +kernel) rfl) pa_nil)))))))) pa_nil)))) (pw_or1 (pt_cmpR (op_neD hr.units) (pv 3) (pv 2) (nomark _)))))
      (pss_one (ps_ret pe_bl))
      pss_nil)
    (pss_one (ps_ret (pe_cmpR (op_eqD hr.units) (pe_methF0 (pv 0) MS FS (hr.mono (by decide)) bS pass0) (pe_callB (cr_sortM rfl) (by rfl) B.sorted (by decide +kernel) (pa_cons (pe_callTy (cr_setL rfl) (by rfl) B.set (by decide +kernel) (pa_cons (pe_cal G.mstr (hr.mono (by decide)) pass0 (pa_cons (pv 1) pa_nil)) pa_nil)) pa_nil)) (nomark _)))))))), ?_⟩
    have du : t.dep ≤ 20 := Int.le_trans gT.fit.1 (by decide)
    refine ⟨_, rfl, a, t, rfl, hT, gT.fit.1, fun e1 H1 hM1 s1 => ⟨_, rfl, t.mdd, t.mdd, mdd_dp hM1, mdd_dp (hM.same s1), mdd_shaped gT.nm du, mdd_shaped gT.nm du, _, rfl, iteN (by rw [mdd_eqv gT.nm du, decide_eq_true rfl]; rfl) ?_⟩⟩
    refine ⟨_, rfl, e, t, rfl, hM.same s1, Int.le_trans gT.fit.1 (by decide), fun sl H2 s2 hn2 hl2 => ?_⟩
    have hT2 := (hT.same s1).same s2
    obtain ⟨dx, fs2, sp, In⟩ := hT2.in_
    have Is := C.is_of t
    refine ⟨_, rfl, a, _, dx, fs2, _, rfl, In.at_, T.cl _ Is, T.no _ Is _ (by decide +kernel), In.depth, _, rfl, a, _, dx, fs2, _, rfl, In.at_, T.cl _ Is, T.no _ Is _ (by decide +kernel), In.parts, _, rfl, a, _, dx, fs2, _, rfl, In.at_, T.cl _ Is, T.no _ Is _ (by decide +kernel), In.looks, _, rfl, a, _, dx, fs2, _, rfl, In.at_, T.cl _ Is, T.no _ Is _ (by decide +kernel), In.choices, (by show 4 ≤ sizeLine; decide), fun tl htl => ?_⟩
    have s3 := sameAt (o := .lst (t.sz.map V.int)) (Same.refl H2) htl
    refine ⟨_, rfl, tl, rfl, ⟨_, SqL.of upd_same⟩, fun D hD => ?_⟩
    refine lc_list (a := tl) (xs := t.sz.map V.int) (fun i H4 => H4 D = some (.lst ((List.replicate i true).map V.bl)) ∧ Same (upd H2 tl (.lst (t.sz.map V.int))) H4) ⟨upd_same, sameAt (Same.refl _) hD⟩ (fun i H4 _ hv => SqL.of (hv.2 _ _ upd_same)) ?_ ?_
    · rintro i v H4 hvi ⟨hD4, s4⟩
      have hil := (List.getElem?_eq_some_iff.mp hvi).1
      have hil : i < 4 := hil
      obtain ⟨n, _, rfl⟩ := List.mem_map.mp (List.mem_of_getElem? hvi)
      refine ⟨rfl, _, rfl, _, _, _, _, true, rfl, ClsV.ty _, .base (.int n), kit_ty (by decide +kernel), _, rfl, iteT ⟨_, rfl, _, _, _, _, false, rfl, ClsV.ty _, .base (.int n), kit_ty (by decide +kernel), _, rfl, _, hD4, (by rw [List.length_map, List.length_replicate]; exact small1000 (by omega)), ?_, sameAt s4 hD⟩⟩
      rw [upd_same, List.replicate_succ', List.map_append]
      rfl
    · rintro H4 ⟨hD4, s4⟩
      refine ⟨D, _, rfl, SqL.of hD4, ?_⟩
      rw [show (List.replicate _ true).all id = true from by rw [List.all_eq_true]; intro x hx; exact List.eq_of_mem_replicate hx]
      have e1 := eqv_self (ints_shaped t.sz)
      refine ⟨_, rfl, iteF ⟨_, rfl, _, rfl, _, _, .lst (SqL.of (s4 _ _ upd_same)) (dp_ints t.sz), .lst (SqL.of (s4 _ _ (s3 _ _ hl2))) (dp_ints t.sz), ints_shaped t.sz, ints_shaped t.sz, _, rfl, iteN (by rw [e1]; rfl) ?_⟩⟩
      have s14 := ((s1.trans s2).trans s3).trans s4
      refine ⟨_, rfl, a, _, dx, fs2, rfl, (s3.trans s4) _ _ In.at_, Is, In.no _ (by decide +kernel) (by decide +kernel), a, t, rfl, hT2.same (s3.trans s4), gT.fit, fun q1 ys H5 s5 hn5 hq5 nd so hm => ?_⟩
      have lk : t.lok ≤ 12 := gT.fit.2.2
      refine ⟨_, rfl, e, t, rfl, hM.same (s14.trans s5), gT.fit.1, by omega, fun l6 H6 s6 hn6 hl6 => ?_⟩
      have sln := strs_len t
      have ek : (t.streams.map (Sum.inr : Str → Key)).map kV = t.streams.map V.str := by rw [List.map_map]; rfl
      refine ⟨l6, t.streams.map Sum.inr, rfl, SqL.of (by rw [ek]; exact hl6), by rw [List.length_map]; omega, fun p n hp hn => ?_⟩
      refine ⟨p, _, n, rfl, upd_same, .inl ⟨t.streams, fun k => kIn_iff, fun zs q2 hq2 nd2 hm2 hs2 hln2 => ?_⟩⟩
      have yz : ys = zs := strs_same so hs2 nd nd2 fun z => (hm z).trans (hm2 z).symm
      subst yz
      have nmz : ∀ z ∈ ys, PyData.strOk z = true := fun z h => nm_ok (nms_str gT.nm z ((hm z).mp h))
      have s7 : Same H6 (upd H6 p (SetMO w p (kIn (t.streams.map Sum.inr)) n)) := sameAt (Same.refl _) hp
      have s8 := s7.trans (sameAt (o := .lst (ys.map V.str)) (Same.refl _) hq2)
      refine ⟨_, _, .lst (SqL.of ((s6.trans s8) _ _ hq5)) (dp_strs ys), .lst (SqL.of upd_same) (dp_strs ys), strs_shaped nmz, strs_shaped nmz, ?_⟩
      rw [eqv_self (strs_shaped nmz)]
      exact q _ (((s14.trans s5).trans s6).trans s8)
end
end Ash

set_option Elab.async false
set_option linter.all false
set_option maxRecDepth 100000
set_option maxHeartbeats 4000000
set_option pp.maxSteps 1500
namespace Ash
open PySem PySem.Spec PyProof.Rows L2
open C8 (pss_cut)
/-! ### shifts are put together -/
theorem pe_mak0 {X : Cx} {CX : CXT} {k : Nat} {ps : List Str} {sp : Sp} {E : XK} {x : Str} {p pos : Pos} {C : Addr} (G : Mak X.prog X.w X.K X.mg X.base CX x C k ps sp) (hr : Room (k + 1) X.A) (hx : Passes CX X E) (hg : Gl X x := by rfl)
    (hdb : (x == ("__debug__" : Str)) = false := by decide) : PE X (.Call (.Name x p) [] [] pos) (tMake C sp [] E tNil) := by
  obtain ⟨f, fd, M, hm, hb, F⟩ := G.ex
  exact pe_make0 M F hr hg hm hb .nil hx hdb
structure NFs (K : PySem.W.Frag) (A0 : AC) (C : TC) : Prop where
  tt : ∀ a b, C.Is a → C.Is b → PySem.W.notFirst K a (.ref b) = true
  ta : ∀ a b, C.Is a → A0.Is b → PySem.W.notFirst K a (.ref b) = true
  at_ : ∀ a b, A0.Is a → C.Is b → PySem.W.notFirst K a (.ref b) = true
  aa : ∀ a b, A0.Is a → A0.Is b → PySem.W.notFirst K a (.ref b) = true
  tb : ∀ a, C.Is a → ∀ t ∈ [Value.type "NoneType", .type "str", .type "tuple", .type "int"], PySem.W.notFirst K a t = true
  ab : ∀ a, A0.Is a → PySem.W.notFirst K a (.type "tuple") = true
  nb : ∀ t ∈ [Value.type "NoneType", .type "str", .type "tuple", .type "int"], ∀ a, C.Is a → PySem.W.kitOne K t (.ref a) = some false
  na : ∀ b a, A0.Is b → C.Is a → PySem.W.kitOne K (.ref b) (.ref a) = some false
  nt : ∀ a b, C.Is a → A0.Is b → PySem.W.kitOne K (.ref a) (.ref b) = some false
  ntup : ∀ b, A0.Is b → PySem.W.kitOne K (.type "tuple") (.ref b) = some false
def spLShifts (C : TC) : Sp := fun vs H Q _ => ∃ (p s a : Addr) (t : Tm), vs = [.ref p, .ref a] ∧ PoolAt H p s ∧ TmAt C H a t ∧ Gd t ∧ ∀ H', Pl H H' p s → Q (.bl true) H'
section
variable {P : Program} {w : World} {K : PySem.W.Frag} {mg : Str → Option Value} {base : Heap} {C : TC} {A0 : AC} {CT : Addr}
structure OpS (P : Program) (w : World) (K : PySem.W.Frag) (mg : Str → Option Value) (base : Heap) (C : TC) (CT : Addr) : Prop where
  add : ∃ f fd, OpI K C.Is .Add f ∧ FnOk P w K mg base (L2.CX P w) 5 f fd ["self", "other"] (spShiftX C CT) ∧ Binds K fd ["self", "other"] []
  sub : ∃ f fd, OpI K C.Is .Sub f ∧ FnOk P w K mg base (L2.CX P w) 5 f fd ["self", "other"] (spMinusX C CT) ∧ Binds K fd ["self", "other"] []
  teq : ∃ f fd, NeF K C.Is f ∧ FnOk P w K mg base CX0 2 f fd ["self", "other"] (spTEq K C) ∧ Binds K fd ["self", "other"] []
structure G6m (P : Program) (w : World) (K : PySem.W.Frag) (mg : Str → Option Value) (base : Heap) (C : TC) : Prop where
  law_moment : Cal P w K mg base CX0 "_law_moment" 2 ["pool"] spMoment
  Now : Mak P w K mg base CX0 "Now" C.now 2 ["self"] (spInit0 C)
theorem add_ok {H : Hp} {a : Addr} {t : Tm} {n : Int} {Q : VK} {E : XK} (hT : TmAt C H a t) (hF : t.Fit) (hG : (t.plus n).Fit) (q : ∀ a' H', TmAt C H' a' (t.plus n) → Same H H' → Q (.ref a') H') : rOpI C.Is (spShiftX C CT) E (.ref a) (.int n) H Q := by
  obtain ⟨dx, fs, sp, In⟩ := hT.in_
  exact ⟨a, C.of t, dx, fs, n, rfl, rfl, In.at_, C.is_of t, a, t, n, rfl, hT, hF, .inl ⟨hG, q⟩⟩
theorem sub_ok {H : Hp} {a : Addr} {t : Tm} {n : Int} {Q : VK} {E : XK} (hT : TmAt C H a t) (hF : t.Fit) (hG : (t.plus (-n)).Fit) (q : ∀ a' H', TmAt C H' a' (t.plus (-n)) → Same H H' → Q (.ref a') H') : rOpI C.Is (spMinusX C CT) E (.ref a) (.int n) H Q := by
  obtain ⟨dx, fs, sp, In⟩ := hT.in_
  exact ⟨a, C.of t, dx, fs, n, rfl, rfl, In.at_, C.is_of t, a, t, n, rfl, hT, hF, .inl ⟨hG, q⟩⟩
theorem ne_ok {H : Hp} {a b : Addr} {t u : Tm} {Q : VK} {E : XK} (T : TF K mg C) (N : NFs K A0 C) (hT : TmAt C H a t) (hU : TmAt C H b u) (nt : t.NmS) (nu : u.NmS) (q : ∀ H', Same H H' → Q (.bl (!decide (t = u))) H') : rNeFV K C.Is (spTEq K C) E (.ref a) (.ref b) H Q := by
  obtain ⟨dx, fs, sp, In⟩ := hT.in_
  exact ⟨a, C.of t, dx, fs, _, rfl, In.at_, C.is_of t, T.tyx hU, N.tt _ _ (C.is_of t) (C.is_of u), a, t, .ref b, rfl, hT, nt, .inl ⟨b, u, rfl, hU, nu, fun H' s => ⟨_, rfl, q H' s⟩⟩⟩
theorem eq_ok {H : Hp} {a b : Addr} {t u : Tm} {Q : VK} {E : XK} (T : TF K mg C) (N : NFs K A0 C) (hT : TmAt C H a t) (hU : TmAt C H b u) (nt : t.NmS) (nu : u.NmS) (q : ∀ H', Same H H' → Q (.bl (decide (t = u))) H') : rEqF K C.Is (spTEq K C) E (.ref a) (.ref b) H Q := by
  obtain ⟨dx, fs, sp, In⟩ := hT.in_
  exact ⟨a, C.of t, dx, fs, _, rfl, In.at_, C.is_of t, T.tyx hU, N.tt _ _ (C.is_of t) (C.is_of u), a, t, .ref b, rfl, hT, nt, .inl ⟨b, u, rfl, hU, nu, q⟩⟩
theorem gd_now : Gd .now := ⟨⟨by decide, by decide, by decide⟩, nf1_of rfl, trivial⟩
abbrev s_l_shifts : Stmt := topS 53
theorem sc_l_shifts : FnScope ["pool", "term", "one", "two"] ["pool", "term"] (defScope s_l_shifts) := ⟨rfl, rfl, rfl, by decide +kernel, rfl, by decide +kernel, by decide +kernel⟩
theorem ok_lshifts {f : Addr} {fd : FuncData} (F : Fun K "_law_shifts" "_law_shifts" s_l_shifts f fd) (B : Blt mg) (T : TF K mg C) (N : NFs K A0 C) (O : OpS P w K mg base C CT) (G : G6m P w K mg base C) : FnOk P w K mg base CX0 8 f fd ["pool", "term"] (spLShifts C) := by
  obtain ⟨fA, fdA, OA, FA, bA⟩ := O.add
  obtain ⟨fS, fdS, OS, FS, bS⟩ := O.sub
  obtain ⟨fQ, fdQ, NQ, FQ, bQ⟩ := O.teq
  refine F.ok sc_l_shifts (fun vs H Q E h => ?_) (fun cdv A outer s H vs Q E hr h => ?_)
  · obtain ⟨p, s0, a, t, rfl, _⟩ := h
    rfl
  · obtain ⟨p, s0, a, t, rfl, hP, hT, gT, q⟩ := h
    refine ⟨_, (pss_cut (ps_if (PW.pt (pw_or (pt_cmpR op_gt (pe_fld (pv 1) rfl) pe_int (nomark _)) (pw_or1 (pt_cmpR op_gt (pe_fld (pv 1) rfl) pe_int (nomark _)))))
      (pss_one (ps_set (i := 1) sc_l_shifts.nd rfl (Or.inl rfl) (pe_mak0 G.Now (hr.mono (by decide)) pass0)))
      pss_nil)
    (pss_cons (ps_set (i := 2) sc_l_shifts.nd rfl (Or.inl rfl) (pe_cal G.law_moment (hr.mono (by decide)) pass0 (pa_cons (pv 0) pa_nil)))
    (pss_cons (ps_set (i := 3) sc_l_shifts.nd rfl (Or.inl rfl) (pe_cal G.law_moment (hr.mono (by decide)) pass0 (pa_cons (pv 0) pa_nil)))
    (pss_cons (ps_if (PW.pt (pw_or (pt_cmpR (op_neFV NQ FQ bQ pass0 (hr.mono (by decide))) (pe_op (op_int OA FA bA passF (hr.mono (by decide))) (pe_op (op_int OA FA bA passF (hr.mono (by decide))) (pv 1) (pv 2)) (pv 3)) (pe_op (op_int OA FA bA passF (hr.mono (by decide))) (pv 1) (pe_op op_add (pv 2) (pv 3))) (nomark _)) (pw_or (pt_cmpR (op_neFV NQ FQ bQ pass0 (hr.mono (by decide))) (pe_op (op_int OA FA bA passF (hr.mono (by decide))) (pv 1) pe_int) (pv 1) (nomark _)) (pw_or1 (pt_cmpR (op_neFV NQ FQ bQ pass0 (hr.mono (by decide))) (pe_op (op_int OS FS bS passF (hr.mono (by decide))) (pe_op (op_int OA FA bA passF (hr.mono (by decide))) (pv 1) (pv 2)) (pv 2)) (pv 1) (nomark _))))))
      (pss_one (ps_ret pe_bl))
      pss_nil)
    (pss_one (ps_ret (pe_and (pe_cmpR (op_eqF NQ FQ bQ pass0 (hr.mono (by decide))) (pe_op (op_int OS FS bS passF (hr.mono (by decide))) (pv 1) (pv 2)) (pe_op (op_int OA FA bA passF (hr.mono (by decide))) (pv 1) (pe_un un_neg (pv 2))) (nomark _)) (pe_one (pe_cmpR op_eq (pe_fld (pe_op (op_int OA FA bA passF (hr.mono (by decide))) (pe_op (op_int OA FA bA passF (hr.mono (by decide))) (pv 1) (pv 2)) (pv 3)) rfl) (pe_fld (pe_op (op_int OA FA bA passF (hr.mono (by decide))) (pv 1) (pe_op op_add (pv 2) (pv 3))) rfl) (nomark _)))))))))), ?_⟩
    refine ⟨fun σ H1 => (∃ a' t', σ = [some (.ref p), some (.ref a'), none, none] ∧ TmAt C H1 a' t' ∧ Gd t' ∧ t'.dep ≤ 11 ∧ t'.par ≤ 39) ∧ Pl H H1 p s0, ?_, ?_⟩
    · obtain ⟨dx, fs, sp, In⟩ := hT.in_
      have Is := C.is_of t
      refine ⟨_, rfl, a, _, dx, fs, _, rfl, In.at_, T.cl _ Is, T.no _ Is _ (by decide +kernel), In.depth, _, _, rfl, rfl, _, rfl, ite2 (fun c => iteT fun a0 dx0 ha0 hdx0 hne0 => ⟨a0, dx0, rfl, upd_same, fun H1 hT0 hK0 => ⟨rfl, ⟨a0, .now, rfl, hT0, gd_now, by decide, by decide⟩, (Pl.refl hP).same (keep_make hK0 ha0 hdx0)⟩⟩) (fun c1 => ?_)⟩
      refine ⟨_, rfl, a, _, dx, fs, _, rfl, In.at_, T.cl _ Is, T.no _ Is _ (by decide +kernel), In.parts, _, _, rfl, rfl, _, rfl, ite2 (fun c => fun a0 dx0 ha0 hdx0 hne0 => ⟨a0, dx0, rfl, upd_same, fun H1 hT0 hK0 => ⟨rfl, ⟨a0, .now, rfl, hT0, gd_now, by decide, by decide⟩, (Pl.refl hP).same (keep_make hK0 ha0 hdx0)⟩⟩) (fun c2 => ?_)⟩
      have d1 : ¬ 11 < t.dep := fun z => c1 (decide_eq_true z)
      have d2 : ¬ 39 < t.par := fun z => c2 (decide_eq_true z)
      exact ⟨⟨a, t, rfl, hT, gT, by omega, by omega⟩, Pl.refl hP⟩
    clear gT hT
    rintro σ H1 ⟨⟨a', t', rfl, hT, gT, d11, d39⟩, P1⟩
    refine ⟨_, rfl, p, s0, rfl, P1.now, fun n1 H2 P2 => ⟨_, rfl, p, s0, rfl, P2.now, fun n2 H3 P3 => ?_⟩⟩
    have hT3 := (hT.nl (nl_pl P1.now P2)).nl (nl_pl P2.now P3)
    have P13 := (P1.trans P2).trans P3
    have f1 : (t'.plus n1).Fit := fit_plus gT.fit d11 d39
    have pp := fun x y => plus_plus (a := x) (b := y) gT.nf
    have f2 : ((t'.plus n1).plus n2).Fit := by rw [pp]; exact fit_plus gT.fit d11 d39
    have f3 : (t'.plus (n1 + n2)).Fit := fit_plus gT.fit d11 d39
    have f4 : (t'.plus 0).Fit := fit_plus gT.fit d11 d39
    have f5 : ((t'.plus n1).plus (-n1)).Fit := by rw [pp]; exact fit_plus gT.fit d11 d39
    have f6 : (t'.plus (-n1)).Fit := fit_plus gT.fit d11 d39
    have nm := fun x => nms_plus (a := x) gT.nm
    refine ⟨_, rfl, _, rfl, add_ok hT3 gT.fit f1 fun a1 H4 hT4 s4 => ⟨_, rfl, add_ok hT4 f1 f2 fun a2 H5 hT5 s5 => ⟨_, rfl, _, rfl, _, rfl, _, _, rfl, rfl, add_ok (hT3.same (s4.trans s5)) gT.fit f3 fun a3 H6 hT6 s6 => ne_ok T N (hT5.same s6) hT6 (nms_plus (nm _)) (nm _) fun H7 s7 => ⟨_, rfl, iteN (by rw [pp, decide_eq_true rfl]; rfl) ?_⟩⟩⟩⟩
    have s37 := ((s4.trans s5).trans s6).trans s7
    refine ⟨_, rfl, add_ok (hT3.same s37) gT.fit f4 fun a4 H8 hT8 s8 => ⟨_, rfl, ne_ok T N hT8 (hT3.same (s37.trans s8)) (nm _) gT.nm fun H9 s9 => ⟨_, rfl, iteN (by rw [plus_zero, decide_eq_true rfl]; rfl) ?_⟩⟩⟩
    have s39 := (s37.trans s8).trans s9
    refine ⟨_, rfl, _, rfl, add_ok (hT3.same s39) gT.fit f1 fun a5 H10 hT10 s10 => ⟨_, rfl, sub_ok hT10 f1 f5 fun a6 H11 hT11 s11 => ⟨_, rfl, ne_ok T N hT11 (hT3.same ((s39.trans s10).trans s11)) (nms_plus (nm _)) gT.nm fun H12 s12 => ⟨_, rfl, iteN (by rw [pp, show n1 + -n1 = 0 by omega, plus_zero, decide_eq_true rfl]; rfl) ?_⟩⟩⟩⟩
    have s312 := ((s39.trans s10).trans s11).trans s12
    refine ⟨_, rfl, _, rfl, sub_ok (hT3.same s312) gT.fit f6 fun a7 H13 hT13 s13 => ⟨_, rfl, _, rfl, _, rfl, add_ok (hT3.same (s312.trans s13)) gT.fit f6 fun a8 H14 hT14 s14 => eq_ok T N (hT13.same s14) hT14 (nm _) (nm _) fun H15 s15 => ⟨_, rfl, iteP (decide_eq_true rfl) ?_⟩⟩⟩
    have s315 := ((s312.trans s13).trans s14).trans s15
    refine ⟨_, rfl, _, rfl, add_ok (hT3.same s315) gT.fit f1 fun b1 H16 hU1 s16 => ⟨_, rfl, add_ok hU1 f1 f2 fun b2 H17 hU2 s17 => ?_⟩⟩
    have s317 := (s315.trans s16).trans s17
    obtain ⟨dx, fs, sp, In⟩ := hU2.in_
    have Is := C.is_of ((t'.plus n1).plus n2)
    refine ⟨b2, _, dx, fs, _, rfl, In.at_, T.cl _ Is, T.no _ Is _ (by decide +kernel), In.parts, _, rfl, _, rfl, _, rfl, _, _, rfl, rfl, add_ok (hT3.same s317) gT.fit f3 fun b3 H18 hU3 s18 => ?_⟩
    obtain ⟨dy, gs, sq, Io⟩ := hU3.in_
    have Is2 := C.is_of (t'.plus (n1 + n2))
    refine ⟨b3, _, dy, gs, _, rfl, Io.at_, T.cl _ Is2, T.no _ Is2 _ (by decide +kernel), Io.parts, rfl, ?_⟩
    rw [pp, show decide (V.int (t'.plus (n1 + n2)).par = V.int (t'.plus (n1 + n2)).par) = true from decide_eq_true rfl]
    exact q _ (P13.same (s317.trans s18))
end
end Ash

set_option Elab.async false
set_option linter.all false
set_option maxRecDepth 100000
set_option maxHeartbeats 4000000
set_option pp.maxSteps 1500
namespace Ash
open PySem PySem.Spec PyProof.Rows L2
open C8 (pss_cut)
/-! ### equal just if they were made alike -/
def spLEqual (C : TC) : Sp := fun vs H Q _ => ∃ (z : Str) (g m : Addr) (t u : Tm), vs = [.str z, .ref g, .ref m] ∧ IsNm z ∧ GrAt C H g t ∧ GrAt C H m u ∧ Gd t ∧ Gd u ∧ ∀ H', Same H H' → Q (.bl true) H'
section
variable {P : Program} {w : World} {K : PySem.W.Frag} {mg : Str → Option Value} {base : Heap} {C : TC} {A0 : AC} {CT : Addr}
structure G7m (P : Program) (w : World) (K : PySem.W.Frag) (mg : Str → Option Value) (base : Heap) (A0 : AC) (C : TC) : Prop where
  Number : Mak P w K mg base CX0 "Number" A0.number 3 ["self", "stream", "term"] (spInitN A0 C)
  Count : Mak P w K mg base CX0 "Count" A0.count 3 ["self", "stream", "first", "last"] (spInitC A0 C A0.count Am.count)
  Total : Mak P w K mg base CX0 "Total" A0.total 3 ["self", "stream", "first", "last"] (spInitC A0 C A0.total Am.total)
  Gap : Mak P w K mg base CX0 "Gap" A0.gap 3 ["self", "first", "last"] (spInitG A0 C)
  teq : ∃ f fd, NeF K C.Is f ∧ FnOk P w K mg base CX0 2 f fd ["self", "other"] (spTEq K C) ∧ Binds K fd ["self", "other"] []
  aeq : ∃ f fd, NeF K A0.Is f ∧ FnOk P w K mg base CX0 2 f fd ["self", "other"] (spAEq K A0 C) ∧ Binds K fd ["self", "other"] []
theorem mkN {H : Hp} {a : Addr} {z : Str} {t : Tm} {R : Addr → Hp → Prop} {E : XK} (hz : IsNm z) (hT : TmAt C H a t) (hF : t.Fit) (q : ∀ b H', AmAt A0 C H' b (.number z t) → Same H H' → R b H') : ∀ x dx, H x = none → H dx = none → dx ≠ x → spInitN A0 C (.ref x :: ([.str z, .ref a] ++ [])) (upd (upd H dx (.own x)) x (.ins A0.number dx [])) (fun v H2 => v = .non ∧ R x H2) E :=
  fun x dx hx hdx hne => ⟨x, dx, a, z, t, rfl, upd_same, hz, hT.same (sameAt (sameAt (Same.refl H) hdx) hx), hF, fun H' hA hK => ⟨rfl, q x H' hA (keep_make hK hx hdx)⟩⟩
theorem mkC {H : Hp} {a c : Addr} {z : Str} {t u : Tm} {D : Addr} {mk : Str → Tm → Tm → Am} {R : Addr → Hp → Prop} {E : XK} (hz : IsNm z) (hT : TmAt C H a t) (hU : TmAt C H c u) (hF : t.Fit) (hG : u.Fit) (q : ∀ b H', AmAt A0 C H' b (mk z t u) → Same H H' → R b H') : ∀ x dx, H x = none → H dx = none → dx ≠ x → spInitC A0 C D mk (.ref x :: ([.str z, .ref a, .ref c] ++ [])) (upd (upd H dx (.own x)) x (.ins D dx [])) (fun v H2 => v = .non ∧ R x H2) E :=
  fun x dx hx hdx hne => ⟨x, dx, a, c, z, t, u, rfl, upd_same, hz, hT.same (sameAt (sameAt (Same.refl H) hdx) hx), hU.same (sameAt (sameAt (Same.refl H) hdx) hx), hF, hG, fun H' hA hK => ⟨rfl, q x H' hA (keep_make hK hx hdx)⟩⟩
theorem mkG {H : Hp} {a c : Addr} {t u : Tm} {R : Addr → Hp → Prop} {E : XK} (hT : TmAt C H a t) (hU : TmAt C H c u) (hF : t.Fit) (hG : u.Fit) (q : ∀ b H', AmAt A0 C H' b (.gap t u) → Same H H' → R b H') : ∀ x dx, H x = none → H dx = none → dx ≠ x → spInitG A0 C (.ref x :: ([.ref a, .ref c] ++ [])) (upd (upd H dx (.own x)) x (.ins A0.gap dx [])) (fun v H2 => v = .non ∧ R x H2) E :=
  fun x dx hx hdx hne => ⟨x, dx, a, c, t, u, rfl, upd_same, hT.same (sameAt (sameAt (Same.refl H) hdx) hx), hU.same (sameAt (sameAt (Same.refl H) hdx) hx), hF, hG, fun H' hA hK => ⟨rfl, q x H' hA (keep_make hK hx hdx)⟩⟩
theorem aeq_ok {H : Hp} {a b : Addr} {t u : Am} {Q : VK} {E : XK} (T : AF K mg A0 C) (N : NFs K A0 C) (hT : AmAt A0 C H a t) (hU : AmAt A0 C H b u) (nt : t.NmS) (nu : u.NmS) (q : ∀ H', Same H H' → Q (.bl (decide (t = u))) H') : rEqF K A0.Is (spAEq K A0 C) E (.ref a) (.ref b) H Q := by
  obtain ⟨dx, fs, sp, h1, _⟩ := hT.spl
  exact ⟨a, A0.of t, dx, fs, _, rfl, h1, A0.is_of t, T.tyx hU, N.aa _ _ (A0.is_of t) (A0.is_of u), a, t, .ref b, rfl, hT, nt, .inl ⟨b, u, rfl, hU, nu, q⟩⟩
theorem aeq_no {H : Hp} {a : Addr} {v : V} {ty : Value} {t : Am} {Q : VK} {E : XK} (hT : AmAt A0 C H a t) (nt : t.NmS) (hv : TyX K H v ty) (nf : PySem.W.notFirst K (A0.of t) ty = true) (no : ∀ a, A0.Is a → PySem.W.kitOne K ty (.ref a) = some false) (q : ∀ H', Same H H' → Q (.bl false) H') : rEqF K A0.Is (spAEq K A0 C) E (.ref a) v H Q := by
  obtain ⟨dx, fs, sp, h1, _⟩ := hT.spl
  exact ⟨a, A0.of t, dx, fs, ty, rfl, h1, A0.is_of t, hv, nf, a, t, v, rfl, hT, nt, .inr ⟨⟨ty, hv, no⟩, q⟩⟩
theorem teq_no {H : Hp} {a : Addr} {v : V} {ty : Value} {t : Tm} {Q : VK} {E : XK} (hT : TmAt C H a t) (nt : t.NmS) (hv : TyX K H v ty) (nf : PySem.W.notFirst K (C.of t) ty = true) (no : ∀ a, C.Is a → PySem.W.kitOne K ty (.ref a) = some false) (q : ∀ H', Same H H' → Q (.bl false) H') : rEqF K C.Is (spTEq K C) E (.ref a) v H Q := by
  obtain ⟨dx, fs, sp, In⟩ := hT.in_
  exact ⟨a, C.of t, dx, fs, ty, rfl, In.at_, C.is_of t, hv, nf, a, t, v, rfl, hT, nt, .inr ⟨⟨ty, hv, no⟩, q⟩⟩
theorem bl_ne {a b : Bool} (h : a = b) : (!decide (V.bl a = V.bl b)) = false := by rw [h, decide_eq_true rfl]; rfl
abbrev s_l_equal : Stmt := topS 54
theorem sc_l_equal : FnScope ["stream", "grown", "smaller", "alike", "one", "two", "thing"] ["stream", "grown", "smaller"] (defScope s_l_equal) := ⟨rfl, rfl, rfl, by decide +kernel, rfl, by decide +kernel, by decide +kernel⟩
theorem ok_lequal {f : Addr} {fd : FuncData} (F : Fun K "_law_equal" "_law_equal" s_l_equal f fd) (B : Blt mg) (T : TF K mg C) (AT : AF K mg A0 C) (N : NFs K A0 C) (NY : mg "any" = none) (G : G7m P w K mg base A0 C) : FnOk P w K mg base CX0 6 f fd ["stream", "grown", "smaller"] (spLEqual C) := by
  obtain ⟨fQ, fdQ, NQ, FQ, bQ⟩ := G.teq
  obtain ⟨fB, fdB, NB, FB, bB⟩ := G.aeq
  refine F.ok sc_l_equal (fun vs H Q E h => ?_) (fun cdv A outer s H vs Q E hr h => ?_)
  · obtain ⟨z, g, m, t, u, rfl, _⟩ := h
    rfl
  · obtain ⟨z, g, m, t, u, rfl, hz, hG, hM, gT, gU, q⟩ := h
    refine ⟨_, (pss_cons (ps_set (i := 3) sc_l_equal.nd rfl (Or.inl rfl) (pe_cmpR (op_eqD hr.units) (pe_ix ix_tup (pv 1) pe_int (fun _ _ => rfl)) (pe_ix ix_tup (pv 2) pe_int (fun _ _ => rfl)) (nomark _)))
    (pss_cons (ps_set (i := 4) sc_l_equal.nd rfl (Or.inr rfl) (pe_ix ix_tup (pv 1) pe_int (fun _ _ => rfl)))
    (pss_cons (ps_set (i := 5) sc_l_equal.nd rfl (Or.inl rfl) (pe_ix ix_tup (pv 2) pe_int (fun _ _ => rfl)))
    (pss_cons (ps_if (PW.pt (pw_or (pt_cmpR op_ne (pe_cmpR (op_eqF NQ FQ bQ pass0 (hr.mono (by decide))) (pv 4) (pv 5) (nomark _)) (pv 3) (nomark _)) (pw_or1 (pt_cmpR op_eq (pe_cmpR (op_neFV NQ FQ bQ pass0 (hr.mono (by decide))) (pv 4) (pv 5) (nomark _)) (pv 3) (nomark _)))))
      (pss_one (ps_ret pe_bl))
      pss_nil)
    (pss_cons (ps_if (PW.pt (pw_or (pt_cmpR op_ne (pe_cmpR (op_eqF NB FB bB pass0 (hr.mono (by decide))) (pe_mak G.Number (hr.mono (by decide)) pass0 (pa_cons (pv 0) (pa_cons (pv 4) pa_nil))) (pe_mak G.Number (hr.mono (by decide)) pass0 (pa_cons (pv 0) (pa_cons (pv 5) pa_nil))) (nomark _)) (pv 3) (nomark _)) (pw_or1 (pt_cmpR op_ne (pe_cmpR (op_eqF NB FB bB pass0 (hr.mono (by decide))) (pe_mak G.Gap (hr.mono (by decide)) pass0 (pa_cons (pv 4) (pa_cons (pv 5) pa_nil))) (pe_mak G.Gap (hr.mono (by decide)) pass0 (pa_cons (pv 5) (pa_cons (pv 4) pa_nil))) (nomark _)) (pv 3) (nomark _)))))
      (pss_one (ps_ret pe_bl))
      pss_nil)
    (pss_cons (ps_if (pt_cmpR op_ne (pe_cmpR (op_eqF NB FB bB pass0 (hr.mono (by decide))) (pe_mak G.Count (hr.mono (by decide)) pass0 (pa_cons (pv 0) (pa_cons (pv 4) (pa_cons (pv 5) pa_nil)))) (pe_mak G.Count (hr.mono (by decide)) pass0 (pa_cons (pv 0) (pa_cons (pv 4) (pa_cons (pv 4) pa_nil)))) (nomark _)) (pv 3) (nomark _))
      (pss_one (ps_ret pe_bl))
      pss_nil)
    (pss_cons (ps_if (PW.pt (pw_or (pt_cmpR (op_eqF NB FB bB pass0 (hr.mono (by decide))) (pe_mak G.Count (hr.mono (by decide)) pass0 (pa_cons (pv 0) (pa_cons (pv 4) (pa_cons (pv 5) pa_nil)))) (pe_mak G.Total (hr.mono (by decide)) pass0 (pa_cons (pv 0) (pa_cons (pv 4) (pa_cons (pv 5) pa_nil)))) (nomark _)) (pw_or (pt_cmpR (op_eqF NB FB bB pass0 (hr.mono (by decide))) (pe_mak G.Number (hr.mono (by decide)) pass0 (pa_cons (pv 0) (pa_cons (pv 4) pa_nil))) (pv 4) (nomark _)) (pw_or1 (pt_cmpR (op_eqF NQ FQ bQ pass0 (hr.mono (by decide))) (pv 4) (pe_mak G.Number (hr.mono (by decide)) pass0 (pa_cons (pv 0) (pa_cons (pv 4) pa_nil))) (nomark _))))))
      (pss_one (ps_ret pe_bl))
      pss_nil)
    (pss_cons (ps_if (PW.pt (pw_or (pt_val (pe_callB (cr_any rfl) (by rfl) NY (by decide +kernel) (pa_cons (pe_lc (own := [("thing", 6)]) (g := gName 6) (tt := tYes) (by rfl) sc_l_equal.nd (pi_list (pe_lst (pa_cons pe_non (pa_cons pe_str (pa_cons (pe_tup (pa_cons pe_str pa_nil)) (pa_cons pe_int pa_nil)))))) (blkOk_by (own := [("thing", 6)]) (N := ["stream", "grown", "smaller", "alike", "one", "two", "thing"]) (sc := defScope s_l_equal) (by decide +kernel)) (fun _ _ _ _ _ => (pg_name (i := 6) sc_l_equal.nd rfl (Or.inl rfl))) (fun _ _ _ _ _ => pts_nil) (fun _ _ _ _ _ => (pe_cmpR (show OpR _ (compareOp .Eq) (rEqF K C.Is (spTEq K C) E0) from op_eqF NQ FQ bQ pass0 (hr.mono (by decide))) (pv 4) (pv 6) (nomark _)))) pa_nil))) (pw_or1 (pt_cmpR (op_eqF NB FB bB pass0 (hr.mono (by decide))) (pe_mak G.Gap (hr.mono (by decide)) pass0 (pa_cons (pv 4) (pa_cons (pv 4) pa_nil))) (pe_tup (pa_cons pe_str (pa_cons (pv 4) (pa_cons (pv 4) pa_nil)))) (nomark _)))))
      (pss_one (ps_ret pe_bl))
      pss_nil)
    (pss_one (ps_ret (pe_cmpR (op_eqF NB FB bB pass0 (hr.mono (by decide))) (pe_mak G.Total (hr.mono (by decide)) pass0 (pa_cons (pv 0) (pa_cons (pv 4) (pa_cons (pv 5) pa_nil)))) (pe_mak G.Total (hr.mono (by decide)) pass0 (pa_cons (pv 0) (pa_cons (pv 4) (pa_cons (pv 5) pa_nil)))) (nomark _)))))))))))), ?_⟩
    obtain ⟨a, e, hg, ha, he⟩ := id hG
    obtain ⟨b, i, hm, hb, hi⟩ := id hM
    have du : t.dep ≤ 20 := Int.le_trans gT.fit.1 (by decide)
    have dv : u.dep ≤ 20 := Int.le_trans gU.fit.1 (by decide)
    refine ⟨_, rfl, _, _, _, _, rfl, rfl, SqT.of hg, rfl, _, rfl, _, _, _, _, rfl, rfl, SqT.of hm, rfl, t.mdd, u.mdd, mdd_dp he, mdd_dp hi, mdd_shaped gT.nm du, mdd_shaped gU.nm dv, ?_⟩
    rw [mdd_eqv gT.nm du]
    generalize hal : decide (t = u) = al
    refine ⟨_, rfl, _, _, _, _, rfl, rfl, SqT.of hg, rfl, _, rfl, _, _, _, _, rfl, rfl, SqT.of hm, rfl, ?_⟩
    refine ⟨_, rfl, _, rfl, eq_ok T N ha hb gT.nm gU.nm fun H1 s1 => ⟨_, rfl, rfl, _, rfl, iteN (bl_ne hal) ?_⟩⟩
    refine ⟨_, rfl, _, rfl, ne_ok T N (ha.same s1) (hb.same s1) gT.nm gU.nm fun H2 s2 => ⟨_, rfl, rfl, _, rfl, iteN (by rw [hal]; cases al <;> rfl) ?_⟩⟩
    have t2 := s1.trans s2
    have nN : ∀ v : Tm, v.NmS → (Am.number z v).NmS := fun v h => ⟨hz, h⟩
    have n2 : ∀ {v x : Tm}, v.NmS → x.NmS → (Am.count z v x).NmS := fun h g => ⟨hz, h, g⟩
    have n3 : ∀ {v x : Tm}, v.NmS → x.NmS → (Am.total z v x).NmS := fun h g => ⟨hz, h, g⟩
    have n4 : ∀ {v x : Tm}, v.NmS → x.NmS → (Am.gap v x).NmS := fun h g => ⟨h, g⟩
    refine ⟨_, rfl, _, rfl, mkN hz (ha.same t2) gT.fit fun a1 H3 hA3 s3 => ⟨_, rfl, _, rfl, mkN hz ((hb.same t2).same s3) gU.fit fun a2 H4 hA4 s4 => aeq_ok AT N (hA3.same s4) hA4 (nN _ gT.nm) (nN _ gU.nm) fun H5 s5 => ⟨_, rfl, rfl, _, rfl, iteN (bl_ne (by rw [← hal, decide_eq_decide]; exact ⟨fun h => by injection h, fun h => by rw [h]⟩)) ?_⟩⟩⟩
    have t5 := ((t2.trans s3).trans s4).trans s5
    clear hA3 hA4
    refine ⟨_, rfl, _, rfl, mkG (ha.same t5) (hb.same t5) gT.fit gU.fit fun a3 H6 hA6 s6 => ⟨_, rfl, _, rfl, mkG ((hb.same t5).same s6) ((ha.same t5).same s6) gU.fit gT.fit fun a4 H7 hA7 s7 => aeq_ok AT N (hA6.same s7) hA7 (n4 gT.nm gU.nm) (n4 gU.nm gT.nm) fun H8 s8 => ⟨_, rfl, rfl, _, rfl, iteN (bl_ne (by rw [← hal, decide_eq_decide]; exact ⟨fun h => by injection h, fun h => by rw [h]⟩)) ?_⟩⟩⟩
    have t8 := ((t5.trans s6).trans s7).trans s8
    clear hA6 hA7
    refine ⟨_, rfl, _, rfl, _, rfl, mkC hz (ha.same t8) (hb.same t8) gT.fit gU.fit fun a5 H9 hA9 s9 => ⟨_, rfl, _, rfl, _, rfl, mkC hz ((ha.same t8).same s9) ((ha.same t8).same s9) gT.fit gT.fit fun a6 H10 hA10 s10 => aeq_ok AT N (hA9.same s10) hA10 (n2 gT.nm gU.nm) (n2 gT.nm gT.nm) fun H11 s11 => ⟨_, rfl, rfl, _, rfl, iteN (bl_ne (by rw [← hal, decide_eq_decide]; exact ⟨fun h => by injection h with _ _ h; exact h.symm, fun h => by rw [h]⟩)) ?_⟩⟩⟩
    have t11 := ((t8.trans s9).trans s10).trans s11
    clear hA9 hA10
    refine ⟨_, rfl, _, rfl, _, rfl, mkC hz (ha.same t11) (hb.same t11) gT.fit gU.fit fun a7 H12 hA12 s12 => ⟨_, rfl, _, rfl, _, rfl, mkC hz ((ha.same t11).same s12) ((hb.same t11).same s12) gT.fit gU.fit fun a8 H13 hA13 s13 => aeq_ok AT N (hA12.same s13) hA13 (n2 gT.nm gU.nm) (n3 gT.nm gU.nm) fun H14 s14 => ⟨_, rfl, iteN (decide_eq_false fun z => by cases z) ?_⟩⟩⟩
    have t14 := ((t11.trans s12).trans s13).trans s14
    clear hA12 hA13
    refine ⟨_, rfl, _, rfl, mkN hz (ha.same t14) gT.fit fun a9 H15 hA15 s15 => ⟨_, rfl, aeq_no hA15 (nN _ gT.nm) (T.tyx ((ha.same t14).same s15)) (N.at_ _ _ (A0.is_of _) (C.is_of _)) (fun c hc => N.nt _ _ (C.is_of t) hc) fun H16 s16 => ⟨_, rfl, iteN rfl ?_⟩⟩⟩
    have t16 := (t14.trans s15).trans s16
    refine ⟨_, rfl, _, rfl, _, rfl, mkN hz (ha.same t16) gT.fit fun a10 H17 hA17 s17 => teq_no ((ha.same t16).same s17) gT.nm (AT.tyx hA17) (N.ta _ _ (C.is_of _) (A0.is_of _)) (fun c hc => N.na _ _ (A0.is_of (.number z t)) hc) fun H18 s18 => ⟨_, rfl, iteN rfl ?_⟩⟩
    have t18 := (t16.trans s17).trans s18
    clear hA15 hA17
    refine ⟨(by show 1 ≤ sizeLine; decide), fun tp htp => ⟨(by show 4 ≤ sizeLine; decide), fun l hl => ⟨l, rfl, ⟨_, SqL.of upd_same⟩, fun D hD => ?_⟩⟩⟩
    have u1 := sameAt (o := .tup [.str "now"]) (Same.refl H18) htp
    have u2 := sameAt (o := .lst [.non, .str "now", .ref tp, .int 0]) (Same.refl _) hl
    have t19 := (t18.trans u1).trans u2
    refine lc_list (a := l) (xs := [V.non, .str "now", .ref tp, .int 0]) (fun i H20 => H20 D = some (.lst ((List.replicate i false).map V.bl)) ∧ Same (upd (upd H18 tp (.tup [.str "now"])) l (.lst [.non, .str "now", .ref tp, .int 0])) H20) ⟨upd_same, sameAt (Same.refl _) hD⟩ (fun i H20 _ hv => SqL.of (hv.2 _ _ upd_same)) ?_ ?_
    · rintro i v H20 hvi ⟨hD20, s20⟩
      have hil := (List.getElem?_eq_some_iff.mp hvi).1
      have hil : i < 4 := hil
      have tup20 := s20 _ _ (u2 _ _ (upd_same (H := H18) (a := tp)))
      have ty : ∃ ty, TyX K H20 v ty ∧ ty ∈ [Value.type "NoneType", .type "str", .type "tuple", .type "int"] := by
        match i, hil, hvi with
        | 0, _, hvi => cases hvi; exact ⟨_, .base .non, by simp⟩
        | 1, _, hvi => cases hvi; exact ⟨_, .base (.str _), by simp⟩
        | 2, _, hvi => cases hvi; exact ⟨_, .base (.tup tup20), by simp⟩
        | 3, _, hvi => cases hvi; exact ⟨_, .base (.int _), by simp⟩
      obtain ⟨ty, h1, h2⟩ := ty
      refine ⟨rfl, _, rfl, _, rfl, teq_no (ha.same (t19.trans s20)) gT.nm h1 (N.tb _ (C.is_of _) _ h2) (N.nb _ h2) fun H21 s21 => ⟨_, s21 _ _ hD20, (by rw [List.length_map, List.length_replicate]; exact small1000 (by omega)), ?_, sameAt (s20.trans s21) hD⟩⟩
      rw [upd_same, List.replicate_succ', List.map_append]
      rfl
    · rintro H20 ⟨hD20, s20⟩
      refine ⟨D, _, rfl, SqL.of hD20, _, rfl, iteN rfl ?_⟩
      have t20 := t19.trans s20
      refine ⟨_, rfl, _, rfl, mkG (ha.same t20) (ha.same t20) gT.fit gT.fit fun a11 H21 hA21 s21 => ⟨_, rfl, _, rfl, (by show 3 ≤ sizeLine; decide), fun q1 hq1 => ?_⟩⟩
      have u3 := sameAt (o := .tup [.str "gap", .ref a, .ref a]) (Same.refl _) hq1
      refine aeq_no (hA21.same u3) (n4 gT.nm gT.nm) (.base (.tup upd_same)) (N.ab _ (A0.is_of _)) N.ntup fun H22 s22 => ⟨_, rfl, iteN rfl ?_⟩
      have t22 := ((t20.trans s21).trans u3).trans s22
      refine ⟨_, rfl, _, rfl, _, rfl, mkC hz (ha.same t22) (hb.same t22) gT.fit gU.fit fun a12 H23 hA23 s23 => ⟨_, rfl, _, rfl, _, rfl, mkC hz ((ha.same t22).same s23) ((hb.same t22).same s23) gT.fit gU.fit fun a13 H24 hA24 s24 => aeq_ok AT N (hA23.same s24) hA24 (n3 gT.nm gU.nm) (n3 gT.nm gU.nm) fun H25 s25 => ?_⟩⟩
      rw [decide_eq_true rfl]
      exact q _ (((t22.trans s23).trans s24).trans s25)
end
end Ash

set_option Elab.async false
set_option linter.all false
set_option maxRecDepth 100000
set_option maxHeartbeats 4000000
set_option pp.maxSteps 1500
namespace Ash
open PySem PySem.Spec PyProof.Rows L2
open C8 (pss_cut)
/-! ### amount questions tell what they are made of -/
def spLApart (C : TC) : Sp := fun vs H Q _ => ∃ (z : Str) (a b : Addr) (t u : Tm), vs = [.str z, .ref a, .ref b] ∧ IsNm z ∧ TmAt C H a t ∧ TmAt C H b u ∧ Gd t ∧ Gd u ∧ ∀ H', Same H H' → Q (.bl true) H'
structure AmF (K : PySem.W.Frag) (mg : Str → Option Value) (A0 : AC) (C : TC) (CA CT : Addr) : Prop where
  gA : mg "Amount" = some (.ref CA)
  gT : mg "Term" = some (.ref CT)
  aA : ∀ a, A0.Is a → PySem.W.kitOne K (.ref a) (.ref CA) = some true
  tA : ∀ a, C.Is a → PySem.W.kitOne K (.ref a) (.ref CA) = some false
  aT : ∀ a, A0.Is a → PySem.W.kitOne K (.ref a) (.ref CT) = some false
  tT : ∀ a, C.Is a → PySem.W.kitOne K (.ref a) (.ref CT) = some true
section
variable {P : Program} {w : World} {K : PySem.W.Frag} {mg : Str → Option Value} {base : Heap} {C : TC} {A0 : AC} {CAmount CTerm : Addr}
abbrev s_l_is_apart : Stmt := topS 51
theorem sc_l_is_apart : FnScope ["stream", "one", "two", "number", "count", "total", "gap", "question"] ["stream", "one", "two"] (defScope s_l_is_apart) := ⟨rfl, rfl, rfl, by decide +kernel, rfl, by decide +kernel, by decide +kernel⟩
theorem ok_lapart {f : Addr} {fd : FuncData} (F : Fun K "_law_is_apart" "_law_is_apart" s_l_is_apart f fd) (B : Blt mg) (T : TF K mg C) (AT : AF K mg A0 C) (N : NFs K A0 C) (M : AmF K mg A0 C CAmount CTerm) (G : G7m P w K mg base A0 C) : FnOk P w K mg base CX0 6 f fd ["stream", "one", "two"] (spLApart C) := by
  have c_Amount := M.gA
  have c_Term := M.gT
  obtain ⟨fQ, fdQ, NQ, FQ, bQ⟩ := G.teq
  refine F.ok sc_l_is_apart (fun vs H Q E h => ?_) (fun cdv A outer s H vs Q E hr h => ?_)
  · obtain ⟨z, a, b, t, u, rfl, _⟩ := h
    rfl
  · obtain ⟨z, a, b, t, u, rfl, hz, hT, hU, gT, gU, q⟩ := h
    refine ⟨_, (pss_cons (ps_set (i := 3) sc_l_is_apart.nd rfl (Or.inl rfl) (pe_mak G.Number (hr.mono (by decide)) pass0 (pa_cons (pv 0) (pa_cons (pv 1) pa_nil))))
    (pss_cons (ps_set (i := 4) sc_l_is_apart.nd rfl (Or.inl rfl) (pe_mak G.Count (hr.mono (by decide)) pass0 (pa_cons (pv 0) (pa_cons (pv 1) (pa_cons (pv 2) pa_nil)))))
    (pss_cons (ps_set (i := 5) sc_l_is_apart.nd rfl (Or.inl rfl) (pe_mak G.Total (hr.mono (by decide)) pass0 (pa_cons (pv 0) (pa_cons (pv 2) (pa_cons (pv 1) pa_nil)))))
    (pss_cons (ps_set (i := 6) sc_l_is_apart.nd rfl (Or.inl rfl) (pe_mak G.Gap (hr.mono (by decide)) pass0 (pa_cons (pv 1) (pa_cons (pv 2) pa_nil))))
    (pss_cons (ps_if (PW.pt (pw_or (pt_cmpR (op_neD hr.units) (pe_lst (pa_cons (pe_fld (pv 3) rfl) (pa_cons (pe_fld (pv 4) rfl) (pa_cons (pe_fld (pv 5) rfl) pa_nil)))) (pe_op op_rep (pe_lst (pa_cons (pv 0) pa_nil)) pe_int) (nomark _)) (pw_or1 (pt_cmpR (op_neFV NQ FQ bQ pass0 (hr.mono (by decide))) (pe_fld (pv 3) rfl) (pv 1) (nomark _)))))
      (pss_one (ps_ret pe_bl))
      pss_nil)
    (pss_cons (ps_if (PW.pt (pw_or (pt_cmpR (op_neFV NQ FQ bQ pass0 (hr.mono (by decide))) (pe_fld (pv 4) rfl) (pv 1) (nomark _)) (pw_or (pt_cmpR (op_neFV NQ FQ bQ pass0 (hr.mono (by decide))) (pe_fld (pv 4) rfl) (pv 2) (nomark _)) (pw_or (pt_cmpR (op_neFV NQ FQ bQ pass0 (hr.mono (by decide))) (pe_fld (pv 5) rfl) (pv 2) (nomark _)) (pw_or1 (pt_cmpR (op_neFV NQ FQ bQ pass0 (hr.mono (by decide))) (pe_fld (pv 5) rfl) (pv 1) (nomark _)))))))
      (pss_one (ps_ret pe_bl))
      pss_nil)
    (pss_cons (ps_if (PW.pt (pw_or (pt_not (pt_val (pe_callB (cr_all rfl) (by rfl) B.all (by decide +kernel) (pa_cons (pe_lc (own := [("question", 7)]) (g := gName 7) (tt := tYes) (by rfl) sc_l_is_apart.nd (pi_list (pe_lst (pa_cons (pv 3) (pa_cons (pv 4) (pa_cons (pv 5) (pa_cons (pv 6) pa_nil)))))) (blkOk_by (own := [("question", 7)]) (N := ["stream", "one", "two", "number", "count", "total", "gap", "question"]) (sc := defScope s_l_is_apart) (by decide +kernel)) (fun _ _ _ _ _ => (pg_name (i := 7) sc_l_is_apart.nd rfl (Or.inl rfl))) (fun _ _ _ _ _ => pts_nil) (fun _ _ _ _ _ => (pe_callB (show CallR _ (.builtin "isinstance") (rIsi K) from call_isi) (by rfl) B.isinstance (by decide +kernel) (pa_cons (pv 7) (pa_cons (pe_glob (v := .ref CAmount) (by rfl) c_Amount rfl) pa_nil))))) pa_nil)))) (pw_or1 (pt_val (pe_callB call_isi (by rfl) B.isinstance (by decide +kernel) (pa_cons (pv 1) (pa_cons (pe_glob (v := .ref CAmount) (by rfl) c_Amount rfl) pa_nil)))))))
      (pss_one (ps_ret pe_bl))
      pss_nil)
    (pss_one (ps_ret (pe_and (pe_cmpR (op_eqF NQ FQ bQ pass0 (hr.mono (by decide))) (pe_fld (pv 6) rfl) (pv 1) (nomark _)) (pe_and (pe_cmpR (op_eqF NQ FQ bQ pass0 (hr.mono (by decide))) (pe_fld (pv 6) rfl) (pv 2) (nomark _)) (pe_and (pe_not (pe_callB call_isi (by rfl) B.isinstance (by decide +kernel) (pa_cons (pv 6) (pa_cons (pe_glob (v := .ref CTerm) (by rfl) c_Term rfl) pa_nil)))) (pe_one (pe_callB call_isi (by rfl) B.isinstance (by decide +kernel) (pa_cons (pv 1) (pa_cons (pe_glob (v := .ref CTerm) (by rfl) c_Term rfl) pa_nil)))))))))))))))), ?_⟩
    refine ⟨_, rfl, _, rfl, mkN hz hT gT.fit fun q1 H1 hN1 s1 => ⟨_, rfl, _, rfl, _, rfl, mkC hz (hT.same s1) (hU.same s1) gT.fit gU.fit fun q2 H2 hC2 s2 => ⟨_, rfl, _, rfl, _, rfl, mkC hz ((hU.same s1).same s2) ((hT.same s1).same s2) gU.fit gT.fit fun q3 H3 hD3 s3 => ⟨_, rfl, _, rfl, mkG (((hT.same s1).same s2).same s3) (((hU.same s1).same s2).same s3) gT.fit gU.fit fun q4 H4 hG4 s4 => ?_⟩⟩⟩⟩
    have t4 := ((s1.trans s2).trans s3).trans s4
    have hT4 := hT.same t4
    have hU4 := hU.same t4
    have hN4 := ((hN1.same s2).same s3).same s4
    have hC4 := (hC2.same s3).same s4
    have hD4 := hD3.same s4
    clear hN1 hC2 hD3
    have I1 : A0.Is A0.number := A0.is_of (.number z t)
    have I2 : A0.Is A0.count := A0.is_of (.count z t u)
    have I3 : A0.Is A0.total := A0.is_of (.total z u t)
    have I4 : A0.Is A0.gap := A0.is_of (.gap t u)
    obtain ⟨dx1, b1, p1, k1, _, w1⟩ := id hN4
    obtain ⟨dx2, b2, c2, p2, k2, _, w2, y2⟩ := id hC4
    obtain ⟨dx3, b3, c3, p3, k3, _, w3, y3⟩ := id hD4
    obtain ⟨dx4, b4, c4, p4, k4, _, w4, y4⟩ := id hG4
    refine ⟨_, rfl, q1, _, dx1, _, _, rfl, k1, AT.cl _ I1, AT.no _ I1 _ (by decide +kernel), rfl, _, rfl, q2, _, dx2, _, _, rfl, k2, AT.cl _ I2, AT.no _ I2 _ (by decide +kernel), rfl, _, rfl, q3, _, dx3, _, _, rfl, k3, AT.cl _ I3, AT.no _ I3 _ (by decide +kernel), rfl, (by show 3 ≤ sizeLine; decide), fun l1 hl1 => ⟨_, rfl, (by show 1 ≤ sizeLine; decide), fun l2 hl2 => ⟨l2, 3, _, rfl, rfl, upd_same, by decide, by decide, (by show 1 * 3 ≤ sizeLine; decide), fun l3 hl3 => ?_⟩⟩⟩
    have r1 := sameAt (o := .lst [.str z, .str z, .str z]) (Same.refl H4) hl1
    have r2 := sameAt (o := .lst [.str z]) (Same.refl _) hl2
    have r3 := sameAt (o := .lst (List.replicate (3 : Int).toNat [V.str z]).flatten) (Same.refl _) hl3
    have sh : SeqAt.shaped (.list (([z, z, z] : List Str).map PyData.str)) = true := strs_shaped fun x hx => by
      have : x = z := by simpa using hx
      rw [this]
      exact nm_ok hz
    refine ⟨_, _, .lst (SqL.of ((r2.trans r3) _ _ upd_same)) (dp_strs [z, z, z]), .lst (SqL.of upd_same) (dp_strs [z, z, z]), sh, sh, _, rfl, iteN (by rw [eqv_self sh]; rfl) ?_⟩
    have r := (r1.trans r2).trans r3
    generalize (upd (upd (upd H4 l1 _) l2 _) l3 _) = H5 at r ⊢
    clear r1 r2 r3 hl1 hl2 hl3
    have tt : (!decide (t = t)) = false := by rw [decide_eq_true rfl]; rfl
    have uu : (!decide (u = u)) = false := by rw [decide_eq_true rfl]; rfl
    refine ⟨_, rfl, q1, _, dx1, _, _, rfl, (r) _ _ k1, AT.cl _ I1, AT.no _ I1 _ (by decide +kernel), rfl, _, rfl, ne_ok T N (w1.same r) (hT4.same r) gT.nm gT.nm fun H6 s6 => ⟨_, rfl, iteN tt ?_⟩⟩
    have r6 := r.trans s6
    refine ⟨_, rfl, q2, _, dx2, _, _, rfl, (r6) _ _ k2, AT.cl _ I2, AT.no _ I2 _ (by decide +kernel), rfl, _, rfl, ne_ok T N (w2.same r6) (hT4.same r6) gT.nm gT.nm fun H7 s7 => ⟨_, rfl, iteN tt ?_⟩⟩
    have r7 := r6.trans s7
    refine ⟨_, rfl, q2, _, dx2, _, _, rfl, (r7) _ _ k2, AT.cl _ I2, AT.no _ I2 _ (by decide +kernel), rfl, _, rfl, ne_ok T N (y2.same r7) (hU4.same r7) gU.nm gU.nm fun H8 s8 => ⟨_, rfl, iteN uu ?_⟩⟩
    have r8 := r7.trans s8
    refine ⟨_, rfl, q3, _, dx3, _, _, rfl, (r8) _ _ k3, AT.cl _ I3, AT.no _ I3 _ (by decide +kernel), rfl, _, rfl, ne_ok T N (w3.same r8) (hU4.same r8) gU.nm gU.nm fun H9 s9 => ⟨_, rfl, iteN uu ?_⟩⟩
    have r9 := r8.trans s9
    refine ⟨_, rfl, q3, _, dx3, _, _, rfl, (r9) _ _ k3, AT.cl _ I3, AT.no _ I3 _ (by decide +kernel), rfl, _, rfl, ne_ok T N (y3.same r9) (hT4.same r9) gT.nm gT.nm fun H10 s10 => ⟨_, rfl, iteN tt ?_⟩⟩
    have r10 := r9.trans s10
    refine ⟨_, rfl, _, rfl, _, rfl, _, rfl, (by show 4 ≤ sizeLine; decide), fun l hl => ⟨l, rfl, ⟨_, SqL.of upd_same⟩, fun D hD => ?_⟩⟩
    have x1 := sameAt (o := .lst [.ref q1, .ref q2, .ref q3, .ref q4]) (Same.refl _) hl
    refine lc_list (a := l) (xs := [V.ref q1, .ref q2, .ref q3, .ref q4]) (fun i H20 => H20 D = some (.lst ((List.replicate i true).map V.bl)) ∧ Same (upd H10 l (.lst [.ref q1, .ref q2, .ref q3, .ref q4])) H20) ⟨upd_same, sameAt (Same.refl _) hD⟩ (fun i H20 _ hv => SqL.of (hv.2 _ _ upd_same)) ?_ ?_
    · rintro i v H20 hvi ⟨hD20, s20⟩
      have hil := (List.getElem?_eq_some_iff.mp hvi).1
      have hil : i < 4 := hil
      have r20 := (r10.trans x1).trans s20
      have ty : ∃ b, TyX K H20 v (.ref b) ∧ A0.Is b := by
        match i, hil, hvi with
        | 0, _, hvi => cases hvi; exact ⟨_, AT.tyx (hN4.same r20), I1⟩
        | 1, _, hvi => cases hvi; exact ⟨_, AT.tyx (hC4.same r20), I2⟩
        | 2, _, hvi => cases hvi; exact ⟨_, AT.tyx (hD4.same r20), I3⟩
        | 3, _, hvi => cases hvi; exact ⟨_, AT.tyx (hG4.same r20), I4⟩
      obtain ⟨b0, h1, h2⟩ := ty
      refine ⟨rfl, _, rfl, _, _, _, _, _, rfl, .own _, h1, M.aA _ h2, _, hD20, (by rw [List.length_map, List.length_replicate]; exact small1000 (by omega)), ?_, sameAt s20 hD⟩
      rw [upd_same, List.replicate_succ', List.map_append]
      rfl
    · rintro H20 ⟨hD20, s20⟩
      have r20 := (r10.trans x1).trans s20
      refine ⟨D, _, rfl, SqL.of hD20, _, rfl, iteN rfl ⟨_, rfl, _, _, _, _, _, rfl, .own _, T.tyx (hT4.same r20), M.tA _ (C.is_of t), _, rfl, iteN rfl ?_⟩⟩
      refine ⟨_, rfl, q4, _, dx4, _, _, rfl, (r20) _ _ k4, AT.cl _ I4, AT.no _ I4 _ (by decide +kernel), rfl, _, rfl, eq_ok T N (w4.same r20) (hT4.same r20) gT.nm gT.nm fun H21 s21 => ⟨_, rfl, iteP (decide_eq_true rfl) ?_⟩⟩
      have r21 := r20.trans s21
      refine ⟨_, rfl, q4, _, dx4, _, _, rfl, (r21) _ _ k4, AT.cl _ I4, AT.no _ I4 _ (by decide +kernel), rfl, _, rfl, eq_ok T N (y4.same r21) (hU4.same r21) gU.nm gU.nm fun H22 s22 => ⟨_, rfl, iteP (decide_eq_true rfl) ?_⟩⟩
      have r22 := r21.trans s22
      refine ⟨_, rfl, _, _, _, _, _, rfl, .own _, AT.tyx (hG4.same r22), M.aT _ I4, _, rfl, _, rfl, iteP rfl ?_⟩
      exact ⟨_, rfl, _, _, _, _, _, rfl, .own _, T.tyx (hT4.same r22), M.tT _ (C.is_of t), q _ (t4.trans r22)⟩
end
end Ash

set_option Elab.async false
set_option linter.all false
set_option maxRecDepth 100000
set_option maxHeartbeats 4000000
set_option pp.maxSteps 1500
namespace Ash
open PySem PySem.Spec PyProof.Rows L2
open C8 (pss_cut)
/-! ### the law -/
def spLaw (K : PySem.W.Frag) : Sp := fun vs H Q _ => ∃ (a : Addr) (ns : List Int), vs = [.ref a] ∧ SqL K H a (ns.map V.int) ∧ ns.length ≤ 63 ∧ ∀ H', Q (.bl true) H'
section
variable {P : Program} {w : World} {K : PySem.W.Frag} {mg : Str → Option Value} {base : Heap} {C : TC} {A0 : AC} {CT : Addr}
structure L12 (P : Program) (w : World) (K : PySem.W.Frag) (mg : Str → Option Value) (base : Heap) (A0 : AC) (C : TC) (CT : Addr) : Prop extends G7m P w K mg base A0 C where
  law_pool : Cal P w K mg base CX0 "_law_pool" 1 ["script"] (spPool K)
  law_draw : CDraw P w K mg base
  law_names : Cal P w K mg base CX0 "_law_names" 2 ["pool", "many"] spNames
  Now : Mak P w K mg base CX0 "Now" C.now 2 ["self"] (spInit0 C)
  law_step : Cal P w K mg base CX0 "_law_step" 16 ["pool", "streams", "grown", "smaller"] (spLStep C)
  law_is_sized : Cal P w K mg base CX0 "_law_is_sized" 16 ["term", "model"] (spLSized C)
  law_shifts : Cal P w K mg base CX0 "_law_shifts" 8 ["pool", "term"] (spLShifts C)
  law_equal : Cal P w K mg base CX0 "_law_equal" 6 ["stream", "grown", "smaller"] (spLEqual C)
  law_is_apart : Cal P w K mg base CX0 "_law_is_apart" 6 ["stream", "one", "two"] (spLApart C)
  mstr : Cal P w K mg base CX0 "_law_streams" 14 ["model"] (spMStrs 12)
  astreams : ∃ f fd, MethF K A0.Is "streams" f ∧ FnOk P w K mg base CX0 16 f fd ["self"] (spAStrs A0 C) ∧ Binds K fd ["self"] []
abbrev s_law : Stmt := topS 55
theorem sc_law : FnScope ["script", "pool", "streams", "grown", "smaller", "k", "told", "stream", "question", "due"] ["script"] (defScope s_law) := ⟨rfl, rfl, rfl, by decide +kernel, rfl, by decide +kernel, by decide +kernel⟩
theorem ok_law {f : Addr} {fd : FuncData} (F : Fun K "law" "law" s_law f fd) (B : Blt mg) (G : L12 P w K mg base A0 C CT) : FnOk P w K mg base CX0 40 f fd ["script"] (spLaw K) := by
  obtain ⟨fs, fds, MS, FS, bS⟩ := G.astreams
  refine F.ok sc_law (fun vs H Q E h => ?_) (fun cdv A outer s H vs Q E hr h => ?_)
  · obtain ⟨a, ns, rfl, _⟩ := h
    rfl
  · obtain ⟨a, ns, rfl, hS, hlen, q⟩ := h
    have hu := hu_of hr
    refine ⟨_, (pss_cons (ps_set (i := 1) sc_law.nd rfl (Or.inl rfl) (pe_cal G.law_pool (hr.mono (by decide)) pass0 (pa_cons (pv 0) pa_nil)))
    (pss_cons (ps_set (i := 2) sc_law.nd rfl (Or.inl rfl) (pe_cal G.law_names (hr.mono (by decide)) pass0 (pa_cons (pv 1) (pa_cons (pe_op op_add pe_int (pe_cal G.law_draw (hr.mono (by decide)) pass0 (pa_cons (pv 1) (pa_cons pe_int pa_nil)))) pa_nil))))
    (pss_cons (ps_set (i := 3) sc_law.nd rfl (Or.inl rfl) (pe_tup (pa_cons (pe_mak0 G.Now (hr.mono (by decide)) pass0) (pa_cons (pe_tup (pa_cons pe_str pa_nil)) pa_nil))))
    (pss_cons (ps_set (i := 4) sc_law.nd rfl (Or.inl rfl) (pv 3))
    (pss_cons (ps_for PassesOwn.never rfl (pi_range1 (by rfl) B.range (pa_cons pe_int pa_nil)) (pg_name (i := 5) sc_law.nd rfl (Or.inl rfl))
      (pss_cons (ps_set (i := 6) sc_law.nd rfl (Or.inl rfl) (pe_cal G.law_step (hr.mono (by decide)) pass0 (pa_cons (pv 1) (pa_cons (pv 2) (pa_cons (pv 3) (pa_cons (pv 4) pa_nil))))))
      (pss_cons (ps_if (PW.pt (pw_or (pt_not (pt_val (pe_ix ix_tup (pv 6) pe_int (fun _ _ => rfl)))) (pw_or1 (pt_not (pt_val (pe_cal G.law_is_sized (hr.mono (by decide)) pass0 (pa_cons (pe_ix ix_tup (pv 3) pe_int (fun _ _ => rfl)) (pa_cons (pe_ix ix_tup (pv 3) pe_int (fun _ _ => rfl)) pa_nil))))))))
        (pss_one (ps_ret pe_bl))
        pss_nil)
      (pss_one (ps_if (pt_cmpR op_eq (pe_ix ix_tup (pv 6) pe_int (fun _ _ => rfl)) pe_str (nomark _))
        (pss_cons (ps_if (pt_cmpR op_eq (pe_cal G.law_draw (hr.mono (by decide)) pass0 (pa_cons (pv 1) (pa_cons pe_int pa_nil))) pe_int (nomark _))
          (pss_one (ps_set (i := 4) sc_law.nd rfl (Or.inl rfl) (pv 3)))
          pss_nil)
        (pss_one (ps_set (i := 3) sc_law.nd rfl (Or.inl rfl) (pe_ix ix_tup (pv 6) pe_int (fun _ _ => rfl)))))
        pss_nil)))))
    (pss_cons (ps_set (i := 7) sc_law.nd rfl (Or.inl rfl) (pe_ix ix_list (pv 2) (pe_cal G.law_draw (hr.mono (by decide)) pass0 (pa_cons (pv 1) (pa_cons (pe_callB call_len (by rfl) B.len (by decide +kernel) (pa_cons (pv 2) pa_nil)) pa_nil))) (fun _ _ => rfl)))
    (pss_cons (ps_if (PW.pt (pw_or (pt_not (pt_val (pe_cal G.law_shifts (hr.mono (by decide)) pass0 (pa_cons (pv 1) (pa_cons (pe_ix ix_tup (pv 4) pe_int (fun _ _ => rfl)) pa_nil))))) (pw_or1 (pt_not (pt_val (pe_cal G.law_equal (hr.mono (by decide)) pass0 (pa_cons (pv 7) (pa_cons (pv 3) (pa_cons (pv 4) pa_nil)))))))))
      (pss_one (ps_ret pe_bl))
      pss_nil)
    (pss_cons (ps_if (pt_not (pt_val (pe_cal G.law_is_apart (hr.mono (by decide)) pass0 (pa_cons (pv 7) (pa_cons (pe_ix ix_tup (pv 3) pe_int (fun _ _ => rfl)) (pa_cons (pe_ix ix_tup (pv 4) pe_int (fun _ _ => rfl)) pa_nil))))))
      (pss_one (ps_ret pe_bl))
      pss_nil)
    (pss_cons (ps_set (i := 8) sc_law.nd rfl (Or.inl rfl) (pe_mak G.Total (hr.mono (by decide)) pass0 (pa_cons (pv 7) (pa_cons (pe_ix ix_tup (pv 3) pe_int (fun _ _ => rfl)) (pa_cons (pe_ix ix_tup (pv 4) pe_int (fun _ _ => rfl)) pa_nil)))))
    (pss_cons (ps_set (i := 9) sc_law.nd rfl (Or.inl rfl) (pe_callB (cr_sortM rfl) (by rfl) B.sorted (by decide +kernel) (pa_cons (pe_callTy (cr_setL rfl) (by rfl) B.set (by decide +kernel) (pa_cons (pe_op op_cat (pe_op op_cat (pe_lst (pa_cons (pv 7) pa_nil)) (pe_cal G.mstr (hr.mono (by decide)) pass0 (pa_cons (pe_ix ix_tup (pv 3) pe_int (fun _ _ => rfl)) pa_nil))) (pe_cal G.mstr (hr.mono (by decide)) pass0 (pa_cons (pe_ix ix_tup (pv 4) pe_int (fun _ _ => rfl)) pa_nil))) pa_nil)) pa_nil)))
    (pss_one (ps_ret (pe_and (pe_cmpR (op_eqD hr.units) (pe_methF0 (pv 8) MS FS (hr.mono (by decide)) bS pass0) (pv 9) (nomark _)) (pe_one (pe_cmpR (op_eqD hr.units) (pe_methF0 (pe_mak G.Gap (hr.mono (by decide)) pass0 (pa_cons (pe_ix ix_tup (pv 3) pe_int (fun _ _ => rfl)) (pa_cons (pe_ix ix_tup (pv 4) pe_int (fun _ _ => rfl)) pa_nil))) MS FS (hr.mono (by decide)) bS pass0) (pe_callB (cr_sortM rfl) (by rfl) B.sorted (by decide +kernel) (pa_cons (pe_callTy (cr_setL rfl) (by rfl) B.set (by decide +kernel) (pa_cons (pe_op op_cat (pe_cal G.mstr (hr.mono (by decide)) pass0 (pa_cons (pe_ix ix_tup (pv 3) pe_int (fun _ _ => rfl)) pa_nil)) (pe_cal G.mstr (hr.mono (by decide)) pass0 (pa_cons (pe_ix ix_tup (pv 4) pe_int (fun _ _ => rfl)) pa_nil))) pa_nil)) pa_nil)) (nomark _)))))))))))))))), ?_⟩
    refine ⟨_, rfl, a, ns, rfl, hS, fun p s0 H1 hp1 hP1 s1 => ?_⟩
    refine ⟨_, rfl, _, rfl, p, s0, 3, rfl, hP1, (by decide), (by decide), fun y H2 y0 y3 P2 => ⟨_, _, rfl, rfl, p, s0, 1 + y, rfl, P2.now, (by omega), (by omega), fun l names H3 hl0 hl hlen hnd hnm P3 => ?_⟩⟩
    have lp : l ≠ p := fun z => P2.now.ne.1 (z ▸ hl0)
    have hP3 := P3.now
    have n1 : 1 ≤ names.length := by omega
    have n25 : names.length ≤ 25 := by omega
    clear hlen P3 P2 hl0 hP1 s1 hp1
    refine fun a0 dx0 ha0 hdx0 hne0 => ⟨a0, dx0, rfl, upd_same, fun H4 hT4 hK4 => ⟨rfl, (by show 1 ≤ sizeLine; decide), fun e he => ⟨(by show 2 ≤ sizeLine; decide), fun g hg => ?_⟩⟩⟩
    have s4 := keep_make hK4 ha0 hdx0
    have w1 := sameAt (o := .tup [.str "now"]) (Same.refl H4) he
    have w2 := sameAt (o := .tup [.ref a0, .ref e]) (Same.refl _) hg
    have g0 : GrAt C (upd (upd H4 e (.tup [.str "now"])) g (.tup [.ref a0, .ref e])) g .now := ⟨a0, e, upd_same, hT4.same (w1.trans w2), w2 _ _ upd_same⟩
    have P4 : Pl H3 (upd (upd H4 e (.tup [.str "now"])) g (.tup [.ref a0, .ref e])) p s0 := (Pl.refl hP3).same ((s4.trans w1).trans w2)
    refine ⟨_, rfl, _, rfl, (by decide), (by decide), for_range (n := 15) (fun i σ H' => (∃ g m t u x5 x6, σ = [some (.ref a), some (.ref p), some (.ref l), some (.ref g), some (.ref m), x5, x6, none, none, none] ∧ GrAt C H' g t ∧ GrAt C H' m u ∧ Gd t ∧ Gd u) ∧ Pl H3 H' p s0) ⟨⟨g, g, .now, .now, _, _, rfl, g0, g0, gd_now, gd_now⟩, P4⟩ ?_ ?_⟩
    · clear g0 P4 w1 w2 s4 hg he hT4 hK4 ha0 hdx0 hne0
      rintro i σ H5 hi ⟨⟨g, m, t, u, x5, x6, rfl, hG, hM, gT, gU⟩, P5⟩
      refine ⟨_, rfl, _, rfl, _, rfl, _, rfl, p, s0, l, g, m, names, t, u, rfl, P5.now, lp, P5.keep hl lp, n1, n25, hnm, hG, hM, gT, gU, fun q1 us H6 hq6 hus P6 => ?_⟩
      have P56 := P5.trans P6
      have hG6 := hG.nl (nl_pl P5.now P6)
      have hM6 := hM.nl (nl_pl P5.now P6)
      obtain ⟨c, e, hg6, hc6, he6⟩ := id hG6
      rcases hus with rfl | ⟨g', t', rfl, hG', gT'⟩
      · refine ⟨_, rfl, _, _, _, _, rfl, rfl, SqT.of hq6, rfl, _, rfl, iteN rfl ⟨_, rfl, _, _, _, _, rfl, rfl, SqT.of hg6, rfl, _, rfl, _, _, _, _, rfl, rfl, SqT.of hg6, rfl, c, e, t, rfl, hc6, he6, gT, fun H7 s7 => ⟨_, rfl, iteN rfl ?_⟩⟩⟩
        have hq7 := s7 _ _ hq6
        exact ⟨_, rfl, _, _, _, _, rfl, rfl, SqT.of hq7, rfl, rfl, _, rfl, iteN (by decide) ⟨⟨g, m, t, u, _, _, rfl, hG6.nl (nl_same s7), hM6.nl (nl_same s7), gT, gU⟩, P56.same s7⟩⟩
      · refine ⟨_, rfl, _, _, _, _, rfl, rfl, SqT.of hq6, rfl, _, rfl, iteN rfl ⟨_, rfl, _, _, _, _, rfl, rfl, SqT.of hg6, rfl, _, rfl, _, _, _, _, rfl, rfl, SqT.of hg6, rfl, c, e, t, rfl, hc6, he6, gT, fun H7 s7 => ⟨_, rfl, iteN rfl ?_⟩⟩⟩
        have hq7 := s7 _ _ hq6
        have P7 := P56.same s7
        refine ⟨_, rfl, _, _, _, _, rfl, rfl, SqT.of hq7, rfl, rfl, _, rfl, iteP (by decide) ⟨_, rfl, p, s0, 3, rfl, P7.now, (by decide), (by decide), fun x H8 x0 x3 P8 => ⟨rfl, _, rfl, ?_⟩⟩⟩
        have n8 := nl_pl P7.now P8
        have hq8 := n8 _ _ hq7 (fun _ z => nomatch z)
        have hG8 := (hG6.nl (nl_same s7)).nl n8
        have hM8 := (hM6.nl (nl_same s7)).nl n8
        have hN8 := (hG'.nl (nl_same s7)).nl n8
        refine ite2 (fun _ => ?_) (fun _ => ?_)
        · exact ⟨_, rfl, _, rfl, _, _, _, _, rfl, rfl, SqT.of hq8, rfl, ⟨g', g, t', t, _, _, rfl, hN8, hG8, gT', gT⟩, P7.trans P8⟩
        · exact ⟨_, rfl, _, _, _, _, rfl, rfl, SqT.of hq8, rfl, ⟨g', m, t', u, _, _, rfl, hN8, hM8, gT', gU⟩, P7.trans P8⟩
    · clear g0 P4 w1 w2 s4 hg he hT4 hK4 ha0 hdx0 hne0
      rintro σ H5 ⟨⟨g, m, t, u, x5, x6, rfl, hG, hM, gT, gU⟩, P5⟩
      have hl5 := P5.keep hl lp
      refine ⟨_, rfl, _, rfl, _, rfl, _, _, rfl, .inl ⟨_, SqL.of hl5, rfl⟩, p, s0, _, rfl, P5.now, (by rw [List.length_map]; omega), Int.lt_of_le_of_lt (show ((names.map V.str).length : Int) ≤ 25 by rw [List.length_map]; omega) (by decide), fun j H6 j0 j1 P6 => ?_⟩
      rw [List.length_map] at j1
      obtain ⟨j, rfl⟩ : ∃ i : Nat, j = (i : Int) := ⟨j.toNat, by omega⟩
      have hj : j < names.length := by omega
      have hz : names[j] ∈ names := List.getElem_mem hj
      generalize hzz : names[j] = z at hz
      have hz := hnm z hz
      refine ⟨_, _, _, .str z, rfl, rfl, SqL.of (P6.keep hl5 lp), atI_nat (by rw [List.getElem?_map, List.getElem?_eq_getElem hj, hzz]; rfl), ?_⟩
      have hG6 := hG.nl (nl_pl P5.now P6)
      have hM6 := hM.nl (nl_pl P5.now P6)
      have hP6 := P6.now
      clear hzz hj j1 j0 hl5 hG hM P6 P5 hl hnm n1 n25 hnd
      obtain ⟨b, i, hm6, hb6, hi6⟩ := id hM6
      refine ⟨_, rfl, _, rfl, _, _, _, _, rfl, rfl, SqT.of hm6, rfl, p, s0, b, u, rfl, hP6, hb6, gU, fun H7 P7 => ⟨_, rfl, iteN rfl ?_⟩⟩
      have hG7 := hG6.nl (nl_pl hP6 P7)
      have hM7 := hM6.nl (nl_pl hP6 P7)
      clear hG6 hM6 hm6 hb6 hi6
      refine ⟨_, rfl, _, rfl, _, rfl, z, g, m, t, u, rfl, hz, hG7, hM7, gT, gU, fun H8 s8 => ⟨_, rfl, iteN rfl ?_⟩⟩
      obtain ⟨c, e, hg, hc, he⟩ := hG7.nl (nl_same s8)
      obtain ⟨b, i, hm, hb, hi⟩ := hM7.nl (nl_same s8)
      clear hG7 hM7
      refine ⟨_, rfl, _, rfl, _, _, _, _, rfl, rfl, SqT.of hg, rfl, _, rfl, _, _, _, _, rfl, rfl, SqT.of hm, rfl, z, c, b, t, u, rfl, hz, hc, hb, gT, gU, fun H9 s9 => ⟨_, rfl, iteN rfl ?_⟩⟩
      have hg9 := s9 _ _ hg
      have hm9 := s9 _ _ hm
      refine ⟨_, rfl, _, rfl, _, _, _, _, rfl, rfl, SqT.of hg9, rfl, _, rfl, _, _, _, _, rfl, rfl, SqT.of hm9, rfl, mkC hz (hc.same s9) (hb.same s9) gT.fit gU.fit fun qa H10 hA s10 => ?_⟩
      have r10 := s9.trans s10
      have lt_ := strs_len t
      have lu_ := strs_len u
      have k1 : t.lok ≤ 12 := gT.fit.2.2
      have k2 : u.lok ≤ 12 := gU.fit.2.2
      have z24 : ∀ x, x ∈ [z] ++ t.streams ++ u.streams → PyData.strOk x = true := fun x hx => by
        rcases List.mem_append.mp hx with hx | hx
        · rcases List.mem_append.mp hx with hx | hx
          · rw [List.mem_singleton.mp hx]
            exact nm_ok hz
          · exact nm_ok (nms_str gT.nm x hx)
        · exact nm_ok (nms_str gU.nm x hx)
      refine ⟨_, rfl, (by show 1 ≤ sizeLine; decide), fun l1 hl1 => ?_⟩
      have r11 := r10.trans (sameAt (o := .lst [.str z]) (Same.refl H10) hl1)
      have hg11 := r11 _ _ hg
      refine ⟨_, rfl, _, _, _, _, rfl, rfl, SqT.of hg11, rfl, e, t, rfl, he.same r11, gT.fit.1, by omega, fun l2 H12 s12 hn2 hl2 => ⟨l1, l2, _, _, rfl, rfl, s12 _ _ upd_same, hl2, (by rw [List.length_map]; exact Nat.le_of_lt (small1000 (show 1 + t.streams.length ≤ 1000 by omega))), fun l3 hl3 => ?_⟩⟩
      have r13 := (r11.trans s12).trans (sameAt (o := .lst ([.str z] ++ t.streams.map V.str)) (Same.refl H12) hl3)
      have hm13 := r13 _ _ hm
      refine ⟨_, rfl, _, _, _, _, rfl, rfl, SqT.of hm13, rfl, i, u, rfl, hi.same r13, gU.fit.1, by omega, fun l4 H14 s14 hn4 hl4 => ⟨l3, l4, _, _, rfl, rfl, s14 _ _ upd_same, hl4, (by rw [List.length_append, List.length_map, List.length_map]; exact Nat.le_of_lt (small1000 (show 1 + t.streams.length + u.streams.length ≤ 1000 by omega))), fun l5 hl5 => ?_⟩⟩
      have r15 := (r13.trans s14).trans (sameAt (o := .lst (([.str z] ++ t.streams.map V.str) ++ u.streams.map V.str)) (Same.refl H14) hl5)
      have ek : (([z] ++ t.streams ++ u.streams).map (Sum.inr : Str → Key)).map kV = ([V.str z] ++ t.streams.map V.str) ++ u.streams.map V.str := by rw [List.map_map, List.map_append, List.map_append]; rfl
      refine ⟨l5, ([z] ++ t.streams ++ u.streams).map Sum.inr, rfl, SqL.of (by rw [ek]; exact upd_same), (by rw [List.length_map, List.length_append, List.length_append]; show 1 + t.streams.length + u.streams.length ≤ 1000; omega), fun ps n hps hn => ⟨ps, _, n, rfl, upd_same, .inl ⟨[z] ++ t.streams ++ u.streams, fun k => kIn_iff, fun ys q2 hq2 nd2 hm2 hs2 hln2 => ?_⟩⟩⟩
      have hA10 := hA
      have v1 : Same H10 _ := ((((sameAt (o := .lst [.str z]) (Same.refl H10) hl1).trans s12).trans (sameAt (o := .lst ([.str z] ++ t.streams.map V.str)) (Same.refl H12) hl3)).trans s14).trans (sameAt (o := .lst (([.str z] ++ t.streams.map V.str) ++ u.streams.map V.str)) (Same.refl H14) hl5)
      have v2 := v1.trans ((sameAt (o := SetMO w ps (kIn (([z] ++ t.streams ++ u.streams).map Sum.inr)) n) (Same.refl _) hps).trans (sameAt (o := .lst (ys.map V.str)) (Same.refl _) hq2))
      have rr := r10.trans v2
      have hAA := hA.same v2
      have hq2' : upd (upd (upd H14 l5 (.lst (([.str z] ++ t.streams.map V.str) ++ u.streams.map V.str))) ps (SetMO w ps (kIn (([z] ++ t.streams ++ u.streams).map Sum.inr)) n)) q2 (.lst (ys.map V.str)) q2 = some (.lst (ys.map V.str)) := upd_same
      clear v1 v2 r15 r13 r11 hn4 hn2 hl1 hl3 hl4 hl5 hl2 hg11 hm13 hps
      obtain ⟨dq, bq, cq, sq, kq, _⟩ := id hAA
      refine ⟨_, rfl, qa, _, dq, _, rfl, kq, A0.is_of (.total z t u), rfl, qa, .total z t u, rfl, hAA, ⟨gT.fit, gU.fit⟩, fun q3 zs H17 s17 hn3 hq3 nd3 hs3 hm3 => ?_⟩
      have e1 : zs = ys := strs_same hs3 hs2 nd3 nd2 fun x => by rw [hm3, hm2]; simp [Am.streams, Am.own, Am.tms]
      subst e1
      have zo : ∀ x ∈ zs, PyData.strOk x = true := fun x hx => z24 x ((hm2 x).mp hx)
      refine ⟨_, rfl, _, _, .lst (SqL.of hq3) (dp_strs zs), .lst (SqL.of (s17 _ _ hq2')) (dp_strs zs), strs_shaped zo, strs_shaped zo, _, rfl, iteP (eqv_self (strs_shaped zo)) ?_⟩
      have rr17 := rr.trans s17
      have hg17 := rr17 _ _ hg
      have hm17 := rr17 _ _ hm
      refine ⟨_, rfl, _, _, _, _, rfl, rfl, SqT.of hg17, rfl, _, rfl, _, _, _, _, rfl, rfl, SqT.of hm17, rfl, mkG (hc.same rr17) (hb.same rr17) gT.fit gU.fit fun qb H18 hB s18 => ?_⟩
      have r18 := rr17.trans s18
      obtain ⟨dp, bp, cp, sp, kp, _⟩ := id hB
      refine ⟨qb, _, dp, _, rfl, kp, A0.is_of (.gap t u), rfl, qb, .gap t u, rfl, hB, ⟨gT.fit, gU.fit⟩, fun q4 xs H19 s19 hn4 hq4 nd4 hs4 hm4 => ?_⟩
      have r19 := r18.trans s19
      have hg19 := r19 _ _ hg
      refine ⟨_, rfl, _, _, _, _, rfl, rfl, SqT.of hg19, rfl, e, t, rfl, he.same r19, gT.fit.1, by omega, fun l6 H20 s20 hn6 hl6 => ?_⟩
      have r20 := r19.trans s20
      have hm20 := r20 _ _ hm
      refine ⟨_, rfl, _, _, _, _, rfl, rfl, SqT.of hm20, rfl, i, u, rfl, hi.same r20, gU.fit.1, by omega, fun l7 H21 s21 hn7 hl7 => ⟨l6, l7, _, _, rfl, rfl, s21 _ _ hl6, hl7, (by rw [List.length_map, List.length_map]; exact Nat.le_of_lt (small1000 (by omega))), fun l8 hl8 => ?_⟩⟩
      have ek2 : ((t.streams ++ u.streams).map (Sum.inr : Str → Key)).map kV = t.streams.map V.str ++ u.streams.map V.str := by rw [List.map_map, List.map_append]; rfl
      refine ⟨l8, (t.streams ++ u.streams).map Sum.inr, rfl, SqL.of (by rw [ek2]; exact upd_same), (by rw [List.length_map, List.length_append]; omega), fun p9 n9 hp9 hn9 => ⟨p9, _, n9, rfl, upd_same, .inl ⟨t.streams ++ u.streams, fun k => kIn_iff, fun ws q5 hq5 nd5 hm5 hs5 hln5 => ?_⟩⟩⟩
      have e2 : xs = ws := strs_same hs4 hs5 nd4 nd5 fun x => by rw [hm4, hm5]; simp [Am.streams, Am.own, Am.tms]
      subst e2
      have zo2 : ∀ x ∈ xs, PyData.strOk x = true := fun x hx => z24 x (by
        have := (hm5 x).mp hx
        rw [List.append_assoc]
        exact List.mem_append.mpr (.inr this))
      have r22 := ((s20.trans s21).trans (sameAt (o := .lst (t.streams.map V.str ++ u.streams.map V.str)) (Same.refl H21) hl8)).trans ((sameAt (o := SetMO w p9 (kIn ((t.streams ++ u.streams).map Sum.inr)) n9) (Same.refl _) hp9).trans (sameAt (o := .lst (xs.map V.str)) (Same.refl _) hq5))
      refine ⟨_, _, .lst (SqL.of (r22 _ _ hq4)) (dp_strs xs), .lst (SqL.of upd_same) (dp_strs xs), strs_shaped zo2, strs_shaped zo2, ?_⟩
      rw [eqv_self (strs_shaped zo2)]
      exact q _
end
end Ash

set_option Elab.async false
set_option linter.all false
set_option maxRecDepth 100000
set_option maxHeartbeats 4000000
namespace Ash
open PySem PySem.Spec PyProof.Rows L2
/-! ### what the top has written -/
/-- a def of the top -/
structure D1 (K : PySem.W.Frag) (mg : Str → Option Value) (x : Str) (st : Stmt) : Prop where
  ex : ∃ (f : Addr) (fd : FuncData), mg x = some (.ref f) ∧ Fun K x x st f fd
/-- a method -/
structure DM (K : PySem.W.Frag) (C : Addr) (m qual : Str) (st : Stmt) : Prop where
  ex : ∃ (f : Addr) (fd : FuncData), Meth K C m f ∧ Fun K m qual st f fd
/-- a method at a known place -/
structure DQ (K : PySem.W.Frag) (C f : Addr) (m qual : Str) (st : Stmt) : Prop where
  ex : ∃ fd : FuncData, Meth K C m f ∧ Fun K m qual st f fd
/-- an __init__ with one default -/
structure DD (K : PySem.W.Frag) (C a : Addr) (qual : Str) (st : Stmt) : Prop where
  ex : ∃ (f : Addr) (fd : FuncData), Mk K C f ∧ FunD K "__init__" qual (defArgs st) (defBody st) (defScope st) [.ref a] [] f fd
section
variable {K : PySem.W.Frag} {h : Heap} {mg : Str → Option Value} {x qual : Str} {st : Stmt} {f C : Addr} {oc kV dc pm cdv ct : Value} {od an : Option Addr} {sl : Array (Option Value)}
theorem d1 (X : K.In h) (G : h.Ns mainGlobals mg) (a : PySem.W.nsIn K mainGlobals x = some (some (.ref f))) (l : K.lookup f = some ⟨oc, od, .func (PySem.W.fnOf x x (defArgs st) (defBody st) (defScope st) .none kV dc pm an cdv ct), sl⟩) (c : PySem.W.codeIn K cdv x = true) (k : PySem.W.keepIn K (.ref f) = true) : D1 K mg x st :=
  ⟨f, _, PySem.W.mg_of X G a, fun_mk l c k⟩
theorem dm (a : PySem.W.findIn K (.ref C) x = some (some (.ref f))) (i : PySem.W.isFn K (.ref f) = true) (l : K.lookup f = some ⟨oc, od, .func (PySem.W.fnOf x qual (defArgs st) (defBody st) (defScope st) .none kV dc pm an cdv ct), sl⟩) (c : PySem.W.codeIn K cdv qual = true) (k : PySem.W.keepIn K (.ref f) = true) : DM K C x qual st :=
  ⟨f, _, ⟨a, i, k⟩, fun_mk l c k⟩
theorem dq (a : PySem.W.findIn K (.ref C) x = some (some (.ref f))) (i : PySem.W.isFn K (.ref f) = true) (l : K.lookup f = some ⟨oc, od, .func (PySem.W.fnOf x qual (defArgs st) (defBody st) (defScope st) .none kV dc pm an cdv ct), sl⟩) (c : PySem.W.codeIn K cdv qual = true) (k : PySem.W.keepIn K (.ref f) = true) : DQ K C f x qual st :=
  ⟨_, ⟨a, i, k⟩, fun_mk l c k⟩
theorem dd {a T : Addr} {oT : Value} {dT : Option Addr} {slT : Array (Option Value)} {n : Nat} (m1 : PySem.W.makesIn K C = true) (m2 : PySem.W.findIn K (.ref C) "__init__" = some (some (.ref f))) (m3 : PySem.W.isFn K (.ref f) = true) (m4 : PySem.W.keepIn K (.ref C) = true)
    (l : K.lookup f = some ⟨oc, od, .func (PySem.W.fnOf "__init__" qual (defArgs st) (defBody st) (defScope st) (.ref T) kV dc pm an cdv ct), sl⟩) (lT : K.lookup T = some ⟨oT, dT, .seq #[.ref a] n, slT⟩) (c : PySem.W.codeIn K cdv qual = true) (k : PySem.W.keepIn K (.ref f) = true) : DD K C a qual st :=
  ⟨f, _, ⟨m1, m2, m3, m4⟩, ⟨⟨oc, od, .ref T, kV, dc, pm, an, cdv, ct, sl, rfl, l, c, .inr ⟨by simp, T, _, [.ref a], n, rfl, lT, rfl, .cons rfl .nil⟩, .inl rfl⟩, k⟩⟩
theorem sq_of {a : Addr} {d : Option Addr} {n : Nat} (l : K.lookup a = some ⟨.type "tuple", d, .seq #[] n, sl⟩) (H : Hp) : SqT K H a [] := .inr ⟨_, #[], n, l, rfl, rfl, Nat.zero_le _, .nil⟩
theorem tt_mk {a : Addr} {d : Option Addr} {n : Nat} (l : K.lookup a = some ⟨.type "tuple", d, .seq #[] n, sl⟩) : ∃ (o : Obj) (n : Nat), K.lookup a = some o ∧ o.cls = .type "tuple" ∧ o.data = .seq #[] n := ⟨_, n, l, rfl, rfl⟩
end
section
variable {P : Program} {w : World} {K : PySem.W.Frag} {mg : Str → Option Value} {base : Heap} {CX : CXT} {x : Str} {st : Stmt} {ps : List Str} {k : Nat} {sp : Sp}
theorem cal_of (D : D1 K mg x st) (hb : ∀ (kV doc pm : Value) (an : Option Addr) (cdv ct : Value) (us : List Value), us.length = ps.length → bindArgs (PySem.W.fnOf x x (defArgs st) (defBody st) (defScope st) .none kV doc pm an cdv ct) ⟨us, []⟩ = pure (ps.zip us))
    (ok : ∀ f fd, Fun K x x st f fd → FnOk P w K mg base CX k f fd ps sp) : Cal P w K mg base CX x k ps sp := by
  obtain ⟨f, fd, hm, F⟩ := D.ex
  exact ⟨f, fd, hm, F.kp, F.binds hb, ok f fd F⟩
end
/-- a class is what its instances are -/
structure BkI (K : PySem.W.Frag) (CB : Addr) : Prop where
  ha : PySem.W.findIn K (.ref CB) "__class__" = some (some (.builtin "object.__class__"))
  hn : PySem.W.specialIn K (.builtin "object.__class__") "__get__" = some (some (.builtin "getset_descriptor.__get__"))
  ht : PySem.W.takesIn K (.builtin "object.__class__") = some true
  hm : PySem.W.mroIn K CB (.type "object") = some true
theorem ne_mk {K : PySem.W.Frag} {C f N : Addr} {nm q : Str} {bs : List Value} {hd ab : Bool} {sn : List Str} {sub : List Value} {col : Option Bool} {dd : Option Addr} {k0 k1 k2 k3 k5 : Option Value} {nid : String} {fo : Obj} (h1 : K.lookup C = some (excClassObj nm q C N bs [.type "object"] hd sn sub ab col dd k0 k1 k2 k3 k5 nid)) {oN : Value} {dN : Option Addr} {es : Array DictEntry} {nn : Nat} {slN : Array (Option Value)} (h2 : K.lookup N = some ⟨oN, dN, .dict es nn, slN⟩) (h7 : (es.toList.all fun e => match e.key with | .str _ _ => true | _ => false) = true) (h3 : PySem.W.nsIn K N "__eq__" = some (some (.ref f))) (h4 : PySem.W.nsIn K N "__ne__" = some none) (h5 : K.lookup f = some fo) (h6 : fo.cls = .type "function") : NeC K C f :=
  ⟨⟨nm, q, N, bs, hd, sn, sub, ab, col, dd, k0, k1, k2, k3, k5, nid, fo, h1, by unfold PySem.W.nsOkIn; rw [h2]; exact (Array.all_toList ..).symm.trans h7, h3, h4, h5, h6⟩⟩
theorem kit_ref {K : PySem.W.Frag} {C : Addr} {T : String} {b : Bool} (hm : PySem.W.kitMeta T = true) (h : PySem.W.subIn K (.ref C) (.type T) = some b) : PySem.W.kitOne K (.ref C) (.type T) = some b := by
  have e : (Value.ref C == Value.type T) = false := rfl
  unfold PySem.W.kitOne PySem.W.kitCls
  rw [e, if_neg Bool.false_ne_true]
  show (if PySem.W.kitMeta T = true then _ else _) = _
  rw [if_pos hm]
  exact h
theorem exm_me {K : PySem.W.Frag} {C : Addr} (h1 : PySem.W.subIn K (.ref C) (.type "BaseException") = some true) (h2 : PySem.W.isClsIn K C = true) (h3 : PySem.W.typeIn K (.ref C) = some (.type "type")) (h4 : PySem.W.subIn K (.ref C) (.ref C) = some true) : PySem.W.exmOne K (.ref C) (.ref C) = some true := by
  have h2' : (PySem.W.clsIn K C).isSome = true := h2
  simp [PySem.W.exmOne, PySem.W.kitCls, h1, h2', h3, h4]
theorem exm_no {K : PySem.W.Frag} {C D : Addr} (h1 : PySem.W.subIn K (.ref D) (.type "BaseException") = some true) (h2 : PySem.W.isClsIn K D = true) (h3 : PySem.W.typeIn K (.ref D) = some (.type "type")) (h4 : PySem.W.subIn K (.ref C) (.ref D) = some false) : PySem.W.exmOne K (.ref C) (.ref D) = some false := by
  have h2' : (PySem.W.clsIn K D).isSome = true := h2
  simp [PySem.W.exmOne, PySem.W.kitCls, h1, h2', h3, h4]
open PySem.W PySem.Calls PySem.HandSPX in
/-- the facts of an own error's class -/
theorem txt_mk {P : Program} {K : PySem.W.Frag} {h : Heap} {mg : Str → Option Value} {par fl : Str} {C fI N cda cc : Addr} {nm q qual tx file : Str} {bs bm sub : List Value} {sn : List Str} {ab : Bool} {col : Option Bool} {dd : Option Addr} {m0 m1 m2 m3 m5 : Option Value}
    {oc doc pm ct ccl cl : Value} {od an cdd cld : Option Addr} {osl ccs csl : Array (Option Value)} {vs : Array Value} {pa : Arguments} {p0 p1 p2 p3 p4 p5 p6 p7 p8 p9 : Pos} {j : Nat} {a0 : Arg} {tf : Nat} (X : K.In h) (G : h.Ns mainGlobals mg)
    (cls : K.lookup C = some (excClassObj nm q C N bs bm true sn sub ab col dd m0 m1 m2 m3 m5 "ValueError.__new__")) (ref : PySem.HandSPX.refsVE bm = true)
    (sa : PySem.W.findIn K (.ref C) "__setattr__" = some (some (.builtin "object.__setattr__"))) (ga : PySem.W.findIn K (.ref C) "__getattribute__" = some (some (.builtin "BaseException.__getattribute__"))) (gg : PySem.W.findIn K (.ref C) "__getattr__" = some none) (noN : PySem.W.findIn K (.ref C) fl = some none)
    (iC : PySem.W.findIn K (.ref C) "__init__" = some (some (.ref fI))) (tC : PySem.W.typeIn K (.ref fI) = some (.type "function")) (kC : PySem.W.keepIn K (.ref C) = true) (exC : PySem.W.subIn K (.ref C) (.type "BaseException") = some true) (veC : PySem.W.subIn K (.ref C) (.type "ValueError") = some true)
    (slf : PySem.W.mroIn K C (.ref C) = some true) (tyC : PySem.W.typeIn K (.ref C) = some (.type "type")) (hdC : PySem.W.hasDictIn K C = true) (isC : PySem.W.isClsIn K C = true) (sC : PySem.W.subIn K (.ref C) (.ref C) = some true)
    (along : PySem.W.ks_superIn K C C "__init__" = some (some (.builtin "ValueError.__init__"))) (opq : PySem.W.nsIn K cStatics "thirdparty.any" = some none) (sup : PySem.W.nsIn K mainGlobals "super" = some none) (top : (P.main.scope.names.lookup ("super" : Str)).isSome = false)
    (lf : K.lookup fI = some ⟨oc, od, .func (PySem.W.ksFn "__init__" qual pa (PySem.BadX.shape tx par fl p0 p1 p2 p3 p4 p5 p6 p7 p8 p9 j) (PySem.BadX.sco par) .none .none doc pm an (.ref cda) ct cc), osl⟩) (cd : PySem.W.codeIn K (.ref cda) qual = true) (ha0 : (pa.posonlyargs ++ pa.args).head? = some a0) (ha1 : a0.arg = "self")
    (bd : ∀ (s : Shared) (u v : Value), BindsTo s (PySem.W.ksFn "__init__" qual pa (PySem.BadX.shape tx par fl p0 p1 p2 p3 p4 p5 p6 p7 p8 p9 j) (PySem.BadX.sco par) .none .none doc pm an (.ref cda) ct cc) ⟨[u, v], []⟩ [("self", u), (par, v)])
    (lc : K.lookup cda = some ⟨ccl, cdd, .fields vs, ccs⟩) (hvs : vs[2]? = some (.str file tf)) (hfile : ((P.main.file : Str) == file) = true) (hpe : (p2.endLine == p4.line) = true) (lcc : K.lookup cc = some ⟨cl, cld, .cell (some (.ref C)), csl⟩) : PySem.BadX.Txt P K mg par fl C fI :=
  { cls := ⟨nm, q, N, bs, bm, sn, sub, ab, col, dd, m0, m1, m2, m3, m5, cls, ref⟩, sa := sa, ga := ga, gg := gg, noN := noN, iC := iC, tC := tC, kC := kC, exC := exC, veC := veC, slf := slf, tyC := tyC, hdC := hdC, te := exm_me exC isC tyC sC, along := along, opq := opq, sup := PySem.W.mg_none_of X G sup, top := top,
    fn := ⟨oc, od, qual, tx, doc, pm, an, cda, cc, ct, osl, pa, p0, p1, p2, p3, p4, p5, p6, p7, p8, p9, j, a0, lf, cd, ha0, ha1, bd, ⟨ccl, cdd, vs, ccs, file, tf, lc, hvs, hfile⟩, hpe, ⟨cl, cld, csl, lcc⟩⟩ }
theorem ex_int {K : PySem.W.Frag} {h : Heap} {mg : Str → Option Value} {x : Str} {n : Int} {t : Tok} (X : K.In h) (G : h.Ns mainGlobals mg) (a : PySem.W.nsIn K mainGlobals x = some (some (.int n t))) : ∃ t, mg x = some (.int n t) := ⟨_, PySem.W.mg_of X G a⟩
theorem ex_str {K : PySem.W.Frag} {h : Heap} {mg : Str → Option Value} {x z : Str} {t : Tok} (X : K.In h) (G : h.Ns mainGlobals mg) (a : PySem.W.nsIn K mainGlobals x = some (some (.str z t))) : ∃ t, mg x = some (.str z t) := ⟨_, PySem.W.mg_of X G a⟩
end Ash

set_option Elab.async false
set_option linter.all false
set_option maxRecDepth 100000
set_option maxHeartbeats 4000000
namespace Ash
open PySem PySem.Spec PyProof.Rows L2
/-! ### the facts of the seven classes, put together -/
theorem is7 {C : TC} {p : Addr → Prop} (h1 : p C.now) (h2 : p C.last) (h3 : p C.next) (h4 : p C.shift) (h5 : p C.either) (h6 : p C.later) (h7 : p C.earlier) : ∀ a, C.Is a → p a := fun a ha => by
  rcases ha with rfl | rfl | rfl | rfl | rfl | rfl | rfl
  · exact h1
  · exact h2
  · exact h3
  · exact h4
  · exact h5
  · exact h6
  · exact h7
theorem na10 {K : PySem.W.Frag} {a : Addr} (h1 : NoAttr K a "stream") (h2 : NoAttr K a "term") (h3 : NoAttr K a "first") (h4 : NoAttr K a "second") (h5 : NoAttr K a "amount") (h6 : NoAttr K a "spelling") (h7 : NoAttr K a "depth") (h8 : NoAttr K a "parts") (h9 : NoAttr K a "looks") (h10 : NoAttr K a "choices") : ∀ f ∈ ATTRS, NoAttr K a f := fun f hf => by
  simp only [ATTRS, List.mem_cons, List.not_mem_nil, or_false] at hf
  rcases hf with rfl | rfl | rfl | rfl | rfl | rfl | rfl | rfl | rfl | rfl
  · exact h1
  · exact h2
  · exact h3
  · exact h4
  · exact h5
  · exact h6
  · exact h7
  · exact h8
  · exact h9
  · exact h10
theorem kit_me {K : PySem.W.Frag} {a : Addr} : PySem.W.kitOne K (.ref a) (.ref a) = some (decide (a = a)) := by
  unfold PySem.W.kitOne
  simp
theorem ne_sub {K : PySem.W.Frag} {a b : Addr} (h1 : PySem.W.subIn K (.ref a) (.ref a) = some true) (h2 : PySem.W.subIn K (.ref a) (.ref b) = some false) : a ≠ b := fun e => by
  rw [← e, h1] at h2
  cases h2
theorem kit_no {K : PySem.W.Frag} {a b : Addr} (n : a ≠ b) (h2 : PySem.W.isClsIn K b = true) (h3 : PySem.W.typeIn K (.ref b) = some (.type "type")) (h4 : PySem.W.subIn K (.ref a) (.ref b) = some false) : PySem.W.kitOne K (.ref a) (.ref b) = some (decide (a = b)) := by
  have h2' : (PySem.W.clsIn K b).isSome = true := h2
  rw [decide_eq_false n]
  simp [PySem.W.kitOne, PySem.W.kitCls, n, h2', h3, h4]
theorem is4 {A : AC} {p : Addr → Prop} (h1 : p A.number) (h2 : p A.count) (h3 : p A.total) (h4 : p A.gap) : ∀ a, A.Is a → p a := fun a ha => by
  rcases ha with rfl | rfl | rfl | rfl
  · exact h1
  · exact h2
  · exact h3
  · exact h4
theorem na5 {K : PySem.W.Frag} {a : Addr} (h1 : NoAttr K a "stream") (h2 : NoAttr K a "term") (h3 : NoAttr K a "first") (h4 : NoAttr K a "last") (h5 : NoAttr K a "spelling") : ∀ f ∈ AATTRS, NoAttr K a f := fun f hf => by
  simp only [AATTRS, List.mem_cons, List.not_mem_nil, or_false] at hf
  rcases hf with rfl | rfl | rfl | rfl | rfl
  · exact h1
  · exact h2
  · exact h3
  · exact h4
  · exact h5
theorem kit_no0 {K : PySem.W.Frag} {a b : Addr} (n : a ≠ b) (h2 : PySem.W.isClsIn K b = true) (h3 : PySem.W.typeIn K (.ref b) = some (.type "type")) (h4 : PySem.W.subIn K (.ref a) (.ref b) = some false) : PySem.W.kitOne K (.ref a) (.ref b) = some false := by
  have h := kit_no n h2 h3 h4
  rw [decide_eq_false n] at h
  exact h
example : PySem.dunder (Operator.info .BitOr).2 = "__or__" := by rfl
example : dunderR (Operator.info .BitOr).2 = "__ror__" := by rfl
example : PySem.dunder (Operator.info .Sub).2 = "__sub__" := by rfl
example : PySem.dunder (Operator.info .Add).2 = "__add__" := by rfl
example : dunderR (Operator.info .Add).2 = "__radd__" := by rfl
abbrev veB : List Value := [.type "ValueError", .type "Exception", .type "BaseException", .type "object"]
/-- an own error without an __init__, beneath another one -/
theorem exc_mk {K : PySem.W.Frag} {C D N N2 : Addr} {nm q nm2 q2 : Str} {bs bs2 sub sub2 : List Value} {hd ab hd2 ab2 : Bool} {sn sn2 : List Str} {col col2 : Option Bool} {dd dd2 : Option Addr} {k0 k1 k2 k3 k5 l0 l1 l2 l3 l5 : Option Value} {nid2 : String}
    {oN oM : Value} {dN dM : Option Addr} {es es2 : Array DictEntry} {nn nn2 : Nat} {slN slM : Array (Option Value)}
    (h1 : K.lookup C = some (excClassObj nm q C N bs (.ref D :: veB) hd sn sub ab col dd k0 k1 k2 k3 k5 "ValueError.__new__")) (h2 : K.lookup N = some ⟨oN, dN, .dict es nn, slN⟩) (h3 : (es.toList.all fun e => match e.key with | .str _ _ => true | _ => false) = true) (h4 : PySem.W.nsIn K N "__init__" = some none)
    (h5 : K.lookup D = some (excClassObj nm2 q2 D N2 bs2 veB hd2 sn2 sub2 ab2 col2 dd2 l0 l1 l2 l3 l5 nid2)) (h6 : K.lookup N2 = some ⟨oM, dM, .dict es2 nn2, slM⟩) (h7 : (es2.toList.all fun e => match e.key with | .str _ _ => true | _ => false) = true) (h8 : PySem.W.nsIn K N2 "__init__" = some none) :
    PySem.W.excIn K C veB "ValueError.__new__" = true := by
  have n1 : PySem.W.nsOkIn K N = true := by unfold PySem.W.nsOkIn; rw [h2]; exact (Array.all_toList ..).symm.trans h3
  have n2 : PySem.W.nsOkIn K N2 = true := by unfold PySem.W.nsOkIn; rw [h6]; exact (Array.all_toList ..).symm.trans h7
  have t0 : PySem.W.tailIn K veB veB = true := by unfold PySem.W.tailIn; rfl
  have t : PySem.W.tailIn K veB (.ref D :: veB) = true := by
    unfold PySem.W.tailIn
    dsimp only
    rw [h5]
    simp [excClassObj, n2, h8, t0]
  unfold PySem.W.excIn
  rw [h1]
  simp [excClassObj, t, n1, h4]
theorem kit_yes {K : PySem.W.Frag} {a b : Addr} (h2 : PySem.W.isClsIn K b = true) (h3 : PySem.W.typeIn K (.ref b) = some (.type "type")) (h4 : PySem.W.subIn K (.ref a) (.ref b) = some true) : PySem.W.kitOne K (.ref a) (.ref b) = some true := by
  have h2' : (PySem.W.clsIn K b).isSome = true := h2
  unfold PySem.W.kitOne
  split
  · rfl
  · simp [PySem.W.kitCls, h2', h3, h4]
theorem kit_noT {K : PySem.W.Frag} {T : String} {b : Addr} (h2 : PySem.W.isClsIn K b = true) (h3 : PySem.W.typeIn K (.ref b) = some (.type "type")) (h4 : PySem.W.subIn K (.type T) (.ref b) = some false) : PySem.W.kitOne K (.type T) (.ref b) = some false := by
  have h2' : (PySem.W.clsIn K b).isSome = true := h2
  simp [PySem.W.kitOne, PySem.W.kitCls, h2', h3, h4]
theorem nf_me {K : PySem.W.Frag} {a : Addr} : PySem.W.notFirst K a (.ref a) = true := by
  unfold PySem.W.notFirst
  simp
theorem nf_of {K : PySem.W.Frag} {a : Addr} {t : Value} (h : PySem.W.subIn K t (.ref a) = some false) : PySem.W.notFirst K a t = true := by
  unfold PySem.W.notFirst
  simp [h]
theorem four_t {p : Value → Prop} (h1 : p (.type "NoneType")) (h2 : p (.type "str")) (h3 : p (.type "tuple")) (h4 : p (.type "int")) : ∀ t ∈ [Value.type "NoneType", .type "str", .type "tuple", .type "int"], p t := fun t ht => by
  simp only [List.mem_cons, List.not_mem_nil, or_false] at ht
  rcases ht with rfl | rfl | rfl | rfl
  · exact h1
  · exact h2
  · exact h3
  · exact h4
section
variable {P : Program} {w : World} {K : PySem.W.Frag} {mg : Str → Option Value} {base : Heap} {C : TC}
theorem pts_all (B : Blt mg) (k : Cal P w K mg base CX0 "children_of" 1 ["term"] (spKids C)) (d1 : D1 K mg "parts_of" s_parts_of) : ∀ d, G1s P w K mg base C d
  | 0 => ⟨k, cal_of d1 (fun _ _ _ _ _ _ us hl => match us, hl with | [_], _ => rfl) fun f fd F => ok_pts0 F⟩
  | d + 1 => ⟨k, cal_of d1 (fun _ _ _ _ _ _ us hl => match us, hl with | [_], _ => rfl) fun f fd F => ok_pts F B (pts_all B k d1 d)⟩
theorem msz_all (B : Blt mg) (k : Cal P w K mg base CX0 "_law_children" 1 ["model"] spMKids) (d1 : D1 K mg "_law_sizes" s_l_sizes) : ∀ d, G1m P w K mg base d
  | 0 => ⟨k, cal_of d1 (fun _ _ _ _ _ _ us hl => match us, hl with | [_], _ => rfl) fun f fd F => ok_msizes0 F⟩
  | d + 1 => ⟨k, cal_of d1 (fun _ _ _ _ _ _ us hl => match us, hl with | [_], _ => rfl) fun f fd F => ok_msizes F B (msz_all B k d1 d)⟩
theorem mst_all (B : Blt mg) (k : Cal P w K mg base CX0 "_law_children" 1 ["model"] spMKids) (d1 : D1 K mg "_law_streams" s_l_streams) : ∀ d, G2m P w K mg base d
  | 0 => ⟨k, cal_of d1 (fun _ _ _ _ _ _ us hl => match us, hl with | [_], _ => rfl) fun f fd F => ok_mstrs0 F⟩
  | d + 1 => ⟨k, cal_of d1 (fun _ _ _ _ _ _ us hl => match us, hl with | [_], _ => rfl) fun f fd F => ok_mstrs F B (mst_all B k d1 d)⟩
theorem tak_all (B : Blt mg) (T : TF K mg C) (D : TD C) (d1 : D1 K mg "_law_taken" s_l_taken) : ∀ d, G3m P w K mg base C d
  | 0 => ⟨cal_of d1 (fun _ _ _ _ _ _ us hl => match us, hl with | [_], _ => rfl) fun f fd F => ok_taken0 F⟩
  | d + 1 => ⟨cal_of d1 (fun _ _ _ _ _ _ us hl => match us, hl with | [_], _ => rfl) fun f fd F => ok_taken F B T D (tak_all B T D d1 d)⟩
end
end Ash

set_option Elab.async false
set_option linter.all false
set_option maxRecDepth 100000
set_option maxHeartbeats 4000000
namespace Ash
open PySem PySem.Spec PyProof.Rows L2
section
variable {P : Program} {w : World} {K : PySem.W.Frag} {mg : Str → Option Value} {base : Heap}
theorem all_ok {CT CAm CTm cA cB cC cD cE cF cG aA aB aC aD fadd fior flat fear fsub fteq faeq fstr fast : Addr}
    (M : TMy K mg CT)
    (B : Blt mg)
    (Cs : Cst mg)
    (NY : mg "any" = none)
    (gAm : mg "Amount" = some (.ref CAm))
    (gTm : mg "Term" = some (.ref CTm))
    (icA : PySem.W.isClsIn K CAm = true)
    (tiA : PySem.W.typeIn K (.ref CAm) = some (.type "type"))
    (icT : PySem.W.isClsIn K CTm = true)
    (tiT : PySem.W.typeIn K (.ref CTm) = some (.type "type"))
    (nm0 : mg "Now" = some (.ref cA))
    (cl0 : Cls K cA)
    (b0 : BkI K cA)
    (ic0 : PySem.W.isClsIn K cA = true)
    (ti0 : PySem.W.typeIn K (.ref cA) = some (.type "type"))
    (sf0 : PySem.W.selfFirst K cA = true)
    (at0 : PySem.W.findIn K (.ref cA) "__add__" = some (some (.ref fadd)))
    (rt0 : PySem.W.findIn K (.ref cA) "__radd__" = some none)
    (si0 : PySem.W.subIn K (.type "int") (.ref cA) = some false)
    (or0 : PySem.W.findIn K (.ref cA) "__or__" = some (some (.ref fior)))
    (ro0 : PySem.W.findIn K (.ref cA) "__ror__" = some none)
    (la0 : PySem.W.findIn K (.ref cA) "later" = some (some (.ref flat)))
    (ea0 : PySem.W.findIn K (.ref cA) "earlier" = some (some (.ref fear)))
    (n0_0 : NoAttr K cA "stream")
    (n0_1 : NoAttr K cA "term")
    (n0_2 : NoAttr K cA "first")
    (n0_3 : NoAttr K cA "second")
    (n0_4 : NoAttr K cA "amount")
    (n0_5 : NoAttr K cA "spelling")
    (n0_6 : NoAttr K cA "depth")
    (n0_7 : NoAttr K cA "parts")
    (n0_8 : NoAttr K cA "looks")
    (n0_9 : NoAttr K cA "choices")
    (s0_0 : PySem.W.subIn K (.ref cA) (.ref cA) = some true)
    (s0_1 : PySem.W.subIn K (.ref cA) (.ref cB) = some false)
    (s0_2 : PySem.W.subIn K (.ref cA) (.ref cC) = some false)
    (s0_3 : PySem.W.subIn K (.ref cA) (.ref cD) = some false)
    (s0_4 : PySem.W.subIn K (.ref cA) (.ref cE) = some false)
    (s0_5 : PySem.W.subIn K (.ref cA) (.ref cF) = some false)
    (s0_6 : PySem.W.subIn K (.ref cA) (.ref cG) = some false)
    (nm1 : mg "Last" = some (.ref cB))
    (cl1 : Cls K cB)
    (b1 : BkI K cB)
    (ic1 : PySem.W.isClsIn K cB = true)
    (ti1 : PySem.W.typeIn K (.ref cB) = some (.type "type"))
    (sf1 : PySem.W.selfFirst K cB = true)
    (at1 : PySem.W.findIn K (.ref cB) "__add__" = some (some (.ref fadd)))
    (rt1 : PySem.W.findIn K (.ref cB) "__radd__" = some none)
    (si1 : PySem.W.subIn K (.type "int") (.ref cB) = some false)
    (or1 : PySem.W.findIn K (.ref cB) "__or__" = some (some (.ref fior)))
    (ro1 : PySem.W.findIn K (.ref cB) "__ror__" = some none)
    (la1 : PySem.W.findIn K (.ref cB) "later" = some (some (.ref flat)))
    (ea1 : PySem.W.findIn K (.ref cB) "earlier" = some (some (.ref fear)))
    (n1_0 : NoAttr K cB "stream")
    (n1_1 : NoAttr K cB "term")
    (n1_2 : NoAttr K cB "first")
    (n1_3 : NoAttr K cB "second")
    (n1_4 : NoAttr K cB "amount")
    (n1_5 : NoAttr K cB "spelling")
    (n1_6 : NoAttr K cB "depth")
    (n1_7 : NoAttr K cB "parts")
    (n1_8 : NoAttr K cB "looks")
    (n1_9 : NoAttr K cB "choices")
    (s1_0 : PySem.W.subIn K (.ref cB) (.ref cA) = some false)
    (s1_1 : PySem.W.subIn K (.ref cB) (.ref cB) = some true)
    (s1_2 : PySem.W.subIn K (.ref cB) (.ref cC) = some false)
    (s1_3 : PySem.W.subIn K (.ref cB) (.ref cD) = some false)
    (s1_4 : PySem.W.subIn K (.ref cB) (.ref cE) = some false)
    (s1_5 : PySem.W.subIn K (.ref cB) (.ref cF) = some false)
    (s1_6 : PySem.W.subIn K (.ref cB) (.ref cG) = some false)
    (nm2 : mg "Next" = some (.ref cC))
    (cl2 : Cls K cC)
    (b2 : BkI K cC)
    (ic2 : PySem.W.isClsIn K cC = true)
    (ti2 : PySem.W.typeIn K (.ref cC) = some (.type "type"))
    (sf2 : PySem.W.selfFirst K cC = true)
    (at2 : PySem.W.findIn K (.ref cC) "__add__" = some (some (.ref fadd)))
    (rt2 : PySem.W.findIn K (.ref cC) "__radd__" = some none)
    (si2 : PySem.W.subIn K (.type "int") (.ref cC) = some false)
    (or2 : PySem.W.findIn K (.ref cC) "__or__" = some (some (.ref fior)))
    (ro2 : PySem.W.findIn K (.ref cC) "__ror__" = some none)
    (la2 : PySem.W.findIn K (.ref cC) "later" = some (some (.ref flat)))
    (ea2 : PySem.W.findIn K (.ref cC) "earlier" = some (some (.ref fear)))
    (n2_0 : NoAttr K cC "stream")
    (n2_1 : NoAttr K cC "term")
    (n2_2 : NoAttr K cC "first")
    (n2_3 : NoAttr K cC "second")
    (n2_4 : NoAttr K cC "amount")
    (n2_5 : NoAttr K cC "spelling")
    (n2_6 : NoAttr K cC "depth")
    (n2_7 : NoAttr K cC "parts")
    (n2_8 : NoAttr K cC "looks")
    (n2_9 : NoAttr K cC "choices")
    (s2_0 : PySem.W.subIn K (.ref cC) (.ref cA) = some false)
    (s2_1 : PySem.W.subIn K (.ref cC) (.ref cB) = some false)
    (s2_2 : PySem.W.subIn K (.ref cC) (.ref cC) = some true)
    (s2_3 : PySem.W.subIn K (.ref cC) (.ref cD) = some false)
    (s2_4 : PySem.W.subIn K (.ref cC) (.ref cE) = some false)
    (s2_5 : PySem.W.subIn K (.ref cC) (.ref cF) = some false)
    (s2_6 : PySem.W.subIn K (.ref cC) (.ref cG) = some false)
    (nm3 : mg "Shift" = some (.ref cD))
    (cl3 : Cls K cD)
    (b3 : BkI K cD)
    (ic3 : PySem.W.isClsIn K cD = true)
    (ti3 : PySem.W.typeIn K (.ref cD) = some (.type "type"))
    (sf3 : PySem.W.selfFirst K cD = true)
    (at3 : PySem.W.findIn K (.ref cD) "__add__" = some (some (.ref fadd)))
    (rt3 : PySem.W.findIn K (.ref cD) "__radd__" = some none)
    (si3 : PySem.W.subIn K (.type "int") (.ref cD) = some false)
    (or3 : PySem.W.findIn K (.ref cD) "__or__" = some (some (.ref fior)))
    (ro3 : PySem.W.findIn K (.ref cD) "__ror__" = some none)
    (la3 : PySem.W.findIn K (.ref cD) "later" = some (some (.ref flat)))
    (ea3 : PySem.W.findIn K (.ref cD) "earlier" = some (some (.ref fear)))
    (n3_0 : NoAttr K cD "stream")
    (n3_1 : NoAttr K cD "term")
    (n3_2 : NoAttr K cD "first")
    (n3_3 : NoAttr K cD "second")
    (n3_4 : NoAttr K cD "amount")
    (n3_5 : NoAttr K cD "spelling")
    (n3_6 : NoAttr K cD "depth")
    (n3_7 : NoAttr K cD "parts")
    (n3_8 : NoAttr K cD "looks")
    (n3_9 : NoAttr K cD "choices")
    (s3_0 : PySem.W.subIn K (.ref cD) (.ref cA) = some false)
    (s3_1 : PySem.W.subIn K (.ref cD) (.ref cB) = some false)
    (s3_2 : PySem.W.subIn K (.ref cD) (.ref cC) = some false)
    (s3_3 : PySem.W.subIn K (.ref cD) (.ref cD) = some true)
    (s3_4 : PySem.W.subIn K (.ref cD) (.ref cE) = some false)
    (s3_5 : PySem.W.subIn K (.ref cD) (.ref cF) = some false)
    (s3_6 : PySem.W.subIn K (.ref cD) (.ref cG) = some false)
    (nm4 : mg "Either" = some (.ref cE))
    (cl4 : Cls K cE)
    (b4 : BkI K cE)
    (ic4 : PySem.W.isClsIn K cE = true)
    (ti4 : PySem.W.typeIn K (.ref cE) = some (.type "type"))
    (sf4 : PySem.W.selfFirst K cE = true)
    (at4 : PySem.W.findIn K (.ref cE) "__add__" = some (some (.ref fadd)))
    (rt4 : PySem.W.findIn K (.ref cE) "__radd__" = some none)
    (si4 : PySem.W.subIn K (.type "int") (.ref cE) = some false)
    (or4 : PySem.W.findIn K (.ref cE) "__or__" = some (some (.ref fior)))
    (ro4 : PySem.W.findIn K (.ref cE) "__ror__" = some none)
    (la4 : PySem.W.findIn K (.ref cE) "later" = some (some (.ref flat)))
    (ea4 : PySem.W.findIn K (.ref cE) "earlier" = some (some (.ref fear)))
    (n4_0 : NoAttr K cE "stream")
    (n4_1 : NoAttr K cE "term")
    (n4_2 : NoAttr K cE "first")
    (n4_3 : NoAttr K cE "second")
    (n4_4 : NoAttr K cE "amount")
    (n4_5 : NoAttr K cE "spelling")
    (n4_6 : NoAttr K cE "depth")
    (n4_7 : NoAttr K cE "parts")
    (n4_8 : NoAttr K cE "looks")
    (n4_9 : NoAttr K cE "choices")
    (s4_0 : PySem.W.subIn K (.ref cE) (.ref cA) = some false)
    (s4_1 : PySem.W.subIn K (.ref cE) (.ref cB) = some false)
    (s4_2 : PySem.W.subIn K (.ref cE) (.ref cC) = some false)
    (s4_3 : PySem.W.subIn K (.ref cE) (.ref cD) = some false)
    (s4_4 : PySem.W.subIn K (.ref cE) (.ref cE) = some true)
    (s4_5 : PySem.W.subIn K (.ref cE) (.ref cF) = some false)
    (s4_6 : PySem.W.subIn K (.ref cE) (.ref cG) = some false)
    (nm5 : mg "Later" = some (.ref cF))
    (cl5 : Cls K cF)
    (b5 : BkI K cF)
    (ic5 : PySem.W.isClsIn K cF = true)
    (ti5 : PySem.W.typeIn K (.ref cF) = some (.type "type"))
    (sf5 : PySem.W.selfFirst K cF = true)
    (at5 : PySem.W.findIn K (.ref cF) "__add__" = some (some (.ref fadd)))
    (rt5 : PySem.W.findIn K (.ref cF) "__radd__" = some none)
    (si5 : PySem.W.subIn K (.type "int") (.ref cF) = some false)
    (or5 : PySem.W.findIn K (.ref cF) "__or__" = some (some (.ref fior)))
    (ro5 : PySem.W.findIn K (.ref cF) "__ror__" = some none)
    (la5 : PySem.W.findIn K (.ref cF) "later" = some (some (.ref flat)))
    (ea5 : PySem.W.findIn K (.ref cF) "earlier" = some (some (.ref fear)))
    (n5_0 : NoAttr K cF "stream")
    (n5_1 : NoAttr K cF "term")
    (n5_2 : NoAttr K cF "first")
    (n5_3 : NoAttr K cF "second")
    (n5_4 : NoAttr K cF "amount")
    (n5_5 : NoAttr K cF "spelling")
    (n5_6 : NoAttr K cF "depth")
    (n5_7 : NoAttr K cF "parts")
    (n5_8 : NoAttr K cF "looks")
    (n5_9 : NoAttr K cF "choices")
    (s5_0 : PySem.W.subIn K (.ref cF) (.ref cA) = some false)
    (s5_1 : PySem.W.subIn K (.ref cF) (.ref cB) = some false)
    (s5_2 : PySem.W.subIn K (.ref cF) (.ref cC) = some false)
    (s5_3 : PySem.W.subIn K (.ref cF) (.ref cD) = some false)
    (s5_4 : PySem.W.subIn K (.ref cF) (.ref cE) = some false)
    (s5_5 : PySem.W.subIn K (.ref cF) (.ref cF) = some true)
    (s5_6 : PySem.W.subIn K (.ref cF) (.ref cG) = some false)
    (nm6 : mg "Earlier" = some (.ref cG))
    (cl6 : Cls K cG)
    (b6 : BkI K cG)
    (ic6 : PySem.W.isClsIn K cG = true)
    (ti6 : PySem.W.typeIn K (.ref cG) = some (.type "type"))
    (sf6 : PySem.W.selfFirst K cG = true)
    (at6 : PySem.W.findIn K (.ref cG) "__add__" = some (some (.ref fadd)))
    (rt6 : PySem.W.findIn K (.ref cG) "__radd__" = some none)
    (si6 : PySem.W.subIn K (.type "int") (.ref cG) = some false)
    (or6 : PySem.W.findIn K (.ref cG) "__or__" = some (some (.ref fior)))
    (ro6 : PySem.W.findIn K (.ref cG) "__ror__" = some none)
    (la6 : PySem.W.findIn K (.ref cG) "later" = some (some (.ref flat)))
    (ea6 : PySem.W.findIn K (.ref cG) "earlier" = some (some (.ref fear)))
    (n6_0 : NoAttr K cG "stream")
    (n6_1 : NoAttr K cG "term")
    (n6_2 : NoAttr K cG "first")
    (n6_3 : NoAttr K cG "second")
    (n6_4 : NoAttr K cG "amount")
    (n6_5 : NoAttr K cG "spelling")
    (n6_6 : NoAttr K cG "depth")
    (n6_7 : NoAttr K cG "parts")
    (n6_8 : NoAttr K cG "looks")
    (n6_9 : NoAttr K cG "choices")
    (s6_0 : PySem.W.subIn K (.ref cG) (.ref cA) = some false)
    (s6_1 : PySem.W.subIn K (.ref cG) (.ref cB) = some false)
    (s6_2 : PySem.W.subIn K (.ref cG) (.ref cC) = some false)
    (s6_3 : PySem.W.subIn K (.ref cG) (.ref cD) = some false)
    (s6_4 : PySem.W.subIn K (.ref cG) (.ref cE) = some false)
    (s6_5 : PySem.W.subIn K (.ref cG) (.ref cF) = some false)
    (s6_6 : PySem.W.subIn K (.ref cG) (.ref cG) = some true)
    (su0 : PySem.W.findIn K (.ref cA) "__sub__" = some (some (.ref fsub)))
    (rs0 : PySem.W.findIn K (.ref cA) "__rsub__" = some none)
    (nq0 : PySem.W.findIn K (.ref cA) "__ne__" = some (some (.builtin "object.__ne__")))
    (eq0 : PySem.W.findIn K (.ref cA) "__eq__" = some (some (.ref fteq)))
    (ob0 : PySem.W.subIn K (.ref cA) (.type "object") = some true)
    (su1 : PySem.W.findIn K (.ref cB) "__sub__" = some (some (.ref fsub)))
    (rs1 : PySem.W.findIn K (.ref cB) "__rsub__" = some none)
    (nq1 : PySem.W.findIn K (.ref cB) "__ne__" = some (some (.builtin "object.__ne__")))
    (eq1 : PySem.W.findIn K (.ref cB) "__eq__" = some (some (.ref fteq)))
    (ob1 : PySem.W.subIn K (.ref cB) (.type "object") = some true)
    (su2 : PySem.W.findIn K (.ref cC) "__sub__" = some (some (.ref fsub)))
    (rs2 : PySem.W.findIn K (.ref cC) "__rsub__" = some none)
    (nq2 : PySem.W.findIn K (.ref cC) "__ne__" = some (some (.builtin "object.__ne__")))
    (eq2 : PySem.W.findIn K (.ref cC) "__eq__" = some (some (.ref fteq)))
    (ob2 : PySem.W.subIn K (.ref cC) (.type "object") = some true)
    (su3 : PySem.W.findIn K (.ref cD) "__sub__" = some (some (.ref fsub)))
    (rs3 : PySem.W.findIn K (.ref cD) "__rsub__" = some none)
    (nq3 : PySem.W.findIn K (.ref cD) "__ne__" = some (some (.builtin "object.__ne__")))
    (eq3 : PySem.W.findIn K (.ref cD) "__eq__" = some (some (.ref fteq)))
    (ob3 : PySem.W.subIn K (.ref cD) (.type "object") = some true)
    (su4 : PySem.W.findIn K (.ref cE) "__sub__" = some (some (.ref fsub)))
    (rs4 : PySem.W.findIn K (.ref cE) "__rsub__" = some none)
    (nq4 : PySem.W.findIn K (.ref cE) "__ne__" = some (some (.builtin "object.__ne__")))
    (eq4 : PySem.W.findIn K (.ref cE) "__eq__" = some (some (.ref fteq)))
    (ob4 : PySem.W.subIn K (.ref cE) (.type "object") = some true)
    (su5 : PySem.W.findIn K (.ref cF) "__sub__" = some (some (.ref fsub)))
    (rs5 : PySem.W.findIn K (.ref cF) "__rsub__" = some none)
    (nq5 : PySem.W.findIn K (.ref cF) "__ne__" = some (some (.builtin "object.__ne__")))
    (eq5 : PySem.W.findIn K (.ref cF) "__eq__" = some (some (.ref fteq)))
    (ob5 : PySem.W.subIn K (.ref cF) (.type "object") = some true)
    (su6 : PySem.W.findIn K (.ref cG) "__sub__" = some (some (.ref fsub)))
    (rs6 : PySem.W.findIn K (.ref cG) "__rsub__" = some none)
    (nq6 : PySem.W.findIn K (.ref cG) "__ne__" = some (some (.builtin "object.__ne__")))
    (eq6 : PySem.W.findIn K (.ref cG) "__eq__" = some (some (.ref fteq)))
    (ob6 : PySem.W.subIn K (.ref cG) (.type "object") = some true)
    (anq0 : PySem.W.findIn K (.ref aA) "__ne__" = some (some (.builtin "object.__ne__")))
    (aeq0 : PySem.W.findIn K (.ref aA) "__eq__" = some (some (.ref faeq)))
    (aob0 : PySem.W.subIn K (.ref aA) (.type "object") = some true)
    (ta0_0 : PySem.W.subIn K (.ref cA) (.ref aA) = some false)
    (ta0_1 : PySem.W.subIn K (.ref cB) (.ref aA) = some false)
    (ta0_2 : PySem.W.subIn K (.ref cC) (.ref aA) = some false)
    (ta0_3 : PySem.W.subIn K (.ref cD) (.ref aA) = some false)
    (ta0_4 : PySem.W.subIn K (.ref cE) (.ref aA) = some false)
    (ta0_5 : PySem.W.subIn K (.ref cF) (.ref aA) = some false)
    (ta0_6 : PySem.W.subIn K (.ref cG) (.ref aA) = some false)
    (anq1 : PySem.W.findIn K (.ref aB) "__ne__" = some (some (.builtin "object.__ne__")))
    (aeq1 : PySem.W.findIn K (.ref aB) "__eq__" = some (some (.ref faeq)))
    (aob1 : PySem.W.subIn K (.ref aB) (.type "object") = some true)
    (ta1_0 : PySem.W.subIn K (.ref cA) (.ref aB) = some false)
    (ta1_1 : PySem.W.subIn K (.ref cB) (.ref aB) = some false)
    (ta1_2 : PySem.W.subIn K (.ref cC) (.ref aB) = some false)
    (ta1_3 : PySem.W.subIn K (.ref cD) (.ref aB) = some false)
    (ta1_4 : PySem.W.subIn K (.ref cE) (.ref aB) = some false)
    (ta1_5 : PySem.W.subIn K (.ref cF) (.ref aB) = some false)
    (ta1_6 : PySem.W.subIn K (.ref cG) (.ref aB) = some false)
    (anq2 : PySem.W.findIn K (.ref aC) "__ne__" = some (some (.builtin "object.__ne__")))
    (aeq2 : PySem.W.findIn K (.ref aC) "__eq__" = some (some (.ref faeq)))
    (aob2 : PySem.W.subIn K (.ref aC) (.type "object") = some true)
    (ta2_0 : PySem.W.subIn K (.ref cA) (.ref aC) = some false)
    (ta2_1 : PySem.W.subIn K (.ref cB) (.ref aC) = some false)
    (ta2_2 : PySem.W.subIn K (.ref cC) (.ref aC) = some false)
    (ta2_3 : PySem.W.subIn K (.ref cD) (.ref aC) = some false)
    (ta2_4 : PySem.W.subIn K (.ref cE) (.ref aC) = some false)
    (ta2_5 : PySem.W.subIn K (.ref cF) (.ref aC) = some false)
    (ta2_6 : PySem.W.subIn K (.ref cG) (.ref aC) = some false)
    (anq3 : PySem.W.findIn K (.ref aD) "__ne__" = some (some (.builtin "object.__ne__")))
    (aeq3 : PySem.W.findIn K (.ref aD) "__eq__" = some (some (.ref faeq)))
    (aob3 : PySem.W.subIn K (.ref aD) (.type "object") = some true)
    (ta3_0 : PySem.W.subIn K (.ref cA) (.ref aD) = some false)
    (ta3_1 : PySem.W.subIn K (.ref cB) (.ref aD) = some false)
    (ta3_2 : PySem.W.subIn K (.ref cC) (.ref aD) = some false)
    (ta3_3 : PySem.W.subIn K (.ref cD) (.ref aD) = some false)
    (ta3_4 : PySem.W.subIn K (.ref cE) (.ref aD) = some false)
    (ta3_5 : PySem.W.subIn K (.ref cF) (.ref aD) = some false)
    (ta3_6 : PySem.W.subIn K (.ref cG) (.ref aD) = some false)
    (i3 : PySem.W.findIn K (.type "int") "__sub__" = some (some (.builtin "int.__sub__")))
    (i4 : PySem.W.findIn K (.type "int") "__rsub__" = some (some (.builtin "int.__rsub__")))
    (mk0 : PySem.W.makesIn K cA = true)
    (kp0 : PySem.W.keepIn K (.ref cA) = true)
    (mk1 : PySem.W.makesIn K cB = true)
    (kp1 : PySem.W.keepIn K (.ref cB) = true)
    (mk2 : PySem.W.makesIn K cC = true)
    (kp2 : PySem.W.keepIn K (.ref cC) = true)
    (mk3 : PySem.W.makesIn K cD = true)
    (kp3 : PySem.W.keepIn K (.ref cD) = true)
    (mk4 : PySem.W.makesIn K cE = true)
    (kp4 : PySem.W.keepIn K (.ref cE) = true)
    (mk5 : PySem.W.makesIn K cF = true)
    (kp5 : PySem.W.keepIn K (.ref cF) = true)
    (mk6 : PySem.W.makesIn K cG = true)
    (kp6 : PySem.W.keepIn K (.ref cG) = true)
    (i1 : PySem.W.findIn K (.type "int") "__add__" = some (some (.builtin "int.__add__")))
    (i2 : PySem.W.findIn K (.type "int") "__radd__" = some (some (.builtin "int.__radd__")))
    (anm0 : mg "Number" = some (.ref aA))
    (acl0 : Cls K aA)
    (ab0 : BkI K aA)
    (aic0 : PySem.W.isClsIn K aA = true)
    (ati0 : PySem.W.typeIn K (.ref aA) = some (.type "type"))
    (an0_0 : NoAttr K aA "stream")
    (an0_1 : NoAttr K aA "term")
    (an0_2 : NoAttr K aA "first")
    (an0_3 : NoAttr K aA "last")
    (an0_4 : NoAttr K aA "spelling")
    (as0_0 : PySem.W.subIn K (.ref aA) (.ref aA) = some true)
    (as0_1 : PySem.W.subIn K (.ref aA) (.ref aB) = some false)
    (as0_2 : PySem.W.subIn K (.ref aA) (.ref aC) = some false)
    (as0_3 : PySem.W.subIn K (.ref aA) (.ref aD) = some false)
    (at0_0 : PySem.W.subIn K (.ref aA) (.ref cA) = some false)
    (at0_1 : PySem.W.subIn K (.ref aA) (.ref cB) = some false)
    (at0_2 : PySem.W.subIn K (.ref aA) (.ref cC) = some false)
    (at0_3 : PySem.W.subIn K (.ref aA) (.ref cD) = some false)
    (at0_4 : PySem.W.subIn K (.ref aA) (.ref cE) = some false)
    (at0_5 : PySem.W.subIn K (.ref aA) (.ref cF) = some false)
    (at0_6 : PySem.W.subIn K (.ref aA) (.ref cG) = some false)
    (amk0 : PySem.W.makesIn K aA = true)
    (akp0 : PySem.W.keepIn K (.ref aA) = true)
    (anm1 : mg "Count" = some (.ref aB))
    (acl1 : Cls K aB)
    (ab1 : BkI K aB)
    (aic1 : PySem.W.isClsIn K aB = true)
    (ati1 : PySem.W.typeIn K (.ref aB) = some (.type "type"))
    (an1_0 : NoAttr K aB "stream")
    (an1_1 : NoAttr K aB "term")
    (an1_2 : NoAttr K aB "first")
    (an1_3 : NoAttr K aB "last")
    (an1_4 : NoAttr K aB "spelling")
    (as1_0 : PySem.W.subIn K (.ref aB) (.ref aA) = some false)
    (as1_1 : PySem.W.subIn K (.ref aB) (.ref aB) = some true)
    (as1_2 : PySem.W.subIn K (.ref aB) (.ref aC) = some false)
    (as1_3 : PySem.W.subIn K (.ref aB) (.ref aD) = some false)
    (at1_0 : PySem.W.subIn K (.ref aB) (.ref cA) = some false)
    (at1_1 : PySem.W.subIn K (.ref aB) (.ref cB) = some false)
    (at1_2 : PySem.W.subIn K (.ref aB) (.ref cC) = some false)
    (at1_3 : PySem.W.subIn K (.ref aB) (.ref cD) = some false)
    (at1_4 : PySem.W.subIn K (.ref aB) (.ref cE) = some false)
    (at1_5 : PySem.W.subIn K (.ref aB) (.ref cF) = some false)
    (at1_6 : PySem.W.subIn K (.ref aB) (.ref cG) = some false)
    (amk1 : PySem.W.makesIn K aB = true)
    (akp1 : PySem.W.keepIn K (.ref aB) = true)
    (anm2 : mg "Total" = some (.ref aC))
    (acl2 : Cls K aC)
    (ab2 : BkI K aC)
    (aic2 : PySem.W.isClsIn K aC = true)
    (ati2 : PySem.W.typeIn K (.ref aC) = some (.type "type"))
    (an2_0 : NoAttr K aC "stream")
    (an2_1 : NoAttr K aC "term")
    (an2_2 : NoAttr K aC "first")
    (an2_3 : NoAttr K aC "last")
    (an2_4 : NoAttr K aC "spelling")
    (as2_0 : PySem.W.subIn K (.ref aC) (.ref aA) = some false)
    (as2_1 : PySem.W.subIn K (.ref aC) (.ref aB) = some false)
    (as2_2 : PySem.W.subIn K (.ref aC) (.ref aC) = some true)
    (as2_3 : PySem.W.subIn K (.ref aC) (.ref aD) = some false)
    (at2_0 : PySem.W.subIn K (.ref aC) (.ref cA) = some false)
    (at2_1 : PySem.W.subIn K (.ref aC) (.ref cB) = some false)
    (at2_2 : PySem.W.subIn K (.ref aC) (.ref cC) = some false)
    (at2_3 : PySem.W.subIn K (.ref aC) (.ref cD) = some false)
    (at2_4 : PySem.W.subIn K (.ref aC) (.ref cE) = some false)
    (at2_5 : PySem.W.subIn K (.ref aC) (.ref cF) = some false)
    (at2_6 : PySem.W.subIn K (.ref aC) (.ref cG) = some false)
    (amk2 : PySem.W.makesIn K aC = true)
    (akp2 : PySem.W.keepIn K (.ref aC) = true)
    (anm3 : mg "Gap" = some (.ref aD))
    (acl3 : Cls K aD)
    (ab3 : BkI K aD)
    (aic3 : PySem.W.isClsIn K aD = true)
    (ati3 : PySem.W.typeIn K (.ref aD) = some (.type "type"))
    (an3_0 : NoAttr K aD "stream")
    (an3_1 : NoAttr K aD "term")
    (an3_2 : NoAttr K aD "first")
    (an3_3 : NoAttr K aD "last")
    (an3_4 : NoAttr K aD "spelling")
    (as3_0 : PySem.W.subIn K (.ref aD) (.ref aA) = some false)
    (as3_1 : PySem.W.subIn K (.ref aD) (.ref aB) = some false)
    (as3_2 : PySem.W.subIn K (.ref aD) (.ref aC) = some false)
    (as3_3 : PySem.W.subIn K (.ref aD) (.ref aD) = some true)
    (at3_0 : PySem.W.subIn K (.ref aD) (.ref cA) = some false)
    (at3_1 : PySem.W.subIn K (.ref aD) (.ref cB) = some false)
    (at3_2 : PySem.W.subIn K (.ref aD) (.ref cC) = some false)
    (at3_3 : PySem.W.subIn K (.ref aD) (.ref cD) = some false)
    (at3_4 : PySem.W.subIn K (.ref aD) (.ref cE) = some false)
    (at3_5 : PySem.W.subIn K (.ref aD) (.ref cF) = some false)
    (at3_6 : PySem.W.subIn K (.ref aD) (.ref cG) = some false)
    (amk3 : PySem.W.makesIn K aD = true)
    (akp3 : PySem.W.keepIn K (.ref aD) = true)
    (sb0_0 : PySem.W.subIn K (.type "NoneType") (.ref cA) = some false)
    (sb1_0 : PySem.W.subIn K (.type "str") (.ref cA) = some false)
    (sb2_0 : PySem.W.subIn K (.type "tuple") (.ref cA) = some false)
    (sb3_0 : PySem.W.subIn K (.type "int") (.ref cA) = some false)
    (tA0 : PySem.W.subIn K (.ref cA) (.ref CAm) = some false)
    (tT0 : PySem.W.subIn K (.ref cA) (.ref CTm) = some true)
    (tne0 : PySem.W.subIn K (.ref CAm) (.ref CAm) = some true)
    (sm0 : PySem.W.findIn K (.ref cA) "streams" = some (some (.ref fstr)))
    (sb0_1 : PySem.W.subIn K (.type "NoneType") (.ref cB) = some false)
    (sb1_1 : PySem.W.subIn K (.type "str") (.ref cB) = some false)
    (sb2_1 : PySem.W.subIn K (.type "tuple") (.ref cB) = some false)
    (sb3_1 : PySem.W.subIn K (.type "int") (.ref cB) = some false)
    (tA1 : PySem.W.subIn K (.ref cB) (.ref CAm) = some false)
    (tT1 : PySem.W.subIn K (.ref cB) (.ref CTm) = some true)
    (tnn1 : True)
    (sm1 : PySem.W.findIn K (.ref cB) "streams" = some (some (.ref fstr)))
    (sb0_2 : PySem.W.subIn K (.type "NoneType") (.ref cC) = some false)
    (sb1_2 : PySem.W.subIn K (.type "str") (.ref cC) = some false)
    (sb2_2 : PySem.W.subIn K (.type "tuple") (.ref cC) = some false)
    (sb3_2 : PySem.W.subIn K (.type "int") (.ref cC) = some false)
    (tA2 : PySem.W.subIn K (.ref cC) (.ref CAm) = some false)
    (tT2 : PySem.W.subIn K (.ref cC) (.ref CTm) = some true)
    (tnn2 : True)
    (sm2 : PySem.W.findIn K (.ref cC) "streams" = some (some (.ref fstr)))
    (sb0_3 : PySem.W.subIn K (.type "NoneType") (.ref cD) = some false)
    (sb1_3 : PySem.W.subIn K (.type "str") (.ref cD) = some false)
    (sb2_3 : PySem.W.subIn K (.type "tuple") (.ref cD) = some false)
    (sb3_3 : PySem.W.subIn K (.type "int") (.ref cD) = some false)
    (tA3 : PySem.W.subIn K (.ref cD) (.ref CAm) = some false)
    (tT3 : PySem.W.subIn K (.ref cD) (.ref CTm) = some true)
    (tnn3 : True)
    (sm3 : PySem.W.findIn K (.ref cD) "streams" = some (some (.ref fstr)))
    (sb0_4 : PySem.W.subIn K (.type "NoneType") (.ref cE) = some false)
    (sb1_4 : PySem.W.subIn K (.type "str") (.ref cE) = some false)
    (sb2_4 : PySem.W.subIn K (.type "tuple") (.ref cE) = some false)
    (sb3_4 : PySem.W.subIn K (.type "int") (.ref cE) = some false)
    (tA4 : PySem.W.subIn K (.ref cE) (.ref CAm) = some false)
    (tT4 : PySem.W.subIn K (.ref cE) (.ref CTm) = some true)
    (tnn4 : True)
    (sm4 : PySem.W.findIn K (.ref cE) "streams" = some (some (.ref fstr)))
    (sb0_5 : PySem.W.subIn K (.type "NoneType") (.ref cF) = some false)
    (sb1_5 : PySem.W.subIn K (.type "str") (.ref cF) = some false)
    (sb2_5 : PySem.W.subIn K (.type "tuple") (.ref cF) = some false)
    (sb3_5 : PySem.W.subIn K (.type "int") (.ref cF) = some false)
    (tA5 : PySem.W.subIn K (.ref cF) (.ref CAm) = some false)
    (tT5 : PySem.W.subIn K (.ref cF) (.ref CTm) = some true)
    (tnn5 : True)
    (sm5 : PySem.W.findIn K (.ref cF) "streams" = some (some (.ref fstr)))
    (sb0_6 : PySem.W.subIn K (.type "NoneType") (.ref cG) = some false)
    (sb1_6 : PySem.W.subIn K (.type "str") (.ref cG) = some false)
    (sb2_6 : PySem.W.subIn K (.type "tuple") (.ref cG) = some false)
    (sb3_6 : PySem.W.subIn K (.type "int") (.ref cG) = some false)
    (tA6 : PySem.W.subIn K (.ref cG) (.ref CAm) = some false)
    (tT6 : PySem.W.subIn K (.ref cG) (.ref CTm) = some true)
    (tnn6 : True)
    (sm6 : PySem.W.findIn K (.ref cG) "streams" = some (some (.ref fstr)))
    (ab_0 : PySem.W.subIn K (.type "tuple") (.ref aA) = some false)
    (aA0 : PySem.W.subIn K (.ref aA) (.ref CAm) = some true)
    (aT0 : PySem.W.subIn K (.ref aA) (.ref CTm) = some false)
    (am0 : PySem.W.findIn K (.ref aA) "streams" = some (some (.ref fast)))
    (ab_1 : PySem.W.subIn K (.type "tuple") (.ref aB) = some false)
    (aA1 : PySem.W.subIn K (.ref aB) (.ref CAm) = some true)
    (aT1 : PySem.W.subIn K (.ref aB) (.ref CTm) = some false)
    (am1 : PySem.W.findIn K (.ref aB) "streams" = some (some (.ref fast)))
    (ab_2 : PySem.W.subIn K (.type "tuple") (.ref aC) = some false)
    (aA2 : PySem.W.subIn K (.ref aC) (.ref CAm) = some true)
    (aT2 : PySem.W.subIn K (.ref aC) (.ref CTm) = some false)
    (am2 : PySem.W.findIn K (.ref aC) "streams" = some (some (.ref fast)))
    (ab_3 : PySem.W.subIn K (.type "tuple") (.ref aD) = some false)
    (aA3 : PySem.W.subIn K (.ref aD) (.ref CAm) = some true)
    (aT3 : PySem.W.subIn K (.ref aD) (.ref CTm) = some false)
    (am3 : PySem.W.findIn K (.ref aD) "streams" = some (some (.ref fast)))
    (d_is_integer : D1 K mg "is_integer" s_is_integer)
    (d_is_name : D1 K mg "is_name" s_is_name)
    (d_is_term : D1 K mg "is_term" s_is_term)
    (d_is_look : D1 K mg "is_look" s_is_look)
    (d_checked_stream : D1 K mg "checked_stream" s_checked_stream)
    (d_checked_term : D1 K mg "checked_term" s_checked_term)
    (d_sizes : D1 K mg "sizes" s_sizes)
    (d_shifted : D1 K mg "shifted" s_shifted)
    (d_is_amount : D1 K mg "is_amount" s_is_amount)
    (d_children_of : D1 K mg "children_of" s_children_of)
    (d_parts_of : D1 K mg "parts_of" s_parts_of)
    (d_terms_of : D1 K mg "terms_of" s_terms_of)
    (d__law_pool : D1 K mg "_law_pool" s_l_pool)
    (d__law_draw : D1 K mg "_law_draw" s_l_draw)
    (d__law_names : D1 K mg "_law_names" s_l_names)
    (d__law_moment : D1 K mg "_law_moment" s_l_moment)
    (d__law_joined : D1 K mg "_law_joined" s_l_joined)
    (d__law_children : D1 K mg "_law_children" s_l_children)
    (d__law_sizes : D1 K mg "_law_sizes" s_l_sizes)
    (d__law_streams : D1 K mg "_law_streams" s_l_streams)
    (d__law_taken : D1 K mg "_law_taken" s_l_taken)
    (d__law_step : D1 K mg "_law_step" s_l_step)
    (d__law_is_sized : D1 K mg "_law_is_sized" s_l_is_sized)
    (d__law_shifts : D1 K mg "_law_shifts" s_l_shifts)
    (d__law_equal : D1 K mg "_law_equal" s_l_equal)
    (d__law_is_apart : D1 K mg "_law_is_apart" s_l_is_apart)
    (m_NI : DM K cA "__init__" "Now.__init__" s_Now_init)
    (m_LI : DM K cB "__init__" "Last.__init__" s_Last_init)
    (m_XI : DM K cC "__init__" "Next.__init__" s_Next_init)
    (m_SI : DM K cD "__init__" "Shift.__init__" s_Shift_init)
    (m_EI : DM K cE "__init__" "Either.__init__" s_Either_init)
    (m_JI : DM K cF "__init__" "Later.__init__" s_Later_init)
    (m_KI : DM K cG "__init__" "Earlier.__init__" s_Earlier_init)
    (m_nuI : DM K aA "__init__" "Number.__init__" s_Number_init)
    (m_coI : DM K aB "__init__" "Count.__init__" s_Count_init)
    (m_toI : DM K aC "__init__" "Total.__init__" s_Total_init)
    (m_gaI : DM K aD "__init__" "Gap.__init__" s_Gap_init)
    (m_add : DQ K cA fadd "__add__" "Term.__add__" s_Term_add)
    (m_ior : DQ K cA fior "__or__" "Term.__or__" s_Term_or)
    (m_lat : DQ K cA flat "later" "Term.later" s_Term_later)
    (m_ear : DQ K cA fear "earlier" "Term.earlier" s_Term_earlier)
    (m_sub : DQ K cA fsub "__sub__" "Term.__sub__" s_Term_sub)
    (m_teq : DQ K cA fteq "__eq__" "Term.__eq__" s_Term_eq)
    (m_aeq : DQ K aA faeq "__eq__" "Amount.__eq__" s_Amount_eq)
    (m_str : DQ K cA fstr "streams" "Term.streams" s_Term_streams)
    (m_ast : DQ K aA fast "streams" "Amount.streams" s_Amount_streams)
    {f : Addr} {fd : FuncData} (F_law : Fun K "law" "law" s_law f fd) : FnOk P w K mg base CX0 40 f fd ["script"] (spLaw K) := by
  have TT : TF K mg (⟨cA, cB, cC, cD, cE, cF, cG⟩ : TC) := { cl := is7 (cl0) (cl1) (cl2) (cl3) (cl4) (cl5) (cl6), no := is7 (na10 n0_0 n0_1 n0_2 n0_3 n0_4 n0_5 n0_6 n0_7 n0_8 n0_9) (na10 n1_0 n1_1 n1_2 n1_3 n1_4 n1_5 n1_6 n1_7 n1_8 n1_9) (na10 n2_0 n2_1 n2_2 n2_3 n2_4 n2_5 n2_6 n2_7 n2_8 n2_9) (na10 n3_0 n3_1 n3_2 n3_3 n3_4 n3_5 n3_6 n3_7 n3_8 n3_9) (na10 n4_0 n4_1 n4_2 n4_3 n4_4 n4_5 n4_6 n4_7 n4_8 n4_9) (na10 n5_0 n5_1 n5_2 n5_3 n5_4 n5_5 n5_6 n5_7 n5_8 n5_9) (na10 n6_0 n6_1 n6_2 n6_3 n6_4 n6_5 n6_6 n6_7 n6_8 n6_9), ty := is7 (⟨b0.ha, b0.hn, b0.ht, b0.hm⟩) (⟨b1.ha, b1.hn, b1.ht, b1.hm⟩) (⟨b2.ha, b2.hn, b2.ht, b2.hm⟩) (⟨b3.ha, b3.hn, b3.ht, b3.hm⟩) (⟨b4.ha, b4.hn, b4.ht, b4.hm⟩) (⟨b5.ha, b5.hn, b5.ht, b5.hm⟩) (⟨b6.ha, b6.hn, b6.ht, b6.hm⟩), one := is7 (p := fun a => ∀ b, ((⟨cA, cB, cC, cD, cE, cF, cG⟩ : TC)).Is b → PySem.W.kitOne K (.ref a) (.ref b) = some (decide (a = b))) (is7 (C := (⟨cA, cB, cC, cD, cE, cF, cG⟩ : TC)) (p := fun b => PySem.W.kitOne K (.ref cA) (.ref b) = some (decide (cA = b))) (kit_me) (kit_no (ne_sub s0_0 s0_1) ic1 ti1 s0_1) (kit_no (ne_sub s0_0 s0_2) ic2 ti2 s0_2) (kit_no (ne_sub s0_0 s0_3) ic3 ti3 s0_3) (kit_no (ne_sub s0_0 s0_4) ic4 ti4 s0_4) (kit_no (ne_sub s0_0 s0_5) ic5 ti5 s0_5) (kit_no (ne_sub s0_0 s0_6) ic6 ti6 s0_6)) (is7 (C := (⟨cA, cB, cC, cD, cE, cF, cG⟩ : TC)) (p := fun b => PySem.W.kitOne K (.ref cB) (.ref b) = some (decide (cB = b))) (kit_no (ne_sub s1_1 s1_0) ic0 ti0 s1_0) (kit_me) (kit_no (ne_sub s1_1 s1_2) ic2 ti2 s1_2) (kit_no (ne_sub s1_1 s1_3) ic3 ti3 s1_3) (kit_no (ne_sub s1_1 s1_4) ic4 ti4 s1_4) (kit_no (ne_sub s1_1 s1_5) ic5 ti5 s1_5) (kit_no (ne_sub s1_1 s1_6) ic6 ti6 s1_6)) (is7 (C := (⟨cA, cB, cC, cD, cE, cF, cG⟩ : TC)) (p := fun b => PySem.W.kitOne K (.ref cC) (.ref b) = some (decide (cC = b))) (kit_no (ne_sub s2_2 s2_0) ic0 ti0 s2_0) (kit_no (ne_sub s2_2 s2_1) ic1 ti1 s2_1) (kit_me) (kit_no (ne_sub s2_2 s2_3) ic3 ti3 s2_3) (kit_no (ne_sub s2_2 s2_4) ic4 ti4 s2_4) (kit_no (ne_sub s2_2 s2_5) ic5 ti5 s2_5) (kit_no (ne_sub s2_2 s2_6) ic6 ti6 s2_6)) (is7 (C := (⟨cA, cB, cC, cD, cE, cF, cG⟩ : TC)) (p := fun b => PySem.W.kitOne K (.ref cD) (.ref b) = some (decide (cD = b))) (kit_no (ne_sub s3_3 s3_0) ic0 ti0 s3_0) (kit_no (ne_sub s3_3 s3_1) ic1 ti1 s3_1) (kit_no (ne_sub s3_3 s3_2) ic2 ti2 s3_2) (kit_me) (kit_no (ne_sub s3_3 s3_4) ic4 ti4 s3_4) (kit_no (ne_sub s3_3 s3_5) ic5 ti5 s3_5) (kit_no (ne_sub s3_3 s3_6) ic6 ti6 s3_6)) (is7 (C := (⟨cA, cB, cC, cD, cE, cF, cG⟩ : TC)) (p := fun b => PySem.W.kitOne K (.ref cE) (.ref b) = some (decide (cE = b))) (kit_no (ne_sub s4_4 s4_0) ic0 ti0 s4_0) (kit_no (ne_sub s4_4 s4_1) ic1 ti1 s4_1) (kit_no (ne_sub s4_4 s4_2) ic2 ti2 s4_2) (kit_no (ne_sub s4_4 s4_3) ic3 ti3 s4_3) (kit_me) (kit_no (ne_sub s4_4 s4_5) ic5 ti5 s4_5) (kit_no (ne_sub s4_4 s4_6) ic6 ti6 s4_6)) (is7 (C := (⟨cA, cB, cC, cD, cE, cF, cG⟩ : TC)) (p := fun b => PySem.W.kitOne K (.ref cF) (.ref b) = some (decide (cF = b))) (kit_no (ne_sub s5_5 s5_0) ic0 ti0 s5_0) (kit_no (ne_sub s5_5 s5_1) ic1 ti1 s5_1) (kit_no (ne_sub s5_5 s5_2) ic2 ti2 s5_2) (kit_no (ne_sub s5_5 s5_3) ic3 ti3 s5_3) (kit_no (ne_sub s5_5 s5_4) ic4 ti4 s5_4) (kit_me) (kit_no (ne_sub s5_5 s5_6) ic6 ti6 s5_6)) (is7 (C := (⟨cA, cB, cC, cD, cE, cF, cG⟩ : TC)) (p := fun b => PySem.W.kitOne K (.ref cG) (.ref b) = some (decide (cG = b))) (kit_no (ne_sub s6_6 s6_0) ic0 ti0 s6_0) (kit_no (ne_sub s6_6 s6_1) ic1 ti1 s6_1) (kit_no (ne_sub s6_6 s6_2) ic2 ti2 s6_2) (kit_no (ne_sub s6_6 s6_3) ic3 ti3 s6_3) (kit_no (ne_sub s6_6 s6_4) ic4 ti4 s6_4) (kit_no (ne_sub s6_6 s6_5) ic5 ti5 s6_5) (kit_me)) |> (fun h a b ha hb => h a ha b hb), Now := nm0, Last := nm1, Next := nm2, Shift := nm3, Either := nm4, Later := nm5, Earlier := nm6 }
  have DD : TD (⟨cA, cB, cC, cD, cE, cF, cG⟩ : TC) := ⟨by
    show [cA, cB, cC, cD, cE, cF, cG].Nodup
    simp only [List.nodup_cons, List.mem_cons, List.not_mem_nil, or_false, not_or, List.nodup_nil, and_true, not_false_eq_true]
    exact ⟨⟨(ne_sub s0_0 s0_1), (ne_sub s0_0 s0_2), (ne_sub s0_0 s0_3), (ne_sub s0_0 s0_4), (ne_sub s0_0 s0_5), (ne_sub s0_0 s0_6)⟩, ⟨(ne_sub s1_1 s1_2), (ne_sub s1_1 s1_3), (ne_sub s1_1 s1_4), (ne_sub s1_1 s1_5), (ne_sub s1_1 s1_6)⟩, ⟨(ne_sub s2_2 s2_3), (ne_sub s2_2 s2_4), (ne_sub s2_2 s2_5), (ne_sub s2_2 s2_6)⟩, ⟨(ne_sub s3_3 s3_4), (ne_sub s3_3 s3_5), (ne_sub s3_3 s3_6)⟩, ⟨(ne_sub s4_4 s4_5), (ne_sub s4_4 s4_6)⟩, (ne_sub s5_5 s5_6)⟩⟩
  have ANd : [aA, aB, aC, aD].Nodup := by
    simp only [List.nodup_cons, List.mem_cons, List.not_mem_nil, or_false, not_or, List.nodup_nil, and_true, not_false_eq_true]
    exact ⟨⟨(ne_sub as0_0 as0_1), (ne_sub as0_0 as0_2), (ne_sub as0_0 as0_3)⟩, ⟨(ne_sub as1_1 as1_2), (ne_sub as1_1 as1_3)⟩, (ne_sub as2_2 as2_3)⟩
  have AF0 : AF K mg (⟨aA, aB, aC, aD⟩ : AC) (⟨cA, cB, cC, cD, cE, cF, cG⟩ : TC) := { cl := is4 (acl0) (acl1) (acl2) (acl3), no := is4 (na5 an0_0 an0_1 an0_2 an0_3 an0_4) (na5 an1_0 an1_1 an1_2 an1_3 an1_4) (na5 an2_0 an2_1 an2_2 an2_3 an2_4) (na5 an3_0 an3_1 an3_2 an3_3 an3_4), ty := is4 (⟨ab0.ha, ab0.hn, ab0.ht, ab0.hm⟩) (⟨ab1.ha, ab1.hn, ab1.ht, ab1.hm⟩) (⟨ab2.ha, ab2.hn, ab2.ht, ab2.hm⟩) (⟨ab3.ha, ab3.hn, ab3.ht, ab3.hm⟩), one := (is4 (p := fun a => ∀ b, (⟨aA, aB, aC, aD⟩ : AC).Is b → PySem.W.kitOne K (.ref a) (.ref b) = some (decide (a = b))) (is4 (A := ⟨aA, aB, aC, aD⟩) (p := fun b => PySem.W.kitOne K (.ref aA) (.ref b) = some (decide (aA = b))) (kit_me) (kit_no (ne_sub as0_0 as0_1) aic1 ati1 as0_1) (kit_no (ne_sub as0_0 as0_2) aic2 ati2 as0_2) (kit_no (ne_sub as0_0 as0_3) aic3 ati3 as0_3)) (is4 (A := ⟨aA, aB, aC, aD⟩) (p := fun b => PySem.W.kitOne K (.ref aB) (.ref b) = some (decide (aB = b))) (kit_no (ne_sub as1_1 as1_0) aic0 ati0 as1_0) (kit_me) (kit_no (ne_sub as1_1 as1_2) aic2 ati2 as1_2) (kit_no (ne_sub as1_1 as1_3) aic3 ati3 as1_3)) (is4 (A := ⟨aA, aB, aC, aD⟩) (p := fun b => PySem.W.kitOne K (.ref aC) (.ref b) = some (decide (aC = b))) (kit_no (ne_sub as2_2 as2_0) aic0 ati0 as2_0) (kit_no (ne_sub as2_2 as2_1) aic1 ati1 as2_1) (kit_me) (kit_no (ne_sub as2_2 as2_3) aic3 ati3 as2_3)) (is4 (A := ⟨aA, aB, aC, aD⟩) (p := fun b => PySem.W.kitOne K (.ref aD) (.ref b) = some (decide (aD = b))) (kit_no (ne_sub as3_3 as3_0) aic0 ati0 as3_0) (kit_no (ne_sub as3_3 as3_1) aic1 ati1 as3_1) (kit_no (ne_sub as3_3 as3_2) aic2 ati2 as3_2) (kit_me))) |> (fun h a b ha hb => h a ha b hb), noT := (is4 (p := fun a => ∀ b, ((⟨cA, cB, cC, cD, cE, cF, cG⟩ : TC)).Is b → PySem.W.kitOne K (.ref a) (.ref b) = some false) (is7 (C := (⟨cA, cB, cC, cD, cE, cF, cG⟩ : TC)) (p := fun b => PySem.W.kitOne K (.ref aA) (.ref b) = some false) (kit_no0 (ne_sub as0_0 at0_0) ic0 ti0 at0_0) (kit_no0 (ne_sub as0_0 at0_1) ic1 ti1 at0_1) (kit_no0 (ne_sub as0_0 at0_2) ic2 ti2 at0_2) (kit_no0 (ne_sub as0_0 at0_3) ic3 ti3 at0_3) (kit_no0 (ne_sub as0_0 at0_4) ic4 ti4 at0_4) (kit_no0 (ne_sub as0_0 at0_5) ic5 ti5 at0_5) (kit_no0 (ne_sub as0_0 at0_6) ic6 ti6 at0_6)) (is7 (C := (⟨cA, cB, cC, cD, cE, cF, cG⟩ : TC)) (p := fun b => PySem.W.kitOne K (.ref aB) (.ref b) = some false) (kit_no0 (ne_sub as1_1 at1_0) ic0 ti0 at1_0) (kit_no0 (ne_sub as1_1 at1_1) ic1 ti1 at1_1) (kit_no0 (ne_sub as1_1 at1_2) ic2 ti2 at1_2) (kit_no0 (ne_sub as1_1 at1_3) ic3 ti3 at1_3) (kit_no0 (ne_sub as1_1 at1_4) ic4 ti4 at1_4) (kit_no0 (ne_sub as1_1 at1_5) ic5 ti5 at1_5) (kit_no0 (ne_sub as1_1 at1_6) ic6 ti6 at1_6)) (is7 (C := (⟨cA, cB, cC, cD, cE, cF, cG⟩ : TC)) (p := fun b => PySem.W.kitOne K (.ref aC) (.ref b) = some false) (kit_no0 (ne_sub as2_2 at2_0) ic0 ti0 at2_0) (kit_no0 (ne_sub as2_2 at2_1) ic1 ti1 at2_1) (kit_no0 (ne_sub as2_2 at2_2) ic2 ti2 at2_2) (kit_no0 (ne_sub as2_2 at2_3) ic3 ti3 at2_3) (kit_no0 (ne_sub as2_2 at2_4) ic4 ti4 at2_4) (kit_no0 (ne_sub as2_2 at2_5) ic5 ti5 at2_5) (kit_no0 (ne_sub as2_2 at2_6) ic6 ti6 at2_6)) (is7 (C := (⟨cA, cB, cC, cD, cE, cF, cG⟩ : TC)) (p := fun b => PySem.W.kitOne K (.ref aD) (.ref b) = some false) (kit_no0 (ne_sub as3_3 at3_0) ic0 ti0 at3_0) (kit_no0 (ne_sub as3_3 at3_1) ic1 ti1 at3_1) (kit_no0 (ne_sub as3_3 at3_2) ic2 ti2 at3_2) (kit_no0 (ne_sub as3_3 at3_3) ic3 ti3 at3_3) (kit_no0 (ne_sub as3_3 at3_4) ic4 ti4 at3_4) (kit_no0 (ne_sub as3_3 at3_5) ic5 ti5 at3_5) (kit_no0 (ne_sub as3_3 at3_6) ic6 ti6 at3_6))) |> (fun h a b ha hb => h a ha b hb), Number := anm0, Count := anm1, Total := anm2, Gap := anm3, nd := ANd }
  have OI : OpI K ((⟨cA, cB, cC, cD, cE, cF, cG⟩ : TC)).Is .Add fadd := { sf := is7 (sf0) (sf1) (sf2) (sf3) (sf4) (sf5) (sf6), at_ := is7 (at0) (at1) (at2) (at3) (at4) (at5) (at6), rt := is7 (rt0) (rt1) (rt2) (rt3) (rt4) (rt5) (rt6), fn := m_add.ex.choose_spec.1.fn, sub := is7 (si0) (si1) (si2) (si3) (si4) (si5) (si6), i1 := ⟨_, i1⟩, i2 := ⟨_, i2⟩ }
  have sub7 : ∀ a b, ((⟨cA, cB, cC, cD, cE, cF, cG⟩ : TC)).Is a → ((⟨cA, cB, cC, cD, cE, cF, cG⟩ : TC)).Is b → a ≠ b → PySem.W.subIn K (.ref b) (.ref a) = some false := fun a b ha hb => is7 (C := (⟨cA, cB, cC, cD, cE, cF, cG⟩ : TC)) (p := fun a => ∀ b, ((⟨cA, cB, cC, cD, cE, cF, cG⟩ : TC)).Is b → a ≠ b → PySem.W.subIn K (.ref b) (.ref a) = some false) (is7 (C := (⟨cA, cB, cC, cD, cE, cF, cG⟩ : TC)) (p := fun b => cA ≠ b → PySem.W.subIn K (.ref b) (.ref cA) = some false) (fun h => absurd rfl h) (fun _ => s1_0) (fun _ => s2_0) (fun _ => s3_0) (fun _ => s4_0) (fun _ => s5_0) (fun _ => s6_0)) (is7 (C := (⟨cA, cB, cC, cD, cE, cF, cG⟩ : TC)) (p := fun b => cB ≠ b → PySem.W.subIn K (.ref b) (.ref cB) = some false) (fun _ => s0_1) (fun h => absurd rfl h) (fun _ => s2_1) (fun _ => s3_1) (fun _ => s4_1) (fun _ => s5_1) (fun _ => s6_1)) (is7 (C := (⟨cA, cB, cC, cD, cE, cF, cG⟩ : TC)) (p := fun b => cC ≠ b → PySem.W.subIn K (.ref b) (.ref cC) = some false) (fun _ => s0_2) (fun _ => s1_2) (fun h => absurd rfl h) (fun _ => s3_2) (fun _ => s4_2) (fun _ => s5_2) (fun _ => s6_2)) (is7 (C := (⟨cA, cB, cC, cD, cE, cF, cG⟩ : TC)) (p := fun b => cD ≠ b → PySem.W.subIn K (.ref b) (.ref cD) = some false) (fun _ => s0_3) (fun _ => s1_3) (fun _ => s2_3) (fun h => absurd rfl h) (fun _ => s4_3) (fun _ => s5_3) (fun _ => s6_3)) (is7 (C := (⟨cA, cB, cC, cD, cE, cF, cG⟩ : TC)) (p := fun b => cE ≠ b → PySem.W.subIn K (.ref b) (.ref cE) = some false) (fun _ => s0_4) (fun _ => s1_4) (fun _ => s2_4) (fun _ => s3_4) (fun h => absurd rfl h) (fun _ => s5_4) (fun _ => s6_4)) (is7 (C := (⟨cA, cB, cC, cD, cE, cF, cG⟩ : TC)) (p := fun b => cF ≠ b → PySem.W.subIn K (.ref b) (.ref cF) = some false) (fun _ => s0_5) (fun _ => s1_5) (fun _ => s2_5) (fun _ => s3_5) (fun _ => s4_5) (fun h => absurd rfl h) (fun _ => s6_5)) (is7 (C := (⟨cA, cB, cC, cD, cE, cF, cG⟩ : TC)) (p := fun b => cG ≠ b → PySem.W.subIn K (.ref b) (.ref cG) = some false) (fun _ => s0_6) (fun _ => s1_6) (fun _ => s2_6) (fun _ => s3_6) (fun _ => s4_6) (fun _ => s5_6) (fun h => absurd rfl h)) a ha b hb
  have OO : OpF K ((⟨cA, cB, cC, cD, cE, cF, cG⟩ : TC)).Is .BitOr fior := { sf := is7 (sf0) (sf1) (sf2) (sf3) (sf4) (sf5) (sf6), at_ := is7 (or0) (or1) (or2) (or3) (or4) (or5) (or6), rt := is7 (ro0) (ro1) (ro2) (ro3) (ro4) (ro5) (ro6), fn := m_ior.ex.choose_spec.1.fn, sub := sub7 }
  have ML : MethF K ((⟨cA, cB, cC, cD, cE, cF, cG⟩ : TC)).Is "later" flat := { at_ := is7 (⟨cl0, la0⟩) (⟨cl1, la1⟩) (⟨cl2, la2⟩) (⟨cl3, la3⟩) (⟨cl4, la4⟩) (⟨cl5, la5⟩) (⟨cl6, la6⟩), fn := m_lat.ex.choose_spec.1.fn, kp := m_lat.ex.choose_spec.1.kp }
  have ME : MethF K ((⟨cA, cB, cC, cD, cE, cF, cG⟩ : TC)).Is "earlier" fear := { at_ := is7 (⟨cl0, ea0⟩) (⟨cl1, ea1⟩) (⟨cl2, ea2⟩) (⟨cl3, ea3⟩) (⟨cl4, ea4⟩) (⟨cl5, ea5⟩) (⟨cl6, ea6⟩), fn := m_ear.ex.choose_spec.1.fn, kp := m_ear.ex.choose_spec.1.kp }
  have NA0 : ∀ a b, ((⟨cA, cB, cC, cD, cE, cF, cG⟩ : TC)).Is a → (⟨aA, aB, aC, aD⟩ : AC).Is b → PySem.W.kitOne K (.ref a) (.ref b) = some false := fun a b ha hb => is7 (C := (⟨cA, cB, cC, cD, cE, cF, cG⟩ : TC)) (p := fun a => ∀ b, (⟨aA, aB, aC, aD⟩ : AC).Is b → PySem.W.kitOne K (.ref a) (.ref b) = some false) (is4 (A := ⟨aA, aB, aC, aD⟩) (p := fun b => PySem.W.kitOne K (.ref cA) (.ref b) = some false) (kit_no0 (ne_sub s0_0 ta0_0) aic0 ati0 ta0_0) (kit_no0 (ne_sub s0_0 ta1_0) aic1 ati1 ta1_0) (kit_no0 (ne_sub s0_0 ta2_0) aic2 ati2 ta2_0) (kit_no0 (ne_sub s0_0 ta3_0) aic3 ati3 ta3_0)) (is4 (A := ⟨aA, aB, aC, aD⟩) (p := fun b => PySem.W.kitOne K (.ref cB) (.ref b) = some false) (kit_no0 (ne_sub s1_1 ta0_1) aic0 ati0 ta0_1) (kit_no0 (ne_sub s1_1 ta1_1) aic1 ati1 ta1_1) (kit_no0 (ne_sub s1_1 ta2_1) aic2 ati2 ta2_1) (kit_no0 (ne_sub s1_1 ta3_1) aic3 ati3 ta3_1)) (is4 (A := ⟨aA, aB, aC, aD⟩) (p := fun b => PySem.W.kitOne K (.ref cC) (.ref b) = some false) (kit_no0 (ne_sub s2_2 ta0_2) aic0 ati0 ta0_2) (kit_no0 (ne_sub s2_2 ta1_2) aic1 ati1 ta1_2) (kit_no0 (ne_sub s2_2 ta2_2) aic2 ati2 ta2_2) (kit_no0 (ne_sub s2_2 ta3_2) aic3 ati3 ta3_2)) (is4 (A := ⟨aA, aB, aC, aD⟩) (p := fun b => PySem.W.kitOne K (.ref cD) (.ref b) = some false) (kit_no0 (ne_sub s3_3 ta0_3) aic0 ati0 ta0_3) (kit_no0 (ne_sub s3_3 ta1_3) aic1 ati1 ta1_3) (kit_no0 (ne_sub s3_3 ta2_3) aic2 ati2 ta2_3) (kit_no0 (ne_sub s3_3 ta3_3) aic3 ati3 ta3_3)) (is4 (A := ⟨aA, aB, aC, aD⟩) (p := fun b => PySem.W.kitOne K (.ref cE) (.ref b) = some false) (kit_no0 (ne_sub s4_4 ta0_4) aic0 ati0 ta0_4) (kit_no0 (ne_sub s4_4 ta1_4) aic1 ati1 ta1_4) (kit_no0 (ne_sub s4_4 ta2_4) aic2 ati2 ta2_4) (kit_no0 (ne_sub s4_4 ta3_4) aic3 ati3 ta3_4)) (is4 (A := ⟨aA, aB, aC, aD⟩) (p := fun b => PySem.W.kitOne K (.ref cF) (.ref b) = some false) (kit_no0 (ne_sub s5_5 ta0_5) aic0 ati0 ta0_5) (kit_no0 (ne_sub s5_5 ta1_5) aic1 ati1 ta1_5) (kit_no0 (ne_sub s5_5 ta2_5) aic2 ati2 ta2_5) (kit_no0 (ne_sub s5_5 ta3_5) aic3 ati3 ta3_5)) (is4 (A := ⟨aA, aB, aC, aD⟩) (p := fun b => PySem.W.kitOne K (.ref cG) (.ref b) = some false) (kit_no0 (ne_sub s6_6 ta0_6) aic0 ati0 ta0_6) (kit_no0 (ne_sub s6_6 ta1_6) aic1 ati1 ta1_6) (kit_no0 (ne_sub s6_6 ta2_6) aic2 ati2 ta2_6) (kit_no0 (ne_sub s6_6 ta3_6) aic3 ati3 ta3_6)) a ha b hb
  have c_is_integer := cal_of (P := P) (w := w) (base := base) (ps := ["thing"]) d_is_integer (fun _ _ _ _ _ _ us hl => match us, hl with | [_], _ => rfl) fun f fd F => ok_is_integer F B
  have k1 : K1 P w K mg base := ⟨c_is_integer⟩
  have c_is_name := cal_of (P := P) (w := w) (base := base) (ps := ["thing"]) d_is_name (fun _ _ _ _ _ _ us hl => match us, hl with | [_], _ => rfl) fun f fd F => ok_is_name F B Cs
  have k2 : K2 P w K mg base := ⟨k1, c_is_name⟩
  have w2 : W2 P w K mg base := ⟨k2⟩
  have c_is_term := cal_of (P := P) (w := w) (base := base) (ps := ["thing"]) d_is_term (fun _ _ _ _ _ _ us hl => match us, hl with | [_], _ => rfl) fun f fd F => ok_is_term F B TT
  have c_is_look := cal_of (P := P) (w := w) (base := base) (ps := ["thing"]) d_is_look (fun _ _ _ _ _ _ us hl => match us, hl with | [_], _ => rfl) fun f fd F => ok_is_look F B TT DD
  have t1 : T1 P w K mg base (⟨cA, cB, cC, cD, cE, cF, cG⟩ : TC) := ⟨w2, c_is_term, c_is_look⟩
  have c_checked_stream := cal_of (P := P) (w := w) (base := base) (ps := ["stream"]) d_checked_stream (fun _ _ _ _ _ _ us hl => match us, hl with | [_], _ => rfl) fun f fd F => ok_cstream F B t1
  have c_checked_term := cal_of (P := P) (w := w) (base := base) (ps := ["term"]) d_checked_term (fun _ _ _ _ _ _ us hl => match us, hl with | [_], _ => rfl) fun f fd F => ok_cterm F B t1
  have c_sizes := cal_of (P := P) (w := w) (base := base) (ps := ["children", "looks", "choices"]) d_sizes (fun _ _ _ _ _ _ us hl => match us, hl with | [_, _, _], _ => rfl) fun f fd F => ok_sizes F B Cs TT
  have t2 : T2 P w K mg base (⟨cA, cB, cC, cD, cE, cF, cG⟩ : TC) := ⟨t1, c_checked_stream, c_checked_term, c_sizes⟩
  have c_sizesX := cal_of (P := P) (w := w) (base := base) (ps := ["children", "looks", "choices"]) d_sizes (fun _ _ _ _ _ _ us hl => match us, hl with | [_, _, _], _ => rfl) fun f fd F => ok_sizesX M F B Cs TT
  have t2x : T2X P w K mg base (⟨cA, cB, cC, cD, cE, cF, cG⟩ : TC) CT := ⟨t2, c_sizesX⟩
  obtain ⟨fNI, fdNI, mNI, FNI⟩ := m_NI.ex
  have bNI : Binds K fdNI ["self"] [] := FNI.binds (ps := ["self"]) fun _ _ _ _ _ _ us hl => match us, hl with | [_], _ => rfl
  have oNI := ok_now (P := P) (w := w) (base := base) FNI B TT t2
  obtain ⟨fLI, fdLI, mLI, FLI⟩ := m_LI.ex
  have bLI : Binds K fdLI ["self", "stream", "term"] [] := FLI.binds (ps := ["self", "stream", "term"]) fun _ _ _ _ _ _ us hl => match us, hl with | [_, _, _], _ => rfl
  have oLX := ok_lastX (P := P) (w := w) (base := base) FLI B TT t2x
  obtain ⟨fXI, fdXI, mXI, FXI⟩ := m_XI.ex
  have bXI : Binds K fdXI ["self", "stream", "term"] [] := FXI.binds (ps := ["self", "stream", "term"]) fun _ _ _ _ _ _ us hl => match us, hl with | [_, _, _], _ => rfl
  have oXX := ok_nextX (P := P) (w := w) (base := base) FXI B TT t2x
  obtain ⟨fSI, fdSI, mSI, FSI⟩ := m_SI.ex
  have bSI : Binds K fdSI ["self", "term", "amount"] [] := FSI.binds (ps := ["self", "term", "amount"]) fun _ _ _ _ _ _ us hl => match us, hl with | [_, _, _], _ => rfl
  have oSX := ok_shiftX (P := P) (w := w) (base := base) FSI B TT t2x
  obtain ⟨fEI, fdEI, mEI, FEI⟩ := m_EI.ex
  have bEI : Binds K fdEI ["self", "first", "second"] [] := FEI.binds (ps := ["self", "first", "second"]) fun _ _ _ _ _ _ us hl => match us, hl with | [_, _, _], _ => rfl
  have oEX := ok_eitherX (P := P) (w := w) (base := base) FEI B TT t2x
  obtain ⟨fJI, fdJI, mJI, FJI⟩ := m_JI.ex
  have bJI : Binds K fdJI ["self", "first", "second"] [] := FJI.binds (ps := ["self", "first", "second"]) fun _ _ _ _ _ _ us hl => match us, hl with | [_, _, _], _ => rfl
  have oJX := ok_laterX (P := P) (w := w) (base := base) FJI B TT t2x
  obtain ⟨fKI, fdKI, mKI, FKI⟩ := m_KI.ex
  have bKI : Binds K fdKI ["self", "first", "second"] [] := FKI.binds (ps := ["self", "first", "second"]) fun _ _ _ _ _ _ us hl => match us, hl with | [_, _, _], _ => rfl
  have oKX := ok_earlierX (P := P) (w := w) (base := base) FKI B TT t2x
  have mkNow : Mak P w K mg base CX0 "Now" cA 2 ["self"] (spInit0 (⟨cA, cB, cC, cD, cE, cF, cG⟩ : TC)) := ⟨fNI, fdNI, ⟨mk0, mNI.at_, mNI.fn, kp0⟩, nm0, bNI, oNI⟩
  have t3 : T3X P w K mg base (⟨cA, cB, cC, cD, cE, cF, cG⟩ : TC) CT := ⟨t2x, ⟨fSI, fdSI, ⟨mk3, mSI.at_, mSI.fn, kp3⟩, nm3, bSI, oSX⟩, ⟨fEI, fdEI, ⟨mk4, mEI.at_, mEI.fn, kp4⟩, nm4, bEI, oEX⟩, ⟨fJI, fdJI, ⟨mk5, mJI.at_, mJI.fn, kp5⟩, nm5, bJI, oJX⟩, ⟨fKI, fdKI, ⟨mk6, mKI.at_, mKI.fn, kp6⟩, nm6, bKI, oKX⟩⟩
  have c_shifted := cal_of (P := P) (w := w) (base := base) (ps := ["term", "amount"]) d_shifted (fun _ _ _ _ _ _ us hl => match us, hl with | [_, _], _ => rfl) fun f fd F => ok_shiftedX F B TT DD t3
  have t4 : T4X P w K mg base (⟨cA, cB, cC, cD, cE, cF, cG⟩ : TC) CT := ⟨t3, c_shifted⟩
  obtain ⟨fdadd, madd, Fadd⟩ := m_add.ex
  have badd : Binds K fdadd ["self", "other"] [] := Fadd.binds (ps := ["self", "other"]) fun _ _ _ _ _ _ us hl => match us, hl with | [_, _], _ => rfl
  have oAdd := ok_taddX (P := P) (w := w) (base := base) Fadd B t4
  obtain ⟨fdsub, msub, Fsub⟩ := m_sub.ex
  have bsub : Binds K fdsub ["self", "other"] [] := Fsub.binds (ps := ["self", "other"]) fun _ _ _ _ _ _ us hl => match us, hl with | [_, _], _ => rfl
  have oSub := ok_tsubX (P := P) (w := w) (base := base) Fsub B t4
  obtain ⟨fdior, mior, Fior⟩ := m_ior.ex
  have bior : Binds K fdior ["self", "other"] [] := Fior.binds (ps := ["self", "other"]) fun _ _ _ _ _ _ us hl => match us, hl with | [_, _], _ => rfl
  have oOr := ok_torX (P := P) (w := w) (base := base) Fior B t3
  obtain ⟨fdlat, mlat, Flat⟩ := m_lat.ex
  have blat : Binds K fdlat ["self", "other"] [] := Flat.binds (ps := ["self", "other"]) fun _ _ _ _ _ _ us hl => match us, hl with | [_, _], _ => rfl
  have oLat := ok_tlaterX (P := P) (w := w) (base := base) Flat B t3
  obtain ⟨fdear, mear, Fear⟩ := m_ear.ex
  have bear : Binds K fdear ["self", "other"] [] := Fear.binds (ps := ["self", "other"]) fun _ _ _ _ _ _ us hl => match us, hl with | [_, _], _ => rfl
  have oEar := ok_tearlierX (P := P) (w := w) (base := base) Fear B t3
  have OS : OpI K ((⟨cA, cB, cC, cD, cE, cF, cG⟩ : TC)).Is .Sub fsub := { sf := is7 (sf0) (sf1) (sf2) (sf3) (sf4) (sf5) (sf6), at_ := is7 (su0) (su1) (su2) (su3) (su4) (su5) (su6), rt := is7 (rs0) (rs1) (rs2) (rs3) (rs4) (rs5) (rs6), fn := msub.fn, sub := is7 (si0) (si1) (si2) (si3) (si4) (si5) (si6), i1 := ⟨_, i3⟩, i2 := ⟨_, i4⟩ }
  have ox : OpX P w K mg base (⟨cA, cB, cC, cD, cE, cF, cG⟩ : TC) CT := ⟨⟨_, _, OI, oAdd, badd⟩, ⟨_, _, OO, oOr, bior⟩, ⟨_, _, ML, oLat, blat⟩, ⟨_, _, ME, oEar, bear⟩⟩
  obtain ⟨fnuI, fdnuI, mnuI, FnuI⟩ := m_nuI.ex
  have bnuI : Binds K fdnuI ["self", "stream", "term"] [] := FnuI.binds (ps := ["self", "stream", "term"]) fun _ _ _ _ _ _ us hl => match us, hl with | [_, _, _], _ => rfl
  have oNu := ok_number (P := P) (w := w) (base := base) FnuI B TT AF0 t2
  obtain ⟨fcoI, fdcoI, mcoI, FcoI⟩ := m_coI.ex
  have bcoI : Binds K fdcoI ["self", "stream", "first", "last"] [] := FcoI.binds (ps := ["self", "stream", "first", "last"]) fun _ _ _ _ _ _ us hl => match us, hl with | [_, _, _, _], _ => rfl
  have oCo := ok_count (P := P) (w := w) (base := base) FcoI B TT AF0 t2
  obtain ⟨ftoI, fdtoI, mtoI, FtoI⟩ := m_toI.ex
  have btoI : Binds K fdtoI ["self", "stream", "first", "last"] [] := FtoI.binds (ps := ["self", "stream", "first", "last"]) fun _ _ _ _ _ _ us hl => match us, hl with | [_, _, _, _], _ => rfl
  have oTo := ok_total (P := P) (w := w) (base := base) FtoI B TT AF0 t2
  obtain ⟨fgaI, fdgaI, mgaI, FgaI⟩ := m_gaI.ex
  have bgaI : Binds K fdgaI ["self", "first", "last"] [] := FgaI.binds (ps := ["self", "first", "last"]) fun _ _ _ _ _ _ us hl => match us, hl with | [_, _, _], _ => rfl
  have oGa := ok_gap (P := P) (w := w) (base := base) FgaI B TT AF0 t2
  have mNu : Mak P w K mg base CX0 "Number" aA 3 ["self", "stream", "term"] (spInitN (⟨aA, aB, aC, aD⟩ : AC) (⟨cA, cB, cC, cD, cE, cF, cG⟩ : TC)) := ⟨fnuI, fdnuI, ⟨amk0, mnuI.at_, mnuI.fn, akp0⟩, anm0, bnuI, oNu⟩
  have mCo : Mak P w K mg base CX0 "Count" aB 3 ["self", "stream", "first", "last"] (spInitC (⟨aA, aB, aC, aD⟩ : AC) (⟨cA, cB, cC, cD, cE, cF, cG⟩ : TC) aB Am.count) := ⟨fcoI, fdcoI, ⟨amk1, mcoI.at_, mcoI.fn, akp1⟩, anm1, bcoI, oCo⟩
  have mTo : Mak P w K mg base CX0 "Total" aC 3 ["self", "stream", "first", "last"] (spInitC (⟨aA, aB, aC, aD⟩ : AC) (⟨cA, cB, cC, cD, cE, cF, cG⟩ : TC) aC Am.total) := ⟨ftoI, fdtoI, ⟨amk2, mtoI.at_, mtoI.fn, akp2⟩, anm2, btoI, oTo⟩
  have mGa : Mak P w K mg base CX0 "Gap" aD 3 ["self", "first", "last"] (spInitG (⟨aA, aB, aC, aD⟩ : AC) (⟨cA, cB, cC, cD, cE, cF, cG⟩ : TC)) := ⟨fgaI, fdgaI, ⟨amk3, mgaI.at_, mgaI.fn, akp3⟩, anm3, bgaI, oGa⟩
  have c_is_amount := cal_of (P := P) (w := w) (base := base) (ps := ["thing"]) d_is_amount (fun _ _ _ _ _ _ us hl => match us, hl with | [_], _ => rfl) fun f fd F => ok_isam F B AF0
  have g0e : G0e P w K mg base (⟨aA, aB, aC, aD⟩ : AC) (⟨cA, cB, cC, cD, cE, cF, cG⟩ : TC) := ⟨c_is_term, c_is_amount⟩
  obtain ⟨fdteq, mteq, Fteq⟩ := m_teq.ex
  have bteq : Binds K fdteq ["self", "other"] [] := Fteq.binds (ps := ["self", "other"]) fun _ _ _ _ _ _ us hl => match us, hl with | [_, _], _ => rfl
  have oTeq := ok_teq (P := P) (w := w) (base := base) Fteq B TT g0e
  obtain ⟨fdaeq, maeq, Faeq⟩ := m_aeq.ex
  have baeq : Binds K fdaeq ["self", "other"] [] := Faeq.binds (ps := ["self", "other"]) fun _ _ _ _ _ _ us hl => match us, hl with | [_, _], _ => rfl
  have oAeq := ok_aeq (P := P) (w := w) (base := base) Faeq B AF0 g0e
  have NT : NeF K ((⟨cA, cB, cC, cD, cE, cF, cG⟩ : TC)).Is fteq := { ne := is7 (nq0) (nq1) (nq2) (nq3) (nq4) (nq5) (nq6), eq := is7 (eq0) (eq1) (eq2) (eq3) (eq4) (eq5) (eq6), fn := mteq.fn, ob := is7 (ob0) (ob1) (ob2) (ob3) (ob4) (ob5) (ob6) }
  have NQ : NeF K (⟨aA, aB, aC, aD⟩ : AC).Is faeq := { ne := is4 (anq0) (anq1) (anq2) (anq3), eq := is4 (aeq0) (aeq1) (aeq2) (aeq3), fn := maeq.fn, ob := is4 (aob0) (aob1) (aob2) (aob3) }
  have NF : NFs K (⟨aA, aB, aC, aD⟩ : AC) (⟨cA, cB, cC, cD, cE, cF, cG⟩ : TC) := { tt := fun a b ha hb => is7 (C := (⟨cA, cB, cC, cD, cE, cF, cG⟩ : TC)) (p := fun a => ∀ b, ((⟨cA, cB, cC, cD, cE, cF, cG⟩ : TC)).Is b → PySem.W.notFirst K a (.ref b) = true) (is7 (C := (⟨cA, cB, cC, cD, cE, cF, cG⟩ : TC)) (p := fun b => PySem.W.notFirst K cA (.ref b) = true) (nf_me) (nf_of s1_0) (nf_of s2_0) (nf_of s3_0) (nf_of s4_0) (nf_of s5_0) (nf_of s6_0)) (is7 (C := (⟨cA, cB, cC, cD, cE, cF, cG⟩ : TC)) (p := fun b => PySem.W.notFirst K cB (.ref b) = true) (nf_of s0_1) (nf_me) (nf_of s2_1) (nf_of s3_1) (nf_of s4_1) (nf_of s5_1) (nf_of s6_1)) (is7 (C := (⟨cA, cB, cC, cD, cE, cF, cG⟩ : TC)) (p := fun b => PySem.W.notFirst K cC (.ref b) = true) (nf_of s0_2) (nf_of s1_2) (nf_me) (nf_of s3_2) (nf_of s4_2) (nf_of s5_2) (nf_of s6_2)) (is7 (C := (⟨cA, cB, cC, cD, cE, cF, cG⟩ : TC)) (p := fun b => PySem.W.notFirst K cD (.ref b) = true) (nf_of s0_3) (nf_of s1_3) (nf_of s2_3) (nf_me) (nf_of s4_3) (nf_of s5_3) (nf_of s6_3)) (is7 (C := (⟨cA, cB, cC, cD, cE, cF, cG⟩ : TC)) (p := fun b => PySem.W.notFirst K cE (.ref b) = true) (nf_of s0_4) (nf_of s1_4) (nf_of s2_4) (nf_of s3_4) (nf_me) (nf_of s5_4) (nf_of s6_4)) (is7 (C := (⟨cA, cB, cC, cD, cE, cF, cG⟩ : TC)) (p := fun b => PySem.W.notFirst K cF (.ref b) = true) (nf_of s0_5) (nf_of s1_5) (nf_of s2_5) (nf_of s3_5) (nf_of s4_5) (nf_me) (nf_of s6_5)) (is7 (C := (⟨cA, cB, cC, cD, cE, cF, cG⟩ : TC)) (p := fun b => PySem.W.notFirst K cG (.ref b) = true) (nf_of s0_6) (nf_of s1_6) (nf_of s2_6) (nf_of s3_6) (nf_of s4_6) (nf_of s5_6) (nf_me)) a ha b hb, ta := fun a b ha hb => is7 (C := (⟨cA, cB, cC, cD, cE, cF, cG⟩ : TC)) (p := fun a => ∀ b, (⟨aA, aB, aC, aD⟩ : AC).Is b → PySem.W.notFirst K a (.ref b) = true) (is4 (A := ⟨aA, aB, aC, aD⟩) (p := fun b => PySem.W.notFirst K cA (.ref b) = true) (nf_of at0_0) (nf_of at1_0) (nf_of at2_0) (nf_of at3_0)) (is4 (A := ⟨aA, aB, aC, aD⟩) (p := fun b => PySem.W.notFirst K cB (.ref b) = true) (nf_of at0_1) (nf_of at1_1) (nf_of at2_1) (nf_of at3_1)) (is4 (A := ⟨aA, aB, aC, aD⟩) (p := fun b => PySem.W.notFirst K cC (.ref b) = true) (nf_of at0_2) (nf_of at1_2) (nf_of at2_2) (nf_of at3_2)) (is4 (A := ⟨aA, aB, aC, aD⟩) (p := fun b => PySem.W.notFirst K cD (.ref b) = true) (nf_of at0_3) (nf_of at1_3) (nf_of at2_3) (nf_of at3_3)) (is4 (A := ⟨aA, aB, aC, aD⟩) (p := fun b => PySem.W.notFirst K cE (.ref b) = true) (nf_of at0_4) (nf_of at1_4) (nf_of at2_4) (nf_of at3_4)) (is4 (A := ⟨aA, aB, aC, aD⟩) (p := fun b => PySem.W.notFirst K cF (.ref b) = true) (nf_of at0_5) (nf_of at1_5) (nf_of at2_5) (nf_of at3_5)) (is4 (A := ⟨aA, aB, aC, aD⟩) (p := fun b => PySem.W.notFirst K cG (.ref b) = true) (nf_of at0_6) (nf_of at1_6) (nf_of at2_6) (nf_of at3_6)) a ha b hb, at_ := fun a b ha hb => is4 (A := ⟨aA, aB, aC, aD⟩) (p := fun a => ∀ b, ((⟨cA, cB, cC, cD, cE, cF, cG⟩ : TC)).Is b → PySem.W.notFirst K a (.ref b) = true) (is7 (C := (⟨cA, cB, cC, cD, cE, cF, cG⟩ : TC)) (p := fun b => PySem.W.notFirst K aA (.ref b) = true) (nf_of ta0_0) (nf_of ta0_1) (nf_of ta0_2) (nf_of ta0_3) (nf_of ta0_4) (nf_of ta0_5) (nf_of ta0_6)) (is7 (C := (⟨cA, cB, cC, cD, cE, cF, cG⟩ : TC)) (p := fun b => PySem.W.notFirst K aB (.ref b) = true) (nf_of ta1_0) (nf_of ta1_1) (nf_of ta1_2) (nf_of ta1_3) (nf_of ta1_4) (nf_of ta1_5) (nf_of ta1_6)) (is7 (C := (⟨cA, cB, cC, cD, cE, cF, cG⟩ : TC)) (p := fun b => PySem.W.notFirst K aC (.ref b) = true) (nf_of ta2_0) (nf_of ta2_1) (nf_of ta2_2) (nf_of ta2_3) (nf_of ta2_4) (nf_of ta2_5) (nf_of ta2_6)) (is7 (C := (⟨cA, cB, cC, cD, cE, cF, cG⟩ : TC)) (p := fun b => PySem.W.notFirst K aD (.ref b) = true) (nf_of ta3_0) (nf_of ta3_1) (nf_of ta3_2) (nf_of ta3_3) (nf_of ta3_4) (nf_of ta3_5) (nf_of ta3_6)) a ha b hb, aa := fun a b ha hb => is4 (A := ⟨aA, aB, aC, aD⟩) (p := fun a => ∀ b, (⟨aA, aB, aC, aD⟩ : AC).Is b → PySem.W.notFirst K a (.ref b) = true) (is4 (A := ⟨aA, aB, aC, aD⟩) (p := fun b => PySem.W.notFirst K aA (.ref b) = true) (nf_me) (nf_of as1_0) (nf_of as2_0) (nf_of as3_0)) (is4 (A := ⟨aA, aB, aC, aD⟩) (p := fun b => PySem.W.notFirst K aB (.ref b) = true) (nf_of as0_1) (nf_me) (nf_of as2_1) (nf_of as3_1)) (is4 (A := ⟨aA, aB, aC, aD⟩) (p := fun b => PySem.W.notFirst K aC (.ref b) = true) (nf_of as0_2) (nf_of as1_2) (nf_me) (nf_of as3_2)) (is4 (A := ⟨aA, aB, aC, aD⟩) (p := fun b => PySem.W.notFirst K aD (.ref b) = true) (nf_of as0_3) (nf_of as1_3) (nf_of as2_3) (nf_me)) a ha b hb, tb := is7 (C := (⟨cA, cB, cC, cD, cE, cF, cG⟩ : TC)) (p := fun a => ∀ t ∈ [Value.type "NoneType", .type "str", .type "tuple", .type "int"], PySem.W.notFirst K a t = true) (four_t (p := fun t => PySem.W.notFirst K cA t = true) (nf_of sb0_0) (nf_of sb1_0) (nf_of sb2_0) (nf_of sb3_0)) (four_t (p := fun t => PySem.W.notFirst K cB t = true) (nf_of sb0_1) (nf_of sb1_1) (nf_of sb2_1) (nf_of sb3_1)) (four_t (p := fun t => PySem.W.notFirst K cC t = true) (nf_of sb0_2) (nf_of sb1_2) (nf_of sb2_2) (nf_of sb3_2)) (four_t (p := fun t => PySem.W.notFirst K cD t = true) (nf_of sb0_3) (nf_of sb1_3) (nf_of sb2_3) (nf_of sb3_3)) (four_t (p := fun t => PySem.W.notFirst K cE t = true) (nf_of sb0_4) (nf_of sb1_4) (nf_of sb2_4) (nf_of sb3_4)) (four_t (p := fun t => PySem.W.notFirst K cF t = true) (nf_of sb0_5) (nf_of sb1_5) (nf_of sb2_5) (nf_of sb3_5)) (four_t (p := fun t => PySem.W.notFirst K cG t = true) (nf_of sb0_6) (nf_of sb1_6) (nf_of sb2_6) (nf_of sb3_6)), ab := is4 (A := ⟨aA, aB, aC, aD⟩) (p := fun a => PySem.W.notFirst K a (.type "tuple") = true) (nf_of ab_0) (nf_of ab_1) (nf_of ab_2) (nf_of ab_3), nb := four_t (p := fun t => ∀ a, ((⟨cA, cB, cC, cD, cE, cF, cG⟩ : TC)).Is a → PySem.W.kitOne K t (.ref a) = some false) (is7 (C := (⟨cA, cB, cC, cD, cE, cF, cG⟩ : TC)) (p := fun a => PySem.W.kitOne K (.type "NoneType") (.ref a) = some false) (kit_noT ic0 ti0 sb0_0) (kit_noT ic1 ti1 sb0_1) (kit_noT ic2 ti2 sb0_2) (kit_noT ic3 ti3 sb0_3) (kit_noT ic4 ti4 sb0_4) (kit_noT ic5 ti5 sb0_5) (kit_noT ic6 ti6 sb0_6)) (is7 (C := (⟨cA, cB, cC, cD, cE, cF, cG⟩ : TC)) (p := fun a => PySem.W.kitOne K (.type "str") (.ref a) = some false) (kit_noT ic0 ti0 sb1_0) (kit_noT ic1 ti1 sb1_1) (kit_noT ic2 ti2 sb1_2) (kit_noT ic3 ti3 sb1_3) (kit_noT ic4 ti4 sb1_4) (kit_noT ic5 ti5 sb1_5) (kit_noT ic6 ti6 sb1_6)) (is7 (C := (⟨cA, cB, cC, cD, cE, cF, cG⟩ : TC)) (p := fun a => PySem.W.kitOne K (.type "tuple") (.ref a) = some false) (kit_noT ic0 ti0 sb2_0) (kit_noT ic1 ti1 sb2_1) (kit_noT ic2 ti2 sb2_2) (kit_noT ic3 ti3 sb2_3) (kit_noT ic4 ti4 sb2_4) (kit_noT ic5 ti5 sb2_5) (kit_noT ic6 ti6 sb2_6)) (is7 (C := (⟨cA, cB, cC, cD, cE, cF, cG⟩ : TC)) (p := fun a => PySem.W.kitOne K (.type "int") (.ref a) = some false) (kit_noT ic0 ti0 sb3_0) (kit_noT ic1 ti1 sb3_1) (kit_noT ic2 ti2 sb3_2) (kit_noT ic3 ti3 sb3_3) (kit_noT ic4 ti4 sb3_4) (kit_noT ic5 ti5 sb3_5) (kit_noT ic6 ti6 sb3_6)), na := fun b a hb ha => AF0.noT b a hb ha, nt := NA0, ntup := is4 (A := ⟨aA, aB, aC, aD⟩) (p := fun b => PySem.W.kitOne K (.type "tuple") (.ref b) = some false) (kit_noT aic0 ati0 ab_0) (kit_noT aic1 ati1 ab_1) (kit_noT aic2 ati2 ab_2) (kit_noT aic3 ati3 ab_3) }
  have AmF0 : AmF K mg (⟨aA, aB, aC, aD⟩ : AC) (⟨cA, cB, cC, cD, cE, cF, cG⟩ : TC) CAm CTm := { gA := gAm, gT := gTm, aA := is4 (A := ⟨aA, aB, aC, aD⟩) (p := fun a => PySem.W.kitOne K (.ref a) (.ref CAm) = some true) (kit_yes icA tiA aA0) (kit_yes icA tiA aA1) (kit_yes icA tiA aA2) (kit_yes icA tiA aA3), tA := is7 (C := (⟨cA, cB, cC, cD, cE, cF, cG⟩ : TC)) (p := fun a => PySem.W.kitOne K (.ref a) (.ref CAm) = some false) (kit_no0 (ne_sub s0_0 tA0) icA tiA tA0) (kit_no0 (ne_sub s1_1 tA1) icA tiA tA1) (kit_no0 (ne_sub s2_2 tA2) icA tiA tA2) (kit_no0 (ne_sub s3_3 tA3) icA tiA tA3) (kit_no0 (ne_sub s4_4 tA4) icA tiA tA4) (kit_no0 (ne_sub s5_5 tA5) icA tiA tA5) (kit_no0 (ne_sub s6_6 tA6) icA tiA tA6), aT := is4 (A := ⟨aA, aB, aC, aD⟩) (p := fun a => PySem.W.kitOne K (.ref a) (.ref CTm) = some false) (kit_no0 (ne_sub as0_0 aT0) icT tiT aT0) (kit_no0 (ne_sub as1_1 aT1) icT tiT aT1) (kit_no0 (ne_sub as2_2 aT2) icT tiT aT2) (kit_no0 (ne_sub as3_3 aT3) icT tiT aT3), tT := is7 (C := (⟨cA, cB, cC, cD, cE, cF, cG⟩ : TC)) (p := fun a => PySem.W.kitOne K (.ref a) (.ref CTm) = some true) (kit_yes icT tiT tT0) (kit_yes icT tiT tT1) (kit_yes icT tiT tT2) (kit_yes icT tiT tT3) (kit_yes icT tiT tT4) (kit_yes icT tiT tT5) (kit_yes icT tiT tT6) }
  have c_children_of := cal_of (P := P) (w := w) (base := base) (ps := ["term"]) d_children_of (fun _ _ _ _ _ _ us hl => match us, hl with | [_], _ => rfl) fun f fd F => ok_kids F B TT DD
  have pa := pts_all B c_children_of d_parts_of 12
  have g2s : G2s P w K mg base (⟨cA, cB, cC, cD, cE, cF, cG⟩ : TC) := ⟨pa.parts_of, c_is_look⟩
  obtain ⟨fdstr, mstr, Fstr⟩ := m_str.ex
  have bstr : Binds K fdstr ["self"] [] := Fstr.binds (ps := ["self"]) fun _ _ _ _ _ _ us hl => match us, hl with | [_], _ => rfl
  have oStr := ok_streams (P := P) (w := w) (base := base) Fstr B TT g2s
  have MSt : MethF K ((⟨cA, cB, cC, cD, cE, cF, cG⟩ : TC)).Is "streams" fstr := { at_ := is7 (⟨cl0, sm0⟩) (⟨cl1, sm1⟩) (⟨cl2, sm2⟩) (⟨cl3, sm3⟩) (⟨cl4, sm4⟩) (⟨cl5, sm5⟩) (⟨cl6, sm6⟩), fn := mstr.fn, kp := mstr.kp }
  have c_terms_of := cal_of (P := P) (w := w) (base := base) (ps := ["question"]) d_terms_of (fun _ _ _ _ _ _ us hl => match us, hl with | [_], _ => rfl) fun f fd F => ok_tmsof F B AF0
  have g3s : G3s P w K mg base (⟨aA, aB, aC, aD⟩ : AC) (⟨cA, cB, cC, cD, cE, cF, cG⟩ : TC) := ⟨c_terms_of, ⟨_, _, MSt, oStr, bstr⟩⟩
  obtain ⟨fdast, mast, Fast⟩ := m_ast.ex
  have bast : Binds K fdast ["self"] [] := Fast.binds (ps := ["self"]) fun _ _ _ _ _ _ us hl => match us, hl with | [_], _ => rfl
  have oAst := ok_astreams (P := P) (w := w) (base := base) Fast B AF0 g3s
  have MAt : MethF K (⟨aA, aB, aC, aD⟩ : AC).Is "streams" fast := { at_ := is4 (⟨acl0, am0⟩) (⟨acl1, am1⟩) (⟨acl2, am2⟩) (⟨acl3, am3⟩), fn := mast.fn, kp := mast.kp }
  have c__law_pool := cal_of (P := P) (w := w) (base := base) (ps := ["script"]) d__law_pool (fun _ _ _ _ _ _ us hl => match us, hl with | [_], _ => rfl) fun f fd F => ok_pool F B
  have c__law_draw := cal_of (P := P) (w := w) (base := base) (ps := ["pool", "many"]) d__law_draw (fun _ _ _ _ _ _ us hl => match us, hl with | [_, _], _ => rfl) fun f fd F => ok_draw F B
  have g1 : G1 P w K mg base := ⟨c__law_draw⟩
  have c__law_names := cal_of (P := P) (w := w) (base := base) (ps := ["pool", "many"]) d__law_names (fun _ _ _ _ _ _ us hl => match us, hl with | [_, _], _ => rfl) fun f fd F => ok_names F B g1
  have c__law_moment := cal_of (P := P) (w := w) (base := base) (ps := ["pool"]) d__law_moment (fun _ _ _ _ _ _ us hl => match us, hl with | [_], _ => rfl) fun f fd F => ok_moment F B g1
  have c__law_joined := cal_of (P := P) (w := w) (base := base) (ps := ["model", "amount"]) d__law_joined (fun _ _ _ _ _ _ us hl => match us, hl with | [_, _], _ => rfl) fun f fd F => ok_joined F B
  have c__law_children := cal_of (P := P) (w := w) (base := base) (ps := ["model"]) d__law_children (fun _ _ _ _ _ _ us hl => match us, hl with | [_], _ => rfl) fun f fd F => ok_mkids F B
  have sz := (msz_all B c__law_children d__law_sizes 13).sizes
  have stm := (mst_all B c__law_children d__law_streams 12).mstr
  have tk := (tak_all (P := P) (w := w) (base := base) B TT DD d__law_taken 12).taken
  have g4 : G4m P w K mg base (⟨cA, cB, cC, cD, cE, cF, cG⟩ : TC) CT := ⟨c__law_draw, c__law_moment, c__law_joined, sz, ⟨fLI, fdLI, ⟨mk1, mLI.at_, mLI.fn, kp1⟩, nm1, bLI, oLX⟩, ⟨fXI, fdXI, ⟨mk2, mXI.at_, mXI.fn, kp2⟩, nm2, bXI, oXX⟩⟩
  have c__law_step := cal_of (P := P) (w := w) (base := base) (ps := ["pool", "streams", "grown", "smaller"]) d__law_step (fun _ _ _ _ _ _ us hl => match us, hl with | [_, _, _, _], _ => rfl) fun f fd F => ok_lstep F B TT M ox g4
  have g5 : G5m P w K mg base (⟨cA, cB, cC, cD, cE, cF, cG⟩ : TC) := ⟨tk, sz, stm, ⟨_, _, MSt, oStr, bstr⟩⟩
  have c__law_is_sized := cal_of (P := P) (w := w) (base := base) (ps := ["term", "model"]) d__law_is_sized (fun _ _ _ _ _ _ us hl => match us, hl with | [_, _], _ => rfl) fun f fd F => ok_lsized F B TT g5
  have os : OpS P w K mg base (⟨cA, cB, cC, cD, cE, cF, cG⟩ : TC) CT := ⟨⟨_, _, OI, oAdd, badd⟩, ⟨_, _, OS, oSub, bsub⟩, ⟨_, _, NT, oTeq, bteq⟩⟩
  have g6 : G6m P w K mg base (⟨cA, cB, cC, cD, cE, cF, cG⟩ : TC) := ⟨c__law_moment, mkNow⟩
  have c__law_shifts := cal_of (P := P) (w := w) (base := base) (ps := ["pool", "term"]) d__law_shifts (fun _ _ _ _ _ _ us hl => match us, hl with | [_, _], _ => rfl) fun f fd F => ok_lshifts F B TT NF os g6
  have g7 : G7m P w K mg base (⟨aA, aB, aC, aD⟩ : AC) (⟨cA, cB, cC, cD, cE, cF, cG⟩ : TC) := ⟨mNu, mCo, mTo, mGa, ⟨_, _, NT, oTeq, bteq⟩, ⟨_, _, NQ, oAeq, baeq⟩⟩
  have c__law_equal := cal_of (P := P) (w := w) (base := base) (ps := ["stream", "grown", "smaller"]) d__law_equal (fun _ _ _ _ _ _ us hl => match us, hl with | [_, _, _], _ => rfl) fun f fd F => ok_lequal F B TT AF0 NF NY g7
  have c__law_is_apart := cal_of (P := P) (w := w) (base := base) (ps := ["stream", "one", "two"]) d__law_is_apart (fun _ _ _ _ _ _ us hl => match us, hl with | [_, _, _], _ => rfl) fun f fd F => ok_lapart F B TT AF0 NF AmF0 g7
  have gl : L12 P w K mg base (⟨aA, aB, aC, aD⟩ : AC) (⟨cA, cB, cC, cD, cE, cF, cG⟩ : TC) CT := ⟨g7, c__law_pool, c__law_draw, c__law_names, mkNow, c__law_step, c__law_is_sized, c__law_shifts, c__law_equal, c__law_is_apart, stm, ⟨_, _, MAt, oAst, bast⟩⟩
  exact ok_law F_law B gl
end
theorem all_mk {P : Program} {w : World} {K : PySem.W.Frag} {h : Heap} {mg : Str → Option Value} {fa CT CAm CTm cA cB cC cD cE cF cG aA aB aC aD fadd fior flat fear fsub fteq faeq fstr fast f4 : Addr} {oc4 kV4 dc4 pm4 cd4 ct4 : Value} {od4 an4 : Option Addr} {sl4 : Array (Option Value)} (X : K.In h) (G : h.Ns mainGlobals mg) (hfa : mg "law" = some (.ref fa))
    (a4 : PySem.W.nsIn K mainGlobals "law" = some (some (.ref f4))) (l4 : K.lookup f4 = some ⟨oc4, od4, .func (PySem.W.fnOf "law" "law" (defArgs s_law) (defBody s_law) (defScope s_law) .none kV4 dc4 pm4 an4 cd4 ct4), sl4⟩) (c4 : PySem.W.codeIn K cd4 "law" = true) (k4 : PySem.W.keepIn K (.ref f4) = true)
    (M : TMy K mg CT)
    (B : Blt mg)
    (Cs : Cst mg)
    (NY : mg "any" = none)
    (gAm : mg "Amount" = some (.ref CAm))
    (gTm : mg "Term" = some (.ref CTm))
    (icA : PySem.W.isClsIn K CAm = true)
    (tiA : PySem.W.typeIn K (.ref CAm) = some (.type "type"))
    (icT : PySem.W.isClsIn K CTm = true)
    (tiT : PySem.W.typeIn K (.ref CTm) = some (.type "type"))
    (nm0 : mg "Now" = some (.ref cA))
    (cl0 : Cls K cA)
    (b0 : BkI K cA)
    (ic0 : PySem.W.isClsIn K cA = true)
    (ti0 : PySem.W.typeIn K (.ref cA) = some (.type "type"))
    (sf0 : PySem.W.selfFirst K cA = true)
    (at0 : PySem.W.findIn K (.ref cA) "__add__" = some (some (.ref fadd)))
    (rt0 : PySem.W.findIn K (.ref cA) "__radd__" = some none)
    (si0 : PySem.W.subIn K (.type "int") (.ref cA) = some false)
    (or0 : PySem.W.findIn K (.ref cA) "__or__" = some (some (.ref fior)))
    (ro0 : PySem.W.findIn K (.ref cA) "__ror__" = some none)
    (la0 : PySem.W.findIn K (.ref cA) "later" = some (some (.ref flat)))
    (ea0 : PySem.W.findIn K (.ref cA) "earlier" = some (some (.ref fear)))
    (n0_0 : NoAttr K cA "stream")
    (n0_1 : NoAttr K cA "term")
    (n0_2 : NoAttr K cA "first")
    (n0_3 : NoAttr K cA "second")
    (n0_4 : NoAttr K cA "amount")
    (n0_5 : NoAttr K cA "spelling")
    (n0_6 : NoAttr K cA "depth")
    (n0_7 : NoAttr K cA "parts")
    (n0_8 : NoAttr K cA "looks")
    (n0_9 : NoAttr K cA "choices")
    (s0_0 : PySem.W.subIn K (.ref cA) (.ref cA) = some true)
    (s0_1 : PySem.W.subIn K (.ref cA) (.ref cB) = some false)
    (s0_2 : PySem.W.subIn K (.ref cA) (.ref cC) = some false)
    (s0_3 : PySem.W.subIn K (.ref cA) (.ref cD) = some false)
    (s0_4 : PySem.W.subIn K (.ref cA) (.ref cE) = some false)
    (s0_5 : PySem.W.subIn K (.ref cA) (.ref cF) = some false)
    (s0_6 : PySem.W.subIn K (.ref cA) (.ref cG) = some false)
    (nm1 : mg "Last" = some (.ref cB))
    (cl1 : Cls K cB)
    (b1 : BkI K cB)
    (ic1 : PySem.W.isClsIn K cB = true)
    (ti1 : PySem.W.typeIn K (.ref cB) = some (.type "type"))
    (sf1 : PySem.W.selfFirst K cB = true)
    (at1 : PySem.W.findIn K (.ref cB) "__add__" = some (some (.ref fadd)))
    (rt1 : PySem.W.findIn K (.ref cB) "__radd__" = some none)
    (si1 : PySem.W.subIn K (.type "int") (.ref cB) = some false)
    (or1 : PySem.W.findIn K (.ref cB) "__or__" = some (some (.ref fior)))
    (ro1 : PySem.W.findIn K (.ref cB) "__ror__" = some none)
    (la1 : PySem.W.findIn K (.ref cB) "later" = some (some (.ref flat)))
    (ea1 : PySem.W.findIn K (.ref cB) "earlier" = some (some (.ref fear)))
    (n1_0 : NoAttr K cB "stream")
    (n1_1 : NoAttr K cB "term")
    (n1_2 : NoAttr K cB "first")
    (n1_3 : NoAttr K cB "second")
    (n1_4 : NoAttr K cB "amount")
    (n1_5 : NoAttr K cB "spelling")
    (n1_6 : NoAttr K cB "depth")
    (n1_7 : NoAttr K cB "parts")
    (n1_8 : NoAttr K cB "looks")
    (n1_9 : NoAttr K cB "choices")
    (s1_0 : PySem.W.subIn K (.ref cB) (.ref cA) = some false)
    (s1_1 : PySem.W.subIn K (.ref cB) (.ref cB) = some true)
    (s1_2 : PySem.W.subIn K (.ref cB) (.ref cC) = some false)
    (s1_3 : PySem.W.subIn K (.ref cB) (.ref cD) = some false)
    (s1_4 : PySem.W.subIn K (.ref cB) (.ref cE) = some false)
    (s1_5 : PySem.W.subIn K (.ref cB) (.ref cF) = some false)
    (s1_6 : PySem.W.subIn K (.ref cB) (.ref cG) = some false)
    (nm2 : mg "Next" = some (.ref cC))
    (cl2 : Cls K cC)
    (b2 : BkI K cC)
    (ic2 : PySem.W.isClsIn K cC = true)
    (ti2 : PySem.W.typeIn K (.ref cC) = some (.type "type"))
    (sf2 : PySem.W.selfFirst K cC = true)
    (at2 : PySem.W.findIn K (.ref cC) "__add__" = some (some (.ref fadd)))
    (rt2 : PySem.W.findIn K (.ref cC) "__radd__" = some none)
    (si2 : PySem.W.subIn K (.type "int") (.ref cC) = some false)
    (or2 : PySem.W.findIn K (.ref cC) "__or__" = some (some (.ref fior)))
    (ro2 : PySem.W.findIn K (.ref cC) "__ror__" = some none)
    (la2 : PySem.W.findIn K (.ref cC) "later" = some (some (.ref flat)))
    (ea2 : PySem.W.findIn K (.ref cC) "earlier" = some (some (.ref fear)))
    (n2_0 : NoAttr K cC "stream")
    (n2_1 : NoAttr K cC "term")
    (n2_2 : NoAttr K cC "first")
    (n2_3 : NoAttr K cC "second")
    (n2_4 : NoAttr K cC "amount")
    (n2_5 : NoAttr K cC "spelling")
    (n2_6 : NoAttr K cC "depth")
    (n2_7 : NoAttr K cC "parts")
    (n2_8 : NoAttr K cC "looks")
    (n2_9 : NoAttr K cC "choices")
    (s2_0 : PySem.W.subIn K (.ref cC) (.ref cA) = some false)
    (s2_1 : PySem.W.subIn K (.ref cC) (.ref cB) = some false)
    (s2_2 : PySem.W.subIn K (.ref cC) (.ref cC) = some true)
    (s2_3 : PySem.W.subIn K (.ref cC) (.ref cD) = some false)
    (s2_4 : PySem.W.subIn K (.ref cC) (.ref cE) = some false)
    (s2_5 : PySem.W.subIn K (.ref cC) (.ref cF) = some false)
    (s2_6 : PySem.W.subIn K (.ref cC) (.ref cG) = some false)
    (nm3 : mg "Shift" = some (.ref cD))
    (cl3 : Cls K cD)
    (b3 : BkI K cD)
    (ic3 : PySem.W.isClsIn K cD = true)
    (ti3 : PySem.W.typeIn K (.ref cD) = some (.type "type"))
    (sf3 : PySem.W.selfFirst K cD = true)
    (at3 : PySem.W.findIn K (.ref cD) "__add__" = some (some (.ref fadd)))
    (rt3 : PySem.W.findIn K (.ref cD) "__radd__" = some none)
    (si3 : PySem.W.subIn K (.type "int") (.ref cD) = some false)
    (or3 : PySem.W.findIn K (.ref cD) "__or__" = some (some (.ref fior)))
    (ro3 : PySem.W.findIn K (.ref cD) "__ror__" = some none)
    (la3 : PySem.W.findIn K (.ref cD) "later" = some (some (.ref flat)))
    (ea3 : PySem.W.findIn K (.ref cD) "earlier" = some (some (.ref fear)))
    (n3_0 : NoAttr K cD "stream")
    (n3_1 : NoAttr K cD "term")
    (n3_2 : NoAttr K cD "first")
    (n3_3 : NoAttr K cD "second")
    (n3_4 : NoAttr K cD "amount")
    (n3_5 : NoAttr K cD "spelling")
    (n3_6 : NoAttr K cD "depth")
    (n3_7 : NoAttr K cD "parts")
    (n3_8 : NoAttr K cD "looks")
    (n3_9 : NoAttr K cD "choices")
    (s3_0 : PySem.W.subIn K (.ref cD) (.ref cA) = some false)
    (s3_1 : PySem.W.subIn K (.ref cD) (.ref cB) = some false)
    (s3_2 : PySem.W.subIn K (.ref cD) (.ref cC) = some false)
    (s3_3 : PySem.W.subIn K (.ref cD) (.ref cD) = some true)
    (s3_4 : PySem.W.subIn K (.ref cD) (.ref cE) = some false)
    (s3_5 : PySem.W.subIn K (.ref cD) (.ref cF) = some false)
    (s3_6 : PySem.W.subIn K (.ref cD) (.ref cG) = some false)
    (nm4 : mg "Either" = some (.ref cE))
    (cl4 : Cls K cE)
    (b4 : BkI K cE)
    (ic4 : PySem.W.isClsIn K cE = true)
    (ti4 : PySem.W.typeIn K (.ref cE) = some (.type "type"))
    (sf4 : PySem.W.selfFirst K cE = true)
    (at4 : PySem.W.findIn K (.ref cE) "__add__" = some (some (.ref fadd)))
    (rt4 : PySem.W.findIn K (.ref cE) "__radd__" = some none)
    (si4 : PySem.W.subIn K (.type "int") (.ref cE) = some false)
    (or4 : PySem.W.findIn K (.ref cE) "__or__" = some (some (.ref fior)))
    (ro4 : PySem.W.findIn K (.ref cE) "__ror__" = some none)
    (la4 : PySem.W.findIn K (.ref cE) "later" = some (some (.ref flat)))
    (ea4 : PySem.W.findIn K (.ref cE) "earlier" = some (some (.ref fear)))
    (n4_0 : NoAttr K cE "stream")
    (n4_1 : NoAttr K cE "term")
    (n4_2 : NoAttr K cE "first")
    (n4_3 : NoAttr K cE "second")
    (n4_4 : NoAttr K cE "amount")
    (n4_5 : NoAttr K cE "spelling")
    (n4_6 : NoAttr K cE "depth")
    (n4_7 : NoAttr K cE "parts")
    (n4_8 : NoAttr K cE "looks")
    (n4_9 : NoAttr K cE "choices")
    (s4_0 : PySem.W.subIn K (.ref cE) (.ref cA) = some false)
    (s4_1 : PySem.W.subIn K (.ref cE) (.ref cB) = some false)
    (s4_2 : PySem.W.subIn K (.ref cE) (.ref cC) = some false)
    (s4_3 : PySem.W.subIn K (.ref cE) (.ref cD) = some false)
    (s4_4 : PySem.W.subIn K (.ref cE) (.ref cE) = some true)
    (s4_5 : PySem.W.subIn K (.ref cE) (.ref cF) = some false)
    (s4_6 : PySem.W.subIn K (.ref cE) (.ref cG) = some false)
    (nm5 : mg "Later" = some (.ref cF))
    (cl5 : Cls K cF)
    (b5 : BkI K cF)
    (ic5 : PySem.W.isClsIn K cF = true)
    (ti5 : PySem.W.typeIn K (.ref cF) = some (.type "type"))
    (sf5 : PySem.W.selfFirst K cF = true)
    (at5 : PySem.W.findIn K (.ref cF) "__add__" = some (some (.ref fadd)))
    (rt5 : PySem.W.findIn K (.ref cF) "__radd__" = some none)
    (si5 : PySem.W.subIn K (.type "int") (.ref cF) = some false)
    (or5 : PySem.W.findIn K (.ref cF) "__or__" = some (some (.ref fior)))
    (ro5 : PySem.W.findIn K (.ref cF) "__ror__" = some none)
    (la5 : PySem.W.findIn K (.ref cF) "later" = some (some (.ref flat)))
    (ea5 : PySem.W.findIn K (.ref cF) "earlier" = some (some (.ref fear)))
    (n5_0 : NoAttr K cF "stream")
    (n5_1 : NoAttr K cF "term")
    (n5_2 : NoAttr K cF "first")
    (n5_3 : NoAttr K cF "second")
    (n5_4 : NoAttr K cF "amount")
    (n5_5 : NoAttr K cF "spelling")
    (n5_6 : NoAttr K cF "depth")
    (n5_7 : NoAttr K cF "parts")
    (n5_8 : NoAttr K cF "looks")
    (n5_9 : NoAttr K cF "choices")
    (s5_0 : PySem.W.subIn K (.ref cF) (.ref cA) = some false)
    (s5_1 : PySem.W.subIn K (.ref cF) (.ref cB) = some false)
    (s5_2 : PySem.W.subIn K (.ref cF) (.ref cC) = some false)
    (s5_3 : PySem.W.subIn K (.ref cF) (.ref cD) = some false)
    (s5_4 : PySem.W.subIn K (.ref cF) (.ref cE) = some false)
    (s5_5 : PySem.W.subIn K (.ref cF) (.ref cF) = some true)
    (s5_6 : PySem.W.subIn K (.ref cF) (.ref cG) = some false)
    (nm6 : mg "Earlier" = some (.ref cG))
    (cl6 : Cls K cG)
    (b6 : BkI K cG)
    (ic6 : PySem.W.isClsIn K cG = true)
    (ti6 : PySem.W.typeIn K (.ref cG) = some (.type "type"))
    (sf6 : PySem.W.selfFirst K cG = true)
    (at6 : PySem.W.findIn K (.ref cG) "__add__" = some (some (.ref fadd)))
    (rt6 : PySem.W.findIn K (.ref cG) "__radd__" = some none)
    (si6 : PySem.W.subIn K (.type "int") (.ref cG) = some false)
    (or6 : PySem.W.findIn K (.ref cG) "__or__" = some (some (.ref fior)))
    (ro6 : PySem.W.findIn K (.ref cG) "__ror__" = some none)
    (la6 : PySem.W.findIn K (.ref cG) "later" = some (some (.ref flat)))
    (ea6 : PySem.W.findIn K (.ref cG) "earlier" = some (some (.ref fear)))
    (n6_0 : NoAttr K cG "stream")
    (n6_1 : NoAttr K cG "term")
    (n6_2 : NoAttr K cG "first")
    (n6_3 : NoAttr K cG "second")
    (n6_4 : NoAttr K cG "amount")
    (n6_5 : NoAttr K cG "spelling")
    (n6_6 : NoAttr K cG "depth")
    (n6_7 : NoAttr K cG "parts")
    (n6_8 : NoAttr K cG "looks")
    (n6_9 : NoAttr K cG "choices")
    (s6_0 : PySem.W.subIn K (.ref cG) (.ref cA) = some false)
    (s6_1 : PySem.W.subIn K (.ref cG) (.ref cB) = some false)
    (s6_2 : PySem.W.subIn K (.ref cG) (.ref cC) = some false)
    (s6_3 : PySem.W.subIn K (.ref cG) (.ref cD) = some false)
    (s6_4 : PySem.W.subIn K (.ref cG) (.ref cE) = some false)
    (s6_5 : PySem.W.subIn K (.ref cG) (.ref cF) = some false)
    (s6_6 : PySem.W.subIn K (.ref cG) (.ref cG) = some true)
    (su0 : PySem.W.findIn K (.ref cA) "__sub__" = some (some (.ref fsub)))
    (rs0 : PySem.W.findIn K (.ref cA) "__rsub__" = some none)
    (nq0 : PySem.W.findIn K (.ref cA) "__ne__" = some (some (.builtin "object.__ne__")))
    (eq0 : PySem.W.findIn K (.ref cA) "__eq__" = some (some (.ref fteq)))
    (ob0 : PySem.W.subIn K (.ref cA) (.type "object") = some true)
    (su1 : PySem.W.findIn K (.ref cB) "__sub__" = some (some (.ref fsub)))
    (rs1 : PySem.W.findIn K (.ref cB) "__rsub__" = some none)
    (nq1 : PySem.W.findIn K (.ref cB) "__ne__" = some (some (.builtin "object.__ne__")))
    (eq1 : PySem.W.findIn K (.ref cB) "__eq__" = some (some (.ref fteq)))
    (ob1 : PySem.W.subIn K (.ref cB) (.type "object") = some true)
    (su2 : PySem.W.findIn K (.ref cC) "__sub__" = some (some (.ref fsub)))
    (rs2 : PySem.W.findIn K (.ref cC) "__rsub__" = some none)
    (nq2 : PySem.W.findIn K (.ref cC) "__ne__" = some (some (.builtin "object.__ne__")))
    (eq2 : PySem.W.findIn K (.ref cC) "__eq__" = some (some (.ref fteq)))
    (ob2 : PySem.W.subIn K (.ref cC) (.type "object") = some true)
    (su3 : PySem.W.findIn K (.ref cD) "__sub__" = some (some (.ref fsub)))
    (rs3 : PySem.W.findIn K (.ref cD) "__rsub__" = some none)
    (nq3 : PySem.W.findIn K (.ref cD) "__ne__" = some (some (.builtin "object.__ne__")))
    (eq3 : PySem.W.findIn K (.ref cD) "__eq__" = some (some (.ref fteq)))
    (ob3 : PySem.W.subIn K (.ref cD) (.type "object") = some true)
    (su4 : PySem.W.findIn K (.ref cE) "__sub__" = some (some (.ref fsub)))
    (rs4 : PySem.W.findIn K (.ref cE) "__rsub__" = some none)
    (nq4 : PySem.W.findIn K (.ref cE) "__ne__" = some (some (.builtin "object.__ne__")))
    (eq4 : PySem.W.findIn K (.ref cE) "__eq__" = some (some (.ref fteq)))
    (ob4 : PySem.W.subIn K (.ref cE) (.type "object") = some true)
    (su5 : PySem.W.findIn K (.ref cF) "__sub__" = some (some (.ref fsub)))
    (rs5 : PySem.W.findIn K (.ref cF) "__rsub__" = some none)
    (nq5 : PySem.W.findIn K (.ref cF) "__ne__" = some (some (.builtin "object.__ne__")))
    (eq5 : PySem.W.findIn K (.ref cF) "__eq__" = some (some (.ref fteq)))
    (ob5 : PySem.W.subIn K (.ref cF) (.type "object") = some true)
    (su6 : PySem.W.findIn K (.ref cG) "__sub__" = some (some (.ref fsub)))
    (rs6 : PySem.W.findIn K (.ref cG) "__rsub__" = some none)
    (nq6 : PySem.W.findIn K (.ref cG) "__ne__" = some (some (.builtin "object.__ne__")))
    (eq6 : PySem.W.findIn K (.ref cG) "__eq__" = some (some (.ref fteq)))
    (ob6 : PySem.W.subIn K (.ref cG) (.type "object") = some true)
    (anq0 : PySem.W.findIn K (.ref aA) "__ne__" = some (some (.builtin "object.__ne__")))
    (aeq0 : PySem.W.findIn K (.ref aA) "__eq__" = some (some (.ref faeq)))
    (aob0 : PySem.W.subIn K (.ref aA) (.type "object") = some true)
    (ta0_0 : PySem.W.subIn K (.ref cA) (.ref aA) = some false)
    (ta0_1 : PySem.W.subIn K (.ref cB) (.ref aA) = some false)
    (ta0_2 : PySem.W.subIn K (.ref cC) (.ref aA) = some false)
    (ta0_3 : PySem.W.subIn K (.ref cD) (.ref aA) = some false)
    (ta0_4 : PySem.W.subIn K (.ref cE) (.ref aA) = some false)
    (ta0_5 : PySem.W.subIn K (.ref cF) (.ref aA) = some false)
    (ta0_6 : PySem.W.subIn K (.ref cG) (.ref aA) = some false)
    (anq1 : PySem.W.findIn K (.ref aB) "__ne__" = some (some (.builtin "object.__ne__")))
    (aeq1 : PySem.W.findIn K (.ref aB) "__eq__" = some (some (.ref faeq)))
    (aob1 : PySem.W.subIn K (.ref aB) (.type "object") = some true)
    (ta1_0 : PySem.W.subIn K (.ref cA) (.ref aB) = some false)
    (ta1_1 : PySem.W.subIn K (.ref cB) (.ref aB) = some false)
    (ta1_2 : PySem.W.subIn K (.ref cC) (.ref aB) = some false)
    (ta1_3 : PySem.W.subIn K (.ref cD) (.ref aB) = some false)
    (ta1_4 : PySem.W.subIn K (.ref cE) (.ref aB) = some false)
    (ta1_5 : PySem.W.subIn K (.ref cF) (.ref aB) = some false)
    (ta1_6 : PySem.W.subIn K (.ref cG) (.ref aB) = some false)
    (anq2 : PySem.W.findIn K (.ref aC) "__ne__" = some (some (.builtin "object.__ne__")))
    (aeq2 : PySem.W.findIn K (.ref aC) "__eq__" = some (some (.ref faeq)))
    (aob2 : PySem.W.subIn K (.ref aC) (.type "object") = some true)
    (ta2_0 : PySem.W.subIn K (.ref cA) (.ref aC) = some false)
    (ta2_1 : PySem.W.subIn K (.ref cB) (.ref aC) = some false)
    (ta2_2 : PySem.W.subIn K (.ref cC) (.ref aC) = some false)
    (ta2_3 : PySem.W.subIn K (.ref cD) (.ref aC) = some false)
    (ta2_4 : PySem.W.subIn K (.ref cE) (.ref aC) = some false)
    (ta2_5 : PySem.W.subIn K (.ref cF) (.ref aC) = some false)
    (ta2_6 : PySem.W.subIn K (.ref cG) (.ref aC) = some false)
    (anq3 : PySem.W.findIn K (.ref aD) "__ne__" = some (some (.builtin "object.__ne__")))
    (aeq3 : PySem.W.findIn K (.ref aD) "__eq__" = some (some (.ref faeq)))
    (aob3 : PySem.W.subIn K (.ref aD) (.type "object") = some true)
    (ta3_0 : PySem.W.subIn K (.ref cA) (.ref aD) = some false)
    (ta3_1 : PySem.W.subIn K (.ref cB) (.ref aD) = some false)
    (ta3_2 : PySem.W.subIn K (.ref cC) (.ref aD) = some false)
    (ta3_3 : PySem.W.subIn K (.ref cD) (.ref aD) = some false)
    (ta3_4 : PySem.W.subIn K (.ref cE) (.ref aD) = some false)
    (ta3_5 : PySem.W.subIn K (.ref cF) (.ref aD) = some false)
    (ta3_6 : PySem.W.subIn K (.ref cG) (.ref aD) = some false)
    (i3 : PySem.W.findIn K (.type "int") "__sub__" = some (some (.builtin "int.__sub__")))
    (i4 : PySem.W.findIn K (.type "int") "__rsub__" = some (some (.builtin "int.__rsub__")))
    (mk0 : PySem.W.makesIn K cA = true)
    (kp0 : PySem.W.keepIn K (.ref cA) = true)
    (mk1 : PySem.W.makesIn K cB = true)
    (kp1 : PySem.W.keepIn K (.ref cB) = true)
    (mk2 : PySem.W.makesIn K cC = true)
    (kp2 : PySem.W.keepIn K (.ref cC) = true)
    (mk3 : PySem.W.makesIn K cD = true)
    (kp3 : PySem.W.keepIn K (.ref cD) = true)
    (mk4 : PySem.W.makesIn K cE = true)
    (kp4 : PySem.W.keepIn K (.ref cE) = true)
    (mk5 : PySem.W.makesIn K cF = true)
    (kp5 : PySem.W.keepIn K (.ref cF) = true)
    (mk6 : PySem.W.makesIn K cG = true)
    (kp6 : PySem.W.keepIn K (.ref cG) = true)
    (i1 : PySem.W.findIn K (.type "int") "__add__" = some (some (.builtin "int.__add__")))
    (i2 : PySem.W.findIn K (.type "int") "__radd__" = some (some (.builtin "int.__radd__")))
    (anm0 : mg "Number" = some (.ref aA))
    (acl0 : Cls K aA)
    (ab0 : BkI K aA)
    (aic0 : PySem.W.isClsIn K aA = true)
    (ati0 : PySem.W.typeIn K (.ref aA) = some (.type "type"))
    (an0_0 : NoAttr K aA "stream")
    (an0_1 : NoAttr K aA "term")
    (an0_2 : NoAttr K aA "first")
    (an0_3 : NoAttr K aA "last")
    (an0_4 : NoAttr K aA "spelling")
    (as0_0 : PySem.W.subIn K (.ref aA) (.ref aA) = some true)
    (as0_1 : PySem.W.subIn K (.ref aA) (.ref aB) = some false)
    (as0_2 : PySem.W.subIn K (.ref aA) (.ref aC) = some false)
    (as0_3 : PySem.W.subIn K (.ref aA) (.ref aD) = some false)
    (at0_0 : PySem.W.subIn K (.ref aA) (.ref cA) = some false)
    (at0_1 : PySem.W.subIn K (.ref aA) (.ref cB) = some false)
    (at0_2 : PySem.W.subIn K (.ref aA) (.ref cC) = some false)
    (at0_3 : PySem.W.subIn K (.ref aA) (.ref cD) = some false)
    (at0_4 : PySem.W.subIn K (.ref aA) (.ref cE) = some false)
    (at0_5 : PySem.W.subIn K (.ref aA) (.ref cF) = some false)
    (at0_6 : PySem.W.subIn K (.ref aA) (.ref cG) = some false)
    (amk0 : PySem.W.makesIn K aA = true)
    (akp0 : PySem.W.keepIn K (.ref aA) = true)
    (anm1 : mg "Count" = some (.ref aB))
    (acl1 : Cls K aB)
    (ab1 : BkI K aB)
    (aic1 : PySem.W.isClsIn K aB = true)
    (ati1 : PySem.W.typeIn K (.ref aB) = some (.type "type"))
    (an1_0 : NoAttr K aB "stream")
    (an1_1 : NoAttr K aB "term")
    (an1_2 : NoAttr K aB "first")
    (an1_3 : NoAttr K aB "last")
    (an1_4 : NoAttr K aB "spelling")
    (as1_0 : PySem.W.subIn K (.ref aB) (.ref aA) = some false)
    (as1_1 : PySem.W.subIn K (.ref aB) (.ref aB) = some true)
    (as1_2 : PySem.W.subIn K (.ref aB) (.ref aC) = some false)
    (as1_3 : PySem.W.subIn K (.ref aB) (.ref aD) = some false)
    (at1_0 : PySem.W.subIn K (.ref aB) (.ref cA) = some false)
    (at1_1 : PySem.W.subIn K (.ref aB) (.ref cB) = some false)
    (at1_2 : PySem.W.subIn K (.ref aB) (.ref cC) = some false)
    (at1_3 : PySem.W.subIn K (.ref aB) (.ref cD) = some false)
    (at1_4 : PySem.W.subIn K (.ref aB) (.ref cE) = some false)
    (at1_5 : PySem.W.subIn K (.ref aB) (.ref cF) = some false)
    (at1_6 : PySem.W.subIn K (.ref aB) (.ref cG) = some false)
    (amk1 : PySem.W.makesIn K aB = true)
    (akp1 : PySem.W.keepIn K (.ref aB) = true)
    (anm2 : mg "Total" = some (.ref aC))
    (acl2 : Cls K aC)
    (ab2 : BkI K aC)
    (aic2 : PySem.W.isClsIn K aC = true)
    (ati2 : PySem.W.typeIn K (.ref aC) = some (.type "type"))
    (an2_0 : NoAttr K aC "stream")
    (an2_1 : NoAttr K aC "term")
    (an2_2 : NoAttr K aC "first")
    (an2_3 : NoAttr K aC "last")
    (an2_4 : NoAttr K aC "spelling")
    (as2_0 : PySem.W.subIn K (.ref aC) (.ref aA) = some false)
    (as2_1 : PySem.W.subIn K (.ref aC) (.ref aB) = some false)
    (as2_2 : PySem.W.subIn K (.ref aC) (.ref aC) = some true)
    (as2_3 : PySem.W.subIn K (.ref aC) (.ref aD) = some false)
    (at2_0 : PySem.W.subIn K (.ref aC) (.ref cA) = some false)
    (at2_1 : PySem.W.subIn K (.ref aC) (.ref cB) = some false)
    (at2_2 : PySem.W.subIn K (.ref aC) (.ref cC) = some false)
    (at2_3 : PySem.W.subIn K (.ref aC) (.ref cD) = some false)
    (at2_4 : PySem.W.subIn K (.ref aC) (.ref cE) = some false)
    (at2_5 : PySem.W.subIn K (.ref aC) (.ref cF) = some false)
    (at2_6 : PySem.W.subIn K (.ref aC) (.ref cG) = some false)
    (amk2 : PySem.W.makesIn K aC = true)
    (akp2 : PySem.W.keepIn K (.ref aC) = true)
    (anm3 : mg "Gap" = some (.ref aD))
    (acl3 : Cls K aD)
    (ab3 : BkI K aD)
    (aic3 : PySem.W.isClsIn K aD = true)
    (ati3 : PySem.W.typeIn K (.ref aD) = some (.type "type"))
    (an3_0 : NoAttr K aD "stream")
    (an3_1 : NoAttr K aD "term")
    (an3_2 : NoAttr K aD "first")
    (an3_3 : NoAttr K aD "last")
    (an3_4 : NoAttr K aD "spelling")
    (as3_0 : PySem.W.subIn K (.ref aD) (.ref aA) = some false)
    (as3_1 : PySem.W.subIn K (.ref aD) (.ref aB) = some false)
    (as3_2 : PySem.W.subIn K (.ref aD) (.ref aC) = some false)
    (as3_3 : PySem.W.subIn K (.ref aD) (.ref aD) = some true)
    (at3_0 : PySem.W.subIn K (.ref aD) (.ref cA) = some false)
    (at3_1 : PySem.W.subIn K (.ref aD) (.ref cB) = some false)
    (at3_2 : PySem.W.subIn K (.ref aD) (.ref cC) = some false)
    (at3_3 : PySem.W.subIn K (.ref aD) (.ref cD) = some false)
    (at3_4 : PySem.W.subIn K (.ref aD) (.ref cE) = some false)
    (at3_5 : PySem.W.subIn K (.ref aD) (.ref cF) = some false)
    (at3_6 : PySem.W.subIn K (.ref aD) (.ref cG) = some false)
    (amk3 : PySem.W.makesIn K aD = true)
    (akp3 : PySem.W.keepIn K (.ref aD) = true)
    (sb0_0 : PySem.W.subIn K (.type "NoneType") (.ref cA) = some false)
    (sb1_0 : PySem.W.subIn K (.type "str") (.ref cA) = some false)
    (sb2_0 : PySem.W.subIn K (.type "tuple") (.ref cA) = some false)
    (sb3_0 : PySem.W.subIn K (.type "int") (.ref cA) = some false)
    (tA0 : PySem.W.subIn K (.ref cA) (.ref CAm) = some false)
    (tT0 : PySem.W.subIn K (.ref cA) (.ref CTm) = some true)
    (tne0 : PySem.W.subIn K (.ref CAm) (.ref CAm) = some true)
    (sm0 : PySem.W.findIn K (.ref cA) "streams" = some (some (.ref fstr)))
    (sb0_1 : PySem.W.subIn K (.type "NoneType") (.ref cB) = some false)
    (sb1_1 : PySem.W.subIn K (.type "str") (.ref cB) = some false)
    (sb2_1 : PySem.W.subIn K (.type "tuple") (.ref cB) = some false)
    (sb3_1 : PySem.W.subIn K (.type "int") (.ref cB) = some false)
    (tA1 : PySem.W.subIn K (.ref cB) (.ref CAm) = some false)
    (tT1 : PySem.W.subIn K (.ref cB) (.ref CTm) = some true)
    (tnn1 : True)
    (sm1 : PySem.W.findIn K (.ref cB) "streams" = some (some (.ref fstr)))
    (sb0_2 : PySem.W.subIn K (.type "NoneType") (.ref cC) = some false)
    (sb1_2 : PySem.W.subIn K (.type "str") (.ref cC) = some false)
    (sb2_2 : PySem.W.subIn K (.type "tuple") (.ref cC) = some false)
    (sb3_2 : PySem.W.subIn K (.type "int") (.ref cC) = some false)
    (tA2 : PySem.W.subIn K (.ref cC) (.ref CAm) = some false)
    (tT2 : PySem.W.subIn K (.ref cC) (.ref CTm) = some true)
    (tnn2 : True)
    (sm2 : PySem.W.findIn K (.ref cC) "streams" = some (some (.ref fstr)))
    (sb0_3 : PySem.W.subIn K (.type "NoneType") (.ref cD) = some false)
    (sb1_3 : PySem.W.subIn K (.type "str") (.ref cD) = some false)
    (sb2_3 : PySem.W.subIn K (.type "tuple") (.ref cD) = some false)
    (sb3_3 : PySem.W.subIn K (.type "int") (.ref cD) = some false)
    (tA3 : PySem.W.subIn K (.ref cD) (.ref CAm) = some false)
    (tT3 : PySem.W.subIn K (.ref cD) (.ref CTm) = some true)
    (tnn3 : True)
    (sm3 : PySem.W.findIn K (.ref cD) "streams" = some (some (.ref fstr)))
    (sb0_4 : PySem.W.subIn K (.type "NoneType") (.ref cE) = some false)
    (sb1_4 : PySem.W.subIn K (.type "str") (.ref cE) = some false)
    (sb2_4 : PySem.W.subIn K (.type "tuple") (.ref cE) = some false)
    (sb3_4 : PySem.W.subIn K (.type "int") (.ref cE) = some false)
    (tA4 : PySem.W.subIn K (.ref cE) (.ref CAm) = some false)
    (tT4 : PySem.W.subIn K (.ref cE) (.ref CTm) = some true)
    (tnn4 : True)
    (sm4 : PySem.W.findIn K (.ref cE) "streams" = some (some (.ref fstr)))
    (sb0_5 : PySem.W.subIn K (.type "NoneType") (.ref cF) = some false)
    (sb1_5 : PySem.W.subIn K (.type "str") (.ref cF) = some false)
    (sb2_5 : PySem.W.subIn K (.type "tuple") (.ref cF) = some false)
    (sb3_5 : PySem.W.subIn K (.type "int") (.ref cF) = some false)
    (tA5 : PySem.W.subIn K (.ref cF) (.ref CAm) = some false)
    (tT5 : PySem.W.subIn K (.ref cF) (.ref CTm) = some true)
    (tnn5 : True)
    (sm5 : PySem.W.findIn K (.ref cF) "streams" = some (some (.ref fstr)))
    (sb0_6 : PySem.W.subIn K (.type "NoneType") (.ref cG) = some false)
    (sb1_6 : PySem.W.subIn K (.type "str") (.ref cG) = some false)
    (sb2_6 : PySem.W.subIn K (.type "tuple") (.ref cG) = some false)
    (sb3_6 : PySem.W.subIn K (.type "int") (.ref cG) = some false)
    (tA6 : PySem.W.subIn K (.ref cG) (.ref CAm) = some false)
    (tT6 : PySem.W.subIn K (.ref cG) (.ref CTm) = some true)
    (tnn6 : True)
    (sm6 : PySem.W.findIn K (.ref cG) "streams" = some (some (.ref fstr)))
    (ab_0 : PySem.W.subIn K (.type "tuple") (.ref aA) = some false)
    (aA0 : PySem.W.subIn K (.ref aA) (.ref CAm) = some true)
    (aT0 : PySem.W.subIn K (.ref aA) (.ref CTm) = some false)
    (am0 : PySem.W.findIn K (.ref aA) "streams" = some (some (.ref fast)))
    (ab_1 : PySem.W.subIn K (.type "tuple") (.ref aB) = some false)
    (aA1 : PySem.W.subIn K (.ref aB) (.ref CAm) = some true)
    (aT1 : PySem.W.subIn K (.ref aB) (.ref CTm) = some false)
    (am1 : PySem.W.findIn K (.ref aB) "streams" = some (some (.ref fast)))
    (ab_2 : PySem.W.subIn K (.type "tuple") (.ref aC) = some false)
    (aA2 : PySem.W.subIn K (.ref aC) (.ref CAm) = some true)
    (aT2 : PySem.W.subIn K (.ref aC) (.ref CTm) = some false)
    (am2 : PySem.W.findIn K (.ref aC) "streams" = some (some (.ref fast)))
    (ab_3 : PySem.W.subIn K (.type "tuple") (.ref aD) = some false)
    (aA3 : PySem.W.subIn K (.ref aD) (.ref CAm) = some true)
    (aT3 : PySem.W.subIn K (.ref aD) (.ref CTm) = some false)
    (am3 : PySem.W.findIn K (.ref aD) "streams" = some (some (.ref fast)))
    (d_is_integer : D1 K mg "is_integer" s_is_integer)
    (d_is_name : D1 K mg "is_name" s_is_name)
    (d_is_term : D1 K mg "is_term" s_is_term)
    (d_is_look : D1 K mg "is_look" s_is_look)
    (d_checked_stream : D1 K mg "checked_stream" s_checked_stream)
    (d_checked_term : D1 K mg "checked_term" s_checked_term)
    (d_sizes : D1 K mg "sizes" s_sizes)
    (d_shifted : D1 K mg "shifted" s_shifted)
    (d_is_amount : D1 K mg "is_amount" s_is_amount)
    (d_children_of : D1 K mg "children_of" s_children_of)
    (d_parts_of : D1 K mg "parts_of" s_parts_of)
    (d_terms_of : D1 K mg "terms_of" s_terms_of)
    (d__law_pool : D1 K mg "_law_pool" s_l_pool)
    (d__law_draw : D1 K mg "_law_draw" s_l_draw)
    (d__law_names : D1 K mg "_law_names" s_l_names)
    (d__law_moment : D1 K mg "_law_moment" s_l_moment)
    (d__law_joined : D1 K mg "_law_joined" s_l_joined)
    (d__law_children : D1 K mg "_law_children" s_l_children)
    (d__law_sizes : D1 K mg "_law_sizes" s_l_sizes)
    (d__law_streams : D1 K mg "_law_streams" s_l_streams)
    (d__law_taken : D1 K mg "_law_taken" s_l_taken)
    (d__law_step : D1 K mg "_law_step" s_l_step)
    (d__law_is_sized : D1 K mg "_law_is_sized" s_l_is_sized)
    (d__law_shifts : D1 K mg "_law_shifts" s_l_shifts)
    (d__law_equal : D1 K mg "_law_equal" s_l_equal)
    (d__law_is_apart : D1 K mg "_law_is_apart" s_l_is_apart)
    (m_NI : DM K cA "__init__" "Now.__init__" s_Now_init)
    (m_LI : DM K cB "__init__" "Last.__init__" s_Last_init)
    (m_XI : DM K cC "__init__" "Next.__init__" s_Next_init)
    (m_SI : DM K cD "__init__" "Shift.__init__" s_Shift_init)
    (m_EI : DM K cE "__init__" "Either.__init__" s_Either_init)
    (m_JI : DM K cF "__init__" "Later.__init__" s_Later_init)
    (m_KI : DM K cG "__init__" "Earlier.__init__" s_Earlier_init)
    (m_nuI : DM K aA "__init__" "Number.__init__" s_Number_init)
    (m_coI : DM K aB "__init__" "Count.__init__" s_Count_init)
    (m_toI : DM K aC "__init__" "Total.__init__" s_Total_init)
    (m_gaI : DM K aD "__init__" "Gap.__init__" s_Gap_init)
    (m_add : DQ K cA fadd "__add__" "Term.__add__" s_Term_add)
    (m_ior : DQ K cA fior "__or__" "Term.__or__" s_Term_or)
    (m_lat : DQ K cA flat "later" "Term.later" s_Term_later)
    (m_ear : DQ K cA fear "earlier" "Term.earlier" s_Term_earlier)
    (m_sub : DQ K cA fsub "__sub__" "Term.__sub__" s_Term_sub)
    (m_teq : DQ K cA fteq "__eq__" "Term.__eq__" s_Term_eq)
    (m_aeq : DQ K aA faeq "__eq__" "Amount.__eq__" s_Amount_eq)
    (m_str : DQ K cA fstr "streams" "Term.streams" s_Term_streams)
    (m_ast : DQ K aA fast "streams" "Amount.streams" s_Amount_streams)
    : ∃ fd : FuncData, (∀ (s : Shared) (v : Value), BindsTo s fd ⟨[v], []⟩ [("script", v)]) ∧ ∀ base : Heap, K.In base → base.Ns mainGlobals mg → FnOk P w K mg base CX0 40 fa fd ["script"] (spLaw K) := by
  have e := hfa.symm.trans (PySem.W.mg_of X G a4)
  cases e
  exact ⟨PySem.W.fnOf "law" "law" (defArgs s_law) (defBody s_law) (defScope s_law) .none kV4 dc4 pm4 an4 cd4 ct4, fun s v => .of_eq rfl, fun base _ _ => all_ok M B Cs NY gAm gTm icA tiA icT tiT nm0 cl0 b0 ic0 ti0 sf0 at0 rt0 si0 or0 ro0 la0 ea0 n0_0 n0_1 n0_2 n0_3 n0_4 n0_5 n0_6 n0_7 n0_8 n0_9 s0_0 s0_1 s0_2 s0_3 s0_4 s0_5 s0_6 nm1 cl1 b1 ic1 ti1 sf1 at1 rt1 si1 or1 ro1 la1 ea1 n1_0 n1_1 n1_2 n1_3 n1_4 n1_5 n1_6 n1_7 n1_8 n1_9 s1_0 s1_1 s1_2 s1_3 s1_4 s1_5 s1_6 nm2 cl2 b2 ic2 ti2 sf2 at2 rt2 si2 or2 ro2 la2 ea2 n2_0 n2_1 n2_2 n2_3 n2_4 n2_5 n2_6 n2_7 n2_8 n2_9 s2_0 s2_1 s2_2 s2_3 s2_4 s2_5 s2_6 nm3 cl3 b3 ic3 ti3 sf3 at3 rt3 si3 or3 ro3 la3 ea3 n3_0 n3_1 n3_2 n3_3 n3_4 n3_5 n3_6 n3_7 n3_8 n3_9 s3_0 s3_1 s3_2 s3_3 s3_4 s3_5 s3_6 nm4 cl4 b4 ic4 ti4 sf4 at4 rt4 si4 or4 ro4 la4 ea4 n4_0 n4_1 n4_2 n4_3 n4_4 n4_5 n4_6 n4_7 n4_8 n4_9 s4_0 s4_1 s4_2 s4_3 s4_4 s4_5 s4_6 nm5 cl5 b5 ic5 ti5 sf5 at5 rt5 si5 or5 ro5 la5 ea5 n5_0 n5_1 n5_2 n5_3 n5_4 n5_5 n5_6 n5_7 n5_8 n5_9 s5_0 s5_1 s5_2 s5_3 s5_4 s5_5 s5_6 nm6 cl6 b6 ic6 ti6 sf6 at6 rt6 si6 or6 ro6 la6 ea6 n6_0 n6_1 n6_2 n6_3 n6_4 n6_5 n6_6 n6_7 n6_8 n6_9 s6_0 s6_1 s6_2 s6_3 s6_4 s6_5 s6_6 su0 rs0 nq0 eq0 ob0 su1 rs1 nq1 eq1 ob1 su2 rs2 nq2 eq2 ob2 su3 rs3 nq3 eq3 ob3 su4 rs4 nq4 eq4 ob4 su5 rs5 nq5 eq5 ob5 su6 rs6 nq6 eq6 ob6 anq0 aeq0 aob0 ta0_0 ta0_1 ta0_2 ta0_3 ta0_4 ta0_5 ta0_6 anq1 aeq1 aob1 ta1_0 ta1_1 ta1_2 ta1_3 ta1_4 ta1_5 ta1_6 anq2 aeq2 aob2 ta2_0 ta2_1 ta2_2 ta2_3 ta2_4 ta2_5 ta2_6 anq3 aeq3 aob3 ta3_0 ta3_1 ta3_2 ta3_3 ta3_4 ta3_5 ta3_6 i3 i4 mk0 kp0 mk1 kp1 mk2 kp2 mk3 kp3 mk4 kp4 mk5 kp5 mk6 kp6 i1 i2 anm0 acl0 ab0 aic0 ati0 an0_0 an0_1 an0_2 an0_3 an0_4 as0_0 as0_1 as0_2 as0_3 at0_0 at0_1 at0_2 at0_3 at0_4 at0_5 at0_6 amk0 akp0 anm1 acl1 ab1 aic1 ati1 an1_0 an1_1 an1_2 an1_3 an1_4 as1_0 as1_1 as1_2 as1_3 at1_0 at1_1 at1_2 at1_3 at1_4 at1_5 at1_6 amk1 akp1 anm2 acl2 ab2 aic2 ati2 an2_0 an2_1 an2_2 an2_3 an2_4 as2_0 as2_1 as2_2 as2_3 at2_0 at2_1 at2_2 at2_3 at2_4 at2_5 at2_6 amk2 akp2 anm3 acl3 ab3 aic3 ati3 an3_0 an3_1 an3_2 an3_3 an3_4 as3_0 as3_1 as3_2 as3_3 at3_0 at3_1 at3_2 at3_3 at3_4 at3_5 at3_6 amk3 akp3 sb0_0 sb1_0 sb2_0 sb3_0 tA0 tT0 tne0 sm0 sb0_1 sb1_1 sb2_1 sb3_1 tA1 tT1 tnn1 sm1 sb0_2 sb1_2 sb2_2 sb3_2 tA2 tT2 tnn2 sm2 sb0_3 sb1_3 sb2_3 sb3_3 tA3 tT3 tnn3 sm3 sb0_4 sb1_4 sb2_4 sb3_4 tA4 tT4 tnn4 sm4 sb0_5 sb1_5 sb2_5 sb3_5 tA5 tT5 tnn5 sm5 sb0_6 sb1_6 sb2_6 sb3_6 tA6 tT6 tnn6 sm6 ab_0 aA0 aT0 am0 ab_1 aA1 aT1 am1 ab_2 aA2 aT2 am2 ab_3 aA3 aT3 am3 d_is_integer d_is_name d_is_term d_is_look d_checked_stream d_checked_term d_sizes d_shifted d_is_amount d_children_of d_parts_of d_terms_of d__law_pool d__law_draw d__law_names d__law_moment d__law_joined d__law_children d__law_sizes d__law_streams d__law_taken d__law_step d__law_is_sized d__law_shifts d__law_equal d__law_is_apart m_NI m_LI m_XI m_SI m_EI m_JI m_KI m_nuI m_coI m_toI m_gaI m_add m_ior m_lat m_ear m_sub m_teq m_aeq m_str m_ast (fun_mk l4 c4 k4)⟩
theorem walk {l : PySem.W.OpenLaw} {q : Program} {loose : List Str} {XP : (Str → Option Value) → Heap → Prop} {YP : World → Heap → Prop} {d : DefRec} {K : Params → PySem.W.Frag} (hn : l.most = some 63) (hdf : d.params.defaults = [])
    (hY : ∀ (w : World) (h : Heap), YP w h → (K w.params).In h)
    (F : ∀ (w : World) (mg : Str → Option Value) (fa : Addr) (h : Heap), (K w.params).In h → h.Ns mainGlobals mg → mg d.name = some (.ref fa) →
      ∃ fd : FuncData, (∀ (s : Shared) (u : Value), BindsTo s fd ⟨[u], []⟩ [("script", u)]) ∧ ∀ base : Heap, (K w.params).In base → base.Ns mainGlobals mg → FnOk l.prog w (K w.params) mg base CX0 40 fa fd ["script"] (spLaw (K w.params))) :
    PySem.W.WalkO q loose XP YP l.row.toRowW d [] (fun f vs => PySem.call f vs) :=
  L2.walk_of (n := 63) (k := 40) (x := "script") (CX := fun _ => CX0) (sp := fun w => spLaw (K w.params)) hn (by decide) hdf ⟨rfl, by decide, by decide⟩ hY F (fun _ _ a ns hl _ hS => ⟨a, ns, rfl, hS, hl, fun _ => rfl⟩) fun _ _ _ _ _ z => z
end Ash

set_option Elab.async false
open PySem PySem.W PyProof.Rows
/-! names that are taken: the head makes no twins of these parts of the heap -/
theorem PySem.W.Fast.tw10825579554495451239 : True := trivial
theorem PySem.W.Fast.tw8258392801241442314 : True := trivial
theorem PySem.W.Fast.tw3006321778119695712 : True := trivial
theorem PySem.W.Fast.tw15258021751962069436 : True := trivial
theorem PySem.W.Fast.tw4825132633281720889 : True := trivial
theorem PySem.W.Fast.tw17576112339003742293 : True := trivial
theorem PySem.W.Fast.tw6606091997486347112 : True := trivial
theorem PySem.W.Fast.tw16002465244772342053 : True := trivial
theorem PySem.W.Fast.tw3035895716837602561 : True := trivial
theorem PySem.W.Fast.tw5212025091533187436 : True := trivial
theorem PySem.W.Fast.tw17937318526360278488 : True := trivial
theorem PySem.W.Fast.tw18100969525349014661 : True := trivial
theorem PySem.W.Fast.tw15520596222009049393 : True := trivial
theorem PySem.W.Fast.tw17367820436967562676 : True := trivial
theorem PySem.W.Fast.tw7508665528846165887 : True := trivial
theorem PySem.W.Fast.tw15276172305196388509 : True := trivial
theorem PySem.W.Fast.tw2287678698457779352 : True := trivial
theorem PySem.W.Fast.tw8256266490780452686 : True := trivial
theorem PySem.W.Fast.tw16311035925959688480 : True := trivial
theorem PySem.W.Fast.tw12777428364530875117 : True := trivial
theorem PySem.W.Fast.tw15877799735815876621 : True := trivial
theorem PySem.W.Fast.tw7726728032487221587 : True := trivial
theorem PySem.W.Fast.tw8944454273471080442 : True := trivial
theorem PySem.W.Fast.tw3727584041825393395 : True := trivial
theorem PySem.W.Fast.tw12768037846519850364 : True := trivial
theorem PySem.W.Fast.tw4188603373685052630 : True := trivial
theorem PySem.W.Fast.tw11966233833974021534 : True := trivial
theorem PySem.W.Fast.tw5534362619333566240 : True := trivial
theorem PySem.W.Fast.tw5699070013371325580 : True := trivial
theorem PySem.W.Fast.tw6363310661691025878 : True := trivial
theorem PySem.W.Fast.tw9782232397534176336 : True := trivial
theorem PySem.W.Fast.tw8553764754208401897 : True := trivial
theorem PySem.W.Fast.tw18353802716331323953 : True := trivial
theorem PySem.W.Fast.tw5468801247249232110 : True := trivial
theorem PySem.W.Fast.tw4730657306472874142 : True := trivial
theorem PySem.W.Fast.tw16468762751883011471 : True := trivial
theorem PySem.W.Fast.tw4348874347799381096 : True := trivial
theorem PySem.W.Fast.tw13155170046931825839 : True := trivial
theorem PySem.W.Fast.tw3097117904828106144 : True := trivial
theorem PySem.W.Fast.tw15931996551694135364 : True := trivial
theorem PySem.W.Fast.tw8157745162353203117 : True := trivial
theorem PySem.W.Fast.tw2334160444741951690 : True := trivial
theorem PySem.W.Fast.tw6351383890367004805 : True := trivial
theorem PySem.W.Fast.tw12276199590626201662 : True := trivial
theorem PySem.W.Fast.tw12204828064171306072 : True := trivial
theorem PySem.W.Fast.tw14785324070935585661 : True := trivial
theorem PySem.W.Fast.tw5824123694751882476 : True := trivial
theorem PySem.W.Fast.tw12165426020456324049 : True := trivial
theorem PySem.W.Fast.tw9486054359540819805 : True := trivial
theorem PySem.W.Fast.tw1109918012328693221 : True := trivial
theorem PySem.W.Fast.tw11934330407319355083 : True := trivial
theorem PySem.W.Fast.tw13112474693697269782 : True := trivial
theorem PySem.W.Fast.tw12793518755927488577 : True := trivial
theorem PySem.W.Fast.tw9810552694470902420 : True := trivial
theorem PySem.W.Fast.tw16238845633197215881 : True := trivial
theorem PySem.W.Fast.tw375145159961071667 : True := trivial
theorem PySem.W.Fast.tw14153338412484661896 : True := trivial
theorem PySem.W.Fast.tw15401394784761300005 : True := trivial
theorem PySem.W.Fast.tw895058882552447855 : True := trivial
theorem PySem.W.Fast.tw9559254924345374742 : True := trivial
theorem PySem.W.Fast.tw3018107557819779523 : True := trivial
theorem PySem.W.Fast.tw9971366858501557140 : True := trivial
theorem PySem.W.Fast.tw1975497394418125514 : True := trivial
theorem PySem.W.Fast.tw16001812712838640599 : True := trivial
theorem PySem.W.Fast.tw8609189979777499206 : True := trivial
theorem PySem.W.Fast.tw11498555460026281247 : True := trivial
theorem PySem.W.Fast.tw4426688933485703655 : True := trivial
theorem PySem.W.Fast.tw2031824980586782205 : True := trivial
theorem PySem.W.Fast.tw9814979469458452293 : True := trivial
theorem PySem.W.Fast.tw16126836506837924089 : True := trivial
theorem PySem.W.Fast.tw11450056468314046408 : True := trivial
theorem PySem.W.Fast.tw8804853775972682158 : True := trivial
theorem PySem.W.Fast.tw15174727658329325598 : True := trivial
theorem PySem.W.Fast.tw8332789390018306880 : True := trivial
theorem PySem.W.Fast.tw12904461021853812425 : True := trivial
theorem PySem.W.Fast.tw8728525718763217221 : True := trivial
theorem PySem.W.Fast.tw716313171911277507 : True := trivial
theorem PySem.W.Fast.tw7972315155947749296 : True := trivial
theorem PySem.W.Fast.tw4003254843793475445 : True := trivial
theorem PySem.W.Fast.tw10978879912708657732 : True := trivial
theorem PySem.W.Fast.tw9364979400397502599 : True := trivial
theorem PySem.W.Fast.tw2152389621567401194 : True := trivial
theorem PySem.W.Fast.tw1967141218314465567 : True := trivial
theorem PySem.W.Fast.tw18099219954652121924 : True := trivial
theorem PySem.W.Fast.tw11326146286263559512 : True := trivial
theorem PySem.W.Fast.tw17513167303052397122 : True := trivial
theorem PySem.W.Fast.tw13402183365611344606 : True := trivial
theorem PySem.W.Fast.tw8629635062654598756 : True := trivial
theorem PySem.W.Fast.tw11221537638412553489 : True := trivial
theorem PySem.W.Fast.tw11209593332576041530 : True := trivial
theorem PySem.W.Fast.tw8269738509138142276 : True := trivial
theorem PySem.W.Fast.tw12675576853711563193 : True := trivial
theorem PySem.W.Fast.tw8088053021111299839 : True := trivial
theorem PySem.W.Fast.tw2360032299473787185 : True := trivial
theorem PySem.W.Fast.tw11933329216814745025 : True := trivial
theorem PySem.W.Fast.tw2692925385328725269 : True := trivial
theorem PySem.W.Fast.tw17852740085099725276 : True := trivial
theorem PySem.W.Fast.tw15995846733846227960 : True := trivial
theorem PySem.W.Fast.tw280288332179134500 : True := trivial
theorem PySem.W.Fast.tw13098322408726304304 : True := trivial
theorem PySem.W.Fast.tw645487948753844677 : True := trivial
theorem PySem.W.Fast.tw17981160315599273589 : True := trivial
theorem PySem.W.Fast.tw16758641265469605714 : True := trivial
theorem PySem.W.Fast.tw10062183074789995152 : True := trivial
theorem PySem.W.Fast.tw16485820434161304204 : True := trivial
theorem PySem.W.Fast.tw5882933328395498057 : True := trivial
theorem PySem.W.Fast.tw8509948805868654910 : True := trivial
theorem PySem.W.Fast.tw17366944642687784676 : True := trivial
theorem PySem.W.Fast.tw2939720924569168830 : True := trivial
theorem PySem.W.Fast.tw8926242018297773065 : True := trivial
theorem PySem.W.Fast.tw10372448660762843702 : True := trivial
theorem PySem.W.Fast.tw2699578644422256810 : True := trivial
theorem PySem.W.Fast.tw3809102078367054996 : True := trivial
theorem PySem.W.Fast.tw16876045109338375028 : True := trivial
theorem PySem.W.Fast.tw13658228222118451057 : True := trivial
theorem PySem.W.Fast.tw14326702663392480504 : True := trivial
theorem PySem.W.Fast.tw11897670316781267311 : True := trivial
theorem PySem.W.Fast.tw1110517861769995341 : True := trivial
theorem PySem.W.Fast.tw8796726410474296137 : True := trivial
theorem PySem.W.Fast.tw10639393987681022220 : True := trivial
theorem PySem.W.Fast.tw2225423603753646005 : True := trivial
theorem PySem.W.Fast.tw4090032485448806796 : True := trivial
theorem PySem.W.Fast.tw3537185500209172502 : True := trivial
theorem PySem.W.Fast.tw12191090510272004761 : True := trivial
theorem PySem.W.Fast.tw4470736445495390789 : True := trivial
theorem PySem.W.Fast.tw7311822137516894965 : True := trivial
theorem PySem.W.Fast.tw555592967075684616 : True := trivial
theorem PySem.W.Fast.tw1953715839929535368 : True := trivial
theorem PySem.W.Fast.tw15262552022492753055 : True := trivial
theorem PySem.W.Fast.tw17217492363810651935 : True := trivial
theorem PySem.W.Fast.tw7354522907735854890 : True := trivial
theorem PySem.W.Fast.tw6441851305702817561 : True := trivial
theorem PySem.W.Fast.tw4796874107848693776 : True := trivial
theorem PySem.W.Fast.tw668732130899343231 : True := trivial
theorem PySem.W.Fast.tw3663531232552665419 : True := trivial
theorem PySem.W.Fast.tw5045184163916573683 : True := trivial
theorem PySem.W.Fast.tw8148802569975468958 : True := trivial
theorem PySem.W.Fast.tw2473810148771583668 : True := trivial
theorem PySem.W.Fast.tw781193953191491340 : True := trivial
theorem PySem.W.Fast.tw17583681275537031814 : True := trivial
theorem PySem.W.Fast.tw10939098569477032916 : True := trivial
theorem PySem.W.Fast.tw8942629670614759373 : True := trivial
theorem PySem.W.Fast.tw1306748364503485206 : True := trivial
theorem PySem.W.Fast.tw7906612379437506271 : True := trivial
theorem PySem.W.Fast.tw9954033660200703102 : True := trivial
theorem PySem.W.Fast.tw12317335455640922044 : True := trivial
theorem PySem.W.Fast.tw13154196241474043732 : True := trivial
theorem PySem.W.Fast.tw5892462775073191400 : True := trivial
theorem PySem.W.Fast.tw17674426899340820576 : True := trivial
theorem PySem.W.Fast.tw8611895354397844850 : True := trivial
theorem PySem.W.Fast.tw15913551474841234130 : True := trivial
theorem PySem.W.Fast.tw16992176664486165909 : True := trivial
theorem PySem.W.Fast.tw2874646164877754497 : True := trivial
theorem PySem.W.Fast.tw1542659707263504644 : True := trivial
theorem PySem.W.Fast.tw16651157095554288080 : True := trivial
theorem PySem.W.Fast.tw15763957009861852235 : True := trivial
theorem PySem.W.Fast.tw5682798859362735825 : True := trivial
theorem PySem.W.Fast.tw14507324028178375846 : True := trivial
theorem PySem.W.Fast.tw17279232253123156521 : True := trivial
theorem PySem.W.Fast.tw16017956739242000696 : True := trivial
theorem PySem.W.Fast.tw2536597718185421263 : True := trivial
theorem PySem.W.Fast.tw16417895408005570263 : True := trivial
theorem PySem.W.Fast.tw1150240407402981223 : True := trivial
theorem PySem.W.Fast.tw6807253202211266441 : True := trivial
theorem PySem.W.Fast.tw12172252653530157867 : True := trivial
theorem PySem.W.Fast.tw17738778721426879012 : True := trivial
theorem PySem.W.Fast.tw9043538428630408231 : True := trivial
theorem PySem.W.Fast.tw2983245621461626363 : True := trivial
theorem PySem.W.Fast.tw1134452397439053811 : True := trivial
theorem PySem.W.Fast.tw2924891855658680313 : True := trivial
theorem PySem.W.Fast.tw9359782672264688126 : True := trivial
theorem PySem.W.Fast.tw7885723383087299817 : True := trivial
theorem PySem.W.Fast.tw11293912698223145150 : True := trivial
theorem PySem.W.Fast.tw3841684629747692186 : True := trivial
theorem PySem.W.Fast.tw8804123910826481036 : True := trivial
theorem PySem.W.Fast.tw4483369432735605854 : True := trivial
theorem PySem.W.Fast.tw296336234312505549 : True := trivial
theorem PySem.W.Fast.tw9862943890051813177 : True := trivial
theorem PySem.W.Fast.tw1859547605059139469 : True := trivial
theorem PySem.W.Fast.tw10583952868156326039 : True := trivial
theorem PySem.W.Fast.tw6991482329961433911 : True := trivial
theorem PySem.W.Fast.tw10717156489257400392 : True := trivial
theorem PySem.W.Fast.tw15584222174449133067 : True := trivial
theorem PySem.W.Fast.tw6124167938107576396 : True := trivial
theorem PySem.W.Fast.tw17774533174679079606 : True := trivial
theorem PySem.W.Fast.tw4703941842468204587 : True := trivial
theorem PySem.W.Fast.tw1793523888587900142 : True := trivial
theorem PySem.W.Fast.tw16098595602234723952 : True := trivial
theorem PySem.W.Fast.tw1291259879101025420 : True := trivial
theorem PySem.W.Fast.tw12256260074878798118 : True := trivial
theorem PySem.W.Fast.tw9437449761583808011 : True := trivial
theorem PySem.W.Fast.tw4641790113731960839 : True := trivial
theorem PySem.W.Fast.tw8472074418017755495 : True := trivial
theorem PySem.W.Fast.tw7864047793929498166 : True := trivial
theorem PySem.W.Fast.tw10987655677797243017 : True := trivial
theorem PySem.W.Fast.tw9252547922289912469 : True := trivial
theorem PySem.W.Fast.tw6201690649653150007 : True := trivial
theorem PySem.W.Fast.tw10897092906626297799 : True := trivial
theorem PySem.W.Fast.tw8221542321621733713 : True := trivial
theorem PySem.W.Fast.tw18019602027813609531 : True := trivial
theorem PySem.W.Fast.tw15362103759805195413 : True := trivial
theorem PySem.W.Fast.tw2746648868649576600 : True := trivial
theorem PySem.W.Fast.tw16181050904054265364 : True := trivial
theorem PySem.W.Fast.tw16448201981068265158 : True := trivial
theorem PySem.W.Fast.tw13889386893565088442 : True := trivial
theorem PySem.W.Fast.tw4963903881226430802 : True := trivial
theorem PySem.W.Fast.tw4526699245160737804 : True := trivial
theorem PySem.W.Fast.tw3479488050416632234 : True := trivial
theorem PySem.W.Fast.tw13380756657145790556 : True := trivial
theorem PySem.W.Fast.tw10921090151552782237 : True := trivial
theorem PySem.W.Fast.tw330998649699509568 : True := trivial
theorem PySem.W.Fast.tw8670090587371811928 : True := trivial
theorem PySem.W.Fast.tw489389732844318805 : True := trivial
theorem PySem.W.Fast.tw12187989194878376353 : True := trivial
theorem PySem.W.Fast.tw17374456265289219526 : True := trivial
theorem PySem.W.Fast.tw2786537461863376375 : True := trivial
theorem PySem.W.Fast.tw3061943052583277059 : True := trivial
theorem PySem.W.Fast.tw7908011892398512715 : True := trivial
theorem PySem.W.Fast.tw16044383911816098231 : True := trivial
theorem PySem.W.Fast.tw8153827569233708366 : True := trivial
theorem PySem.W.Fast.tw16668492062554641931 : True := trivial
theorem PySem.W.Fast.tw7279262934869858493 : True := trivial
theorem PySem.W.Fast.tw15889714531617617161 : True := trivial
theorem PySem.W.Fast.tw9564007075195401746 : True := trivial
theorem PySem.W.Fast.tw2729079609970329736 : True := trivial
theorem PySem.W.Fast.tw12305372962323077095 : True := trivial
theorem PySem.W.Fast.tw11181905586515497795 : True := trivial
theorem PySem.W.Fast.tw7293528014518471012 : True := trivial
theorem PySem.W.Fast.tw8114656546660824061 : True := trivial
theorem PySem.W.Fast.tw6843341549791822522 : True := trivial
theorem PySem.W.Fast.tw10701311085164280040 : True := trivial
theorem PySem.W.Fast.tw13385063088625582450 : True := trivial
theorem PySem.W.Fast.tw10797557748083090994 : True := trivial
theorem PySem.W.Fast.tw1509173661038277269 : True := trivial
theorem PySem.W.Fast.tw12613165741945856140 : True := trivial
theorem PySem.W.Fast.tw2711910959668856077 : True := trivial
theorem PySem.W.Fast.tw8156742436114397807 : True := trivial
theorem PySem.W.Fast.tw8843302372529412839 : True := trivial
theorem PySem.W.Fast.tw6310455469720385112 : True := trivial
theorem PySem.W.Fast.tw12690742131134329483 : True := trivial
theorem PySem.W.Fast.tw4799378691729957712 : True := trivial
theorem PySem.W.Fast.tw17514532623553557981 : True := trivial
theorem PySem.W.Fast.tw1995193576276053517 : True := trivial
theorem PySem.W.Fast.tw678597057409170965 : True := trivial
theorem PySem.W.Fast.tw10834943085100137681 : True := trivial
theorem PySem.W.Fast.tw18243773392380405267 : True := trivial
theorem PySem.W.Fast.tw14331194842188441367 : True := trivial
theorem PySem.W.Fast.tw8141077751156782523 : True := trivial
theorem PySem.W.Fast.tw5106096099789826476 : True := trivial
theorem PySem.W.Fast.tw6939205229881371762 : True := trivial
theorem PySem.W.Fast.tw9595330824736336084 : True := trivial
theorem PySem.W.Fast.tw10314579239540572962 : True := trivial
theorem PySem.W.Fast.tw15574327866825123748 : True := trivial
theorem PySem.W.Fast.tw3509351136748211902 : True := trivial
theorem PySem.W.Fast.tw14539858378306194977 : True := trivial
theorem PySem.W.Fast.tw5111016408983027965 : True := trivial
theorem PySem.W.Fast.tw999349826348609549 : True := trivial
theorem PySem.W.Fast.tw2449309444280092858 : True := trivial
theorem PySem.W.Fast.tw14818250826798694648 : True := trivial
theorem PySem.W.Fast.tw11654350568278609492 : True := trivial
theorem PySem.W.Fast.tw9108419401937567620 : True := trivial
theorem PySem.W.Fast.tw12918015274548279753 : True := trivial
theorem PySem.W.Fast.tw10110144957533635669 : True := trivial
theorem PySem.W.Fast.tw3119041298543546903 : True := trivial
theorem PySem.W.Fast.tw738314764294429281 : True := trivial
theorem PySem.W.Fast.tw3691761809473752768 : True := trivial
theorem PySem.W.Fast.tw17228584048234207533 : True := trivial
theorem PySem.W.Fast.tw9506325318995560359 : True := trivial
theorem PySem.W.Fast.tw10625392916501310631 : True := trivial
theorem PySem.W.Fast.tw16629915959543525325 : True := trivial
theorem PySem.W.Fast.tw17092983180035199376 : True := trivial
theorem PySem.W.Fast.tw1384993633046551472 : True := trivial
theorem PySem.W.Fast.tw2908871301280441224 : True := trivial
theorem PySem.W.Fast.tw16562453718285656144 : True := trivial
theorem PySem.W.Fast.tw10854579254586423332 : True := trivial
theorem PySem.W.Fast.tw12193676635149070501 : True := trivial
theorem PySem.W.Fast.tw13264826665539196354 : True := trivial
theorem PySem.W.Fast.tw13255621036000322030 : True := trivial
theorem PySem.W.Fast.tw3720225115430210066 : True := trivial
theorem PySem.W.Fast.tw3666394415095097880 : True := trivial
theorem PySem.W.Fast.tw11682774385900597831 : True := trivial
theorem PySem.W.Fast.tw12083022795050314265 : True := trivial
theorem PySem.W.Fast.tw10314074835802827385 : True := trivial
theorem PySem.W.Fast.tw3770117111193235765 : True := trivial
theorem PySem.W.Fast.tw12284819331535556172 : True := trivial
theorem PySem.W.Fast.tw5480333142170238503 : True := trivial
theorem PySem.W.Fast.tw16637848333670872844 : True := trivial
theorem PySem.W.Fast.tw12249186305778937790 : True := trivial
theorem PySem.W.Fast.tw15063235551238764837 : True := trivial
theorem PySem.W.Fast.tw5545903664070419792 : True := trivial
theorem PySem.W.Fast.tw6567287455938531374 : True := trivial
theorem PySem.W.Fast.tw11521279640863713641 : True := trivial
theorem PySem.W.Fast.tw6798134384004738107 : True := trivial
theorem PySem.W.Fast.tw12560499532347061661 : True := trivial
theorem PySem.W.Fast.tw4201320843099345176 : True := trivial
theorem PySem.W.Fast.tw1222623059849457550 : True := trivial
theorem PySem.W.Fast.tw12496056566971603623 : True := trivial
theorem PySem.W.Fast.tw5437747380834981916 : True := trivial
theorem PySem.W.Fast.tw10916218531945552384 : True := trivial
theorem PySem.W.Fast.tw9229752219436179601 : True := trivial
theorem PySem.W.Fast.tw6800486639565287469 : True := trivial
theorem PySem.W.Fast.tw2120217413046625190 : True := trivial
theorem PySem.W.Fast.tw6063641471322932423 : True := trivial
theorem PySem.W.Fast.tw12568907437133997562 : True := trivial
theorem PySem.W.Fast.tw1313991038031596033 : True := trivial
theorem PySem.W.Fast.tw13739887074078908579 : True := trivial
theorem PySem.W.Fast.tw3555522419219572272 : True := trivial
theorem PySem.W.Fast.tw14315410301321492787 : True := trivial
theorem PySem.W.Fast.tw15244176165862357797 : True := trivial
theorem PySem.W.Fast.tw8719849192543378303 : True := trivial
theorem PySem.W.Fast.tw7713068809236229656 : True := trivial
theorem PySem.W.Fast.tw4055407287781378863 : True := trivial
theorem PySem.W.Fast.tw7429579520805222878 : True := trivial
theorem PySem.W.Fast.tw1261854045698666558 : True := trivial
theorem PySem.W.Fast.tw3281601794373185467 : True := trivial
theorem PySem.W.Fast.tw15740441400825791655 : True := trivial
theorem PySem.W.Fast.tw5747289008727776936 : True := trivial
theorem PySem.W.Fast.tw17442461759926839239 : True := trivial
theorem PySem.W.Fast.tw11443080051110095932 : True := trivial
theorem PySem.W.Fast.tw1087977851299443038 : True := trivial
theorem PySem.W.Fast.tw13437378577827283278 : True := trivial
theorem PySem.W.Fast.tw5214769928733230816 : True := trivial
theorem PySem.W.Fast.tw14789527848764522739 : True := trivial
theorem PySem.W.Fast.tw13429521601667068346 : True := trivial
theorem PySem.W.Fast.tw7992701307878968513 : True := trivial
theorem PySem.W.Fast.tw10680448287659752084 : True := trivial
theorem PySem.W.Fast.tw4445396483059418102 : True := trivial
theorem PySem.W.Fast.tw17280711831335162067 : True := trivial
theorem PySem.W.Fast.tw9733088444920445405 : True := trivial
theorem PySem.W.Fast.tw4406644954988939654 : True := trivial
theorem PySem.W.Fast.tw20657296020691072 : True := trivial
theorem PySem.W.Fast.tw16240496361444472122 : True := trivial
theorem PySem.W.Fast.tw8325528682670596055 : True := trivial
theorem PySem.W.Fast.tw16514817915317815298 : True := trivial
theorem PySem.W.Fast.tw10578369810468168778 : True := trivial
theorem PySem.W.Fast.tw8192837432737031234 : True := trivial
theorem PySem.W.Fast.tw11098551647487993871 : True := trivial
theorem PySem.W.Fast.tw12094625600851945586 : True := trivial
theorem PySem.W.Fast.tw1343289976369351062 : True := trivial
theorem PySem.W.Fast.tw2646133612239450296 : True := trivial
theorem PySem.W.Fast.tw1321394623897978507 : True := trivial
theorem PySem.W.Fast.tw16185540550126949270 : True := trivial
theorem PySem.W.Fast.tw14388901706711964168 : True := trivial
theorem PySem.W.Fast.tw3946534890286158477 : True := trivial
theorem PySem.W.Fast.tw6760362481837867785 : True := trivial
theorem PySem.W.Fast.tw3901868859582362588 : True := trivial
theorem PySem.W.Fast.tw1358616275612129429 : True := trivial
theorem PySem.W.Fast.tw6651976388751467711 : True := trivial
theorem PySem.W.Fast.tw16267935070582520755 : True := trivial
theorem PySem.W.Fast.tw11499733779176346598 : True := trivial
theorem PySem.W.Fast.tw15873621005387002558 : True := trivial
theorem PySem.W.Fast.tw13704077455590991642 : True := trivial
theorem PySem.W.Fast.tw8106731311377759450 : True := trivial
theorem PySem.W.Fast.tw1994233942373064366 : True := trivial
theorem PySem.W.Fast.tw419396312392926244 : True := trivial
theorem PySem.W.Fast.tw11953859768519739856 : True := trivial
theorem PySem.W.Fast.tw5250112719052757308 : True := trivial
theorem PySem.W.Fast.tw15977816969982183321 : True := trivial
theorem PySem.W.Fast.tw15368447179491284226 : True := trivial
theorem PySem.W.Fast.tw9184746540117653434 : True := trivial
theorem PySem.W.Fast.tw17119852323252437584 : True := trivial
theorem PySem.W.Fast.tw10012425662345812796 : True := trivial
theorem PySem.W.Fast.tw1450917664783617653 : True := trivial
theorem PySem.W.Fast.tw18411962980695177025 : True := trivial
theorem PySem.W.Fast.tw1964842084082323861 : True := trivial
theorem PySem.W.Fast.tw4375362882922361469 : True := trivial
theorem PySem.W.Fast.tw568594411768188553 : True := trivial
theorem PySem.W.Fast.tw2649101494886763993 : True := trivial
theorem PySem.W.Fast.tw18401196063409965478 : True := trivial
theorem PySem.W.Fast.tw16022810029906736599 : True := trivial
theorem PySem.W.Fast.tw887940156050405856 : True := trivial
theorem PySem.W.Fast.tw6462162501085432065 : True := trivial
theorem PySem.W.Fast.tw7539740110073058729 : True := trivial
theorem PySem.W.Fast.tw16494226711848044875 : True := trivial
theorem PySem.W.Fast.tw11549416335826806455 : True := trivial
theorem PySem.W.Fast.tw13658208578424462900 : True := trivial
theorem PySem.W.Fast.tw4775015501053720842 : True := trivial
theorem PySem.W.Fast.tw16327830893221637099 : True := trivial
theorem PySem.W.Fast.tw1943923121849341159 : True := trivial
theorem PySem.W.Fast.tw4463586953230099790 : True := trivial
theorem PySem.W.Fast.tw15414285351576027187 : True := trivial
theorem PySem.W.Fast.tw18403628440042028985 : True := trivial
theorem PySem.W.Fast.tw3350542794704673227 : True := trivial
theorem PySem.W.Fast.tw10718563359625511589 : True := trivial
theorem PySem.W.Fast.tw8019582887684383726 : True := trivial
theorem PySem.W.Fast.tw8021050218571903238 : True := trivial
theorem PySem.W.Fast.tw2512339191072998053 : True := trivial
theorem PySem.W.Fast.tw9894124204550497826 : True := trivial
theorem PySem.W.Fast.tw9594384901213116375 : True := trivial
theorem PySem.W.Fast.tw8258320609897904218 : True := trivial
theorem PySem.W.Fast.tw9927570912437827969 : True := trivial
theorem PySem.W.Fast.tw734277015857325948 : True := trivial
theorem PySem.W.Fast.tw356358802444120560 : True := trivial
theorem PySem.W.Fast.tw8058258245849488259 : True := trivial
theorem PySem.W.Fast.tw1640705001387446413 : True := trivial
theorem PySem.W.Fast.tw12622517713974242068 : True := trivial
theorem PySem.W.Fast.tw18133719853256959164 : True := trivial
theorem PySem.W.Fast.tw9092667666457299828 : True := trivial
theorem PySem.W.Fast.tw17166231665879324113 : True := trivial
theorem PySem.W.Fast.tw8741223561477780026 : True := trivial
theorem PySem.W.Fast.tw12330859267571482085 : True := trivial
theorem PySem.W.Fast.tw8740018330770974944 : True := trivial
theorem PySem.W.Fast.tw16832776572503309945 : True := trivial
theorem PySem.W.Fast.tw16234490433198559889 : True := trivial
theorem PySem.W.Fast.tw5563254905036876381 : True := trivial
theorem PySem.W.Fast.tw11384399938377491804 : True := trivial
theorem PySem.W.Fast.tw11882786057531429941 : True := trivial
theorem PySem.W.Fast.tw5125441670782325434 : True := trivial
theorem PySem.W.Fast.tw8249535383406556417 : True := trivial
theorem PySem.W.Fast.tw14997967503582308869 : True := trivial
theorem PySem.W.Fast.tw16938725803545521773 : True := trivial
theorem PySem.W.Fast.tw1188940872019911842 : True := trivial
theorem PySem.W.Fast.tw3260511402847518252 : True := trivial
theorem PySem.W.Fast.tw10108009699457622985 : True := trivial
theorem PySem.W.Fast.tw8851849923320099678 : True := trivial
theorem PySem.W.Fast.tw1039970890706795250 : True := trivial
theorem PySem.W.Fast.tw10072715829598405830 : True := trivial
theorem PySem.W.Fast.tw15695260146777244910 : True := trivial
theorem PySem.W.Fast.tw9310478199545202919 : True := trivial
theorem PySem.W.Fast.tw11208535952557312048 : True := trivial
theorem PySem.W.Fast.tw8317107809160454873 : True := trivial
theorem PySem.W.Fast.tw410846649460019760 : True := trivial
theorem PySem.W.Fast.tw9948423252587657839 : True := trivial
theorem PySem.W.Fast.tw217402114120977787 : True := trivial
theorem PySem.W.Fast.tw7540011398765919504 : True := trivial
theorem PySem.W.Fast.tw17892119461960809939 : True := trivial
theorem PySem.W.Fast.tw8974591447536875876 : True := trivial
theorem PySem.W.Fast.tw4719740097478353390 : True := trivial
theorem PySem.W.Fast.tw16464847826094717279 : True := trivial
theorem PySem.W.Fast.tw5350118525970358107 : True := trivial
theorem PySem.W.Fast.tw18137380071555144518 : True := trivial
theorem PySem.W.Fast.tw14183270388601154925 : True := trivial
theorem PySem.W.Fast.tw1085085799758182195 : True := trivial
theorem PySem.W.Fast.tw12113174186767526111 : True := trivial
theorem PySem.W.Fast.tw13276399598461303197 : True := trivial
theorem PySem.W.Fast.tw3424089689912312796 : True := trivial
theorem PySem.W.Fast.tw6941573876305180513 : True := trivial
theorem PySem.W.Fast.tw12522169399282467109 : True := trivial
theorem PySem.W.Fast.tw10804443116338524932 : True := trivial
theorem PySem.W.Fast.tw16840846913782696696 : True := trivial
theorem PySem.W.Fast.tw8578944216562453269 : True := trivial
theorem PySem.W.Fast.tw18054177758253419828 : True := trivial
theorem PySem.W.Fast.tw3709086030505754951 : True := trivial
theorem PySem.W.Fast.tw12529768417416312960 : True := trivial
theorem PySem.W.Fast.tw13234385925988298432 : True := trivial
theorem PySem.W.Fast.tw14925832477912790987 : True := trivial
theorem PySem.W.Fast.tw1655853214305378605 : True := trivial
theorem PySem.W.Fast.tw7225047331659765332 : True := trivial
theorem PySem.W.Fast.tw6369799457708940642 : True := trivial
theorem PySem.W.Fast.tw10626258902047549898 : True := trivial
theorem PySem.W.Fast.tw4982516995798881793 : True := trivial
theorem PySem.W.Fast.tw2350127318125690124 : True := trivial
theorem PySem.W.Fast.tw8095600090437728831 : True := trivial
theorem PySem.W.Fast.tw8607315952405821681 : True := trivial
theorem PySem.W.Fast.tw1798683026951042675 : True := trivial
theorem PySem.W.Fast.tw4167562228819829854 : True := trivial
theorem PySem.W.Fast.tw139656231583319124 : True := trivial
theorem PySem.W.Fast.tw11918404508144430617 : True := trivial
theorem PySem.W.Fast.tw12125739464119427072 : True := trivial
theorem PySem.W.Fast.tw5513515162939359033 : True := trivial
theorem PySem.W.Fast.tw7495889334353260866 : True := trivial
theorem PySem.W.Fast.tw102676537636753571 : True := trivial
theorem PySem.W.Fast.tw12590226386851392334 : True := trivial
theorem PySem.W.Fast.tw17022073848570612591 : True := trivial
theorem PySem.W.Fast.tw12313512947469714184 : True := trivial
theorem PySem.W.Fast.tw13117243921621816930 : True := trivial
theorem PySem.W.Fast.tw12060478262272762844 : True := trivial
theorem PySem.W.Fast.tw8236316039783894121 : True := trivial
theorem PySem.W.Fast.tw11486618964154707785 : True := trivial
theorem PySem.W.Fast.tw12759615824242587625 : True := trivial
theorem PySem.W.Fast.tw16483445769813646127 : True := trivial
theorem PySem.W.Fast.tw17801355154338384549 : True := trivial
theorem PySem.W.Fast.tw16295292193457278682 : True := trivial
theorem PySem.W.Fast.tw1710127841437556100 : True := trivial
theorem PySem.W.Fast.tw12204505048205168402 : True := trivial
theorem PySem.W.Fast.tw10612892417548446064 : True := trivial
theorem PySem.W.Fast.tw5924749384129138758 : True := trivial
theorem PySem.W.Fast.tw16141365631229644425 : True := trivial
theorem PySem.W.Fast.tw8138370551797738852 : True := trivial
theorem PySem.W.Fast.tw8448827475697854106 : True := trivial
theorem PySem.W.Fast.tw8193114391915338372 : True := trivial
theorem PySem.W.Fast.tw10328723724352987901 : True := trivial
theorem PySem.W.Fast.tw13786426549930133793 : True := trivial
theorem PySem.W.Fast.tw4513852543511680336 : True := trivial
theorem PySem.W.Fast.tw13969826671315685653 : True := trivial
theorem PySem.W.Fast.tw15672096137470416070 : True := trivial
theorem PySem.W.Fast.tw4240738655897701143 : True := trivial
theorem PySem.W.Fast.tw18056333853872905421 : True := trivial
theorem PySem.W.Fast.tw11509738036057605395 : True := trivial
theorem PySem.W.Fast.tw11880451443428856274 : True := trivial
theorem PySem.W.Fast.tw15845158867594178275 : True := trivial
theorem PySem.W.Fast.tw4600614940116554302 : True := trivial
theorem PySem.W.Fast.tw80120467880394213 : True := trivial
theorem PySem.W.Fast.tw1915496700746501471 : True := trivial
theorem PySem.W.Fast.tw13870063951061430161 : True := trivial
theorem PySem.W.Fast.tw13826509514944648070 : True := trivial
theorem PySem.W.Fast.tw14909875209325806058 : True := trivial
theorem PySem.W.Fast.tw3015795236935877744 : True := trivial
theorem PySem.W.Fast.tw13742564693228395569 : True := trivial
theorem PySem.W.Fast.tw8616394137585077636 : True := trivial
theorem PySem.W.Fast.tw13626405135111633828 : True := trivial
theorem PySem.W.Fast.tw5145271149615852175 : True := trivial
theorem PySem.W.Fast.tw11252354499573319470 : True := trivial
theorem PySem.W.Fast.tw3847379311041252588 : True := trivial
theorem PySem.W.Fast.tw756902980618893909 : True := trivial
theorem PySem.W.Fast.tw9315044711613712054 : True := trivial
theorem PySem.W.Fast.tw3829153648634626139 : True := trivial
theorem PySem.W.Fast.tw16390187187968088915 : True := trivial
theorem PySem.W.Fast.tw11335599871836439235 : True := trivial
theorem PySem.W.Fast.tw5593204252207605994 : True := trivial
theorem PySem.W.Fast.tw3993884120095626974 : True := trivial
theorem PySem.W.Fast.tw1416534154965659044 : True := trivial
theorem PySem.W.Fast.tw13434022465944992096 : True := trivial
theorem PySem.W.Fast.tw13266391912498657527 : True := trivial
theorem PySem.W.Fast.tw436397189664247995 : True := trivial
theorem PySem.W.Fast.tw15128177804202618651 : True := trivial
theorem PySem.W.Fast.tw13917431248049920058 : True := trivial
theorem PySem.W.Fast.tw13946040906938134827 : True := trivial
theorem PySem.W.Fast.tw14145892593946776619 : True := trivial
theorem PySem.W.Fast.tw1064158777099918719 : True := trivial
theorem PySem.W.Fast.tw13061785238528252173 : True := trivial
theorem PySem.W.Fast.tw17069788340035270311 : True := trivial
theorem PySem.W.Fast.tw3642984454210931643 : True := trivial
theorem PySem.W.Fast.tw10280388102435557906 : True := trivial
theorem PySem.W.Fast.tw1012410223165902259 : True := trivial
theorem PySem.W.Fast.tw2174323996774878727 : True := trivial
theorem PySem.W.Fast.tw16554594275798153754 : True := trivial
theorem PySem.W.Fast.tw16086911387183233337 : True := trivial
theorem PySem.W.Fast.tw1033433508028420797 : True := trivial
theorem PySem.W.Fast.tw8800212696250919667 : True := trivial
theorem PySem.W.Fast.tw2356767313926371662 : True := trivial
theorem PySem.W.Fast.tw6121451892478480860 : True := trivial
theorem PySem.W.Fast.tw13776160328122143104 : True := trivial
theorem PySem.W.Fast.tw15075429702257395890 : True := trivial
theorem PySem.W.Fast.tw1636008747649683359 : True := trivial
theorem PySem.W.Fast.tw1111920424490287911 : True := trivial
theorem PySem.W.Fast.tw16003556906221398491 : True := trivial
theorem PySem.W.Fast.tw16480903414755180013 : True := trivial
theorem PySem.W.Fast.tw2245209658467711129 : True := trivial
theorem PySem.W.Fast.tw13607380825560340510 : True := trivial
theorem PySem.W.Fast.tw17405903212172089118 : True := trivial
theorem PySem.W.Fast.tw14873859865569077498 : True := trivial
theorem PySem.W.Fast.tw4214330370384601399 : True := trivial
theorem PySem.W.Fast.tw15903965523005591290 : True := trivial
theorem PySem.W.Fast.tw721829359510405366 : True := trivial
theorem PySem.W.Fast.tw198112009196707760 : True := trivial
theorem PySem.W.Fast.tw3463837220013881086 : True := trivial
theorem PySem.W.Fast.tw13175489054854530209 : True := trivial
theorem PySem.W.Fast.tw15563315017496600279 : True := trivial
theorem PySem.W.Fast.tw9198341720753509277 : True := trivial
theorem PySem.W.Fast.tw9218496647431175663 : True := trivial
theorem PySem.W.Fast.tw13805066321201413303 : True := trivial
theorem PySem.W.Fast.tw11715220422995397581 : True := trivial
theorem PySem.W.Fast.tw17005352160071676763 : True := trivial
theorem PySem.W.Fast.tw6091129755533642905 : True := trivial
theorem PySem.W.Fast.tw5265205516923636064 : True := trivial
theorem PySem.W.Fast.tw12626568263370992192 : True := trivial
theorem PySem.W.Fast.tw15645147881884612706 : True := trivial
theorem PySem.W.Fast.tw4673796381862649718 : True := trivial
theorem PySem.W.Fast.tw330709146148375603 : True := trivial
theorem PySem.W.Fast.tw2175223245520481482 : True := trivial
theorem PySem.W.Fast.tw3117180011398122509 : True := trivial
theorem PySem.W.Fast.tw11149857422802467664 : True := trivial
theorem PySem.W.Fast.tw12355722269823187783 : True := trivial
theorem PySem.W.Fast.tw16812518044980606640 : True := trivial
theorem PySem.W.Fast.tw7537274002972340710 : True := trivial
theorem PySem.W.Fast.tw14994017895155947169 : True := trivial
theorem PySem.W.Fast.tw13917445057376705431 : True := trivial
theorem PySem.W.Fast.tw4095913343197059535 : True := trivial
theorem PySem.W.Fast.tw18175227517132692892 : True := trivial
theorem PySem.W.Fast.tw9425323463359530443 : True := trivial
theorem PySem.W.Fast.tw14709789350626536896 : True := trivial
theorem PySem.W.Fast.tw16031011579974665026 : True := trivial
theorem PySem.W.Fast.tw13162777020642430882 : True := trivial
theorem PySem.W.Fast.tw17682413807718724145 : True := trivial
theorem PySem.W.Fast.tw3645320844787568704 : True := trivial
theorem PySem.W.Fast.tw11285625123257230370 : True := trivial
theorem PySem.W.Fast.tw10926017776312151130 : True := trivial
theorem PySem.W.Fast.tw17159204708015399743 : True := trivial
theorem PySem.W.Fast.tw3186103693581824911 : True := trivial
theorem PySem.W.Fast.tw1482512698360064370 : True := trivial
theorem PySem.W.Fast.tw9717128334899432654 : True := trivial
theorem PySem.W.Fast.tw17299699427588137132 : True := trivial
theorem PySem.W.Fast.tw3643909884430195854 : True := trivial
theorem PySem.W.Fast.tw17822759294020997434 : True := trivial
theorem PySem.W.Fast.tw12032567945556051867 : True := trivial
theorem PySem.W.Fast.tw12903254897249392179 : True := trivial
theorem PySem.W.Fast.tw11980847171771247857 : True := trivial
theorem PySem.W.Fast.tw11605391978151792663 : True := trivial
theorem PySem.W.Fast.tw11751123349864116540 : True := trivial
theorem PySem.W.Fast.tw602483246562574192 : True := trivial
theorem PySem.W.Fast.tw14687375310780357524 : True := trivial
theorem PySem.W.Fast.tw3657577666817493048 : True := trivial
theorem PySem.W.Fast.tw6082188266317154681 : True := trivial
theorem PySem.W.Fast.tw5586563479776710015 : True := trivial
theorem PySem.W.Fast.tw8455898675275518950 : True := trivial
theorem PySem.W.Fast.tw12690845746578579873 : True := trivial
theorem PySem.W.Fast.tw11321360548990264004 : True := trivial
theorem PySem.W.Fast.tw6331176391945989698 : True := trivial
theorem PySem.W.Fast.tw12162454117324215713 : True := trivial
theorem PySem.W.Fast.tw3168824460681378349 : True := trivial
theorem PySem.W.Fast.tw3530841123947705598 : True := trivial
theorem PySem.W.Fast.tw5911879867382449692 : True := trivial
theorem PySem.W.Fast.tw14899679028969160873 : True := trivial
theorem PySem.W.Fast.tw15401950873528443790 : True := trivial
theorem PySem.W.Fast.tw3033409483253564692 : True := trivial
theorem PySem.W.Fast.tw12996702762297845037 : True := trivial
theorem PySem.W.Fast.tw7723240222895938186 : True := trivial
theorem PySem.W.Fast.tw13894700608050015576 : True := trivial
theorem PySem.W.Fast.tw1056117162693390891 : True := trivial
theorem PySem.W.Fast.tw949421156874062877 : True := trivial
theorem PySem.W.Fast.tw18375157233390510487 : True := trivial
theorem PySem.W.Fast.tw17625835414617618723 : True := trivial
theorem PySem.W.Fast.tw17915852485002249673 : True := trivial
theorem PySem.W.Fast.tw5884262563870950856 : True := trivial
theorem PySem.W.Fast.tw18156703774002742338 : True := trivial
theorem PySem.W.Fast.tw3244219497314997800 : True := trivial
theorem PySem.W.Fast.tw6864670373421398252 : True := trivial
theorem PySem.W.Fast.tw14229420090392144506 : True := trivial
theorem PySem.W.Fast.tw382242222156192187 : True := trivial
theorem PySem.W.Fast.tw2552778811941969986 : True := trivial
theorem PySem.W.Fast.tw4321735290462941442 : True := trivial
theorem PySem.W.Fast.tw6083812308447631594 : True := trivial
theorem PySem.W.Fast.tw10421246877277000875 : True := trivial
theorem PySem.W.Fast.tw16540052653264147119 : True := trivial
theorem PySem.W.Fast.tw6810346964417295990 : True := trivial
theorem PySem.W.Fast.tw5057109248193133445 : True := trivial
theorem PySem.W.Fast.tw3456863948528804072 : True := trivial
theorem PySem.W.Fast.tw5282096323842575759 : True := trivial
theorem PySem.W.Fast.tw13416515820607408340 : True := trivial
theorem PySem.W.Fast.tw12975457116082108249 : True := trivial
theorem PySem.W.Fast.tw8710392759853098536 : True := trivial
theorem PySem.W.Fast.tw8141830265900174403 : True := trivial
theorem PySem.W.Fast.tw18046644032724567980 : True := trivial
theorem PySem.W.Fast.tw17157501342901295827 : True := trivial
theorem PySem.W.Fast.tw6767297782214908641 : True := trivial
theorem PySem.W.Fast.tw14867909084615311317 : True := trivial
theorem PySem.W.Fast.tw16153780623859696450 : True := trivial
theorem PySem.W.Fast.tw752694967478620781 : True := trivial
theorem PySem.W.Fast.tw6899045720035161283 : True := trivial
theorem PySem.W.Fast.tw8102128809147026684 : True := trivial
theorem PySem.W.Fast.tw18265199923221725399 : True := trivial
theorem PySem.W.Fast.tw16119844698261594839 : True := trivial
theorem PySem.W.Fast.tw14385692634636526119 : True := trivial
theorem PySem.W.Fast.tw16262966240763025870 : True := trivial
theorem PySem.W.Fast.tw16383445726267478206 : True := trivial
theorem PySem.W.Fast.tw10516372983074052774 : True := trivial
theorem PySem.W.Fast.tw17176476559713713878 : True := trivial
theorem PySem.W.Fast.tw11081676680712256118 : True := trivial
theorem PySem.W.Fast.tw1352301592073059626 : True := trivial
theorem PySem.W.Fast.tw12925964656608459966 : True := trivial
theorem PySem.W.Fast.tw3364137906186173647 : True := trivial
theorem PySem.W.Fast.tw15428274657911112091 : True := trivial
theorem PySem.W.Fast.tw15528133042180102896 : True := trivial
theorem PySem.W.Fast.tw7788000525536254769 : True := trivial
theorem PySem.W.Fast.tw14018019658528767329 : True := trivial
theorem PySem.W.Fast.tw3620356331478474692 : True := trivial
theorem PySem.W.Fast.tw13512960609361369591 : True := trivial
theorem PySem.W.Fast.tw13081445008304395758 : True := trivial
theorem PySem.W.Fast.tw13683088447865209940 : True := trivial
theorem PySem.W.Fast.tw9658021510798582163 : True := trivial
theorem PySem.W.Fast.tw5945062889850549068 : True := trivial
theorem PySem.W.Fast.tw11017892185795621677 : True := trivial
theorem PySem.W.Fast.tw2903523752274885638 : True := trivial
theorem PySem.W.Fast.tw10835066325603400372 : True := trivial
theorem PySem.W.Fast.tw5474381013465381369 : True := trivial
theorem PySem.W.Fast.tw9616644887289472473 : True := trivial
theorem PySem.W.Fast.tw3532619451092824044 : True := trivial
theorem PySem.W.Fast.tw7647226607150451423 : True := trivial
theorem PySem.W.Fast.tw7608972576188766438 : True := trivial
theorem PySem.W.Fast.tw16535860811501215564 : True := trivial
theorem PySem.W.Fast.tw5779019457720695955 : True := trivial
theorem PySem.W.Fast.tw13150492605268045720 : True := trivial
theorem PySem.W.Fast.tw5027370665987107263 : True := trivial
theorem PySem.W.Fast.tw1627490143496867610 : True := trivial
theorem PySem.W.Fast.tw2280473265904330838 : True := trivial
theorem PySem.W.Fast.tw11071931251243921933 : True := trivial
theorem PySem.W.Fast.tw15320643056321987511 : True := trivial
theorem PySem.W.Fast.tw16642631900464955405 : True := trivial
theorem PySem.W.Fast.tw6816642732443961059 : True := trivial
theorem PySem.W.Fast.tw9814216489500161593 : True := trivial
theorem PySem.W.Fast.tw15299363625709408699 : True := trivial
theorem PySem.W.Fast.tw14852311297588705892 : True := trivial
theorem PySem.W.Fast.tw11011204613818558801 : True := trivial
theorem PySem.W.Fast.tw13987145466874646931 : True := trivial
theorem PySem.W.Fast.tw9584696415417917134 : True := trivial
theorem PySem.W.Fast.tw6140943268601426627 : True := trivial
theorem PySem.W.Fast.tw1237097644702283900 : True := trivial
theorem PySem.W.Fast.tw13202922647991162677 : True := trivial
theorem PySem.W.Fast.tw4759674300312079071 : True := trivial
theorem PySem.W.Fast.tw16058993230777800668 : True := trivial
theorem PySem.W.Fast.tw5740189892311515751 : True := trivial
theorem PySem.W.Fast.tw5184576771704530191 : True := trivial
theorem PySem.W.Fast.tw10696089274832008770 : True := trivial
theorem PySem.W.Fast.tw4818417908326394671 : True := trivial
theorem PySem.W.Fast.tw13807134525506634258 : True := trivial
theorem PySem.W.Fast.tw8081778116691461096 : True := trivial
theorem PySem.W.Fast.tw4209388626092692366 : True := trivial
theorem PySem.W.Fast.tw14794812348204584851 : True := trivial
theorem PySem.W.Fast.tw8600839002772003771 : True := trivial
theorem PySem.W.Fast.tw11825225696093953893 : True := trivial
theorem PySem.W.Fast.tw14096926601683180396 : True := trivial
theorem PySem.W.Fast.tw1185407766882969498 : True := trivial
theorem PySem.W.Fast.tw3736216239848049197 : True := trivial
theorem PySem.W.Fast.tw13252713982254307310 : True := trivial
theorem PySem.W.Fast.tw12247532994130791515 : True := trivial
theorem PySem.W.Fast.tw17050501596919145693 : True := trivial
theorem PySem.W.Fast.tw7682169117205969555 : True := trivial
theorem PySem.W.Fast.tw6369808096856412130 : True := trivial
theorem PySem.W.Fast.tw17005560000292179802 : True := trivial
theorem PySem.W.Fast.tw5180637072403381937 : True := trivial
theorem PySem.W.Fast.tw10773077473938032893 : True := trivial
theorem PySem.W.Fast.tw11513352530806105447 : True := trivial
theorem PySem.W.Fast.tw1733799051889423184 : True := trivial
theorem PySem.W.Fast.tw13927853884394585121 : True := trivial
theorem PySem.W.Fast.tw5333039808475348783 : True := trivial
theorem PySem.W.Fast.tw3504019680433673410 : True := trivial
theorem PySem.W.Fast.tw11871717337249726465 : True := trivial
theorem PySem.W.Fast.tw12421132690182081933 : True := trivial
theorem PySem.W.Fast.tw9672636840155270993 : True := trivial
theorem PySem.W.Fast.tw10505349579125093342 : True := trivial
theorem PySem.W.Fast.tw10836973706885078817 : True := trivial
theorem PySem.W.Fast.tw3644714783143464955 : True := trivial
theorem PySem.W.Fast.tw16310515859283956960 : True := trivial
theorem PySem.W.Fast.tw7812429308856387579 : True := trivial
theorem PySem.W.Fast.tw3069357364265148752 : True := trivial
theorem PySem.W.Fast.tw17699009870544649235 : True := trivial
theorem PySem.W.Fast.tw12732302433768778892 : True := trivial
theorem PySem.W.Fast.tw1510689970798773760 : True := trivial
theorem PySem.W.Fast.tw6296937310883275171 : True := trivial
theorem PySem.W.Fast.tw1340870974460426411 : True := trivial
theorem PySem.W.Fast.tw6414574886035132110 : True := trivial
theorem PySem.W.Fast.tw15557337157337758424 : True := trivial
theorem PySem.W.Fast.tw2128902085448750576 : True := trivial
theorem PySem.W.Fast.tw17553544761331379754 : True := trivial
theorem PySem.W.Fast.tw16511872469254098048 : True := trivial
theorem PySem.W.Fast.tw4029271484540987760 : True := trivial
theorem PySem.W.Fast.tw3842134249532439292 : True := trivial
theorem PySem.W.Fast.tw7711440818506479600 : True := trivial
theorem PySem.W.Fast.tw8852642372314526828 : True := trivial
theorem PySem.W.Fast.tw12799094463919328434 : True := trivial
theorem PySem.W.Fast.tw14295618096488667422 : True := trivial
theorem PySem.W.Fast.tw14653152395066508203 : True := trivial
theorem PySem.W.Fast.tw10422426175252861026 : True := trivial
theorem PySem.W.Fast.tw13597436604406133153 : True := trivial
theorem PySem.W.Fast.tw9281246989337728965 : True := trivial
theorem PySem.W.Fast.tw8283059854383112786 : True := trivial
theorem PySem.W.Fast.tw6956404192275938758 : True := trivial
theorem PySem.W.Fast.tw14791663658589525169 : True := trivial
theorem PySem.W.Fast.tw4099624150787150598 : True := trivial
theorem PySem.W.Fast.tw12150317509930016138 : True := trivial
theorem PySem.W.Fast.tw17099991701062621471 : True := trivial
theorem PySem.W.Fast.tw551664691785969194 : True := trivial
theorem PySem.W.Fast.tw9847603244420896992 : True := trivial
theorem PySem.W.Fast.tw15460229764929732595 : True := trivial
theorem PySem.W.Fast.tw155110374428475476 : True := trivial
theorem PySem.W.Fast.tw11622097777541877738 : True := trivial
theorem PySem.W.Fast.tw11772610511599771956 : True := trivial
theorem PySem.W.Fast.tw9118226184106680365 : True := trivial
theorem PySem.W.Fast.tw479302447825869858 : True := trivial
theorem PySem.W.Fast.tw15592295511631165886 : True := trivial
theorem PySem.W.Fast.tw10621966934315568490 : True := trivial
theorem PySem.W.Fast.tw13791504590329245956 : True := trivial
theorem PySem.W.Fast.tw18004141453891505374 : True := trivial
theorem PySem.W.Fast.tw13651241835773737316 : True := trivial
theorem PySem.W.Fast.tw13590117992264636225 : True := trivial
theorem PySem.W.Fast.tw9117083796042443608 : True := trivial
theorem PySem.W.Fast.tw7213964081201178883 : True := trivial
theorem PySem.W.Fast.tw1210387528755255047 : True := trivial
theorem PySem.W.Fast.tw9775326450339331766 : True := trivial
theorem PySem.W.Fast.tw9975814663489158608 : True := trivial
theorem PySem.W.Fast.tw4056684995224644589 : True := trivial
theorem PySem.W.Fast.tw10025250733048488306 : True := trivial
theorem PySem.W.Fast.tw3641332727131094712 : True := trivial
theorem PySem.W.Fast.tw14270407721384733857 : True := trivial
theorem PySem.W.Fast.tw13766243713811068505 : True := trivial
theorem PySem.W.Fast.tw5264080928444190792 : True := trivial
theorem PySem.W.Fast.tw17934205778910865774 : True := trivial
theorem PySem.W.Fast.tw15625298543844982294 : True := trivial
theorem PySem.W.Fast.tw9475791961688203636 : True := trivial
theorem PySem.W.Fast.tw14507340016065876642 : True := trivial
theorem PySem.W.Fast.tw3880241849184963263 : True := trivial
theorem PySem.W.Fast.tw17409582445542537235 : True := trivial
theorem PySem.W.Fast.tw12294947635978996417 : True := trivial
theorem PySem.W.Fast.tw11451492944322873671 : True := trivial
theorem PySem.W.Fast.tw84321315221172465 : True := trivial
theorem PySem.W.Fast.tw3492018301460063818 : True := trivial
theorem PySem.W.Fast.tw9948359959083171763 : True := trivial
theorem PySem.W.Fast.tw6577095220063404563 : True := trivial
theorem PySem.W.Fast.tw18413327107359752022 : True := trivial
theorem PySem.W.Fast.tw10770439719417487254 : True := trivial
theorem PySem.W.Fast.tw5238494239595385631 : True := trivial
theorem PySem.W.Fast.tw10411649827842204582 : True := trivial
theorem PySem.W.Fast.tw124098032549861855 : True := trivial
theorem PySem.W.Fast.tw8828473815491935497 : True := trivial
theorem PySem.W.Fast.tw7795080258281285665 : True := trivial
theorem PySem.W.Fast.tw10747943706606829087 : True := trivial
theorem PySem.W.Fast.tw700698970078872088 : True := trivial
theorem PySem.W.Fast.tw12296708280305417978 : True := trivial
theorem PySem.W.Fast.tw14992475590295317603 : True := trivial
theorem PySem.W.Fast.tw20957445838148750 : True := trivial
theorem PySem.W.Fast.tw850608441012696371 : True := trivial
theorem PySem.W.Fast.tw11270193603079107383 : True := trivial
theorem PySem.W.Fast.tw1499842655152089442 : True := trivial
theorem PySem.W.Fast.tw14369045482052192870 : True := trivial
theorem PySem.W.Fast.tw3646985376693417729 : True := trivial
theorem PySem.W.Fast.tw6638464643018486297 : True := trivial
theorem PySem.W.Fast.tw14858528971243495424 : True := trivial
theorem PySem.W.Fast.tw4934823370026881359 : True := trivial
theorem PySem.W.Fast.tw15069894448618295734 : True := trivial
theorem PySem.W.Fast.tw6232800585034065112 : True := trivial
theorem PySem.W.Fast.tw16449844905370952413 : True := trivial
theorem PySem.W.Fast.tw8961393198460907600 : True := trivial
theorem PySem.W.Fast.tw14005042083499860268 : True := trivial
theorem PySem.W.Fast.tw9943771967282304514 : True := trivial
theorem PySem.W.Fast.tw9576489624647512943 : True := trivial
theorem PySem.W.Fast.tw1145886882524733942 : True := trivial
theorem PySem.W.Fast.tw11526151571182811408 : True := trivial
theorem PySem.W.Fast.tw4360001342541139207 : True := trivial
theorem PySem.W.Fast.tw14713857139564617968 : True := trivial
theorem PySem.W.Fast.tw7084295360745412388 : True := trivial
theorem PySem.W.Fast.tw11913569993997231279 : True := trivial
theorem PySem.W.Fast.tw18204406361789667603 : True := trivial
theorem PySem.W.Fast.tw13666148569604100991 : True := trivial
theorem PySem.W.Fast.tw5138887857628496512 : True := trivial
theorem PySem.W.Fast.tw7801847321289868592 : True := trivial
theorem PySem.W.Fast.tw17253998076150834603 : True := trivial
theorem PySem.W.Fast.tw17007166851811684206 : True := trivial
theorem PySem.W.Fast.tw1193831402349571459 : True := trivial
theorem PySem.W.Fast.tw16296680402606057043 : True := trivial
theorem PySem.W.Fast.tw3818256728070674673 : True := trivial
theorem PySem.W.Fast.tw8460619098092620353 : True := trivial
theorem PySem.W.Fast.tw16978277419473840210 : True := trivial
theorem PySem.W.Fast.tw18094998112378019078 : True := trivial
theorem PySem.W.Fast.tw2408845440778356267 : True := trivial
theorem PySem.W.Fast.tw10938169382655043841 : True := trivial
theorem PySem.W.Fast.tw1198619916046170696 : True := trivial
theorem PySem.W.Fast.tw5451158563499953287 : True := trivial
theorem PySem.W.Fast.tw479939655506651199 : True := trivial
theorem PySem.W.Fast.tw11684615679622689 : True := trivial
theorem PySem.W.Fast.tw6026137046716783760 : True := trivial
theorem PySem.W.Fast.tw1919659956674785447 : True := trivial
theorem PySem.W.Fast.tw5097744340387964926 : True := trivial
theorem PySem.W.Fast.tw7351870459635843388 : True := trivial
theorem PySem.W.Fast.tw17168873850075050142 : True := trivial
theorem PySem.W.Fast.tw9150443052567595680 : True := trivial
theorem PySem.W.Fast.tw1877014763533882765 : True := trivial
theorem PySem.W.Fast.tw9248483013486789909 : True := trivial
theorem PySem.W.Fast.tw6267819522856821067 : True := trivial
theorem PySem.W.Fast.tw14838112640168751911 : True := trivial
theorem PySem.W.Fast.tw14966605040412482757 : True := trivial
theorem PySem.W.Fast.tw13659816934167581019 : True := trivial
theorem PySem.W.Fast.tw11008799614219633448 : True := trivial
theorem PySem.W.Fast.tw2349475896586580910 : True := trivial
theorem PySem.W.Fast.tw11816600186103286621 : True := trivial
theorem PySem.W.Fast.tw13265065095504115079 : True := trivial
theorem PySem.W.Fast.tw97974486862978839 : True := trivial
theorem PySem.W.Fast.tw8597005742994895002 : True := trivial
theorem PySem.W.Fast.tw12635628181279602723 : True := trivial
theorem PySem.W.Fast.tw12099240891755753861 : True := trivial
theorem PySem.W.Fast.tw11639325204708851464 : True := trivial
theorem PySem.W.Fast.tw8225277202176152397 : True := trivial
theorem PySem.W.Fast.tw15652704689418811374 : True := trivial
theorem PySem.W.Fast.tw4747827584974305099 : True := trivial
theorem PySem.W.Fast.tw10510892300805451448 : True := trivial
theorem PySem.W.Fast.tw9990327489704915385 : True := trivial
theorem PySem.W.Fast.tw14097793178995581256 : True := trivial
theorem PySem.W.Fast.tw4239814456611913708 : True := trivial
theorem PySem.W.Fast.tw10625374320483894493 : True := trivial
theorem PySem.W.Fast.tw15642028203320886501 : True := trivial
theorem PySem.W.Fast.tw3433452798074133938 : True := trivial
theorem PySem.W.Fast.tw3275018294818756746 : True := trivial
theorem PySem.W.Fast.tw12852634856435920903 : True := trivial
theorem PySem.W.Fast.tw9619457151050007189 : True := trivial
theorem PySem.W.Fast.tw14266247440193966852 : True := trivial
theorem PySem.W.Fast.tw17968631436214614179 : True := trivial
theorem PySem.W.Fast.tw17225105040970188543 : True := trivial
theorem PySem.W.Fast.tw2109995552734529798 : True := trivial
theorem PySem.W.Fast.tw8176671108060008443 : True := trivial
theorem PySem.W.Fast.tw13930693013553841168 : True := trivial
theorem PySem.W.Fast.tw15099769536389665118 : True := trivial
theorem PySem.W.Fast.tw13020996900082506129 : True := trivial
theorem PySem.W.Fast.tw15984703793259646465 : True := trivial
theorem PySem.W.Fast.tw14471310796627997339 : True := trivial
theorem PySem.W.Fast.tw11371733073668731100 : True := trivial
theorem PySem.W.Fast.tw3214083275453752907 : True := trivial
theorem PySem.W.Fast.tw7281848174188665097 : True := trivial
theorem PySem.W.Fast.tw4245018311590501730 : True := trivial
theorem PySem.W.Fast.tw4267929635632960671 : True := trivial
theorem PySem.W.Fast.tw730299798108856107 : True := trivial
theorem PySem.W.Fast.tw819539504423752474 : True := trivial
theorem PySem.W.Fast.tw13734827292785103646 : True := trivial
theorem PySem.W.Fast.tw1567982680408255888 : True := trivial
theorem PySem.W.Fast.tw6959082771649691410 : True := trivial
theorem PySem.W.Fast.tw7540222664659858678 : True := trivial
theorem PySem.W.Fast.tw8346583625745479232 : True := trivial
theorem PySem.W.Fast.tw5906268350939427557 : True := trivial
theorem PySem.W.Fast.tw10158533978682942344 : True := trivial
theorem PySem.W.Fast.tw9598606644247482726 : True := trivial
theorem PySem.W.Fast.tw9331324183688469376 : True := trivial
theorem PySem.W.Fast.tw3953597792938388678 : True := trivial
theorem PySem.W.Fast.tw15888764238700763264 : True := trivial
theorem PySem.W.Fast.tw5537679577288657953 : True := trivial
theorem PySem.W.Fast.tw15059937281562115547 : True := trivial
theorem PySem.W.Fast.tw11729665214772027113 : True := trivial
theorem PySem.W.Fast.tw4163838192151694800 : True := trivial
theorem PySem.W.Fast.tw4233503030405114268 : True := trivial
theorem PySem.W.Fast.tw14699870272376527013 : True := trivial
theorem PySem.W.Fast.tw14945169802886765547 : True := trivial
theorem PySem.W.Fast.tw2953174309537099533 : True := trivial
theorem PySem.W.Fast.tw10188008928252181779 : True := trivial
theorem PySem.W.Fast.tw18405293304673459402 : True := trivial
theorem PySem.W.Fast.tw2194170457303045466 : True := trivial
theorem PySem.W.Fast.tw2722196662008867544 : True := trivial
theorem PySem.W.Fast.tw16042715810869353227 : True := trivial
theorem PySem.W.Fast.tw7581638405299087314 : True := trivial
theorem PySem.W.Fast.tw3567996773501283104 : True := trivial
theorem PySem.W.Fast.tw8796719417103525185 : True := trivial
theorem PySem.W.Fast.tw14357847884312096916 : True := trivial
theorem PySem.W.Fast.tw15348387204455402161 : True := trivial
theorem PySem.W.Fast.tw13908223998287037985 : True := trivial
theorem PySem.W.Fast.tw14158735218550558432 : True := trivial
theorem PySem.W.Fast.tw3991909208385650798 : True := trivial
theorem PySem.W.Fast.tw8235662747130447404 : True := trivial
theorem PySem.W.Fast.tw9339184444539524537 : True := trivial
theorem PySem.W.Fast.tw2106595637648835906 : True := trivial
theorem PySem.W.Fast.tw13943471107343636274 : True := trivial
theorem PySem.W.Fast.tw4073017830408586145 : True := trivial
theorem PySem.W.Fast.tw16223182405845064676 : True := trivial
theorem PySem.W.Fast.tw4040403208828610478 : True := trivial
theorem PySem.W.Fast.tw237314202657611937 : True := trivial
theorem PySem.W.Fast.tw12652400578879232976 : True := trivial
theorem PySem.W.Fast.tw15433134020871928288 : True := trivial
theorem PySem.W.Fast.tw12778555088595783739 : True := trivial
theorem PySem.W.Fast.tw16539758010825520239 : True := trivial
theorem PySem.W.Fast.tw281085841322552037 : True := trivial
theorem PySem.W.Fast.tw10459546726167033407 : True := trivial
theorem PySem.W.Fast.tw16345165609275766775 : True := trivial
theorem PySem.W.Fast.tw6044983222133995736 : True := trivial
theorem PySem.W.Fast.tw2987383266528053503 : True := trivial
theorem PySem.W.Fast.tw14183037972060028066 : True := trivial
theorem PySem.W.Fast.tw3100495871891762810 : True := trivial
theorem PySem.W.Fast.tw17239319637975300609 : True := trivial
theorem PySem.W.Fast.tw10487634759802166855 : True := trivial
theorem PySem.W.Fast.tw3408655009797309193 : True := trivial
theorem PySem.W.Fast.tw4873871073263020629 : True := trivial
theorem PySem.W.Fast.tw1158207216278479925 : True := trivial
theorem PySem.W.Fast.tw9319083218452813063 : True := trivial
theorem PySem.W.Fast.tw2905170286100533039 : True := trivial
theorem PySem.W.Fast.tw2830894962744300384 : True := trivial
theorem PySem.W.Fast.tw14646569948557022366 : True := trivial
theorem PySem.W.Fast.tw14619516863755436364 : True := trivial
theorem PySem.W.Fast.tw9000852194658387212 : True := trivial
theorem PySem.W.Fast.tw7582523619289378524 : True := trivial
theorem PySem.W.Fast.tw11539078894954583426 : True := trivial
theorem PySem.W.Fast.tw4107057744462098413 : True := trivial
theorem PySem.W.Fast.tw17311557094328320092 : True := trivial
theorem PySem.W.Fast.tw968162405987028576 : True := trivial
theorem PySem.W.Fast.tw1640680741621904949 : True := trivial
theorem PySem.W.Fast.tw5380329832045357673 : True := trivial
theorem PySem.W.Fast.tw3581476927097994200 : True := trivial
theorem PySem.W.Fast.tw3704367344476934744 : True := trivial
theorem PySem.W.Fast.tw3180368984060559082 : True := trivial
theorem PySem.W.Fast.tw4927423770739456056 : True := trivial
theorem PySem.W.Fast.tw7491076582086542809 : True := trivial
theorem PySem.W.Fast.tw245083192694459572 : True := trivial
theorem PySem.W.Fast.tw2980373398443756263 : True := trivial
theorem PySem.W.Fast.tw13208601973189743134 : True := trivial
theorem PySem.W.Fast.tw4974882031783057420 : True := trivial
theorem PySem.W.Fast.tw7634700709957503368 : True := trivial
theorem PySem.W.Fast.tw6841753495437906452 : True := trivial
theorem PySem.W.Fast.tw1720432826147248410 : True := trivial
theorem PySem.W.Fast.tw4115847958450793895 : True := trivial
theorem PySem.W.Fast.tw2139538410134163181 : True := trivial
theorem PySem.W.Fast.tw11850888767603986377 : True := trivial
theorem PySem.W.Fast.tw1949705228175476459 : True := trivial
theorem PySem.W.Fast.tw283015241837598875 : True := trivial
theorem PySem.W.Fast.tw14416243394039714722 : True := trivial
theorem PySem.W.Fast.tw16127935872296722376 : True := trivial
theorem PySem.W.Fast.tw6178256285708237872 : True := trivial
theorem PySem.W.Fast.tw7976948761924993936 : True := trivial
theorem PySem.W.Fast.tw16628937810394176990 : True := trivial
theorem PySem.W.Fast.tw6008223723760487204 : True := trivial
theorem PySem.W.Fast.tw3631621506458981842 : True := trivial
theorem PySem.W.Fast.tw17443528156628137289 : True := trivial
theorem PySem.W.Fast.tw2525020162718896899 : True := trivial
theorem PySem.W.Fast.tw1333764066674760015 : True := trivial
theorem PySem.W.Fast.tw7354643896946024554 : True := trivial
theorem PySem.W.Fast.tw86980460506159125 : True := trivial
theorem PySem.W.Fast.tw12716700619048704744 : True := trivial
theorem PySem.W.Fast.tw5068823975421148540 : True := trivial
theorem PySem.W.Fast.tw4939045066164598214 : True := trivial
theorem PySem.W.Fast.tw7394295577006765942 : True := trivial
theorem PySem.W.Fast.tw3291054760512194573 : True := trivial
theorem PySem.W.Fast.tw9552352812845657766 : True := trivial
theorem PySem.W.Fast.tw16955016226036881786 : True := trivial
theorem PySem.W.Fast.tw1315637643949814819 : True := trivial
theorem PySem.W.Fast.tw7694508365372037664 : True := trivial
theorem PySem.W.Fast.tw6675252212905602610 : True := trivial
theorem PySem.W.Fast.tw12227036543816087192 : True := trivial
theorem PySem.W.Fast.tw14019181865492766635 : True := trivial
theorem PySem.W.Fast.tw15936683069012555542 : True := trivial
theorem PySem.W.Fast.tw13178069448415064546 : True := trivial
theorem PySem.W.Fast.tw6590285169411676654 : True := trivial
theorem PySem.W.Fast.tw1463990662512294171 : True := trivial
theorem PySem.W.Fast.tw6906603033704868365 : True := trivial
theorem PySem.W.Fast.tw541430079420942026 : True := trivial
theorem PySem.W.Fast.tw6975618930956967103 : True := trivial
theorem PySem.W.Fast.tw16452728598330729987 : True := trivial
theorem PySem.W.Fast.tw8125585781633585744 : True := trivial
theorem PySem.W.Fast.tw8096938929144690141 : True := trivial
theorem PySem.W.Fast.tw6799153694658149365 : True := trivial
theorem PySem.W.Fast.tw18335638059857214638 : True := trivial
theorem PySem.W.Fast.tw1660919270133120251 : True := trivial
theorem PySem.W.Fast.tw15831879901528885452 : True := trivial
theorem PySem.W.Fast.tw4527635877346412165 : True := trivial
theorem PySem.W.Fast.tw8170823350389870269 : True := trivial
theorem PySem.W.Fast.tw10882460994200582796 : True := trivial
theorem PySem.W.Fast.tw824541737617442519 : True := trivial
theorem PySem.W.Fast.tw12217744749182628197 : True := trivial
theorem PySem.W.Fast.tw18001179985726257745 : True := trivial
theorem PySem.W.Fast.tw10940998324626063287 : True := trivial
theorem PySem.W.Fast.tw4986743384571191279 : True := trivial
theorem PySem.W.Fast.tw923061610700030048 : True := trivial
theorem PySem.W.Fast.tw14593291630100426152 : True := trivial
theorem PySem.W.Fast.tw6373702682084853555 : True := trivial
theorem PySem.W.Fast.tw17884786673147169203 : True := trivial
theorem PySem.W.Fast.tw14730384041162991077 : True := trivial
theorem PySem.W.Fast.tw5592751772063447492 : True := trivial
theorem PySem.W.Fast.tw12681470873110469714 : True := trivial
theorem PySem.W.Fast.tw13324929313244498593 : True := trivial
theorem PySem.W.Fast.tw11252688272720477029 : True := trivial
theorem PySem.W.Fast.tw1644414748192456999 : True := trivial
theorem PySem.W.Fast.tw11934742793366975632 : True := trivial
theorem PySem.W.Fast.tw12457049086392101391 : True := trivial
theorem PySem.W.Fast.tw12890922960769987344 : True := trivial
theorem PySem.W.Fast.tw8674960786602618998 : True := trivial
theorem PySem.W.Fast.tw7328495392714524330 : True := trivial
theorem PySem.W.Fast.tw14460419182104635432 : True := trivial
theorem PySem.W.Fast.tw16550287087607691926 : True := trivial
theorem PySem.W.Fast.tw7621939877203227510 : True := trivial
theorem PySem.W.Fast.tw16982686487861922189 : True := trivial
theorem PySem.W.Fast.tw10262109084200190260 : True := trivial
theorem PySem.W.Fast.tw7134600895773042176 : True := trivial
theorem PySem.W.Fast.tw1792665013203784851 : True := trivial
theorem PySem.W.Fast.tw7723924685296890118 : True := trivial
theorem PySem.W.Fast.tw16465564803189330738 : True := trivial
theorem PySem.W.Fast.tw18339042196892834216 : True := trivial
theorem PySem.W.Fast.tw979221818997951763 : True := trivial
theorem PySem.W.Fast.tw8212173789310574883 : True := trivial
theorem PySem.W.Fast.tw4717756077012718824 : True := trivial
theorem PySem.W.Fast.tw1108654941291385124 : True := trivial
theorem PySem.W.Fast.tw17757820272470047694 : True := trivial
theorem PySem.W.Fast.tw13682927128652045415 : True := trivial
theorem PySem.W.Fast.tw952193058107805337 : True := trivial
theorem PySem.W.Fast.tw5917066108430802779 : True := trivial
theorem PySem.W.Fast.tw8432338856396654938 : True := trivial
theorem PySem.W.Fast.tw7905161334298399237 : True := trivial
theorem PySem.W.Fast.tw7184584491511796611 : True := trivial
theorem PySem.W.Fast.tw7524428571045381275 : True := trivial
theorem PySem.W.Fast.tw1572023950881291313 : True := trivial
theorem PySem.W.Fast.tw14686716943991083454 : True := trivial
theorem PySem.W.Fast.tw14949925878884296739 : True := trivial
theorem PySem.W.Fast.tw4691169429120028011 : True := trivial
theorem PySem.W.Fast.tw12812778226705011652 : True := trivial
theorem PySem.W.Fast.tw4912292487714095353 : True := trivial
theorem PySem.W.Fast.tw14490248262228090032 : True := trivial
theorem PySem.W.Fast.tw12150157213623970653 : True := trivial
theorem PySem.W.Fast.tw4352742567052897009 : True := trivial
theorem PySem.W.Fast.tw2100083594945099967 : True := trivial
theorem PySem.W.Fast.tw2754314719564064666 : True := trivial
theorem PySem.W.Fast.tw17724005181948080080 : True := trivial
theorem PySem.W.Fast.tw5609726384291800215 : True := trivial
theorem PySem.W.Fast.tw8067791699817471751 : True := trivial
theorem PySem.W.Fast.tw2727275697095850177 : True := trivial
theorem PySem.W.Fast.tw11152244560302929130 : True := trivial
theorem PySem.W.Fast.tw7235348904498634635 : True := trivial
theorem PySem.W.Fast.tw3624251164571006890 : True := trivial
theorem PySem.W.Fast.tw11861359173186429188 : True := trivial
theorem PySem.W.Fast.tw17906473967467080493 : True := trivial
theorem PySem.W.Fast.tw848017723999890024 : True := trivial
theorem PySem.W.Fast.tw3019832332745313596 : True := trivial
theorem PySem.W.Fast.tw10549934024576344908 : True := trivial
theorem PySem.W.Fast.tw9300568117848915069 : True := trivial
theorem PySem.W.Fast.tw18152289024186305403 : True := trivial
theorem PySem.W.Fast.tw1518085081973624373 : True := trivial
theorem PySem.W.Fast.tw9874709989273097279 : True := trivial
theorem PySem.W.Fast.tw8595506165253748713 : True := trivial
theorem PySem.W.Fast.tw3527722489297182735 : True := trivial
theorem PySem.W.Fast.tw15451786752790509720 : True := trivial
theorem PySem.W.Fast.tw10680128686581757576 : True := trivial
theorem PySem.W.Fast.tw9463223026890688365 : True := trivial
theorem PySem.W.Fast.tw9655674877844650564 : True := trivial
theorem PySem.W.Fast.tw17470846728638697379 : True := trivial
theorem PySem.W.Fast.tw1877128827414311016 : True := trivial
theorem PySem.W.Fast.tw10025500641895785418 : True := trivial
theorem PySem.W.Fast.tw11934367888540015651 : True := trivial
theorem PySem.W.Fast.tw4105216331304191713 : True := trivial
theorem PySem.W.Fast.tw10285254113482517367 : True := trivial
theorem PySem.W.Fast.tw9184992685142710740 : True := trivial
theorem PySem.W.Fast.tw7344619729316070846 : True := trivial
theorem PySem.W.Fast.tw2274882836887047057 : True := trivial
theorem PySem.W.Fast.tw16221297802671224627 : True := trivial
theorem PySem.W.Fast.tw5834832540468755354 : True := trivial
theorem PySem.W.Fast.tw4255585306857968578 : True := trivial
theorem PySem.W.Fast.tw16479553337758773177 : True := trivial
theorem PySem.W.Fast.tw11456407240543560742 : True := trivial
theorem PySem.W.Fast.tw7552765916442810505 : True := trivial
theorem PySem.W.Fast.tw8710805026902709888 : True := trivial
theorem PySem.W.Fast.tw14734698215194763426 : True := trivial
theorem PySem.W.Fast.tw18420859596236053919 : True := trivial
theorem PySem.W.Fast.tw4662299130018337999 : True := trivial
theorem PySem.W.Fast.tw17149671404480130525 : True := trivial
theorem PySem.W.Fast.tw5253274480462009504 : True := trivial
theorem PySem.W.Fast.tw4922185376465535972 : True := trivial
theorem PySem.W.Fast.tw10233259033375871788 : True := trivial
theorem PySem.W.Fast.tw8378571594083790304 : True := trivial
theorem PySem.W.Fast.tw9161757712603128988 : True := trivial
theorem PySem.W.Fast.tw9839646762238047624 : True := trivial
theorem PySem.W.Fast.tw1432641939991052889 : True := trivial
theorem PySem.W.Fast.tw9141815745617292860 : True := trivial
theorem PySem.W.Fast.tw16467101420913772794 : True := trivial
theorem PySem.W.Fast.tw15325571897363481656 : True := trivial
theorem PySem.W.Fast.tw9795435593495468296 : True := trivial
theorem PySem.W.Fast.tw6214835201165763360 : True := trivial
theorem PySem.W.Fast.tw912040955807495910 : True := trivial
theorem PySem.W.Fast.tw7870137113578477047 : True := trivial
theorem PySem.W.Fast.tw9144633238374627579 : True := trivial
theorem PySem.W.Fast.tw13684479479623895021 : True := trivial
theorem PySem.W.Fast.tw14153613408321462593 : True := trivial
theorem PySem.W.Fast.tw9917618591220005824 : True := trivial
theorem PySem.W.Fast.tw6582680250188574131 : True := trivial
theorem PySem.W.Fast.tw11827419385937328077 : True := trivial
theorem PySem.W.Fast.tw3923489435700222078 : True := trivial
theorem PySem.W.Fast.tw8780260031396015110 : True := trivial
theorem PySem.W.Fast.tw4711644282680291456 : True := trivial
theorem PySem.W.Fast.tw10642866080817156959 : True := trivial
theorem PySem.W.Fast.tw10936415042558351424 : True := trivial
theorem PySem.W.Fast.tw10404770011747543324 : True := trivial
theorem PySem.W.Fast.tw15853157796391103365 : True := trivial
theorem PySem.W.Fast.tw8967957123159941493 : True := trivial
theorem PySem.W.Fast.tw11592633507931887464 : True := trivial
theorem PySem.W.Fast.tw1385010651551545973 : True := trivial
theorem PySem.W.Fast.tw12389830484817806475 : True := trivial
theorem PySem.W.Fast.tw355777294510298056 : True := trivial
theorem PySem.W.Fast.tw9062188174403148541 : True := trivial
theorem PySem.W.Fast.tw14655122962474635327 : True := trivial
theorem PySem.W.Fast.tw1815011939571319761 : True := trivial
theorem PySem.W.Fast.tw5627974928718248394 : True := trivial
theorem PySem.W.Fast.tw3034624510488761252 : True := trivial
theorem PySem.W.Fast.tw6406530829138288365 : True := trivial
theorem PySem.W.Fast.tw16773714368288966805 : True := trivial
theorem PySem.W.Fast.tw15020987889115563124 : True := trivial
theorem PySem.W.Fast.tw2799281343304961761 : True := trivial
theorem PySem.W.Fast.tw3417421212296080740 : True := trivial
theorem PySem.W.Fast.tw15436258770723097073 : True := trivial
theorem PySem.W.Fast.tw17159322093721448419 : True := trivial
theorem PySem.W.Fast.tw1802775129757303538 : True := trivial
theorem PySem.W.Fast.tw2707678735961260509 : True := trivial
theorem PySem.W.Fast.tw14408714916867634245 : True := trivial
theorem PySem.W.Fast.tw2432312823694958008 : True := trivial
theorem PySem.W.Fast.tw9500680986169834357 : True := trivial
theorem PySem.W.Fast.tw8925587565476239128 : True := trivial
theorem PySem.W.Fast.tw17257283474474780484 : True := trivial
theorem PySem.W.Fast.tw6953528280371653239 : True := trivial
theorem PySem.W.Fast.tw108114871558958703 : True := trivial
theorem PySem.W.Fast.tw14400869565057792316 : True := trivial
theorem PySem.W.Fast.tw17200586714719967842 : True := trivial
theorem PySem.W.Fast.tw7679033194221714554 : True := trivial
theorem PySem.W.Fast.tw8147577046466504660 : True := trivial
theorem PySem.W.Fast.tw16881868424401400423 : True := trivial
theorem PySem.W.Fast.tw10680639181071713007 : True := trivial
theorem PySem.W.Fast.tw11569032160471521685 : True := trivial
theorem PySem.W.Fast.tw11025398365458654772 : True := trivial
theorem PySem.W.Fast.tw6670480074711525510 : True := trivial
theorem PySem.W.Fast.tw17181774491400821290 : True := trivial
theorem PySem.W.Fast.tw12431084412636485061 : True := trivial
theorem PySem.W.Fast.tw9335783505629972993 : True := trivial
theorem PySem.W.Fast.tw4907794259026940195 : True := trivial
theorem PySem.W.Fast.tw15955242213086324166 : True := trivial
theorem PySem.W.Fast.tw7963785351010780245 : True := trivial
theorem PySem.W.Fast.tw7744205694172881600 : True := trivial
theorem PySem.W.Fast.tw15065158141066677656 : True := trivial
theorem PySem.W.Fast.tw9984682377685503291 : True := trivial
theorem PySem.W.Fast.tw16548885011219113195 : True := trivial
theorem PySem.W.Fast.tw14809071150650055053 : True := trivial
theorem PySem.W.Fast.tw7927261501924677680 : True := trivial
theorem PySem.W.Fast.tw5171726929290746996 : True := trivial
theorem PySem.W.Fast.tw17095299601542768623 : True := trivial
theorem PySem.W.Fast.tw6507534312682483109 : True := trivial
theorem PySem.W.Fast.tw591995153247749647 : True := trivial
theorem PySem.W.Fast.tw6160488088798770471 : True := trivial
theorem PySem.W.Fast.tw70293928205427832 : True := trivial
theorem PySem.W.Fast.tw14658953609857422479 : True := trivial
theorem PySem.W.Fast.tw1786438341071918245 : True := trivial
theorem PySem.W.Fast.tw3546513990450940963 : True := trivial
theorem PySem.W.Fast.tw14276871705498923409 : True := trivial
theorem PySem.W.Fast.tw8131133610263283272 : True := trivial
theorem PySem.W.Fast.tw8815159968499323752 : True := trivial
theorem PySem.W.Fast.tw17107332432398329467 : True := trivial
theorem PySem.W.Fast.tw16965637247797036492 : True := trivial
theorem PySem.W.Fast.tw4844609632613771705 : True := trivial
theorem PySem.W.Fast.tw13382862907886177362 : True := trivial
theorem PySem.W.Fast.tw11396488248522946942 : True := trivial
theorem PySem.W.Fast.tw17101365536747226952 : True := trivial
theorem PySem.W.Fast.tw16481822729070428850 : True := trivial
theorem PySem.W.Fast.tw4372748073930689966 : True := trivial
theorem PySem.W.Fast.tw8448123478878197011 : True := trivial
theorem PySem.W.Fast.tw6295796339554985096 : True := trivial
theorem PySem.W.Fast.tw13897087099397973619 : True := trivial
theorem PySem.W.Fast.tw17651048911271722578 : True := trivial
theorem PySem.W.Fast.tw387489302614772570 : True := trivial
theorem PySem.W.Fast.tw1629989374510127657 : True := trivial
theorem PySem.W.Fast.tw3975478778526004141 : True := trivial
theorem PySem.W.Fast.tw739876136166905140 : True := trivial
theorem PySem.W.Fast.tw3205591717806569783 : True := trivial
theorem PySem.W.Fast.tw7342388778200962976 : True := trivial
theorem PySem.W.Fast.tw15776242025314349080 : True := trivial
theorem PySem.W.Fast.tw13474375521151288749 : True := trivial
theorem PySem.W.Fast.tw13419358995633304743 : True := trivial
theorem PySem.W.Fast.tw7716643671219746872 : True := trivial
theorem PySem.W.Fast.tw4118887235150291564 : True := trivial
theorem PySem.W.Fast.tw8913839625972339793 : True := trivial
theorem PySem.W.Fast.tw9168978137058018472 : True := trivial
theorem PySem.W.Fast.tw104818447407468905 : True := trivial
theorem PySem.W.Fast.tw16695565261059314733 : True := trivial
theorem PySem.W.Fast.tw16618919447404041450 : True := trivial
theorem PySem.W.Fast.tw15661727561647970785 : True := trivial
theorem PySem.W.Fast.tw10216113452753744737 : True := trivial
theorem PySem.W.Fast.tw3732551987223211419 : True := trivial
theorem PySem.W.Fast.tw3969680788637497190 : True := trivial
theorem PySem.W.Fast.tw12799050531205784961 : True := trivial
theorem PySem.W.Fast.tw5360431205520836666 : True := trivial
theorem PySem.W.Fast.tw9273245470088802146 : True := trivial
theorem PySem.W.Fast.tw2465836218856216696 : True := trivial
theorem PySem.W.Fast.tw7115734318527268100 : True := trivial
theorem PySem.W.Fast.tw17501882240882854171 : True := trivial
theorem PySem.W.Fast.tw2382808919475848394 : True := trivial
theorem PySem.W.Fast.tw165476056388781197 : True := trivial
theorem PySem.W.Fast.tw11101507063839273710 : True := trivial
theorem PySem.W.Fast.tw8191224647784111143 : True := trivial
theorem PySem.W.Fast.tw12596346904221414133 : True := trivial
theorem PySem.W.Fast.tw15897179111561137577 : True := trivial
theorem PySem.W.Fast.tw367526852391390232 : True := trivial
theorem PySem.W.Fast.tw1722313568524596564 : True := trivial
theorem PySem.W.Fast.tw5887526682240247007 : True := trivial
theorem PySem.W.Fast.tw5115706039244309395 : True := trivial
theorem PySem.W.Fast.tw5883774229575434988 : True := trivial
theorem PySem.W.Fast.tw10651848322250139105 : True := trivial
theorem PySem.W.Fast.tw5838949206338834114 : True := trivial
theorem PySem.W.Fast.tw12012610704937146831 : True := trivial
theorem PySem.W.Fast.tw17403902203971581737 : True := trivial
theorem PySem.W.Fast.tw5973876582891758863 : True := trivial
theorem PySem.W.Fast.tw5990162675490020488 : True := trivial
theorem PySem.W.Fast.tw287667031661438572 : True := trivial
theorem PySem.W.Fast.tw2079809891070961297 : True := trivial
theorem PySem.W.Fast.tw10717840314181041519 : True := trivial
theorem PySem.W.Fast.tw6700722637025375024 : True := trivial
theorem PySem.W.Fast.tw10842590803278021209 : True := trivial
theorem PySem.W.Fast.tw13785399564160465722 : True := trivial
theorem PySem.W.Fast.tw2926017813405941412 : True := trivial
theorem PySem.W.Fast.tw137203325306180495 : True := trivial
theorem PySem.W.Fast.tw11468205922031274368 : True := trivial
theorem PySem.W.Fast.tw16078876552067854881 : True := trivial
theorem PySem.W.Fast.tw16923653538699202561 : True := trivial
theorem PySem.W.Fast.tw1175180584590412180 : True := trivial
theorem PySem.W.Fast.tw4839876143817975465 : True := trivial
theorem PySem.W.Fast.tw7276674586541153456 : True := trivial
theorem PySem.W.Fast.tw5917859907731080404 : True := trivial
theorem PySem.W.Fast.tw89513470185540761 : True := trivial
theorem PySem.W.Fast.tw4928891641299538848 : True := trivial
theorem PySem.W.Fast.tw10657810847141206427 : True := trivial
theorem PySem.W.Fast.tw14628432134699259281 : True := trivial
theorem PySem.W.Fast.tw14837708791560474621 : True := trivial
theorem PySem.W.Fast.tw9823478643339072386 : True := trivial
theorem PySem.W.Fast.tw1287875752265280862 : True := trivial
theorem PySem.W.Fast.tw3742723120742246722 : True := trivial
theorem PySem.W.Fast.tw15490115353793119791 : True := trivial
theorem PySem.W.Fast.tw6386420380568571082 : True := trivial
theorem PySem.W.Fast.tw668629801262227851 : True := trivial
theorem PySem.W.Fast.tw8969232060736047052 : True := trivial
theorem PySem.W.Fast.tw7638670404707567073 : True := trivial
theorem PySem.W.Fast.tw15312626946338664904 : True := trivial
theorem PySem.W.Fast.tw12014964140919009149 : True := trivial
theorem PySem.W.Fast.tw5879791349713812868 : True := trivial
theorem PySem.W.Fast.tw7905700960542295845 : True := trivial
theorem PySem.W.Fast.tw11265042838789123282 : True := trivial
theorem PySem.W.Fast.tw752710204119199203 : True := trivial
theorem PySem.W.Fast.tw11966310372869553415 : True := trivial
theorem PySem.W.Fast.tw12632070677231162527 : True := trivial
theorem PySem.W.Fast.tw8452671832509672332 : True := trivial
theorem PySem.W.Fast.tw4226390435017863504 : True := trivial
theorem PySem.W.Fast.tw3226726015573268259 : True := trivial
theorem PySem.W.Fast.tw3865462182228848468 : True := trivial
theorem PySem.W.Fast.tw18340757599751754818 : True := trivial
theorem PySem.W.Fast.tw6255122703440428194 : True := trivial
theorem PySem.W.Fast.tw10936421824035157358 : True := trivial
theorem PySem.W.Fast.tw17107918772256688294 : True := trivial
theorem PySem.W.Fast.tw5020222905531564343 : True := trivial
theorem PySem.W.Fast.tw17528623935146352974 : True := trivial
theorem PySem.W.Fast.tw6506768602042122942 : True := trivial
theorem PySem.W.Fast.tw3022799353652722430 : True := trivial
theorem PySem.W.Fast.tw275787933843725390 : True := trivial
theorem PySem.W.Fast.tw6914457554175366187 : True := trivial
theorem PySem.W.Fast.tw6165530426730585643 : True := trivial
theorem PySem.W.Fast.tw13548210545954464295 : True := trivial
theorem PySem.W.Fast.tw9878481124116945467 : True := trivial
theorem PySem.W.Fast.tw3088154320165863164 : True := trivial
theorem PySem.W.Fast.tw7810092553213024417 : True := trivial
theorem PySem.W.Fast.tw5746792793698746612 : True := trivial
theorem PySem.W.Fast.tw9818640288386903991 : True := trivial
theorem PySem.W.Fast.tw4652733303132351229 : True := trivial
theorem PySem.W.Fast.tw8315956970247353506 : True := trivial
theorem PySem.W.Fast.tw1859219913285557432 : True := trivial
theorem PySem.W.Fast.tw5923633696943904613 : True := trivial
theorem PySem.W.Fast.tw8665479238289010496 : True := trivial
theorem PySem.W.Fast.tw7122976217228718517 : True := trivial
theorem PySem.W.Fast.tw8886505539240372257 : True := trivial
theorem PySem.W.Fast.tw18388443146832687866 : True := trivial
theorem PySem.W.Fast.tw9624899274834773531 : True := trivial
theorem PySem.W.Fast.tw8853913806893534725 : True := trivial
theorem PySem.W.Fast.tw14608019907211166090 : True := trivial
theorem PySem.W.Fast.tw12040779214405474530 : True := trivial
theorem PySem.W.Fast.tw11848882848720028531 : True := trivial
theorem PySem.W.Fast.tw13021361751377097539 : True := trivial
theorem PySem.W.Fast.tw18071592407633882842 : True := trivial
theorem PySem.W.Fast.tw17095936209447615724 : True := trivial
theorem PySem.W.Fast.tw5119296768412025046 : True := trivial
theorem PySem.W.Fast.tw13629778815957961188 : True := trivial
theorem PySem.W.Fast.tw3178689270368268426 : True := trivial
theorem PySem.W.Fast.tw2756331287134467353 : True := trivial
theorem PySem.W.Fast.tw2918543403856423393 : True := trivial
theorem PySem.W.Fast.tw9723147486740631306 : True := trivial
theorem PySem.W.Fast.tw16235288385821827207 : True := trivial
theorem PySem.W.Fast.tw12136385873826544248 : True := trivial
theorem PySem.W.Fast.tw17665481530906444798 : True := trivial
theorem PySem.W.Fast.tw5495524654761146558 : True := trivial
theorem PySem.W.Fast.tw6681273770568678038 : True := trivial
theorem PySem.W.Fast.tw14827228955743501896 : True := trivial
theorem PySem.W.Fast.tw2261830852984548172 : True := trivial
theorem PySem.W.Fast.tw8046588266567053159 : True := trivial
theorem PySem.W.Fast.tw17351220408642634600 : True := trivial
theorem PySem.W.Fast.tw736016069136939853 : True := trivial
theorem PySem.W.Fast.tw8733659527669084155 : True := trivial
theorem PySem.W.Fast.tw2466961597507018734 : True := trivial
theorem PySem.W.Fast.tw3841837067009536503 : True := trivial
theorem PySem.W.Fast.tw4793741552277475489 : True := trivial
theorem PySem.W.Fast.tw108391674883730871 : True := trivial
theorem PySem.W.Fast.tw12078117506518444576 : True := trivial
theorem PySem.W.Fast.tw16529873998332461108 : True := trivial
theorem PySem.W.Fast.tw171199638665135761 : True := trivial
theorem PySem.W.Fast.tw7881920316746980486 : True := trivial
theorem PySem.W.Fast.tw16992491926966008908 : True := trivial
theorem PySem.W.Fast.tw15072313684050088174 : True := trivial
theorem PySem.W.Fast.tw17799540105587264333 : True := trivial
theorem PySem.W.Fast.tw10878030984249319687 : True := trivial
theorem PySem.W.Fast.tw3710960125394557042 : True := trivial
theorem PySem.W.Fast.tw6738788702858737162 : True := trivial
theorem PySem.W.Fast.tw16948108834469902432 : True := trivial
theorem PySem.W.Fast.tw1214007344970364166 : True := trivial
theorem PySem.W.Fast.tw6377195191318157473 : True := trivial
theorem PySem.W.Fast.tw5358362679011564019 : True := trivial
theorem PySem.W.Fast.tw970520208377689282 : True := trivial
theorem PySem.W.Fast.tw17279323174367895957 : True := trivial
theorem PySem.W.Fast.tw12013576982797727116 : True := trivial
theorem PySem.W.Fast.tw14236958095378074125 : True := trivial
theorem PySem.W.Fast.tw5369324810391977995 : True := trivial
theorem PySem.W.Fast.tw12880967681720702179 : True := trivial
theorem PySem.W.Fast.tw6253895629841421740 : True := trivial
theorem PySem.W.Fast.tw3719412555675529734 : True := trivial
theorem PySem.W.Fast.tw871607754469946757 : True := trivial
theorem PySem.W.Fast.tw8815659196544935790 : True := trivial
theorem PySem.W.Fast.tw1045487541151213841 : True := trivial
theorem PySem.W.Fast.tw9436794619479020618 : True := trivial
theorem PySem.W.Fast.tw18277371343911560337 : True := trivial
theorem PySem.W.Fast.tw16735463507882388120 : True := trivial
theorem PySem.W.Fast.tw8386813249390980030 : True := trivial
theorem PySem.W.Fast.tw9783644023147225520 : True := trivial
theorem PySem.W.Fast.tw3504616540606412328 : True := trivial
theorem PySem.W.Fast.tw12787671715727973003 : True := trivial
theorem PySem.W.Fast.tw9782121211003772869 : True := trivial
theorem PySem.W.Fast.tw3268643939233987746 : True := trivial
theorem PySem.W.Fast.tw18051972930441006442 : True := trivial
theorem PySem.W.Fast.tw5411586000430530239 : True := trivial
theorem PySem.W.Fast.tw16689212262519363192 : True := trivial
theorem PySem.W.Fast.tw5870354817005697185 : True := trivial
theorem PySem.W.Fast.tw9612485793605643924 : True := trivial
theorem PySem.W.Fast.tw11012728388682268530 : True := trivial
theorem PySem.W.Fast.tw8413187748462877427 : True := trivial
theorem PySem.W.Fast.tw2851586171589305745 : True := trivial
theorem PySem.W.Fast.tw15496799390737402530 : True := trivial
theorem PySem.W.Fast.tw2726211806888988865 : True := trivial
theorem PySem.W.Fast.tw17531595497593928898 : True := trivial
theorem PySem.W.Fast.tw6678510476721676045 : True := trivial
theorem PySem.W.Fast.tw13912862666592440445 : True := trivial
theorem PySem.W.Fast.tw9144876161860297303 : True := trivial
theorem PySem.W.Fast.tw17141324536274124096 : True := trivial
theorem PySem.W.Fast.tw17410404889682509291 : True := trivial
theorem PySem.W.Fast.tw16883382873096529114 : True := trivial
theorem PySem.W.Fast.tw4267093982199244168 : True := trivial
theorem PySem.W.Fast.tw1005005706007873217 : True := trivial
theorem PySem.W.Fast.tw7560481837431362799 : True := trivial
theorem PySem.W.Fast.tw9030746239169982382 : True := trivial
theorem PySem.W.Fast.tw2887053364470905675 : True := trivial
theorem PySem.W.Fast.tw2414955678783717387 : True := trivial
theorem PySem.W.Fast.tw4375724687049324711 : True := trivial
theorem PySem.W.Fast.tw2978077726295730409 : True := trivial
theorem PySem.W.Fast.tw3395113261992101948 : True := trivial
theorem PySem.W.Fast.tw6269031656402534907 : True := trivial
theorem PySem.W.Fast.tw9900318923611415240 : True := trivial
theorem PySem.W.Fast.tw4103166817725734332 : True := trivial
theorem PySem.W.Fast.tw7141974867281026010 : True := trivial
theorem PySem.W.Fast.tw10441611795152466171 : True := trivial
theorem PySem.W.Fast.tw3528413569554952924 : True := trivial
theorem PySem.W.Fast.tw13805619004801335899 : True := trivial
theorem PySem.W.Fast.tw6076279945277244904 : True := trivial
theorem PySem.W.Fast.tw5161729703849300 : True := trivial
theorem PySem.W.Fast.tw12188185671817915259 : True := trivial
theorem PySem.W.Fast.tw10471164855686115732 : True := trivial
theorem PySem.W.Fast.tw6049111613147164532 : True := trivial
theorem PySem.W.Fast.tw14654208624735351073 : True := trivial
theorem PySem.W.Fast.tw9582676906966386941 : True := trivial
theorem PySem.W.Fast.tw11065064633060006385 : True := trivial
theorem PySem.W.Fast.tw17000745751817382203 : True := trivial
theorem PySem.W.Fast.tw15627323593549067875 : True := trivial
theorem PySem.W.Fast.tw15454909383247366240 : True := trivial
theorem PySem.W.Fast.tw8116579848278679413 : True := trivial
theorem PySem.W.Fast.tw6883997554677313877 : True := trivial
theorem PySem.W.Fast.tw16918809645105878219 : True := trivial
theorem PySem.W.Fast.tw3902827813518536741 : True := trivial
theorem PySem.W.Fast.tw5734288577934911534 : True := trivial
theorem PySem.W.Fast.tw8454126318283140385 : True := trivial
theorem PySem.W.Fast.tw4287218561878360916 : True := trivial
theorem PySem.W.Fast.tw14321516922658375062 : True := trivial
theorem PySem.W.Fast.tw17483109474331066137 : True := trivial
theorem PySem.W.Fast.tw12379143468136090406 : True := trivial
theorem PySem.W.Fast.tw852118224623167280 : True := trivial
theorem PySem.W.Fast.tw979299163059297202 : True := trivial
theorem PySem.W.Fast.tw8075837993529709433 : True := trivial
theorem PySem.W.Fast.tw1243410361270944271 : True := trivial
theorem PySem.W.Fast.tw12329000512348268421 : True := trivial
theorem PySem.W.Fast.tw18078348683834237879 : True := trivial
theorem PySem.W.Fast.tw592796655634243817 : True := trivial
theorem PySem.W.Fast.tw14048064120336104943 : True := trivial
theorem PySem.W.Fast.tw15538924090810605010 : True := trivial
theorem PySem.W.Fast.tw10875606565266484512 : True := trivial
theorem PySem.W.Fast.tw18239023546908189926 : True := trivial
theorem PySem.W.Fast.tw14973227792922950456 : True := trivial
theorem PySem.W.Fast.tw8946902944090839241 : True := trivial
theorem PySem.W.Fast.tw12710444891501112412 : True := trivial
theorem PySem.W.Fast.tw13541654913513762542 : True := trivial
theorem PySem.W.Fast.tw14034467783748792871 : True := trivial
theorem PySem.W.Fast.tw8162511307969234246 : True := trivial
theorem PySem.W.Fast.tw9081684310369866377 : True := trivial
theorem PySem.W.Fast.tw18310990883035287789 : True := trivial
theorem PySem.W.Fast.tw7222231302737728065 : True := trivial
theorem PySem.W.Fast.tw15888213508653049242 : True := trivial
theorem PySem.W.Fast.tw6090388466769322995 : True := trivial
theorem PySem.W.Fast.tw7648357126364236719 : True := trivial
theorem PySem.W.Fast.tw10274898090976110188 : True := trivial
theorem PySem.W.Fast.tw5931535658585960923 : True := trivial
theorem PySem.W.Fast.tw4079289955841480018 : True := trivial
theorem PySem.W.Fast.tw9188235858679892749 : True := trivial
theorem PySem.W.Fast.tw9387297672313045406 : True := trivial
theorem PySem.W.Fast.tw11913308182664721152 : True := trivial
theorem PySem.W.Fast.tw11267127799543903613 : True := trivial
theorem PySem.W.Fast.tw9929540633992157474 : True := trivial
theorem PySem.W.Fast.tw7073593637914008441 : True := trivial
theorem PySem.W.Fast.tw1389877339224163777 : True := trivial
theorem PySem.W.Fast.tw12643402072138205229 : True := trivial
theorem PySem.W.Fast.tw17921097487840509603 : True := trivial
theorem PySem.W.Fast.tw11130353744221252640 : True := trivial
theorem PySem.W.Fast.tw10360352647612366794 : True := trivial
theorem PySem.W.Fast.tw11253507611149030124 : True := trivial
theorem PySem.W.Fast.tw10732449756016895881 : True := trivial
theorem PySem.W.Fast.tw17067217300194687764 : True := trivial
theorem PySem.W.Fast.tw4923037414475631688 : True := trivial
theorem PySem.W.Fast.tw4381146312041668820 : True := trivial
theorem PySem.W.Fast.tw9668538206756462766 : True := trivial
theorem PySem.W.Fast.tw15972565363138870380 : True := trivial
theorem PySem.W.Fast.tw10821025071799406228 : True := trivial
theorem PySem.W.Fast.tw16893453014839975312 : True := trivial
theorem PySem.W.Fast.tw16144170896356113468 : True := trivial
theorem PySem.W.Fast.tw1852609529148406966 : True := trivial
theorem PySem.W.Fast.tw1895737052096364586 : True := trivial
theorem PySem.W.Fast.tw3592847404134221406 : True := trivial
theorem PySem.W.Fast.tw12754766305796174549 : True := trivial
theorem PySem.W.Fast.tw14547884131980886160 : True := trivial
theorem PySem.W.Fast.tw12492745415871517834 : True := trivial
theorem PySem.W.Fast.tw5969473718968750763 : True := trivial
theorem PySem.W.Fast.tw8862970082569527215 : True := trivial
theorem PySem.W.Fast.tw14328656612738150608 : True := trivial
theorem PySem.W.Fast.tw14532702112653574043 : True := trivial
theorem PySem.W.Fast.tw17768662229578334387 : True := trivial
theorem PySem.W.Fast.tw11480799482972882654 : True := trivial
theorem PySem.W.Fast.tw15982683250780307916 : True := trivial
theorem PySem.W.Fast.tw4405816808962112853 : True := trivial
theorem PySem.W.Fast.tw10322074134568981628 : True := trivial
theorem PySem.W.Fast.tw2342323203665707154 : True := trivial
theorem PySem.W.Fast.tw13207233581246145392 : True := trivial
theorem PySem.W.Fast.tw14686893082545259737 : True := trivial
theorem PySem.W.Fast.tw8814483144778140900 : True := trivial
theorem PySem.W.Fast.tw17823235602036024079 : True := trivial
theorem PySem.W.Fast.tw12654628117250247788 : True := trivial
theorem PySem.W.Fast.tw12972647435967790347 : True := trivial
theorem PySem.W.Fast.tw14355483968756386925 : True := trivial
theorem PySem.W.Fast.tw12851031743144428144 : True := trivial
theorem PySem.W.Fast.tw10307577212006605398 : True := trivial
theorem PySem.W.Fast.tw7724249290267881387 : True := trivial
theorem PySem.W.Fast.tw301374680892042027 : True := trivial
theorem PySem.W.Fast.tw5632538542623999511 : True := trivial
theorem PySem.W.Fast.tw1559068518452853191 : True := trivial
theorem PySem.W.Fast.tw7119173867108638130 : True := trivial
theorem PySem.W.Fast.tw581940014397025668 : True := trivial
theorem PySem.W.Fast.tw7192542494719486412 : True := trivial
theorem PySem.W.Fast.tw3404238343298889969 : True := trivial
theorem PySem.W.Fast.tw4659812590358854992 : True := trivial
theorem PySem.W.Fast.tw13209129483029304914 : True := trivial
theorem PySem.W.Fast.tw12346578496907731724 : True := trivial
theorem PySem.W.Fast.tw6527837697796081010 : True := trivial
theorem PySem.W.Fast.tw14486213194926216402 : True := trivial
theorem PySem.W.Fast.tw14364713664088611369 : True := trivial
theorem PySem.W.Fast.tw1211263142999905789 : True := trivial
theorem PySem.W.Fast.tw11972873036671967102 : True := trivial
theorem PySem.W.Fast.tw13578024888136259272 : True := trivial
theorem PySem.W.Fast.tw4883824100225834652 : True := trivial
theorem PySem.W.Fast.tw3472230504417163964 : True := trivial
theorem PySem.W.Fast.tw11844213666204855704 : True := trivial
theorem PySem.W.Fast.tw2755319471219347458 : True := trivial
theorem PySem.W.Fast.tw4493540516104431826 : True := trivial
theorem PySem.W.Fast.tw10635211946534205866 : True := trivial
theorem PySem.W.Fast.tw7997725772966120129 : True := trivial
theorem PySem.W.Fast.tw16555782604422304469 : True := trivial
theorem PySem.W.Fast.tw160376447522550354 : True := trivial
theorem PySem.W.Fast.tw1347967458231009384 : True := trivial
theorem PySem.W.Fast.tw2017782057582879035 : True := trivial
theorem PySem.W.Fast.tw601516945605189589 : True := trivial
theorem PySem.W.Fast.tw13487053277057185828 : True := trivial
theorem PySem.W.Fast.tw17030387175525204056 : True := trivial
theorem PySem.W.Fast.tw16055142267526717068 : True := trivial
theorem PySem.W.Fast.tw11326121485655410672 : True := trivial
theorem PySem.W.Fast.tw371945991533049851 : True := trivial
theorem PySem.W.Fast.tw815627207065450392 : True := trivial
theorem PySem.W.Fast.tw15148685277194742121 : True := trivial
theorem PySem.W.Fast.tw16473545898397687605 : True := trivial
theorem PySem.W.Fast.tw13060725623850475407 : True := trivial
theorem PySem.W.Fast.tw3709304379232572033 : True := trivial
theorem PySem.W.Fast.tw14327704666645931284 : True := trivial
theorem PySem.W.Fast.tw4534257156559748599 : True := trivial
theorem PySem.W.Fast.tw15725473612828101458 : True := trivial
theorem PySem.W.Fast.tw16975333254862165224 : True := trivial
theorem PySem.W.Fast.tw14034059027602628525 : True := trivial
theorem PySem.W.Fast.tw15600166358785871927 : True := trivial
theorem PySem.W.Fast.tw13723251289480108934 : True := trivial
theorem PySem.W.Fast.tw14751824936814515817 : True := trivial
theorem PySem.W.Fast.tw5347086749508209145 : True := trivial
theorem PySem.W.Fast.tw8272216402292489079 : True := trivial
theorem PySem.W.Fast.tw14434544519112440580 : True := trivial
theorem PySem.W.Fast.tw4755314998682311016 : True := trivial
theorem PySem.W.Fast.tw15506481483538374622 : True := trivial
theorem PySem.W.Fast.tw16160015335997437241 : True := trivial
theorem PySem.W.Fast.tw12973239079489410422 : True := trivial
theorem PySem.W.Fast.tw3604531676927037727 : True := trivial
theorem PySem.W.Fast.tw7087516436077014098 : True := trivial
theorem PySem.W.Fast.tw9892750288442662976 : True := trivial
theorem PySem.W.Fast.tw13861352671026872512 : True := trivial
theorem PySem.W.Fast.tw8574935640056174166 : True := trivial
theorem PySem.W.Fast.tw17530026120811212044 : True := trivial
theorem PySem.W.Fast.tw6685651784448280804 : True := trivial
theorem PySem.W.Fast.tw9328415092417135646 : True := trivial
theorem PySem.W.Fast.tw6826852280598762509 : True := trivial
theorem PySem.W.Fast.tw15986128936309686126 : True := trivial
theorem PySem.W.Fast.tw14385868913327753823 : True := trivial
theorem PySem.W.Fast.tw1953473068889522580 : True := trivial
theorem PySem.W.Fast.tw2968893789888372315 : True := trivial
theorem PySem.W.Fast.tw14724577017370780072 : True := trivial
theorem PySem.W.Fast.tw60906626879424597 : True := trivial
theorem PySem.W.Fast.tw11526037796197869585 : True := trivial
theorem PySem.W.Fast.tw11640937293200258982 : True := trivial
theorem PySem.W.Fast.tw4727233368832063467 : True := trivial
theorem PySem.W.Fast.tw3362463866947479900 : True := trivial
theorem PySem.W.Fast.tw9040839901309479861 : True := trivial
theorem PySem.W.Fast.tw5540511445297144106 : True := trivial
theorem PySem.W.Fast.tw7155954961567632494 : True := trivial
theorem PySem.W.Fast.tw2726987682901573711 : True := trivial
theorem PySem.W.Fast.tw16690192610885503025 : True := trivial
theorem PySem.W.Fast.tw13513555348378148901 : True := trivial
theorem PySem.W.Fast.tw4037198692017604574 : True := trivial
theorem PySem.W.Fast.tw3906444362215036248 : True := trivial
theorem PySem.W.Fast.tw3517839900231392333 : True := trivial
theorem PySem.W.Fast.tw14284004453151618039 : True := trivial
theorem PySem.W.Fast.tw7836821951252090683 : True := trivial
theorem PySem.W.Fast.tw6364101820761676581 : True := trivial
theorem PySem.W.Fast.tw2717298211477957029 : True := trivial
theorem PySem.W.Fast.tw14277864473522743890 : True := trivial
theorem PySem.W.Fast.tw820519230128867512 : True := trivial
theorem PySem.W.Fast.tw8109916466081258247 : True := trivial
theorem PySem.W.Fast.tw16885540807948289221 : True := trivial
theorem PySem.W.Fast.tw3106615824628465065 : True := trivial
theorem PySem.W.Fast.tw11841658826817435225 : True := trivial
theorem PySem.W.Fast.tw11972223889743419042 : True := trivial
theorem PySem.W.Fast.tw15073634004293725593 : True := trivial
theorem PySem.W.Fast.tw7976540766216623284 : True := trivial
theorem PySem.W.Fast.tw423044006018223213 : True := trivial
theorem PySem.W.Fast.tw6139138116476836081 : True := trivial
theorem PySem.W.Fast.tw16993507918517096909 : True := trivial
theorem PySem.W.Fast.tw17220290490510292789 : True := trivial
theorem PySem.W.Fast.tw9811177005251455047 : True := trivial
theorem PySem.W.Fast.tw2853371516688623241 : True := trivial
theorem PySem.W.Fast.tw183233138361380085 : True := trivial
theorem PySem.W.Fast.tw14852973697621014127 : True := trivial
theorem PySem.W.Fast.tw12916778707212033555 : True := trivial
theorem PySem.W.Fast.tw1685569289569503831 : True := trivial
theorem PySem.W.Fast.tw13735927620666949118 : True := trivial
theorem PySem.W.Fast.tw6718039057543282488 : True := trivial
theorem PySem.W.Fast.tw2570019714308557369 : True := trivial
theorem PySem.W.Fast.tw5864303729638376819 : True := trivial
theorem PySem.W.Fast.tw204482101403776087 : True := trivial
theorem PySem.W.Fast.tw3275088705968301058 : True := trivial
theorem PySem.W.Fast.tw6671538587838477326 : True := trivial
theorem PySem.W.Fast.tw10631769987252539182 : True := trivial
theorem PySem.W.Fast.tw14951503387438086081 : True := trivial
theorem PySem.W.Fast.tw18132932071332640113 : True := trivial
theorem PySem.W.Fast.tw6329125944187058423 : True := trivial
theorem PySem.W.Fast.tw16541606404033701698 : True := trivial
theorem PySem.W.Fast.tw11720171124732745784 : True := trivial
theorem PySem.W.Fast.tw10195991530606587883 : True := trivial
theorem PySem.W.Fast.tw4058760682045685321 : True := trivial
theorem PySem.W.Fast.tw3856872050928010166 : True := trivial
theorem PySem.W.Fast.tw3814735640043518541 : True := trivial
theorem PySem.W.Fast.tw7729135878136937343 : True := trivial
theorem PySem.W.Fast.tw7754000362016690488 : True := trivial
theorem PySem.W.Fast.tw4800585607699607978 : True := trivial
theorem PySem.W.Fast.tw3270194550949611602 : True := trivial
theorem PySem.W.Fast.tw7236861686166641607 : True := trivial
theorem PySem.W.Fast.tw11599433890543579814 : True := trivial
theorem PySem.W.Fast.tw11141735018779695072 : True := trivial
theorem PySem.W.Fast.tw14685027858451122999 : True := trivial
theorem PySem.W.Fast.tw8121907661252293875 : True := trivial
theorem PySem.W.Fast.tw13904138550747315402 : True := trivial
theorem PySem.W.Fast.tw12951900275434838220 : True := trivial
theorem PySem.W.Fast.tw15329759881033553661 : True := trivial
theorem PySem.W.Fast.tw7557945669344358808 : True := trivial
theorem PySem.W.Fast.tw4691875335263423609 : True := trivial
theorem PySem.W.Fast.tw703190798432011353 : True := trivial
theorem PySem.W.Fast.tw8652851478818870363 : True := trivial
theorem PySem.W.Fast.tw1098423680527506516 : True := trivial
theorem PySem.W.Fast.tw13132490623406869785 : True := trivial
theorem PySem.W.Fast.tw13179876448009309456 : True := trivial
theorem PySem.W.Fast.tw433682630709669718 : True := trivial
theorem PySem.W.Fast.tw3230599908780271218 : True := trivial
theorem PySem.W.Fast.tw16064788014172736550 : True := trivial
theorem PySem.W.Fast.tw13078417295461223627 : True := trivial
theorem PySem.W.Fast.tw784199204966559448 : True := trivial
theorem PySem.W.Fast.tw7854942252864122193 : True := trivial
theorem PySem.W.Fast.tw7428724193788101083 : True := trivial
theorem PySem.W.Fast.tw2181694898414022852 : True := trivial
theorem PySem.W.Fast.tw15050755545935719423 : True := trivial
theorem PySem.W.Fast.tw1653699596475690651 : True := trivial
theorem PySem.W.Fast.tw3777597598421945322 : True := trivial
theorem PySem.W.Fast.tw15427344984831127264 : True := trivial
theorem PySem.W.Fast.tw16675729668786579287 : True := trivial
theorem PySem.W.Fast.tw1068073820751548684 : True := trivial
theorem PySem.W.Fast.tw1747198435901146815 : True := trivial
theorem PySem.W.Fast.tw1215218131429233077 : True := trivial
theorem PySem.W.Fast.tw2989826892787865194 : True := trivial
theorem PySem.W.Fast.tw3905801513645334890 : True := trivial
theorem PySem.W.Fast.tw7272325640148168615 : True := trivial
theorem PySem.W.Fast.tw3937155978214132822 : True := trivial
theorem PySem.W.Fast.tw2394028313509827161 : True := trivial
theorem PySem.W.Fast.tw3005508864488419784 : True := trivial
theorem PySem.W.Fast.tw4129208776429393673 : True := trivial
theorem PySem.W.Fast.tw12593545597494266627 : True := trivial
theorem PySem.W.Fast.tw14666483996040822558 : True := trivial
theorem PySem.W.Fast.tw7579712971291645248 : True := trivial
theorem PySem.W.Fast.tw9100109064471677282 : True := trivial
theorem PySem.W.Fast.tw11076001060236156710 : True := trivial
theorem PySem.W.Fast.tw695225783261221693 : True := trivial
theorem PySem.W.Fast.tw724580131715871141 : True := trivial
theorem PySem.W.Fast.tw11375263417764986430 : True := trivial
theorem PySem.W.Fast.tw9399028828606442344 : True := trivial
theorem PySem.W.Fast.tw18289892262698118275 : True := trivial
theorem PySem.W.Fast.tw8798927139539389863 : True := trivial
theorem PySem.W.Fast.tw10346634796299213670 : True := trivial
theorem PySem.W.Fast.tw12469471260410417952 : True := trivial
theorem PySem.W.Fast.tw14592030418728430972 : True := trivial
theorem PySem.W.Fast.tw1236675520115874483 : True := trivial
theorem PySem.W.Fast.tw12427961774139106720 : True := trivial
theorem PySem.W.Fast.tw548479506258142109 : True := trivial
theorem PySem.W.Fast.tw14579777930085522127 : True := trivial
theorem PySem.W.Fast.tw149897125801458750 : True := trivial
theorem PySem.W.Fast.tw7774887106111624467 : True := trivial
theorem PySem.W.Fast.tw7513402664820804626 : True := trivial
theorem PySem.W.Fast.tw15742745865277343493 : True := trivial
theorem PySem.W.Fast.tw14851363110324093488 : True := trivial
theorem PySem.W.Fast.tw16756293602164808928 : True := trivial
theorem PySem.W.Fast.tw17166368975523397577 : True := trivial
theorem PySem.W.Fast.tw3829442895016123785 : True := trivial
theorem PySem.W.Fast.tw1360496010492549573 : True := trivial
theorem PySem.W.Fast.tw14595362945570758185 : True := trivial
theorem PySem.W.Fast.tw17384952588880677771 : True := trivial
theorem PySem.W.Fast.tw5040358608477806955 : True := trivial
theorem PySem.W.Fast.tw9175785424786698232 : True := trivial
theorem PySem.W.Fast.tw11871343862202351934 : True := trivial
theorem PySem.W.Fast.tw310504717597917225 : True := trivial
theorem PySem.W.Fast.tw3659672087306836193 : True := trivial
theorem PySem.W.Fast.tw5414679945627760065 : True := trivial
theorem PySem.W.Fast.tw12044506040445058837 : True := trivial
theorem PySem.W.Fast.tw4061644704641813081 : True := trivial
theorem PySem.W.Fast.tw9147764698367909846 : True := trivial
theorem PySem.W.Fast.tw6226140703654970702 : True := trivial
theorem PySem.W.Fast.tw2708280735443094600 : True := trivial
theorem PySem.W.Fast.tw1235856657900391021 : True := trivial
theorem PySem.W.Fast.tw17103056041692312452 : True := trivial
theorem PySem.W.Fast.tw8116431147279951708 : True := trivial
theorem PySem.W.Fast.tw5030442534612957119 : True := trivial
theorem PySem.W.Fast.tw8236555499230164490 : True := trivial
theorem PySem.W.Fast.tw525048959184329039 : True := trivial
theorem PySem.W.Fast.tw12452213007720173584 : True := trivial
theorem PySem.W.Fast.tw15928955117206377166 : True := trivial
theorem PySem.W.Fast.tw3097416582648407915 : True := trivial
theorem PySem.W.Fast.tw438198668263888178 : True := trivial
theorem PySem.W.Fast.tw18375970786938588621 : True := trivial
theorem PySem.W.Fast.tw14725246715876932730 : True := trivial
theorem PySem.W.Fast.tw12876039909581250302 : True := trivial
theorem PySem.W.Fast.tw811447478398211503 : True := trivial
theorem PySem.W.Fast.tw128053750586456176 : True := trivial
theorem PySem.W.Fast.tw13701903959012603791 : True := trivial
theorem PySem.W.Fast.tw17475632380640642602 : True := trivial
theorem PySem.W.Fast.tw12367217678551601259 : True := trivial
theorem PySem.W.Fast.tw332954283039770833 : True := trivial
theorem PySem.W.Fast.tw6884511352070333835 : True := trivial
theorem PySem.W.Fast.tw9912993920541697772 : True := trivial
theorem PySem.W.Fast.tw5514023201435944152 : True := trivial
theorem PySem.W.Fast.tw12846170490093247644 : True := trivial
theorem PySem.W.Fast.tw16572591946104350639 : True := trivial
theorem PySem.W.Fast.tw11377061723214836492 : True := trivial
theorem PySem.W.Fast.tw1585821524737899059 : True := trivial
theorem PySem.W.Fast.tw8384973396151590551 : True := trivial
theorem PySem.W.Fast.tw2652332542684321880 : True := trivial
theorem PySem.W.Fast.tw14269299536475500983 : True := trivial
theorem PySem.W.Fast.tw10382134536794384241 : True := trivial
theorem PySem.W.Fast.tw662900581969356843 : True := trivial
theorem PySem.W.Fast.tw13968144709519895866 : True := trivial
theorem PySem.W.Fast.tw16991170061975529134 : True := trivial
theorem PySem.W.Fast.tw1832726380692379209 : True := trivial
theorem PySem.W.Fast.tw14173111669846445342 : True := trivial
theorem PySem.W.Fast.tw4184124612520672344 : True := trivial
theorem PySem.W.Fast.tw7820459541128914846 : True := trivial
theorem PySem.W.Fast.tw16564236393809904214 : True := trivial
theorem PySem.W.Fast.tw18128979673216311719 : True := trivial
theorem PySem.W.Fast.tw15218885594035556728 : True := trivial
theorem PySem.W.Fast.tw17515845115790053380 : True := trivial
theorem PySem.W.Fast.tw8444897984317311499 : True := trivial
theorem PySem.W.Fast.tw2566350205431859128 : True := trivial
theorem PySem.W.Fast.tw2061490046650517573 : True := trivial
theorem PySem.W.Fast.tw8327028793553614706 : True := trivial
theorem PySem.W.Fast.tw2056455355465150150 : True := trivial
theorem PySem.W.Fast.tw13748786158692031235 : True := trivial
theorem PySem.W.Fast.tw14470001447836570276 : True := trivial
theorem PySem.W.Fast.tw102182767760473963 : True := trivial
theorem PySem.W.Fast.tw4408783468243523921 : True := trivial
theorem PySem.W.Fast.tw14689044596240667921 : True := trivial
theorem PySem.W.Fast.tw410339176059464370 : True := trivial
theorem PySem.W.Fast.tw1342849825826740179 : True := trivial
theorem PySem.W.Fast.tw4399099587021026567 : True := trivial
theorem PySem.W.Fast.tw8358532519740794901 : True := trivial
theorem PySem.W.Fast.tw12276207506369625202 : True := trivial
theorem PySem.W.Fast.tw7569696015340574099 : True := trivial
theorem PySem.W.Fast.tw9356467441248950780 : True := trivial
theorem PySem.W.Fast.tw10094731879883417732 : True := trivial
theorem PySem.W.Fast.tw976769001461719810 : True := trivial
theorem PySem.W.Fast.tw5008064568157377829 : True := trivial
theorem PySem.W.Fast.tw410832422443962668 : True := trivial
theorem PySem.W.Fast.tw11400746220887858122 : True := trivial
theorem PySem.W.Fast.tw13667310106581116345 : True := trivial
theorem PySem.W.Fast.tw8552138933369490040 : True := trivial
theorem PySem.W.Fast.tw9801051673901829347 : True := trivial
theorem PySem.W.Fast.tw444872015004286034 : True := trivial
theorem PySem.W.Fast.tw16668853291124100646 : True := trivial
theorem PySem.W.Fast.tw1762329430573965533 : True := trivial
theorem PySem.W.Fast.tw16308282874530617099 : True := trivial
theorem PySem.W.Fast.tw6617821944011777934 : True := trivial
theorem PySem.W.Fast.tw5284830812322374506 : True := trivial
theorem PySem.W.Fast.tw7223023684359931563 : True := trivial
theorem PySem.W.Fast.tw3483352919068400406 : True := trivial
theorem PySem.W.Fast.tw17629305997782538516 : True := trivial
theorem PySem.W.Fast.tw5255530721571756542 : True := trivial
theorem PySem.W.Fast.tw15803066915919232783 : True := trivial
theorem PySem.W.Fast.tw7703255731712635279 : True := trivial
theorem PySem.W.Fast.tw13498207039856234935 : True := trivial
theorem PySem.W.Fast.tw4717890597745464939 : True := trivial
theorem PySem.W.Fast.tw12828056368759981630 : True := trivial
theorem PySem.W.Fast.tw6262835763918393091 : True := trivial
theorem PySem.W.Fast.tw12676856001971552310 : True := trivial
theorem PySem.W.Fast.tw17619231482568898479 : True := trivial
theorem PySem.W.Fast.tw9321078233386609687 : True := trivial
theorem PySem.W.Fast.tw6702434813378919135 : True := trivial
theorem PySem.W.Fast.tw17011846773541113202 : True := trivial
theorem PySem.W.Fast.tw11225155537961614159 : True := trivial
theorem PySem.W.Fast.tw7476966850147000161 : True := trivial
theorem PySem.W.Fast.tw8214934887305080323 : True := trivial
theorem PySem.W.Fast.tw1289526066478428242 : True := trivial
theorem PySem.W.Fast.tw17983866958648856831 : True := trivial
theorem PySem.W.Fast.tw6482856677939786987 : True := trivial
theorem PySem.W.Fast.tw1378468586096808607 : True := trivial
theorem PySem.W.Fast.tw17341695335477202077 : True := trivial
theorem PySem.W.Fast.tw13774219826634127406 : True := trivial
theorem PySem.W.Fast.tw10321997399666408967 : True := trivial
theorem PySem.W.Fast.tw15332319679868158309 : True := trivial
theorem PySem.W.Fast.tw5163951677651312855 : True := trivial
theorem PySem.W.Fast.tw739555657539640753 : True := trivial
theorem PySem.W.Fast.tw6460097226611906713 : True := trivial
theorem PySem.W.Fast.tw5660280911271958448 : True := trivial
theorem PySem.W.Fast.tw9296837328890217373 : True := trivial
theorem PySem.W.Fast.tw5681460634598705426 : True := trivial
theorem PySem.W.Fast.tw16403163353951494003 : True := trivial
theorem PySem.W.Fast.tw16506926123596883761 : True := trivial
theorem PySem.W.Fast.tw17944914653065280818 : True := trivial
theorem PySem.W.Fast.tw4375313658449427079 : True := trivial
theorem PySem.W.Fast.tw9935502321242496816 : True := trivial
theorem PySem.W.Fast.tw6997889629955159829 : True := trivial
theorem PySem.W.Fast.tw11046089718477612110 : True := trivial
theorem PySem.W.Fast.tw14071092815232801100 : True := trivial
theorem PySem.W.Fast.tw17165052947349853221 : True := trivial
theorem PySem.W.Fast.tw4232690568423940600 : True := trivial
theorem PySem.W.Fast.tw9394490230843974533 : True := trivial
theorem PySem.W.Fast.tw11178978236094768291 : True := trivial
theorem PySem.W.Fast.tw6556443975610593448 : True := trivial
theorem PySem.W.Fast.tw18058861611055376194 : True := trivial
theorem PySem.W.Fast.tw1741530356326947611 : True := trivial
theorem PySem.W.Fast.tw4984244160674746214 : True := trivial
theorem PySem.W.Fast.tw4247248808120135770 : True := trivial
theorem PySem.W.Fast.tw13505553948006985734 : True := trivial
theorem PySem.W.Fast.tw9961388153730651939 : True := trivial
theorem PySem.W.Fast.tw13761387500316497083 : True := trivial
theorem PySem.W.Fast.tw6391980745496955640 : True := trivial
theorem PySem.W.Fast.tw5581730172607981879 : True := trivial
theorem PySem.W.Fast.tw3633205772782977925 : True := trivial
theorem PySem.W.Fast.tw2380226474983471975 : True := trivial
theorem PySem.W.Fast.tw13268992957871081436 : True := trivial
theorem PySem.W.Fast.tw5802522943192897827 : True := trivial
theorem PySem.W.Fast.tw8683646303484912936 : True := trivial
theorem PySem.W.Fast.tw6735906392868728776 : True := trivial
theorem PySem.W.Fast.tw3238748420405109365 : True := trivial
theorem PySem.W.Fast.tw4362394385074994795 : True := trivial
theorem PySem.W.Fast.tw4087403052738459882 : True := trivial
theorem PySem.W.Fast.tw15522893776038468852 : True := trivial
theorem PySem.W.Fast.tw233512847058913943 : True := trivial
theorem PySem.W.Fast.tw7207919332427706129 : True := trivial
theorem PySem.W.Fast.tw13261849559906585969 : True := trivial
theorem PySem.W.Fast.tw12562445454722180418 : True := trivial
theorem PySem.W.Fast.tw2331414228273086605 : True := trivial
theorem PySem.W.Fast.tw10715083935775458873 : True := trivial
theorem PySem.W.Fast.tw18039778487726042478 : True := trivial
theorem PySem.W.Fast.tw13993725527136309605 : True := trivial
theorem PySem.W.Fast.tw2733467690611421474 : True := trivial
theorem PySem.W.Fast.tw16115015828828106698 : True := trivial
theorem PySem.W.Fast.tw11441497960312779535 : True := trivial
theorem PySem.W.Fast.tw12417414278931322239 : True := trivial
theorem PySem.W.Fast.tw5515678755740532364 : True := trivial
theorem PySem.W.Fast.tw12351857698017246446 : True := trivial
theorem PySem.W.Fast.tw13569785003996473238 : True := trivial
theorem PySem.W.Fast.tw6265134995748490819 : True := trivial
theorem PySem.W.Fast.tw13398438643748514806 : True := trivial
theorem PySem.W.Fast.tw11838884220404177598 : True := trivial
theorem PySem.W.Fast.tw16023856602232084508 : True := trivial
theorem PySem.W.Fast.tw17258256831994273816 : True := trivial
theorem PySem.W.Fast.tw14743671101385283869 : True := trivial
theorem PySem.W.Fast.tw9752047283003581401 : True := trivial
theorem PySem.W.Fast.tw15896026889216538422 : True := trivial
theorem PySem.W.Fast.tw10523332194354603284 : True := trivial
theorem PySem.W.Fast.tw10296892337648878621 : True := trivial
theorem PySem.W.Fast.tw6414030464894772178 : True := trivial
theorem PySem.W.Fast.tw5246541386211790288 : True := trivial
theorem PySem.W.Fast.tw12061787640967387134 : True := trivial
theorem PySem.W.Fast.tw4826309177317395404 : True := trivial
theorem PySem.W.Fast.tw15988078764038429937 : True := trivial
theorem PySem.W.Fast.tw12129575709795910502 : True := trivial
theorem PySem.W.Fast.tw13772938268187971005 : True := trivial
theorem PySem.W.Fast.tw5949271147501876965 : True := trivial
theorem PySem.W.Fast.tw11734738704376987948 : True := trivial
theorem PySem.W.Fast.tw14191164004399963770 : True := trivial
theorem PySem.W.Fast.tw15244597642198972626 : True := trivial
theorem PySem.W.Fast.tw10668422013622200724 : True := trivial
theorem PySem.W.Fast.tw1929219084114962864 : True := trivial
theorem PySem.W.Fast.tw5583238873586142151 : True := trivial
theorem PySem.W.Fast.tw7599335489521321929 : True := trivial
theorem PySem.W.Fast.tw7035579551083632539 : True := trivial
theorem PySem.W.Fast.tw12035787069153592009 : True := trivial
theorem PySem.W.Fast.tw3834488919689943668 : True := trivial
theorem PySem.W.Fast.tw1292474337924194216 : True := trivial
theorem PySem.W.Fast.tw7252881786672231529 : True := trivial
theorem PySem.W.Fast.tw10872257450210025532 : True := trivial
theorem PySem.W.Fast.tw7907572832204777053 : True := trivial
theorem PySem.W.Fast.tw486201872390850311 : True := trivial
theorem PySem.W.Fast.tw11312784400622840229 : True := trivial
theorem PySem.W.Fast.tw5359984803087688463 : True := trivial
theorem PySem.W.Fast.tw1568552629024029062 : True := trivial
theorem PySem.W.Fast.tw17320808462793017170 : True := trivial
theorem PySem.W.Fast.tw5812532813196365449 : True := trivial
theorem PySem.W.Fast.tw1037695301407861754 : True := trivial
theorem PySem.W.Fast.tw664956292826824558 : True := trivial
theorem PySem.W.Fast.tw15993016434126574533 : True := trivial
theorem PySem.W.Fast.tw18201512746300756048 : True := trivial
theorem PySem.W.Fast.tw14139976070595546520 : True := trivial
theorem PySem.W.Fast.tw4716369632201154820 : True := trivial
theorem PySem.W.Fast.tw11674089546643230936 : True := trivial
theorem PySem.W.Fast.tw7053686780524247788 : True := trivial
theorem PySem.W.Fast.tw13320983196758771757 : True := trivial
theorem PySem.W.Fast.tw17769064965936737037 : True := trivial
theorem PySem.W.Fast.tw16152698011183517687 : True := trivial
theorem PySem.W.Fast.tw5290392472701117491 : True := trivial
theorem PySem.W.Fast.tw15292086904703055016 : True := trivial
theorem PySem.W.Fast.tw17850997228319821453 : True := trivial
theorem PySem.W.Fast.tw9973024119767449118 : True := trivial
theorem PySem.W.Fast.tw14640922327472046841 : True := trivial
theorem PySem.W.Fast.tw18010720578658145170 : True := trivial
theorem PySem.W.Fast.tw7333073766361336767 : True := trivial
theorem PySem.W.Fast.tw6079442056724876435 : True := trivial
theorem PySem.W.Fast.tw11131202208092804609 : True := trivial
theorem PySem.W.Fast.tw8658817878408710739 : True := trivial
theorem PySem.W.Fast.tw43640178998104400 : True := trivial
theorem PySem.W.Fast.tw9840207979239481220 : True := trivial
theorem PySem.W.Fast.tw16247727004759832684 : True := trivial
theorem PySem.W.Fast.tw11353072814550660784 : True := trivial
theorem PySem.W.Fast.tw13666295489250209491 : True := trivial
theorem PySem.W.Fast.tw1584072580320957858 : True := trivial
theorem PySem.W.Fast.tw2961158275964785994 : True := trivial
theorem PySem.W.Fast.tw978652870508282727 : True := trivial
theorem PySem.W.Fast.tw11415242832220281537 : True := trivial
theorem PySem.W.Fast.tw11065123864263480386 : True := trivial
theorem PySem.W.Fast.tw17909069544570583914 : True := trivial
theorem PySem.W.Fast.tw3341022567525890497 : True := trivial
theorem PySem.W.Fast.tw5354696297400147569 : True := trivial
theorem PySem.W.Fast.tw17462303941298216703 : True := trivial
theorem PySem.W.Fast.tw6218985843252832271 : True := trivial
theorem PySem.W.Fast.tw13963369628871092597 : True := trivial
theorem PySem.W.Fast.tw5109817367057979607 : True := trivial
theorem PySem.W.Fast.tw1008165962885206134 : True := trivial
theorem PySem.W.Fast.tw15962728207730180980 : True := trivial
theorem PySem.W.Fast.tw5866895007803536565 : True := trivial
theorem PySem.W.Fast.tw2457701443199700703 : True := trivial
theorem PySem.W.Fast.tw7251993499204362692 : True := trivial
theorem PySem.W.Fast.tw3522542022859893164 : True := trivial
theorem PySem.W.Fast.tw16967533545728049395 : True := trivial
theorem PySem.W.Fast.tw3868072599664443591 : True := trivial
theorem PySem.W.Fast.tw8069182205025927294 : True := trivial
theorem PySem.W.Fast.tw7421489292462810522 : True := trivial
theorem PySem.W.Fast.tw16568379186660633096 : True := trivial
theorem PySem.W.Fast.tw1377952846795659983 : True := trivial
theorem PySem.W.Fast.tw16250872128920035088 : True := trivial
theorem PySem.W.Fast.tw17412970477748594086 : True := trivial
theorem PySem.W.Fast.tw14892738085258568443 : True := trivial
theorem PySem.W.Fast.tw4144089908237686551 : True := trivial
theorem PySem.W.Fast.tw16975613070050694008 : True := trivial
theorem PySem.W.Fast.tw825983325633739605 : True := trivial
theorem PySem.W.Fast.tw15816203158229772383 : True := trivial
theorem PySem.W.Fast.tw1398111314508891666 : True := trivial
theorem PySem.W.Fast.tw6443431549177688464 : True := trivial
theorem PySem.W.Fast.tw3217544168202817565 : True := trivial
theorem PySem.W.Fast.tw7567377347846550125 : True := trivial
theorem PySem.W.Fast.tw1446823397090607873 : True := trivial
theorem PySem.W.Fast.tw5036313162456938013 : True := trivial
theorem PySem.W.Fast.tw16148600591248143351 : True := trivial
theorem PySem.W.Fast.tw13967090058545913564 : True := trivial
theorem PySem.W.Fast.tw12093502032899721103 : True := trivial
theorem PySem.W.Fast.tw5163684128992244575 : True := trivial
theorem PySem.W.Fast.tw10777985401346523100 : True := trivial
theorem PySem.W.Fast.tw5897090883489424973 : True := trivial
theorem PySem.W.Fast.tw18406836935374426003 : True := trivial
theorem PySem.W.Fast.tw14864691837069998717 : True := trivial
theorem PySem.W.Fast.tw7485914142862610844 : True := trivial
theorem PySem.W.Fast.tw14624611194197170038 : True := trivial
theorem PySem.W.Fast.tw1603673150170679814 : True := trivial
theorem PySem.W.Fast.tw14257763342660955371 : True := trivial
theorem PySem.W.Fast.tw14543024823505047571 : True := trivial
theorem PySem.W.Fast.tw4507262757021790010 : True := trivial
theorem PySem.W.Fast.tw15839685502176486808 : True := trivial
theorem PySem.W.Fast.tw14803859194219941688 : True := trivial
theorem PySem.W.Fast.tw5155341617237391334 : True := trivial
theorem PySem.W.Fast.tw9146673664472536916 : True := trivial
theorem PySem.W.Fast.tw7367384108159955414 : True := trivial
theorem PySem.W.Fast.tw11643918292881039674 : True := trivial
theorem PySem.W.Fast.tw2893066135020523896 : True := trivial
theorem PySem.W.Fast.tw10971212274577108800 : True := trivial
theorem PySem.W.Fast.tw16097963425617569614 : True := trivial
theorem PySem.W.Fast.tw5584026710789220411 : True := trivial
theorem PySem.W.Fast.tw13847455098231627787 : True := trivial
theorem PySem.W.Fast.tw3174642313675756526 : True := trivial
theorem PySem.W.Fast.tw8847369341668288932 : True := trivial
theorem PySem.W.Fast.tw3770837034911713737 : True := trivial
theorem PySem.W.Fast.tw13051464227942458483 : True := trivial
theorem PySem.W.Fast.tw11708436977822911735 : True := trivial
theorem PySem.W.Fast.tw995138715677476318 : True := trivial
theorem PySem.W.Fast.tw11118383746919921531 : True := trivial
theorem PySem.W.Fast.tw837676161623396684 : True := trivial
theorem PySem.W.Fast.tw8359747431808637969 : True := trivial
theorem PySem.W.Fast.tw2902450357939517097 : True := trivial
theorem PySem.W.Fast.tw378535392408494466 : True := trivial
theorem PySem.W.Fast.tw4032291387821053340 : True := trivial
theorem PySem.W.Fast.tw811491748394775274 : True := trivial
theorem PySem.W.Fast.tw12607351575395491147 : True := trivial
theorem PySem.W.Fast.tw5468527419775178645 : True := trivial
theorem PySem.W.Fast.tw8399488737229473846 : True := trivial
theorem PySem.W.Fast.tw10068445620606151169 : True := trivial
theorem PySem.W.Fast.tw17869100001871970120 : True := trivial
theorem PySem.W.Fast.tw9452059798795513016 : True := trivial
theorem PySem.W.Fast.tw4147666718319821074 : True := trivial
theorem PySem.W.Fast.tw16101816482400977861 : True := trivial
theorem PySem.W.Fast.tw11761365803275618523 : True := trivial
theorem PySem.W.Fast.tw5513944954200862175 : True := trivial
theorem PySem.W.Fast.tw7370815546665806256 : True := trivial
theorem PySem.W.Fast.tw14588326783090392238 : True := trivial
theorem PySem.W.Fast.tw5785556074748143515 : True := trivial
theorem PySem.W.Fast.tw17416107205842402136 : True := trivial
theorem PySem.W.Fast.tw9424632968264825682 : True := trivial
theorem PySem.W.Fast.tw6443057620309888303 : True := trivial
theorem PySem.W.Fast.tw2879265088431632765 : True := trivial
theorem PySem.W.Fast.tw1955958806199461925 : True := trivial
theorem PySem.W.Fast.tw3122744928535133588 : True := trivial
theorem PySem.W.Fast.tw528555178668515816 : True := trivial
theorem PySem.W.Fast.tw11381474047054722203 : True := trivial
theorem PySem.W.Fast.tw11799514797146279182 : True := trivial
theorem PySem.W.Fast.tw11199800214965731671 : True := trivial
theorem PySem.W.Fast.tw14890654971792144181 : True := trivial
theorem PySem.W.Fast.tw18337014339650717531 : True := trivial
theorem PySem.W.Fast.tw7215668090432194845 : True := trivial
theorem PySem.W.Fast.tw7365556885973255232 : True := trivial
theorem PySem.W.Fast.tw8972781988719431786 : True := trivial
theorem PySem.W.Fast.tw1838946914770776105 : True := trivial
theorem PySem.W.Fast.tw9661469383386814589 : True := trivial
theorem PySem.W.Fast.tw7908641810692719072 : True := trivial
theorem PySem.W.Fast.tw16421873906359483373 : True := trivial
theorem PySem.W.Fast.tw3906857071817259581 : True := trivial
theorem PySem.W.Fast.tw12252967695624888870 : True := trivial
theorem PySem.W.Fast.tw16256911701151150370 : True := trivial
theorem PySem.W.Fast.tw14475683938302748725 : True := trivial
theorem PySem.W.Fast.tw17610589300344241263 : True := trivial
theorem PySem.W.Fast.tw17063624074033656862 : True := trivial
theorem PySem.W.Fast.tw6540097351139281207 : True := trivial
theorem PySem.W.Fast.tw14019973001458259335 : True := trivial
theorem PySem.W.Fast.tw14704924291728165159 : True := trivial
theorem PySem.W.Fast.tw15523512632826081778 : True := trivial
theorem PySem.W.Fast.tw10218726044786472265 : True := trivial
theorem PySem.W.Fast.tw796220048728062998 : True := trivial
theorem PySem.W.Fast.tw6200968191592443790 : True := trivial
theorem PySem.W.Fast.tw72433572711951474 : True := trivial
theorem PySem.W.Fast.tw2064654166715169171 : True := trivial
theorem PySem.W.Fast.tw17870393174983825709 : True := trivial
theorem PySem.W.Fast.tw9281024729554839595 : True := trivial
theorem PySem.W.Fast.tw13592781891966117617 : True := trivial
theorem PySem.W.Fast.tw12949557251397542215 : True := trivial
theorem PySem.W.Fast.tw4085864092510675484 : True := trivial
theorem PySem.W.Fast.tw16780010572556429232 : True := trivial
theorem PySem.W.Fast.tw10954053383661343772 : True := trivial
theorem PySem.W.Fast.tw8414262203009603727 : True := trivial
theorem PySem.W.Fast.tw324593668982791769 : True := trivial
theorem PySem.W.Fast.tw17779428614910280725 : True := trivial
theorem PySem.W.Fast.tw17722288044358118524 : True := trivial
theorem PySem.W.Fast.tw7585180129041886855 : True := trivial
theorem PySem.W.Fast.tw645540079266559633 : True := trivial
theorem PySem.W.Fast.tw12063299343881839395 : True := trivial
theorem PySem.W.Fast.tw17604377887789689776 : True := trivial
theorem PySem.W.Fast.tw16764919721754769084 : True := trivial
theorem PySem.W.Fast.tw11772740035839569178 : True := trivial
theorem PySem.W.Fast.tw5124033417030097574 : True := trivial
theorem PySem.W.Fast.tw231380281871512255 : True := trivial
theorem PySem.W.Fast.tw15692791472595507308 : True := trivial
theorem PySem.W.Fast.tw7824332102072824297 : True := trivial
theorem PySem.W.Fast.tw11255172558254723380 : True := trivial
theorem PySem.W.Fast.tw18300419839332623633 : True := trivial
theorem PySem.W.Fast.tw9687085579229371680 : True := trivial
theorem PySem.W.Fast.tw16603574893822616353 : True := trivial
theorem PySem.W.Fast.tw9992018599709168020 : True := trivial
theorem PySem.W.Fast.tw14322398173132450440 : True := trivial
theorem PySem.W.Fast.tw5565346948229819934 : True := trivial
theorem PySem.W.Fast.tw13640301547541033505 : True := trivial
theorem PySem.W.Fast.tw5893009460592307407 : True := trivial
theorem PySem.W.Fast.tw9072721189930842681 : True := trivial
theorem PySem.W.Fast.tw7161400741991848885 : True := trivial
theorem PySem.W.Fast.tw9156948507131070750 : True := trivial
theorem PySem.W.Fast.tw1105770089969348770 : True := trivial
theorem PySem.W.Fast.tw17302960374690250729 : True := trivial
theorem PySem.W.Fast.tw4900505118130623488 : True := trivial
theorem PySem.W.Fast.tw3862584373919676991 : True := trivial
theorem PySem.W.Fast.tw894888996039977760 : True := trivial
theorem PySem.W.Fast.tw18181834304323331586 : True := trivial
theorem PySem.W.Fast.tw13069498106534117077 : True := trivial
theorem PySem.W.Fast.tw3734247723419537879 : True := trivial
theorem PySem.W.Fast.tw16988251566010771517 : True := trivial
theorem PySem.W.Fast.tw11654569451220833930 : True := trivial
theorem PySem.W.Fast.tw8867729862544901077 : True := trivial
theorem PySem.W.Fast.tw3873302993279604625 : True := trivial
theorem PySem.W.Fast.tw11735494393648154581 : True := trivial
theorem PySem.W.Fast.tw14839100910124414796 : True := trivial
theorem PySem.W.Fast.tw4272002518309610694 : True := trivial
theorem PySem.W.Fast.tw17045730060821320997 : True := trivial
theorem PySem.W.Fast.tw2249512606157547897 : True := trivial
theorem PySem.W.Fast.tw1851956950400288948 : True := trivial
theorem PySem.W.Fast.tw4706720491174240081 : True := trivial
theorem PySem.W.Fast.tw6541240021727413383 : True := trivial
theorem PySem.W.Fast.tw5653789262931126049 : True := trivial
theorem PySem.W.Fast.tw14153591683184792752 : True := trivial
theorem PySem.W.Fast.tw8873363478890704316 : True := trivial
theorem PySem.W.Fast.tw4638632934369950999 : True := trivial
theorem PySem.W.Fast.tw3735647349175999836 : True := trivial
theorem PySem.W.Fast.tw7287814924157729366 : True := trivial
theorem PySem.W.Fast.tw14365146779916842106 : True := trivial
theorem PySem.W.Fast.tw17198171615576419976 : True := trivial
theorem PySem.W.Fast.tw3050884924537633409 : True := trivial
theorem PySem.W.Fast.tw15378579520159551675 : True := trivial
theorem PySem.W.Fast.tw5535095567354905458 : True := trivial
theorem PySem.W.Fast.tw9365566487760530980 : True := trivial
theorem PySem.W.Fast.tw3464788915298210089 : True := trivial
theorem PySem.W.Fast.tw15354155669214376344 : True := trivial
theorem PySem.W.Fast.tw15999800869973279578 : True := trivial
theorem PySem.W.Fast.tw4773902697992079641 : True := trivial
theorem PySem.W.Fast.tw1053065990705986161 : True := trivial
theorem PySem.W.Fast.tw11778891953911694499 : True := trivial
theorem PySem.W.Fast.tw11596493013448642743 : True := trivial
theorem PySem.W.Fast.tw7331004993939810192 : True := trivial
theorem PySem.W.Fast.tw2691913680541718199 : True := trivial
theorem PySem.W.Fast.tw10996704637042635969 : True := trivial
theorem PySem.W.Fast.tw11921181422907753579 : True := trivial
theorem PySem.W.Fast.tw10701707541790704414 : True := trivial
theorem PySem.W.Fast.tw17681154002083026129 : True := trivial
theorem PySem.W.Fast.tw17978381935077658964 : True := trivial
theorem PySem.W.Fast.tw3229894977568799975 : True := trivial
theorem PySem.W.Fast.tw4741566021980997913 : True := trivial
theorem PySem.W.Fast.tw9881588357129141214 : True := trivial
theorem PySem.W.Fast.tw14468899086651129237 : True := trivial
theorem PySem.W.Fast.tw2080829614130728833 : True := trivial
theorem PySem.W.Fast.tw16609546851342995870 : True := trivial
theorem PySem.W.Fast.tw15335826480258589736 : True := trivial
theorem PySem.W.Fast.tw18441414816870241285 : True := trivial
theorem PySem.W.Fast.tw5158110718772563708 : True := trivial
theorem PySem.W.Fast.tw14718675638215496563 : True := trivial
theorem PySem.W.Fast.tw8519298099152088441 : True := trivial
theorem PySem.W.Fast.tw13045682609577135780 : True := trivial
theorem PySem.W.Fast.tw2665435744953410382 : True := trivial
theorem PySem.W.Fast.tw14183143754637954820 : True := trivial
theorem PySem.W.Fast.tw12661447840153117866 : True := trivial
theorem PySem.W.Fast.tw10417659340697926152 : True := trivial
theorem PySem.W.Fast.tw11802652434723370851 : True := trivial
theorem PySem.W.Fast.tw749428411231307774 : True := trivial
theorem PySem.W.Fast.tw16770848909725108019 : True := trivial
theorem PySem.W.Fast.tw17377509520007599678 : True := trivial
theorem PySem.W.Fast.tw6177821432453290371 : True := trivial
theorem PySem.W.Fast.tw9541403228864113561 : True := trivial
theorem PySem.W.Fast.tw7280511382240843583 : True := trivial
theorem PySem.W.Fast.tw1562498272678247256 : True := trivial
theorem PySem.W.Fast.tw13760179419112350505 : True := trivial
theorem PySem.W.Fast.tw7865668378995076336 : True := trivial
theorem PySem.W.Fast.tw9873117969730377321 : True := trivial
theorem PySem.W.Fast.tw4306777318826547455 : True := trivial
theorem PySem.W.Fast.tw5296331451073366586 : True := trivial
theorem PySem.W.Fast.tw11511641016645170985 : True := trivial
theorem PySem.W.Fast.tw5054200624811948604 : True := trivial
theorem PySem.W.Fast.tw15278918034730160743 : True := trivial
theorem PySem.W.Fast.tw16448756035535236656 : True := trivial
theorem PySem.W.Fast.tw121622700229398176 : True := trivial
theorem PySem.W.Fast.tw2916568344842311187 : True := trivial
theorem PySem.W.Fast.tw121413460343741047 : True := trivial
theorem PySem.W.Fast.tw1041544852259121341 : True := trivial
theorem PySem.W.Fast.tw9544298886801395186 : True := trivial
theorem PySem.W.Fast.tw10555291613708692512 : True := trivial
theorem PySem.W.Fast.tw13790698264987194348 : True := trivial
theorem PySem.W.Fast.tw324747707179608396 : True := trivial
theorem PySem.W.Fast.tw6009622501300007286 : True := trivial
theorem PySem.W.Fast.tw14019344643491228556 : True := trivial
theorem PySem.W.Fast.tw15482091333707367796 : True := trivial
theorem PySem.W.Fast.tw9346600939417009667 : True := trivial
theorem PySem.W.Fast.tw18446674491684573784 : True := trivial
theorem PySem.W.Fast.tw17555048719197484339 : True := trivial
theorem PySem.W.Fast.tw16628078140790760619 : True := trivial
theorem PySem.W.Fast.tw6945480097136016242 : True := trivial
theorem PySem.W.Fast.tw17429223576179212779 : True := trivial
theorem PySem.W.Fast.tw6928275225601275302 : True := trivial
theorem PySem.W.Fast.tw16712493507553490648 : True := trivial
theorem PySem.W.Fast.tw13957734426531744139 : True := trivial
theorem PySem.W.Fast.tw3339768178301429135 : True := trivial
theorem PySem.W.Fast.tw6439159781833005746 : True := trivial
theorem PySem.W.Fast.tw5301054197575406375 : True := trivial
theorem PySem.W.Fast.tw576681772316635787 : True := trivial
theorem PySem.W.Fast.tw16103541485312980040 : True := trivial
theorem PySem.W.Fast.tw6666863343185075127 : True := trivial
theorem PySem.W.Fast.tw8422684904420379314 : True := trivial
theorem PySem.W.Fast.tw1421386397549009485 : True := trivial
theorem PySem.W.Fast.tw10688658535596805904 : True := trivial
theorem PySem.W.Fast.tw14679004728409166305 : True := trivial
theorem PySem.W.Fast.tw7669648972981680040 : True := trivial
theorem PySem.W.Fast.tw14329051330456795851 : True := trivial
theorem PySem.W.Fast.tw11519040061255847537 : True := trivial
theorem PySem.W.Fast.tw12528441827473308171 : True := trivial
theorem PySem.W.Fast.tw1941621273248402729 : True := trivial
theorem PySem.W.Fast.tw10198814857253420833 : True := trivial
theorem PySem.W.Fast.tw800023222295584880 : True := trivial
theorem PySem.W.Fast.tw10101147025358596069 : True := trivial
theorem PySem.W.Fast.tw3304019930557213614 : True := trivial
theorem PySem.W.Fast.tw13405343927865700457 : True := trivial
theorem PySem.W.Fast.tw6338787158818630605 : True := trivial
theorem PySem.W.Fast.tw1973606100250840237 : True := trivial
theorem PySem.W.Fast.tw4730581180477437598 : True := trivial
theorem PySem.W.Fast.tw10015766915062471285 : True := trivial
theorem PySem.W.Fast.tw2007105138231858180 : True := trivial
theorem PySem.W.Fast.tw10020180881829566615 : True := trivial
theorem PySem.W.Fast.tw9025424250628717947 : True := trivial
theorem PySem.W.Fast.tw6464644069631909032 : True := trivial
theorem PySem.W.Fast.tw12597729389758558896 : True := trivial
theorem PySem.W.Fast.tw3717606612020467018 : True := trivial
theorem PySem.W.Fast.tw16047631561783694483 : True := trivial
theorem PySem.W.Fast.tw6360083090629690952 : True := trivial
theorem PySem.W.Fast.tw737288996755900581 : True := trivial
theorem PySem.W.Fast.tw17456167480942298377 : True := trivial
theorem PySem.W.Fast.tw17842624239282130389 : True := trivial
theorem PySem.W.Fast.tw8293158815975953690 : True := trivial
theorem PySem.W.Fast.tw5714642462321885899 : True := trivial
theorem PySem.W.Fast.tw1633794480005599670 : True := trivial
theorem PySem.W.Fast.tw7879363497043043483 : True := trivial
theorem PySem.W.Fast.tw9050099683331367074 : True := trivial
theorem PySem.W.Fast.tw15872742769914861679 : True := trivial
theorem PySem.W.Fast.tw2526038775599257729 : True := trivial
theorem PySem.W.Fast.tw17909611286598376336 : True := trivial
theorem PySem.W.Fast.tw9557985876337370983 : True := trivial
theorem PySem.W.Fast.tw14184116217104575666 : True := trivial
theorem PySem.W.Fast.tw8674640203434005102 : True := trivial
theorem PySem.W.Fast.tw12514304424500916408 : True := trivial
theorem PySem.W.Fast.tw5329089301723597809 : True := trivial
theorem PySem.W.Fast.tw5657142252262484021 : True := trivial
theorem PySem.W.Fast.tw17057670036725496449 : True := trivial
theorem PySem.W.Fast.tw9805335440110614288 : True := trivial
theorem PySem.W.Fast.tw14068350464162587627 : True := trivial
theorem PySem.W.Fast.tw1007519890681048567 : True := trivial
theorem PySem.W.Fast.tw6981441695806193386 : True := trivial
theorem PySem.W.Fast.tw5337166889014308444 : True := trivial
theorem PySem.W.Fast.tw11910072794706703950 : True := trivial
theorem PySem.W.Fast.tw4296047855584914054 : True := trivial
theorem PySem.W.Fast.tw1717783186929296801 : True := trivial
theorem PySem.W.Fast.tw2487172498293313180 : True := trivial
theorem PySem.W.Fast.tw17309666266885601698 : True := trivial
theorem PySem.W.Fast.tw7180311230343798867 : True := trivial
theorem PySem.W.Fast.tw11273113318482355240 : True := trivial
theorem PySem.W.Fast.tw12479098188185486293 : True := trivial
theorem PySem.W.Fast.tw10881360222298530609 : True := trivial
theorem PySem.W.Fast.tw13899777068647789698 : True := trivial
theorem PySem.W.Fast.tw15956764084622770612 : True := trivial
theorem PySem.W.Fast.tw4078133541214704867 : True := trivial
theorem PySem.W.Fast.tw5862135520026457761 : True := trivial
theorem PySem.W.Fast.tw6350959154405103969 : True := trivial
theorem PySem.W.Fast.tw10118892281727860454 : True := trivial
theorem PySem.W.Fast.tw7141680654515767526 : True := trivial
theorem PySem.W.Fast.tw17471753894328167363 : True := trivial
theorem PySem.W.Fast.tw15970111155075638572 : True := trivial
theorem PySem.W.Fast.tw15963570639206746108 : True := trivial
theorem PySem.W.Fast.tw18406608705526167960 : True := trivial
theorem PySem.W.Fast.tw17668112783208908022 : True := trivial
theorem PySem.W.Fast.tw4260041640383199155 : True := trivial
theorem PySem.W.Fast.tw5206128756671924044 : True := trivial
theorem PySem.W.Fast.tw17366157216828998219 : True := trivial
theorem PySem.W.Fast.tw18417719252908351998 : True := trivial
theorem PySem.W.Fast.tw8752704572329595038 : True := trivial
theorem PySem.W.Fast.tw9143755286378170475 : True := trivial
theorem PySem.W.Fast.tw3267793536626552108 : True := trivial
theorem PySem.W.Fast.tw18098964535674719162 : True := trivial
theorem PySem.W.Fast.tw16590398518080651243 : True := trivial
theorem PySem.W.Fast.tw7799792701259123673 : True := trivial
theorem PySem.W.Fast.tw9540868765822077226 : True := trivial
theorem PySem.W.Fast.tw3973816678405124414 : True := trivial
theorem PySem.W.Fast.tw129440440722940951 : True := trivial
theorem PySem.W.Fast.tw10361559670970812986 : True := trivial
theorem PySem.W.Fast.tw14737587968862364729 : True := trivial
theorem PySem.W.Fast.tw11556937740601352241 : True := trivial
theorem PySem.W.Fast.tw11537335111001100899 : True := trivial
theorem PySem.W.Fast.tw3784414416631989970 : True := trivial
theorem PySem.W.Fast.tw6195964460880557372 : True := trivial
theorem PySem.W.Fast.tw15076385028834123916 : True := trivial
theorem PySem.W.Fast.tw3275640810440541514 : True := trivial
theorem PySem.W.Fast.tw5375366603341829599 : True := trivial
theorem PySem.W.Fast.tw11399108007498307731 : True := trivial
theorem PySem.W.Fast.tw13187605456799728440 : True := trivial
theorem PySem.W.Fast.tw5886895972711849835 : True := trivial
theorem PySem.W.Fast.tw13478530900198467801 : True := trivial
theorem PySem.W.Fast.tw333862723535096962 : True := trivial
theorem PySem.W.Fast.tw13803269424014053779 : True := trivial
theorem PySem.W.Fast.tw1210017349999085230 : True := trivial
theorem PySem.W.Fast.tw9736161843077967580 : True := trivial
theorem PySem.W.Fast.tw4227193602803335679 : True := trivial
theorem PySem.W.Fast.tw9099289114870227053 : True := trivial
theorem PySem.W.Fast.tw17279091092960255559 : True := trivial
theorem PySem.W.Fast.tw15950242518153230770 : True := trivial
theorem PySem.W.Fast.tw12240387119945816098 : True := trivial
theorem PySem.W.Fast.tw8642629762362432715 : True := trivial
theorem PySem.W.Fast.tw13032872937277800854 : True := trivial
theorem PySem.W.Fast.tw5446634942668250258 : True := trivial
theorem PySem.W.Fast.tw17946977820628460479 : True := trivial
theorem PySem.W.Fast.tw11621402474616725314 : True := trivial
theorem PySem.W.Fast.tw5205446815570534285 : True := trivial
theorem PySem.W.Fast.tw3190065815213542042 : True := trivial
theorem PySem.W.Fast.tw13361120930309136482 : True := trivial
theorem PySem.W.Fast.tw3005122805055420316 : True := trivial
theorem PySem.W.Fast.tw4847523452474937721 : True := trivial
theorem PySem.W.Fast.tw13694032691878245469 : True := trivial
theorem PySem.W.Fast.tw16372551410321383544 : True := trivial
theorem PySem.W.Fast.tw3143411102417548983 : True := trivial
theorem PySem.W.Fast.tw145561789302320428 : True := trivial
theorem PySem.W.Fast.tw8134484024229702953 : True := trivial
theorem PySem.W.Fast.tw10335095260098726398 : True := trivial
theorem PySem.W.Fast.tw2739941850963511675 : True := trivial
theorem PySem.W.Fast.tw37666961669363295 : True := trivial
theorem PySem.W.Fast.tw11496730224388701655 : True := trivial
theorem PySem.W.Fast.tw10512214706754987623 : True := trivial
theorem PySem.W.Fast.tw11888482044247566598 : True := trivial
theorem PySem.W.Fast.tw10856231664240913144 : True := trivial
theorem PySem.W.Fast.tw17298152123709006523 : True := trivial
theorem PySem.W.Fast.tw10263748828402880949 : True := trivial
theorem PySem.W.Fast.tw13305259108089460678 : True := trivial
theorem PySem.W.Fast.tw6855481030112342209 : True := trivial
theorem PySem.W.Fast.tw774858619225206451 : True := trivial
theorem PySem.W.Fast.tw2874139548270997187 : True := trivial
theorem PySem.W.Fast.tw13999023734920118467 : True := trivial
theorem PySem.W.Fast.tw16771538384664645477 : True := trivial
theorem PySem.W.Fast.tw2677055600108310600 : True := trivial
theorem PySem.W.Fast.tw8803275789879172514 : True := trivial
theorem PySem.W.Fast.tw11337697681098271472 : True := trivial
theorem PySem.W.Fast.tw13688131033713401664 : True := trivial
theorem PySem.W.Fast.tw9447462795059072474 : True := trivial
theorem PySem.W.Fast.tw385973453405203919 : True := trivial
theorem PySem.W.Fast.tw10331909533977924618 : True := trivial
theorem PySem.W.Fast.tw9780589026119512157 : True := trivial
theorem PySem.W.Fast.tw16872724253869606568 : True := trivial
theorem PySem.W.Fast.tw17666209603411940367 : True := trivial
theorem PySem.W.Fast.tw15073423274738289080 : True := trivial
theorem PySem.W.Fast.tw13612002680061324241 : True := trivial
theorem PySem.W.Fast.tw9552847481874671667 : True := trivial
theorem PySem.W.Fast.tw7128372427356034590 : True := trivial
theorem PySem.W.Fast.tw14957802269979544525 : True := trivial
theorem PySem.W.Fast.tw2535578924887502031 : True := trivial
theorem PySem.W.Fast.tw9495438242960320203 : True := trivial
theorem PySem.W.Fast.tw14233862600858179626 : True := trivial
theorem PySem.W.Fast.tw15704668649859921663 : True := trivial
theorem PySem.W.Fast.tw15780987908311010146 : True := trivial
theorem PySem.W.Fast.tw8740143752818394669 : True := trivial
theorem PySem.W.Fast.tw11566376365483536106 : True := trivial
theorem PySem.W.Fast.tw12213507816767449717 : True := trivial
theorem PySem.W.Fast.tw1705829614500706116 : True := trivial
theorem PySem.W.Fast.tw11727246415747259425 : True := trivial
theorem PySem.W.Fast.tw1762563526787117592 : True := trivial
theorem PySem.W.Fast.tw1155970649864402211 : True := trivial
theorem PySem.W.Fast.tw11544993159509518643 : True := trivial
theorem PySem.W.Fast.tw15580665725869194132 : True := trivial
theorem PySem.W.Fast.tw13746868935473893245 : True := trivial
theorem PySem.W.Fast.tw4365075541372727815 : True := trivial
theorem PySem.W.Fast.tw12355889549194917942 : True := trivial
theorem PySem.W.Fast.tw3851960421145850483 : True := trivial
theorem PySem.W.Fast.tw5236327607153465440 : True := trivial
theorem PySem.W.Fast.tw8695404838226290030 : True := trivial
theorem PySem.W.Fast.tw2012477806464349004 : True := trivial
theorem PySem.W.Fast.tw7746314472951667016 : True := trivial
theorem PySem.W.Fast.tw6230134753326060530 : True := trivial
theorem PySem.W.Fast.tw3436170454012195455 : True := trivial
theorem PySem.W.Fast.tw9478052686442424311 : True := trivial
theorem PySem.W.Fast.tw8589805125471714284 : True := trivial
theorem PySem.W.Fast.tw14936833369875585999 : True := trivial
theorem PySem.W.Fast.tw1862894152578351733 : True := trivial
theorem PySem.W.Fast.tw23067593666421664 : True := trivial
theorem PySem.W.Fast.tw3501015006013233093 : True := trivial
theorem PySem.W.Fast.tw11982509241255749408 : True := trivial
theorem PySem.W.Fast.tw4254305341101082194 : True := trivial
theorem PySem.W.Fast.tw2732420121902853052 : True := trivial
theorem PySem.W.Fast.tw7798933807879853966 : True := trivial
theorem PySem.W.Fast.tw7666493440090086649 : True := trivial
theorem PySem.W.Fast.tw4265825344454670944 : True := trivial
theorem PySem.W.Fast.tw5003378858817701101 : True := trivial
theorem PySem.W.Fast.tw9107568726296548489 : True := trivial
theorem PySem.W.Fast.tw9975528459052494165 : True := trivial
theorem PySem.W.Fast.tw8473828665752456844 : True := trivial
theorem PySem.W.Fast.tw4516159277999951987 : True := trivial
theorem PySem.W.Fast.tw790256093098313978 : True := trivial
theorem PySem.W.Fast.tw15679892759817747092 : True := trivial
theorem PySem.W.Fast.tw17967348611850590877 : True := trivial
theorem PySem.W.Fast.tw3868643301781082721 : True := trivial
theorem PySem.W.Fast.tw14961592318538065425 : True := trivial
theorem PySem.W.Fast.tw14977861944945601284 : True := trivial
theorem PySem.W.Fast.tw12314483561320697990 : True := trivial
theorem PySem.W.Fast.tw1337049420767359436 : True := trivial
theorem PySem.W.Fast.tw18321940016263148607 : True := trivial
theorem PySem.W.Fast.tw16226789245887287274 : True := trivial
theorem PySem.W.Fast.tw9950159790960902031 : True := trivial
theorem PySem.W.Fast.tw12913786883801575838 : True := trivial
theorem PySem.W.Fast.tw7890339065618989691 : True := trivial
theorem PySem.W.Fast.tw9726757225415734990 : True := trivial
theorem PySem.W.Fast.tw13163812518071526651 : True := trivial
theorem PySem.W.Fast.tw4873414836275036791 : True := trivial
theorem PySem.W.Fast.tw2622454854142587178 : True := trivial
theorem PySem.W.Fast.tw329810655660381772 : True := trivial
theorem PySem.W.Fast.tw8421043032737678243 : True := trivial
theorem PySem.W.Fast.tw18292345126213050341 : True := trivial
theorem PySem.W.Fast.tw14045528427354637516 : True := trivial
theorem PySem.W.Fast.tw17230654943562476490 : True := trivial
theorem PySem.W.Fast.tw16795412089895714083 : True := trivial
theorem PySem.W.Fast.tw12785746110893927584 : True := trivial
theorem PySem.W.Fast.tw890613256327021849 : True := trivial
theorem PySem.W.Fast.tw13331382671518358085 : True := trivial
theorem PySem.W.Fast.tw10913209267812419489 : True := trivial
theorem PySem.W.Fast.tw11161635249497009507 : True := trivial
theorem PySem.W.Fast.tw9897942773885530439 : True := trivial
theorem PySem.W.Fast.tw16088875484522918896 : True := trivial
theorem PySem.W.Fast.tw12433954626602173430 : True := trivial
theorem PySem.W.Fast.tw11939081825600163494 : True := trivial
theorem PySem.W.Fast.tw6229731183457162107 : True := trivial
theorem PySem.W.Fast.tw1369338779679404798 : True := trivial
theorem PySem.W.Fast.tw11101360538627325173 : True := trivial
theorem PySem.W.Fast.tw12271750462738253535 : True := trivial
theorem PySem.W.Fast.tw14573988891867447377 : True := trivial
theorem PySem.W.Fast.tw14573891998521003686 : True := trivial
theorem PySem.W.Fast.tw10900113087961801437 : True := trivial
theorem PySem.W.Fast.tw2922297550135341479 : True := trivial
theorem PySem.W.Fast.tw9720250844049377185 : True := trivial
theorem PySem.W.Fast.tw13611909041639336372 : True := trivial
theorem PySem.W.Fast.tw7948586077964342819 : True := trivial
theorem PySem.W.Fast.tw16872807081824137087 : True := trivial
theorem PySem.W.Fast.tw7526683997236845044 : True := trivial
theorem PySem.W.Fast.tw15999110653683333982 : True := trivial
theorem PySem.W.Fast.tw5944824740048701042 : True := trivial
theorem PySem.W.Fast.tw7774689936858272286 : True := trivial
theorem PySem.W.Fast.tw11193500278491297776 : True := trivial
theorem PySem.W.Fast.tw4356856906815560027 : True := trivial
theorem PySem.W.Fast.tw6171077401664490301 : True := trivial
theorem PySem.W.Fast.tw10197969574162261248 : True := trivial
theorem PySem.W.Fast.tw18309088249836311144 : True := trivial
theorem PySem.W.Fast.tw11911806569788367479 : True := trivial
theorem PySem.W.Fast.tw6609639322998014246 : True := trivial
theorem PySem.W.Fast.tw3318503448948869413 : True := trivial
theorem PySem.W.Fast.tw10009370692816563403 : True := trivial
theorem PySem.W.Fast.tw16979188267055023575 : True := trivial
theorem PySem.W.Fast.tw17346237015356141587 : True := trivial
theorem PySem.W.Fast.tw10843907291856387833 : True := trivial
theorem PySem.W.Fast.tw15551989427075417015 : True := trivial
theorem PySem.W.Fast.tw5198252751788049414 : True := trivial
theorem PySem.W.Fast.tw3459625802730061220 : True := trivial
theorem PySem.W.Fast.tw8769316532570586364 : True := trivial
theorem PySem.W.Fast.tw1951661603005566224 : True := trivial
theorem PySem.W.Fast.tw3646740052424894532 : True := trivial
theorem PySem.W.Fast.tw13046331448012471178 : True := trivial
theorem PySem.W.Fast.tw14427788004754287515 : True := trivial
theorem PySem.W.Fast.tw592972085931780094 : True := trivial
theorem PySem.W.Fast.tw11056867186575666627 : True := trivial
theorem PySem.W.Fast.tw15377875286181584033 : True := trivial
theorem PySem.W.Fast.tw1702872011376267493 : True := trivial
theorem PySem.W.Fast.tw546810580327612851 : True := trivial
theorem PySem.W.Fast.tw15889439531152008268 : True := trivial
theorem PySem.W.Fast.tw8274822702687284452 : True := trivial
theorem PySem.W.Fast.tw11061642494256822393 : True := trivial
theorem PySem.W.Fast.tw2267607043117542839 : True := trivial
theorem PySem.W.Fast.tw12207710048845500146 : True := trivial
theorem PySem.W.Fast.tw11169685972613380665 : True := trivial
theorem PySem.W.Fast.tw14524317864949777290 : True := trivial
theorem PySem.W.Fast.tw7124702489295821616 : True := trivial
theorem PySem.W.Fast.tw2165069549744752512 : True := trivial
theorem PySem.W.Fast.tw9996952589890732155 : True := trivial
theorem PySem.W.Fast.tw14602207728206592777 : True := trivial
theorem PySem.W.Fast.tw14249053032939263857 : True := trivial
theorem PySem.W.Fast.tw17000944112387125527 : True := trivial
theorem PySem.W.Fast.tw8579260529994802246 : True := trivial
theorem PySem.W.Fast.tw17516800760883282448 : True := trivial
theorem PySem.W.Fast.tw1492222235613447839 : True := trivial
theorem PySem.W.Fast.tw5636558438787812360 : True := trivial
theorem PySem.W.Fast.tw4374623893372441357 : True := trivial
theorem PySem.W.Fast.tw6915204557741105550 : True := trivial
theorem PySem.W.Fast.tw11802411994075371038 : True := trivial
theorem PySem.W.Fast.tw9725140708121816204 : True := trivial
theorem PySem.W.Fast.tw3674098918044241086 : True := trivial
theorem PySem.W.Fast.tw12963452241572552480 : True := trivial
theorem PySem.W.Fast.tw11961416104732410133 : True := trivial
theorem PySem.W.Fast.tw85017126171915187 : True := trivial
theorem PySem.W.Fast.tw10293378469050735943 : True := trivial
theorem PySem.W.Fast.tw1001308669552439819 : True := trivial
theorem PySem.W.Fast.tw4322804008565101707 : True := trivial
theorem PySem.W.Fast.tw8361261293755188357 : True := trivial
theorem PySem.W.Fast.tw6554792399620996396 : True := trivial
theorem PySem.W.Fast.tw8627670345894081333 : True := trivial
theorem PySem.W.Fast.tw3669937452484117383 : True := trivial
theorem PySem.W.Fast.tw11335598318223709461 : True := trivial
theorem PySem.W.Fast.tw10984034828446908171 : True := trivial
theorem PySem.W.Fast.tw11652237015351281668 : True := trivial
theorem PySem.W.Fast.tw5960376182563531037 : True := trivial
theorem PySem.W.Fast.tw5724476600730165636 : True := trivial
theorem PySem.W.Fast.tw12581743996214014010 : True := trivial
theorem PySem.W.Fast.tw5798978549801376434 : True := trivial
theorem PySem.W.Fast.tw2567444970117034193 : True := trivial
theorem PySem.W.Fast.tw8354123004269290615 : True := trivial
theorem PySem.W.Fast.tw6881042095744590374 : True := trivial
theorem PySem.W.Fast.tw15755194424690604459 : True := trivial
theorem PySem.W.Fast.tw15248701730685361413 : True := trivial
theorem PySem.W.Fast.tw16762881395672384566 : True := trivial
theorem PySem.W.Fast.tw4995615969641696357 : True := trivial
theorem PySem.W.Fast.tw12982849459391648688 : True := trivial
theorem PySem.W.Fast.tw2123904092927483614 : True := trivial
theorem PySem.W.Fast.tw12863084240815014334 : True := trivial
theorem PySem.W.Fast.tw13443212726461853656 : True := trivial
theorem PySem.W.Fast.tw15564424874126245811 : True := trivial
theorem PySem.W.Fast.tw6895705874784816065 : True := trivial
theorem PySem.W.Fast.tw3293614193195300369 : True := trivial
theorem PySem.W.Fast.tw2261674717344929896 : True := trivial
theorem PySem.W.Fast.tw18013384981034153212 : True := trivial
theorem PySem.W.Fast.tw16549711783558764343 : True := trivial
theorem PySem.W.Fast.tw3292992939588017398 : True := trivial
theorem PySem.W.Fast.tw4782500769869882973 : True := trivial
theorem PySem.W.Fast.tw6447875206568974400 : True := trivial
theorem PySem.W.Fast.tw2185350453416501138 : True := trivial
theorem PySem.W.Fast.tw9742738831997413552 : True := trivial
theorem PySem.W.Fast.tw10193573475918030384 : True := trivial
theorem PySem.W.Fast.tw4418598008378099562 : True := trivial
theorem PySem.W.Fast.tw7757330801031471489 : True := trivial
theorem PySem.W.Fast.tw13245528883288533967 : True := trivial
theorem PySem.W.Fast.tw8550399169767206155 : True := trivial
theorem PySem.W.Fast.tw16767176641597113039 : True := trivial
theorem PySem.W.Fast.tw15709356419845377469 : True := trivial
theorem PySem.W.Fast.tw15215717405569854760 : True := trivial
theorem PySem.W.Fast.tw17801876748455585007 : True := trivial
theorem PySem.W.Fast.tw14277179792028215391 : True := trivial
theorem PySem.W.Fast.tw12651492151299818329 : True := trivial
theorem PySem.W.Fast.tw8175147931924247249 : True := trivial
theorem PySem.W.Fast.tw9683436680599742999 : True := trivial
theorem PySem.W.Fast.tw6128791629143106348 : True := trivial
theorem PySem.W.Fast.tw6550978504311741410 : True := trivial
theorem PySem.W.Fast.tw10564064020211190117 : True := trivial
theorem PySem.W.Fast.tw5760763580994675539 : True := trivial
theorem PySem.W.Fast.tw13185404979337281389 : True := trivial
theorem PySem.W.Fast.tw895804482516469244 : True := trivial
theorem PySem.W.Fast.tw3112601017513158847 : True := trivial
theorem PySem.W.Fast.tw6277698020124504619 : True := trivial
theorem PySem.W.Fast.tw13834743219607964736 : True := trivial
theorem PySem.W.Fast.tw4557633181201899980 : True := trivial
theorem PySem.W.Fast.tw17436802202594738671 : True := trivial
theorem PySem.W.Fast.tw15929023012572746295 : True := trivial
theorem PySem.W.Fast.tw10850699255593361294 : True := trivial
theorem PySem.W.Fast.tw10848401613774650005 : True := trivial
theorem PySem.W.Fast.tw9151465913196673900 : True := trivial
theorem PySem.W.Fast.tw9712198427688287619 : True := trivial
theorem PySem.W.Fast.tw5930222905275766333 : True := trivial
theorem PySem.W.Fast.tw2181743500981672196 : True := trivial
theorem PySem.W.Fast.tw17519053418888342245 : True := trivial
theorem PySem.W.Fast.tw7912005649918371418 : True := trivial
theorem PySem.W.Fast.tw15221766601234705699 : True := trivial
theorem PySem.W.Fast.tw11520324044636353544 : True := trivial
theorem PySem.W.Fast.tw4259842548379471814 : True := trivial
theorem PySem.W.Fast.tw13120771021744275725 : True := trivial
theorem PySem.W.Fast.tw7481892169092148336 : True := trivial
theorem PySem.W.Fast.tw5691811068640797484 : True := trivial
theorem PySem.W.Fast.tw18320734047714915261 : True := trivial
theorem PySem.W.Fast.tw5567183099939159102 : True := trivial
theorem PySem.W.Fast.tw2653260356326323980 : True := trivial
theorem PySem.W.Fast.tw12883219659194129485 : True := trivial
theorem PySem.W.Fast.tw16222503444867182804 : True := trivial
theorem PySem.W.Fast.tw10244883624469946156 : True := trivial
theorem PySem.W.Fast.tw4419565263421982879 : True := trivial
theorem PySem.W.Fast.tw17408776941817671561 : True := trivial
theorem PySem.W.Fast.tw9089074170857839551 : True := trivial
theorem PySem.W.Fast.tw308129751761754840 : True := trivial
theorem PySem.W.Fast.tw16899359184571526118 : True := trivial
theorem PySem.W.Fast.tw11376193903274698366 : True := trivial
theorem PySem.W.Fast.tw7047004935763088173 : True := trivial
theorem PySem.W.Fast.tw10290258701619603130 : True := trivial
theorem PySem.W.Fast.tw16816328749581799447 : True := trivial
theorem PySem.W.Fast.tw17323105198931789043 : True := trivial
theorem PySem.W.Fast.tw7197110719499362941 : True := trivial
theorem PySem.W.Fast.tw6335475034000840754 : True := trivial
theorem PySem.W.Fast.tw12310461737502280255 : True := trivial
theorem PySem.W.Fast.tw12240713158176018023 : True := trivial
theorem PySem.W.Fast.tw16060279318525173751 : True := trivial
theorem PySem.W.Fast.tw3385994274741590372 : True := trivial
theorem PySem.W.Fast.tw11435285261213654802 : True := trivial
theorem PySem.W.Fast.tw1163573864265261647 : True := trivial
theorem PySem.W.Fast.tw6642323541478545981 : True := trivial
theorem PySem.W.Fast.tw1921981352856217411 : True := trivial
theorem PySem.W.Fast.tw8537179502360329217 : True := trivial
theorem PySem.W.Fast.tw8562060299688348027 : True := trivial
theorem PySem.W.Fast.tw8792844304818918656 : True := trivial
theorem PySem.W.Fast.tw18395799673019888831 : True := trivial
theorem PySem.W.Fast.tw88106237039960758 : True := trivial
theorem PySem.W.Fast.tw16218621691242531070 : True := trivial
theorem PySem.W.Fast.tw13082041252664049677 : True := trivial
theorem PySem.W.Fast.tw15103098119067309444 : True := trivial
theorem PySem.W.Fast.tw18176338231947301731 : True := trivial
theorem PySem.W.Fast.tw13814972666873037544 : True := trivial
theorem PySem.W.Fast.tw7650057054526656677 : True := trivial
theorem PySem.W.Fast.tw9108047885536666751 : True := trivial
theorem PySem.W.Fast.tw7924068713988888489 : True := trivial
theorem PySem.W.Fast.tw6519829444675798732 : True := trivial
theorem PySem.W.Fast.tw17940478382897876231 : True := trivial
theorem PySem.W.Fast.tw17916314670194718649 : True := trivial
theorem PySem.W.Fast.tw17239455244387083247 : True := trivial
theorem PySem.W.Fast.tw6665608833703491693 : True := trivial
theorem PySem.W.Fast.tw3839156960722039555 : True := trivial
theorem PySem.W.Fast.tw4096623320979140348 : True := trivial
theorem PySem.W.Fast.tw4061947138040722206 : True := trivial
theorem PySem.W.Fast.tw4738562861544397624 : True := trivial
theorem PySem.W.Fast.tw15914344246931965823 : True := trivial
theorem PySem.W.Fast.tw11415683736767019817 : True := trivial
theorem PySem.W.Fast.tw11522984242272578007 : True := trivial
theorem PySem.W.Fast.tw15617438985074396040 : True := trivial
theorem PySem.W.Fast.tw4015624182379669224 : True := trivial
theorem PySem.W.Fast.tw9345960147233971841 : True := trivial
theorem PySem.W.Fast.tw14503471216267575621 : True := trivial
theorem PySem.W.Fast.tw14167958695081937547 : True := trivial
theorem PySem.W.Fast.tw17801604007893486308 : True := trivial
theorem PySem.W.Fast.tw15990013371812990678 : True := trivial
theorem PySem.W.Fast.tw7016960995649030260 : True := trivial
theorem PySem.W.Fast.tw3349433254827151126 : True := trivial
theorem PySem.W.Fast.tw10811215799061590740 : True := trivial
theorem PySem.W.Fast.tw11265906931636536624 : True := trivial
theorem PySem.W.Fast.tw11166735181733518563 : True := trivial
theorem PySem.W.Fast.tw1010320962487036588 : True := trivial
theorem PySem.W.Fast.tw9349220934704078123 : True := trivial
theorem PySem.W.Fast.tw1770615838986079445 : True := trivial
theorem PySem.W.Fast.tw4935052029738278369 : True := trivial
theorem PySem.W.Fast.tw6396688631761574274 : True := trivial
theorem PySem.W.Fast.tw12369015378789464168 : True := trivial
theorem PySem.W.Fast.tw7386284941404613981 : True := trivial
theorem PySem.W.Fast.tw9670491347551435231 : True := trivial
theorem PySem.W.Fast.tw13210666089966188664 : True := trivial
theorem PySem.W.Fast.tw12900538439865683315 : True := trivial
theorem PySem.W.Fast.tw4706097127202622146 : True := trivial
theorem PySem.W.Fast.tw3328372196433912155 : True := trivial
theorem PySem.W.Fast.tw14890416507880010135 : True := trivial
theorem PySem.W.Fast.tw6553391535309777799 : True := trivial
theorem PySem.W.Fast.tw12474048235652835133 : True := trivial
theorem PySem.W.Fast.tw2823504186784448871 : True := trivial
theorem PySem.W.Fast.tw9059807346930982055 : True := trivial
theorem PySem.W.Fast.tw585329845581032673 : True := trivial
theorem PySem.W.Fast.tw6924158068060348326 : True := trivial
theorem PySem.W.Fast.tw12681607244478679051 : True := trivial
theorem PySem.W.Fast.tw15200665169386479084 : True := trivial
theorem PySem.W.Fast.tw16502630141677135736 : True := trivial
theorem PySem.W.Fast.tw7721909187415093492 : True := trivial
theorem PySem.W.Fast.tw12946107297206121351 : True := trivial
theorem PySem.W.Fast.tw14902895940430367205 : True := trivial
theorem PySem.W.Fast.tw13424441666085092617 : True := trivial
theorem PySem.W.Fast.tw5264235408498600270 : True := trivial
theorem PySem.W.Fast.tw15521135470756325087 : True := trivial
theorem PySem.W.Fast.tw13563141318013978506 : True := trivial
theorem PySem.W.Fast.tw14380587723431054977 : True := trivial
theorem PySem.W.Fast.tw1967368049516927983 : True := trivial
theorem PySem.W.Fast.tw5798837255408668678 : True := trivial
theorem PySem.W.Fast.tw8521225841223635514 : True := trivial
theorem PySem.W.Fast.tw15175663260905138560 : True := trivial
theorem PySem.W.Fast.tw7773703252227764378 : True := trivial
theorem PySem.W.Fast.tw16573738752997203935 : True := trivial
theorem PySem.W.Fast.tw16335946981253252909 : True := trivial
theorem PySem.W.Fast.tw3214905152590150314 : True := trivial
theorem PySem.W.Fast.tw2687712828028316973 : True := trivial
theorem PySem.W.Fast.tw14323803952909407063 : True := trivial
theorem PySem.W.Fast.tw1103266026113323103 : True := trivial
theorem PySem.W.Fast.tw1244549727445447113 : True := trivial
theorem PySem.W.Fast.tw12362466358656370019 : True := trivial
theorem PySem.W.Fast.tw5533410080506973937 : True := trivial
theorem PySem.W.Fast.tw16248804177538910616 : True := trivial
theorem PySem.W.Fast.tw10376393019382020247 : True := trivial
theorem PySem.W.Fast.tw12620356174078250537 : True := trivial
theorem PySem.W.Fast.tw6253582313453547058 : True := trivial
theorem PySem.W.Fast.tw1592586313412652057 : True := trivial
theorem PySem.W.Fast.tw6928603671386518246 : True := trivial
theorem PySem.W.Fast.tw12473702760442705812 : True := trivial
theorem PySem.W.Fast.tw7595217477399443678 : True := trivial
theorem PySem.W.Fast.tw17939055635119605361 : True := trivial
theorem PySem.W.Fast.tw17101735900152543857 : True := trivial
theorem PySem.W.Fast.tw1989621461124310641 : True := trivial
theorem PySem.W.Fast.tw6703385214871785165 : True := trivial
theorem PySem.W.Fast.tw13622233021645351524 : True := trivial
theorem PySem.W.Fast.tw7549800294898328507 : True := trivial
theorem PySem.W.Fast.tw13688894034581325283 : True := trivial
theorem PySem.W.Fast.tw7197059311339182034 : True := trivial
theorem PySem.W.Fast.tw4930452196103213122 : True := trivial
theorem PySem.W.Fast.tw6260795352126570147 : True := trivial
theorem PySem.W.Fast.tw12890872711141168190 : True := trivial
theorem PySem.W.Fast.tw18132026767203300681 : True := trivial
theorem PySem.W.Fast.tw1116694987617904099 : True := trivial
theorem PySem.W.Fast.tw13347429507804949820 : True := trivial
theorem PySem.W.Fast.tw2469720647608763487 : True := trivial
theorem PySem.W.Fast.tw9588788581841597624 : True := trivial
theorem PySem.W.Fast.tw5298573212177621846 : True := trivial
theorem PySem.W.Fast.tw12062651979328142485 : True := trivial
theorem PySem.W.Fast.tw456142887477272183 : True := trivial
theorem PySem.W.Fast.tw12916907257551296390 : True := trivial
theorem PySem.W.Fast.tw18292633231513777807 : True := trivial
theorem PySem.W.Fast.tw8024924046207286589 : True := trivial
theorem PySem.W.Fast.tw12398119776761876820 : True := trivial
theorem PySem.W.Fast.tw10338851848299067609 : True := trivial
theorem PySem.W.Fast.tw11568612652413164594 : True := trivial
theorem PySem.W.Fast.tw15784502479384061267 : True := trivial
theorem PySem.W.Fast.tw8278460394029578582 : True := trivial
theorem PySem.W.Fast.tw17330882983240689451 : True := trivial
theorem PySem.W.Fast.tw6431246884537967265 : True := trivial
theorem PySem.W.Fast.tw13265540179985993977 : True := trivial
theorem PySem.W.Fast.tw7007213753940271853 : True := trivial
theorem PySem.W.Fast.tw15376489168816759786 : True := trivial
theorem PySem.W.Fast.tw6423115341720252918 : True := trivial
theorem PySem.W.Fast.tw6696990677805226240 : True := trivial
theorem PySem.W.Fast.tw11770712065167494735 : True := trivial
theorem PySem.W.Fast.tw13031563177733879051 : True := trivial
theorem PySem.W.Fast.tw16175716187806110237 : True := trivial
theorem PySem.W.Fast.tw14843704768457839214 : True := trivial
theorem PySem.W.Fast.tw10378301158531458374 : True := trivial
theorem PySem.W.Fast.tw12697233868506142741 : True := trivial
theorem PySem.W.Fast.tw18196743243934540114 : True := trivial
theorem PySem.W.Fast.tw9320946657325409353 : True := trivial
theorem PySem.W.Fast.tw14599157433443530393 : True := trivial
theorem PySem.W.Fast.tw6273650898884187782 : True := trivial
theorem PySem.W.Fast.tw7424078266647888306 : True := trivial
theorem PySem.W.Fast.tw16011984307987465830 : True := trivial
theorem PySem.W.Fast.tw4357634277209642195 : True := trivial
theorem PySem.W.Fast.tw17145548523992329400 : True := trivial
theorem PySem.W.Fast.tw11107623766100937429 : True := trivial
theorem PySem.W.Fast.tw5275988537621372711 : True := trivial
theorem PySem.W.Fast.tw1429021384864181462 : True := trivial
theorem PySem.W.Fast.tw12583330862832137547 : True := trivial
theorem PySem.W.Fast.tw402997466944917219 : True := trivial
theorem PySem.W.Fast.tw17920094166972183358 : True := trivial
theorem PySem.W.Fast.tw1493170459680407869 : True := trivial
theorem PySem.W.Fast.tw7541370713143407281 : True := trivial
theorem PySem.W.Fast.tw1537133525046816598 : True := trivial
theorem PySem.W.Fast.tw14781044840091437049 : True := trivial
theorem PySem.W.Fast.tw16039832219955791211 : True := trivial
theorem PySem.W.Fast.tw11015681853986226093 : True := trivial
theorem PySem.W.Fast.tw16273260316187002982 : True := trivial
theorem PySem.W.Fast.tw9282332964427695424 : True := trivial
theorem PySem.W.Fast.tw4054668936088621391 : True := trivial
theorem PySem.W.Fast.tw17459135611204118102 : True := trivial
theorem PySem.W.Fast.tw4078863514510225593 : True := trivial
theorem PySem.W.Fast.tw4363994907090445093 : True := trivial
theorem PySem.W.Fast.tw6572147790335554003 : True := trivial
theorem PySem.W.Fast.tw14468717177327948598 : True := trivial
theorem PySem.W.Fast.tw15533936581014495788 : True := trivial
theorem PySem.W.Fast.tw17499377696452848775 : True := trivial
theorem PySem.W.Fast.tw13832295341558496828 : True := trivial
theorem PySem.W.Fast.tw6037960313206790679 : True := trivial
theorem PySem.W.Fast.tw10797004250916209300 : True := trivial
theorem PySem.W.Fast.tw15421122310002541791 : True := trivial
theorem PySem.W.Fast.tw6244068293344579426 : True := trivial
theorem PySem.W.Fast.tw5886626937970850009 : True := trivial
theorem PySem.W.Fast.tw17173599250091378307 : True := trivial
theorem PySem.W.Fast.tw10511150039634357498 : True := trivial
theorem PySem.W.Fast.tw8881516142299140077 : True := trivial
theorem PySem.W.Fast.tw15937283994296952235 : True := trivial
theorem PySem.W.Fast.tw1022283022705566700 : True := trivial
theorem PySem.W.Fast.tw9873170794074041121 : True := trivial
theorem PySem.W.Fast.tw15752953711811059595 : True := trivial
theorem PySem.W.Fast.tw13153310704136780499 : True := trivial
theorem PySem.W.Fast.tw10415904843237330598 : True := trivial
theorem PySem.W.Fast.tw16500541535820577203 : True := trivial
theorem PySem.W.Fast.tw16509744980089566816 : True := trivial
theorem PySem.W.Fast.tw5929401617021054580 : True := trivial
theorem PySem.W.Fast.tw342918208876719169 : True := trivial
theorem PySem.W.Fast.tw15438726599579459595 : True := trivial
theorem PySem.W.Fast.tw4700186675633294278 : True := trivial
theorem PySem.W.Fast.tw15310807319511703180 : True := trivial
theorem PySem.W.Fast.tw6930696124653931000 : True := trivial
theorem PySem.W.Fast.tw2110525381262271022 : True := trivial
theorem PySem.W.Fast.tw1702371319921396158 : True := trivial
theorem PySem.W.Fast.tw6716708237135823514 : True := trivial
theorem PySem.W.Fast.tw12910632858541519809 : True := trivial
theorem PySem.W.Fast.tw15494496332723229615 : True := trivial
theorem PySem.W.Fast.tw17015883299157438319 : True := trivial
theorem PySem.W.Fast.tw6473050752650555326 : True := trivial
theorem PySem.W.Fast.tw1343452602356789864 : True := trivial
theorem PySem.W.Fast.tw1183961935566546335 : True := trivial
theorem PySem.W.Fast.tw12208817842747412313 : True := trivial
theorem PySem.W.Fast.tw9976949240820903777 : True := trivial
theorem PySem.W.Fast.tw14334523244784858612 : True := trivial
theorem PySem.W.Fast.tw3849723232117661594 : True := trivial
theorem PySem.W.Fast.tw188001709565039550 : True := trivial
theorem PySem.W.Fast.tw12142077116601574881 : True := trivial
theorem PySem.W.Fast.tw14042846587990846648 : True := trivial
theorem PySem.W.Fast.tw12389504002706350786 : True := trivial
theorem PySem.W.Fast.tw4886677538340595367 : True := trivial
theorem PySem.W.Fast.tw5347130611885375434 : True := trivial
theorem PySem.W.Fast.tw3362336916979779127 : True := trivial
theorem PySem.W.Fast.tw16131769892521021011 : True := trivial
theorem PySem.W.Fast.tw16051485522153988715 : True := trivial
theorem PySem.W.Fast.tw3669181938811789440 : True := trivial
theorem PySem.W.Fast.tw10195874835421607664 : True := trivial
theorem PySem.W.Fast.tw8395831038089490748 : True := trivial
theorem PySem.W.Fast.tw15542418551149235798 : True := trivial
theorem PySem.W.Fast.tw8650219692455838107 : True := trivial
theorem PySem.W.Fast.tw5520016543685113149 : True := trivial
theorem PySem.W.Fast.tw10834492759251741101 : True := trivial
theorem PySem.W.Fast.tw3051893293111474450 : True := trivial
theorem PySem.W.Fast.tw16105897771120868175 : True := trivial
theorem PySem.W.Fast.tw18332455011294944513 : True := trivial
theorem PySem.W.Fast.tw1762668393053802069 : True := trivial
theorem PySem.W.Fast.tw17336485480001178211 : True := trivial
theorem PySem.W.Fast.tw13094646228104146512 : True := trivial
theorem PySem.W.Fast.tw15196087059875645854 : True := trivial
theorem PySem.W.Fast.tw7332992771304075295 : True := trivial
theorem PySem.W.Fast.tw16028769880045543280 : True := trivial
theorem PySem.W.Fast.tw5170124841935352457 : True := trivial
theorem PySem.W.Fast.tw16191868121801261917 : True := trivial
theorem PySem.W.Fast.tw7367014007580874572 : True := trivial
theorem PySem.W.Fast.tw10409016806293945662 : True := trivial
theorem PySem.W.Fast.tw8665416369569206587 : True := trivial
theorem PySem.W.Fast.tw1290738631187534152 : True := trivial
theorem PySem.W.Fast.tw12180415990487679110 : True := trivial
theorem PySem.W.Fast.tw6757687493720144221 : True := trivial
theorem PySem.W.Fast.tw15826039156796833657 : True := trivial
theorem PySem.W.Fast.tw7201706048665427990 : True := trivial
theorem PySem.W.Fast.tw6271625175090937561 : True := trivial
theorem PySem.W.Fast.tw12429969665894728173 : True := trivial
theorem PySem.W.Fast.tw11310158319364225909 : True := trivial
theorem PySem.W.Fast.tw4849720137091906684 : True := trivial
theorem PySem.W.Fast.tw292986043779533154 : True := trivial
theorem PySem.W.Fast.tw4558911150671478223 : True := trivial
theorem PySem.W.Fast.tw4467910542443353449 : True := trivial
theorem PySem.W.Fast.tw8811078120893452919 : True := trivial
theorem PySem.W.Fast.tw13187895748430510169 : True := trivial
theorem PySem.W.Fast.tw15244181022764328280 : True := trivial
theorem PySem.W.Fast.tw3530294912272382791 : True := trivial
theorem PySem.W.Fast.tw12626469290168640922 : True := trivial
theorem PySem.W.Fast.tw13340054170529036722 : True := trivial
theorem PySem.W.Fast.tw7545811628952500896 : True := trivial
theorem PySem.W.Fast.tw14000298126311728140 : True := trivial
theorem PySem.W.Fast.tw16519783777917827243 : True := trivial
theorem PySem.W.Fast.tw206510803884349974 : True := trivial
theorem PySem.W.Fast.tw1509595360204280169 : True := trivial
theorem PySem.W.Fast.tw17780204921049979025 : True := trivial
theorem PySem.W.Fast.tw14334275607516671346 : True := trivial
theorem PySem.W.Fast.tw17628980550469455716 : True := trivial
theorem PySem.W.Fast.tw3751026540947493996 : True := trivial
theorem PySem.W.Fast.tw11075422907740994952 : True := trivial
theorem PySem.W.Fast.tw3805734350397511773 : True := trivial
theorem PySem.W.Fast.tw17308516048522549905 : True := trivial
theorem PySem.W.Fast.tw11010476055675248597 : True := trivial
theorem PySem.W.Fast.tw17819756740391807790 : True := trivial
theorem PySem.W.Fast.tw12132205903547474416 : True := trivial
theorem PySem.W.Fast.tw14008342159836470398 : True := trivial
theorem PySem.W.Fast.tw17435212684623520466 : True := trivial
theorem PySem.W.Fast.tw2902310223149261860 : True := trivial
theorem PySem.W.Fast.tw12013931560641727908 : True := trivial
theorem PySem.W.Fast.tw3349513594679842255 : True := trivial
theorem PySem.W.Fast.tw8793306552790087806 : True := trivial
theorem PySem.W.Fast.tw18222347525867456206 : True := trivial
theorem PySem.W.Fast.tw8667615555732064235 : True := trivial
theorem PySem.W.Fast.tw8399967146308017820 : True := trivial
theorem PySem.W.Fast.tw8765642810836175836 : True := trivial
theorem PySem.W.Fast.tw13730707484263625108 : True := trivial
theorem PySem.W.Fast.tw13562509365530577379 : True := trivial
theorem PySem.W.Fast.tw10760241818509933736 : True := trivial
theorem PySem.W.Fast.tw8725332302855399457 : True := trivial
theorem PySem.W.Fast.tw11784673197882526249 : True := trivial
theorem PySem.W.Fast.tw12915560683070457266 : True := trivial
theorem PySem.W.Fast.tw1250416515480883731 : True := trivial
theorem PySem.W.Fast.tw10667789666992355673 : True := trivial
theorem PySem.W.Fast.tw13765674137003626415 : True := trivial
theorem PySem.W.Fast.tw9941377907375028458 : True := trivial
theorem PySem.W.Fast.tw8744012663184185099 : True := trivial
theorem PySem.W.Fast.tw17568030569091177018 : True := trivial
theorem PySem.W.Fast.tw17273866878937101372 : True := trivial
theorem PySem.W.Fast.tw4600364691172134427 : True := trivial
theorem PySem.W.Fast.tw11791695466099500793 : True := trivial
theorem PySem.W.Fast.tw7260462466721388641 : True := trivial
theorem PySem.W.Fast.tw3627402167524403883 : True := trivial
theorem PySem.W.Fast.tw14102040766139708647 : True := trivial
theorem PySem.W.Fast.tw6102449024331139548 : True := trivial
theorem PySem.W.Fast.tw5620476882106438779 : True := trivial
theorem PySem.W.Fast.tw6735008245049419222 : True := trivial
theorem PySem.W.Fast.tw1859994209546962401 : True := trivial
theorem PySem.W.Fast.tw1830906526909182462 : True := trivial
theorem PySem.W.Fast.tw9878321901966309399 : True := trivial
theorem PySem.W.Fast.tw4508426646632036818 : True := trivial
theorem PySem.W.Fast.tw18183338145635073744 : True := trivial
theorem PySem.W.Fast.tw18002594238411731742 : True := trivial
theorem PySem.W.Fast.tw14513752421076968497 : True := trivial
theorem PySem.W.Fast.tw5349801078032976076 : True := trivial
theorem PySem.W.Fast.tw14760760794514366796 : True := trivial
theorem PySem.W.Fast.tw106665425454782410 : True := trivial
theorem PySem.W.Fast.tw10963367823653666751 : True := trivial
theorem PySem.W.Fast.tw4369503081085818404 : True := trivial
theorem PySem.W.Fast.tw712691978446216777 : True := trivial
theorem PySem.W.Fast.tw13069823116735799746 : True := trivial
theorem PySem.W.Fast.tw9707129771266573716 : True := trivial
theorem PySem.W.Fast.tw1384526978418542983 : True := trivial
theorem PySem.W.Fast.tw11829838739616760860 : True := trivial
theorem PySem.W.Fast.tw15619036657615521515 : True := trivial
theorem PySem.W.Fast.tw18298477812423733414 : True := trivial
theorem PySem.W.Fast.tw7657498016215477667 : True := trivial
theorem PySem.W.Fast.tw2154551059183145837 : True := trivial
theorem PySem.W.Fast.tw1688337433653474871 : True := trivial
theorem PySem.W.Fast.tw6880347716517274389 : True := trivial
theorem PySem.W.Fast.tw13133910733454119190 : True := trivial
theorem PySem.W.Fast.tw3118784295461246284 : True := trivial
theorem PySem.W.Fast.tw15371629370762943615 : True := trivial
theorem PySem.W.Fast.tw11888916524773686376 : True := trivial
theorem PySem.W.Fast.tw15004132005785834011 : True := trivial
theorem PySem.W.Fast.tw8442965737375959803 : True := trivial
theorem PySem.W.Fast.tw6261683508405601843 : True := trivial
theorem PySem.W.Fast.tw2088639276114309640 : True := trivial
theorem PySem.W.Fast.tw15897563662266003681 : True := trivial
theorem PySem.W.Fast.tw18357973628987362681 : True := trivial
theorem PySem.W.Fast.tw3240634127589552373 : True := trivial
theorem PySem.W.Fast.tw17639177646695887166 : True := trivial
theorem PySem.W.Fast.tw197113201919777749 : True := trivial
theorem PySem.W.Fast.tw14203289589733807940 : True := trivial
theorem PySem.W.Fast.tw6008875553326570087 : True := trivial
theorem PySem.W.Fast.tw6953223542391063633 : True := trivial
theorem PySem.W.Fast.tw16238584255867991462 : True := trivial
theorem PySem.W.Fast.tw46474348424446624 : True := trivial
theorem PySem.W.Fast.tw2653317737557326158 : True := trivial
theorem PySem.W.Fast.tw8383511248983066809 : True := trivial
theorem PySem.W.Fast.tw6793003649253571524 : True := trivial
theorem PySem.W.Fast.tw11906112349031211714 : True := trivial
theorem PySem.W.Fast.tw2530262423003461773 : True := trivial
theorem PySem.W.Fast.tw3226555950316389111 : True := trivial
theorem PySem.W.Fast.tw17541197496760874435 : True := trivial
theorem PySem.W.Fast.tw16949129721603002358 : True := trivial
theorem PySem.W.Fast.tw16239719389849421191 : True := trivial
theorem PySem.W.Fast.tw13621697273073621535 : True := trivial
theorem PySem.W.Fast.tw12679967516824592449 : True := trivial
theorem PySem.W.Fast.tw6289246835759117520 : True := trivial
theorem PySem.W.Fast.tw8927891146244672939 : True := trivial
theorem PySem.W.Fast.tw13612590644622261475 : True := trivial
theorem PySem.W.Fast.tw17544490161582333534 : True := trivial
theorem PySem.W.Fast.tw4940018974727576568 : True := trivial
theorem PySem.W.Fast.tw13820326829407774601 : True := trivial
theorem PySem.W.Fast.tw5726931258623717134 : True := trivial
theorem PySem.W.Fast.tw3049834401244780973 : True := trivial
theorem PySem.W.Fast.tw13924138677336802350 : True := trivial
theorem PySem.W.Fast.tw13323474742636387810 : True := trivial
theorem PySem.W.Fast.tw5650012674479734434 : True := trivial
theorem PySem.W.Fast.tw8467565498134227826 : True := trivial
theorem PySem.W.Fast.tw9782162482781096082 : True := trivial
theorem PySem.W.Fast.tw3671003648224824891 : True := trivial
theorem PySem.W.Fast.tw8418793956249423529 : True := trivial
theorem PySem.W.Fast.tw8005902169873797855 : True := trivial
theorem PySem.W.Fast.tw13522993317381370572 : True := trivial
theorem PySem.W.Fast.tw2140236534728695834 : True := trivial
theorem PySem.W.Fast.tw4609222288249618498 : True := trivial
theorem PySem.W.Fast.tw4779916150780662761 : True := trivial
theorem PySem.W.Fast.tw12863699395607924140 : True := trivial
theorem PySem.W.Fast.tw13076596350896552863 : True := trivial
theorem PySem.W.Fast.tw9847835416046791274 : True := trivial
theorem PySem.W.Fast.tw13045928406701306510 : True := trivial
theorem PySem.W.Fast.tw11651201090996867747 : True := trivial
theorem PySem.W.Fast.tw17064237592133141676 : True := trivial
theorem PySem.W.Fast.tw9848920450972049797 : True := trivial
theorem PySem.W.Fast.tw3107801873649104752 : True := trivial
theorem PySem.W.Fast.tw16562517611673804174 : True := trivial
theorem PySem.W.Fast.tw8135885087072432947 : True := trivial
theorem PySem.W.Fast.tw3011014078286555681 : True := trivial
theorem PySem.W.Fast.tw2726425127240494381 : True := trivial
theorem PySem.W.Fast.tw16862190671881596531 : True := trivial
theorem PySem.W.Fast.tw3066663084211142441 : True := trivial
theorem PySem.W.Fast.tw3701957640874344091 : True := trivial
theorem PySem.W.Fast.tw3680434306882379941 : True := trivial
theorem PySem.W.Fast.tw11501764977862802408 : True := trivial
theorem PySem.W.Fast.tw6154412396082976439 : True := trivial
theorem PySem.W.Fast.tw18329612562082297874 : True := trivial
theorem PySem.W.Fast.tw6435458256558020465 : True := trivial
theorem PySem.W.Fast.tw11322934065664186738 : True := trivial
theorem PySem.W.Fast.tw4833828127717626755 : True := trivial
theorem PySem.W.Fast.tw7727967364655071342 : True := trivial
theorem PySem.W.Fast.tw2587098244815022514 : True := trivial
theorem PySem.W.Fast.tw547353811693044679 : True := trivial
theorem PySem.W.Fast.tw8774718724370389071 : True := trivial
theorem PySem.W.Fast.tw2347291466512120830 : True := trivial
theorem PySem.W.Fast.tw10795252639107471128 : True := trivial
theorem PySem.W.Fast.tw38590441316212091 : True := trivial
theorem PySem.W.Fast.tw12535417064909431199 : True := trivial
theorem PySem.W.Fast.tw12391969618564964202 : True := trivial
theorem PySem.W.Fast.tw7569909597549688845 : True := trivial
theorem PySem.W.Fast.tw16548536267192915690 : True := trivial
theorem PySem.W.Fast.tw12919012065428049704 : True := trivial
theorem PySem.W.Fast.tw3582429419883139109 : True := trivial
theorem PySem.W.Fast.tw16377882107017425043 : True := trivial
theorem PySem.W.Fast.tw12338307444723410698 : True := trivial
theorem PySem.W.Fast.tw13355136087770397918 : True := trivial
theorem PySem.W.Fast.tw9545088451971309889 : True := trivial
theorem PySem.W.Fast.tw2887176803461486233 : True := trivial
theorem PySem.W.Fast.tw331554382117632514 : True := trivial
theorem PySem.W.Fast.tw1602154243429703583 : True := trivial
theorem PySem.W.Fast.tw14311291914594482210 : True := trivial
theorem PySem.W.Fast.tw13884827986287170520 : True := trivial
theorem PySem.W.Fast.tw16317641776728817398 : True := trivial
theorem PySem.W.Fast.tw12317583978656606397 : True := trivial
theorem PySem.W.Fast.tw7679651270339883673 : True := trivial
theorem PySem.W.Fast.tw8772930878885460651 : True := trivial
theorem PySem.W.Fast.tw8352449772531388426 : True := trivial
theorem PySem.W.Fast.tw13093797630548325709 : True := trivial
theorem PySem.W.Fast.tw14164740978987094481 : True := trivial
theorem PySem.W.Fast.tw15371237221623921158 : True := trivial
theorem PySem.W.Fast.tw17375768386445514739 : True := trivial
theorem PySem.W.Fast.tw15980239381069218451 : True := trivial
theorem PySem.W.Fast.tw1638398552816513839 : True := trivial
theorem PySem.W.Fast.tw15113486314253426369 : True := trivial
theorem PySem.W.Fast.tw12255882266207184885 : True := trivial
theorem PySem.W.Fast.tw14760907078418690382 : True := trivial
theorem PySem.W.Fast.tw17082898594585464006 : True := trivial
theorem PySem.W.Fast.tw7451432741465634287 : True := trivial
theorem PySem.W.Fast.tw9129407751570686165 : True := trivial
theorem PySem.W.Fast.tw13504417415757568826 : True := trivial
theorem PySem.W.Fast.tw18121019623100305867 : True := trivial
theorem PySem.W.Fast.tw12868406109805826645 : True := trivial
theorem PySem.W.Fast.tw15003178244652956529 : True := trivial
theorem PySem.W.Fast.tw1852901185008011110 : True := trivial
theorem PySem.W.Fast.tw7927912078147498374 : True := trivial
theorem PySem.W.Fast.tw6896710959854400959 : True := trivial
theorem PySem.W.Fast.tw8611042489270895104 : True := trivial
theorem PySem.W.Fast.tw9509709020242189089 : True := trivial
theorem PySem.W.Fast.tw1152948089419898716 : True := trivial
theorem PySem.W.Fast.tw17461438346866629153 : True := trivial
theorem PySem.W.Fast.tw11828710729417579188 : True := trivial
theorem PySem.W.Fast.tw6558922345783388518 : True := trivial
theorem PySem.W.Fast.tw8445683008426649997 : True := trivial
theorem PySem.W.Fast.tw6595555869352959246 : True := trivial
theorem PySem.W.Fast.tw18241315655954672253 : True := trivial
theorem PySem.W.Fast.tw741899586617781399 : True := trivial
theorem PySem.W.Fast.tw13830937388977819566 : True := trivial
theorem PySem.W.Fast.tw1187759882544577952 : True := trivial
theorem PySem.W.Fast.tw15281104524193443213 : True := trivial
theorem PySem.W.Fast.tw4196392985750601373 : True := trivial
theorem PySem.W.Fast.tw5880896248015104596 : True := trivial
theorem PySem.W.Fast.tw5647745310893174279 : True := trivial
theorem PySem.W.Fast.tw2473307336178173007 : True := trivial
theorem PySem.W.Fast.tw9353630531252040965 : True := trivial
theorem PySem.W.Fast.tw11897902634889436148 : True := trivial
theorem PySem.W.Fast.tw10095993645098096598 : True := trivial
theorem PySem.W.Fast.tw5128033100246455297 : True := trivial
theorem PySem.W.Fast.tw1355108123893925879 : True := trivial
theorem PySem.W.Fast.tw16677324575180591714 : True := trivial
theorem PySem.W.Fast.tw16868962419492392077 : True := trivial
theorem PySem.W.Fast.tw15959528244917217508 : True := trivial
theorem PySem.W.Fast.tw7472612902866552083 : True := trivial
theorem PySem.W.Fast.tw12883445121831411488 : True := trivial
theorem PySem.W.Fast.tw7428582548273630158 : True := trivial
theorem PySem.W.Fast.tw3317639493382811179 : True := trivial
theorem PySem.W.Fast.tw12264584726369809367 : True := trivial
theorem PySem.W.Fast.tw17745766616624834307 : True := trivial
theorem PySem.W.Fast.tw3892204306769232004 : True := trivial
theorem PySem.W.Fast.tw6763247602333864585 : True := trivial
theorem PySem.W.Fast.tw13634782397630964569 : True := trivial
theorem PySem.W.Fast.tw17046574995203363580 : True := trivial
theorem PySem.W.Fast.tw15766495066562010046 : True := trivial
theorem PySem.W.Fast.tw17727152385459743159 : True := trivial
theorem PySem.W.Fast.tw9567368365584716379 : True := trivial
theorem PySem.W.Fast.tw15075328976993282932 : True := trivial
theorem PySem.W.Fast.tw10497812292142904966 : True := trivial
theorem PySem.W.Fast.tw8465379423139976094 : True := trivial
theorem PySem.W.Fast.tw1381020114297054857 : True := trivial
theorem PySem.W.Fast.tw8675813252616059437 : True := trivial
theorem PySem.W.Fast.tw9077344517848837133 : True := trivial
theorem PySem.W.Fast.tw6555706061527643490 : True := trivial
theorem PySem.W.Fast.tw16915542585189072483 : True := trivial
theorem PySem.W.Fast.tw6361843785166550096 : True := trivial
theorem PySem.W.Fast.tw2364551823546385867 : True := trivial
theorem PySem.W.Fast.tw10008232144026368872 : True := trivial
theorem PySem.W.Fast.tw16923614313351591175 : True := trivial
theorem PySem.W.Fast.tw5305424243334103379 : True := trivial
theorem PySem.W.Fast.tw7277391329334416771 : True := trivial
theorem PySem.W.Fast.tw4895600650754754571 : True := trivial
theorem PySem.W.Fast.tw8274985347719204151 : True := trivial
theorem PySem.W.Fast.tw16985921427864168006 : True := trivial
theorem PySem.W.Fast.tw13220272042597475579 : True := trivial
theorem PySem.W.Fast.tw13840722777225432972 : True := trivial
theorem PySem.W.Fast.tw13863559096246398606 : True := trivial
theorem PySem.W.Fast.tw3664287146034765013 : True := trivial
theorem PySem.W.Fast.tw10159669501632675838 : True := trivial
theorem PySem.W.Fast.tw3793889403080074009 : True := trivial
theorem PySem.W.Fast.tw17123873568135514117 : True := trivial
theorem PySem.W.Fast.tw5803519102343308867 : True := trivial
theorem PySem.W.Fast.tw11579622244898150982 : True := trivial
theorem PySem.W.Fast.tw12734705313069671022 : True := trivial
theorem PySem.W.Fast.tw8021726723950525023 : True := trivial
theorem PySem.W.Fast.tw14322805605398800404 : True := trivial
theorem PySem.W.Fast.tw5062579275290856937 : True := trivial
theorem PySem.W.Fast.tw14376986288996944765 : True := trivial
theorem PySem.W.Fast.tw4336077014919514575 : True := trivial
theorem PySem.W.Fast.tw16807676932639302441 : True := trivial
theorem PySem.W.Fast.tw1483103580077896801 : True := trivial
theorem PySem.W.Fast.tw13780199247294579189 : True := trivial
theorem PySem.W.Fast.tw4241246768143266453 : True := trivial
theorem PySem.W.Fast.tw16625862595735055161 : True := trivial
theorem PySem.W.Fast.tw7511683671768771852 : True := trivial
theorem PySem.W.Fast.tw16505497565260172228 : True := trivial
theorem PySem.W.Fast.tw9233641546356054403 : True := trivial
theorem PySem.W.Fast.tw14591131522671606016 : True := trivial
theorem PySem.W.Fast.tw14255634389242538936 : True := trivial
theorem PySem.W.Fast.tw15327316584338587931 : True := trivial
theorem PySem.W.Fast.tw366135435557469578 : True := trivial
theorem PySem.W.Fast.tw10367943290431375874 : True := trivial
theorem PySem.W.Fast.tw15867762321750494495 : True := trivial
theorem PySem.W.Fast.tw11351253044687418232 : True := trivial
theorem PySem.W.Fast.tw4646064677778279119 : True := trivial
theorem PySem.W.Fast.tw15825529622640295429 : True := trivial
theorem PySem.W.Fast.tw14749595749693050390 : True := trivial
theorem PySem.W.Fast.tw14874151574150972029 : True := trivial
theorem PySem.W.Fast.tw12698061416341307461 : True := trivial
theorem PySem.W.Fast.tw11821994185904931616 : True := trivial
theorem PySem.W.Fast.tw14646448305751248015 : True := trivial
theorem PySem.W.Fast.tw9411719474817736310 : True := trivial
theorem PySem.W.Fast.tw14251049326526131192 : True := trivial
theorem PySem.W.Fast.tw10651258867732423251 : True := trivial
theorem PySem.W.Fast.tw2837994766029470208 : True := trivial
theorem PySem.W.Fast.tw2779691601959682934 : True := trivial
theorem PySem.W.Fast.tw3260708267710144418 : True := trivial
theorem PySem.W.Fast.tw16589375692879161210 : True := trivial
theorem PySem.W.Fast.tw7657089820250884862 : True := trivial
theorem PySem.W.Fast.tw2387508337539538605 : True := trivial
theorem PySem.W.Fast.tw13916318661939981371 : True := trivial
theorem PySem.W.Fast.tw12927962004997111404 : True := trivial
theorem PySem.W.Fast.tw5578201016235443380 : True := trivial
theorem PySem.W.Fast.tw16980180336000745174 : True := trivial
theorem PySem.W.Fast.tw16520047101749969262 : True := trivial
theorem PySem.W.Fast.tw18068344753499576920 : True := trivial
theorem PySem.W.Fast.tw8158791687695343825 : True := trivial
theorem PySem.W.Fast.tw2377618936261470443 : True := trivial
theorem PySem.W.Fast.tw11571223115705747825 : True := trivial
theorem PySem.W.Fast.tw15127291925900706331 : True := trivial
theorem PySem.W.Fast.tw2164113600510567900 : True := trivial
theorem PySem.W.Fast.tw11413406714050801601 : True := trivial
theorem PySem.W.Fast.tw6471558812517072145 : True := trivial
theorem PySem.W.Fast.tw4851995222789292600 : True := trivial
theorem PySem.W.Fast.tw12454970201957334931 : True := trivial
theorem PySem.W.Fast.tw12684666576049591479 : True := trivial
theorem PySem.W.Fast.tw11473507187816793282 : True := trivial
theorem PySem.W.Fast.tw18311297411449278872 : True := trivial
theorem PySem.W.Fast.tw16334899777833460279 : True := trivial
theorem PySem.W.Fast.tw12572361110409037553 : True := trivial
theorem PySem.W.Fast.tw9974104676119599332 : True := trivial
theorem PySem.W.Fast.tw3634654777357913271 : True := trivial
theorem PySem.W.Fast.tw18095982605227893846 : True := trivial
theorem PySem.W.Fast.tw4333825041655372683 : True := trivial
theorem PySem.W.Fast.tw17281415222804428874 : True := trivial
theorem PySem.W.Fast.tw16621529852904747466 : True := trivial
theorem PySem.W.Fast.tw17414391638562610120 : True := trivial
theorem PySem.W.Fast.tw15094471704720318075 : True := trivial
theorem PySem.W.Fast.tw9239627560822001687 : True := trivial
theorem PySem.W.Fast.tw12654544443464226421 : True := trivial
theorem PySem.W.Fast.tw5791872374227371046 : True := trivial
theorem PySem.W.Fast.tw5651168081229806097 : True := trivial
theorem PySem.W.Fast.tw6974460472081596754 : True := trivial
theorem PySem.W.Fast.tw10903656040256095204 : True := trivial
theorem PySem.W.Fast.tw168055072353997484 : True := trivial
theorem PySem.W.Fast.tw3386378983971336340 : True := trivial
theorem PySem.W.Fast.tw1136332207243551974 : True := trivial
theorem PySem.W.Fast.tw8615318901256533493 : True := trivial
theorem PySem.W.Fast.tw10586117403177875674 : True := trivial
theorem PySem.W.Fast.tw6613136441216508812 : True := trivial
theorem PySem.W.Fast.tw6015362284623595047 : True := trivial
theorem PySem.W.Fast.tw8136261223568636857 : True := trivial
theorem PySem.W.Fast.tw14852147452393550588 : True := trivial
theorem PySem.W.Fast.tw4020295587542050327 : True := trivial
theorem PySem.W.Fast.tw12122041836311127665 : True := trivial
theorem PySem.W.Fast.tw1967637346126448592 : True := trivial
theorem PySem.W.Fast.tw16305390605967225775 : True := trivial
theorem PySem.W.Fast.tw14562972974221833780 : True := trivial
theorem PySem.W.Fast.tw16433142908874347829 : True := trivial
theorem PySem.W.Fast.tw18165272106200268876 : True := trivial
theorem PySem.W.Fast.tw18092832635373951127 : True := trivial
theorem PySem.W.Fast.tw10615535807288503456 : True := trivial
theorem PySem.W.Fast.tw9056194995156796106 : True := trivial
theorem PySem.W.Fast.tw11930543699755261864 : True := trivial
theorem PySem.W.Fast.tw12445183538676111901 : True := trivial
theorem PySem.W.Fast.tw5804235476423260511 : True := trivial
theorem PySem.W.Fast.tw93993837475131619 : True := trivial
theorem PySem.W.Fast.tw5747478702317547164 : True := trivial
theorem PySem.W.Fast.tw250861694721984166 : True := trivial
theorem PySem.W.Fast.tw16699913265636907838 : True := trivial
theorem PySem.W.Fast.tw15178489025547302776 : True := trivial
theorem PySem.W.Fast.tw3990236416772945017 : True := trivial
theorem PySem.W.Fast.tw847795707515432946 : True := trivial
theorem PySem.W.Fast.tw5787765089639271137 : True := trivial
theorem PySem.W.Fast.tw3284181831352034154 : True := trivial
theorem PySem.W.Fast.tw7111286194735871491 : True := trivial
theorem PySem.W.Fast.tw5683512702785462319 : True := trivial
theorem PySem.W.Fast.tw4371077649418322497 : True := trivial
theorem PySem.W.Fast.tw9771341499191141776 : True := trivial
theorem PySem.W.Fast.tw14513856556540932740 : True := trivial
theorem PySem.W.Fast.tw15570136116057289299 : True := trivial
theorem PySem.W.Fast.tw4126107113137185609 : True := trivial
theorem PySem.W.Fast.tw6570686885268398784 : True := trivial
theorem PySem.W.Fast.tw6450866559218988440 : True := trivial
theorem PySem.W.Fast.tw14836613066923118456 : True := trivial
theorem PySem.W.Fast.tw10788848312821877198 : True := trivial
theorem PySem.W.Fast.tw12387751051077931576 : True := trivial
theorem PySem.W.Fast.tw1784762568386017059 : True := trivial
theorem PySem.W.Fast.tw11584119069816958103 : True := trivial
theorem PySem.W.Fast.tw13559087868005320165 : True := trivial
theorem PySem.W.Fast.tw9746526841261466115 : True := trivial
theorem PySem.W.Fast.tw12627732158574656798 : True := trivial
theorem PySem.W.Fast.tw13234603590213019253 : True := trivial
theorem PySem.W.Fast.tw18065986672321040857 : True := trivial
theorem PySem.W.Fast.tw10477551237580967327 : True := trivial
theorem PySem.W.Fast.tw16324083926876718782 : True := trivial
theorem PySem.W.Fast.tw12803071902720702087 : True := trivial
theorem PySem.W.Fast.tw2800814080895276410 : True := trivial
theorem PySem.W.Fast.tw911686869144419674 : True := trivial
theorem PySem.W.Fast.tw9261874091158891777 : True := trivial
theorem PySem.W.Fast.tw11509735620127230346 : True := trivial
theorem PySem.W.Fast.tw1718044381736245166 : True := trivial
theorem PySem.W.Fast.tw2561851713135394520 : True := trivial
theorem PySem.W.Fast.tw4528799489179573480 : True := trivial
theorem PySem.W.Fast.tw9056424041928531112 : True := trivial
theorem PySem.W.Fast.tw14800764869849592590 : True := trivial
theorem PySem.W.Fast.tw16640093695860409184 : True := trivial
theorem PySem.W.Fast.tw12327050355535526386 : True := trivial
theorem PySem.W.Fast.tw16899143644833736211 : True := trivial
theorem PySem.W.Fast.tw4639357127068555117 : True := trivial
theorem PySem.W.Fast.tw16856514294890852964 : True := trivial
theorem PySem.W.Fast.tw9762836627662250207 : True := trivial
theorem PySem.W.Fast.tw6208315870555010962 : True := trivial
theorem PySem.W.Fast.tw8455710108584130835 : True := trivial
theorem PySem.W.Fast.tw5275706403186862739 : True := trivial
theorem PySem.W.Fast.tw13454215640594960551 : True := trivial
theorem PySem.W.Fast.tw1835096485609256938 : True := trivial
theorem PySem.W.Fast.tw15340965065357851405 : True := trivial
theorem PySem.W.Fast.tw8426339609744391187 : True := trivial
theorem PySem.W.Fast.tw9276249524799044421 : True := trivial
theorem PySem.W.Fast.tw1203608622867911467 : True := trivial
theorem PySem.W.Fast.tw14786523075194943515 : True := trivial
theorem PySem.W.Fast.tw2069941810302363759 : True := trivial
theorem PySem.W.Fast.tw9080593656705709171 : True := trivial
theorem PySem.W.Fast.tw17402097150349456000 : True := trivial
theorem PySem.W.Fast.tw14295969432571980373 : True := trivial
theorem PySem.W.Fast.tw6345626894671058231 : True := trivial
theorem PySem.W.Fast.tw9687756483777936897 : True := trivial
theorem PySem.W.Fast.tw4458956418251196284 : True := trivial
theorem PySem.W.Fast.tw12409542628401464917 : True := trivial
theorem PySem.W.Fast.tw12384671804286861282 : True := trivial
theorem PySem.W.Fast.tw15288643405208875854 : True := trivial
theorem PySem.W.Fast.tw9856024373057359717 : True := trivial
theorem PySem.W.Fast.tw11621892456610975781 : True := trivial
theorem PySem.W.Fast.tw4177758741627477328 : True := trivial
theorem PySem.W.Fast.tw774542417238428687 : True := trivial
theorem PySem.W.Fast.tw2021536680240630464 : True := trivial
theorem PySem.W.Fast.tw13145834321670287123 : True := trivial
theorem PySem.W.Fast.tw840099162388311223 : True := trivial
theorem PySem.W.Fast.tw10998317645875339475 : True := trivial
theorem PySem.W.Fast.tw13349923908143578484 : True := trivial
theorem PySem.W.Fast.tw14997840385037727473 : True := trivial
theorem PySem.W.Fast.tw11078393077971667686 : True := trivial
theorem PySem.W.Fast.tw1118316581193762887 : True := trivial
theorem PySem.W.Fast.tw6558405866435813428 : True := trivial
theorem PySem.W.Fast.tw4934257714613150189 : True := trivial
theorem PySem.W.Fast.tw13335003841293591359 : True := trivial
theorem PySem.W.Fast.tw14470304577748720641 : True := trivial
theorem PySem.W.Fast.tw17821424328304953154 : True := trivial
theorem PySem.W.Fast.tw1014504183598425321 : True := trivial
theorem PySem.W.Fast.tw7032859986725218718 : True := trivial
theorem PySem.W.Fast.tw15978304479055366301 : True := trivial
theorem PySem.W.Fast.tw11557382243682577337 : True := trivial
theorem PySem.W.Fast.tw1792301912819550328 : True := trivial
theorem PySem.W.Fast.tw175440470701893644 : True := trivial
theorem PySem.W.Fast.tw13546400686702264506 : True := trivial
theorem PySem.W.Fast.tw2562591220785017497 : True := trivial
theorem PySem.W.Fast.tw7253316010171253913 : True := trivial
theorem PySem.W.Fast.tw739701795195074328 : True := trivial
theorem PySem.W.Fast.tw15276859562118556944 : True := trivial
theorem PySem.W.Fast.tw16210210151406885985 : True := trivial
theorem PySem.W.Fast.tw902259108597259884 : True := trivial
theorem PySem.W.Fast.tw6489903741358190636 : True := trivial
theorem PySem.W.Fast.tw699987849722016419 : True := trivial
theorem PySem.W.Fast.tw12670754835481020631 : True := trivial
theorem PySem.W.Fast.tw10554765572191067146 : True := trivial
theorem PySem.W.Fast.tw15181019635956279707 : True := trivial
theorem PySem.W.Fast.tw11355645153077895411 : True := trivial
theorem PySem.W.Fast.tw7667522505096704734 : True := trivial
theorem PySem.W.Fast.tw12585805872567861591 : True := trivial
theorem PySem.W.Fast.tw5935793539897148958 : True := trivial
theorem PySem.W.Fast.tw13667896743977441438 : True := trivial
theorem PySem.W.Fast.tw2592471823812397055 : True := trivial
theorem PySem.W.Fast.tw3453057615136822080 : True := trivial
theorem PySem.W.Fast.tw16795338199846398633 : True := trivial
theorem PySem.W.Fast.tw5074081409090482356 : True := trivial
theorem PySem.W.Fast.tw9690220778219005086 : True := trivial
theorem PySem.W.Fast.tw12296502462164553041 : True := trivial
theorem PySem.W.Fast.tw10725412739292571559 : True := trivial
theorem PySem.W.Fast.tw9842612141020261979 : True := trivial
theorem PySem.W.Fast.tw1599960082743512417 : True := trivial
theorem PySem.W.Fast.tw14123540827087923406 : True := trivial
theorem PySem.W.Fast.tw10728348117005701698 : True := trivial
theorem PySem.W.Fast.tw1229920534069892686 : True := trivial
theorem PySem.W.Fast.tw1635223831496880031 : True := trivial
theorem PySem.W.Fast.tw5699325797691308712 : True := trivial
theorem PySem.W.Fast.tw1326223867992660959 : True := trivial
theorem PySem.W.Fast.tw11727899640361704068 : True := trivial
theorem PySem.W.Fast.tw16505583771885646493 : True := trivial
theorem PySem.W.Fast.tw4915251198072177704 : True := trivial
theorem PySem.W.Fast.tw10559715965252846098 : True := trivial
theorem PySem.W.Fast.tw2763758625242717834 : True := trivial
theorem PySem.W.Fast.tw3150361669108549950 : True := trivial
theorem PySem.W.Fast.tw643961076771175183 : True := trivial
theorem PySem.W.Fast.tw5480984178324454204 : True := trivial
theorem PySem.W.Fast.tw15661176390138936846 : True := trivial
theorem PySem.W.Fast.tw10775002591209063634 : True := trivial
theorem PySem.W.Fast.tw9735859639851646583 : True := trivial
theorem PySem.W.Fast.tw11958431456130367199 : True := trivial
theorem PySem.W.Fast.tw12050127129727709057 : True := trivial
theorem PySem.W.Fast.tw2014633676056556961 : True := trivial
theorem PySem.W.Fast.tw9336549719103267487 : True := trivial
theorem PySem.W.Fast.tw7382635915188538292 : True := trivial
theorem PySem.W.Fast.tw16471266659804569698 : True := trivial
theorem PySem.W.Fast.tw12422628883263334386 : True := trivial
theorem PySem.W.Fast.tw13959810970156328461 : True := trivial
theorem PySem.W.Fast.tw5438181344570652730 : True := trivial
theorem PySem.W.Fast.tw11135680953993614408 : True := trivial
theorem PySem.W.Fast.tw16463341888485746213 : True := trivial
theorem PySem.W.Fast.tw17595497684104530885 : True := trivial
theorem PySem.W.Fast.tw774619446684855678 : True := trivial
theorem PySem.W.Fast.tw6812269952686619424 : True := trivial
theorem PySem.W.Fast.tw4524950986880087118 : True := trivial
theorem PySem.W.Fast.tw13354016449821538250 : True := trivial
theorem PySem.W.Fast.tw12176256600974670248 : True := trivial
theorem PySem.W.Fast.tw7974880319502813315 : True := trivial
theorem PySem.W.Fast.tw15038362701723852459 : True := trivial
theorem PySem.W.Fast.tw8688289799862594523 : True := trivial
theorem PySem.W.Fast.tw13946582990251305666 : True := trivial
theorem PySem.W.Fast.tw4476212117871215711 : True := trivial
theorem PySem.W.Fast.tw11431423201753270971 : True := trivial
theorem PySem.W.Fast.tw9904235467456598802 : True := trivial
theorem PySem.W.Fast.tw3978289602155377843 : True := trivial
theorem PySem.W.Fast.tw5135209443599568176 : True := trivial
theorem PySem.W.Fast.tw13064106557823501733 : True := trivial
theorem PySem.W.Fast.tw6723759267272779176 : True := trivial
theorem PySem.W.Fast.tw15570969942710880729 : True := trivial
theorem PySem.W.Fast.tw8468048954876317536 : True := trivial
theorem PySem.W.Fast.tw15865552173185122318 : True := trivial
theorem PySem.W.Fast.tw7890134549270728775 : True := trivial
theorem PySem.W.Fast.tw4135347559487277426 : True := trivial
theorem PySem.W.Fast.tw689390945793252672 : True := trivial
theorem PySem.W.Fast.tw10203011881557742603 : True := trivial
theorem PySem.W.Fast.tw2906693044274720882 : True := trivial
theorem PySem.W.Fast.tw12785012813884120221 : True := trivial
theorem PySem.W.Fast.tw10163720250358656113 : True := trivial
theorem PySem.W.Fast.tw13456214063184025307 : True := trivial
theorem PySem.W.Fast.tw14085196808751136602 : True := trivial
theorem PySem.W.Fast.tw17912587300539681233 : True := trivial
theorem PySem.W.Fast.tw12588347753207963584 : True := trivial
theorem PySem.W.Fast.tw4444114373080353074 : True := trivial
theorem PySem.W.Fast.tw12441410528947027081 : True := trivial
theorem PySem.W.Fast.tw18053833474572632391 : True := trivial
theorem PySem.W.Fast.tw9305881053753675830 : True := trivial
theorem PySem.W.Fast.tw14525682618981064933 : True := trivial
theorem PySem.W.Fast.tw3347158177302238488 : True := trivial
theorem PySem.W.Fast.tw17729614014588645633 : True := trivial
theorem PySem.W.Fast.tw9419462734681388100 : True := trivial
theorem PySem.W.Fast.tw17434163938407898464 : True := trivial
theorem PySem.W.Fast.tw13972458058230686790 : True := trivial
theorem PySem.W.Fast.tw9818109175181245435 : True := trivial
theorem PySem.W.Fast.tw4714406856186202615 : True := trivial
theorem PySem.W.Fast.tw12890457083890377225 : True := trivial
theorem PySem.W.Fast.tw10424276035160020707 : True := trivial
theorem PySem.W.Fast.tw11280952100733246457 : True := trivial
theorem PySem.W.Fast.tw13304544965879602604 : True := trivial
theorem PySem.W.Fast.tw12011364545233519266 : True := trivial
theorem PySem.W.Fast.tw8194796517084321496 : True := trivial
theorem PySem.W.Fast.tw1667050536062883820 : True := trivial
theorem PySem.W.Fast.tw14730622800131071489 : True := trivial
theorem PySem.W.Fast.tw12892438198415491306 : True := trivial
theorem PySem.W.Fast.tw9925444635700783115 : True := trivial
theorem PySem.W.Fast.tw3098111287460689058 : True := trivial
theorem PySem.W.Fast.tw4407235512644439655 : True := trivial
theorem PySem.W.Fast.tw10644546410112229292 : True := trivial
theorem PySem.W.Fast.tw9763294245624021904 : True := trivial
theorem PySem.W.Fast.tw9616835607917620908 : True := trivial
theorem PySem.W.Fast.tw15082481981118454760 : True := trivial
theorem PySem.W.Fast.tw16629430979223191521 : True := trivial
theorem PySem.W.Fast.tw2324111343040748441 : True := trivial
theorem PySem.W.Fast.tw13402864503005907422 : True := trivial
theorem PySem.W.Fast.tw13274519908653154960 : True := trivial
theorem PySem.W.Fast.tw10077550937112921392 : True := trivial
theorem PySem.W.Fast.tw14147328081288520606 : True := trivial
theorem PySem.W.Fast.tw6198435035393819510 : True := trivial
theorem PySem.W.Fast.tw207371889082183661 : True := trivial
theorem PySem.W.Fast.tw4339315061917333225 : True := trivial
theorem PySem.W.Fast.tw874878743142964330 : True := trivial
theorem PySem.W.Fast.tw6659756881976594582 : True := trivial
theorem PySem.W.Fast.tw2120303233666049049 : True := trivial
theorem PySem.W.Fast.tw2854395597698307605 : True := trivial
theorem PySem.W.Fast.tw7979747184406808460 : True := trivial
theorem PySem.W.Fast.tw1093916103250725569 : True := trivial
theorem PySem.W.Fast.tw1158865456238758453 : True := trivial
theorem PySem.W.Fast.tw7821487866827373628 : True := trivial
theorem PySem.W.Fast.tw14994774889967902145 : True := trivial
theorem PySem.W.Fast.tw5258501222676289083 : True := trivial
theorem PySem.W.Fast.tw14125503293487654064 : True := trivial
theorem PySem.W.Fast.tw10107020310665045102 : True := trivial
theorem PySem.W.Fast.tw8486787419904686351 : True := trivial
theorem PySem.W.Fast.tw13626142276621791583 : True := trivial
theorem PySem.W.Fast.tw11999199286227279628 : True := trivial
theorem PySem.W.Fast.tw12227928154806681482 : True := trivial
theorem PySem.W.Fast.tw492567035158044496 : True := trivial
theorem PySem.W.Fast.tw12937491536477414710 : True := trivial
theorem PySem.W.Fast.tw12202552842036303722 : True := trivial
theorem PySem.W.Fast.tw8827316366000835191 : True := trivial
theorem PySem.W.Fast.tw17861989375726453556 : True := trivial
theorem PySem.W.Fast.tw6568009250448595180 : True := trivial
theorem PySem.W.Fast.tw8141037602213784675 : True := trivial
theorem PySem.W.Fast.tw1109151501893966721 : True := trivial
theorem PySem.W.Fast.tw15483857171884974682 : True := trivial
theorem PySem.W.Fast.tw3746045991060389871 : True := trivial
theorem PySem.W.Fast.tw10614216591541650377 : True := trivial
theorem PySem.W.Fast.tw14297754043175600266 : True := trivial
theorem PySem.W.Fast.tw5704342965931311495 : True := trivial
theorem PySem.W.Fast.tw3005254514493271438 : True := trivial
theorem PySem.W.Fast.tw13635997942665820949 : True := trivial
theorem PySem.W.Fast.tw10331618810305772207 : True := trivial
theorem PySem.W.Fast.tw8262085373778769902 : True := trivial
theorem PySem.W.Fast.tw12436261121548582187 : True := trivial
theorem PySem.W.Fast.tw17372190335539101163 : True := trivial
theorem PySem.W.Fast.tw14763068696824523092 : True := trivial
theorem PySem.W.Fast.tw6270709635909326354 : True := trivial
theorem PySem.W.Fast.tw177431260922240234 : True := trivial
theorem PySem.W.Fast.tw3121095897162423529 : True := trivial
theorem PySem.W.Fast.tw1924157279350005172 : True := trivial
theorem PySem.W.Fast.tw11414929427766354845 : True := trivial
theorem PySem.W.Fast.tw11211330078254528011 : True := trivial
theorem PySem.W.Fast.tw6892575952095968304 : True := trivial
theorem PySem.W.Fast.tw16667995272703068596 : True := trivial
theorem PySem.W.Fast.tw14109822177009583711 : True := trivial
theorem PySem.W.Fast.tw4394145260194489231 : True := trivial
theorem PySem.W.Fast.tw12281322103501018324 : True := trivial
theorem PySem.W.Fast.tw11581836861151274709 : True := trivial
theorem PySem.W.Fast.tw17592237531902638934 : True := trivial
theorem PySem.W.Fast.tw6724100649379953316 : True := trivial
theorem PySem.W.Fast.tw16945505889703275803 : True := trivial
theorem PySem.W.Fast.tw17786130490727952212 : True := trivial
theorem PySem.W.Fast.tw3486907934941241679 : True := trivial
theorem PySem.W.Fast.tw3093958529790216458 : True := trivial
theorem PySem.W.Fast.tw4737981356687175038 : True := trivial
theorem PySem.W.Fast.tw3658288636493466686 : True := trivial
theorem PySem.W.Fast.tw14338517749869402886 : True := trivial
theorem PySem.W.Fast.tw18326234597173478805 : True := trivial
theorem PySem.W.Fast.tw9437376934228426168 : True := trivial
theorem PySem.W.Fast.tw3098399546374328228 : True := trivial
theorem PySem.W.Fast.tw3735305178083514794 : True := trivial
theorem PySem.W.Fast.tw18146887900885551142 : True := trivial
theorem PySem.W.Fast.tw1333190248844983207 : True := trivial
theorem PySem.W.Fast.tw10093066980595537655 : True := trivial
theorem PySem.W.Fast.tw17402970037293736097 : True := trivial
theorem PySem.W.Fast.tw458019644411522650 : True := trivial
theorem PySem.W.Fast.tw9861191295854782038 : True := trivial
theorem PySem.W.Fast.tw5550222661936671509 : True := trivial
theorem PySem.W.Fast.tw3250303801431750467 : True := trivial
theorem PySem.W.Fast.tw3042548515693985952 : True := trivial
theorem PySem.W.Fast.tw18159839935962560721 : True := trivial
theorem PySem.W.Fast.tw15670589763837846317 : True := trivial
theorem PySem.W.Fast.tw4329225770351374232 : True := trivial
theorem PySem.W.Fast.tw1369213662931055409 : True := trivial
theorem PySem.W.Fast.tw4431581714753635241 : True := trivial
theorem PySem.W.Fast.tw2205733757016456479 : True := trivial
theorem PySem.W.Fast.tw9120004322383239738 : True := trivial
theorem PySem.W.Fast.tw10406616500792426840 : True := trivial
theorem PySem.W.Fast.tw11120270701619458042 : True := trivial
theorem PySem.W.Fast.tw10844376308189479558 : True := trivial
theorem PySem.W.Fast.tw12659666705857441393 : True := trivial
theorem PySem.W.Fast.tw9349639661323494869 : True := trivial
theorem PySem.W.Fast.tw16118972414232515255 : True := trivial
theorem PySem.W.Fast.tw6988335121068721713 : True := trivial
theorem PySem.W.Fast.tw3184298192418522097 : True := trivial
theorem PySem.W.Fast.tw10115113909578390388 : True := trivial
theorem PySem.W.Fast.tw2523395985149518994 : True := trivial
theorem PySem.W.Fast.tw18038394846621484442 : True := trivial
theorem PySem.W.Fast.tw2667213516778373957 : True := trivial
theorem PySem.W.Fast.tw9800604277763082825 : True := trivial
theorem PySem.W.Fast.tw13025217761296809265 : True := trivial
theorem PySem.W.Fast.tw922042006411834128 : True := trivial
theorem PySem.W.Fast.tw10090314352801789624 : True := trivial
theorem PySem.W.Fast.tw14709615336243352276 : True := trivial
theorem PySem.W.Fast.tw15912285112947503324 : True := trivial
theorem PySem.W.Fast.tw12061009270860642483 : True := trivial
theorem PySem.W.Fast.tw17571918181503480925 : True := trivial
theorem PySem.W.Fast.tw12896415479753848213 : True := trivial
theorem PySem.W.Fast.tw9779635467215317024 : True := trivial
theorem PySem.W.Fast.tw14337229902808235379 : True := trivial
theorem PySem.W.Fast.tw9619549687242434384 : True := trivial
theorem PySem.W.Fast.tw12479951963464200643 : True := trivial
theorem PySem.W.Fast.tw5649977914213955466 : True := trivial
theorem PySem.W.Fast.tw9152501632608214924 : True := trivial
theorem PySem.W.Fast.tw16223754253179739448 : True := trivial
theorem PySem.W.Fast.tw8135445417096100363 : True := trivial
theorem PySem.W.Fast.tw14211864634117391413 : True := trivial
theorem PySem.W.Fast.tw14040276112625260999 : True := trivial
theorem PySem.W.Fast.tw9500223506506599164 : True := trivial
theorem PySem.W.Fast.tw8118582063722294013 : True := trivial
theorem PySem.W.Fast.tw14570516278326112496 : True := trivial
theorem PySem.W.Fast.tw3520261865893089241 : True := trivial
theorem PySem.W.Fast.tw2317081264741883438 : True := trivial
theorem PySem.W.Fast.tw5151846132480325154 : True := trivial
theorem PySem.W.Fast.tw6808747627803338011 : True := trivial
theorem PySem.W.Fast.tw9272321716312161197 : True := trivial
theorem PySem.W.Fast.tw6732112683196196847 : True := trivial
theorem PySem.W.Fast.tw10309253069604868708 : True := trivial
theorem PySem.W.Fast.tw14468611994615915897 : True := trivial
theorem PySem.W.Fast.tw7094534475622217260 : True := trivial
theorem PySem.W.Fast.tw753137163746651188 : True := trivial
theorem PySem.W.Fast.tw8897407774247742234 : True := trivial
theorem PySem.W.Fast.tw3072256575538620899 : True := trivial
theorem PySem.W.Fast.tw8054751483662918299 : True := trivial
theorem PySem.W.Fast.tw3098302466605906833 : True := trivial
theorem PySem.W.Fast.tw6198243605956618394 : True := trivial
theorem PySem.W.Fast.tw5763143020017272773 : True := trivial
theorem PySem.W.Fast.tw9908531114829033376 : True := trivial
theorem PySem.W.Fast.tw2298369054848776565 : True := trivial
theorem PySem.W.Fast.tw18177120617362195491 : True := trivial
theorem PySem.W.Fast.tw10562727944228648068 : True := trivial
theorem PySem.W.Fast.tw8609554783853091045 : True := trivial
theorem PySem.W.Fast.tw1095126762708103208 : True := trivial
theorem PySem.W.Fast.tw7411981832436750971 : True := trivial
theorem PySem.W.Fast.tw5153649196477167106 : True := trivial
theorem PySem.W.Fast.tw11868478478409448304 : True := trivial
theorem PySem.W.Fast.tw2680041435297164806 : True := trivial
theorem PySem.W.Fast.tw9731088645608299697 : True := trivial
theorem PySem.W.Fast.tw14138968598861462015 : True := trivial
theorem PySem.W.Fast.tw16394342015109638512 : True := trivial
theorem PySem.W.Fast.tw975471124613435711 : True := trivial
theorem PySem.W.Fast.tw16876705238462437421 : True := trivial
theorem PySem.W.Fast.tw11075025169468546964 : True := trivial
theorem PySem.W.Fast.tw6492475514785078277 : True := trivial
theorem PySem.W.Fast.tw5051021956134372743 : True := trivial
theorem PySem.W.Fast.tw363778166117414385 : True := trivial
theorem PySem.W.Fast.tw8136804712021262889 : True := trivial
theorem PySem.W.Fast.tw18055223897641615473 : True := trivial
theorem PySem.W.Fast.tw4302555178868587583 : True := trivial
theorem PySem.W.Fast.tw13722027280647853873 : True := trivial
theorem PySem.W.Fast.tw9975700072439628077 : True := trivial
theorem PySem.W.Fast.tw11705078810454372672 : True := trivial
theorem PySem.W.Fast.tw17540241947365867065 : True := trivial
theorem PySem.W.Fast.tw9222853599236872623 : True := trivial
theorem PySem.W.Fast.tw10263021891652067976 : True := trivial
theorem PySem.W.Fast.tw9660890956073417099 : True := trivial
theorem PySem.W.Fast.tw367009766976309766 : True := trivial
theorem PySem.W.Fast.tw2416026530150903225 : True := trivial
theorem PySem.W.Fast.tw2427889240564089474 : True := trivial
theorem PySem.W.Fast.tw16412562246644616883 : True := trivial
theorem PySem.W.Fast.tw3808549481296750492 : True := trivial
theorem PySem.W.Fast.tw9125732228574973469 : True := trivial
theorem PySem.W.Fast.tw17267105650522785864 : True := trivial
theorem PySem.W.Fast.tw1620833980717657869 : True := trivial
theorem PySem.W.Fast.tw3313049407199720453 : True := trivial
theorem PySem.W.Fast.tw788806654789666009 : True := trivial
theorem PySem.W.Fast.tw13904108958552706785 : True := trivial
theorem PySem.W.Fast.tw5038474031088997032 : True := trivial
theorem PySem.W.Fast.tw13435201857892856559 : True := trivial
theorem PySem.W.Fast.tw6577602609379505588 : True := trivial
theorem PySem.W.Fast.tw234131766471198174 : True := trivial
theorem PySem.W.Fast.tw13474265136728124593 : True := trivial
theorem PySem.W.Fast.tw2756982840755138334 : True := trivial
theorem PySem.W.Fast.tw6260363144190014705 : True := trivial
theorem PySem.W.Fast.tw8557358243466892486 : True := trivial
theorem PySem.W.Fast.tw6448520457323446506 : True := trivial
theorem PySem.W.Fast.tw16753520325275326425 : True := trivial
theorem PySem.W.Fast.tw16971536426609738978 : True := trivial
theorem PySem.W.Fast.tw5671449275639625900 : True := trivial
theorem PySem.W.Fast.tw3209020895480488068 : True := trivial
theorem PySem.W.Fast.tw9133306851894260114 : True := trivial
theorem PySem.W.Fast.tw16935954402109228224 : True := trivial
theorem PySem.W.Fast.tw4531304210162203612 : True := trivial
theorem PySem.W.Fast.tw11480888371738288709 : True := trivial
theorem PySem.W.Fast.tw6154774054836684816 : True := trivial
theorem PySem.W.Fast.tw837464680101662014 : True := trivial
theorem PySem.W.Fast.tw13407047954290788609 : True := trivial
theorem PySem.W.Fast.tw3076347340245830604 : True := trivial
theorem PySem.W.Fast.tw6118707450916927817 : True := trivial
theorem PySem.W.Fast.tw2996985873822753592 : True := trivial
theorem PySem.W.Fast.tw15259867097734722595 : True := trivial
theorem PySem.W.Fast.tw2747005914684620943 : True := trivial
theorem PySem.W.Fast.tw12335033904668811382 : True := trivial
theorem PySem.W.Fast.tw1636208794591174696 : True := trivial
theorem PySem.W.Fast.tw8773348152766673154 : True := trivial
theorem PySem.W.Fast.tw16663814498105724067 : True := trivial
theorem PySem.W.Fast.tw8527958139206292020 : True := trivial
theorem PySem.W.Fast.tw5988745566730160689 : True := trivial
theorem PySem.W.Fast.tw7001847940423371492 : True := trivial
theorem PySem.W.Fast.tw10597568865041556371 : True := trivial
theorem PySem.W.Fast.tw13041026098358283941 : True := trivial
theorem PySem.W.Fast.tw8471269313644783672 : True := trivial
theorem PySem.W.Fast.tw8360300411140979905 : True := trivial
theorem PySem.W.Fast.tw15839739134617250832 : True := trivial
theorem PySem.W.Fast.tw15307150635430672657 : True := trivial
theorem PySem.W.Fast.tw10229119991707824759 : True := trivial
theorem PySem.W.Fast.tw13986560380132463168 : True := trivial
theorem PySem.W.Fast.tw4999906667036002805 : True := trivial
theorem PySem.W.Fast.tw11955767056350347383 : True := trivial
theorem PySem.W.Fast.tw18051921819410789532 : True := trivial
theorem PySem.W.Fast.tw9613399896316972705 : True := trivial
theorem PySem.W.Fast.tw11349630457474139081 : True := trivial
theorem PySem.W.Fast.tw8298917299861624378 : True := trivial
theorem PySem.W.Fast.tw4393951689980699587 : True := trivial
theorem PySem.W.Fast.tw15993317019103194394 : True := trivial
theorem PySem.W.Fast.tw603881177119012004 : True := trivial
theorem PySem.W.Fast.tw8036474729239971958 : True := trivial
theorem PySem.W.Fast.tw12102907177965881256 : True := trivial
theorem PySem.W.Fast.tw18188398728956260529 : True := trivial
theorem PySem.W.Fast.tw1411268046822894714 : True := trivial
theorem PySem.W.Fast.tw9563648454255538881 : True := trivial
theorem PySem.W.Fast.tw15070403590219207798 : True := trivial
theorem PySem.W.Fast.tw14233794436206791951 : True := trivial
theorem PySem.W.Fast.tw10938699717404170534 : True := trivial
theorem PySem.W.Fast.tw9502763371908670969 : True := trivial
theorem PySem.W.Fast.tw1989026420292280484 : True := trivial
theorem PySem.W.Fast.tw13678869683723237339 : True := trivial
theorem PySem.W.Fast.tw17930556054749012360 : True := trivial
theorem PySem.W.Fast.tw2191474562306464414 : True := trivial
theorem PySem.W.Fast.tw17634766533738187730 : True := trivial
theorem PySem.W.Fast.tw9700964261956109612 : True := trivial
theorem PySem.W.Fast.tw8001687999016914406 : True := trivial
theorem PySem.W.Fast.tw13683792391573551249 : True := trivial
theorem PySem.W.Fast.tw5466515036078866573 : True := trivial
theorem PySem.W.Fast.tw16610108325360441534 : True := trivial
theorem PySem.W.Fast.tw2230202036215953120 : True := trivial
theorem PySem.W.Fast.tw2773386844261366260 : True := trivial
theorem PySem.W.Fast.tw10062362360315198032 : True := trivial
theorem PySem.W.Fast.tw745929850088937248 : True := trivial
theorem PySem.W.Fast.tw17865115064325800809 : True := trivial
theorem PySem.W.Fast.tw8670014659226837927 : True := trivial
theorem PySem.W.Fast.tw196781808940389994 : True := trivial
theorem PySem.W.Fast.tw3128147829220779915 : True := trivial
theorem PySem.W.Fast.tw16876525000053079187 : True := trivial
theorem PySem.W.Fast.tw17670846446563046184 : True := trivial
theorem PySem.W.Fast.tw3927249891826146763 : True := trivial
theorem PySem.W.Fast.tw2835288805994216434 : True := trivial
theorem PySem.W.Fast.tw9233054593304696760 : True := trivial
theorem PySem.W.Fast.tw17980655880688514792 : True := trivial
theorem PySem.W.Fast.tw4333774319874840538 : True := trivial
theorem PySem.W.Fast.tw4514482409709861355 : True := trivial
theorem PySem.W.Fast.tw111793612071205317 : True := trivial
theorem PySem.W.Fast.tw7758701465678675809 : True := trivial
theorem PySem.W.Fast.tw13014940626588218033 : True := trivial
theorem PySem.W.Fast.tw5069696723918274882 : True := trivial
theorem PySem.W.Fast.tw8607015493738028808 : True := trivial
theorem PySem.W.Fast.tw4847383981021767553 : True := trivial
theorem PySem.W.Fast.tw12758077925357044234 : True := trivial
theorem PySem.W.Fast.tw13843632273474358404 : True := trivial
theorem PySem.W.Fast.tw4686366267882094492 : True := trivial
theorem PySem.W.Fast.tw7980432060430594494 : True := trivial
theorem PySem.W.Fast.tw15959907428678570488 : True := trivial
theorem PySem.W.Fast.tw16406641958624707781 : True := trivial
theorem PySem.W.Fast.tw13735607617175457508 : True := trivial
theorem PySem.W.Fast.tw6220320561338635667 : True := trivial
theorem PySem.W.Fast.tw7548063862814093468 : True := trivial
theorem PySem.W.Fast.tw10957397274961726834 : True := trivial
theorem PySem.W.Fast.tw13219798052813479943 : True := trivial
theorem PySem.W.Fast.tw17988485646735796543 : True := trivial
theorem PySem.W.Fast.tw11560984856958049825 : True := trivial
theorem PySem.W.Fast.tw3722817470048244814 : True := trivial
theorem PySem.W.Fast.tw14985097558126943888 : True := trivial
theorem PySem.W.Fast.tw8741504885127014208 : True := trivial
theorem PySem.W.Fast.tw343680726529150333 : True := trivial
theorem PySem.W.Fast.tw3633832259397041189 : True := trivial
theorem PySem.W.Fast.tw8575724491400840767 : True := trivial
theorem PySem.W.Fast.tw4439038594729789692 : True := trivial
theorem PySem.W.Fast.tw3449297268390068134 : True := trivial
theorem PySem.W.Fast.tw8847715643072268882 : True := trivial
theorem PySem.W.Fast.tw17901922788778258915 : True := trivial
theorem PySem.W.Fast.tw4542080045971436301 : True := trivial
theorem PySem.W.Fast.tw5103109478316475887 : True := trivial
theorem PySem.W.Fast.tw2364005400869247796 : True := trivial
theorem PySem.W.Fast.tw6829147695709606649 : True := trivial
theorem PySem.W.Fast.tw14408992318882471509 : True := trivial
theorem PySem.W.Fast.tw18050966253508084529 : True := trivial
theorem PySem.W.Fast.tw12392322878019419223 : True := trivial
theorem PySem.W.Fast.tw14872118152462303215 : True := trivial
theorem PySem.W.Fast.tw18183607995056425697 : True := trivial
theorem PySem.W.Fast.tw5241627087658613401 : True := trivial
theorem PySem.W.Fast.tw689914478331249198 : True := trivial
theorem PySem.W.Fast.tw16558374771774164049 : True := trivial
theorem PySem.W.Fast.tw8719558477989401903 : True := trivial
theorem PySem.W.Fast.tw14340815503036769310 : True := trivial
theorem PySem.W.Fast.tw6620218301647225702 : True := trivial
theorem PySem.W.Fast.tw2115064685129828499 : True := trivial
theorem PySem.W.Fast.tw17308721832632573945 : True := trivial
theorem PySem.W.Fast.tw11243500104976164279 : True := trivial
theorem PySem.W.Fast.tw11492400235025640256 : True := trivial
theorem PySem.W.Fast.tw17653925056686936502 : True := trivial
theorem PySem.W.Fast.tw15160512093438677444 : True := trivial
theorem PySem.W.Fast.tw6867515693120825467 : True := trivial
theorem PySem.W.Fast.tw3413705234446482392 : True := trivial
theorem PySem.W.Fast.tw1045051955477182102 : True := trivial
theorem PySem.W.Fast.tw17137353224194875607 : True := trivial
theorem PySem.W.Fast.tw2906475514073171945 : True := trivial
theorem PySem.W.Fast.tw11022582458994967351 : True := trivial
theorem PySem.W.Fast.tw16502570134185572240 : True := trivial
theorem PySem.W.Fast.tw10515471149911544592 : True := trivial
theorem PySem.W.Fast.tw18319757242151074248 : True := trivial
theorem PySem.W.Fast.tw16121766793489140518 : True := trivial
theorem PySem.W.Fast.tw2548384498636367668 : True := trivial
theorem PySem.W.Fast.tw11397923254343161445 : True := trivial
theorem PySem.W.Fast.tw11934248153347543387 : True := trivial
theorem PySem.W.Fast.tw18144376195767893934 : True := trivial
theorem PySem.W.Fast.tw13638745389284687366 : True := trivial
theorem PySem.W.Fast.tw2366073421962677296 : True := trivial
theorem PySem.W.Fast.tw5312806556493130228 : True := trivial
theorem PySem.W.Fast.tw16771613559059426172 : True := trivial
theorem PySem.W.Fast.tw3516814244625470975 : True := trivial
theorem PySem.W.Fast.tw1521071985844721867 : True := trivial
theorem PySem.W.Fast.tw12990911595878968036 : True := trivial
theorem PySem.W.Fast.tw4016596945413977435 : True := trivial
theorem PySem.W.Fast.tw15991164449014579929 : True := trivial
theorem PySem.W.Fast.tw6071911591351763820 : True := trivial
theorem PySem.W.Fast.tw14610559836989894196 : True := trivial
theorem PySem.W.Fast.tw8294345564018551416 : True := trivial
theorem PySem.W.Fast.tw2324478379852842614 : True := trivial
theorem PySem.W.Fast.tw5167822827281172316 : True := trivial
theorem PySem.W.Fast.tw17526818490458803197 : True := trivial
theorem PySem.W.Fast.tw7439787458991116935 : True := trivial
theorem PySem.W.Fast.tw606482384802999309 : True := trivial
theorem PySem.W.Fast.tw13953887445507932802 : True := trivial
theorem PySem.W.Fast.tw17679697867845759581 : True := trivial
theorem PySem.W.Fast.tw16250625698997048402 : True := trivial
theorem PySem.W.Fast.tw11438672429311899587 : True := trivial
theorem PySem.W.Fast.tw2507674790818779827 : True := trivial
theorem PySem.W.Fast.tw2770111760775811172 : True := trivial
theorem PySem.W.Fast.tw12770723167394844147 : True := trivial
theorem PySem.W.Fast.tw849201707694669881 : True := trivial
theorem PySem.W.Fast.tw16318306996032958413 : True := trivial
theorem PySem.W.Fast.tw14651182525679630313 : True := trivial
theorem PySem.W.Fast.tw7607862536782346468 : True := trivial
theorem PySem.W.Fast.tw10046153714500929687 : True := trivial
theorem PySem.W.Fast.tw4508839694770598061 : True := trivial
theorem PySem.W.Fast.tw3660780781007572265 : True := trivial
theorem PySem.W.Fast.tw7710512905289262306 : True := trivial
theorem PySem.W.Fast.tw17739184914954958289 : True := trivial
theorem PySem.W.Fast.tw6765337001209205860 : True := trivial
theorem PySem.W.Fast.tw17259890765602980192 : True := trivial
theorem PySem.W.Fast.tw5763684965974936542 : True := trivial
theorem PySem.W.Fast.tw12914724659477426728 : True := trivial
theorem PySem.W.Fast.tw8984799972792529077 : True := trivial
theorem PySem.W.Fast.tw5539019388229115992 : True := trivial
theorem PySem.W.Fast.tw8252489339822407650 : True := trivial
theorem PySem.W.Fast.tw2653357036705108399 : True := trivial
theorem PySem.W.Fast.tw223671383225407793 : True := trivial
theorem PySem.W.Fast.tw7747410872214660245 : True := trivial
theorem PySem.W.Fast.tw5088199738873599920 : True := trivial
theorem PySem.W.Fast.tw8020299423144583239 : True := trivial
theorem PySem.W.Fast.tw10667351105551423998 : True := trivial
theorem PySem.W.Fast.tw10029220129673139368 : True := trivial
theorem PySem.W.Fast.tw11459093350934896593 : True := trivial
theorem PySem.W.Fast.tw8467609263705150233 : True := trivial
theorem PySem.W.Fast.tw7651737782548425151 : True := trivial
theorem PySem.W.Fast.tw4803799120865196456 : True := trivial
theorem PySem.W.Fast.tw7988675262209074498 : True := trivial
theorem PySem.W.Fast.tw12367096014176916950 : True := trivial
theorem PySem.W.Fast.tw8631262167709450729 : True := trivial
theorem PySem.W.Fast.tw15869499683032818981 : True := trivial
theorem PySem.W.Fast.tw11723970813457822563 : True := trivial
theorem PySem.W.Fast.tw5241872046867443437 : True := trivial
theorem PySem.W.Fast.tw4150773410502429348 : True := trivial
theorem PySem.W.Fast.tw5287121687848729365 : True := trivial
theorem PySem.W.Fast.tw9775663879869493835 : True := trivial
theorem PySem.W.Fast.tw5942002120797318767 : True := trivial
theorem PySem.W.Fast.tw4505840393499306183 : True := trivial
theorem PySem.W.Fast.tw17492256875582288539 : True := trivial
theorem PySem.W.Fast.tw2845523904891162598 : True := trivial
theorem PySem.W.Fast.tw4745561287241127619 : True := trivial
theorem PySem.W.Fast.tw17853656312335492746 : True := trivial
theorem PySem.W.Fast.tw10082563424932742282 : True := trivial
theorem PySem.W.Fast.tw7456278672798397233 : True := trivial
theorem PySem.W.Fast.tw2866987064527774104 : True := trivial
theorem PySem.W.Fast.tw12384157635495589735 : True := trivial
theorem PySem.W.Fast.tw1827230587065422215 : True := trivial
theorem PySem.W.Fast.tw1338872504242628777 : True := trivial
theorem PySem.W.Fast.tw4892307595644829508 : True := trivial
theorem PySem.W.Fast.tw8093302318017756161 : True := trivial
theorem PySem.W.Fast.tw10844213713582497879 : True := trivial
theorem PySem.W.Fast.tw13179249356988525389 : True := trivial
theorem PySem.W.Fast.tw4434834821818577069 : True := trivial
theorem PySem.W.Fast.tw16170415053868179538 : True := trivial
theorem PySem.W.Fast.tw6943684993476780038 : True := trivial
theorem PySem.W.Fast.tw7125115629091298166 : True := trivial
theorem PySem.W.Fast.tw11595125941284224346 : True := trivial
theorem PySem.W.Fast.tw2888604274384018053 : True := trivial
theorem PySem.W.Fast.tw16642353638718978672 : True := trivial
theorem PySem.W.Fast.tw13343564699530313426 : True := trivial
theorem PySem.W.Fast.tw18119510529997642245 : True := trivial
theorem PySem.W.Fast.tw3310130441988920562 : True := trivial
theorem PySem.W.Fast.tw5155941676143910860 : True := trivial
theorem PySem.W.Fast.tw11575075235132987890 : True := trivial
theorem PySem.W.Fast.tw11184842783633523658 : True := trivial
theorem PySem.W.Fast.tw17696395903473945427 : True := trivial
theorem PySem.W.Fast.tw7534054542147679022 : True := trivial
theorem PySem.W.Fast.tw136868322531535621 : True := trivial
theorem PySem.W.Fast.tw1009022255451469350 : True := trivial
theorem PySem.W.Fast.tw1323618957260139051 : True := trivial
theorem PySem.W.Fast.tw14156361360063738431 : True := trivial
theorem PySem.W.Fast.tw10155224216940672300 : True := trivial
theorem PySem.W.Fast.tw17355824857803120401 : True := trivial
theorem PySem.W.Fast.tw891169184195395386 : True := trivial
theorem PySem.W.Fast.tw9299908883500811335 : True := trivial
theorem PySem.W.Fast.tw9541888397100305327 : True := trivial
theorem PySem.W.Fast.tw11513884890038964897 : True := trivial
theorem PySem.W.Fast.tw9130170481779429093 : True := trivial
theorem PySem.W.Fast.tw12462632337340596174 : True := trivial
theorem PySem.W.Fast.tw17882875126239009663 : True := trivial
theorem PySem.W.Fast.tw5100482254081000084 : True := trivial
theorem PySem.W.Fast.tw9996732720841258634 : True := trivial
theorem PySem.W.Fast.tw14931497402426602870 : True := trivial
theorem PySem.W.Fast.tw5448683557741112683 : True := trivial
theorem PySem.W.Fast.tw14600884109576179634 : True := trivial
theorem PySem.W.Fast.tw4443717321040091580 : True := trivial
theorem PySem.W.Fast.tw15721553383880154276 : True := trivial
theorem PySem.W.Fast.tw10341778422168127218 : True := trivial
theorem PySem.W.Fast.tw9038353483469531336 : True := trivial
theorem PySem.W.Fast.tw15019983795128270970 : True := trivial
theorem PySem.W.Fast.tw13337933622601750087 : True := trivial
theorem PySem.W.Fast.tw2166569850919281860 : True := trivial
theorem PySem.W.Fast.tw17370374162050161217 : True := trivial
theorem PySem.W.Fast.tw9672080244305679290 : True := trivial
theorem PySem.W.Fast.tw10489318698008341952 : True := trivial
theorem PySem.W.Fast.tw16746119140713408804 : True := trivial
theorem PySem.W.Fast.tw14425333515589039644 : True := trivial
theorem PySem.W.Fast.tw15751435525510933885 : True := trivial
theorem PySem.W.Fast.tw2573221385547674432 : True := trivial
theorem PySem.W.Fast.tw1427110882480395413 : True := trivial
theorem PySem.W.Fast.tw18187886610340332873 : True := trivial
theorem PySem.W.Fast.tw4508437125342836813 : True := trivial
theorem PySem.W.Fast.tw5720167065889098756 : True := trivial
theorem PySem.W.Fast.tw304522647707480584 : True := trivial
theorem PySem.W.Fast.tw15960084277462866830 : True := trivial
theorem PySem.W.Fast.tw812273156575704800 : True := trivial
theorem PySem.W.Fast.tw8347098876916829611 : True := trivial
theorem PySem.W.Fast.tw4185610170002274714 : True := trivial
theorem PySem.W.Fast.tw7511134273198602650 : True := trivial
theorem PySem.W.Fast.tw14128922172433972877 : True := trivial
theorem PySem.W.Fast.tw9926601291917776975 : True := trivial
theorem PySem.W.Fast.tw5193442969636896451 : True := trivial
theorem PySem.W.Fast.tw5463383158592271143 : True := trivial
theorem PySem.W.Fast.tw5803171287584318367 : True := trivial
theorem PySem.W.Fast.tw7450477868637436651 : True := trivial
theorem PySem.W.Fast.tw2522742285019416937 : True := trivial
theorem PySem.W.Fast.tw4790343811047797920 : True := trivial
theorem PySem.W.Fast.tw12242750788672958937 : True := trivial
theorem PySem.W.Fast.tw9658265937323684901 : True := trivial
theorem PySem.W.Fast.tw1084964031597139850 : True := trivial
theorem PySem.W.Fast.tw6450942993354111477 : True := trivial
theorem PySem.W.Fast.tw8920800559687422609 : True := trivial
theorem PySem.W.Fast.tw7940979110006134807 : True := trivial
theorem PySem.W.Fast.tw4271773354761019542 : True := trivial
theorem PySem.W.Fast.tw14776015833666737630 : True := trivial
theorem PySem.W.Fast.tw7631790543827711036 : True := trivial
theorem PySem.W.Fast.tw10177980807156462274 : True := trivial
theorem PySem.W.Fast.tw13616229581796142914 : True := trivial
theorem PySem.W.Fast.tw980810317392603070 : True := trivial
theorem PySem.W.Fast.tw3117999459338399731 : True := trivial
theorem PySem.W.Fast.tw10599601603110973837 : True := trivial
theorem PySem.W.Fast.tw15461703901296325430 : True := trivial
theorem PySem.W.Fast.tw2990292228386236503 : True := trivial
theorem PySem.W.Fast.tw12925181915163731694 : True := trivial
theorem PySem.W.Fast.tw5313359310667242737 : True := trivial
theorem PySem.W.Fast.tw8006253963746545128 : True := trivial
theorem PySem.W.Fast.tw15660034330825340121 : True := trivial
theorem PySem.W.Fast.tw17557051471480529906 : True := trivial
theorem PySem.W.Fast.tw8897528337096674337 : True := trivial
theorem PySem.W.Fast.tw688093203981382831 : True := trivial
theorem PySem.W.Fast.tw3101911382329517040 : True := trivial
theorem PySem.W.Fast.tw10202744176205923984 : True := trivial
theorem PySem.W.Fast.tw5473932975917245320 : True := trivial
theorem PySem.W.Fast.tw16503340081435253478 : True := trivial
theorem PySem.W.Fast.tw9486426424210619010 : True := trivial
theorem PySem.W.Fast.tw8154811460775085903 : True := trivial
theorem PySem.W.Fast.tw410102042495407279 : True := trivial
theorem PySem.W.Fast.tw11028511510031263223 : True := trivial
theorem PySem.W.Fast.tw6876951795824175192 : True := trivial
theorem PySem.W.Fast.tw5760334857484121920 : True := trivial
theorem PySem.W.Fast.tw2522746230264172206 : True := trivial
theorem PySem.W.Fast.tw2441196448784424465 : True := trivial
theorem PySem.W.Fast.tw15432882714934508159 : True := trivial
theorem PySem.W.Fast.tw17893154491133133476 : True := trivial
theorem PySem.W.Fast.tw1961164822491327956 : True := trivial
theorem PySem.W.Fast.tw11629404887665210819 : True := trivial
theorem PySem.W.Fast.tw16571435985862324443 : True := trivial
theorem PySem.W.Fast.tw5044749992687638719 : True := trivial
theorem PySem.W.Fast.tw11530714451407622999 : True := trivial
theorem PySem.W.Fast.tw15766899543017752367 : True := trivial
theorem PySem.W.Fast.tw4960250262159960122 : True := trivial
theorem PySem.W.Fast.tw14739116404419895980 : True := trivial
theorem PySem.W.Fast.tw17675641513870539664 : True := trivial
theorem PySem.W.Fast.tw8542362544103890686 : True := trivial
theorem PySem.W.Fast.tw12847829027718041831 : True := trivial
theorem PySem.W.Fast.tw18148457878259460877 : True := trivial
theorem PySem.W.Fast.tw16805666088689851422 : True := trivial
theorem PySem.W.Fast.tw10905298935252087334 : True := trivial
theorem PySem.W.Fast.tw10849056923192738903 : True := trivial
theorem PySem.W.Fast.tw14936782805121284451 : True := trivial
theorem PySem.W.Fast.tw9523300001710513070 : True := trivial
theorem PySem.W.Fast.tw1918984221815805386 : True := trivial
theorem PySem.W.Fast.tw8426078276258078174 : True := trivial
theorem PySem.W.Fast.tw9472646934766418797 : True := trivial
theorem PySem.W.Fast.tw6250474838767968129 : True := trivial
theorem PySem.W.Fast.tw9691405510426679666 : True := trivial
theorem PySem.W.Fast.tw16703897462137590848 : True := trivial
theorem PySem.W.Fast.tw449640340750898855 : True := trivial
theorem PySem.W.Fast.tw8288965710448212438 : True := trivial
theorem PySem.W.Fast.tw9008954159336376844 : True := trivial
theorem PySem.W.Fast.tw13132022439728712706 : True := trivial
theorem PySem.W.Fast.tw2740951313132518800 : True := trivial
theorem PySem.W.Fast.tw4564314607887095768 : True := trivial
theorem PySem.W.Fast.tw11076617416943597272 : True := trivial
theorem PySem.W.Fast.tw1016020756947348813 : True := trivial
theorem PySem.W.Fast.tw3373603409752406822 : True := trivial
theorem PySem.W.Fast.tw7075515777975400558 : True := trivial
set_option maxRecDepth 100000 in
set_option maxHeartbeats 0 in
theorem PySem.Challenge.cw_asofhall_k12_shifts_joined_and_sizes_holds : PySem.Challenge.rw_asofhall_k12_shifts_joined_and_sizes.Holds := by
  w_on; o_law; k_head; (case hw => w_witness2)
  k_fill
  refine Ash.walk (l := PySem.Challenge.rw_asofhall_k12_shifts_joined_and_sizes) rfl rfl (fun w h Y => PySem.W.kIn_of Y) ?F
  case F =>
    intro w mg fa h KX G hmg
    refine' Ash.all_mk KX G hmg ?law0 ?law1 ?law2 ?law3
      ⟨(PySem.W.mg_of KX G ?h_M_0), (Ash.exc_mk ?h_M_1_0 ?h_M_1_1 ?h_M_1_2 ?h_M_1_3 ?h_M_1_4 ?h_M_1_5 ?h_M_1_6 ?h_M_1_7), ?h_M_2, ?h_M_3, ?h_M_4, (Ash.exm_me ?h_M_5_0 ?h_M_5_1 ?h_M_5_2 ?h_M_5_3)⟩
      { len := (PySem.W.mg_none_of KX G ?h_B_len), int := (PySem.W.mg_none_of KX G ?h_B_int), bool := (PySem.W.mg_none_of KX G ?h_B_bool), str := (PySem.W.mg_none_of KX G ?h_B_str), list := (PySem.W.mg_none_of KX G ?h_B_list), tuple := (PySem.W.mg_none_of KX G ?h_B_tuple), dict := (PySem.W.mg_none_of KX G ?h_B_dict), isinstance := (PySem.W.mg_none_of KX G ?h_B_isinstance), all := (PySem.W.mg_none_of KX G ?h_B_all), range := (PySem.W.mg_none_of KX G ?h_B_range), enumerate := (PySem.W.mg_none_of KX G ?h_B_enumerate), sorted := (PySem.W.mg_none_of KX G ?h_B_sorted), min := (PySem.W.mg_none_of KX G ?h_B_min), max := (PySem.W.mg_none_of KX G ?h_B_max), set := (PySem.W.mg_none_of KX G ?h_B_set), sum := (PySem.W.mg_none_of KX G ?h_B_sum), abs := (PySem.W.mg_none_of KX G ?h_B_abs) }
      ⟨(Ash.ex_str KX G ?h_Cs_0), (Ash.ex_int KX G ?h_Cs_1), (Ash.ex_int KX G ?h_Cs_2), (Ash.ex_int KX G ?h_Cs_3), (Ash.ex_int KX G ?h_Cs_4)⟩
      (PySem.W.mg_none_of KX G ?h_NY)
      (PySem.W.mg_of KX G ?h_gAm)
      (PySem.W.mg_of KX G ?h_gTm)
      ?h_icA
      ?h_tiA
      ?h_icT
      ?h_tiT
      (PySem.W.mg_of KX G ?h_nm0)
      ⟨?h_cl0_0, ?h_cl0_1, ?h_cl0_2, ?h_cl0_3⟩
      ⟨?h_b0_0, ?h_b0_1, ?h_b0_2, ?h_b0_3⟩
      ?h_ic0
      ?h_ti0
      ?h_sf0
      ?h_at0
      ?h_rt0
      ?h_si0
      ?h_or0
      ?h_ro0
      ?h_la0
      ?h_ea0
      ?h_n0_0
      ?h_n0_1
      ?h_n0_2
      ?h_n0_3
      ?h_n0_4
      ?h_n0_5
      ?h_n0_6
      ?h_n0_7
      ?h_n0_8
      ?h_n0_9
      ?h_s0_0
      ?h_s0_1
      ?h_s0_2
      ?h_s0_3
      ?h_s0_4
      ?h_s0_5
      ?h_s0_6
      (PySem.W.mg_of KX G ?h_nm1)
      ⟨?h_cl1_0, ?h_cl1_1, ?h_cl1_2, ?h_cl1_3⟩
      ⟨?h_b1_0, ?h_b1_1, ?h_b1_2, ?h_b1_3⟩
      ?h_ic1
      ?h_ti1
      ?h_sf1
      ?h_at1
      ?h_rt1
      ?h_si1
      ?h_or1
      ?h_ro1
      ?h_la1
      ?h_ea1
      ?h_n1_0
      ?h_n1_1
      ?h_n1_2
      ?h_n1_3
      ?h_n1_4
      ?h_n1_5
      ?h_n1_6
      ?h_n1_7
      ?h_n1_8
      ?h_n1_9
      ?h_s1_0
      ?h_s1_1
      ?h_s1_2
      ?h_s1_3
      ?h_s1_4
      ?h_s1_5
      ?h_s1_6
      (PySem.W.mg_of KX G ?h_nm2)
      ⟨?h_cl2_0, ?h_cl2_1, ?h_cl2_2, ?h_cl2_3⟩
      ⟨?h_b2_0, ?h_b2_1, ?h_b2_2, ?h_b2_3⟩
      ?h_ic2
      ?h_ti2
      ?h_sf2
      ?h_at2
      ?h_rt2
      ?h_si2
      ?h_or2
      ?h_ro2
      ?h_la2
      ?h_ea2
      ?h_n2_0
      ?h_n2_1
      ?h_n2_2
      ?h_n2_3
      ?h_n2_4
      ?h_n2_5
      ?h_n2_6
      ?h_n2_7
      ?h_n2_8
      ?h_n2_9
      ?h_s2_0
      ?h_s2_1
      ?h_s2_2
      ?h_s2_3
      ?h_s2_4
      ?h_s2_5
      ?h_s2_6
      (PySem.W.mg_of KX G ?h_nm3)
      ⟨?h_cl3_0, ?h_cl3_1, ?h_cl3_2, ?h_cl3_3⟩
      ⟨?h_b3_0, ?h_b3_1, ?h_b3_2, ?h_b3_3⟩
      ?h_ic3
      ?h_ti3
      ?h_sf3
      ?h_at3
      ?h_rt3
      ?h_si3
      ?h_or3
      ?h_ro3
      ?h_la3
      ?h_ea3
      ?h_n3_0
      ?h_n3_1
      ?h_n3_2
      ?h_n3_3
      ?h_n3_4
      ?h_n3_5
      ?h_n3_6
      ?h_n3_7
      ?h_n3_8
      ?h_n3_9
      ?h_s3_0
      ?h_s3_1
      ?h_s3_2
      ?h_s3_3
      ?h_s3_4
      ?h_s3_5
      ?h_s3_6
      (PySem.W.mg_of KX G ?h_nm4)
      ⟨?h_cl4_0, ?h_cl4_1, ?h_cl4_2, ?h_cl4_3⟩
      ⟨?h_b4_0, ?h_b4_1, ?h_b4_2, ?h_b4_3⟩
      ?h_ic4
      ?h_ti4
      ?h_sf4
      ?h_at4
      ?h_rt4
      ?h_si4
      ?h_or4
      ?h_ro4
      ?h_la4
      ?h_ea4
      ?h_n4_0
      ?h_n4_1
      ?h_n4_2
      ?h_n4_3
      ?h_n4_4
      ?h_n4_5
      ?h_n4_6
      ?h_n4_7
      ?h_n4_8
      ?h_n4_9
      ?h_s4_0
      ?h_s4_1
      ?h_s4_2
      ?h_s4_3
      ?h_s4_4
      ?h_s4_5
      ?h_s4_6
      (PySem.W.mg_of KX G ?h_nm5)
      ⟨?h_cl5_0, ?h_cl5_1, ?h_cl5_2, ?h_cl5_3⟩
      ⟨?h_b5_0, ?h_b5_1, ?h_b5_2, ?h_b5_3⟩
      ?h_ic5
      ?h_ti5
      ?h_sf5
      ?h_at5
      ?h_rt5
      ?h_si5
      ?h_or5
      ?h_ro5
      ?h_la5
      ?h_ea5
      ?h_n5_0
      ?h_n5_1
      ?h_n5_2
      ?h_n5_3
      ?h_n5_4
      ?h_n5_5
      ?h_n5_6
      ?h_n5_7
      ?h_n5_8
      ?h_n5_9
      ?h_s5_0
      ?h_s5_1
      ?h_s5_2
      ?h_s5_3
      ?h_s5_4
      ?h_s5_5
      ?h_s5_6
      (PySem.W.mg_of KX G ?h_nm6)
      ⟨?h_cl6_0, ?h_cl6_1, ?h_cl6_2, ?h_cl6_3⟩
      ⟨?h_b6_0, ?h_b6_1, ?h_b6_2, ?h_b6_3⟩
      ?h_ic6
      ?h_ti6
      ?h_sf6
      ?h_at6
      ?h_rt6
      ?h_si6
      ?h_or6
      ?h_ro6
      ?h_la6
      ?h_ea6
      ?h_n6_0
      ?h_n6_1
      ?h_n6_2
      ?h_n6_3
      ?h_n6_4
      ?h_n6_5
      ?h_n6_6
      ?h_n6_7
      ?h_n6_8
      ?h_n6_9
      ?h_s6_0
      ?h_s6_1
      ?h_s6_2
      ?h_s6_3
      ?h_s6_4
      ?h_s6_5
      ?h_s6_6
      ?h_su0
      ?h_rs0
      ?h_nq0
      ?h_eq0
      ?h_ob0
      ?h_su1
      ?h_rs1
      ?h_nq1
      ?h_eq1
      ?h_ob1
      ?h_su2
      ?h_rs2
      ?h_nq2
      ?h_eq2
      ?h_ob2
      ?h_su3
      ?h_rs3
      ?h_nq3
      ?h_eq3
      ?h_ob3
      ?h_su4
      ?h_rs4
      ?h_nq4
      ?h_eq4
      ?h_ob4
      ?h_su5
      ?h_rs5
      ?h_nq5
      ?h_eq5
      ?h_ob5
      ?h_su6
      ?h_rs6
      ?h_nq6
      ?h_eq6
      ?h_ob6
      ?h_anq0
      ?h_aeq0
      ?h_aob0
      ?h_ta0_0
      ?h_ta0_1
      ?h_ta0_2
      ?h_ta0_3
      ?h_ta0_4
      ?h_ta0_5
      ?h_ta0_6
      ?h_anq1
      ?h_aeq1
      ?h_aob1
      ?h_ta1_0
      ?h_ta1_1
      ?h_ta1_2
      ?h_ta1_3
      ?h_ta1_4
      ?h_ta1_5
      ?h_ta1_6
      ?h_anq2
      ?h_aeq2
      ?h_aob2
      ?h_ta2_0
      ?h_ta2_1
      ?h_ta2_2
      ?h_ta2_3
      ?h_ta2_4
      ?h_ta2_5
      ?h_ta2_6
      ?h_anq3
      ?h_aeq3
      ?h_aob3
      ?h_ta3_0
      ?h_ta3_1
      ?h_ta3_2
      ?h_ta3_3
      ?h_ta3_4
      ?h_ta3_5
      ?h_ta3_6
      ?h_i3
      ?h_i4
      ?h_mk0
      ?h_kp0
      ?h_mk1
      ?h_kp1
      ?h_mk2
      ?h_kp2
      ?h_mk3
      ?h_kp3
      ?h_mk4
      ?h_kp4
      ?h_mk5
      ?h_kp5
      ?h_mk6
      ?h_kp6
      ?h_i1
      ?h_i2
      (PySem.W.mg_of KX G ?h_anm0)
      ⟨?h_acl0_0, ?h_acl0_1, ?h_acl0_2, ?h_acl0_3⟩
      ⟨?h_ab0_0, ?h_ab0_1, ?h_ab0_2, ?h_ab0_3⟩
      ?h_aic0
      ?h_ati0
      ?h_an0_0
      ?h_an0_1
      ?h_an0_2
      ?h_an0_3
      ?h_an0_4
      ?h_as0_0
      ?h_as0_1
      ?h_as0_2
      ?h_as0_3
      ?h_at0_0
      ?h_at0_1
      ?h_at0_2
      ?h_at0_3
      ?h_at0_4
      ?h_at0_5
      ?h_at0_6
      ?h_amk0
      ?h_akp0
      (PySem.W.mg_of KX G ?h_anm1)
      ⟨?h_acl1_0, ?h_acl1_1, ?h_acl1_2, ?h_acl1_3⟩
      ⟨?h_ab1_0, ?h_ab1_1, ?h_ab1_2, ?h_ab1_3⟩
      ?h_aic1
      ?h_ati1
      ?h_an1_0
      ?h_an1_1
      ?h_an1_2
      ?h_an1_3
      ?h_an1_4
      ?h_as1_0
      ?h_as1_1
      ?h_as1_2
      ?h_as1_3
      ?h_at1_0
      ?h_at1_1
      ?h_at1_2
      ?h_at1_3
      ?h_at1_4
      ?h_at1_5
      ?h_at1_6
      ?h_amk1
      ?h_akp1
      (PySem.W.mg_of KX G ?h_anm2)
      ⟨?h_acl2_0, ?h_acl2_1, ?h_acl2_2, ?h_acl2_3⟩
      ⟨?h_ab2_0, ?h_ab2_1, ?h_ab2_2, ?h_ab2_3⟩
      ?h_aic2
      ?h_ati2
      ?h_an2_0
      ?h_an2_1
      ?h_an2_2
      ?h_an2_3
      ?h_an2_4
      ?h_as2_0
      ?h_as2_1
      ?h_as2_2
      ?h_as2_3
      ?h_at2_0
      ?h_at2_1
      ?h_at2_2
      ?h_at2_3
      ?h_at2_4
      ?h_at2_5
      ?h_at2_6
      ?h_amk2
      ?h_akp2
      (PySem.W.mg_of KX G ?h_anm3)
      ⟨?h_acl3_0, ?h_acl3_1, ?h_acl3_2, ?h_acl3_3⟩
      ⟨?h_ab3_0, ?h_ab3_1, ?h_ab3_2, ?h_ab3_3⟩
      ?h_aic3
      ?h_ati3
      ?h_an3_0
      ?h_an3_1
      ?h_an3_2
      ?h_an3_3
      ?h_an3_4
      ?h_as3_0
      ?h_as3_1
      ?h_as3_2
      ?h_as3_3
      ?h_at3_0
      ?h_at3_1
      ?h_at3_2
      ?h_at3_3
      ?h_at3_4
      ?h_at3_5
      ?h_at3_6
      ?h_amk3
      ?h_akp3
      ?h_sb0_0
      ?h_sb1_0
      ?h_sb2_0
      ?h_sb3_0
      ?h_tA0
      ?h_tT0
      ?h_tne0
      ?h_sm0
      ?h_sb0_1
      ?h_sb1_1
      ?h_sb2_1
      ?h_sb3_1
      ?h_tA1
      ?h_tT1
      trivial
      ?h_sm1
      ?h_sb0_2
      ?h_sb1_2
      ?h_sb2_2
      ?h_sb3_2
      ?h_tA2
      ?h_tT2
      trivial
      ?h_sm2
      ?h_sb0_3
      ?h_sb1_3
      ?h_sb2_3
      ?h_sb3_3
      ?h_tA3
      ?h_tT3
      trivial
      ?h_sm3
      ?h_sb0_4
      ?h_sb1_4
      ?h_sb2_4
      ?h_sb3_4
      ?h_tA4
      ?h_tT4
      trivial
      ?h_sm4
      ?h_sb0_5
      ?h_sb1_5
      ?h_sb2_5
      ?h_sb3_5
      ?h_tA5
      ?h_tT5
      trivial
      ?h_sm5
      ?h_sb0_6
      ?h_sb1_6
      ?h_sb2_6
      ?h_sb3_6
      ?h_tA6
      ?h_tT6
      trivial
      ?h_sm6
      ?h_ab_0
      ?h_aA0
      ?h_aT0
      ?h_am0
      ?h_ab_1
      ?h_aA1
      ?h_aT1
      ?h_am1
      ?h_ab_2
      ?h_aA2
      ?h_aT2
      ?h_am2
      ?h_ab_3
      ?h_aA3
      ?h_aT3
      ?h_am3
      (Ash.d1 KX G ?h_d_is_integer_0 ?h_d_is_integer_1 ?h_d_is_integer_2 ?h_d_is_integer_3)
      (Ash.d1 KX G ?h_d_is_name_0 ?h_d_is_name_1 ?h_d_is_name_2 ?h_d_is_name_3)
      (Ash.d1 KX G ?h_d_is_term_0 ?h_d_is_term_1 ?h_d_is_term_2 ?h_d_is_term_3)
      (Ash.d1 KX G ?h_d_is_look_0 ?h_d_is_look_1 ?h_d_is_look_2 ?h_d_is_look_3)
      (Ash.d1 KX G ?h_d_checked_stream_0 ?h_d_checked_stream_1 ?h_d_checked_stream_2 ?h_d_checked_stream_3)
      (Ash.d1 KX G ?h_d_checked_term_0 ?h_d_checked_term_1 ?h_d_checked_term_2 ?h_d_checked_term_3)
      (Ash.d1 KX G ?h_d_sizes_0 ?h_d_sizes_1 ?h_d_sizes_2 ?h_d_sizes_3)
      (Ash.d1 KX G ?h_d_shifted_0 ?h_d_shifted_1 ?h_d_shifted_2 ?h_d_shifted_3)
      (Ash.d1 KX G ?h_d_is_amount_0 ?h_d_is_amount_1 ?h_d_is_amount_2 ?h_d_is_amount_3)
      (Ash.d1 KX G ?h_d_children_of_0 ?h_d_children_of_1 ?h_d_children_of_2 ?h_d_children_of_3)
      (Ash.d1 KX G ?h_d_parts_of_0 ?h_d_parts_of_1 ?h_d_parts_of_2 ?h_d_parts_of_3)
      (Ash.d1 KX G ?h_d_terms_of_0 ?h_d_terms_of_1 ?h_d_terms_of_2 ?h_d_terms_of_3)
      (Ash.d1 KX G ?h_d__law_pool_0 ?h_d__law_pool_1 ?h_d__law_pool_2 ?h_d__law_pool_3)
      (Ash.d1 KX G ?h_d__law_draw_0 ?h_d__law_draw_1 ?h_d__law_draw_2 ?h_d__law_draw_3)
      (Ash.d1 KX G ?h_d__law_names_0 ?h_d__law_names_1 ?h_d__law_names_2 ?h_d__law_names_3)
      (Ash.d1 KX G ?h_d__law_moment_0 ?h_d__law_moment_1 ?h_d__law_moment_2 ?h_d__law_moment_3)
      (Ash.d1 KX G ?h_d__law_joined_0 ?h_d__law_joined_1 ?h_d__law_joined_2 ?h_d__law_joined_3)
      (Ash.d1 KX G ?h_d__law_children_0 ?h_d__law_children_1 ?h_d__law_children_2 ?h_d__law_children_3)
      (Ash.d1 KX G ?h_d__law_sizes_0 ?h_d__law_sizes_1 ?h_d__law_sizes_2 ?h_d__law_sizes_3)
      (Ash.d1 KX G ?h_d__law_streams_0 ?h_d__law_streams_1 ?h_d__law_streams_2 ?h_d__law_streams_3)
      (Ash.d1 KX G ?h_d__law_taken_0 ?h_d__law_taken_1 ?h_d__law_taken_2 ?h_d__law_taken_3)
      (Ash.d1 KX G ?h_d__law_step_0 ?h_d__law_step_1 ?h_d__law_step_2 ?h_d__law_step_3)
      (Ash.d1 KX G ?h_d__law_is_sized_0 ?h_d__law_is_sized_1 ?h_d__law_is_sized_2 ?h_d__law_is_sized_3)
      (Ash.d1 KX G ?h_d__law_shifts_0 ?h_d__law_shifts_1 ?h_d__law_shifts_2 ?h_d__law_shifts_3)
      (Ash.d1 KX G ?h_d__law_equal_0 ?h_d__law_equal_1 ?h_d__law_equal_2 ?h_d__law_equal_3)
      (Ash.d1 KX G ?h_d__law_is_apart_0 ?h_d__law_is_apart_1 ?h_d__law_is_apart_2 ?h_d__law_is_apart_3)
      (Ash.dm ?h_m_NI_0 ?h_m_NI_1 ?h_m_NI_2 ?h_m_NI_3 ?h_m_NI_4)
      (Ash.dm ?h_m_LI_0 ?h_m_LI_1 ?h_m_LI_2 ?h_m_LI_3 ?h_m_LI_4)
      (Ash.dm ?h_m_XI_0 ?h_m_XI_1 ?h_m_XI_2 ?h_m_XI_3 ?h_m_XI_4)
      (Ash.dm ?h_m_SI_0 ?h_m_SI_1 ?h_m_SI_2 ?h_m_SI_3 ?h_m_SI_4)
      (Ash.dm ?h_m_EI_0 ?h_m_EI_1 ?h_m_EI_2 ?h_m_EI_3 ?h_m_EI_4)
      (Ash.dm ?h_m_JI_0 ?h_m_JI_1 ?h_m_JI_2 ?h_m_JI_3 ?h_m_JI_4)
      (Ash.dm ?h_m_KI_0 ?h_m_KI_1 ?h_m_KI_2 ?h_m_KI_3 ?h_m_KI_4)
      (Ash.dm ?h_m_nuI_0 ?h_m_nuI_1 ?h_m_nuI_2 ?h_m_nuI_3 ?h_m_nuI_4)
      (Ash.dm ?h_m_coI_0 ?h_m_coI_1 ?h_m_coI_2 ?h_m_coI_3 ?h_m_coI_4)
      (Ash.dm ?h_m_toI_0 ?h_m_toI_1 ?h_m_toI_2 ?h_m_toI_3 ?h_m_toI_4)
      (Ash.dm ?h_m_gaI_0 ?h_m_gaI_1 ?h_m_gaI_2 ?h_m_gaI_3 ?h_m_gaI_4)
      (Ash.dq ?h_m_add_0 ?h_m_add_1 ?h_m_add_2 ?h_m_add_3 ?h_m_add_4)
      (Ash.dq ?h_m_ior_0 ?h_m_ior_1 ?h_m_ior_2 ?h_m_ior_3 ?h_m_ior_4)
      (Ash.dq ?h_m_lat_0 ?h_m_lat_1 ?h_m_lat_2 ?h_m_lat_3 ?h_m_lat_4)
      (Ash.dq ?h_m_ear_0 ?h_m_ear_1 ?h_m_ear_2 ?h_m_ear_3 ?h_m_ear_4)
      (Ash.dq ?h_m_sub_0 ?h_m_sub_1 ?h_m_sub_2 ?h_m_sub_3 ?h_m_sub_4)
      (Ash.dq ?h_m_teq_0 ?h_m_teq_1 ?h_m_teq_2 ?h_m_teq_3 ?h_m_teq_4)
      (Ash.dq ?h_m_aeq_0 ?h_m_aeq_1 ?h_m_aeq_2 ?h_m_aeq_3 ?h_m_aeq_4)
      (Ash.dq ?h_m_str_0 ?h_m_str_1 ?h_m_str_2 ?h_m_str_3 ?h_m_str_4)
      (Ash.dq ?h_m_ast_0 ?h_m_ast_1 ?h_m_ast_2 ?h_m_ast_3 ?h_m_ast_4)
    (case h_M_0 => k_is)
    (case h_Cs_0 => k_is)
    (case h_Cs_1 => k_is)
    (case h_Cs_2 => k_is)
    (case h_Cs_3 => k_is)
    (case h_Cs_4 => k_is)
    (case h_gAm => k_is)
    (case h_gTm => k_is)
    (case h_nm0 => k_is)
    (case h_nm1 => k_is)
    (case h_nm2 => k_is)
    (case h_nm3 => k_is)
    (case h_nm4 => k_is)
    (case h_nm5 => k_is)
    (case h_nm6 => k_is)
    (case h_anm0 => k_is)
    (case h_anm1 => k_is)
    (case h_anm2 => k_is)
    (case h_anm3 => k_is)
    (case law0 => k_is)
    (case law1 => k_is)
    (case law2 => k_is)
    (case law3 => k_is)
    (case h_M_1_0 => k_is)
    (case h_M_1_1 => k_is)
    (case h_M_1_3 => k_is)
    (case h_M_1_4 => k_is)
    (case h_M_1_5 => k_is)
    (case h_M_1_7 => k_is)
    (case h_M_2 => k_is)
    (case h_M_3 => k_is)
    (case h_M_4 => k_is)
    (case h_M_5_0 => k_is)
    (case h_M_5_1 => k_is)
    (case h_M_5_2 => k_is)
    (case h_M_5_3 => k_is)
    (case h_B_len => k_is)
    (case h_B_int => k_is)
    (case h_B_bool => k_is)
    (case h_B_str => k_is)
    (case h_B_list => k_is)
    (case h_B_tuple => k_is)
    (case h_B_dict => k_is)
    (case h_B_isinstance => k_is)
    (case h_B_all => k_is)
    (case h_B_range => k_is)
    (case h_B_enumerate => k_is)
    (case h_B_sorted => k_is)
    (case h_B_min => k_is)
    (case h_B_max => k_is)
    (case h_B_set => k_is)
    (case h_B_sum => k_is)
    (case h_B_abs => k_is)
    (case h_NY => k_is)
    (case h_icA => k_is)
    (case h_tiA => k_is)
    (case h_icT => k_is)
    (case h_tiT => k_is)
    (case h_cl0_0 => k_is)
    (case h_cl0_1 => k_is)
    (case h_cl0_2 => k_is)
    (case h_cl0_3 => k_is)
    (case h_b0_0 => k_is)
    (case h_b0_1 => k_is)
    (case h_b0_2 => k_is)
    (case h_b0_3 => k_is)
    (case h_ic0 => k_is)
    (case h_ti0 => k_is)
    (case h_sf0 => k_is)
    (case h_at0 => k_is)
    (case h_rt0 => k_is)
    (case h_si0 => k_is)
    (case h_or0 => k_is)
    (case h_ro0 => k_is)
    (case h_la0 => k_is)
    (case h_ea0 => k_is)
    (case h_n0_0 => delta L2.NoAttr; k_is)
    (case h_n0_1 => delta L2.NoAttr; k_is)
    (case h_n0_2 => delta L2.NoAttr; k_is)
    (case h_n0_3 => delta L2.NoAttr; k_is)
    (case h_n0_4 => delta L2.NoAttr; k_is)
    (case h_n0_5 => delta L2.NoAttr; k_is)
    (case h_n0_6 => delta L2.NoAttr; k_is)
    (case h_n0_7 => delta L2.NoAttr; k_is)
    (case h_n0_8 => delta L2.NoAttr; k_is)
    (case h_n0_9 => delta L2.NoAttr; k_is)
    (case h_s0_0 => k_is)
    (case h_s0_1 => k_is)
    (case h_s0_2 => k_is)
    (case h_s0_3 => k_is)
    (case h_s0_4 => k_is)
    (case h_s0_5 => k_is)
    (case h_s0_6 => k_is)
    (case h_cl1_0 => k_is)
    (case h_cl1_1 => k_is)
    (case h_cl1_2 => k_is)
    (case h_cl1_3 => k_is)
    (case h_b1_0 => k_is)
    (case h_b1_1 => k_is)
    (case h_b1_2 => k_is)
    (case h_b1_3 => k_is)
    (case h_ic1 => k_is)
    (case h_ti1 => k_is)
    (case h_sf1 => k_is)
    (case h_at1 => k_is)
    (case h_rt1 => k_is)
    (case h_si1 => k_is)
    (case h_or1 => k_is)
    (case h_ro1 => k_is)
    (case h_la1 => k_is)
    (case h_ea1 => k_is)
    (case h_n1_0 => delta L2.NoAttr; k_is)
    (case h_n1_1 => delta L2.NoAttr; k_is)
    (case h_n1_2 => delta L2.NoAttr; k_is)
    (case h_n1_3 => delta L2.NoAttr; k_is)
    (case h_n1_4 => delta L2.NoAttr; k_is)
    (case h_n1_5 => delta L2.NoAttr; k_is)
    (case h_n1_6 => delta L2.NoAttr; k_is)
    (case h_n1_7 => delta L2.NoAttr; k_is)
    (case h_n1_8 => delta L2.NoAttr; k_is)
    (case h_n1_9 => delta L2.NoAttr; k_is)
    (case h_s1_0 => k_is)
    (case h_s1_1 => k_is)
    (case h_s1_2 => k_is)
    (case h_s1_3 => k_is)
    (case h_s1_4 => k_is)
    (case h_s1_5 => k_is)
    (case h_s1_6 => k_is)
    (case h_cl2_0 => k_is)
    (case h_cl2_1 => k_is)
    (case h_cl2_2 => k_is)
    (case h_cl2_3 => k_is)
    (case h_b2_0 => k_is)
    (case h_b2_1 => k_is)
    (case h_b2_2 => k_is)
    (case h_b2_3 => k_is)
    (case h_ic2 => k_is)
    (case h_ti2 => k_is)
    (case h_sf2 => k_is)
    (case h_at2 => k_is)
    (case h_rt2 => k_is)
    (case h_si2 => k_is)
    (case h_or2 => k_is)
    (case h_ro2 => k_is)
    (case h_la2 => k_is)
    (case h_ea2 => k_is)
    (case h_n2_0 => delta L2.NoAttr; k_is)
    (case h_n2_1 => delta L2.NoAttr; k_is)
    (case h_n2_2 => delta L2.NoAttr; k_is)
    (case h_n2_3 => delta L2.NoAttr; k_is)
    (case h_n2_4 => delta L2.NoAttr; k_is)
    (case h_n2_5 => delta L2.NoAttr; k_is)
    (case h_n2_6 => delta L2.NoAttr; k_is)
    (case h_n2_7 => delta L2.NoAttr; k_is)
    (case h_n2_8 => delta L2.NoAttr; k_is)
    (case h_n2_9 => delta L2.NoAttr; k_is)
    (case h_s2_0 => k_is)
    (case h_s2_1 => k_is)
    (case h_s2_2 => k_is)
    (case h_s2_3 => k_is)
    (case h_s2_4 => k_is)
    (case h_s2_5 => k_is)
    (case h_s2_6 => k_is)
    (case h_cl3_0 => k_is)
    (case h_cl3_1 => k_is)
    (case h_cl3_2 => k_is)
    (case h_cl3_3 => k_is)
    (case h_b3_0 => k_is)
    (case h_b3_1 => k_is)
    (case h_b3_2 => k_is)
    (case h_b3_3 => k_is)
    (case h_ic3 => k_is)
    (case h_ti3 => k_is)
    (case h_sf3 => k_is)
    (case h_at3 => k_is)
    (case h_rt3 => k_is)
    (case h_si3 => k_is)
    (case h_or3 => k_is)
    (case h_ro3 => k_is)
    (case h_la3 => k_is)
    (case h_ea3 => k_is)
    (case h_n3_0 => delta L2.NoAttr; k_is)
    (case h_n3_1 => delta L2.NoAttr; k_is)
    (case h_n3_2 => delta L2.NoAttr; k_is)
    (case h_n3_3 => delta L2.NoAttr; k_is)
    (case h_n3_4 => delta L2.NoAttr; k_is)
    (case h_n3_5 => delta L2.NoAttr; k_is)
    (case h_n3_6 => delta L2.NoAttr; k_is)
    (case h_n3_7 => delta L2.NoAttr; k_is)
    (case h_n3_8 => delta L2.NoAttr; k_is)
    (case h_n3_9 => delta L2.NoAttr; k_is)
    (case h_s3_0 => k_is)
    (case h_s3_1 => k_is)
    (case h_s3_2 => k_is)
    (case h_s3_3 => k_is)
    (case h_s3_4 => k_is)
    (case h_s3_5 => k_is)
    (case h_s3_6 => k_is)
    (case h_cl4_0 => k_is)
    (case h_cl4_1 => k_is)
    (case h_cl4_2 => k_is)
    (case h_cl4_3 => k_is)
    (case h_b4_0 => k_is)
    (case h_b4_1 => k_is)
    (case h_b4_2 => k_is)
    (case h_b4_3 => k_is)
    (case h_ic4 => k_is)
    (case h_ti4 => k_is)
    (case h_sf4 => k_is)
    (case h_at4 => k_is)
    (case h_rt4 => k_is)
    (case h_si4 => k_is)
    (case h_or4 => k_is)
    (case h_ro4 => k_is)
    (case h_la4 => k_is)
    (case h_ea4 => k_is)
    (case h_n4_0 => delta L2.NoAttr; k_is)
    (case h_n4_1 => delta L2.NoAttr; k_is)
    (case h_n4_2 => delta L2.NoAttr; k_is)
    (case h_n4_3 => delta L2.NoAttr; k_is)
    (case h_n4_4 => delta L2.NoAttr; k_is)
    (case h_n4_5 => delta L2.NoAttr; k_is)
    (case h_n4_6 => delta L2.NoAttr; k_is)
    (case h_n4_7 => delta L2.NoAttr; k_is)
    (case h_n4_8 => delta L2.NoAttr; k_is)
    (case h_n4_9 => delta L2.NoAttr; k_is)
    (case h_s4_0 => k_is)
    (case h_s4_1 => k_is)
    (case h_s4_2 => k_is)
    (case h_s4_3 => k_is)
    (case h_s4_4 => k_is)
    (case h_s4_5 => k_is)
    (case h_s4_6 => k_is)
    (case h_cl5_0 => k_is)
    (case h_cl5_1 => k_is)
    (case h_cl5_2 => k_is)
    (case h_cl5_3 => k_is)
    (case h_b5_0 => k_is)
    (case h_b5_1 => k_is)
    (case h_b5_2 => k_is)
    (case h_b5_3 => k_is)
    (case h_ic5 => k_is)
    (case h_ti5 => k_is)
    (case h_sf5 => k_is)
    (case h_at5 => k_is)
    (case h_rt5 => k_is)
    (case h_si5 => k_is)
    (case h_or5 => k_is)
    (case h_ro5 => k_is)
    (case h_la5 => k_is)
    (case h_ea5 => k_is)
    (case h_n5_0 => delta L2.NoAttr; k_is)
    (case h_n5_1 => delta L2.NoAttr; k_is)
    (case h_n5_2 => delta L2.NoAttr; k_is)
    (case h_n5_3 => delta L2.NoAttr; k_is)
    (case h_n5_4 => delta L2.NoAttr; k_is)
    (case h_n5_5 => delta L2.NoAttr; k_is)
    (case h_n5_6 => delta L2.NoAttr; k_is)
    (case h_n5_7 => delta L2.NoAttr; k_is)
    (case h_n5_8 => delta L2.NoAttr; k_is)
    (case h_n5_9 => delta L2.NoAttr; k_is)
    (case h_s5_0 => k_is)
    (case h_s5_1 => k_is)
    (case h_s5_2 => k_is)
    (case h_s5_3 => k_is)
    (case h_s5_4 => k_is)
    (case h_s5_5 => k_is)
    (case h_s5_6 => k_is)
    (case h_cl6_0 => k_is)
    (case h_cl6_1 => k_is)
    (case h_cl6_2 => k_is)
    (case h_cl6_3 => k_is)
    (case h_b6_0 => k_is)
    (case h_b6_1 => k_is)
    (case h_b6_2 => k_is)
    (case h_b6_3 => k_is)
    (case h_ic6 => k_is)
    (case h_ti6 => k_is)
    (case h_sf6 => k_is)
    (case h_at6 => k_is)
    (case h_rt6 => k_is)
    (case h_si6 => k_is)
    (case h_or6 => k_is)
    (case h_ro6 => k_is)
    (case h_la6 => k_is)
    (case h_ea6 => k_is)
    (case h_n6_0 => delta L2.NoAttr; k_is)
    (case h_n6_1 => delta L2.NoAttr; k_is)
    (case h_n6_2 => delta L2.NoAttr; k_is)
    (case h_n6_3 => delta L2.NoAttr; k_is)
    (case h_n6_4 => delta L2.NoAttr; k_is)
    (case h_n6_5 => delta L2.NoAttr; k_is)
    (case h_n6_6 => delta L2.NoAttr; k_is)
    (case h_n6_7 => delta L2.NoAttr; k_is)
    (case h_n6_8 => delta L2.NoAttr; k_is)
    (case h_n6_9 => delta L2.NoAttr; k_is)
    (case h_s6_0 => k_is)
    (case h_s6_1 => k_is)
    (case h_s6_2 => k_is)
    (case h_s6_3 => k_is)
    (case h_s6_4 => k_is)
    (case h_s6_5 => k_is)
    (case h_s6_6 => k_is)
    (case h_su0 => k_is)
    (case h_rs0 => k_is)
    (case h_nq0 => k_is)
    (case h_eq0 => k_is)
    (case h_ob0 => k_is)
    (case h_su1 => k_is)
    (case h_rs1 => k_is)
    (case h_nq1 => k_is)
    (case h_eq1 => k_is)
    (case h_ob1 => k_is)
    (case h_su2 => k_is)
    (case h_rs2 => k_is)
    (case h_nq2 => k_is)
    (case h_eq2 => k_is)
    (case h_ob2 => k_is)
    (case h_su3 => k_is)
    (case h_rs3 => k_is)
    (case h_nq3 => k_is)
    (case h_eq3 => k_is)
    (case h_ob3 => k_is)
    (case h_su4 => k_is)
    (case h_rs4 => k_is)
    (case h_nq4 => k_is)
    (case h_eq4 => k_is)
    (case h_ob4 => k_is)
    (case h_su5 => k_is)
    (case h_rs5 => k_is)
    (case h_nq5 => k_is)
    (case h_eq5 => k_is)
    (case h_ob5 => k_is)
    (case h_su6 => k_is)
    (case h_rs6 => k_is)
    (case h_nq6 => k_is)
    (case h_eq6 => k_is)
    (case h_ob6 => k_is)
    (case h_anq0 => k_is)
    (case h_aeq0 => k_is)
    (case h_aob0 => k_is)
    (case h_ta0_0 => k_is)
    (case h_ta0_1 => k_is)
    (case h_ta0_2 => k_is)
    (case h_ta0_3 => k_is)
    (case h_ta0_4 => k_is)
    (case h_ta0_5 => k_is)
    (case h_ta0_6 => k_is)
    (case h_anq1 => k_is)
    (case h_aeq1 => k_is)
    (case h_aob1 => k_is)
    (case h_ta1_0 => k_is)
    (case h_ta1_1 => k_is)
    (case h_ta1_2 => k_is)
    (case h_ta1_3 => k_is)
    (case h_ta1_4 => k_is)
    (case h_ta1_5 => k_is)
    (case h_ta1_6 => k_is)
    (case h_anq2 => k_is)
    (case h_aeq2 => k_is)
    (case h_aob2 => k_is)
    (case h_ta2_0 => k_is)
    (case h_ta2_1 => k_is)
    (case h_ta2_2 => k_is)
    (case h_ta2_3 => k_is)
    (case h_ta2_4 => k_is)
    (case h_ta2_5 => k_is)
    (case h_ta2_6 => k_is)
    (case h_anq3 => k_is)
    (case h_aeq3 => k_is)
    (case h_aob3 => k_is)
    (case h_ta3_0 => k_is)
    (case h_ta3_1 => k_is)
    (case h_ta3_2 => k_is)
    (case h_ta3_3 => k_is)
    (case h_ta3_4 => k_is)
    (case h_ta3_5 => k_is)
    (case h_ta3_6 => k_is)
    (case h_i3 => k_is)
    (case h_i4 => k_is)
    (case h_mk0 => k_is)
    (case h_kp0 => k_is)
    (case h_mk1 => k_is)
    (case h_kp1 => k_is)
    (case h_mk2 => k_is)
    (case h_kp2 => k_is)
    (case h_mk3 => k_is)
    (case h_kp3 => k_is)
    (case h_mk4 => k_is)
    (case h_kp4 => k_is)
    (case h_mk5 => k_is)
    (case h_kp5 => k_is)
    (case h_mk6 => k_is)
    (case h_kp6 => k_is)
    (case h_i1 => k_is)
    (case h_i2 => k_is)
    (case h_acl0_0 => k_is)
    (case h_acl0_1 => k_is)
    (case h_acl0_2 => k_is)
    (case h_acl0_3 => k_is)
    (case h_ab0_0 => k_is)
    (case h_ab0_1 => k_is)
    (case h_ab0_2 => k_is)
    (case h_ab0_3 => k_is)
    (case h_aic0 => k_is)
    (case h_ati0 => k_is)
    (case h_an0_0 => delta L2.NoAttr; k_is)
    (case h_an0_1 => delta L2.NoAttr; k_is)
    (case h_an0_2 => delta L2.NoAttr; k_is)
    (case h_an0_3 => delta L2.NoAttr; k_is)
    (case h_an0_4 => delta L2.NoAttr; k_is)
    (case h_as0_0 => k_is)
    (case h_as0_1 => k_is)
    (case h_as0_2 => k_is)
    (case h_as0_3 => k_is)
    (case h_at0_0 => k_is)
    (case h_at0_1 => k_is)
    (case h_at0_2 => k_is)
    (case h_at0_3 => k_is)
    (case h_at0_4 => k_is)
    (case h_at0_5 => k_is)
    (case h_at0_6 => k_is)
    (case h_amk0 => k_is)
    (case h_akp0 => k_is)
    (case h_acl1_0 => k_is)
    (case h_acl1_1 => k_is)
    (case h_acl1_2 => k_is)
    (case h_acl1_3 => k_is)
    (case h_ab1_0 => k_is)
    (case h_ab1_1 => k_is)
    (case h_ab1_2 => k_is)
    (case h_ab1_3 => k_is)
    (case h_aic1 => k_is)
    (case h_ati1 => k_is)
    (case h_an1_0 => delta L2.NoAttr; k_is)
    (case h_an1_1 => delta L2.NoAttr; k_is)
    (case h_an1_2 => delta L2.NoAttr; k_is)
    (case h_an1_3 => delta L2.NoAttr; k_is)
    (case h_an1_4 => delta L2.NoAttr; k_is)
    (case h_as1_0 => k_is)
    (case h_as1_1 => k_is)
    (case h_as1_2 => k_is)
    (case h_as1_3 => k_is)
    (case h_at1_0 => k_is)
    (case h_at1_1 => k_is)
    (case h_at1_2 => k_is)
    (case h_at1_3 => k_is)
    (case h_at1_4 => k_is)
    (case h_at1_5 => k_is)
    (case h_at1_6 => k_is)
    (case h_amk1 => k_is)
    (case h_akp1 => k_is)
    (case h_acl2_0 => k_is)
    (case h_acl2_1 => k_is)
    (case h_acl2_2 => k_is)
    (case h_acl2_3 => k_is)
    (case h_ab2_0 => k_is)
    (case h_ab2_1 => k_is)
    (case h_ab2_2 => k_is)
    (case h_ab2_3 => k_is)
    (case h_aic2 => k_is)
    (case h_ati2 => k_is)
    (case h_an2_0 => delta L2.NoAttr; k_is)
    (case h_an2_1 => delta L2.NoAttr; k_is)
    (case h_an2_2 => delta L2.NoAttr; k_is)
    (case h_an2_3 => delta L2.NoAttr; k_is)
    (case h_an2_4 => delta L2.NoAttr; k_is)
    (case h_as2_0 => k_is)
    (case h_as2_1 => k_is)
    (case h_as2_2 => k_is)
    (case h_as2_3 => k_is)
    (case h_at2_0 => k_is)
    (case h_at2_1 => k_is)
    (case h_at2_2 => k_is)
    (case h_at2_3 => k_is)
    (case h_at2_4 => k_is)
    (case h_at2_5 => k_is)
    (case h_at2_6 => k_is)
    (case h_amk2 => k_is)
    (case h_akp2 => k_is)
    (case h_acl3_0 => k_is)
    (case h_acl3_1 => k_is)
    (case h_acl3_2 => k_is)
    (case h_acl3_3 => k_is)
    (case h_ab3_0 => k_is)
    (case h_ab3_1 => k_is)
    (case h_ab3_2 => k_is)
    (case h_ab3_3 => k_is)
    (case h_aic3 => k_is)
    (case h_ati3 => k_is)
    (case h_an3_0 => delta L2.NoAttr; k_is)
    (case h_an3_1 => delta L2.NoAttr; k_is)
    (case h_an3_2 => delta L2.NoAttr; k_is)
    (case h_an3_3 => delta L2.NoAttr; k_is)
    (case h_an3_4 => delta L2.NoAttr; k_is)
    (case h_as3_0 => k_is)
    (case h_as3_1 => k_is)
    (case h_as3_2 => k_is)
    (case h_as3_3 => k_is)
    (case h_at3_0 => k_is)
    (case h_at3_1 => k_is)
    (case h_at3_2 => k_is)
    (case h_at3_3 => k_is)
    (case h_at3_4 => k_is)
    (case h_at3_5 => k_is)
    (case h_at3_6 => k_is)
    (case h_amk3 => k_is)
    (case h_akp3 => k_is)
    (case h_sb0_0 => k_is)
    (case h_sb1_0 => k_is)
    (case h_sb2_0 => k_is)
    (case h_sb3_0 => k_is)
    (case h_tA0 => k_is)
    (case h_tT0 => k_is)
    (case h_tne0 => k_is)
    (case h_sm0 => k_is)
    (case h_sb0_1 => k_is)
    (case h_sb1_1 => k_is)
    (case h_sb2_1 => k_is)
    (case h_sb3_1 => k_is)
    (case h_tA1 => k_is)
    (case h_tT1 => k_is)
    (case h_sm1 => k_is)
    (case h_sb0_2 => k_is)
    (case h_sb1_2 => k_is)
    (case h_sb2_2 => k_is)
    (case h_sb3_2 => k_is)
    (case h_tA2 => k_is)
    (case h_tT2 => k_is)
    (case h_sm2 => k_is)
    (case h_sb0_3 => k_is)
    (case h_sb1_3 => k_is)
    (case h_sb2_3 => k_is)
    (case h_sb3_3 => k_is)
    (case h_tA3 => k_is)
    (case h_tT3 => k_is)
    (case h_sm3 => k_is)
    (case h_sb0_4 => k_is)
    (case h_sb1_4 => k_is)
    (case h_sb2_4 => k_is)
    (case h_sb3_4 => k_is)
    (case h_tA4 => k_is)
    (case h_tT4 => k_is)
    (case h_sm4 => k_is)
    (case h_sb0_5 => k_is)
    (case h_sb1_5 => k_is)
    (case h_sb2_5 => k_is)
    (case h_sb3_5 => k_is)
    (case h_tA5 => k_is)
    (case h_tT5 => k_is)
    (case h_sm5 => k_is)
    (case h_sb0_6 => k_is)
    (case h_sb1_6 => k_is)
    (case h_sb2_6 => k_is)
    (case h_sb3_6 => k_is)
    (case h_tA6 => k_is)
    (case h_tT6 => k_is)
    (case h_sm6 => k_is)
    (case h_ab_0 => k_is)
    (case h_aA0 => k_is)
    (case h_aT0 => k_is)
    (case h_am0 => k_is)
    (case h_ab_1 => k_is)
    (case h_aA1 => k_is)
    (case h_aT1 => k_is)
    (case h_am1 => k_is)
    (case h_ab_2 => k_is)
    (case h_aA2 => k_is)
    (case h_aT2 => k_is)
    (case h_am2 => k_is)
    (case h_ab_3 => k_is)
    (case h_aA3 => k_is)
    (case h_aT3 => k_is)
    (case h_am3 => k_is)
    (case h_d_is_integer_0 => k_is)
    (case h_d_is_integer_1 => k_is)
    (case h_d_is_integer_2 => k_is)
    (case h_d_is_integer_3 => k_is)
    (case h_d_is_name_0 => k_is)
    (case h_d_is_name_1 => k_is)
    (case h_d_is_name_2 => k_is)
    (case h_d_is_name_3 => k_is)
    (case h_d_is_term_0 => k_is)
    (case h_d_is_term_1 => k_is)
    (case h_d_is_term_2 => k_is)
    (case h_d_is_term_3 => k_is)
    (case h_d_is_look_0 => k_is)
    (case h_d_is_look_1 => k_is)
    (case h_d_is_look_2 => k_is)
    (case h_d_is_look_3 => k_is)
    (case h_d_checked_stream_0 => k_is)
    (case h_d_checked_stream_1 => k_is)
    (case h_d_checked_stream_2 => k_is)
    (case h_d_checked_stream_3 => k_is)
    (case h_d_checked_term_0 => k_is)
    (case h_d_checked_term_1 => k_is)
    (case h_d_checked_term_2 => k_is)
    (case h_d_checked_term_3 => k_is)
    (case h_d_sizes_0 => k_is)
    (case h_d_sizes_1 => k_is)
    (case h_d_sizes_2 => k_is)
    (case h_d_sizes_3 => k_is)
    (case h_d_shifted_0 => k_is)
    (case h_d_shifted_1 => k_is)
    (case h_d_shifted_2 => k_is)
    (case h_d_shifted_3 => k_is)
    (case h_d_is_amount_0 => k_is)
    (case h_d_is_amount_1 => k_is)
    (case h_d_is_amount_2 => k_is)
    (case h_d_is_amount_3 => k_is)
    (case h_d_children_of_0 => k_is)
    (case h_d_children_of_1 => k_is)
    (case h_d_children_of_2 => k_is)
    (case h_d_children_of_3 => k_is)
    (case h_d_parts_of_0 => k_is)
    (case h_d_parts_of_1 => k_is)
    (case h_d_parts_of_2 => k_is)
    (case h_d_parts_of_3 => k_is)
    (case h_d_terms_of_0 => k_is)
    (case h_d_terms_of_1 => k_is)
    (case h_d_terms_of_2 => k_is)
    (case h_d_terms_of_3 => k_is)
    (case h_d__law_pool_0 => k_is)
    (case h_d__law_pool_1 => k_is)
    (case h_d__law_pool_2 => k_is)
    (case h_d__law_pool_3 => k_is)
    (case h_d__law_draw_0 => k_is)
    (case h_d__law_draw_1 => k_is)
    (case h_d__law_draw_2 => k_is)
    (case h_d__law_draw_3 => k_is)
    (case h_d__law_names_0 => k_is)
    (case h_d__law_names_1 => k_is)
    (case h_d__law_names_2 => k_is)
    (case h_d__law_names_3 => k_is)
    (case h_d__law_moment_0 => k_is)
    (case h_d__law_moment_1 => k_is)
    (case h_d__law_moment_2 => k_is)
    (case h_d__law_moment_3 => k_is)
    (case h_d__law_joined_0 => k_is)
    (case h_d__law_joined_1 => k_is)
    (case h_d__law_joined_2 => k_is)
    (case h_d__law_joined_3 => k_is)
    (case h_d__law_children_0 => k_is)
    (case h_d__law_children_1 => k_is)
    (case h_d__law_children_2 => k_is)
    (case h_d__law_children_3 => k_is)
    (case h_d__law_sizes_0 => k_is)
    (case h_d__law_sizes_1 => k_is)
    (case h_d__law_sizes_2 => k_is)
    (case h_d__law_sizes_3 => k_is)
    (case h_d__law_streams_0 => k_is)
    (case h_d__law_streams_1 => k_is)
    (case h_d__law_streams_2 => k_is)
    (case h_d__law_streams_3 => k_is)
    (case h_d__law_taken_0 => k_is)
    (case h_d__law_taken_1 => k_is)
    (case h_d__law_taken_2 => k_is)
    (case h_d__law_taken_3 => k_is)
    (case h_d__law_step_0 => k_is)
    (case h_d__law_step_1 => k_is)
    (case h_d__law_step_2 => k_is)
    (case h_d__law_step_3 => k_is)
    (case h_d__law_is_sized_0 => k_is)
    (case h_d__law_is_sized_1 => k_is)
    (case h_d__law_is_sized_2 => k_is)
    (case h_d__law_is_sized_3 => k_is)
    (case h_d__law_shifts_0 => k_is)
    (case h_d__law_shifts_1 => k_is)
    (case h_d__law_shifts_2 => k_is)
    (case h_d__law_shifts_3 => k_is)
    (case h_d__law_equal_0 => k_is)
    (case h_d__law_equal_1 => k_is)
    (case h_d__law_equal_2 => k_is)
    (case h_d__law_equal_3 => k_is)
    (case h_d__law_is_apart_0 => k_is)
    (case h_d__law_is_apart_1 => k_is)
    (case h_d__law_is_apart_2 => k_is)
    (case h_d__law_is_apart_3 => k_is)
    (case h_m_NI_0 => k_is)
    (case h_m_NI_1 => k_is)
    (case h_m_NI_2 => k_is)
    (case h_m_NI_3 => k_is)
    (case h_m_NI_4 => k_is)
    (case h_m_LI_0 => k_is)
    (case h_m_LI_1 => k_is)
    (case h_m_LI_2 => k_is)
    (case h_m_LI_3 => k_is)
    (case h_m_LI_4 => k_is)
    (case h_m_XI_0 => k_is)
    (case h_m_XI_1 => k_is)
    (case h_m_XI_2 => k_is)
    (case h_m_XI_3 => k_is)
    (case h_m_XI_4 => k_is)
    (case h_m_SI_0 => k_is)
    (case h_m_SI_1 => k_is)
    (case h_m_SI_2 => k_is)
    (case h_m_SI_3 => k_is)
    (case h_m_SI_4 => k_is)
    (case h_m_EI_0 => k_is)
    (case h_m_EI_1 => k_is)
    (case h_m_EI_2 => k_is)
    (case h_m_EI_3 => k_is)
    (case h_m_EI_4 => k_is)
    (case h_m_JI_0 => k_is)
    (case h_m_JI_1 => k_is)
    (case h_m_JI_2 => k_is)
    (case h_m_JI_3 => k_is)
    (case h_m_JI_4 => k_is)
    (case h_m_KI_0 => k_is)
    (case h_m_KI_1 => k_is)
    (case h_m_KI_2 => k_is)
    (case h_m_KI_3 => k_is)
    (case h_m_KI_4 => k_is)
    (case h_m_nuI_0 => k_is)
    (case h_m_nuI_1 => k_is)
    (case h_m_nuI_2 => k_is)
    (case h_m_nuI_3 => k_is)
    (case h_m_nuI_4 => k_is)
    (case h_m_coI_0 => k_is)
    (case h_m_coI_1 => k_is)
    (case h_m_coI_2 => k_is)
    (case h_m_coI_3 => k_is)
    (case h_m_coI_4 => k_is)
    (case h_m_toI_0 => k_is)
    (case h_m_toI_1 => k_is)
    (case h_m_toI_2 => k_is)
    (case h_m_toI_3 => k_is)
    (case h_m_toI_4 => k_is)
    (case h_m_gaI_0 => k_is)
    (case h_m_gaI_1 => k_is)
    (case h_m_gaI_2 => k_is)
    (case h_m_gaI_3 => k_is)
    (case h_m_gaI_4 => k_is)
    (case h_m_add_0 => k_is)
    (case h_m_add_1 => k_is)
    (case h_m_add_2 => k_is)
    (case h_m_add_3 => k_is)
    (case h_m_add_4 => k_is)
    (case h_m_ior_0 => k_is)
    (case h_m_ior_1 => k_is)
    (case h_m_ior_2 => k_is)
    (case h_m_ior_3 => k_is)
    (case h_m_ior_4 => k_is)
    (case h_m_lat_0 => k_is)
    (case h_m_lat_1 => k_is)
    (case h_m_lat_2 => k_is)
    (case h_m_lat_3 => k_is)
    (case h_m_lat_4 => k_is)
    (case h_m_ear_0 => k_is)
    (case h_m_ear_1 => k_is)
    (case h_m_ear_2 => k_is)
    (case h_m_ear_3 => k_is)
    (case h_m_ear_4 => k_is)
    (case h_m_sub_0 => k_is)
    (case h_m_sub_1 => k_is)
    (case h_m_sub_2 => k_is)
    (case h_m_sub_3 => k_is)
    (case h_m_sub_4 => k_is)
    (case h_m_teq_0 => k_is)
    (case h_m_teq_1 => k_is)
    (case h_m_teq_2 => k_is)
    (case h_m_teq_3 => k_is)
    (case h_m_teq_4 => k_is)
    (case h_m_aeq_0 => k_is)
    (case h_m_aeq_1 => k_is)
    (case h_m_aeq_2 => k_is)
    (case h_m_aeq_3 => k_is)
    (case h_m_aeq_4 => k_is)
    (case h_m_str_0 => k_is)
    (case h_m_str_1 => k_is)
    (case h_m_str_2 => k_is)
    (case h_m_str_3 => k_is)
    (case h_m_str_4 => k_is)
    (case h_m_ast_0 => k_is)
    (case h_m_ast_1 => k_is)
    (case h_m_ast_2 => k_is)
    (case h_m_ast_3 => k_is)
    (case h_m_ast_4 => k_is)
    (case h_M_1_2 => first | rfl | decide +kernel)
    (case h_M_1_6 => first | rfl | decide +kernel)

