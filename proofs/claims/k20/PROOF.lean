import PyProof.Rows.All
import Wide.All
import OpenK.AllK
import Wide.FinOn
import PyProof.EqAt
import PyProof.EqKinds
import PyProof.TupleCall
import KE.KExcSuper
import HandS.ForMost
import HandS.ForExc
import HandS.ExcInit
import HandS.IsInst
import HandS.Wide
import HandS.Star
import HandS.CallSlots
import HandS.DictComp
import HandS.OwnEq
import HandS.Codes
import HandS.Defaults
import HandS.Walk
import PySem.Challenge.RW_asofhall_k20_rings_or_solutions
import HandS.TupMul
import HandS.TupAny
import HandS.TupLe
set_option Elab.async false
set_option linter.all false
set_option maxRecDepth 100000
set_option maxHeartbeats 4000000
namespace PySem
namespace BadX
open PySem.W PySem.Calls PyProof.Rows PySem.HandSPX
/-- super().__init__(text); self.fl = par -/
def shape (tx par fl : Str) (p0 p1 p2 p3 p4 p5 p6 p7 p8 p9 : Pos) (j : Nat) : List Stmt :=
  [.Expr (.Call (.Attribute (.Call (.Name "super" p0) [] [] p1) "__init__" p2) [.Constant (.str tx) j p3] [] p4) p5,
   .Assign [.Attribute (.Name "self" p6) fl p7] (.Name par p8) p9]
def sco (par : Str) : Scope := { kind := .function, names := [(PySem.Str.ofString "self", .local), (par, .local), (PySem.Str.ofString "__class__", .free), (PySem.Str.ofString "super", .globalImplicit)], isGenerator := false, isCoroutine := false, more := [] }
/-- what the written part says of an own error's class at C, its __init__ at fI, whose one field is fl -/
structure Txt (P : Program) (K : Frag) (mg : Str → Option Value) (par fl : Str) (C fI : Addr) : Prop where
  cls : ∃ nm q N bs bm sn sub ab col dd k0 k1 k2 k3 k5, K.lookup C = some (excClassObj nm q C N bs bm true sn sub ab col dd k0 k1 k2 k3 k5 "ValueError.__new__") ∧ refsVE bm = true
  sa : findIn K (.ref C) "__setattr__" = some (some (.builtin "object.__setattr__"))
  ga : findIn K (.ref C) "__getattribute__" = some (some (.builtin "BaseException.__getattribute__"))
  gg : findIn K (.ref C) "__getattr__" = some none
  noN : findIn K (.ref C) fl = some none
  iC : findIn K (.ref C) "__init__" = some (some (.ref fI))
  tC : typeIn K (.ref fI) = some (.type "function")
  kC : keepIn K (.ref C) = true
  exC : subIn K (.ref C) (.type "BaseException") = some true
  veC : subIn K (.ref C) (.type "ValueError") = some true
  slf : mroIn K C (.ref C) = some true
  tyC : typeIn K (.ref C) = some (.type "type")
  hdC : hasDictIn K C = true
  te : exmOne K (.ref C) (.ref C) = some true
  along : ks_superIn K C C "__init__" = some (some (.builtin "ValueError.__init__"))
  opq : nsIn K cStatics "thirdparty.any" = some none
  sup : mg "super" = none
  top : (P.main.scope.names.lookup ("super" : Str)).isSome = false
  fn : ∃ (oc : Value) (od : Option Addr) (qual tx : Str) (doc pm : Value) (an : Option Addr) (cda cc : Addr) (ct : Value) (osl : Array (Option Value)) (pa : Arguments) (p0 p1 p2 p3 p4 p5 p6 p7 p8 p9 : Pos) (j : Nat) (a0 : Arg),
    K.lookup fI = some ⟨oc, od, .func (ksFn "__init__" qual pa (shape tx par fl p0 p1 p2 p3 p4 p5 p6 p7 p8 p9 j) (sco par) .none .none doc pm an (.ref cda) ct cc), osl⟩ ∧ codeIn K (.ref cda) qual = true ∧
    (pa.posonlyargs ++ pa.args).head? = some a0 ∧ a0.arg = "self" ∧
    (∀ (s : Shared) (u v : Value), BindsTo s (ksFn "__init__" qual pa (shape tx par fl p0 p1 p2 p3 p4 p5 p6 p7 p8 p9 j) (sco par) .none .none doc pm an (.ref cda) ct cc) ⟨[u, v], []⟩ [("self", u), (par, v)]) ∧
    (∃ ccl cdd vs ccs file tf, K.lookup cda = some ⟨ccl, cdd, .fields vs, ccs⟩ ∧ vs[2]? = some (.str file tf) ∧ ((P.main.file : Str) == file) = true) ∧
    (p2.endLine == p4.line) = true ∧
    (∃ cl cld csl, K.lookup cc = some ⟨cl, cld, .cell (some (.ref C)), csl⟩)
/-- what __init__ leaves of a fresh exception at x -/
structure Left (fl : Str) (h h' : Heap) (x C dx t1 : Addr) (v : Value) : Prop where
  keep : ∀ b o, b ≠ x → h.get? b = some o → h'.get? b = some o
  obj : h'.get? x = some { cls := .ref C, dict := some dx, data := .fields #[.ref t1, .none, .none, .none, .bool false, .none] }
  dbig : h.objs.size ≤ dx
  dne : dx ≠ x
  ns : h'.Ns1 dx (fun y => if y = fl then some v else none)
section
variable {prog : Program} {w : World} {A : Around} {E : Value → Shared → Prop} {R : Result → Shared → Prop} {s : Shared} {K : Frag} {mg mb : Str → Option Value} {C fI : Addr} {par fl : Str}
/-- the wrapper of ValueError.__init__, bound to x, called -/
theorem call_bound {h : Heap} {g : Array GenState} {d : Drawn} {t : Nat} {os : OsState} {u x t0 : Addr} {rest : List Value} {Q : Value → Shared → Prop} {nm q : Str} {N : Addr} {bs bm : List Value} {sn : List Str} {sub : List Value} {ab : Bool} {col : Option Bool} {dd : Option Addr} {k0 k1 k2 k3 k5 : Option Value}
    (hC : h.get? C = some (excClassObj nm q C N bs bm true sn sub ab col dd k0 k1 k2 k3 k5 "ValueError.__new__")) (hx : h.get? x = some (excO C t0)) (hu : h.get? u = some (kxs_mw "ValueError.__init__" x)) (hr : rest.length ≤ sizeLine)
    (hq : ∀ h', (∀ b o, b ≠ x → h.get? b = some o → h'.get? b = some o) → h'.get? x = some (excO C h.objs.size) → Q .none ⟨h', g, d, t, os⟩) :
    wpAny (model prog w) A (call (.ref u) rest) Q E ⟨h, g, d, t, os⟩ := by
  have FB := F.excBase_ValueError
  refine wpAny_call (codeAny_of_tree ?_)
  show wpAny _ A.in1 (callAny (.ref u) ⟨rest, []⟩) _ _ _
  simp only [callAny]
  refine wpAny_bind (wpAny_load hu ?_)
  have c1 : (Value.type "method-wrapper" == Value.type "method" || Value.type "method-wrapper" == Value.type "builtin_function_or_method" || Value.type "method-wrapper" == Value.type "method-wrapper") = true := by decide
  simp only [kxs_mw, c1, if_true]
  refine KFB.if_so (by decide) (wpAny_bind (check_bound_init FB.toExcCallFacts hC hx rfl (wpAny_bind (wpAny_pure (wpAny_pure ⟨plainId_quiet FB.init.plain _, codeAny_builtin FB.initEntry ?_⟩)))))
  exact exc_init_tree (cls := .ref C) (t0 := t0) (dv := none) (c2 := .none) (c3 := .none) (b4 := .bool false) hx hr fun h' k e' _ => hq h' k e'
theorem init_ok {x t0 : Addr} {v : Value} (T : Txt prog K mg par fl C fI) (X : K.In s.heap) (G : s.heap.Ns mainGlobals mg) (B : s.heap.Ns builtinsNs mb) (hb : mb "super" = some (.type "super")) (hlim : s.heap.NoLimit)
    (hx : s.heap.get? x = some (excO C t0)) (hnx : K.lookup x = none) (hroom : A.depth < recursionLimit) (hp1 : (par == ("__debug__" : Str)) = false) (hp2 : ¬ par = "self")
    (hloc : (sco par).names.lookup par = some .local) (hks : (sco par).names.lookup ("super" : Str) = some .globalImplicit) (hkc : (sco par).names.lookup ("__class__" : Str) = some .free)
    (hq : ∀ h' tk t1 dx, Left fl s.heap h' x C dx t1 v → R (.ok (.ret .none)) { s with heap := h', toks := tk }) :
    codeAny (model prog w) A (.call (.ref fI) ⟨[.ref x, v], []⟩) R s := by
  obtain ⟨oc, od, qual, tx, doc, pm, an, cda, cc, ct, osl, pa, p0, p1, p2, p3, p4, p5, p6, p7, p8, p9, j, a0, ho, hcd, ha0, ha1, hbd, ⟨ccl, cdd, vs, ccs, file, tf, hcode, hvs, hfile⟩, hpe, ⟨cl, cld, csl, hcell⟩⟩ := T.fn
  obtain ⟨nm, q, N, bs, bm, sn, sub, ab, col, dd, k0, k1, k2, k3, k5, hC, hbm⟩ := T.cls
  have hcl : clsIn K C = some { name := nm, bases := bs, mro := .ref C :: bm, ns := N, qualname := q, hasDict := true, slotNames := sn, subclasses := sub, abstract := ab, collection := col, hasDel := false } := by unfold clsIn; rw [hC] <;> rfl
  refine ks_codeAny_call_defAt (binds := [("self", .ref x), (par, v)]) hroom (X _ _ ho) rfl hlim (codeRec_of X hcd) rfl (hbd s (.ref x) v) ?_ ?_ (fun h₁ hns hk₁ => ?_)
  · intro y hy
    have : y ∈ [(PySem.Str.ofString "self", NameKind.local), (par, .local), (PySem.Str.ofString "__class__", .free), (PySem.Str.ofString "super", .globalImplicit)] := hy
    simp only [List.mem_cons, List.not_mem_nil, or_false] at this
    rcases this with rfl | rfl | rfl | rfl <;> (intro z; cases z)
  · intro y hy
    simp only [List.mem_cons, List.not_mem_nil, or_false] at hy
    rcases hy with rfl | rfl
    · exact (by rfl : (sco par).names.lookup ("self" : Str) = some .local)
    · exact hloc
  have hself : ([(("self" : Str), Value.ref x), (par, v)] : List (Str × Value)).reverse.lookup ("self" : Str) = some (Value.ref x) := by
    show List.lookup ("self" : Str) [(par, v), (("self" : Str), Value.ref x)] = _
    have e1 : (("self" : Str) == par) = false := by simpa using fun z => hp2 z.symm
    simp [List.lookup, e1]
  have hpar : ([(("self" : Str), Value.ref x), (par, v)] : List (Str × Value)).reverse.lookup par = some v := by
    show List.lookup par [(par, v), (("self" : Str), Value.ref x)] = _
    simp [List.lookup]
  have X₁ : K.In h₁ := X.keeps hk₁
  have hx₁ := hk₁ _ _ hx
  refine ks_wpAt_execs_cons (ks_wpAt_Expr_any (ks_wpAt_MethodCall (pl := ?pl) ?_ ?he))
  case he =>
    rw [arm_eval_Call]
    unfold methodCall methodCallPos
    rw [hpe]
    with_unfolding_all rfl
  refine ks_wpAt_super_base (hks := hks) (hkc := hkc) (by decide +kernel) rfl (X₁ _ _ ho) rfl ha0 rfl (X₁ _ _ hcode) rfl hvs hfile T.top ?_
  refine ks_loadName_global rfl hks (loadGlobal_builtin (G.keeps hk₁) T.sup (B.keeps hk₁) hb ⟨rfl, ?_⟩)
  refine wpAny_loadName_free rfl hkc rfl ⟨_, X₁ _ _ hcell, rfl⟩ ?_
  rw [ha1]
  refine wpAny_loadName_local rfl rfl hns hself ?_
  refine ks_wpAny_isType_cls (X₁ _ _ hC) rfl ⟨rfl, ?_⟩
  refine ks_wpAny_call_super (X₁ _ _ hC) rfl hx₁ rfl (fun c e => by cases e) (looks_mroIn X₁ T.slf) (fun h₂ e₂ k₂ => ?_)
  have X₂ : K.In h₂ := X₁.keeps k₂
  have hx₂ := k₂ _ _ hx₁
  have I₂ : InstAt h₂ x (excO C t0) C none := ⟨hx₂, rfl, rfl, trivial⟩
  have hal := T.along
  unfold ks_superIn at hal
  rw [hcl] at hal
  refine kxs_getMethod kxs_ValueError e₂ (looks_opaque X₂ T.opq) (l₀ := .ref C :: bm) ?_ rfl X₂ hal (I₂.type.andThen (looks_subIn X₂ T.veC)) (ks_ne X₂ I₂ hcl) (by decide +kernel) ?_
  · exact fun A Q E s k q => wpAny_bind ((looks_clsIn X₂ hcl) A _ E s k (wpAny_pure q))
  have hu : (h₂.push (kxs_mw "ValueError.__init__" x)).get? h₂.objs.size = some (kxs_mw "ValueError.__init__" x) := Heap.get?_push_at rfl rfl
  have k₃ : ∀ b o, h₂.get? b = some o → (h₂.push (kxs_mw "ValueError.__init__" x)).get? b = some o := fun b o e => Heap.get?_push_of_some _ e
  let H₃ := h₂.push (kxs_mw "ValueError.__init__" x)
  refine kxs_callWith1 (i := "ValueError.__init__") (x := x) (u := h₂.objs.size) (h₀ := Att.noObjs H₃) (L := h₂.objs.size + 7) (news := [(h₂.objs.size, kxs_mw "ValueError.__init__" x)]) (fun q hq => ?_) (List.Mem.head _) ?_
  · rcases List.mem_cons.mp hq with rfl | hq
    · exact ⟨hu, by show h₂.objs.size ≠ h₂.objs.size + 7; omega, Att.noObjs_get _ _⟩
    · cases hq
  refine wpAny_items_cons (Constant_str ?_)
  refine wpAny_items_nil ⟨hu, ?_⟩
  have X₃ : K.In (h₂.push (kxs_mw "ValueError.__init__" x)) := X₂.keeps k₃
  refine call_bound (X₃ _ _ hC) (k₃ _ _ hx₂) hu (by rw [sizeLine_eq]; exact (by decide : 1 ≤ 16777216)) fun h₄ k₄ e₄ => ?_
  -- self.fl = par
  have k14 : ∀ b o, b ≠ x → h₁.get? b = some o → h₄.get? b = some o := fun b o hb e => k₄ b o hb (k₃ b o (k₂ b o e))
  have xL : s.heap.objs.size ≠ x := Nat.ne_of_gt (Heap.lt_size hx)
  obtain ⟨oL, es, ep, hL, hr⟩ := hns
  have hns₄ : h₄.Ns s.heap.objs.size (fun y => ([(("self" : Str), Value.ref x), (par, v)] : List (Str × Value)).reverse.lookup y) := ⟨oL, es, ep, k14 _ _ xL hL, hr⟩
  have X₄ : K.In h₄ := fun a o e => k₄ a o (fun z => by rw [z, hnx] at e; cases e) (X₃ a o e)
  refine wpAt_of_wpAny (wpAny_execs_cons (plainObj_wpAny_Assign_Attribute ?_))
  refine wpAny_Name (wpAny_loadName_local rfl hloc hns₄ hpar ?_) hp1
  refine wpAny_Name (wpAny_loadName_local rfl rfl hns₄ hself ?_) (by decide)
  refine set_plain X₄ (ox := excO C h₂.objs.size.succ) (od := none) ⟨?_, rfl, rfl, trivial⟩ T.sa ?_
  · show h₄.get? x = some (excO C h₂.objs.size.succ)
    rw [e₄, Heap.size_push]
  have e₄' : h₄.get? x = some (excO C h₂.objs.size.succ) := by
    rw [e₄, Heap.size_push]
  refine exc_osa X₄ e₄' hcl (show refsVE (.ref C :: bm) = true from hbm) rfl T.noN (fun h₅ tk₅ dx k₅ dn dne hx₅ hn₅ => ?_)
  have z1 : s.heap.objs.size < h₄.objs.size := Heap.lt_size (k14 _ _ xL hL)
  refine wpAny_execs_nil (hq h₅ tk₅ _ dx ⟨fun b o hb e => k₅ b o hb (k14 b o hb (hk₁ b o e)), hx₅, Nat.le_of_lt (Nat.lt_of_lt_of_le z1 dn), dne, hn₅⟩)
theorem one_le (v : Value) : [v].length ≤ sizeLine := by
  rw [sizeLine_eq]
  exact (by decide : 1 ≤ 16777216)
/-- a made error -/
structure Made (fl : Str) (h h' : Heap) (e C d : Addr) (v : Value) : Prop where
  keep : ∀ b o, h.get? b = some o → h'.get? b = some o
  new : h.objs.size ≤ e
  obj : ∃ oe vs, h'.get? e = some oe ∧ oe.cls = .ref C ∧ oe.dict = some d ∧ oe.data = .fields vs ∧ vs[1]? = some .none
  dbig : h.objs.size ≤ d
  dne : d ≠ e
  ns : h'.Ns1 d (fun y => if y = fl then some v else none)
/-- the names of such an __init__ -/
structure Par (par : Str) : Prop where
  p1 : (par == ("__debug__" : Str)) = false
  p2 : ¬ par = "self"
  p3 : (sco par).names.lookup par = some .local
  p4 : (sco par).names.lookup ("super" : Str) = some .globalImplicit
  p5 : (sco par).names.lookup ("__class__" : Str) = some .free
theorem made_ok {v : Value} (T : Txt prog K mg par fl C fI) (p : Par par) (X : K.In s.heap) (G : s.heap.Ns mainGlobals mg) (B : s.heap.Ns builtinsNs mb) (hb : mb "super" = some (.type "super")) (hlim : s.heap.NoLimit) (hroom : A.depth + 1 < recursionLimit)
    (hq : ∀ h' tk e d, Made fl s.heap h' e C d v → R (.ok (.ret (.ref e))) { s with heap := h', toks := tk }) :
    codeAny (model prog w) A (.call (.ref C) ⟨[v], []⟩) R s := by
  obtain ⟨nm, q, N, bs, bm, sn, sub, ab, col, dd, k0, k1, k2, k3, k5, hC, hbm⟩ := T.cls
  obtain ⟨hp, g, dr, tk, os⟩ := s
  let hp2 := (hp.push (kdv_tup [v])).push (excO C hp.objs.size)
  have k : ∀ b o, hp.get? b = some o → hp2.get? b = some o := fun b o e => Heap.get?_push_of_some _ (Heap.get?_push_of_some _ e)
  have hget : hp2.get? (hp.objs.size + 1) = some (excO C hp.objs.size) := by
    show ((hp.push (kdv_tup [v])).push (excO C hp.objs.size)).get? (hp.objs.size + 1) = _
    heap_get
  have hsz : hp2.objs.size = hp.objs.size + 2 := by
    show ((hp.push (kdv_tup [v])).push (excO C hp.objs.size)).objs.size = _
    rw [Heap.size_push, Heap.size_push]
  have hnx : K.lookup (hp.objs.size + 1) = none := by
    cases e : K.lookup (hp.objs.size + 1) with
    | none => rfl
    | some o => exact absurd (Nat.lt_of_succ_lt (Heap.lt_size (show hp.get? _ = some o from X _ _ e))) (Nat.lt_irrefl _)
  refine call_own F.excBase_ValueError (fun Y => refsVE_contains Y bm hbm) (X _ _ hC) (looks_findIn X T.iC) (fun self => bind_fn X self T.tC) (one_le v) ?_
  refine init_ok (s := ⟨hp2, g, dr, tk, os⟩) T (X.keeps k) (G.keeps k) (B.keeps k) hb (hlim.keeps k) hget hnx (show A.depth + 1 < recursionLimit from hroom) p.p1 p.p2 p.p3 p.p4 p.p5 fun h' tk' t1 dx ⟨k', hx, dn, dne, hns⟩ => ?_
  have old : ∀ b o, hp.get? b = some o → h'.get? b = some o := fun b o e => k' b o (Nat.ne_of_lt (Nat.lt_succ_of_lt (Heap.lt_size e))) (k b o e)
  have dn' : hp2.objs.size ≤ dx := dn
  rw [hsz] at dn'
  exact ⟨rfl, hq h' tk' (hp.objs.size + 1) dx ⟨old, Nat.le_succ _, ⟨_, _, hx, rfl, rfl, rfl, rfl⟩, (by show hp.objs.size ≤ dx; omega), dne, hns⟩⟩
end
end BadX
end PySem
namespace L2
open PySem PySem.Spec PyProof.Rows
theorem relO_one {v : V} {v' : Value} (r : RelV v v') (fl f : Str) : RelO (List.lookup f [(fl, v)]) (if f = fl then some v' else none) := by
  by_cases hw : f = fl
  · subst hw
    rw [if_pos rfl]
    have q : List.lookup f [(f, v)] = some v := by simp [List.lookup]
    rw [q]
    exact r
  · rw [if_neg hw]
    have qw : (f == fl) = false := by simpa using hw
    have q2 : List.lookup f [(fl, v)] = none := by simp [List.lookup, qw]
    rw [q2]
    trivial
section
variable {X : Cx} {C fI : Addr}
/-- Cls(e), an own error with the one field fl -/
def tMkB (fl : Str) (C : Addr) (ta : TA) : St → Hp → XK → Prop := fun σ H Q => ta σ H fun vs H1 => ∃ v, vs = [v] ∧ ∀ d, H1 d = none → Q (.ref C) (some d) (upd H1 d (.xd [(fl, v)]))
theorem pmk_bad {x par fl : Str} {a : Expr} {ta : TA} {p pos : Pos} {k : Nat} (T : PySem.BadX.Txt X.prog X.K X.mg par fl C fI) (pr : PySem.BadX.Par par) (hm : X.mg x = some (.ref C)) (hr : Room k X.A) (ha : PA X [a] ta) (hg : Gl X x)
    (hdb : (x == ("__debug__" : Str)) = false := by decide)
    (he : starEach (a :: []) X.env = (false, eval a X.env) :: starEach [] X.env := by rfl) (hpl : (backTo pos (starEach [] X.env)).any (·.1) = false := by rfl) :
    PMk X (.Call (.Name x p) [a] [] pos) (tMkB fl C ta) := by
  intro pins s σ H Q I h
  refine wpAny_Call_Name_kw (ld_glob I hg hm ?_ hdb)
  refine PySem.W.callWith_K (h₀ := X.base) I.ok.mod.kin T.kC (thn (ha.run pos pins s σ H _ I h) fun us s1 hh => ?_) he hpl
  obtain ⟨vs, H1, I1, r1, v, ev, q1⟩ := hh
  subst ev
  refine ⟨I1.kIn, ?_⟩
  cases r1 with
  | cons rv rn =>
    rename_i v' us'
    cases rn
    show wpAny _ _ (call (.ref C) [v']) _ _ _
    have hlim := I1.nolimit
    obtain ⟨mb, hb1, hb2⟩ := I1.mod.blt
    have Gn : s1.heap.Ns mainGlobals X.mg := I1.mod.glob.keeps I1.bk
    have Bn : s1.heap.Ns builtinsNs mb := hb1.keeps I1.bk
    have hbs : mb "super" = some (.type "super") := (hb2 _ (by decide +kernel)).trans (by first | boot_by_name | rfl | kernel_rfl)
    obtain ⟨hp, g, dr, tk, os⟩ := s1
    refine wpAny_call (PySem.BadX.made_ok T pr I1.kIn Gn Bn hbs hlim (by have := hr.dp; omega) fun h' tk' e d M => ?_)
    show MkP X pins σ Q (.ref e) ⟨h', g, dr, tk', os⟩
    obtain ⟨oe, fv, hoe, hc, hd, hdat, h1⟩ := M.obj
    have hns := M.ns
    obtain ⟨G', g1, g2⟩ := restrict h' fun b => decide (b ≠ e)
    have gk : ∀ b, b ≠ e → G'.get? b = h'.get? b := fun b hb => g1 b (decide_eq_true hb)
    have ge : G'.get? e = none := g2 e (by simp)
    have old : ∀ b o, hp.get? b = some o → G'.get? b = some o := fun b o q => (gk b (Nat.ne_of_lt (Nat.lt_of_lt_of_le (Heap.lt_size q) M.new))).trans (M.keep b o q)
    have ob : ObjOk X.prog X.w (upd H1 d (.xd [(fl, v)])) G' d (.xd [(fl, v)]) :=
      ⟨_, hns.at (fun o q => (gk d M.dne).trans q), fun f => relO_one rv fl f⟩
    have J : Inv X pins σ (upd H1 d (.xd [(fl, v)])) ⟨G', g, dr, tk', os⟩ := I1.laid (t' := tk') old M.dbig ob
    refine ⟨e, oe, fv, ⟨G', g, dr, tk', os⟩, _, .ref C, some d, rfl, J, fun b o q => ?_, ge, hoe, ⟨hc, hd⟩, hdat, h1, ?_, rfl, I1.bare, raises_own T.exC T.tyC, q1 d (I1.hok.fresh M.dbig)⟩
    · by_cases hb : b = e
      · have q' : G'.get? b = some o := q
        rw [hb, ge] at q'; cases q'
      · exact (gk b hb).symm.trans q
    · rw [upd_ne (Ne.symm M.dne)]
      exact I1.hok.fresh M.new
/-- raise Cls(e) -/
def tRaiseB (fl : Str) (C : Addr) (W : WX) (ta : TA) : TS := fun _ σ H => tMkB fl C ta σ H fun cls d H' => W cls d σ H'
theorem ps_raiseB {x par fl : Str} {a : Expr} {ta : TA} {W : WX} {p pos pos2 : Pos} {k : Nat} (hc : X.calm = true) (T : PySem.BadX.Txt X.prog X.K X.mg par fl C fI) (pr : PySem.BadX.Par par) (hm : X.mg x = some (.ref C)) (hr : Room k X.A) (tk : Takes X W) (ha : PA X [a] ta) (hg : Gl X x)
    (hdb : (x == ("__debug__" : Str)) = false := by decide)
    (he : starEach (a :: []) X.env = (false, eval a X.env) :: starEach [] X.env := by rfl) (hpl : (backTo pos (starEach [] X.env)).any (·.1) = false := by rfl) :
    PS X (.Raise (some (.Call (.Name x p) [a] [] pos)) none pos2) (tRaiseB fl C W ta) := ps_raise hc tk (pmk_bad T pr hm hr ha hg hdb he hpl)
end
end L2

set_option Elab.async false
set_option linter.all false
set_option maxRecDepth 100000
set_option maxHeartbeats 4000000
namespace Ash
open PySem PySem.Spec PyProof.Rows L2
abbrev topS (i : Nat) : Stmt := PySem.Challenge.pw_asofhall_k20_rings_or_solutions.main.body.getD i (.Pass ⟨0, 0, 0, 0⟩)
/-- a def of the top by its name, with its promise -/
structure Cal (P : Program) (w : World) (K : PySem.W.Frag) (mg : Str → Option Value) (base : Heap) (CX : CXT) (x : Str) (k : Nat) (ps : List Str) (sp : Sp) : Prop where
  ex : ∃ f fd, mg x = some (.ref f) ∧ PySem.W.keepIn K (.ref f) = true ∧ Binds K fd ps [] ∧ FnOk P w K mg base CX k f fd ps sp
section
variable {X : Cx} {CX : CXT} {k j : Nat} {ps : List Str} {sp : Sp} {E : XK} {x : Str} {p pos : Pos} {e : Expr} {es : List Expr} {t : TA}
theorem pe_cal (G : Cal X.prog X.w X.K X.mg X.base CX x k ps sp) (hr : Room k X.A) (hx : Passes CX X E) (ha : PA X (e :: es) t) (hg : Gl X x := by rfl)
    (hdb : (x == ("__debug__" : Str)) = false := by decide) (he : starEach (e :: es) X.env = (false, eval e X.env) :: starEach es X.env := by rfl) (hpl : (backTo pos (starEach es X.env)).any (·.1) = false := by rfl) :
    PE X (.Call (.Name x p) (e :: es) [] pos) (tCall sp [] E t) := by
  obtain ⟨f, fd, hm, hk, hb, F⟩ := G.ex
  exact pe_call F hr hg hm hk hb .nil hx ha hdb he hpl
theorem pe_calS {E : L2.St → XK} (G : Cal X.prog X.w X.K X.mg X.base CX x k ps sp) (hr : Room k X.A) (hx : ∀ σ, PassesAt CX X σ (E σ)) (ha : PA X (e :: es) t) (hg : Gl X x := by rfl)
    (hdb : (x == ("__debug__" : Str)) = false := by decide) (he : starEach (e :: es) X.env = (false, eval e X.env) :: starEach es X.env := by rfl) (hpl : (backTo pos (starEach es X.env)).any (·.1) = false := by rfl) :
    PE X (.Call (.Name x p) (e :: es) [] pos) (tCallSD sp [] E t) := by
  obtain ⟨f, fd, hm, hk, hb, F⟩ := G.ex
  exact pe_callSD F hr hg hm hk hb .nil hx ha hdb he hpl
/-- a class by its name, with its __init__'s promise -/
structure Mak (P : Program) (w : World) (K : PySem.W.Frag) (mg : Str → Option Value) (base : Heap) (CX : CXT) (x : Str) (C : Addr) (k : Nat) (ps : List Str) (sp : Sp) : Prop where
  ex : ∃ f fd, Mk K C f ∧ mg x = some (.ref C) ∧ Binds K fd ps [] ∧ FnOk P w K mg base CX k f fd ps sp
theorem pe_mak {C : Addr} (G : Mak X.prog X.w X.K X.mg X.base CX x C k ps sp) (hr : Room (k + 1) X.A) (hx : Passes CX X E) (ha : PA X (e :: es) t) (hg : Gl X x := by rfl)
    (hdb : (x == ("__debug__" : Str)) = false := by decide) (he : starEach (e :: es) X.env = (false, eval e X.env) :: starEach es X.env := by rfl) (hpl : (backTo pos (starEach es X.env)).any (·.1) = false := by rfl) :
    PE X (.Call (.Name x p) (e :: es) [] pos) (tMake C sp [] E t) := by
  obtain ⟨f, fd, M, hm, hb, F⟩ := G.ex
  exact pe_make M F hr hg hm hb .nil hx ha hdb he hpl
/-- int(n) of an int -/
theorem call_intI : CallR X (.type "int") (fun xs H Q => ∃ i, xs = [.int i] ∧ Q (.int i) H) := by
  intro pins s σ H xs us Q I r h
  exact call_int1 pins s σ H xs us Q I r (.inl h)
end
/-- what is wanted of an exception at any slots of the def -/
def WEl (X : Cx) (W : WX) : XK := fun cls d H => ∀ σ : L2.St, σ.length = X.N.length → W cls d σ H
theorem passW {X : Cx} {W : WX} (tk : Takes X W) : Passes (L2.CX X.prog X.w) X (WEl X W) := fun _ σ _ _ e s' I c => tk e s' (XE.of_call I (fun cls d H' h => h σ I.len) c)
theorem passE {X : Cx} {E : XK} (tk : Takes X (fun cls d _ H => E cls d H)) : Passes (L2.CX X.prog X.w) X E := passes_call tk fun _ _ _ _ h => h
/-- a method of a class, with its promise -/
structure Met (P : Program) (w : World) (K : PySem.W.Frag) (mg : Str → Option Value) (base : Heap) (CX : CXT) (C : Addr) (m : Str) (k : Nat) (ps : List Str) (sp : Sp) : Prop where
  ex : ∃ f fd, Meth K C m f ∧ Binds K fd ps [] ∧ FnOk P w K mg base CX k f fd ps sp
/-- a dict comprehension over a walk: as lc_it -/
theorem dc_it {J : It} {n : Nat} {W0 : Hp → Prop} {Y : Nat → Hp → V → Hp → Prop} (wk : Walk J n W0 Y) {g : TG} {tt : TT} {tk tv : TE} {vs : List Nat} {σ : L2.St} {H1 : Hp} {D : Addr} {Qd : Hp → Prop} (Pv : Nat → Hp → Prop) (h0 : Pv 0 (upd H1 D (.dK []))) (hG : ∀ i H, i ≤ n → Pv i H → W0 H)
    (hs : ∀ i x H H', i < n → Pv i H → Y i H x H' → g x (wipe σ vs) H' fun σ2 H2 => wipe σ2 vs = wipe σ vs ∧ tt σ2 H2 fun b H3 =>
      if b = true then tk σ2 H3 fun y H4 => tv σ2 H4 fun z H5 => ∃ kvs k, y = kV k ∧ H5 D = some (.dK kvs) ∧ kvs.length < sizeLine ∧ Pv (i + 1) (upd H5 D (.dK (putK kvs k z))) else Pv (i + 1) H3) (hd : ∀ H, Pv n H → Qd H) :
    ∃ W : Nat → Nat → Hp → Prop, (∃ m, W 0 m (upd H1 D (.dK []))) ∧ ∀ i m H, W i m H →
      (J.stop i H ∧ Qd H) ∨ (J.go i H ∧ ∃ Nx : Hp → Prop, (∀ H', Nx H' → ∃ m', m' < m ∧ W (i + 1) m' H') ∧ ∀ x H', J.yld i H x H' → g x (wipe σ vs) H' fun σ2 H2 => wipe σ2 vs = wipe σ vs ∧ tt σ2 H2 fun b H3 =>
        if b = true then tk σ2 H3 fun y H4 => tv σ2 H4 fun z H5 => ∃ kvs k, y = kV k ∧ H5 D = some (.dK kvs) ∧ kvs.length < sizeLine ∧ Nx (upd H5 D (.dK (putK kvs k z))) else Nx H3) := by
  refine ⟨fun i m H => (m + i = n) ∧ Pv i H, ⟨n, rfl, h0⟩, ?_⟩
  rintro i m H ⟨hm, pv⟩
  by_cases c : i < n
  · refine .inr ⟨wk.goes i H c (hG i H (by omega) pv), Pv (i + 1), fun H' pv' => ⟨m - 1, by omega, by omega, pv'⟩, fun x H' y => ?_⟩
    exact hs i x H H' c pv (wk.yields i H x H' c (hG i H (by omega) pv) y)
  · have : i = n := by omega
    subst this
    exact .inl ⟨wk.stops H (hG _ H (Nat.le_refl _) pv), hd H pv⟩
/-- the built-in names that the top leaves alone -/
structure Blt (mg : Str → Option Value) : Prop where
  len : mg "len" = none
  int : mg "int" = none
  bool : mg "bool" = none
  str : mg "str" = none
  list : mg "list" = none
  tuple : mg "tuple" = none
  dict : mg "dict" = none
  isinstance : mg "isinstance" = none
  all : mg "all" = none
  range : mg "range" = none
  enumerate : mg "enumerate" = none
  sorted : mg "sorted" = none
  min : mg "min" = none
  max : mg "max" = none
/-- data without depth -/
def flatD : PyData → Bool
  | .none => true
  | .bool _ => true
  | .int _ => true
  | .str x => PyData.strOk x
  | _ => false
theorem flat_lay : ∀ {ds : List PyData}, ds.all flatD = true → PyData.canLayAll0 ds = true ∧ PyData.depthAll ds ≤ 1
  | [], _ => by simp [PyData.canLayAll0, PyData.depthAll]
  | d :: ds, h => by
    rw [List.all_cons, Bool.and_eq_true] at h
    obtain ⟨h1, h2⟩ := flat_lay h.2
    cases d with
    | none => simp [PyData.canLayAll0, PyData.depthAll, PyData.canLay0, PyData.depth, h1, h2]
    | bool b => simp [PyData.canLayAll0, PyData.depthAll, PyData.canLay0, PyData.depth, h1, h2]
    | int b => simp [PyData.canLayAll0, PyData.depthAll, PyData.canLay0, PyData.depth, h1, h2]
    | str b =>
      have hb : PyData.strOk b = true := h.1
      simp [PyData.canLayAll0, PyData.depthAll, PyData.canLay0, PyData.depth, h1, h2, hb]
    | _ => exact absurd h.1 (by simp [flatD])
theorem shaped_flat {ds : List PyData} (h : ds.all flatD = true) : SeqAt.shaped (.tuple ds) = true := by
  obtain ⟨h1, h2⟩ := flat_lay h
  unfold SeqAt.shaped
  simp [PyData.canLay0, PyData.depth, h1]
  omega
/-- all but p stands -/
def But (p : Addr) (H H' : Hp) : Prop := ∀ b o, H b = some o → b ≠ p → H' b = some o
theorem But.refl (p : Addr) (H : Hp) : But p H H := fun _ _ h _ => h
theorem But.trans {p : Addr} {H H1 H2 : Hp} (a : But p H H1) (b : But p H1 H2) : But p H H2 := fun c o h n => b c o (a c o h n) n
theorem But.upd {p : Addr} {H H' : Hp} {o : HO} (a : But p H H') : But p H (L2.upd H' p o) := fun c u h n => by rw [upd_ne n]; exact a c u h n
theorem But.new {p q : Addr} {H H' : Hp} {o : HO} (a : But p H H') (h : H' q = none) (hp : H q = none ∨ q ≠ p := by first | exact .inl ‹_› | exact .inr ‹_›) : But p H (L2.upd H' q o) := fun c u hc n => by
  rw [upd_ne]
  · exact a c u hc n
  · intro z
    subst z
    rw [a c u hc n] at h
    cases h
theorem But.at {p q : Addr} {H H' : Hp} {o : HO} (a : But p H H') (h : H q = none) : But p H (L2.upd H' q o) := fun c u hc n => by
  rw [upd_ne (ne_of_none hc h)]
  exact a c u hc n
theorem sameAt {q : Addr} {H H' : Hp} {o : HO} (a : Same H H') (h : H q = none) : Same H (L2.upd H' q o) := fun c u hc => by
  rw [upd_ne (ne_of_none hc h)]
  exact a c u hc
theorem But.same {p : Addr} {H H' : Hp} (a : Same H H') : But p H H' := fun c o h _ => a c o h
theorem Same.new {q : Addr} {H H' : Hp} {o : HO} (a : Same H H') (h : H' q = none) : Same H (upd H' q o) := fun c u hc => by
  rw [upd_ne (ne_of_none (a c u hc) h)]
  exact a c u hc
theorem But.seq {K : PySem.W.Frag} {p a : Addr} {H H' : Hp} {xs : List V} (e : But p H H') (hn : ∀ o, H p = some o → ∀ ys, o ≠ .lst ys → True) (h : H a = some (.lst xs)) (n : a ≠ p) : SqL K H' a xs := .of (e _ _ h n)
end Ash

set_option Elab.async false
set_option linter.all false
namespace Ash.BF
abbrev T3 := Int × Int × Int
/-- values, the facts because of which they were lowered, the one lowered last in this round -/
structure S where
  v : List Int
  p : List (Option Nat)
  l : Option Nat
def lo (t : T3) : Nat := t.1.toNat
def hi (t : T3) : Nat := t.2.1.toNat
def Good (n : Nat) (ts : List T3) : Prop := ∀ t ∈ ts, 0 ≤ t.1 ∧ t.1 < n ∧ 0 ≤ t.2.1 ∧ t.2.1 < n
def at_ (v : List Int) (i : Nat) : Int := v.getD i 0
def stp (s : S) (i : Nat) (t : T3) : S :=
  if at_ s.v (hi t) + t.2.2 < at_ s.v (lo t) then ⟨s.v.set (lo t) (at_ s.v (hi t) + t.2.2), s.p.set (lo t) (some i), some (lo t)⟩ else s
def run (ts : List T3) (s : S) : Nat → S
  | 0 => ⟨s.v, s.p, none⟩
  | k + 1 => match ts[k]? with
    | some t => stp (run ts s k) k t
    | none => run ts s k
def rds (ts : List T3) (n : Nat) : Nat → S
  | 0 => ⟨List.replicate n 0, List.replicate n none, none⟩
  | r + 1 => run ts (rds ts n r) ts.length
theorem run_some {ts : List T3} {s : S} {k : Nat} {t : T3} (h : ts[k]? = some t) : run ts s (k + 1) = stp (run ts s k) k t := by
  show (match ts[k]? with | some t => stp (run ts s k) k t | none => run ts s k) = _
  rw [h]
theorem run_none {ts : List T3} {s : S} {k : Nat} (h : ts[k]? = none) : run ts s (k + 1) = run ts s k := by
  show (match ts[k]? with | some t => stp (run ts s k) k t | none => run ts s k) = _
  rw [h]
theorem stp_len {s : S} {i : Nat} {t : T3} : (stp s i t).v.length = s.v.length ∧ (stp s i t).p.length = s.p.length := by
  unfold stp
  split
  · exact ⟨List.length_set, List.length_set⟩
  · exact ⟨rfl, rfl⟩
theorem run_len {ts : List T3} {s : S} : ∀ k, (run ts s k).v.length = s.v.length ∧ (run ts s k).p.length = s.p.length
  | 0 => ⟨rfl, rfl⟩
  | k + 1 => by
    cases h : ts[k]? with
    | none => rw [run_none h]; exact run_len k
    | some t =>
      rw [run_some h, stp_len.1, stp_len.2]
      exact run_len k
theorem rds_len {ts : List T3} {n : Nat} : ∀ r, (rds ts n r).v.length = n ∧ (rds ts n r).p.length = n
  | 0 => ⟨List.length_replicate, List.length_replicate⟩
  | r + 1 => by
    have h := rds_len (ts := ts) (n := n) r
    show (run ts (rds ts n r) ts.length).v.length = n ∧ (run ts (rds ts n r) ts.length).p.length = n
    rw [(run_len _).1, (run_len _).2]
    exact h
/-- a round in which nothing was lowered kept all facts -/
theorem kept {ts : List T3} {s : S} : ∀ k, (run ts s k).l = none → (run ts s k).v = s.v ∧ ∀ i t, i < k → ts[i]? = some t → at_ s.v (lo t) ≤ at_ s.v (hi t) + t.2.2
  | 0, _ => ⟨rfl, fun _ _ h => absurd h (by omega)⟩
  | k + 1, h => by
    cases e : ts[k]? with
    | none =>
      rw [run_none e] at h ⊢
      obtain ⟨a, b⟩ := kept k h
      refine ⟨a, fun i t hi ht => b i t ?_ ht⟩
      have : i ≠ k := fun z => by rw [z, e] at ht; cases ht
      omega
    | some t =>
      rw [run_some e] at h ⊢
      unfold stp at h ⊢
      by_cases c : at_ (run ts s k).v (hi t) + t.2.2 < at_ (run ts s k).v (lo t)
      · rw [if_pos c] at h
        cases h
      · rw [if_neg c] at h ⊢
        obtain ⟨a, b⟩ := kept k h
        refine ⟨a, fun i u hi hu => ?_⟩
        by_cases z : i = k
        · rw [z, e] at hu
          cases hu
          rw [a] at c
          omega
        · exact b i u (by omega) hu
theorem at_set {v : List Int} {i j : Nat} {x : Int} (h : i < v.length) : at_ (v.set i x) j = if j = i then x else at_ v j := by
  unfold at_
  rw [List.getD_eq_getElem?_getD, List.getD_eq_getElem?_getD, List.getElem?_set]
  by_cases e : i = j
  · subst e
    simp [h]
  · rw [if_neg e, if_neg (Ne.symm e)]
/-- levels: the last round in which a variable was lowered is at most one behind that of the fact's other end -/
structure G (ts : List T3) (n r k : Nat) (s : S) (L : Nat → Nat) : Prop where
  lv : s.v.length = n
  lp : s.p.length = n
  lam : ∀ u, L u ≤ r
  fac : ∀ i t, ts[i]? = some t → at_ s.v (lo t) ≤ at_ s.v (hi t) + t.2.2 ∨ (i < k → r ≤ L (hi t)) ∧ r ≤ L (hi t) + 1
  par : ∀ u, 1 ≤ L u → u < n ∧ ∃ i t, s.p[u]? = some (some i) ∧ ts[i]? = some t ∧ lo t = u ∧ L u ≤ L (hi t) + 1
  low : ∀ u, s.l = some u → u < n ∧ L u = r
theorem lo_lt {n : Nat} {ts : List T3} (g : Good n ts) {i : Nat} {t : T3} (h : ts[i]? = some t) : lo t < n ∧ hi t < n := by
  have := g t (List.mem_of_getElem? h)
  unfold lo hi
  omega
theorem G.step {ts : List T3} {n r k : Nat} {s : S} {L : Nat → Nat} {t : T3} (gd : Good n ts) (h : G ts n r k s L) (hr : 1 ≤ r) (e : ts[k]? = some t) : ∃ L', G ts n r (k + 1) (stp s k t) L' := by
  obtain ⟨hlo, hhi⟩ := lo_lt gd e
  unfold stp
  by_cases c : at_ s.v (hi t) + t.2.2 < at_ s.v (lo t)
  · rw [if_pos c]
    have hL : r ≤ L (hi t) + 1 := by
      rcases h.fac k t e with q | q
      · omega
      · exact q.2
    have hv : lo t < s.v.length := by rw [h.lv]; exact hlo
    refine ⟨fun u => if u = lo t then r else L u, ?_⟩
    have mono : ∀ u, L u ≤ (if u = lo t then r else L u) := fun u => by
      by_cases q : u = lo t
      · rw [if_pos q]; exact h.lam u
      · rw [if_neg q]; exact Nat.le_refl _
    refine ⟨by rw [List.length_set]; exact h.lv, by rw [List.length_set]; exact h.lp, fun u => ?_, fun i u hu => ?_, fun u hu => ?_, fun u hu => ?_⟩
    · show (if u = lo t then r else L u) ≤ r
      split
      · exact Nat.le_refl _
      · exact h.lam u
    · show at_ (s.v.set (lo t) _) (lo u) ≤ at_ (s.v.set (lo t) _) (hi u) + u.2.2 ∨ (i < k + 1 → r ≤ (if hi u = lo t then r else L (hi u))) ∧ r ≤ (if hi u = lo t then r else L (hi u)) + 1
      rw [at_set hv, at_set hv]
      by_cases q : hi u = lo t
      · right
        rw [if_pos q]
        exact ⟨fun _ => Nat.le_refl _, by omega⟩
      · rw [if_neg q, if_neg q]
        by_cases z : i = k
        · rw [z, e] at hu
          cases hu
          left
          rw [if_pos rfl]
          omega
        · rcases h.fac i u hu with a | a
          · left
            by_cases y : lo u = lo t
            · rw [if_pos y]
              rw [y] at a
              omega
            · rw [if_neg y]
              exact a
          · right
            exact ⟨fun y => a.1 (by omega), a.2⟩
    · show u < n ∧ ∃ i t', (s.p.set (lo t) (some k))[u]? = some (some i) ∧ ts[i]? = some t' ∧ lo t' = u ∧ (if u = lo t then r else L u) ≤ (if hi t' = lo t then r else L (hi t')) + 1
      have hu : 1 ≤ (if u = lo t then r else L u) := hu
      by_cases q : u = lo t
      · subst q
        refine ⟨hlo, k, t, by rw [List.getElem?_set, if_pos rfl, if_pos (by rw [h.lp]; exact hlo)], e, rfl, ?_⟩
        rw [if_pos rfl]
        have := mono (hi t)
        omega
      · rw [if_neg q] at hu ⊢
        obtain ⟨a, i, t', b1, b2, b3, b4⟩ := h.par u hu
        refine ⟨a, i, t', by rw [List.getElem?_set, if_neg (Ne.symm q)]; exact b1, b2, b3, ?_⟩
        have := mono (hi t')
        omega
    · have hu : some (lo t) = some u := hu
      cases hu
      exact ⟨hlo, if_pos rfl⟩
  · rw [if_neg c]
    refine ⟨L, h.lv, h.lp, h.lam, fun i u hu => ?_, h.par, h.low⟩
    by_cases z : i = k
    · rw [z, e] at hu
      cases hu
      left
      omega
    · rcases h.fac i u hu with a | a
      · exact .inl a
      · exact .inr ⟨fun y => a.1 (by omega), a.2⟩
theorem G.run {ts : List T3} {n r : Nat} {s : S} (gd : Good n ts) (hr : 1 ≤ r) (h : ∃ L, G ts n r 0 ⟨s.v, s.p, none⟩ L) : ∀ k, k ≤ ts.length → ∃ L, G ts n r k (BF.run ts s k) L
  | 0, _ => h
  | k + 1, hk => by
    obtain ⟨L, g⟩ := G.run gd hr h k (by omega)
    have e : ts[k]? = some ts[k] := List.getElem?_eq_getElem (by omega)
    rw [run_some e]
    exact g.step gd hr e
theorem G.rds {ts : List T3} {n : Nat} (gd : Good n ts) : ∀ r, ∃ L, G ts n r ts.length (BF.rds ts n r) L
  | 0 => ⟨fun _ => 0, List.length_replicate, List.length_replicate, fun _ => Nat.le_refl _, fun i t _ => .inr ⟨fun _ => Nat.zero_le _, Nat.zero_le _⟩, fun u h => absurd h (by decide), fun u h => by cases h⟩
  | r + 1 => by
    obtain ⟨L, g⟩ := G.rds gd r
    refine G.run gd (by omega) ⟨L, g.lv, g.lp, fun u => Nat.le_succ_of_le (g.lam u), fun i t ht => ?_, g.par, fun u h => by cases h⟩ _ (Nat.le_refl _)
    rcases g.fac i t ht with a | a
    · exact .inl a
    · have := a.1 (List.getElem?_eq_some_iff.mp ht).1
      exact .inr ⟨fun z => absurd z (by omega), by omega⟩
/-- from a variable to the other end of the fact because of which it was lowered -/
def nx (ts : List T3) (p : List (Option Nat)) (u : Nat) : Nat := match p[u]? with
  | some (some i) => match ts[i]? with
    | some t => hi t
    | none => 0
  | _ => 0
def orb (ts : List T3) (p : List (Option Nat)) (v : Nat) : Nat → Nat
  | 0 => v
  | k + 1 => nx ts p (orb ts p v k)
def Has (ts : List T3) (p : List (Option Nat)) (u : Nat) : Prop := ∃ i t, p[u]? = some (some i) ∧ ts[i]? = some t ∧ lo t = u
theorem nx_eq {ts : List T3} {p : List (Option Nat)} {u i : Nat} {t : T3} (h1 : p[u]? = some (some i)) (h2 : ts[i]? = some t) : nx ts p u = hi t := by
  unfold nx
  rw [h1]
  show (match ts[i]? with | some t => hi t | none => 0) = _
  rw [h2]
theorem sub_len : ∀ (n : Nat) (l : List Nat), l.Nodup → (∀ x ∈ l, x < n) → l.length ≤ n
  | 0, l, _, h => by
    cases l with
    | nil => exact Nat.le_refl _
    | cons x r => exact absurd (h x List.mem_cons_self) (by omega)
  | n + 1, l, nd, h => by
    have h1 := sub_len n (l.filter (· ≠ n)) (nd.filter _) (fun x hx => by
      have := List.mem_filter.mp hx
      have a := h x this.1
      have b : x ≠ n := of_decide_eq_true this.2
      omega)
    have h2 : l.length ≤ (l.filter (· ≠ n)).length + 1 := by
      clear h h1
      induction l with
      | nil => simp
      | cons x r ih =>
        rw [List.nodup_cons] at nd
        by_cases e : x = n
        · subst e
          have : r.filter (· ≠ x) = r := List.filter_eq_self.mpr fun a ha => decide_eq_true fun z => nd.1 (z ▸ ha)
          rw [List.filter_cons_of_neg (by simp), this]
          exact Nat.le_refl _
        · rw [List.filter_cons_of_pos (by simp [e])]
          have := ih nd.2
          simp only [List.length_cons]
          omega
    omega
theorem pigeonhole {n : Nat} {f : Nat → Nat} (h : ∀ k, k ≤ n → f k < n) : ∃ i j, i < j ∧ j ≤ n ∧ f i = f j := by
  refine Classical.byContradiction fun no => ?_
  have nd : ((List.range (n + 1)).map f).Nodup := by
    rw [List.nodup_iff_pairwise_ne, List.pairwise_map]
    refine (List.pairwise_lt_range).imp_of_mem fun {a b} ha hb hab e => no ⟨a, b, hab, ?_, e⟩
    have := List.mem_range.mp hb
    omega
  have := sub_len n _ nd fun x hx => by
    obtain ⟨k, hk, rfl⟩ := List.mem_map.mp hx
    have := List.mem_range.mp hk
    exact h k (by omega)
  rw [List.length_map, List.length_range] at this
  omega
theorem orb_add {ts : List T3} {p : List (Option Nat)} {v i j : Nat} (h : orb ts p v i = orb ts p v j) : ∀ m, orb ts p v (i + m) = orb ts p v (j + m)
  | 0 => h
  | m + 1 => by
    show nx ts p (orb ts p v (i + m)) = nx ts p (orb ts p v (j + m))
    rw [orb_add h m]
theorem around {ts : List T3} {n v k : Nat} {s : S} {L : Nat → Nat} (g : G ts n (n + 1) k s L) (h : s.l = some v) :
    (∀ k, Has ts s.p (orb ts s.p v k) ∧ orb ts s.p v k < n) ∧ ∃ p, 1 ≤ p ∧ p ≤ n ∧ orb ts s.p v (n + p) = orb ts s.p v n := by
  have lev : ∀ j, j ≤ n → n + 1 ≤ L (orb ts s.p v j) + j := by
    intro j
    induction j with
    | zero =>
      intro _
      have := (g.low v h).2
      show n + 1 ≤ L v + 0
      omega
    | succ j ih =>
      intro hj
      have a := ih (by omega)
      obtain ⟨_, i, t, b1, b2, b3, b4⟩ := g.par _ (show 1 ≤ L (orb ts s.p v j) by omega)
      show n + 1 ≤ L (nx ts s.p (orb ts s.p v j)) + (j + 1)
      rw [nx_eq b1 b2]
      omega
  have low : ∀ j, j ≤ n → Has ts s.p (orb ts s.p v j) ∧ orb ts s.p v j < n := fun j hj => by
    obtain ⟨a, i, t, b1, b2, b3, _⟩ := g.par _ (show 1 ≤ L (orb ts s.p v j) by have := lev j hj; omega)
    exact ⟨⟨i, t, b1, b2, b3⟩, a⟩
  obtain ⟨i, j, hij, hj, e⟩ := pigeonhole (f := orb ts s.p v) (fun k hk => (low k hk).2)
  have per : ∀ m, i ≤ m → orb ts s.p v (m + (j - i)) = orb ts s.p v m := fun m hm => by
    have := orb_add e (m - i)
    rw [show i + (m - i) = m by omega, show j + (m - i) = m + (j - i) by omega] at this
    exact this.symm
  refine ⟨fun k => ?_, j - i, by omega, by omega, per n (by omega)⟩
  induction k using Nat.strongRecOn with
  | ind k ih =>
    by_cases hk : k ≤ n
    · exact low k hk
    · have := ih (k - (j - i)) (by omega)
      rw [← per (k - (j - i)) (by omega), show k - (j - i) + (j - i) = k by omega] at this
      exact this
end Ash.BF

set_option Elab.async false
set_option linter.all false
namespace Ash.BF
/-! what a ring of facts is, for any thing: none for what is no tuple, else its items, none for what is no integer -/
def inR (N : Nat) : Option Int → Bool
  | some n => decide (0 ≤ n ∧ n < N)
  | none => false
def chn : Int → List T3 → Bool
  | _, [] => true
  | b, t :: r => decide (b = t.1) && chn t.2.1 r
def sum3 : List T3 → Int
  | [] => 0
  | t :: r => t.2.2 + sum3 r
/-- the variable that stands ahead of the i-th fact, around the end -/
def prv (l : List T3) : Nat → Int
  | 0 => (l.getLast?.getD (0, 0, 0)).2.1
  | i + 1 => (l[i]?.getD (0, 0, 0)).2.1
def due (ts : List T3) : Option (List (Option Int)) → Bool
  | none => false
  | some ds => !ds.isEmpty && (ds.all (inR ts.length) && (chn (prv (ds.map fun d => ts.getD (d.getD 0).toNat (0, 0, 0)) 0) (ds.map fun d => ts.getD (d.getD 0).toNat (0, 0, 0)) && decide (sum3 (ds.map fun d => ts.getD (d.getD 0).toNat (0, 0, 0)) < 0)))
theorem due_none {ts : List T3} : due ts none = false := rfl
theorem due_nil {ts : List T3} : due ts (some []) = false := rfl
theorem due_bad {ts : List T3} {ds : List (Option Int)} {i : Nat} {d : Option Int} (h : ds[i]? = some d) (e : inR ts.length d = false) : due ts (some ds) = false := by
  have : ds.all (inR ts.length) = false := List.all_eq_false.mpr ⟨d, List.mem_of_getElem? h, by rw [e]; exact Bool.false_ne_true⟩
  show (!ds.isEmpty && (ds.all (inR ts.length) && _)) = false
  rw [this, Bool.false_and, Bool.and_false]
theorem chn_step {b : Int} {l : List T3} {i : Nat} {t : T3} (h : l[i]? = some t) : chn b (l.drop i) = (decide (b = t.1) && chn t.2.1 (l.drop (i + 1))) := by
  obtain ⟨hi, e⟩ := List.getElem?_eq_some_iff.mp h
  rw [List.drop_eq_getElem_cons hi, e]
  rfl
theorem prv_step {l : List T3} {i : Nat} {t : T3} (h : l[i]? = some t) : prv l (i + 1) = t.2.1 := by
  show (l[i]?.getD (0, 0, 0)).2.1 = _
  rw [h]
  rfl
theorem sum3_append : ∀ (a b : List T3), sum3 (a ++ b) = sum3 a + sum3 b
  | [], b => by show sum3 b = 0 + sum3 b; omega
  | t :: r, b => by
    show t.2.2 + sum3 (r ++ b) = t.2.2 + sum3 r + sum3 b
    rw [sum3_append r b]
    omega
theorem sum3_step {l : List T3} {i : Nat} {t : T3} (h : l[i]? = some t) : sum3 (l.take (i + 1)) = sum3 (l.take i) + t.2.2 := by
  rw [List.take_add_one, h, sum3_append]
  show _ + (t.2.2 + 0) = _
  omega
/-- the facts of the indexes -/
def facts (ts : List T3) (ns : List Nat) : List T3 := ns.map fun n => ts.getD n (0, 0, 0)
theorem due_in {ts : List T3} {ns : List Nat} (h0 : ns ≠ []) (h : ∀ n ∈ ns, n < ts.length) : due ts (some (ns.map fun n : Nat => some (n : Int))) = (chn (prv (facts ts ns) 0) (facts ts ns) && decide (sum3 (facts ts ns) < 0)) := by
  have e1 : (ns.map fun n : Nat => some (n : Int)).isEmpty = false := by cases ns with | nil => exact absurd rfl h0 | cons a r => rfl
  have e2 : (ns.map fun n : Nat => some (n : Int)).all (inR ts.length) = true := by
    rw [List.all_map, List.all_eq_true]
    intro n hn
    have := h n hn
    exact decide_eq_true (by omega)
  have e3 : ((ns.map fun n : Nat => some (n : Int)).map fun d => ts.getD (d.getD 0).toNat (0, 0, 0)) = facts ts ns := by
    unfold facts
    rw [List.map_map]
    rfl
  show (!(ns.map fun n : Nat => some (n : Int)).isEmpty && ((ns.map fun n : Nat => some (n : Int)).all (inR ts.length) && (chn (prv ((ns.map fun n : Nat => some (n : Int)).map fun d => ts.getD (d.getD 0).toNat (0, 0, 0)) 0) ((ns.map fun n : Nat => some (n : Int)).map fun d => ts.getD (d.getD 0).toNat (0, 0, 0)) && decide (sum3 ((ns.map fun n : Nat => some (n : Int)).map fun d => ts.getD (d.getD 0).toNat (0, 0, 0)) < 0)))) = _
  rw [e1, e2, e3]
  rfl
/-- all in range: they are indexes -/
theorem all_in {N : Nat} : ∀ {ds : List (Option Int)}, (∀ (i : Nat) d, ds[i]? = some d → inR N d = true) → ∃ ns : List Nat, ds = ns.map (fun n : Nat => some (n : Int)) ∧ ∀ n ∈ ns, n < N
  | [], _ => ⟨[], rfl, fun _ h => nomatch h⟩
  | d :: r, h => by
    obtain ⟨ns, e, h2⟩ := all_in (ds := r) fun i d hd => h (i + 1) d hd
    have h0 := h 0 d rfl
    cases d with
    | none => cases h0
    | some n =>
      have h0 : 0 ≤ n ∧ n < N := of_decide_eq_true h0
      refine ⟨n.toNat :: ns, ?_, fun m hm => ?_⟩
      · rw [List.map_cons, ← e, show ((n.toNat : Nat) : Int) = n by omega]
      · rcases List.mem_cons.mp hm with rfl | hm
        · omega
        · exact h2 m hm
theorem facts_at {ts : List T3} {ns : List Nat} {i n : Nat} {t : T3} (h : ns[i]? = some n) (ht : ts[n]? = some t) : (facts ts ns)[i]? = some t := by
  unfold facts
  rw [List.getElem?_map, h]
  show some (ts.getD n (0, 0, 0)) = _
  rw [List.getD_eq_getElem?_getD, ht]
  rfl
/-! where all facts are kept there is no ring -/
theorem chn_sum {v : Nat → Int} : ∀ {l : List T3} {b : Int}, chn b l = true → (∀ t ∈ l, v t.1.toNat ≤ v t.2.1.toNat + t.2.2) → v b.toNat ≤ v ((l.getLast?.getD (0, b, 0)).2.1).toNat + sum3 l
  | [], b, _, _ => by show v b.toNat ≤ v b.toNat + 0; omega
  | t :: r, b, h, k => by
    have h : (decide (b = t.1) && chn t.2.1 r) = true := h
    rw [Bool.and_eq_true, decide_eq_true_eq] at h
    have a := chn_sum h.2 fun t' ht' => k t' (List.mem_cons_of_mem _ ht')
    have k0 := k t List.mem_cons_self
    rw [h.1]
    have e : ((t :: r).getLast?.getD (0, b, 0)).2.1 = (r.getLast?.getD (0, t.2.1, 0)).2.1 := by
      cases r with
      | nil => rfl
      | cons u r => rw [List.getLast?_cons_cons, List.getLast?_eq_some_getLast (List.cons_ne_nil u r)]; rfl
    rw [h.1] at e
    rw [e]
    show _ ≤ _ + (t.2.2 + sum3 r)
    omega
theorem not_due {ts : List T3} {v : List Int} (h : ∀ (i : Nat) t, ts[i]? = some t → at_ v (lo t) ≤ at_ v (hi t) + t.2.2) (o : Option (List (Option Int))) : due ts o = false := by
  refine Bool.eq_false_iff.mpr fun q => ?_
  cases o with
  | none => cases q
  | some ds =>
    by_cases hd : ds = []
    · subst hd
      cases q
    by_cases hb : ∃ (i : Nat) (d : Option Int), ds[i]? = some d ∧ inR ts.length d = false
    · obtain ⟨i, d, h1, h2⟩ := hb
      rw [due_bad h1 h2] at q
      cases q
    · obtain ⟨ns, rfl, hn⟩ := all_in (N := ts.length) (ds := ds) fun i d hd => by
        cases e : inR ts.length d with
        | true => rfl
        | false => exact absurd ⟨i, d, hd, e⟩ hb
      have h0 : ns ≠ [] := fun z => hd (by rw [z]; rfl)
      rw [due_in h0 hn, Bool.and_eq_true, decide_eq_true_eq] at q
      have := chn_sum (v := fun u => at_ v u) q.1 fun t ht => by
        unfold facts at ht
        obtain ⟨n, h1, rfl⟩ := List.mem_map.mp ht
        have hl := hn n h1
        have e : ts[n]? = some (ts.getD n (0, 0, 0)) := by rw [List.getD_eq_getElem?_getD, List.getElem?_eq_getElem hl]; rfl
        exact h n _ e
      have hf : facts ts ns ≠ [] := fun z => h0 (List.map_eq_nil_iff.mp z)
      have e : prv (facts ts ns) 0 = ((facts ts ns).getLast?.getD (0, prv (facts ts ns) 0, 0)).2.1 := by
        show ((facts ts ns).getLast?.getD (0, 0, 0)).2.1 = _
        rw [List.getLast?_eq_some_getLast hf]
        rfl
      rw [← e] at this
      have := q.2
      omega
end Ash.BF

set_option Elab.async false
set_option linter.all false
namespace Ash.BF
/-- values above those of the facts' other ends, more than that where the other end was lowered later -/
structure E2 (ts : List T3) (n : Nat) (s : S) (T : Nat → Nat) (m : Nat) : Prop where
  lv : s.v.length = n
  lp : s.p.length = n
  tm : ∀ u, T u ≤ m
  inj : ∀ u w, 1 ≤ T u → T u = T w → u = w
  has : ∀ u i, s.p[u]? = some (some i) → 1 ≤ T u ∧ ∃ t, ts[i]? = some t ∧ lo t = u ∧ at_ s.v (hi t) + t.2.2 ≤ at_ s.v u ∧ ((T u < T (hi t) ∨ hi t = u) → at_ s.v (hi t) + t.2.2 < at_ s.v u)
theorem E2.step {ts : List T3} {n k m : Nat} {s : S} {T : Nat → Nat} {t : T3} (gd : Good n ts) (h : E2 ts n s T m) (e : ts[k]? = some t) : ∃ T' m', E2 ts n (stp s k t) T' m' := by
  obtain ⟨hlo, hhi⟩ := lo_lt gd e
  unfold stp
  by_cases c : at_ s.v (hi t) + t.2.2 < at_ s.v (lo t)
  · rw [if_pos c]
    have hv : lo t < s.v.length := by rw [h.lv]; exact hlo
    refine ⟨fun u => if u = lo t then m + 1 else T u, m + 1, ?_⟩
    refine ⟨by rw [List.length_set]; exact h.lv, by rw [List.length_set]; exact h.lp, fun u => ?_, fun u w hu huw => ?_, fun u i hu => ?_⟩
    · show (if u = lo t then m + 1 else T u) ≤ m + 1
      split
      · exact Nat.le_refl _
      · exact Nat.le_succ_of_le (h.tm u)
    · have hu : 1 ≤ (if u = lo t then m + 1 else T u) := hu
      have huw : (if u = lo t then m + 1 else T u) = (if w = lo t then m + 1 else T w) := huw
      have := h.tm u
      have := h.tm w
      by_cases a : u = lo t
      · by_cases b : w = lo t
        · rw [a, b]
        · rw [if_pos a, if_neg b] at huw
          omega
      · by_cases b : w = lo t
        · rw [if_neg a, if_pos b] at huw
          omega
        · rw [if_neg a] at hu
          rw [if_neg a, if_neg b] at huw
          exact h.inj u w hu huw
    · have hu : (s.p.set (lo t) (some k))[u]? = some (some i) := hu
      show 1 ≤ (if u = lo t then m + 1 else T u) ∧ ∃ t', ts[i]? = some t' ∧ lo t' = u ∧ at_ (s.v.set (lo t) _) (hi t') + t'.2.2 ≤ at_ (s.v.set (lo t) _) u ∧ (((if u = lo t then m + 1 else T u) < (if hi t' = lo t then m + 1 else T (hi t')) ∨ hi t' = u) → at_ (s.v.set (lo t) _) (hi t') + t'.2.2 < at_ (s.v.set (lo t) _) u)
      rw [List.getElem?_set] at hu
      by_cases a : u = lo t
      · subst a
        rw [if_pos rfl, if_pos (by rw [h.lp]; exact hlo)] at hu
        cases hu
        rw [if_pos rfl]
        refine ⟨by omega, t, e, rfl, ?_⟩
        rw [at_set hv, at_set hv, if_pos rfl]
        by_cases b : hi t = lo t
        · rw [if_pos b]
          rw [b] at c ⊢
          exact ⟨by omega, fun _ => by omega⟩
        · rw [if_neg b]
          refine ⟨by omega, fun z => ?_⟩
          rcases z with z | z
          · rw [if_neg b] at z
            have := h.tm (hi t)
            omega
          · exact absurd z b
      · rw [if_neg (Ne.symm a)] at hu
        obtain ⟨h1, t', h2, h3, h4, h5⟩ := h.has u i hu
        rw [if_neg a]
        refine ⟨h1, t', h2, h3, ?_⟩
        rw [at_set hv, at_set hv, if_neg a]
        by_cases b : hi t' = lo t
        · rw [if_pos b]
          rw [b] at h4
          exact ⟨by omega, fun _ => by omega⟩
        · rw [if_neg b, if_neg b]
          exact ⟨h4, h5⟩
  · rw [if_neg c]
    exact ⟨T, m, h⟩
theorem E2.run {ts : List T3} {n : Nat} {s : S} (gd : Good n ts) (h : ∃ T m, E2 ts n s T m) : ∀ k, ∃ T m, E2 ts n (BF.run ts s k) T m
  | 0 => by
    obtain ⟨T, m, g⟩ := h
    exact ⟨T, m, g.lv, g.lp, g.tm, g.inj, g.has⟩
  | k + 1 => by
    obtain ⟨T, m, g⟩ := E2.run gd h k
    cases e : ts[k]? with
    | none => rw [run_none e]; exact ⟨T, m, g⟩
    | some t => rw [run_some e]; exact g.step gd e
theorem E2.rds {ts : List T3} {n : Nat} (gd : Good n ts) : ∀ r, ∃ T m, E2 ts n (BF.rds ts n r) T m
  | 0 => ⟨fun _ => 0, 0, List.length_replicate, List.length_replicate, fun _ => Nat.le_refl _, fun u w h => absurd h (by decide), fun u i h => by
      have h : (List.replicate n (none : Option Nat))[u]? = some (some i) := h
      rw [List.getElem?_replicate] at h
      split at h <;> cases h⟩
  | r + 1 => E2.run gd (E2.rds gd r) _
/-- the fact because of which a variable was lowered, and its index -/
def pix (p : List (Option Nat)) (u : Nat) : Nat := (p.getD u none).getD 0
def fct (ts : List T3) (p : List (Option Nat)) (u : Nat) : T3 := ts.getD (pix p u) (0, 0, 0)
theorem has_fct {ts : List T3} {p : List (Option Nat)} {u : Nat} (h : Has ts p u) : p[u]? = some (some (pix p u)) ∧ ts[pix p u]? = some (fct ts p u) ∧ lo (fct ts p u) = u ∧ hi (fct ts p u) = nx ts p u := by
  obtain ⟨i, t, h1, h2, h3⟩ := h
  have e : pix p u = i := by
    unfold pix
    rw [List.getD_eq_getElem?_getD, h1]
    rfl
  have f : fct ts p u = t := by
    unfold fct
    rw [e, List.getD_eq_getElem?_getD, h2]
    rfl
  rw [e, f]
  exact ⟨h1, h2, h3, (nx_eq h1 h2).symm⟩
/-- m facts of the way from its k-th variable on -/
def wayF (ts : List T3) (p : List (Option Nat)) (v k m : Nat) : List T3 := (List.range m).map fun j => fct ts p (orb ts p v (k + j))
theorem wayF_succ {ts : List T3} {p : List (Option Nat)} {v k m : Nat} : wayF ts p v k (m + 1) = fct ts p (orb ts p v k) :: wayF ts p v (k + 1) m := by
  unfold wayF
  rw [List.range_succ_eq_map, List.map_cons, List.map_map]
  congr 1
  refine List.map_congr_left fun j _ => ?_
  show fct ts p (orb ts p v (k + (j + 1))) = _
  rw [show k + (j + 1) = k + 1 + j by omega]
theorem wayF_snoc {ts : List T3} {p : List (Option Nat)} {v k m : Nat} : wayF ts p v k (m + 1) = wayF ts p v k m ++ [fct ts p (orb ts p v (k + m))] := by
  unfold wayF
  rw [List.range_succ, List.map_append]
  rfl
theorem way_chn {ts : List T3} {n v : Nat} {p : List (Option Nat)} (gd : Good n ts) (h : ∀ k, Has ts p (orb ts p v k)) : ∀ m k, chn (orb ts p v k : Nat) (wayF ts p v k m) = true
  | 0, k => rfl
  | m + 1, k => by
    obtain ⟨h1, h2, h3, h4⟩ := has_fct (h k)
    have g := gd _ (List.mem_of_getElem? h2)
    rw [wayF_succ]
    show (decide (((orb ts p v k : Nat) : Int) = (fct ts p (orb ts p v k)).1) && chn (fct ts p (orb ts p v k)).2.1 (wayF ts p v (k + 1) m)) = true
    have e1 : (fct ts p (orb ts p v k)).1 = (orb ts p v k : Nat) := by
      unfold lo at h3
      omega
    have e2 : (fct ts p (orb ts p v k)).2.1 = (orb ts p v (k + 1) : Nat) := by
      show _ = ((nx ts p (orb ts p v k) : Nat) : Int)
      rw [← h4]
      unfold hi
      omega
    rw [e1, e2, decide_eq_true rfl, Bool.true_and]
    exact way_chn gd h m (k + 1)
theorem way_sum {ts : List T3} {n v m0 : Nat} {s : S} {T : Nat → Nat} (E : E2 ts n s T m0) (h : ∀ k, Has ts s.p (orb ts s.p v k)) (k : Nat) : ∀ m,
    sum3 (wayF ts s.p v k m) ≤ at_ s.v (orb ts s.p v k) - at_ s.v (orb ts s.p v (k + m)) ∧
    (sum3 (wayF ts s.p v k m) = at_ s.v (orb ts s.p v k) - at_ s.v (orb ts s.p v (k + m)) → ∀ j, j < m → T (orb ts s.p v (k + j + 1)) ≤ T (orb ts s.p v (k + j)) ∧ orb ts s.p v (k + j + 1) ≠ orb ts s.p v (k + j))
  | 0 => ⟨by show (0 : Int) ≤ _; rw [Nat.add_zero]; omega, fun _ j hj => absurd hj (by omega)⟩
  | m + 1 => by
    obtain ⟨a, b⟩ := way_sum E h k m
    obtain ⟨h1, h2, h3, h4⟩ := has_fct (h (k + m))
    obtain ⟨_, t, g1, g2, g3, g4⟩ := E.has _ _ h1
    rw [h2] at g1
    cases g1
    rw [wayF_snoc, sum3_append]
    show sum3 (wayF ts s.p v k m) + ((fct ts s.p (orb ts s.p v (k + m))).2.2 + 0) ≤ _ ∧ (sum3 (wayF ts s.p v k m) + ((fct ts s.p (orb ts s.p v (k + m))).2.2 + 0) = _ → _)
    have e : orb ts s.p v (k + (m + 1)) = hi (fct ts s.p (orb ts s.p v (k + m))) := h4.symm
    rw [e]
    refine ⟨by omega, fun q j hj => ?_⟩
    by_cases c : j = m
    · subst c
      have e' : orb ts s.p v (k + j + 1) = hi (fct ts s.p (orb ts s.p v (k + j))) := h4.symm
      rw [e']
      constructor
      · refine Nat.le_of_not_lt fun z => ?_
        have := g4 (.inl z)
        omega
      · intro z
        have := g4 (.inr z)
        omega
    · exact b (by omega) j (by omega)
theorem way_neg {ts : List T3} {n v m0 : Nat} {s : S} {T : Nat → Nat} (E : E2 ts n s T m0) (h : ∀ k, Has ts s.p (orb ts s.p v k)) {k m : Nat} (hm : 1 ≤ m) (hb : orb ts s.p v (k + m) = orb ts s.p v k) : sum3 (wayF ts s.p v k m) < 0 := by
  obtain ⟨a, b⟩ := way_sum E h k m
  rw [hb, Int.sub_self] at a b
  refine Int.lt_iff_le_and_ne.mpr ⟨a, fun z => ?_⟩
  have b := b z
  have down : ∀ j, j ≤ m → 1 ≤ j → T (orb ts s.p v (k + j)) ≤ T (orb ts s.p v (k + 1)) := by
    intro j
    induction j with
    | zero => intro _ h; exact absurd h (by omega)
    | succ j ih =>
      intro h1 _
      by_cases c : j = 0
      · subst c
        exact Nat.le_refl _
      · exact Nat.le_trans (b j (by omega)).1 (ih (by omega) (by omega))
  have d := down m (Nat.le_refl _) hm
  rw [hb] at d
  have b0 := b 0 (by omega)
  obtain ⟨h1, _⟩ := has_fct (h k)
  have t1 := (E.has _ _ h1).1
  exact b0.2 (E.inj _ _ (by have := b0.1; show 1 ≤ T (orb ts s.p v (k + 1)); omega) (Nat.le_antisymm b0.1 d))
/-- the ring's indexes -/
def rngN (ts : List T3) (p : List (Option Nat)) (n v m : Nat) : List Nat := (List.range m).map fun j => pix p (orb ts p v (n + j))
theorem rng_facts {ts : List T3} {p : List (Option Nat)} {n v m : Nat} : facts ts (rngN ts p n v m) = wayF ts p v n m := by
  unfold facts rngN wayF
  rw [List.map_map]
  rfl
theorem rng_due {ts : List T3} {n v m : Nat} {r : Nat} (gd : Good n ts) (h : ∀ k, Has ts (rds ts n r).p (orb ts (rds ts n r).p v k)) (hm : 1 ≤ m) (hb : orb ts (rds ts n r).p v (n + m) = orb ts (rds ts n r).p v n) :
    rngN ts (rds ts n r).p n v m ≠ [] ∧ (∀ i ∈ rngN ts (rds ts n r).p n v m, i < ts.length) ∧ chn (prv (facts ts (rngN ts (rds ts n r).p n v m)) 0) (facts ts (rngN ts (rds ts n r).p n v m)) = true ∧ sum3 (facts ts (rngN ts (rds ts n r).p n v m)) < 0 := by
  obtain ⟨T, m0, E⟩ := E2.rds gd r
  refine ⟨fun z => ?_, fun i hi => ?_, ?_, ?_⟩
  · have := congrArg List.length z
    unfold rngN at this
    rw [List.length_map, List.length_range] at this
    simp at this
    omega
  · unfold rngN at hi
    obtain ⟨j, _, rfl⟩ := List.mem_map.mp hi
    exact (List.getElem?_eq_some_iff.mp (has_fct (h (n + j))).2.1).1
  · rw [rng_facts]
    have e : prv (wayF ts (rds ts n r).p v n m) 0 = (orb ts (rds ts n r).p v n : Nat) := by
      show ((wayF ts (rds ts n r).p v n m).getLast?.getD (0, 0, 0)).2.1 = _
      obtain ⟨m, rfl⟩ : ∃ k, m = k + 1 := ⟨m - 1, by omega⟩
      rw [wayF_snoc, List.getLast?_append]
      show (fct ts (rds ts n r).p (orb ts (rds ts n r).p v (n + m))).2.1 = _
      obtain ⟨h1, h2, h3, h4⟩ := has_fct (h (n + m))
      have g := gd _ (List.mem_of_getElem? h2)
      rw [← hb]
      show _ = ((nx ts (rds ts n r).p (orb ts (rds ts n r).p v (n + m)) : Nat) : Int)
      rw [← h4]
      unfold hi
      omega
    rw [e]
    exact way_chn gd h m n
  · rw [rng_facts]
    exact way_neg E h hm hb
end Ash.BF

set_option Elab.async false
set_option linter.all false
set_option maxRecDepth 100000
set_option maxHeartbeats 4000000
namespace Ash
open PySem PySem.Spec PyProof.Rows L2
open C8 (pss_cut)
/-! ### kinds of values -/
def NotInt (K : PySem.W.Frag) (H : Hp) (v : V) : Prop := ∃ t bi bb, TyX K H v t ∧ PySem.W.kitOne K t (.type "int") = some bi ∧ PySem.W.kitOne K t (.type "bool") = some bb ∧ (bi && !bb) = false
def NotStr (K : PySem.W.Frag) (H : Hp) (v : V) : Prop := ∃ t, TyX K H v t ∧ PySem.W.kitOne K t (.type "str") = some false
def NotTup (K : PySem.W.Frag) (H : Hp) (v : V) : Prop := ∃ t, TyX K H v t ∧ PySem.W.kitOne K t (.type "tuple") = some false
def spIsInt (K : PySem.W.Frag) : Sp := fun vs H Q _ => ∃ v, vs = [v] ∧ ((∃ n, v = .int n ∧ Q (.bl true) H) ∨ (NotInt K H v ∧ Q (.bl false) H))
def spAreInts (K : PySem.W.Frag) : Sp := fun vs H Q _ => ∃ (a : Addr) (ns : List Int), vs = [.ref a] ∧ SqT K H a (ns.map V.int) ∧ ns.length ≤ 100 ∧ ∀ H', Same H H' → Q (.bl true) H'
theorem list_take {α : Type} {l : List α} {i : Nat} {x : α} (h : l[i]? = some x) : l.take (i + 1) = l.take i ++ [x] := by
  rw [List.take_add_one, h]
  rfl
section
variable {P : Program} {w : World} {K : PySem.W.Frag} {mg : Str → Option Value} {base : Heap}
structure K1 (P : Program) (w : World) (K : PySem.W.Frag) (mg : Str → Option Value) (base : Heap) : Prop where
  is_integer : Cal P w K mg base CX0 "is_integer" 1 ["thing"] (spIsInt K)
abbrev s_is_integer : Stmt := topS 4
theorem sc_is_integer : FnScope ["thing"] ["thing"] (defScope s_is_integer) := ⟨rfl, rfl, rfl, by decide +kernel, rfl, by decide +kernel, by decide +kernel⟩
theorem ok_is_integer {f : Addr} {fd : FuncData} (F : Fun K "is_integer" "is_integer" s_is_integer f fd) (B : Blt mg) : FnOk P w K mg base CX0 1 f fd ["thing"] (spIsInt K) := by
  refine F.ok sc_is_integer (fun vs H Q E h => ?_) (fun cdv A outer s H vs Q E hr h => ?_)
  · obtain ⟨v, rfl, _⟩ := h
    rfl
  · obtain ⟨v, rfl, hv⟩ := h
    refine ⟨_, (pss_one (ps_ret (pe_and (pe_callB call_isi (by rfl) B.isinstance (by decide +kernel) (pa_cons (pv 0) (pa_cons (pe_bltn (v := .ty "int") (by rfl) B.int (by decide +kernel) rfl) pa_nil))) (pe_one (pe_not (pe_callB call_isi (by rfl) B.isinstance (by decide +kernel) (pa_cons (pv 0) (pa_cons (pe_bltn (v := .ty "bool") (by rfl) B.bool (by decide +kernel) rfl) pa_nil)))))))), ?_⟩
    rcases hv with ⟨n, rfl, q⟩ | ⟨⟨t, bi, bb, ty, e1, e2, e3⟩, q⟩
    · refine ⟨_, rfl, _, _, _, _, true, rfl, ClsV.ty _, .base (.int n), kit_ty (by decide +kernel), _, rfl, iteT ?_⟩
      refine ⟨_, rfl, _, _, _, _, false, rfl, ClsV.ty _, .base (.int n), kit_ty (by decide +kernel), _, rfl, q⟩
    · refine ⟨_, rfl, _, _, _, _, bi, rfl, ClsV.ty _, ty, e1, _, rfl, ?_⟩
      cases bi with
      | false => exact iteF q
      | true =>
        refine iteT ⟨_, rfl, _, _, _, _, bb, rfl, ClsV.ty _, ty, e2, _, rfl, ?_⟩
        have e3 : (!bb) = false := e3
        rw [e3]
        exact q
abbrev s_are_integers : Stmt := topS 5
theorem sc_are_integers : FnScope ["things", "thing"] ["things"] (defScope s_are_integers) := ⟨rfl, rfl, rfl, by decide +kernel, rfl, by decide +kernel, by decide +kernel⟩
theorem ok_are_integers {f : Addr} {fd : FuncData} (F : Fun K "are_integers" "are_integers" s_are_integers f fd) (B : Blt mg) (G : K1 P w K mg base) : FnOk P w K mg base CX0 2 f fd ["things"] (spAreInts K) := by
  refine F.ok sc_are_integers (fun vs H Q E h => ?_) (fun cdv A outer s H vs Q E hr h => ?_)
  · obtain ⟨a, ns, rfl, _⟩ := h
    rfl
  · obtain ⟨a, ns, rfl, hS, hn, q⟩ := h
    refine ⟨_, (pss_one (ps_ret (pe_callB (cr_all rfl) (by rfl) B.all (by decide +kernel) (pa_cons (pe_lc (own := [("thing", 1)]) (g := gName 1) (tt := tYes) (by rfl) sc_are_integers.nd (pi_tup (pv 0)) (blkOk_by (own := [("thing", 1)]) (N := ["things", "thing"]) (sc := defScope s_are_integers) (by decide +kernel)) (fun _ _ _ _ _ => (pg_name (i := 1) sc_are_integers.nd rfl (Or.inl rfl))) (fun _ _ _ _ _ => pts_nil) (fun _ _ _ _ _ => (pe_cal G.is_integer (hr.mono (by decide)) pass0 (pa_cons (pv 1) pa_nil)))) pa_nil)))), ?_⟩
    refine ⟨_, rfl, a, rfl, ⟨_, hS⟩, fun D hD => lc_it (walk_tup (xs := ns.map V.int)) (fun i H1 => H1 D = some (.lst ((List.replicate i true).map V.bl)) ∧ Same H H1) ⟨upd_same, sameAt (Same.refl H) hD⟩ (fun i H1 _ hv => ?_) ?_ ?_⟩
    · rcases hS with (h | ⟨o, h⟩) | h
      · exact .inl (.inl (hv.2 _ _ h))
      · exact .inl (.inr ⟨o, hv.2 _ _ h⟩)
      · exact .inr h
    · rintro i x H1 H2 hi ⟨hD1, hs⟩ ⟨rfl, hx⟩
      obtain ⟨z, rfl⟩ : ∃ z, x = V.int z := by
        rw [List.getElem?_map] at hx
        cases e : ns[i]? with
        | none => rw [e] at hx; cases hx
        | some z => rw [e] at hx; exact ⟨z, (Option.some.inj hx).symm⟩
      rw [List.length_map] at hi
      refine ⟨rfl, _, rfl, _, rfl, .inl ⟨z, rfl, _, hD1, (by rw [List.length_map, List.length_replicate]; exact small1000 (by omega)), ?_, sameAt hs hD⟩⟩
      rw [upd_same, List.replicate_succ', List.map_append]
      rfl
    · rintro H1 ⟨hD1, hs⟩
      refine ⟨D, _, rfl, SqL.of hD1, ?_⟩
      rw [List.length_map] at hD1 ⊢
      have e2 : ((List.replicate ns.length true).all id) = true := by simp
      rw [e2]
      exact q _ hs
end
end Ash

set_option Elab.async false
set_option linter.all false
set_option maxRecDepth 100000
set_option maxHeartbeats 4000000
namespace Ash
open PySem PySem.Spec PyProof.Rows L2
open C8 (pss_cut)
/-! ### frames -/
theorem none_of {H H' : Hp} {q : Addr} (s : Same H H') (h : H' q = none) : H q = none := by
  cases e : H q with
  | none => rfl
  | some o => rw [s _ _ e] at h; cases h
theorem seqS {K : PySem.W.Frag} {H H' : Hp} {a : Addr} {us : List V} (h : SqT K H a us) (s : Same H H') : SqT K H' a us := by
  rcases h with (h | ⟨o, h⟩) | h
  · exact .inl (.inl (s _ _ h))
  · exact .inl (.inr ⟨o, s _ _ h⟩)
  · exact .inr h
/-- all stands, but lists, which stay lists -/
def Ev (H H' : Hp) : Prop := ∀ b o, H b = some o → H' b = some o ∨ ∃ xs ys, o = .lst xs ∧ H' b = some (.lst ys)
theorem Ev.refl (H : Hp) : Ev H H := fun _ _ h => .inl h
theorem Ev.trans {H H1 H2 : Hp} (a : Ev H H1) (b : Ev H1 H2) : Ev H H2 := fun c o h => by
  rcases a c o h with h1 | ⟨xs, ys, e, h1⟩
  · exact b c o h1
  · rcases b c _ h1 with h2 | ⟨_, zs, _, h2⟩
    · exact .inr ⟨xs, ys, e, h2⟩
    · exact .inr ⟨xs, zs, e, h2⟩
theorem Ev.same {H H' : Hp} (s : Same H H') : Ev H H' := fun b o h => .inl (s b o h)
theorem Ev.updL {H H' : Hp} {a : Addr} {xs ys : List V} (e : Ev H H') (h : H' a = some (.lst xs)) : Ev H (upd H' a (.lst ys)) := e.trans fun b o hb => by
  by_cases q : b = a
  · rw [q, h] at hb
    exact .inr ⟨xs, ys, (Option.some.inj hb).symm, by rw [q, upd_same]⟩
  · exact .inl (by rw [upd_ne q]; exact hb)
theorem Ev.new {H H' : Hp} {a : Addr} {o : HO} (e : Ev H H') (h : H' a = none) : Ev H (upd H' a o) := e.trans (Ev.same fun b u hb => by rw [upd_ne (ne_of_none hb h)]; exact hb)
theorem Ev.ne {H H' : Hp} {a : Addr} (e : Ev H H') (h : H' a = none) : H a = none := by
  cases q : H a with
  | none => rfl
  | some o =>
    rcases e a o q with h1 | ⟨_, _, _, h1⟩ <;> rw [h1] at h <;> cases h
theorem Ev.tup {H H' : Hp} {a : Addr} {xs : List V} (e : Ev H H') (h : H a = some (.tup xs)) : H' a = some (.tup xs) := by
  rcases e a _ h with h1 | ⟨_, _, q, _⟩
  · exact h1
  · cases q
theorem tyx_ev {K : PySem.W.Frag} {H H' : Hp} {v : V} {t : Value} (h : TyX K H v t) (s : Ev H H') : TyX K H' v t := by
  have k : ∀ {b o}, H b = some o → (∀ xs, o ≠ .lst xs) → H' b = some o := fun {b o} hb n => by
    rcases s b o hb with h1 | ⟨xs, _, q, _⟩
    · exact h1
    · exact absurd q (n xs)
  cases h with
  | base b =>
    refine .base ?_
    cases b with
    | non => exact .non
    | bl x => exact .bl x
    | int x => exact .int x
    | str x => exact .str x
    | flt x => exact .flt x
    | lst e =>
      rcases s _ _ e with h1 | ⟨_, _, _, h1⟩
      · exact .lst h1
      · exact .lst h1
    | frz e => exact .frz (k e (fun _ z => by cases z))
    | tup e => exact .tup (k e (fun _ z => by cases z))
    | dK e => exact .dK (k e (fun _ z => by cases z))
    | dT e => exact .dT (k e (fun _ z => by cases z))
    | ins e c a b d f => exact .ins (k e (fun _ z => by cases z)) c a b d f
  | byt b => exact .byt b
  | set e => exact .set (k e (fun _ z => by cases z))
  | kList e c => exact .kList e c
  | kTuple e c => exact .kTuple e c
  | kDict e c => exact .kDict e c
  | fTuple e => exact .fTuple (k e (fun _ z => by cases z))
  | fDict e => exact .fDict (k e (fun _ z => by cases z))
theorem seq_ev {K : PySem.W.Frag} {H H' : Hp} {a : Addr} {us : List V} (h : SqT K H a us) (s : Ev H H') : SqT K H' a us := by
  rcases h with (h | ⟨o, h⟩) | h
  · exact .inl (.inl (s.tup h))
  · rcases s _ _ h with h1 | ⟨_, _, q, _⟩
    · exact .inl (.inr ⟨o, h1⟩)
    · cases q
  · exact .inr h
theorem NotInt.ev {K : PySem.W.Frag} {H H' : Hp} {v : V} (h : NotInt K H v) (s : Ev H H') : NotInt K H' v := by
  obtain ⟨t, bi, bb, ty, r⟩ := h
  exact ⟨t, bi, bb, tyx_ev ty s, r⟩
/-- a thing: none for what is no tuple, else its items, none for what is no integer -/
def ItAt (K : PySem.W.Frag) (H : Hp) (x : V) : Option Int → Prop
  | some n => x = .int n
  | none => NotInt K H x
def ThAt (K : PySem.W.Frag) (H : Hp) (v : V) : Option (List (Option Int)) → Prop
  | none => NotTup K H v
  | some ds => ∃ t xs, v = .ref t ∧ TyX K H v (.type "tuple") ∧ SqT K H t xs ∧ xs.length = ds.length ∧ xs.length ≤ 1000 ∧ (∀ (i : Nat) x d, xs[i]? = some x → ds[i]? = some d → ItAt K H x d) ∧ H t = some (.tup xs)
theorem ItAt.ev {K : PySem.W.Frag} {H H' : Hp} {x : V} {d : Option Int} (h : ItAt K H x d) (s : Ev H H') : ItAt K H' x d := by
  cases d with
  | some n => exact h
  | none => exact NotInt.ev h s
theorem ThAt.ev {K : PySem.W.Frag} {H H' : Hp} {v : V} {o : Option (List (Option Int))} (h : ThAt K H v o) (s : Ev H H') : ThAt K H' v o := by
  cases o with
  | none =>
    obtain ⟨t, ty, e⟩ := h
    exact ⟨t, tyx_ev ty s, e⟩
  | some ds =>
    obtain ⟨t, xs, e, ty, h1, h2, h4, h3, h5⟩ := h
    exact ⟨t, xs, e, tyx_ev ty s, seq_ev h1 s, h2, h4, fun i x d a b => (h3 i x d a b).ev s, s.tup h5⟩
/-! ### facts -/
abbrev T3 := BF.T3
def tv (t : T3) : List V := [.int t.1, .int t.2.1, .int t.2.2]
def TrAt (H : Hp) (us : List V) (ts : List T3) : Prop := us.length = ts.length ∧ ∀ (i : Nat) v t, us[i]? = some v → ts[i]? = some t → ∃ a, v = .ref a ∧ H a = some (.tup (tv t))
theorem TrAt.tk {H H' : Hp} {us : List V} {ts : List T3} (h : TrAt H us ts) (k : ∀ a xs, H a = some (.tup xs) → H' a = some (.tup xs)) : TrAt H' us ts :=
  ⟨h.1, fun i v t a b => let ⟨p, e, q⟩ := h.2 i v t a b; ⟨p, e, k _ _ q⟩⟩
theorem TrAt.at {H : Hp} {us : List V} {ts : List T3} (h : TrAt H us ts) {i : Nat} {t : T3} (ht : ts[i]? = some t) : ∃ a, us[i]? = some (.ref a) ∧ H a = some (.tup (tv t)) := by
  have hi : i < us.length := by rw [h.1]; exact (List.getElem?_eq_some_iff.mp ht).1
  obtain ⟨a, e, q⟩ := h.2 i _ t (List.getElem?_eq_getElem hi) ht
  exact ⟨a, by rw [List.getElem?_eq_getElem hi, e], q⟩
structure Fs (H : Hp) (f : Addr) (us : List V) (ts : List T3) : Prop where
  l : H f = some (.lst us)
  t : TrAt H us ts
  n : us.length ≤ 1000
theorem Fs.same {H H' : Hp} {f : Addr} {us : List V} {ts : List T3} (h : Fs H f us ts) (s : Same H H') : Fs H' f us ts := ⟨s _ _ h.l, h.t.tk fun _ _ e => s _ _ e, h.n⟩
def spIsFact : Sp := fun vs H Q _ => ∃ (a : Addr) (t : T3), vs = [.ref a] ∧ H a = some (.tup (tv t)) ∧ 0 ≤ t.1 ∧ 0 ≤ t.2.1 ∧ ∀ H', Same H H' → Q (.bl true) H'
def spCheck : Sp := fun vs H Q _ => ∃ (f : Addr) (c : V) (us : List V) (ts : List T3) (n : Nat), vs = [.ref f, c] ∧ (c = .non ∨ c = .int n) ∧ Fs H f us ts ∧ BF.Good n ts ∧ ∀ H', Same H H' → Q .non H'
def spGo (K : PySem.W.Frag) : Sp := fun vs H Q _ => ∃ (f : Addr) (us : List V) (ts : List T3) (v : V) (o : Option (List (Option Int))), vs = [.ref f, v] ∧ Fs H f us ts ∧ ThAt K H v o ∧ ∀ H', Same H H' → Q (.bl (BF.due ts o)) H'
def spIsRing (K : PySem.W.Frag) : Sp := fun vs H Q _ => ∃ (f : Addr) (us : List V) (ts : List T3) (n : Nat) (v : V) (o : Option (List (Option Int))), vs = [.ref f, v] ∧ Fs H f us ts ∧ BF.Good n ts ∧ ThAt K H v o ∧ ∀ H', Same H H' → Q (.bl (BF.due ts o)) H'
section
variable {P : Program} {w : World} {K : PySem.W.Frag} {mg : Str → Option Value} {base : Heap}
structure K2 (P : Program) (w : World) (K : PySem.W.Frag) (mg : Str → Option Value) (base : Heap) : Prop extends K1 P w K mg base where
  are_integers : Cal P w K mg base CX0 "are_integers" 2 ["things"] (spAreInts K)
abbrev s_is_fact : Stmt := topS 11
theorem sc_is_fact : FnScope ["thing"] ["thing"] (defScope s_is_fact) := ⟨rfl, rfl, rfl, by decide +kernel, rfl, by decide +kernel, by decide +kernel⟩
theorem ok_is_fact {f : Addr} {fd : FuncData} (F : Fun K "is_fact" "is_fact" s_is_fact f fd) (B : Blt mg) (G : K2 P w K mg base) : FnOk P w K mg base CX0 3 f fd ["thing"] spIsFact := by
  refine F.ok sc_is_fact (fun vs H Q E h => ?_) (fun cdv A outer s H vs Q E hr h => ?_)
  · obtain ⟨a, t, rfl, _⟩ := h
    rfl
  · obtain ⟨a, t, rfl, ha, h1, h2, q⟩ := h
    refine ⟨_, (pss_cons (ps_if (PW.pt (pw_or (pt_not (pt_val (pe_callB call_isi (by rfl) B.isinstance (by decide +kernel) (pa_cons (pv 0) (pa_cons (pe_bltn (v := .ty "tuple") (by rfl) B.tuple (by decide +kernel) rfl) pa_nil))))) (pw_or (pt_cmpR op_ne (pe_callB call_len_seq (by rfl) B.len (by decide +kernel) (pa_cons (pv 0) pa_nil)) pe_int (nomark _)) (pw_or1 (pt_not (pt_val (pe_cal G.are_integers (hr.mono (by decide)) pass0 (pa_cons (pv 0) pa_nil))))))))
      (pss_one (ps_ret pe_bl))
      pss_nil)
    (pss_one (ps_ret (pe_and (pe_cmpR op_ge (pe_ix ix_tup (pv 0) pe_int (fun _ _ => rfl)) pe_int (nomark _)) (pe_one (pe_cmpR op_ge (pe_ix ix_tup (pv 0) pe_int (fun _ _ => rfl)) pe_int (nomark _))))))), ?_⟩
    refine ⟨_, rfl, _, _, _, _, true, rfl, ClsV.ty _, .base (.tup ha), kit_ty (by decide +kernel), _, rfl, iteF ?_⟩
    refine ⟨_, rfl, a, _, rfl, .inr (SqT.of ha), rfl, _, rfl, iteF ?_⟩
    refine ⟨_, rfl, a, [t.1, t.2.1, t.2.2], rfl, SqT.of ha, (by show 3 ≤ 100; decide), fun H1 s1 => ⟨_, rfl, iteF ?_⟩⟩
    have ha1 := s1 _ _ ha
    refine ⟨_, rfl, _, _, _, _, rfl, rfl, SqT.of ha1, rfl, _, _, rfl, rfl, _, rfl, ?_⟩
    rw [decide_eq_true (show t.1 ≥ 0 from h1)]
    refine iteT ⟨_, rfl, _, _, _, _, rfl, rfl, SqT.of ha1, rfl, _, _, rfl, rfl, ?_⟩
    show Q (.bl (decide (0 ≤ t.2.1))) H1
    rw [decide_eq_true h2]
    exact q H1 s1
structure K3 (P : Program) (w : World) (K : PySem.W.Frag) (mg : Str → Option Value) (base : Heap) : Prop extends K2 P w K mg base where
  is_fact : Cal P w K mg base CX0 "is_fact" 3 ["thing"] spIsFact
abbrev s_check_facts : Stmt := topS 10
theorem sc_check_facts : FnScope ["facts", "count", "at", "fact"] ["facts", "count"] (defScope s_check_facts) := ⟨rfl, rfl, rfl, by decide +kernel, rfl, by decide +kernel, by decide +kernel⟩
theorem ok_check {f : Addr} {fd : FuncData} (F : Fun K "check_facts" "check_facts" s_check_facts f fd) (B : Blt mg) (G : K3 P w K mg base) : FnOk P w K mg base CX0 4 f fd ["facts", "count"] spCheck := by
  refine F.ok sc_check_facts (fun vs H Q E h => ?_) (fun cdv A outer s H vs Q E hr h => ?_)
  · obtain ⟨f, c, us, ts, n, rfl, _⟩ := h
    rfl
  · obtain ⟨f, c, us, ts, n, rfl, hc, hF, hG, q⟩ := h
    refine ⟨_, (pss_one (ps_for PassesOwn.never rfl (pi_enum (by rfl) B.enumerate (pa_cons (pv 0) pa_nil)) (pg_tup (by rfl) (pgs_cons (pg_name (i := 2) sc_check_facts.nd rfl (Or.inl rfl)) (pgs_cons (pg_name (i := 3) sc_check_facts.nd rfl (Or.inl rfl)) pgs_nil)))
      (pss_one (ps_if (PW.pt (pw_or (pt_not (pt_val (pe_cal G.is_fact (hr.mono (by decide)) pass0 (pa_cons (pv 3) pa_nil)))) (pw_or1 (PW.pt (pw_and (pt_cmpR op_notN (pv 1) pe_non (nomark _)) (pw_and1 (pt_cmpR op_ge (pe_callB (call_max2 rfl) (by rfl) B.max (by decide +kernel) (pa_cons (pe_ix ix_tup (pv 3) pe_int (fun _ _ => rfl)) (pa_cons (pe_ix ix_tup (pv 3) pe_int (fun _ _ => rfl)) pa_nil))) (pv 1) (nomark _))))))))
        (pss_one ps_never)
        pss_nil)))), ?_⟩
    refine ⟨_, rfl, f, us, rfl, SqL.of hF.l, for_it walk_enum (fun i σ H1 => (∃ a b, σ = [some (.ref f), some c, a, b]) ∧ Same H H1) ⟨⟨_, _, rfl⟩, Same.refl H⟩ (fun i σ H1 _ hv => SqL.of (hv.2 _ _ hF.l)) ?_ ?_⟩
    · rintro i x σ H1 H2 hi ⟨⟨a, b, rfl⟩, s1⟩ ⟨T, x1, x2, rfl, hT, rfl, e1, e2⟩
      cases e1
      have hit : i < ts.length := by rw [← hF.t.1]; exact hi
      obtain ⟨p, e3, e4⟩ := hF.t.at (List.getElem?_eq_getElem hit)
      have e2 : us[i]? = some x2 := e2
      rw [e3] at e2
      cases e2
      have g := hG _ (List.getElem_mem hit)
      have s2 : Same H (upd H1 T (.tup [.int (i : Nat), .ref p])) := s1.trans (sameAt (Same.refl _) hT)
      refine ⟨T, _, rfl, SqT.of upd_same, rfl, _, _, rfl, _, _, rfl, rfl, ?_⟩
      refine ⟨_, rfl, p, _, rfl, s2 _ _ e4, g.1, g.2.2.1, fun H3 s3 => ⟨_, rfl, iteF ?_⟩⟩
      have e5 := s3 _ _ (s2 _ _ e4)
      rcases hc with rfl | rfl
      · exact ⟨_, rfl, rfl, _, rfl, iteF (iteF ⟨⟨_, _, rfl⟩, s2.trans s3⟩)⟩
      · refine ⟨_, rfl, rfl, _, rfl, iteT ⟨_, rfl, _, _, _, _, rfl, rfl, SqT.of e5, rfl, _, rfl, _, _, _, _, rfl, rfl, SqT.of e5, rfl, _, _, rfl, _, rfl, _, _, rfl, rfl, _, rfl, ?_⟩⟩
        rw [decide_eq_false (show ¬ (if ts[i].2.1 > ts[i].1 then ts[i].2.1 else ts[i].1) ≥ (n : Int) by split <;> omega)]
        exact iteF ⟨⟨_, _, rfl⟩, s2.trans s3⟩
    · rintro σ H1 ⟨⟨a, b, rfl⟩, s1⟩
      exact q H1 s1
end
end Ash

set_option Elab.async false
set_option linter.all false
set_option maxRecDepth 100000
set_option maxHeartbeats 4000000
namespace Ash
open PySem PySem.Spec PyProof.Rows L2
open C8 (pss_cut)
theorem list_last {α : Type} {l : List α} (h : l ≠ []) : ∃ a x, l = a ++ [x] := ⟨l.dropLast, l.getLast h, (List.dropLast_concat_getLast h).symm⟩
section
variable {P : Program} {w : World} {K : PySem.W.Frag} {mg : Str → Option Value} {base : Heap}
structure K4 (P : Program) (w : World) (K : PySem.W.Frag) (mg : Str → Option Value) (base : Heap) : Prop extends K3 P w K mg base where
  check_facts : Cal P w K mg base CX0 "check_facts" 4 ["facts", "count"] spCheck
abbrev s_goes_round : Stmt := topS 14
theorem sc_goes_round : FnScope ["facts", "thing", "at", "behind", "total", "low", "high", "more"] ["facts", "thing"] (defScope s_goes_round) := ⟨rfl, rfl, rfl, by decide +kernel, rfl, by decide +kernel, by decide +kernel⟩
theorem ok_goes {f : Addr} {fd : FuncData} (F : Fun K "goes_round" "goes_round" s_goes_round f fd) (B : Blt mg) (G : K1 P w K mg base) : FnOk P w K mg base CX0 2 f fd ["facts", "thing"] (spGo K) := by
  refine F.ok sc_goes_round (fun vs H Q E h => ?_) (fun cdv A outer s H vs Q E hr h => ?_)
  · obtain ⟨f, us, ts, v, o, rfl, _⟩ := h
    rfl
  · obtain ⟨f, us, ts, v, o, rfl, hF, hT, q⟩ := h
    have q := q H (Same.refl H)
    refine ⟨_, (pss_cons (ps_if (PW.pt (pw_or (pt_not (pt_val (pe_callB call_isi (by rfl) B.isinstance (by decide +kernel) (pa_cons (pv 1) (pa_cons (pe_bltn (v := .ty "tuple") (by rfl) B.tuple (by decide +kernel) rfl) pa_nil))))) (pw_or1 (pt_cmpR op_eq (pe_callB call_len_seq (by rfl) B.len (by decide +kernel) (pa_cons (pv 1) pa_nil)) pe_int (nomark _)))))
      (pss_one (ps_ret pe_bl))
      pss_nil)
    (pss_cut (ps_for PassesOwn.never rfl (pi_tup (pv 1)) (pg_name (i := 2) sc_goes_round.nd rfl (Or.inl rfl))
      (pss_one (ps_if (PW.pt (pw_or (pt_not (pt_val (pe_cal G.is_integer (hr.mono (by decide)) pass0 (pa_cons (pv 2) pa_nil)))) (pw_or1 (pt_not (pt_chain op_le op_lt pe_int (pv 2) (pe_callB call_len_seq (by rfl) B.len (by decide +kernel) (pa_cons (pv 0) pa_nil)))))))
        (pss_one (ps_ret pe_bl))
        pss_nil)))
    (pss_cons (ps_set (i := 3) sc_goes_round.nd rfl (Or.inl rfl) (pe_ix ix_tup (pe_ix ix_list (pv 0) (pe_ix ix_tup (pv 1) (pe_un un_neg pe_int) (fun _ _ => rfl)) (fun _ _ => rfl)) pe_int (fun _ _ => rfl)))
    (pss_cons (ps_set (i := 4) sc_goes_round.nd rfl (Or.inl rfl) pe_int)
    (pss_cons (ps_for PassesOwn.never rfl (pi_tup (pv 1)) (pg_name (i := 2) sc_goes_round.nd rfl (Or.inl rfl))
      (pss_cons (ps_asg (pe_ix ix_list (pv 0) (pv 2) (fun _ _ => rfl)) (pg_tup (by rfl) (pgs_cons (pg_name (i := 5) sc_goes_round.nd rfl (Or.inl rfl)) (pgs_cons (pg_name (i := 6) sc_goes_round.nd rfl (Or.inl rfl)) (pgs_cons (pg_name (i := 7) sc_goes_round.nd rfl (Or.inl rfl)) pgs_nil)))))
      (pss_cons (ps_if (pt_cmpR op_ne (pv 5) (pv 3) (nomark _))
        (pss_one (ps_ret pe_bl))
        pss_nil)
      (pss_cons (ps_set (i := 3) sc_goes_round.nd rfl (Or.inl rfl) (pv 6))
      (pss_one (ps_aug (i := 4) sc_goes_round.nd rfl (.inl rfl) (pv 7) ip_add))))))
    (pss_one (ps_ret (pe_cmpR op_lt (pv 4) pe_int (nomark _))))))))), ?_⟩
    cases o with
    | none =>
      obtain ⟨t, ty, e⟩ := hT
      exact ⟨_, rfl, _, _, _, _, false, rfl, ClsV.ty _, ty, e, _, rfl, iteT (iteT q)⟩
    | some ds =>
      obtain ⟨t, xs, rfl, ty, hS, hl, h1000, hx, _⟩ := hT
      refine ⟨_, rfl, _, _, _, _, true, rfl, ClsV.ty _, ty, kit_ty (by decide +kernel), _, rfl, iteF ?_⟩
      refine ⟨_, rfl, t, _, rfl, .inr hS, rfl, _, rfl, ?_⟩
      refine ite2 (fun c0 => ?_) (fun c0 => ?_)
      · have c0 : V.int xs.length = .int 0 := of_decide_eq_true c0
        have : ds = [] := by
          refine List.eq_nil_of_length_eq_zero ?_
          rw [← hl]
          injection c0 with c0
          omega
        subst this
        exact q
      · have c0 : ds ≠ [] := fun z => c0 (decide_eq_true (by rw [hl, z]; rfl))
        have ful : us.length = ts.length := hF.t.1
        -- all are in range
        refine ⟨fun σ H1 => (∃ a b c d e g, σ = [some (.ref f), some (.ref t), a, b, c, d, e, g]) ∧ H1 = H ∧ ∀ (j : Nat) d, ds[j]? = some d → BF.inR ts.length d = true, ?_, ?_⟩
        · refine ⟨_, rfl, t, rfl, ⟨_, hS⟩, for_tup (xs := xs) (fun i σ H1 => (∃ a b c d e g, σ = [some (.ref f), some (.ref t), a, b, c, d, e, g]) ∧ H1 = H ∧ ∀ (j : Nat) d, j < i → ds[j]? = some d → BF.inR ts.length d = true) ⟨⟨_, _, _, _, _, _, rfl⟩, rfl, fun _ _ h => absurd h (by omega)⟩ (fun i σ H1 _ hv => by rw [hv.2.1]; exact hS) ?_ ?_⟩
          · rintro i x σ H1 hi ⟨⟨a, b, c, d, e, g, rfl⟩, rfl, ha⟩
            have hil : i < ds.length := by rw [← hl]; exact (List.getElem?_eq_some_iff.mp hi).1
            obtain ⟨dd, hd⟩ : ∃ dd, ds[i]? = some dd := ⟨_, List.getElem?_eq_getElem hil⟩
            have hxi := hx i x dd hi hd
            have bad : BF.inR ts.length dd = false → Q (.bl false) H1 := fun z => by
              have := q
              rw [BF.due_bad hd z] at this
              exact this
            refine ⟨_, rfl, _, rfl, ?_⟩
            cases dd with
            | none => exact .inr ⟨hxi, _, rfl, iteT (iteT (bad rfl))⟩
            | some m =>
              obtain rfl : x = .int m := hxi
              refine .inl ⟨m, rfl, _, rfl, iteF ⟨_, rfl, _, _, rfl, rfl, _, rfl, ?_⟩⟩
              refine ite2 (fun c1 => ?_) (fun c1 => ?_)
              · have c1 : 0 ≤ m := of_decide_eq_true c1
                refine ⟨_, rfl, f, _, rfl, .inl (SqL.of hF.l), _, _, rfl, rfl, _, rfl, ?_⟩
                rw [ful]
                by_cases c2 : m < ts.length
                · rw [decide_eq_true c2]
                  refine iteF ⟨⟨_, _, _, _, _, _, rfl⟩, rfl, fun j d' hj hd' => ?_⟩
                  by_cases e : j = i
                  · rw [e, hd] at hd'
                    cases hd'
                    exact decide_eq_true ⟨c1, c2⟩
                  · exact ha j d' (by omega) hd'
                · rw [decide_eq_false c2]
                  exact iteT (bad (decide_eq_false fun z => c2 z.2))
              · have c1 : ¬ 0 ≤ m := by simpa using c1
                exact ⟨_, rfl, iteT (bad (decide_eq_false fun z => c1 z.1))⟩
          · rintro σ H1 ⟨hs, rfl, ha⟩
            exact ⟨hs, rfl, fun j d hd => ha j d (by rw [hl]; exact (List.getElem?_eq_some_iff.mp hd).1) hd⟩
        · rintro σ H1 ⟨⟨a, b, c, d, e, g, rfl⟩, rfl, ha⟩
          obtain ⟨ns, rfl, hn⟩ := BF.all_in ha
          have n0 : ns ≠ [] := fun z => c0 (by rw [z]; rfl)
          rw [BF.due_in n0 hn] at q
          have hxs : ∀ (i : Nat) n, ns[i]? = some n → xs[i]? = some (.int (n : Int)) := fun i n hni => by
            have hi : i < xs.length := by rw [hl, List.length_map]; exact (List.getElem?_eq_some_iff.mp hni).1
            have := hx i xs[i] (some (n : Int)) (List.getElem?_eq_getElem hi) (by rw [List.getElem?_map, hni]; rfl)
            rw [List.getElem?_eq_getElem hi]
            exact congrArg some this
          have hlen : xs.length = ns.length := by rw [hl, List.length_map]
          have hat : ∀ n ∈ ns, ∃ p, us[n]? = some (.ref p) ∧ H1 p = some (.tup (tv (ts.getD n (0, 0, 0)))) := fun n hm => by
            have := hn n hm
            have e : ts[n]? = some (ts.getD n (0, 0, 0)) := by rw [List.getD_eq_getElem?_getD, List.getElem?_eq_getElem this]; rfl
            exact hF.t.at e
          -- behind
          obtain ⟨ns', z, rfl⟩ := list_last n0
          obtain ⟨p, e1, e2⟩ := hat z (List.mem_append.mpr (.inr List.mem_cons_self))
          have hlast : ∃ xs', xs = xs' ++ [.int (z : Int)] := by
            have : xs ≠ [] := fun q => by rw [q] at hlen; simp at hlen
            obtain ⟨xs', y, hy⟩ := list_last this
            refine ⟨xs', ?_⟩
            have h1 := hxs ns'.length z (by rw [List.getElem?_append_right (Nat.le_refl _), Nat.sub_self]; rfl)
            have h2 : xs'.length = ns'.length := by
              have := hlen
              rw [hy, List.length_append, List.length_append] at this
              simpa using this
            rw [hy, ← h2, List.getElem?_append_right (Nat.le_refl _), Nat.sub_self] at h1
            rw [hy]
            cases h1
            rfl
          obtain ⟨xs', hxe⟩ := hlast
          refine ⟨_, rfl, _, rfl, _, rfl, t, _, _, V.int z, rfl, rfl, hS, (by rw [hxe]; exact atI_last _ _), f, _, _, _, rfl, rfl, SqL.of hF.l, atI_nat e1, p, _, _, _, rfl, rfl, SqT.of e2, rfl, ?_⟩
          have hprv : (ts.getD z (0, 0, 0)).2.1 = BF.prv (BF.facts ts (ns' ++ [z])) 0 := by
            show _ = ((BF.facts ts (ns' ++ [z])).getLast?.getD (0, 0, 0)).2.1
            unfold BF.facts
            rw [List.map_append, List.map_cons, List.map_nil, List.getLast?_append]
            rfl
          generalize hns : ns' ++ [z] = ns at *
          have chk : BF.chn (BF.prv (BF.facts ts ns) 0) (BF.facts ts ns) = BF.chn (BF.prv (BF.facts ts ns) 0) ((BF.facts ts ns).drop 0) := rfl
          refine ⟨_, rfl, t, rfl, ⟨_, hS⟩, for_tup (xs := xs) (fun i σ H2 => (∃ a c d e, σ = [some (.ref f), some (.ref t), a, some (.int (BF.prv (BF.facts ts ns) i)), some (.int (BF.sum3 ((BF.facts ts ns).take i))), c, d, e]) ∧ H2 = H1 ∧ BF.chn (BF.prv (BF.facts ts ns) 0) (BF.facts ts ns) = BF.chn (BF.prv (BF.facts ts ns) i) ((BF.facts ts ns).drop i)) ?_ (fun i σ H2 _ hv => by rw [hv.2.1]; exact hS) ?_ ?_⟩
          · rw [hprv]
            exact ⟨⟨_, _, _, _, rfl⟩, rfl, rfl⟩
          · rintro i x σ H2 hi ⟨⟨a, c, d, e, rfl⟩, rfl, hch⟩
            have hil : i < ns.length := by rw [← hlen]; exact (List.getElem?_eq_some_iff.mp hi).1
            obtain ⟨m, hm⟩ : ∃ m, ns[i]? = some m := ⟨_, List.getElem?_eq_getElem hil⟩
            have hmm := List.mem_of_getElem? hm
            have := hxs i m hm
            rw [hi] at this
            cases this
            obtain ⟨p', e3, e4⟩ := hat m hmm
            have hft : (BF.facts ts ns)[i]? = some (ts.getD m (0, 0, 0)) := BF.facts_at hm (by rw [List.getD_eq_getElem?_getD, List.getElem?_eq_getElem (hn m hmm)]; rfl)
            generalize ts.getD m (0, 0, 0) = ti at e4 hft
            rw [BF.chn_step hft] at hch
            refine ⟨_, rfl, _, rfl, _, _, _, _, rfl, rfl, SqL.of hF.l, atI_nat e3, p', _, rfl, SqT.of e4, rfl, _, _, rfl, _, _, rfl, _, _, rfl, rfl, ?_⟩
            refine ⟨_, rfl, _, rfl, rfl, _, rfl, ?_⟩
            by_cases c1 : BF.prv (BF.facts ts ns) i = ti.1
            · rw [c1] at hch ⊢
              rw [decide_eq_true (rfl : ti.1 = ti.1), Bool.true_and] at hch
              rw [decide_eq_true (rfl : V.int ti.1 = V.int ti.1)]
              refine iteF ⟨_, rfl, _, rfl, _, rfl, _, _, rfl, rfl, ⟨some (.int (m : Nat)), some (.int ti.1), some (.int ti.2.1), some (.int ti.2.2), ?_⟩, rfl, ?_⟩
              · rw [BF.prv_step hft, BF.sum3_step hft]
                rfl
              · rw [hch, BF.prv_step hft]
            · rw [decide_eq_false (fun z : V.int ti.1 = V.int (BF.prv (BF.facts ts ns) i) => c1 (by injection z with z; exact z.symm))]
              refine iteT ?_
              have := q
              rw [hch, decide_eq_false c1, Bool.false_and, Bool.false_and] at this
              exact this
          · rintro σ H2 ⟨⟨a, c, d, e, rfl⟩, rfl, hch⟩
            have hfl : (BF.facts ts ns).length = xs.length := by unfold BF.facts; rw [List.length_map, hlen]
            rw [← hfl, List.drop_length] at hch
            rw [← hfl, List.take_length]
            refine ⟨_, rfl, _, _, rfl, rfl, ?_⟩
            have := q
            rw [hch] at this
            exact this
structure K5 (P : Program) (w : World) (K : PySem.W.Frag) (mg : Str → Option Value) (base : Heap) : Prop extends K4 P w K mg base where
  goes_round : Cal P w K mg base CX0 "goes_round" 2 ["facts", "thing"] (spGo K)
abbrev s_is_ring : Stmt := topS 9
theorem sc_is_ring : FnScope ["facts", "thing"] ["facts", "thing"] (defScope s_is_ring) := ⟨rfl, rfl, rfl, by decide +kernel, rfl, by decide +kernel, by decide +kernel⟩
theorem ok_is_ring {f : Addr} {fd : FuncData} (F : Fun K "is_ring" "is_ring" s_is_ring f fd) (B : Blt mg) (G : K5 P w K mg base) : FnOk P w K mg base CX0 5 f fd ["facts", "thing"] (spIsRing K) := by
  refine F.ok sc_is_ring (fun vs H Q E h => ?_) (fun cdv A outer s H vs Q E hr h => ?_)
  · obtain ⟨f, us, ts, n, v, o, rfl, _⟩ := h
    rfl
  · obtain ⟨f, us, ts, n, v, o, rfl, hF, hG, hT, q⟩ := h
    refine ⟨_, (pss_cons (ps_expr (pe_cal G.check_facts (hr.mono (by decide)) pass0 (pa_cons (pv 0) (pa_cons pe_non pa_nil))))
    (pss_one (ps_ret (pe_cal G.goes_round (hr.mono (by decide)) pass0 (pa_cons (pv 0) (pa_cons (pv 1) pa_nil)))))), ?_⟩
    exact ⟨_, rfl, f, _, us, ts, n, rfl, .inl rfl, hF, hG, fun H1 s1 => ⟨_, rfl, _, rfl, f, us, ts, v, o, rfl, hF.same s1, hT.ev (Ev.same s1), fun H2 s2 => q H2 (s1.trans s2)⟩⟩
end
end Ash

set_option Elab.async false
set_option linter.all false
set_option maxRecDepth 100000
set_option maxHeartbeats 4000000
namespace Ash
open PySem PySem.Spec PyProof.Rows L2
open C8 (pss_cut)
def pV : Option Nat → V
  | none => .non
  | some i => .int (i : Nat)
def idxV (p : List (Option Nat)) (u : Nat) : V := pV (p.getD u none)
/-- the ring from the n-th variable of the way on -/
structure Rng (ts : List T3) (p : List (Option Nat)) (n v0 m : Nat) : Prop where
  pos : 1 ≤ m
  back : BF.orb ts p v0 (n + m) = BF.orb ts p v0 n
  first : ∀ j, 1 ≤ j → j < m → BF.orb ts p v0 (n + j) ≠ BF.orb ts p v0 n
def rngV (ts : List T3) (p : List (Option Nat)) (n v0 m : Nat) : List V := (List.range m).map fun j => idxV p (BF.orb ts p v0 (n + j))
def spBehind : Sp := fun vs H Q _ => ∃ (f bc : Addr) (us : List V) (ts : List T3) (p : List (Option Nat)) (n v0 : Nat), vs = [.ref f, .ref bc, .int v0] ∧ Fs H f us ts ∧ BF.Good n ts ∧ H bc = some (.lst (p.map pV)) ∧ p.length = n ∧ n ≤ 1000 ∧
  (∀ k, BF.Has ts p (BF.orb ts p v0 k)) ∧ (∃ m, 1 ≤ m ∧ m ≤ n ∧ BF.orb ts p v0 (n + m) = BF.orb ts p v0 n) ∧
  ∀ m t H', Rng ts p n v0 m → Same H H' → H' t = some (.tup (rngV ts p n v0 m)) → Q (.ref t) H'
theorem has_at {H : Hp} {f : Addr} {us : List V} {ts : List T3} {p : List (Option Nat)} {n u : Nat} (F : Fs H f us ts) (g : BF.Good n ts) (h : BF.Has ts p u) :
    ∃ (i : Nat) (a : Addr) (t : T3), (p.map pV)[u]? = some (.int (i : Nat)) ∧ us[i]? = some (.ref a) ∧ H a = some (.tup (tv t)) ∧ t.2.1 = (BF.nx ts p u : Nat) ∧ idxV p u = .int (i : Nat) := by
  obtain ⟨i, t, h1, h2, h3⟩ := h
  obtain ⟨a, e1, e2⟩ := F.t.at h2
  have := g t (List.mem_of_getElem? h2)
  refine ⟨i, a, t, by rw [List.getElem?_map, h1]; rfl, e1, e2, ?_, ?_⟩
  · rw [BF.nx_eq h1 h2]
    unfold BF.hi
    omega
  · unfold idxV
    rw [List.getD_eq_getElem?_getD, h1]
    rfl
section
variable {P : Program} {w : World} {K : PySem.W.Frag} {mg : Str → Option Value} {base : Heap}
abbrev s_ring_behind : Stmt := topS 13
theorem sc_ring_behind : FnScope ["facts", "because", "lowered", "variable", "_", "around", "first"] ["facts", "because", "lowered"] (defScope s_ring_behind) := ⟨rfl, rfl, rfl, by decide +kernel, rfl, by decide +kernel, by decide +kernel⟩
theorem ok_behind {f : Addr} {fd : FuncData} (F : Fun K "ring_behind" "ring_behind" s_ring_behind f fd) (B : Blt mg) : FnOk P w K mg base CX0 1 f fd ["facts", "because", "lowered"] spBehind := by
  refine F.ok sc_ring_behind (fun vs H Q E h => ?_) (fun cdv A outer s H vs Q E hr h => ?_)
  · obtain ⟨f, bc, us, ts, p, n, v0, rfl, _⟩ := h
    rfl
  · obtain ⟨f, bc, us, ts, p, n, v0, rfl, hF, hG, hb, hn, h1000, hall, ⟨m0, m1, mn, mb⟩, q⟩ := h
    refine ⟨_, (pss_cons (ps_set (i := 3) sc_ring_behind.nd rfl (Or.inl rfl) (pv 2))
    (pss_cons (ps_for PassesOwn.never rfl (pi_list (pv 1)) (pg_name (i := 4) sc_ring_behind.nd rfl (Or.inl rfl))
      (pss_one (ps_set (i := 3) sc_ring_behind.nd rfl (Or.inl rfl) (pe_ix ix_tup (pe_ix ix_list (pv 0) (pe_ix ix_list (pv 1) (pv 3) (fun _ _ => rfl)) (fun _ _ => rfl)) pe_int (fun _ _ => rfl)))))
    (pss_cons (ps_set (i := 5) sc_ring_behind.nd rfl (Or.inl rfl) (pe_lst pa_nil))
    (pss_cons (ps_set (i := 6) sc_ring_behind.nd rfl (Or.inl rfl) (pv 3))
    (pss_cons (ps_while PassesOwn.never (PW.pt (pw_or (pt_cmpR op_eq (pe_callB call_len_seq (by rfl) B.len (by decide +kernel) (pa_cons (pv 5) pa_nil)) pe_int (nomark _)) (pw_or1 (pt_cmpR op_ne (pv 3) (pv 6) (nomark _)))))
      (pss_cons (ps_expr (pe_bm PySem.F.plainAttrs_list PySem.F.slot_list_append PySem.F.type_list_append mt_append (pv 5) (pa_cons (pe_ix ix_list (pv 1) (pv 3) (fun _ _ => rfl)) pa_nil)))
      (pss_one (ps_set (i := 3) sc_ring_behind.nd rfl (Or.inl rfl) (pe_ix ix_tup (pe_ix ix_list (pv 0) (pe_ix ix_list (pv 1) (pv 3) (fun _ _ => rfl)) (fun _ _ => rfl)) pe_int (fun _ _ => rfl))))))
    (pss_one (ps_ret (pe_callTy call_tuple_of (by rfl) B.tuple (by decide +kernel) (pa_cons (pv 5) pa_nil))))))))), ?_⟩
    refine ⟨_, rfl, _, rfl, bc, rfl, ⟨_, SqL.of hb⟩, for_list (a := bc) (xs := p.map pV) (fun i σ H1 => (∃ a b c, σ = [some (.ref f), some (.ref bc), some (.int v0), some (.int (BF.orb ts p v0 i : Nat)), a, b, c]) ∧ H1 = H) ⟨⟨_, _, _, rfl⟩, rfl⟩ (fun i σ H1 _ hv => by rw [hv.2]; exact SqL.of hb) ?_ ?_⟩
    · rintro i x σ H1 hi ⟨⟨a, b, c, rfl⟩, rfl⟩
      obtain ⟨k, e, t, h1, h2, h3, h4, h5⟩ := has_at hF hG (hall i)
      refine ⟨_, rfl, _, rfl, _, rfl, _, _, _, _, rfl, rfl, SqL.of hb, atI_nat h1, _, _, _, _, rfl, rfl, SqL.of hF.l, atI_nat h2, _, _, _, _, rfl, rfl, SqT.of h3, rfl, ⟨some x, b, c, ?_⟩, rfl⟩
      rw [h4]
      rfl
    · rintro σ H1 ⟨⟨a, b, c, rfl⟩, rfl⟩
      rw [List.length_map, hn]
      refine ⟨(by show 0 ≤ sizeLine; decide), fun ar har => ?_⟩
      have s0 : Same H1 (upd H1 ar (.lst [])) := sameAt (Same.refl _) har
      refine ⟨_, rfl, ?_⟩
      refine ⟨fun mm σ H2 => ∃ k, mm = n + m0 - k ∧ k ≤ m0 ∧ σ = [some (.ref f), some (.ref bc), some (.int v0), some (.int (BF.orb ts p v0 (n + k) : Nat)), a, some (.ref ar), some (.int (BF.orb ts p v0 n : Nat))] ∧ H2 ar = some (.lst (rngV ts p n v0 k)) ∧ Same H1 H2 ∧ ∀ j, 1 ≤ j → j < k → BF.orb ts p v0 (n + j) ≠ BF.orb ts p v0 n, ⟨_, 0, rfl, Nat.zero_le _, rfl, upd_same, s0, fun j h h' => absurd h' (by omega)⟩, ?_⟩
      rintro mm σ H2 ⟨k, rfl, hk, rfl, h2, s2, hfi⟩
      have hlen : (rngV ts p n v0 k).length = k := by unfold rngV; rw [List.length_map, List.length_range]
      refine ⟨_, rfl, ar, _, rfl, .inl (SqL.of h2), rfl, _, rfl, ?_⟩
      rw [hlen]
      refine ite2 (fun c1 => ?_) (fun c1 => ?_)
      · have k0 : k = 0 := by
          have := of_decide_eq_true c1
          injection this with this
          omega
        have hk' : k + 1 ≤ m0 := by omega
        have hfi' : ∀ j, 1 ≤ j → j < k + 1 → BF.orb ts p v0 (n + j) ≠ BF.orb ts p v0 n := fun j h h' => absurd h' (by omega)
        refine iteT ?_
        obtain ⟨i, e, t, g1, g2, g3, g4, g5⟩ := has_at hF hG (hall (n + k))
        refine ⟨fun σ' H' => σ' = [some (.ref f), some (.ref bc), some (.int v0), some (.int (BF.orb ts p v0 (n + (k + 1)) : Nat)), a, some (.ref ar), some (.int (BF.orb ts p v0 n : Nat))] ∧ H' ar = some (.lst (rngV ts p n v0 (k + 1))) ∧ Same H1 H', fun σ' H' h => ⟨n + m0 - (k + 1), by omega, k + 1, rfl, hk', h.1, h.2.1, h.2.2, hfi'⟩, ?_⟩
        refine ⟨_, rfl, .inl ⟨rfl, _, SqL.of h2⟩, _, rfl, _, rfl, _, _, _, _, rfl, rfl, SqL.of (s2 _ _ hb), atI_nat g1, ar, _, _, rfl, rfl, h2, (by rw [hlen]; exact small1000 (by omega)), ?_⟩
        have s3 : Same H1 (upd H2 ar (.lst (rngV ts p n v0 k ++ [.int (i : Nat)]))) := sameAt s2 har
        refine ⟨_, rfl, _, rfl, _, rfl, _, _, _, _, rfl, rfl, SqL.of (s3 _ _ hb), atI_nat g1, _, _, _, _, rfl, rfl, SqL.of (s3 _ _ hF.l), atI_nat g2, _, _, _, _, rfl, rfl, SqT.of (s3 _ _ g3), rfl, ?_, ?_, s3⟩
        · rw [g4]
          rfl
        · rw [upd_same, ← g5]
          unfold rngV
          rw [List.range_succ, List.map_append]
          rfl
      · have k0 : k ≠ 0 := fun z => c1 (decide_eq_true (by rw [z]; rfl))
        refine ⟨_, rfl, _, rfl, rfl, _, rfl, ?_⟩
        by_cases c2 : BF.orb ts p v0 (n + k) = BF.orb ts p v0 n
        · rw [c2, decide_eq_true (rfl : V.int (BF.orb ts p v0 n : Nat) = V.int (BF.orb ts p v0 n : Nat))]
          refine iteF ⟨_, rfl, ar, _, rfl, .inl ⟨SqL.of h2, fun t ht => ?_⟩⟩
          exact q k t _ ⟨by omega, c2, hfi⟩ (sameAt s2 (none_of s2 ht)) upd_same
        · rw [decide_eq_false (fun z : V.int (BF.orb ts p v0 (n + k) : Nat) = V.int (BF.orb ts p v0 n : Nat) => c2 (by injection z with z; omega))]
          have hk' : k + 1 ≤ m0 := by
            rcases Nat.lt_or_eq_of_le hk with z | z
            · exact z
            · exact absurd (by rw [z]; exact mb) c2
          have hfi' : ∀ j, 1 ≤ j → j < k + 1 → BF.orb ts p v0 (n + j) ≠ BF.orb ts p v0 n := fun j h h' => by
            by_cases e : j = k
            · rw [e]; exact c2
            · exact hfi j h (by omega)
          refine iteT ?_
          obtain ⟨i, e, t, g1, g2, g3, g4, g5⟩ := has_at hF hG (hall (n + k))
          refine ⟨fun σ' H' => σ' = [some (.ref f), some (.ref bc), some (.int v0), some (.int (BF.orb ts p v0 (n + (k + 1)) : Nat)), a, some (.ref ar), some (.int (BF.orb ts p v0 n : Nat))] ∧ H' ar = some (.lst (rngV ts p n v0 (k + 1))) ∧ Same H1 H', fun σ' H' h => ⟨n + m0 - (k + 1), by omega, k + 1, rfl, hk', h.1, h.2.1, h.2.2, hfi'⟩, ?_⟩
          refine ⟨_, rfl, .inl ⟨rfl, _, SqL.of h2⟩, _, rfl, _, rfl, _, _, _, _, rfl, rfl, SqL.of (s2 _ _ hb), atI_nat g1, ar, _, _, rfl, rfl, h2, (by rw [hlen]; exact small1000 (by omega)), ?_⟩
          have s3 : Same H1 (upd H2 ar (.lst (rngV ts p n v0 k ++ [.int (i : Nat)]))) := sameAt s2 har
          refine ⟨_, rfl, _, rfl, _, rfl, _, _, _, _, rfl, rfl, SqL.of (s3 _ _ hb), atI_nat g1, _, _, _, _, rfl, rfl, SqL.of (s3 _ _ hF.l), atI_nat g2, _, _, _, _, rfl, rfl, SqT.of (s3 _ _ g3), rfl, ?_, ?_, s3⟩
          · rw [g4]
            rfl
          · rw [upd_same, ← g5]
            unfold rngV
            rw [List.range_succ, List.map_append]
            rfl
end
end Ash

set_option Elab.async false
set_option linter.all false
set_option maxRecDepth 100000
set_option maxHeartbeats 4000000
namespace Ash
open PySem PySem.Spec PyProof.Rows L2
open C8 (pss_cut)
def spSolved : Sp := fun vs H Q _ => ∃ (f : Addr) (us : List V) (ts : List T3) (n : Nat), vs = [.int n, .ref f] ∧ Fs H f us ts ∧ BF.Good n ts ∧ n ≤ 1000 ∧
  (∀ r t p H', r ≤ n → (BF.rds ts n (r + 1)).l = none → (∀ r' < r, (BF.rds ts n (r' + 1)).l ≠ none) → Same H H' → H p = none → H' t = some (.tup [.ref p, .non]) → H' p = some (.lst ((BF.rds ts n (r + 1)).v.map V.int)) → Q (.ref t) H') ∧
  (∀ v0 m t p H', (∀ r' ≤ n, (BF.rds ts n (r' + 1)).l ≠ none) → (BF.rds ts n (n + 1)).l = some v0 → Rng ts (BF.rds ts n (n + 1)).p n v0 m → Same H H' → H' t = some (.tup [.non, .ref p]) → H' p = some (.tup (rngV ts (BF.rds ts n (n + 1)).p n v0 m)) → Q (.ref t) H')
theorem rep_map {α : Type} {n : Nat} {x : α} : (List.replicate n [x]).flatten = List.replicate n x := by
  induction n with
  | zero => rfl
  | succ n ih => rw [List.replicate_succ, List.flatten_cons, ih]; rfl
section
variable {P : Program} {w : World} {K : PySem.W.Frag} {mg : Str → Option Value} {base : Heap}
structure K6 (P : Program) (w : World) (K : PySem.W.Frag) (mg : Str → Option Value) (base : Heap) : Prop extends K5 P w K mg base where
  ring_behind : Cal P w K mg base CX0 "ring_behind" 1 ["facts", "because", "lowered"] spBehind
abbrev s_solved : Stmt := topS 12
theorem sc_solved : FnScope ["count", "facts", "values", "because", "lowered", "_", "at", "low", "high", "more"] ["count", "facts"] (defScope s_solved) := ⟨rfl, rfl, rfl, by decide +kernel, rfl, by decide +kernel, by decide +kernel⟩
theorem ok_solved {f : Addr} {fd : FuncData} (F : Fun K "solved" "solved" s_solved f fd) (B : Blt mg) (G : K6 P w K mg base) : FnOk P w K mg base CX0 2 f fd ["count", "facts"] spSolved := by
  refine F.ok sc_solved (fun vs H Q E h => ?_) (fun cdv A outer s H vs Q E hr h => ?_)
  · obtain ⟨f, us, ts, n, rfl, _⟩ := h
    rfl
  · obtain ⟨f, us, ts, n, rfl, hF, hG, hn, q1, q2⟩ := h
    refine ⟨_, (pss_cons (ps_set (i := 2) sc_solved.nd rfl (Or.inl rfl) (pe_op op_rep (pe_lst (pa_cons pe_int pa_nil)) (pv 0)))
    (pss_cons (ps_set (i := 3) sc_solved.nd rfl (Or.inl rfl) (pe_op op_rep (pe_lst (pa_cons pe_non pa_nil)) (pv 0)))
    (pss_cons (ps_set (i := 4) sc_solved.nd rfl (Or.inl rfl) pe_non)
    (pss_cons (ps_for PassesOwn.never rfl (pi_range1 (by rfl) B.range (pa_cons (pe_op op_add (pv 0) pe_int) pa_nil)) (pg_name (i := 5) sc_solved.nd rfl (Or.inl rfl))
      (pss_cons (ps_set (i := 4) sc_solved.nd rfl (Or.inl rfl) pe_non)
      (pss_cons (ps_for PassesOwn.never rfl (pi_enum (by rfl) B.enumerate (pa_cons (pv 1) pa_nil)) (pg_tup (by rfl) (pgs_cons (pg_name (i := 6) sc_solved.nd rfl (Or.inl rfl)) (pgs_cons (pg_tup (by rfl) (pgs_cons (pg_name (i := 7) sc_solved.nd rfl (Or.inl rfl)) (pgs_cons (pg_name (i := 8) sc_solved.nd rfl (Or.inl rfl)) (pgs_cons (pg_name (i := 9) sc_solved.nd rfl (Or.inl rfl)) pgs_nil)))) pgs_nil)))
        (pss_one (ps_if (pt_cmpR op_lt (pe_op op_add (pe_ix ix_list (pv 2) (pv 8) (fun _ _ => rfl)) (pv 9)) (pe_ix ix_list (pv 2) (pv 7) (fun _ _ => rfl)) (nomark _))
          (pss_cons (ps_asg (pe_op op_add (pe_ix ix_list (pv 2) (pv 8) (fun _ _ => rfl)) (pv 9)) (pg_sub (pv 2) (pv 7) set_list))
          (pss_cons (ps_asg (pv 6) (pg_sub (pv 3) (pv 7) set_list))
          (pss_one (ps_set (i := 4) sc_solved.nd rfl (Or.inl rfl) (pv 7)))))
          pss_nil)))
      (pss_one (ps_if (pt_cmpR op_isN (pv 4) pe_non (nomark _))
        (pss_one (ps_ret (pe_tup (pa_cons (pv 2) (pa_cons pe_non pa_nil)))))
        pss_nil)))))
    (pss_one (ps_ret (pe_tup (pa_cons pe_non (pa_cons (pe_cal G.ring_behind (hr.mono (by decide)) pass0 (pa_cons (pv 1) (pa_cons (pv 3) (pa_cons (pv 4) pa_nil)))) pa_nil))))))))), ?_⟩
    refine ⟨(by show 1 ≤ sizeLine; decide), fun l1 hl1 => ⟨_, rfl, _, _, _, rfl, rfl, upd_same, (by omega), (by omega), (by show 1 * _ ≤ sizeLine; rw [sizeLine_eq]; omega), fun vv hvv => ?_⟩⟩
    refine ⟨(by show 1 ≤ sizeLine; decide), fun l2 hl2 => ⟨_, rfl, _, _, _, rfl, rfl, upd_same, (by omega), (by omega), (by show 1 * _ ≤ sizeLine; rw [sizeLine_eq]; omega), fun bc hbc => ?_⟩⟩
    rw [rep_map] at hbc hl2 ⊢
    rw [rep_map]
    have s1 : Same H (upd H l1 (.lst [.int 0])) := sameAt (Same.refl _) hl1
    have s2 := Same.new s1 hvv (o := .lst (List.replicate (n : Int).toNat (.int 0)))
    have s3 := Same.new s2 hl2 (o := .lst [.non])
    have hvv0 := none_of s1 hvv
    have hbc0 := none_of s3 hbc
    have hvb : vv ≠ bc := ne_of_none (Same.new (Same.refl _) hl2 (o := .lst [.non]) _ _ upd_same) hbc
    have s4 := Same.new s3 hbc (o := .lst (List.replicate (n : Int).toNat .non))
    have hv4 : (upd (upd (upd (upd H l1 (.lst [.int 0])) vv (.lst (List.replicate (n : Int).toNat (.int 0)))) l2 (.lst [.non])) bc (.lst (List.replicate (n : Int).toNat .non))) vv = some (.lst (List.replicate n (.int 0))) := by
      rw [upd_ne hvb]
      exact Same.new (Same.refl _) hl2 _ _ upd_same
    have hb4 : (upd (upd (upd (upd H l1 (.lst [.int 0])) vv (.lst (List.replicate (n : Int).toNat (.int 0)))) l2 (.lst [.non])) bc (.lst (List.replicate (n : Int).toNat .non))) bc = some (.lst (List.replicate n .non)) := upd_same
    generalize upd (upd (upd (upd H l1 _) vv _) l2 _) bc _ = H4 at s4 hv4 hb4 ⊢
    refine ⟨_, rfl, _, _, rfl, rfl, _, rfl, (by omega), (by omega), for_range (n := ((n : Int) + 1).toNat) (fun r σ H1 => (∃ lw a b c d e, σ = [some (.int n), some (.ref f), some (.ref vv), some (.ref bc), some lw, a, b, c, d, e] ∧ (r = n + 1 → ∃ v0, (BF.rds ts n (n + 1)).l = some v0 ∧ lw = .int (v0 : Nat))) ∧ H1 vv = some (.lst ((BF.rds ts n r).v.map V.int)) ∧ H1 bc = some (.lst ((BF.rds ts n r).p.map pV)) ∧ Same H H1 ∧ ∀ r' < r, (BF.rds ts n (r' + 1)).l ≠ none) ?_ ?_ ?_⟩
    · refine ⟨⟨_, _, _, _, _, _, rfl, fun z => absurd z (by omega)⟩, ?_, ?_, s4, fun _ h => absurd h (by omega)⟩
      · rw [hv4]
        show _ = some (HO.lst ((List.replicate n (0 : Int)).map V.int))
        rw [List.map_replicate]
      · rw [hb4]
        show _ = some (HO.lst ((List.replicate n none).map pV))
        rw [List.map_replicate]
        rfl
    · rintro r σ H1 hr ⟨⟨lw, a, b, c, d, e, rfl, hlw⟩, hv, hb, s5, hno⟩
      have hr : r < n + 1 := by omega
      generalize hS0 : BF.rds ts n r = S0 at hv hb
      have hl0 : S0.v.length = n ∧ S0.p.length = n := by rw [← hS0]; exact BF.rds_len r
      have hSr : BF.rds ts n (r + 1) = BF.run ts S0 ts.length := by rw [← hS0]; rfl
      refine ⟨_, rfl, f, us, rfl, SqL.of (s5 _ _ hF.l), for_it walk_enum (fun k σ H2 => (∃ x1 x2 x3 x4 x5, σ = [some (.int n), some (.ref f), some (.ref vv), some (.ref bc), some (pV (BF.run ts S0 k).l), x1, x2, x3, x4, x5]) ∧ H2 vv = some (.lst ((BF.run ts S0 k).v.map V.int)) ∧ H2 bc = some (.lst ((BF.run ts S0 k).p.map pV)) ∧ Same H H2) ?_ (fun i σ H1 _ hv => SqL.of (hv.2.2.2 _ _ hF.l)) ?_ ?_⟩
      · exact ⟨⟨_, _, _, _, _, rfl⟩, hv, hb, s5⟩
      · rintro k x σ H2 H3 hk ⟨⟨y1, y2, y3, y4, y5, rfl⟩, hv2, hb2, s6⟩ ⟨T, x1, x2, rfl, hT, rfl, e1, e2⟩
        cases e1
        have hkt : k < ts.length := by rw [← hF.t.1]; exact hk
        have et : ts[k]? = some ts[k] := List.getElem?_eq_getElem hkt
        obtain ⟨p, e3, e4⟩ := hF.t.at et
        have e2 : us[k]? = some x2 := e2
        rw [e3] at e2
        cases e2
        have g := hG _ (List.getElem_mem hkt)
        rw [BF.run_some et]
        have hl := BF.run_len (ts := ts) (s := S0) k
        rw [hl0.1, hl0.2] at hl
        generalize hti : ts[k] = ti at et e4 g
        generalize BF.run ts S0 k = Sk at hv2 hb2 hl ⊢
        have s7 : Same H (upd H2 T (.tup [.int (k : Nat), .ref p])) := s6.trans (sameAt (Same.refl _) hT)
        have off : ∀ {q o}, H2 q = some o → (upd H2 T (.tup [.int (k : Nat), .ref p])) q = some o := fun h => sameAt (Same.refl _) hT _ _ h
        have hv3 := off hv2
        have hb3 := off hb2
        have e5 := s7 _ _ e4
        have TT : (upd H2 T (.tup [.int (k : Nat), .ref p])) T = some (.tup [.int (k : Nat), .ref p]) := upd_same
        generalize upd H2 T (.tup [.int (k : Nat), .ref p]) = H3 at s7 hv3 hb3 e5 TT ⊢
        have lo_eq : ti.1 = (BF.lo ti : Nat) := by unfold BF.lo; omega
        have hi_eq : ti.2.1 = (BF.hi ti : Nat) := by unfold BF.hi; omega
        have lo_lt : BF.lo ti < n := by have := g.2.1; unfold BF.lo; omega
        have hi_lt : BF.hi ti < n := by have := g.2.2.2; unfold BF.hi; omega
        have at_eq : ∀ u, u < n → (Sk.v.map V.int)[u]? = some (.int (BF.at_ Sk.v u)) := fun u hu => by
          unfold BF.at_
          rw [List.getElem?_map, List.getD_eq_getElem?_getD, List.getElem?_eq_getElem (by rw [hl.1]; exact hu)]
          rfl
        refine ⟨T, _, rfl, SqT.of TT, rfl, _, _, rfl, _, _, rfl, p, _, rfl, SqT.of e5, rfl, _, _, rfl, _, _, rfl, _, _, rfl, rfl, rfl, ?_⟩
        have ixl : ∀ {xs : List V}, xs.length = n → ixN xs.length ti.1 = some (BF.lo ti) := fun {xs} h => by
          rw [h, lo_eq]
          unfold ixN
          rw [if_pos (by omega), if_pos (by omega)]
          exact congrArg some (by omega)
        have rd : ∀ u (z : Int), z = (u : Nat) → u < n → atI (Sk.v.map V.int) z = some (.int (BF.at_ Sk.v u)) := fun u z e hu => by rw [e]; exact atI_nat (at_eq u hu)
        refine ⟨_, rfl, _, rfl, _, _, _, _, rfl, rfl, SqL.of hv3, rd _ _ hi_eq hi_lt, _, rfl, _, _, rfl, rfl, _, rfl, _, rfl, _, _, _, _, rfl, rfl, SqL.of hv3, rd _ _ lo_eq lo_lt, _, _, rfl, rfl, _, rfl, ?_⟩
        unfold BF.stp
        refine ite2 (fun c1 => ?_) (fun c1 => ?_)
        · have c1 : BF.at_ Sk.v (BF.hi ti) + ti.2.2 < BF.at_ Sk.v (BF.lo ti) := of_decide_eq_true c1
          rw [if_pos c1]
          refine ⟨_, rfl, _, rfl, _, _, _, _, rfl, rfl, SqL.of hv3, rd _ _ hi_eq hi_lt, _, rfl, _, _, rfl, rfl, _, rfl, _, rfl, _, _, _, _, rfl, rfl, hv3, ixl (by rw [List.length_map]; exact hl.1), ?_⟩
          refine ⟨_, rfl, _, rfl, _, rfl, _, _, _, _, rfl, rfl, (by rw [upd_ne hvb.symm]; exact hb3), ixl (by rw [List.length_map]; exact hl.2), _, rfl, ⟨y1, some (.int (k : Nat)), some (.int ti.1), some (.int ti.2.1), some (.int ti.2.2), ?_⟩, ?_, ?_, ?_⟩
          · have e : V.int ti.1 = pV (some (BF.lo ti)) := by
              show _ = V.int _
              rw [← lo_eq]
            show [_, _, _, _, some (V.int ti.1), _, _, _, _, _] = [_, _, _, _, some (pV (some (BF.lo ti))), _, _, _, _, _]
            rw [e]
          · rw [upd_ne hvb, upd_same, List.map_set]
          · rw [upd_same, List.map_set]
            rfl
          · exact sameAt (sameAt s7 hvv0) hbc0
        · have c1 : ¬ BF.at_ Sk.v (BF.hi ti) + ti.2.2 < BF.at_ Sk.v (BF.lo ti) := fun z => c1 (decide_eq_true z)
          rw [if_neg c1]
          exact ⟨⟨_, _, _, _, _, rfl⟩, hv3, hb3, s7⟩
      · rintro σ H2 ⟨⟨y1, y2, y3, y4, y5, rfl⟩, hv2, hb2, s6⟩
        rw [hF.t.1, ← hSr] at hv2 hb2 ⊢
        cases hl : (BF.rds ts n (r + 1)).l with
        | none =>
          refine ⟨_, rfl, rfl, _, rfl, iteT ⟨_, rfl, (by show 2 ≤ sizeLine; decide), fun t ht => ?_⟩⟩
          have sT : Same H2 (upd H2 t (.tup [.ref vv, .non])) := sameAt (Same.refl _) ht
          exact q1 r t vv _ (by omega) hl hno (s6.trans sT) hvv0 upd_same (sT _ _ hv2)
        | some v0 =>
          refine ⟨_, rfl, rfl, _, rfl, iteF ?_⟩
          refine ⟨⟨_, _, _, _, _, _, rfl, fun z => ⟨v0, ?_, rfl⟩⟩, hv2, hb2, s6, fun r' h => ?_⟩
          · rw [← hl, show r = n by omega]
          · by_cases z : r' = r
            · rw [z, hl]
              exact fun z => nomatch z
            · exact hno r' (by omega)
    · rintro σ H1 ⟨⟨lw, a, b, c, d, e, rfl, hlw⟩, hv, hb, s5, hno⟩
      have e1 : ((n : Int) + 1).toNat = n + 1 := by omega
      rw [e1] at hv hb hno hlw
      obtain ⟨v0, hv0, rfl⟩ := hlw rfl
      obtain ⟨L, hL⟩ := BF.G.rds hG (n + 1)
      obtain ⟨hall, hper⟩ := BF.around hL hv0
      refine ⟨_, rfl, _, rfl, _, rfl, f, bc, us, ts, _, n, v0, rfl, hF.same s5, hG, hb, (BF.rds_len (n + 1)).2, hn, fun k => (hall k).1, hper, fun m t H2 hm s6 ht => ?_⟩
      refine ⟨(by show 2 ≤ sizeLine; decide), fun p hp => ?_⟩
      have sT : Same H2 (upd H2 p (.tup [.non, .ref t])) := sameAt (Same.refl _) hp
      exact q2 v0 m p t _ (fun r' h => hno r' (by omega)) hv0 hm ((s5.trans s6).trans sT) upd_same (sT _ _ ht)
def spRing : Sp := fun vs H Q _ => ∃ (f : Addr) (us : List V) (ts : List T3) (n : Nat), vs = [.int n, .ref f] ∧ Fs H f us ts ∧ BF.Good n ts ∧ n ≤ 1000 ∧
  (∀ v H', Same H H' → (∀ (i : Nat) t, ts[i]? = some t → BF.at_ v (BF.lo t) ≤ BF.at_ v (BF.hi t) + t.2.2) → Q .non H') ∧ (∀ t H', Same H H' → Q (.ref t) H')
structure K7 (P : Program) (w : World) (K : PySem.W.Frag) (mg : Str → Option Value) (base : Heap) : Prop extends K6 P w K mg base where
  solved : Cal P w K mg base CX0 "solved" 2 ["count", "facts"] spSolved
abbrev s_ring : Stmt := topS 7
theorem sc_ring : FnScope ["count", "facts", "_", "around"] ["count", "facts"] (defScope s_ring) := ⟨rfl, rfl, rfl, by decide +kernel, rfl, by decide +kernel, by decide +kernel⟩
theorem ok_ring {f : Addr} {fd : FuncData} (F : Fun K "ring" "ring" s_ring f fd) (B : Blt mg) (G : K7 P w K mg base) : FnOk P w K mg base CX0 5 f fd ["count", "facts"] spRing := by
  refine F.ok sc_ring (fun vs H Q E h => ?_) (fun cdv A outer s H vs Q E hr h => ?_)
  · obtain ⟨f, us, ts, n, rfl, _⟩ := h
    rfl
  · obtain ⟨f, us, ts, n, rfl, hF, hG, hn, q1, q2⟩ := h
    refine ⟨_, (pss_cons (ps_expr (pe_cal G.check_facts (hr.mono (by decide)) pass0 (pa_cons (pv 1) (pa_cons (pv 0) pa_nil))))
    (pss_cons (ps_asg (pe_cal G.solved (hr.mono (by decide)) pass0 (pa_cons (pv 0) (pa_cons (pv 1) pa_nil))) (pg_tup (by rfl) (pgs_cons (pg_name (i := 2) sc_ring.nd rfl (Or.inl rfl)) (pgs_cons (pg_name (i := 3) sc_ring.nd rfl (Or.inl rfl)) pgs_nil))))
    (pss_one (ps_ret (pv 3))))), ?_⟩
    refine ⟨_, rfl, _, rfl, f, _, us, ts, n, rfl, .inr rfl, hF, hG, fun H1 s1 => ⟨_, rfl, _, rfl, f, us, ts, n, rfl, hF.same s1, hG, hn, fun r t p H2 hr h1 h2 s2 hp ht hp2 => ?_, fun v0 m t p H2 h1 h2 h3 s2 ht hp => ?_⟩⟩
    · refine ⟨t, _, rfl, SqT.of ht, rfl, _, _, rfl, _, _, rfl, rfl, _, rfl, ?_⟩
      have k := BF.kept (ts := ts) (s := BF.rds ts n r) ts.length h1
      exact q1 (BF.rds ts n r).v _ (s1.trans s2) fun i t hi => k.2 i t (List.getElem?_eq_some_iff.mp hi).1 hi
    · exact ⟨t, _, rfl, SqT.of ht, rfl, _, _, rfl, _, _, rfl, rfl, _, rfl, q2 p _ (s1.trans s2)⟩
end
end Ash

set_option Elab.async false
set_option linter.all false
set_option maxRecDepth 100000
set_option maxHeartbeats 4000000
namespace Ash
open PySem PySem.Spec PyProof.Rows L2
open C8 (pss_cut)
/-! ### what is no fact -/
def isF (n : Nat) : Option (List (Option Int)) → Bool
  | some [some a, some b, some _] => (decide (0 ≤ a) && decide (0 ≤ b)) && (decide (a < n) && decide (b < n))
  | _ => false
def isF0 : Option (List (Option Int)) → Bool
  | some [some a, some b, some _] => decide (0 ≤ a) && decide (0 ≤ b)
  | _ => false
def FtAt (K : PySem.W.Frag) (n : Nat) (H : Hp) (v : V) : Option T3 → Prop
  | some t => ∃ a, v = .ref a ∧ H a = some (.tup (tv t)) ∧ 0 ≤ t.1 ∧ t.1 < n ∧ 0 ≤ t.2.1 ∧ t.2.1 < n
  | none => ∃ o, ThAt K H v o ∧ isF n o = false
theorem FtAt.ev {K : PySem.W.Frag} {n : Nat} {H H' : Hp} {v : V} {q : Option T3} (h : FtAt K n H v q) (s : Ev H H') : FtAt K n H' v q := by
  cases q with
  | some t =>
    obtain ⟨a, e, h1, h2⟩ := h
    exact ⟨a, e, s.tup h1, h2⟩
  | none =>
    obtain ⟨o, h1, h2⟩ := h
    exact ⟨o, h1.ev s, h2⟩
theorem FtAt.th {K : PySem.W.Frag} {n : Nat} {H : Hp} {v : V} {q : Option T3} (h : FtAt K n H v q) : ∃ o, ThAt K H v o ∧ isF n o = q.isSome := by
  cases q with
  | none => exact h
  | some t =>
    obtain ⟨a, rfl, h1, h2, h3, h4, h5⟩ := h
    refine ⟨some [some t.1, some t.2.1, some t.2.2], ⟨a, _, rfl, .base (.tup h1), SqT.of h1, rfl, by show 3 ≤ 1000; decide, fun i x d h1 h2 => ?_, h1⟩, ?_⟩
    · rcases i with _ | _ | _ | i
      · cases h1; cases h2; rfl
      · cases h1; cases h2; rfl
      · cases h1; cases h2; rfl
      · simp [tv] at h1
    · show ((decide (0 ≤ t.1) && decide (0 ≤ t.2.1)) && (decide (t.1 < n) && decide (t.2.1 < n))) = true
      rw [decide_eq_true h2, decide_eq_true h3, decide_eq_true h4, decide_eq_true h5]
      rfl
theorem isF_eq {n : Nat} {o : Option (List (Option Int))} (h : isF n o = true) : ∃ a b c, o = some [some a, some b, some c] ∧ 0 ≤ a ∧ a < n ∧ 0 ≤ b ∧ b < n := by
  unfold isF at h
  split at h
  · rename_i a b c
    simp only [Bool.and_eq_true, decide_eq_true_eq] at h
    exact ⟨a, b, c, rfl, h.1.1, h.2.1, h.1.2, h.2.2⟩
  · cases h
theorem ft_of {K : PySem.W.Frag} {n : Nat} {H : Hp} {v : V} {o : Option (List (Option Int))} (h : ThAt K H v o) : ∃ q, FtAt K n H v q := by
  cases e : isF n o with
  | false => exact ⟨none, o, h, e⟩
  | true =>
    obtain ⟨a, b, c, rfl, h1, h2, h3, h4⟩ := isF_eq e
    obtain ⟨t, xs, rfl, _, _, hl, _, hx, ht⟩ := h
    obtain ⟨x, y, z, rfl⟩ : ∃ x y z, xs = [x, y, z] := by
      match xs, hl with
      | [x, y, z], _ => exact ⟨x, y, z, rfl⟩
    have e0 : x = .int a := hx 0 x (some a) rfl rfl
    have e1 : y = .int b := hx 1 y (some b) rfl rfl
    have e2 : z = .int c := hx 2 z (some c) rfl rfl
    subst e0 e1 e2
    exact ⟨some (a, b, c), t, rfl, ht, h1, h2, h3, h4⟩
/-- the first that is none -/
def bx : List (Option T3) → Option Nat
  | [] => none
  | none :: _ => some 0
  | some _ :: r => (bx r).map (· + 1)
theorem bx_at : ∀ {qs : List (Option T3)} {i : Nat}, (∀ j, j < i → qs[j]? ≠ some none) → qs[i]? = some none → bx qs = some i
  | [], i, _, h => by simp at h
  | none :: r, i, h0, h => by
    cases i with
    | zero => rfl
    | succ i => exact absurd rfl (h0 0 (by omega))
  | some t :: r, i, h0, h => by
    cases i with
    | zero => cases h
    | succ i =>
      show (bx r).map (· + 1) = _
      rw [bx_at (i := i) (fun j hj => h0 (j + 1) (by omega)) h]
      rfl
theorem bx_none : ∀ {qs : List (Option T3)}, (∀ j, j < qs.length → qs[j]? ≠ some none) → bx qs = none ∧ ∃ ts : List T3, qs = ts.map some
  | [], _ => ⟨rfl, [], rfl⟩
  | none :: r, h0 => absurd rfl (h0 0 (by simp))
  | some t :: r, h0 => by
    obtain ⟨a, ts, b⟩ := bx_none (qs := r) fun j hj => h0 (j + 1) (by simp; omega)
    refine ⟨?_, t :: ts, by rw [b]; rfl⟩
    show (bx r).map (· + 1) = _
    rw [a]
    rfl
theorem bx_some (ts : List T3) : bx (ts.map some) = none := by
  induction ts with
  | nil => rfl
  | cons t r ih =>
    show (bx (r.map some)).map (· + 1) = _
    rw [ih]
    rfl
structure FsX (K : PySem.W.Frag) (n : Nat) (H : Hp) (f : Addr) (us : List V) (qs : List (Option T3)) : Prop where
  l : H f = some (.lst us)
  len : us.length = qs.length
  at_ : ∀ (i : Nat) v q, us[i]? = some v → qs[i]? = some q → FtAt K n H v q
  n : us.length ≤ 1000
theorem FsX.ev {K : PySem.W.Frag} {n : Nat} {H H' : Hp} {f : Addr} {us : List V} {qs : List (Option T3)} (h : FsX K n H f us qs) (s : Ev H H') (hf : H' f = some (.lst us)) : FsX K n H' f us qs := ⟨hf, h.len, fun i v q a b => (h.at_ i v q a b).ev s, h.n⟩
theorem FsX.same {K : PySem.W.Frag} {n : Nat} {H H' : Hp} {f : Addr} {us : List V} {qs : List (Option T3)} (h : FsX K n H f us qs) (s : Same H H') : FsX K n H' f us qs := h.ev (Ev.same s) (s _ _ h.l)
theorem FsX.fs {K : PySem.W.Frag} {n : Nat} {H : Hp} {f : Addr} {us : List V} {ts : List T3} (h : FsX K n H f us (ts.map some)) : Fs H f us ts ∧ BF.Good n ts := by
  have hl := h.len
  rw [List.length_map] at hl
  refine ⟨⟨h.l, ⟨hl, fun i v t a b => ?_⟩, h.n⟩, fun t ht => ?_⟩
  · obtain ⟨p, e, h1, _⟩ := h.at_ i v (some t) a (by rw [List.getElem?_map, b]; rfl)
    exact ⟨p, e, h1⟩
  · obtain ⟨i, hi, e⟩ := List.getElem_of_mem ht
    obtain ⟨p, _, _, h1⟩ := h.at_ i us[i] (some t) (List.getElem?_eq_getElem (by omega)) (by rw [List.getElem?_map, List.getElem?_eq_getElem hi, e]; rfl)
    exact h1
theorem Fs.x {K : PySem.W.Frag} {n : Nat} {H : Hp} {f : Addr} {us : List V} {ts : List T3} (h : Fs H f us ts) (g : BF.Good n ts) : FsX K n H f us (ts.map some) := by
  refine ⟨h.l, by rw [List.length_map]; exact h.t.1, fun i v q a b => ?_, h.n⟩
  rw [List.getElem?_map] at b
  cases e : ts[i]? with
  | none => rw [e] at b; cases b
  | some t =>
    rw [e] at b
    cases b
    obtain ⟨p, h1, h2⟩ := h.t.2 i v t a e
    exact ⟨p, h1, h2, g t (List.mem_of_getElem? e)⟩
/-! ### rings and values -/
def IsSol (ts : List T3) (n : Nat) (vs : List Int) : Prop := ∃ r, r ≤ n ∧ (BF.rds ts n (r + 1)).l = none ∧ (∀ r' < r, (BF.rds ts n (r' + 1)).l ≠ none) ∧ vs = (BF.rds ts n (r + 1)).v
def IsRng (ts : List T3) (n : Nat) (ns : List Nat) : Prop := ∃ v0 m, (∀ r' ≤ n, (BF.rds ts n (r' + 1)).l ≠ none) ∧ (BF.rds ts n (n + 1)).l = some v0 ∧ Rng ts (BF.rds ts n (n + 1)).p n v0 m ∧ ns = BF.rngN ts (BF.rds ts n (n + 1)).p n v0 m
theorem IsSol.uniq {ts : List T3} {n : Nat} {vs ws : List Int} (h : IsSol ts n vs) (k : IsSol ts n ws) : vs = ws := by
  obtain ⟨r, _, h1, h2, rfl⟩ := h
  obtain ⟨q, _, k1, k2, rfl⟩ := k
  have : r = q := by
    rcases Nat.lt_trichotomy r q with z | z | z
    · exact absurd h1 (k2 r z)
    · exact z
    · exact absurd k1 (h2 q z)
  rw [this]
theorem IsSol.not {ts : List T3} {n : Nat} {vs : List Int} {ns : List Nat} (h : IsSol ts n vs) (k : IsRng ts n ns) : False := by
  obtain ⟨r, hr, h1, _⟩ := h
  obtain ⟨_, _, k1, _⟩ := k
  exact k1 r hr h1
theorem IsRng.uniq {ts : List T3} {n : Nat} {ns ms : List Nat} (h : IsRng ts n ns) (k : IsRng ts n ms) : ns = ms := by
  obtain ⟨v0, m, _, h1, h2, rfl⟩ := h
  obtain ⟨v1, m', _, k1, k2, rfl⟩ := k
  rw [h1] at k1
  cases k1
  have : m = m' := by
    rcases Nat.lt_trichotomy m m' with z | z | z
    · exact absurd h2.back (k2.first m h2.pos z)
    · exact z
    · exact absurd k2.back (h2.first m' k2.pos z)
  rw [this]
theorem sol_or (ts : List T3) (n : Nat) : (∃ vs, IsSol ts n vs) ∨ ∀ r' ≤ n, (BF.rds ts n (r' + 1)).l ≠ none := by
  refine Classical.byContradiction fun no => ?_
  have h2 : ¬ ∀ r' ≤ n, (BF.rds ts n (r' + 1)).l ≠ none := fun z => no (.inr z)
  have : ∃ r, r ≤ n ∧ (BF.rds ts n (r + 1)).l = none := Classical.byContradiction fun z => h2 fun r hr e => z ⟨r, hr, e⟩
  obtain ⟨r, hr, e⟩ := this
  have least : ∀ k, k ≤ n → (BF.rds ts n (k + 1)).l = none → ∃ r, r ≤ n ∧ (BF.rds ts n (r + 1)).l = none ∧ ∀ r' < r, (BF.rds ts n (r' + 1)).l ≠ none := by
    intro k
    induction k using Nat.strongRecOn with
    | ind k ih =>
      intro hk e
      by_cases c : ∃ r' < k, (BF.rds ts n (r' + 1)).l = none
      · obtain ⟨r', h1, h2⟩ := c
        exact ih r' h1 (by omega) h2
      · exact ⟨k, hk, e, fun r' h1 h2 => c ⟨r', h1, h2⟩⟩
  obtain ⟨r, h1, h3, h4⟩ := least r hr e
  exact no (.inl ⟨_, r, h1, h3, h4, rfl⟩)
theorem IsSol.keep {ts : List T3} {n : Nat} {vs : List Int} (h : IsSol ts n vs) : vs.length = n ∧ ∀ (i : Nat) t, ts[i]? = some t → BF.at_ vs (BF.lo t) ≤ BF.at_ vs (BF.hi t) + t.2.2 := by
  obtain ⟨r, _, h1, _, rfl⟩ := h
  refine ⟨(BF.rds_len (r + 1)).1, fun i t hi => ?_⟩
  have k := BF.kept (ts := ts) (s := BF.rds ts n r) ts.length h1
  have e : (BF.rds ts n (r + 1)).v = (BF.rds ts n r).v := k.1
  rw [e]
  exact k.2 i t (List.getElem?_eq_some_iff.mp hi).1 hi
theorem IsRng.has {ts : List T3} {n v0 : Nat} (g : BF.Good n ts) (h : (BF.rds ts n (n + 1)).l = some v0) : ∀ k, BF.Has ts (BF.rds ts n (n + 1)).p (BF.orb ts (BF.rds ts n (n + 1)).p v0 k) := fun k => by
  obtain ⟨L, hL⟩ := BF.G.rds g (n + 1)
  exact ((BF.around hL h).1 k).1
theorem IsRng.due {ts : List T3} {n : Nat} {ns : List Nat} (g : BF.Good n ts) (h : IsRng ts n ns) : ns ≠ [] ∧ (∀ i ∈ ns, i < ts.length) ∧ BF.chn (BF.prv (BF.facts ts ns) 0) (BF.facts ts ns) = true ∧ BF.sum3 (BF.facts ts ns) < 0 := by
  obtain ⟨v0, m, _, h1, h2, rfl⟩ := h
  exact BF.rng_due g (IsRng.has g h1) h2.pos h2.back
theorem rngV_eq {ts : List T3} {p : List (Option Nat)} {n v0 m : Nat} (h : ∀ k, BF.Has ts p (BF.orb ts p v0 k)) : rngV ts p n v0 m = (BF.rngN ts p n v0 m).map fun i => V.int (i : Nat) := by
  unfold rngV BF.rngN
  rw [List.map_map]
  refine List.map_congr_left fun j _ => ?_
  show idxV p _ = V.int (BF.pix p _ : Nat)
  have e := (BF.has_fct (h (n + j))).1
  unfold idxV
  rw [List.getD_eq_getElem?_getD, e]
  rfl
end Ash

set_option Elab.async false
set_option linter.all false
set_option maxRecDepth 100000
set_option maxHeartbeats 4000000
namespace Ash
open PySem PySem.Spec PyProof.Rows L2
open C8 (pss_cut)
theorem par_at : PySem.BadX.Par "at" := ⟨by decide, by decide +kernel, by decide +kernel, by decide +kernel, by decide +kernel⟩
def spAreIntsA (K : PySem.W.Frag) : Sp := fun vs H Q _ => ∃ (a : Addr) (xs : List V) (ds : List (Option Int)), vs = [.ref a] ∧ SqT K H a xs ∧ xs.length = ds.length ∧ xs.length ≤ 1000 ∧ (∀ (i : Nat) x d, xs[i]? = some x → ds[i]? = some d → ItAt K H x d) ∧ ∀ H', Same H H' → Q (.bl (ds.all (·.isSome))) H'
def spIsFactA (K : PySem.W.Frag) : Sp := fun vs H Q _ => ∃ v o, vs = [v] ∧ ThAt K H v o ∧ ∀ H', Same H H' → Q (.bl (isF0 o)) H'
def spCheckX (K : PySem.W.Frag) (CE : Addr) : Sp := fun vs H Q E => ∃ (f : Addr) (us : List V) (qs : List (Option T3)) (n : Nat), vs = [.ref f, .int n] ∧ FsX K n H f us qs ∧ (bx qs = none → ∀ H', Same H H' → Q .non H') ∧ (∀ i d H', bx qs = some i → Same H H' → H' d = some (.xd [("at", .int (i : Nat))]) → E (.ref CE) (some d) H')
def spRingX (K : PySem.W.Frag) (CE : Addr) : Sp := fun vs H Q E => ∃ (f : Addr) (us : List V) (qs : List (Option T3)) (n : Nat), vs = [.int n, .ref f] ∧ FsX K n H f us qs ∧ n ≤ 1000 ∧
  (∀ ts vs H', qs = ts.map some → IsSol ts n vs → Same H H' → Q .non H') ∧ (∀ ts ns t H', qs = ts.map some → IsRng ts n ns → Same H H' → H' t = some (.tup (ns.map fun i => V.int (i : Nat))) → Q (.ref t) H') ∧
  (∀ i d H', bx qs = some i → Same H H' → H' d = some (.xd [("at", .int (i : Nat))]) → E (.ref CE) (some d) H')
def spSolX (K : PySem.W.Frag) (CE : Addr) : Sp := fun vs H Q E => ∃ (f : Addr) (us : List V) (qs : List (Option T3)) (n : Nat), vs = [.int n, .ref f] ∧ FsX K n H f us qs ∧ n ≤ 1000 ∧
  (∀ ts vs p H', qs = ts.map some → IsSol ts n vs → Same H H' → H p = none → H' p = some (.lst (vs.map V.int)) → Q (.ref p) H') ∧ (∀ ts ns H', qs = ts.map some → IsRng ts n ns → Same H H' → Q .non H') ∧
  (∀ i d H', bx qs = some i → Same H H' → H' d = some (.xd [("at", .int (i : Nat))]) → E (.ref CE) (some d) H')
section
variable {P : Program} {w : World} {K : PySem.W.Frag} {mg : Str → Option Value} {base : Heap}
theorem ok_are_integersA {f : Addr} {fd : FuncData} (F : Fun K "are_integers" "are_integers" s_are_integers f fd) (B : Blt mg) (G : K1 P w K mg base) : FnOk P w K mg base CX0 2 f fd ["things"] (spAreIntsA K) := by
  refine F.ok sc_are_integers (fun vs H Q E h => ?_) (fun cdv A outer s H vs Q E hr h => ?_)
  · obtain ⟨a, xs, ds, rfl, _⟩ := h
    rfl
  · obtain ⟨a, xs, ds, rfl, hS, hl, hn, hx, q⟩ := h
    refine ⟨_, (pss_one (ps_ret (pe_callB (cr_all rfl) (by rfl) B.all (by decide +kernel) (pa_cons (pe_lc (own := [("thing", 1)]) (g := gName 1) (tt := tYes) (by rfl) sc_are_integers.nd (pi_tup (pv 0)) (blkOk_by (own := [("thing", 1)]) (N := ["things", "thing"]) (sc := defScope s_are_integers) (by decide +kernel)) (fun _ _ _ _ _ => (pg_name (i := 1) sc_are_integers.nd rfl (Or.inl rfl))) (fun _ _ _ _ _ => pts_nil) (fun _ _ _ _ _ => (pe_cal G.is_integer (hr.mono (by decide)) pass0 (pa_cons (pv 1) pa_nil)))) pa_nil)))), ?_⟩
    refine ⟨_, rfl, a, rfl, ⟨_, hS⟩, fun D hD => lc_it (walk_tup (xs := xs)) (fun i H1 => H1 D = some (.lst (((ds.take i).map (·.isSome)).map V.bl)) ∧ Same H H1) ⟨upd_same, sameAt (Same.refl H) hD⟩ (fun i H1 _ hv => seqS hS hv.2) ?_ ?_⟩
    · rintro i x H1 H2 hi ⟨hD1, hs⟩ ⟨rfl, hxi⟩
      have hil : i < ds.length := by rw [← hl]; exact hi
      have hd : ds[i]? = some ds[i] := List.getElem?_eq_getElem hil
      have hI := (hx i x _ hxi hd).ev (Ev.same hs)
      have hsz : (((ds.take i).map (·.isSome)).map V.bl).length < sizeLine := by
        rw [List.length_map, List.length_map, List.length_take]
        exact small1000 (by omega)
      refine ⟨rfl, _, rfl, _, rfl, ?_⟩
      rw [list_take hd, List.map_append, List.map_append]
      generalize ds[i] = d at hI
      cases d with
      | none => exact .inr ⟨hI, _, hD1, hsz, upd_same, sameAt hs hD⟩
      | some n => exact .inl ⟨n, hI, _, hD1, hsz, upd_same, sameAt hs hD⟩
    · rintro H1 ⟨hD1, hs⟩
      rw [hl, List.take_length] at hD1
      refine ⟨D, _, rfl, SqL.of hD1, ?_⟩
      rw [List.all_map]
      exact q _ hs
structure KA2 (P : Program) (w : World) (K : PySem.W.Frag) (mg : Str → Option Value) (base : Heap) : Prop where
  are_integers : Cal P w K mg base CX0 "are_integers" 2 ["things"] (spAreIntsA K)
theorem ok_is_factA {f : Addr} {fd : FuncData} (F : Fun K "is_fact" "is_fact" s_is_fact f fd) (B : Blt mg) (G : KA2 P w K mg base) : FnOk P w K mg base CX0 3 f fd ["thing"] (spIsFactA K) := by
  refine F.ok sc_is_fact (fun vs H Q E h => ?_) (fun cdv A outer s H vs Q E hr h => ?_)
  · obtain ⟨v, o, rfl, _⟩ := h
    rfl
  · obtain ⟨v, o, rfl, hT, q⟩ := h
    refine ⟨_, (pss_cons (ps_if (PW.pt (pw_or (pt_not (pt_val (pe_callB call_isi (by rfl) B.isinstance (by decide +kernel) (pa_cons (pv 0) (pa_cons (pe_bltn (v := .ty "tuple") (by rfl) B.tuple (by decide +kernel) rfl) pa_nil))))) (pw_or (pt_cmpR op_ne (pe_callB call_len_seq (by rfl) B.len (by decide +kernel) (pa_cons (pv 0) pa_nil)) pe_int (nomark _)) (pw_or1 (pt_not (pt_val (pe_cal G.are_integers (hr.mono (by decide)) pass0 (pa_cons (pv 0) pa_nil))))))))
      (pss_one (ps_ret pe_bl))
      pss_nil)
    (pss_one (ps_ret (pe_and (pe_cmpR op_ge (pe_ix ix_tup (pv 0) pe_int (fun _ _ => rfl)) pe_int (nomark _)) (pe_one (pe_cmpR op_ge (pe_ix ix_tup (pv 0) pe_int (fun _ _ => rfl)) pe_int (nomark _))))))), ?_⟩
    have q0 := q H (Same.refl H)
    cases o with
    | none =>
      obtain ⟨t, ty, e⟩ := hT
      exact ⟨_, rfl, _, _, _, _, false, rfl, ClsV.ty _, ty, e, _, rfl, iteT (iteT q0)⟩
    | some ds =>
      obtain ⟨t, xs, rfl, ty, hS, hl, h1000, hx, hH⟩ := hT
      refine ⟨_, rfl, _, _, _, _, true, rfl, ClsV.ty _, ty, kit_ty (by decide +kernel), _, rfl, iteF ?_⟩
      refine ⟨_, rfl, t, _, rfl, .inr hS, rfl, _, rfl, ?_⟩
      refine ite2 (fun c => ?_) (fun c => ?_)
      rotate_left
      · have c3 : xs.length = 3 := by
          refine Classical.byContradiction fun z => c ?_
          show (!decide (V.int xs.length = V.int 3)) = true
          rw [decide_eq_false (fun y : V.int xs.length = V.int 3 => z (by injection y with y; omega))]
          rfl
        clear c
        obtain ⟨a, b, c, rfl⟩ : ∃ a b c, ds = [a, b, c] := by
          match ds, hl.symm.trans c3 with
          | [a, b, c], _ => exact ⟨a, b, c, rfl⟩
        obtain ⟨x, y, z, rfl⟩ : ∃ x y z, xs = [x, y, z] := by
          match xs, c3 with
          | [x, y, z], _ => exact ⟨x, y, z, rfl⟩
        refine ⟨_, rfl, t, _, _, rfl, hS, hl, h1000, hx, fun H1 s1 => ⟨_, rfl, ?_⟩⟩
        have hx0 := hx 0 x a rfl rfl
        have hx1 := hx 1 y b rfl rfl
        cases a with
        | none => exact iteT (q H1 s1)
        | some a =>
          cases b with
          | none => exact iteT (q H1 s1)
          | some b =>
            cases c with
            | none => exact iteT (q H1 s1)
            | some c =>
              obtain rfl : x = .int a := hx0
              obtain rfl : y = .int b := hx1
              have hS1 := seqS hS s1
              refine iteF ⟨_, rfl, _, _, _, _, rfl, rfl, hS1, rfl, _, _, rfl, rfl, _, rfl, ?_⟩
              have q1 : Q (.bl (decide (0 ≤ a) && decide (0 ≤ b))) H1 := q H1 s1
              by_cases ca : 0 ≤ a
              · rw [decide_eq_true (show a ≥ 0 from ca)]
                refine iteT ⟨_, rfl, _, _, _, _, rfl, rfl, hS1, rfl, _, _, rfl, rfl, ?_⟩
                rw [decide_eq_true ca, Bool.true_and] at q1
                exact q1
              · rw [decide_eq_false (show ¬ a ≥ 0 from ca)]
                rw [decide_eq_false ca, Bool.false_and] at q1
                exact iteF q1
      · have c3 : xs.length ≠ 3 := fun z => by
          have c : (!decide (V.int xs.length = V.int 3)) = true := c
          rw [z] at c
          exact absurd c (by decide)
        have e : isF0 (some ds) = false := by
          unfold isF0
          split
          · rename_i hh
            cases hh
            exact absurd hl (by intro z; exact c3 z)
          · rfl
        rw [e] at q0
        exact iteT q0
structure KA3 (P : Program) (w : World) (K : PySem.W.Frag) (mg : Str → Option Value) (base : Heap) : Prop where
  is_fact : Cal P w K mg base CX0 "is_fact" 3 ["thing"] (spIsFactA K)
theorem ok_checkX {f CE fE : Addr} {fd : FuncData} (F : Fun K "check_facts" "check_facts" s_check_facts f fd) (B : Blt mg) (TE : PySem.BadX.Txt P K mg "at" "at" CE fE) (c_BadFact : mg "BadFact" = some (.ref CE)) (G : KA3 P w K mg base) : FnOk P w K mg base (L2.CX P w) 4 f fd ["facts", "count"] (spCheckX K CE) := by
  refine F.okX sc_check_facts (fun vs H Q E h => ?_) (fun cdv A outer s H vs Q E hr h => ?_)
  · obtain ⟨f, us, qs, n, rfl, _⟩ := h
    rfl
  · obtain ⟨f, us, qs, n, rfl, hF, q, qe⟩ := h
    refine ⟨_, (pss_one (ps_for (passes_of rfl) rfl (pi_enum (by rfl) B.enumerate (pa_cons (pv 0) pa_nil)) (pg_tup (by rfl) (pgs_cons (pg_name (i := 2) sc_check_facts.nd rfl (Or.inl rfl)) (pgs_cons (pg_name (i := 3) sc_check_facts.nd rfl (Or.inl rfl)) pgs_nil)))
      (pss_one (ps_if (PW.pt (pw_or (pt_not (pt_val (pe_cal G.is_fact (hr.mono (by decide)) pass0 (pa_cons (pv 3) pa_nil)))) (pw_or1 (PW.pt (pw_and (pt_cmpR op_notN (pv 1) pe_non (nomark _)) (pw_and1 (pt_cmpR op_ge (pe_callB (call_max2 rfl) (by rfl) B.max (by decide +kernel) (pa_cons (pe_ix ix_tup (pv 3) pe_int (fun _ _ => rfl)) (pa_cons (pe_ix ix_tup (pv 3) pe_int (fun _ _ => rfl)) pa_nil))) (pv 1) (nomark _))))))))
        (pss_one (ps_raiseB rfl TE par_at c_BadFact (hr.mono (Nat.zero_le _)) (takes_of rfl rfl rfl rfl) (pa_cons (pv 2) pa_nil) (by rfl)))
        pss_nil)))), ?_⟩
    refine ⟨_, rfl, f, us, rfl, SqL.of hF.l, for_it walk_enum (fun i σ H1 => (∃ a b, σ = [some (.ref f), some (.int n), a, b]) ∧ Same H H1 ∧ ∀ j, j < i → qs[j]? ≠ some none) ⟨⟨_, _, rfl⟩, Same.refl H, fun _ h => absurd h (by omega)⟩ (fun i σ H1 _ hv => SqL.of (hv.2.1 _ _ hF.l)) ?_ ?_⟩
    · rintro i x σ H1 H2 hi ⟨⟨a, b, rfl⟩, s1, hno⟩ ⟨T, x1, x2, rfl, hT, rfl, e1, e2⟩
      cases e1
      have e2 : us[i]? = some x2 := e2
      have hq : qs[i]? = some (qs[i]'(by rw [← hF.len]; exact hi)) := List.getElem?_eq_getElem (by rw [← hF.len]; exact hi)
      have hA := hF.at_ i x2 _ e2 hq
      generalize qs[i]'(by rw [← hF.len]; exact hi) = qi at hq hA
      have s2 : Same H (upd H1 T (.tup [.int (i : Nat), x2])) := s1.trans (sameAt (Same.refl _) hT)
      have TT : (upd H1 T (.tup [.int (i : Nat), x2])) T = some (.tup [.int (i : Nat), x2]) := upd_same
      generalize upd H1 T (.tup [.int (i : Nat), x2]) = H2 at s2 TT ⊢
      have hA2 := hA.ev (Ev.same s2)
      obtain ⟨o, hTh, ho⟩ := hA2.th
      refine ⟨T, _, rfl, SqT.of TT, rfl, _, _, rfl, _, _, rfl, rfl, ?_⟩
      refine ⟨_, rfl, x2, o, rfl, hTh, fun H3 s3 => ⟨_, rfl, ?_⟩⟩
      have S3 := s2.trans s3
      have bad : qi = none → bx qs = some i := fun z => bx_at hno (by rw [hq, z])
      have rais : qi = none → ∀ d, H3 d = none → E (.ref CE) (some d) (upd H3 d (.xd [("at", .int (i : Nat))])) := fun z d hd => qe i d _ (bad z) (sameAt S3 (none_of S3 hd)) upd_same
      cases hi0 : isF0 o with
      | false =>
        have z : qi = none := by
          cases qi with
          | none => rfl
          | some t =>
            obtain ⟨a, b, c, rfl, h1, _, h2, _⟩ := isF_eq (show isF n o = true from ho)
            have : isF0 (some [some a, some b, some c]) = true := by
              show (decide (0 ≤ a) && decide (0 ≤ b)) = true
              rw [decide_eq_true h1, decide_eq_true h2]
              rfl
            rw [this] at hi0
            cases hi0
        exact iteT (iteT ⟨_, rfl, _, rfl, fun d hd => rais z d hd⟩)
      | true =>
        refine iteF ⟨_, rfl, rfl, _, rfl, iteT ?_⟩
        obtain ⟨a, b, c, rfl, h1, h2⟩ : ∃ a b c, o = some [some a, some b, some c] ∧ 0 ≤ a ∧ 0 ≤ b := by
          unfold isF0 at hi0
          split at hi0
          · rename_i a b c
            rw [Bool.and_eq_true, decide_eq_true_eq, decide_eq_true_eq] at hi0
            exact ⟨a, b, c, rfl, hi0.1, hi0.2⟩
          · cases hi0
        obtain ⟨t, xs, rfl, _, _, hl, _, hx, hH⟩ := hTh
        obtain ⟨x, y, z, rfl⟩ : ∃ x y z, xs = [x, y, z] := by
          match xs, hl with
          | [x, y, z], _ => exact ⟨x, y, z, rfl⟩
        obtain rfl : x = .int a := hx 0 x (some a) rfl rfl
        obtain rfl : y = .int b := hx 1 y (some b) rfl rfl
        have hH3 := s3 _ _ hH
        refine ⟨_, rfl, _, _, _, _, rfl, rfl, SqT.of hH3, rfl, _, rfl, _, _, _, _, rfl, rfl, SqT.of hH3, rfl, _, _, rfl, _, rfl, _, _, rfl, rfl, _, rfl, ?_⟩
        cases qi with
        | none =>
          have ho : ((decide (0 ≤ a) && decide (0 ≤ b)) && (decide (a < n) && decide (b < n))) = false := ho
          rw [decide_eq_true h1, decide_eq_true h2, Bool.true_and, Bool.true_and] at ho
          rw [decide_eq_true (show (if b > a then b else a) ≥ (n : Int) by
            refine Int.not_lt.mp fun z => ?_
            rw [decide_eq_true (show a < n by split at z <;> omega), decide_eq_true (show b < n by split at z <;> omega)] at ho
            cases ho)]
          exact iteT ⟨_, rfl, _, rfl, fun d hd => rais rfl d hd⟩
        | some t =>
          obtain ⟨a', b', c', e, _, k1, _, k2⟩ := isF_eq (show isF n _ = true from ho)
          cases e
          rw [decide_eq_false (show ¬ (if b > a then b else a) ≥ (n : Int) by split <;> omega)]
          refine iteF ⟨⟨_, _, rfl⟩, S3, fun j hj => ?_⟩
          by_cases c : j = i
          · rw [c, hq]
            exact fun z => nomatch z
          · exact hno j (by omega)
    · rintro σ H1 ⟨⟨a, b, rfl⟩, s1, hno⟩
      rw [hF.len] at hno
      exact q (bx_none hno).1 H1 s1
end
end Ash

set_option Elab.async false
set_option linter.all false
set_option maxRecDepth 100000
set_option maxHeartbeats 4000000
namespace Ash
open PySem PySem.Spec PyProof.Rows L2
open C8 (pss_cut)
theorem bx_all : ∀ {qs : List (Option T3)}, bx qs = none → ∃ ts : List T3, qs = ts.map some
  | [], _ => ⟨[], rfl⟩
  | none :: r, h => by cases h
  | some t :: r, h => by
    have h : (bx r).map (· + 1) = none := h
    obtain ⟨ts, e⟩ := bx_all (qs := r) (Option.map_eq_none_iff.mp h)
    exact ⟨t :: ts, by rw [e]; rfl⟩
section
variable {P : Program} {w : World} {K : PySem.W.Frag} {mg : Str → Option Value} {base : Heap}
structure KX (P : Program) (w : World) (K : PySem.W.Frag) (mg : Str → Option Value) (base : Heap) (CE : Addr) : Prop where
  check_facts : Cal P w K mg base (L2.CX P w) "check_facts" 4 ["facts", "count"] (spCheckX K CE)
  solved : Cal P w K mg base CX0 "solved" 2 ["count", "facts"] spSolved
theorem ok_ringX {f CE : Addr} {fd : FuncData} (F : Fun K "ring" "ring" s_ring f fd) (B : Blt mg) (G : KX P w K mg base CE) : FnOk P w K mg base (L2.CX P w) 5 f fd ["count", "facts"] (spRingX K CE) := by
  refine F.okX sc_ring (fun vs H Q E h => ?_) (fun cdv A outer s H vs Q E hr h => ?_)
  · obtain ⟨f, us, qs, n, rfl, _⟩ := h
    rfl
  · obtain ⟨f, us, qs, n, rfl, hF, hn, q1, q2, qe⟩ := h
    refine ⟨_, (pss_cons (ps_expr (pe_cal G.check_facts (hr.mono (by decide)) (passE (takes_of rfl rfl rfl rfl)) (pa_cons (pv 1) (pa_cons (pv 0) pa_nil))))
    (pss_cons (ps_asg (pe_cal G.solved (hr.mono (by decide)) pass0 (pa_cons (pv 0) (pa_cons (pv 1) pa_nil))) (pg_tup (by rfl) (pgs_cons (pg_name (i := 2) sc_ring.nd rfl (Or.inl rfl)) (pgs_cons (pg_name (i := 3) sc_ring.nd rfl (Or.inl rfl)) pgs_nil))))
    (pss_one (ps_ret (pv 3))))), ?_⟩
    refine ⟨_, rfl, _, rfl, f, us, qs, n, rfl, hF, fun hb H1 s1 => ?_, qe⟩
    obtain ⟨ts, rfl⟩ := bx_all hb
    obtain ⟨hF0, hG⟩ := hF.fs
    refine ⟨_, rfl, _, rfl, f, us, ts, n, rfl, hF0.same s1, hG, hn, fun r t p H2 hr h1 h2 s2 hp ht hp2 => ?_, fun v0 m t p H2 h1 h2 h3 s2 ht hp => ?_⟩
    · exact ⟨t, _, rfl, SqT.of ht, rfl, _, _, rfl, _, _, rfl, rfl, _, rfl, q1 ts _ _ rfl ⟨r, hr, h1, h2, rfl⟩ (s1.trans s2)⟩
    · refine ⟨t, _, rfl, SqT.of ht, rfl, _, _, rfl, _, _, rfl, rfl, _, rfl, q2 ts _ p _ rfl ⟨v0, m, h1, h2, h3, rfl⟩ (s1.trans s2) ?_⟩
      rw [hp, rngV_eq (IsRng.has hG h2)]
abbrev s_solution : Stmt := topS 8
theorem sc_solution : FnScope ["count", "facts", "values", "_"] ["count", "facts"] (defScope s_solution) := ⟨rfl, rfl, rfl, by decide +kernel, rfl, by decide +kernel, by decide +kernel⟩
theorem ok_solX {f CE : Addr} {fd : FuncData} (F : Fun K "solution" "solution" s_solution f fd) (B : Blt mg) (G : KX P w K mg base CE) : FnOk P w K mg base (L2.CX P w) 5 f fd ["count", "facts"] (spSolX K CE) := by
  refine F.okX sc_solution (fun vs H Q E h => ?_) (fun cdv A outer s H vs Q E hr h => ?_)
  · obtain ⟨f, us, qs, n, rfl, _⟩ := h
    rfl
  · obtain ⟨f, us, qs, n, rfl, hF, hn, q1, q2, qe⟩ := h
    refine ⟨_, (pss_cons (ps_expr (pe_cal G.check_facts (hr.mono (by decide)) (passE (takes_of rfl rfl rfl rfl)) (pa_cons (pv 1) (pa_cons (pv 0) pa_nil))))
    (pss_cons (ps_asg (pe_cal G.solved (hr.mono (by decide)) pass0 (pa_cons (pv 0) (pa_cons (pv 1) pa_nil))) (pg_tup (by rfl) (pgs_cons (pg_name (i := 2) sc_solution.nd rfl (Or.inl rfl)) (pgs_cons (pg_name (i := 3) sc_solution.nd rfl (Or.inl rfl)) pgs_nil))))
    (pss_one (ps_ret (pv 2))))), ?_⟩
    refine ⟨_, rfl, _, rfl, f, us, qs, n, rfl, hF, fun hb H1 s1 => ?_, qe⟩
    obtain ⟨ts, rfl⟩ := bx_all hb
    obtain ⟨hF0, hG⟩ := hF.fs
    refine ⟨_, rfl, _, rfl, f, us, ts, n, rfl, hF0.same s1, hG, hn, fun r t p H2 hr h1 h2 s2 hp ht hp2 => ?_, fun v0 m t p H2 h1 h2 h3 s2 ht hp => ?_⟩
    · exact ⟨t, _, rfl, SqT.of ht, rfl, _, _, rfl, _, _, rfl, rfl, _, rfl, q1 ts _ _ _ rfl ⟨r, hr, h1, h2, rfl⟩ (s1.trans s2) (none_of s1 hp) hp2⟩
    · exact ⟨t, _, rfl, SqT.of ht, rfl, _, _, rfl, _, _, rfl, rfl, _, rfl, q2 ts _ _ rfl ⟨v0, m, h1, h2, h3, rfl⟩ (s1.trans s2)⟩
end
end Ash

set_option Elab.async false
set_option linter.all false
set_option maxRecDepth 100000
set_option maxHeartbeats 4000000
namespace Ash
open PySem PySem.Spec PyProof.Rows L2
open C8 (pss_cut)
/-- the pool of drawn numbers at p, the script's copy at s -/
def PoolAt (H : Hp) (p s : Addr) : Prop := ∃ (ns : List Int) (i c k n a : Int), H p = some (.lst [.ref s, .int i, .int c, .int k, .int n, .int a]) ∧ H s = some (.lst (ns.map V.int)) ∧ 0 ≤ i ∧ s ≠ p
theorem PoolAt.same {H H' : Hp} {p s : Addr} (h : PoolAt H p s) (e : Same H H') : PoolAt H' p s := by
  obtain ⟨ns, i, c, k, n, a, h1, h2, h3, h4⟩ := h
  exact ⟨ns, i, c, k, n, a, e _ _ h1, e _ _ h2, h3, h4⟩
theorem PoolAt.off {H : Hp} {p s q : Addr} {o : HO} (h : PoolAt H p s) (hp : q ≠ p) (hs : q ≠ s) : PoolAt (L2.upd H q o) p s := by
  obtain ⟨ns, i, c, k, n, a, h1, h2, h3, h4⟩ := h
  exact ⟨ns, i, c, k, n, a, by rw [upd_ne hp.symm]; exact h1, by rw [upd_ne hs.symm]; exact h2, h3, h4⟩
/-- from H0 to H nothing that was tracked has changed but the pool -/
structure Pl (H0 H : Hp) (p s : Addr) : Prop where
  now : PoolAt H p s
  op : H0 p ≠ none
  os : H0 s ≠ none
  but : But p H0 H
  ev : Ev H0 H
section
variable {H0 H H1 : Hp} {p s q : Addr} {o : HO}
theorem PoolAt.ne (h : PoolAt H p s) : H p ≠ none ∧ H s ≠ none := by
  obtain ⟨ns, i, c, k, n, a, h1, h2, h3, h4⟩ := h
  rw [h1, h2]
  exact ⟨Option.some_ne_none _, Option.some_ne_none _⟩
theorem Pl.refl (h : PoolAt H p s) : Pl H H p s := ⟨h, h.ne.1, h.ne.2, But.refl p H, Ev.refl H⟩
theorem Pl.at (h : Pl H0 H p s) (hq0 : H0 q = none) (hq : H q = none) : Pl H0 (L2.upd H q o) p s :=
  ⟨h.now.off (fun z => h.op (z ▸ hq0)) (fun z => h.os (z ▸ hq0)), h.op, h.os, h.but.at hq0, h.ev.new hq⟩
theorem Pl.keep (h : Pl H0 H p s) {b : Addr} {u : HO} (e : H0 b = some u) (n : b ≠ p) : H b = some u := h.but b u e n
theorem Pl.free (h : Pl H0 H p s) (hq : H q = none) : H0 q = none := by
  cases e : H0 q with
  | none => rfl
  | some u =>
    by_cases hp : q = p
    · exact absurd (hp ▸ hq) h.now.ne.1
    · rw [h.but q u e hp] at hq
      cases hq
theorem Pl.trans (a : Pl H0 H p s) (b : Pl H H1 p s) : Pl H0 H1 p s := ⟨b.now, a.op, a.os, a.but.trans b.but, a.ev.trans b.ev⟩
/-- a new thing -/
theorem Pl.new (h : Pl H0 H p s) (hq : H q = none) : Pl H0 (L2.upd H q o) p s := h.at (h.free hq) hq
theorem Pl.same (h : Pl H0 H p s) (e : Same H H1) : Pl H0 H1 p s := ⟨h.now.same e, h.op, h.os, fun b u hb n => e b u (h.but b u hb n), h.ev.trans (Ev.same e)⟩
end
theorem Pl.lstAt {H H1 : Hp} {p s q : Addr} {xs ys : List V} (h : Pl H H1 p s) (h0 : H q = none) (hq : H1 q = some (.lst xs)) : Pl H (L2.upd H1 q (.lst ys)) p s :=
  ⟨h.now.off (fun z => h.op (z ▸ h0)) (fun z => h.os (z ▸ h0)), h.op, h.os, fun b o hb hn => by rw [upd_ne (ne_of_none hb h0)]; exact h.but b o hb hn, h.ev.updL hq⟩
def spPool (K : PySem.W.Frag) : Sp := fun vs H Q _ => ∃ (a : Addr) (ns : List Int), vs = [.ref a] ∧ SqL K H a (ns.map V.int) ∧ ∀ p s H', H p = none → PoolAt H' p s → Same H H' → Q (.ref p) H'
def spDraw : Sp := fun vs H Q _ => ∃ (p s : Addr) (many : Int), vs = [.ref p, .int many] ∧ PoolAt H p s ∧ 0 < many ∧ many < 2 ^ 200 ∧ ∀ (d : Int) H', 0 ≤ d → d < many → Pl H H' p s → Q (.int d) H'
section
variable {P : Program} {w : World} {K : PySem.W.Frag} {mg : Str → Option Value} {base : Heap}
abbrev s_l_state : Stmt := topS 16
theorem sc_l_state : FnScope ["script"] ["script"] (defScope s_l_state) := ⟨rfl, rfl, rfl, by decide +kernel, rfl, by decide +kernel, by decide +kernel⟩
theorem ok_state {f : Addr} {fd : FuncData} (F : Fun K "_law_state" "_law_state" s_l_state f fd) (B : Blt mg) : FnOk P w K mg base CX0 1 f fd ["script"] (spPool K) := by
  refine F.ok sc_l_state (fun vs H Q E h => ?_) (fun cdv A outer s H vs Q E hr h => ?_)
  · obtain ⟨a, ns, rfl, _⟩ := h
    rfl
  · obtain ⟨a, ns, rfl, hS, k⟩ := h
    refine ⟨_, (pss_one (ps_ret (pe_lst (pa_cons (pe_callTy call_list_of (by rfl) B.list (by decide +kernel) (pa_cons (pv 0) pa_nil)) (pa_cons pe_int (pa_cons pe_int (pa_cons pe_int (pa_cons pe_int (pa_cons pe_int pa_nil))))))))), ?_⟩
    refine ⟨_, rfl, _, _, rfl, .inl hS, fun l hl => ⟨(by show 6 ≤ sizeLine; decide), fun p hp => ?_⟩⟩
    have hpl : l ≠ p := fun z => by rw [z, upd_same] at hp; cases hp
    have hp0 : H p = none := by rw [upd_ne (Ne.symm hpl)] at hp; exact hp
    refine k p l _ hp0 ⟨ns, _, _, _, _, _, upd_same, (by rw [upd_ne hpl, upd_same]), (by decide), hpl⟩ ?_
    exact Same.new (Same.new (Same.refl H) hl) hp
abbrev s_l_draw : Stmt := topS 17
theorem sc_l_draw : FnScope ["state", "many", "digit", "cell", "number"] ["state", "many"] (defScope s_l_draw) := ⟨rfl, rfl, rfl, by decide +kernel, rfl, by decide +kernel, by decide +kernel⟩
theorem ok_draw {f : Addr} {fd : FuncData} (F : Fun K "_law_draw" "_law_draw" s_l_draw f fd) (B : Blt mg) : FnOk P w K mg base CX0 1 f fd ["state", "many"] spDraw := by
  refine F.ok sc_l_draw (fun vs H Q E h => ?_) (fun cdv A outer s H vs Q E hr h => ?_)
  · obtain ⟨p, _, many, rfl, _⟩ := h
    rfl
  · obtain ⟨p, s, many, rfl, hPP, hm, hm2, kk⟩ := h
    obtain ⟨ns, i, c, k, n, a, hp, hs, hi, hsp⟩ := id hPP
    have fin : ∀ (d : Int) (H1 : Hp) (i c k n a : Int), 0 ≤ d → d < many → H1 p = some (.lst [.ref s, .int i, .int c, .int k, .int n, .int a]) → H1 s = some (.lst (ns.map V.int)) → 0 ≤ i → But p H H1 → Ev H H1 → Q (.int d) H1 :=
      fun d H1 i c k n a h1 h2 h3 h4 h5 h6 h7 => kk d H1 h1 h2 ⟨⟨ns, i, c, k, n, a, h3, h4, h5, hsp⟩, hPP.ne.1, hPP.ne.2, h6, h7⟩
    refine ⟨_, (pss_cut (ps_if (PW.pt (pw_and (pt_cmpR op_gt (pe_ix ix_list (pv 0) pe_int (fun _ _ => rfl)) pe_int (nomark _)) (pw_and1 (pt_cmpR op_lt (pe_ix ix_list (pv 0) pe_int (fun _ _ => rfl)) pe_int (nomark _)))))
      (pss_cons (ps_set (i := 2) sc_l_draw.nd rfl (Or.inl rfl) (pe_op op_mod (pe_callTy call_intI (by rfl) B.int (by decide +kernel) (pa_cons (pe_ix ix_list (pv 0) pe_int (fun _ _ => rfl)) pa_nil)) (pv 1)))
      (pss_cons (ps_asg (pe_op op_fdivW (pe_ix ix_list (pv 0) pe_int (fun _ _ => rfl)) (pv 1)) (pg_sub (pv 0) pe_int set_list))
      (pss_cons (ps_asg (pe_op op_add (pe_ix ix_list (pv 0) pe_int (fun _ _ => rfl)) pe_int) (pg_sub (pv 0) pe_int set_list))
      (pss_one (ps_ret (pv 2))))))
      pss_nil)
    (pss_cons (ps_asg (pe_op op_add (pe_ix ix_list (pv 0) pe_int (fun _ _ => rfl)) pe_int) (pg_sub (pv 0) pe_int set_list))
    (pss_cut (ps_if (pt_cmpR op_lt (pe_ix ix_list (pv 0) pe_int (fun _ _ => rfl)) (pe_callB call_len_seq (by rfl) B.len (by decide +kernel) (pa_cons (pe_ix ix_list (pv 0) pe_int (fun _ _ => rfl)) pa_nil)) (nomark _))
      (pss_cons (ps_set (i := 3) sc_l_draw.nd rfl (Or.inl rfl) (pe_ix ix_list (pe_ix ix_list (pv 0) pe_int (fun _ _ => rfl)) (pe_ix ix_list (pv 0) pe_int (fun _ _ => rfl)) (fun _ _ => rfl)))
      (pss_cons (ps_asg (pe_op op_add (pe_ix ix_list (pv 0) pe_int (fun _ _ => rfl)) pe_int) (pg_sub (pv 0) pe_int set_list))
      (pss_cons (ps_asg (pe_op op_mod (pe_op op_add (pe_op op_mul (pe_ix ix_list (pv 0) pe_int (fun _ _ => rfl)) pe_int) (pe_callTy call_intI (by rfl) B.int (by decide +kernel) (pa_cons (pv 3) pa_nil))) (pe_op op_pow pe_int pe_int)) (pg_sub (pv 0) pe_int set_list))
      (pss_one (ps_if (pt_cmpR op_ge (pv 3) (pe_op op_pow pe_int pe_int) (nomark _))
        (pss_cons (ps_asg (pe_op op_fdivW (pv 3) (pv 1)) (pg_sub (pv 0) pe_int set_list))
        (pss_cons (ps_asg pe_int (pg_sub (pv 0) pe_int set_list))
        (pss_one (ps_ret (pe_op op_mod (pe_callTy call_intI (by rfl) B.int (by decide +kernel) (pa_cons (pv 3) pa_nil)) (pv 1))))))
        pss_nil)))))
      pss_nil)
    (pss_cons (ps_set (i := 4) sc_l_draw.nd rfl (Or.inl rfl) (pe_op op_mod (pe_op op_mul (pe_op op_add (pe_op op_add (pe_op op_mul (pe_callTy call_intI (by rfl) B.int (by decide +kernel) (pa_cons (pe_ix ix_list (pv 0) pe_int (fun _ _ => rfl)) pa_nil)) pe_int) (pe_op op_mul pe_int (pe_ix ix_list (pv 0) pe_int (fun _ _ => rfl)))) pe_int) pe_int) pe_int))
    (pss_cons (ps_set (i := 4) sc_l_draw.nd rfl (Or.inl rfl) (pe_op op_mod (pe_op op_mul (pv 4) (pe_op op_add (pe_op op_fdiv (pv 4) pe_int) pe_int)) pe_int))
    (pss_cons (ps_set (i := 4) sc_l_draw.nd rfl (Or.inl rfl) (pe_op op_mod (pe_op op_mul (pv 4) (pe_op op_add (pe_op op_fdiv (pv 4) pe_int) pe_int)) pe_int))
    (pss_one (ps_ret (pe_op op_mod (pv 4) (pv 1)))))))))), ?_⟩
    refine ⟨fun σ H1 => σ = [some (.ref p), some (.int many), none, none, none] ∧ H1 = H, ?_, ?_⟩
    · refine ⟨_, rfl, _, _, _, _, rfl, rfl, SqL.of hp, rfl, _, _, rfl, rfl, _, rfl, ?_⟩
      refine ite2 (fun c1 => ?_) (fun c1 => ⟨rfl, rfl⟩)
      refine ⟨_, rfl, _, _, _, _, rfl, rfl, SqL.of hp, rfl, _, _, rfl, rfl, _, rfl, ?_⟩
      refine ite2 (fun c2 => ?_) (fun c2 => ⟨rfl, rfl⟩)
      refine ⟨_, rfl, _, _, _, _, rfl, rfl, SqL.of hp, rfl, _, rfl, _, rfl, _, _, rfl, rfl, hm, ?_⟩
      refine ⟨_, rfl, _, _, _, _, rfl, rfl, SqL.of hp, rfl, _, rfl, _, _, rfl, rfl, wide_div (b := 200) hm (by omega) (by decide) (by decide), _, rfl, _, _, _, _, rfl, rfl, hp, rfl, ?_⟩
      refine ⟨_, rfl, _, _, _, _, rfl, rfl, SqL.of upd_same, rfl, _, _, rfl, rfl, _, rfl, _, _, _, _, rfl, rfl, upd_same, rfl, _, rfl, ?_⟩
      refine fin _ _ _ _ _ _ _ (Int.emod_nonneg _ (by omega)) (Int.emod_lt_of_pos _ hm) upd_same (by rw [upd_ne hsp, upd_ne hsp]; exact hs) hi (But.refl p H).upd.upd (((Ev.refl H).updL hp).updL upd_same)
    rintro σ H1 ⟨rfl, rfl⟩
    refine ⟨_, rfl, _, _, _, _, rfl, rfl, SqL.of hp, rfl, _, _, rfl, rfl, _, rfl, _, _, _, _, rfl, rfl, hp, rfl, ?_⟩
    refine ⟨fun σ H2 => (∃ cell, σ = [some (.ref p), some (.int many), none, cell, none]) ∧ ∃ (i c k n a : Int), H2 p = some (.lst [.ref s, .int i, .int c, .int k, .int n, .int a]) ∧ H2 s = some (.lst (ns.map V.int)) ∧ 0 ≤ i ∧ But p H1 H2 ∧ Ev H1 H2, ?_, ?_⟩
    · generalize eH : upd H1 p (.lst _) = H2
      have p1 : H2 p = some (.lst [.ref s, .int i, .int c, .int k, .int (n + 1), .int a]) := by rw [← eH]; exact upd_same
      have s1 : H2 s = some (.lst (ns.map V.int)) := by rw [← eH, upd_ne hsp]; exact hs
      have b1 : But p H1 H2 := by rw [← eH]; exact (But.refl p H1).upd
      have v1 : Ev H1 H2 := by rw [← eH]; exact (Ev.refl H1).updL hp
      clear eH
      refine ⟨_, rfl, _, _, _, _, rfl, rfl, SqL.of p1, rfl, _, rfl, _, _, _, _, rfl, rfl, SqL.of p1, rfl, _, _, rfl, .inl (SqL.of s1), _, _, rfl, rfl, _, rfl, ?_⟩
      refine ite2 (fun c3 => ?_) (fun c3 => ⟨⟨_, rfl⟩, _, _, _, _, _, p1, s1, hi, b1, v1⟩)
      have c3' : i < (ns.map V.int).length := of_decide_eq_true c3
      obtain ⟨j, rfl⟩ : ∃ j : Nat, i = (j : Int) := ⟨i.toNat, by omega⟩
      have hj : j < ns.length := by rw [List.length_map] at c3'; omega
      refine ⟨_, rfl, _, _, _, _, rfl, rfl, SqL.of p1, rfl, _, rfl, _, _, _, _, rfl, rfl, SqL.of p1, rfl, _, _, _, V.int ns[j], rfl, rfl, SqL.of s1, atI_nat (by rw [List.getElem?_map, List.getElem?_eq_getElem hj]; rfl), ?_⟩
      refine ⟨_, rfl, _, _, _, _, rfl, rfl, SqL.of p1, rfl, _, _, rfl, rfl, _, rfl, _, _, _, _, rfl, rfl, p1, rfl, ?_⟩
      refine ⟨_, rfl, _, _, _, _, rfl, rfl, SqL.of upd_same, rfl, _, _, rfl, rfl, .inr ⟨by decide, by decide⟩, _, rfl, _, rfl, _, _, rfl, rfl, _, _, rfl, rfl, ⟨by decide, by decide, by decide⟩, _, _, rfl, rfl, (by show (0 : Int) < 10 ^ 18; decide), _, rfl, _, _, _, _, rfl, rfl, upd_same, rfl, ?_⟩
      refine ⟨_, rfl, _, _, rfl, rfl, ⟨by decide, by decide, by decide⟩, _, _, rfl, rfl, _, rfl, ?_⟩
      refine ite2 (fun c4 => ?_) (fun c4 => ?_)
      · refine ⟨_, rfl, _, rfl, _, _, rfl, rfl, wide_div (b := 200) hm (by omega) (by decide) (by decide), _, rfl, _, _, _, _, rfl, rfl, upd_same, rfl, _, rfl, _, _, _, _, rfl, rfl, upd_same, rfl, _, rfl, _, rfl, _, rfl, _, _, rfl, rfl, hm, ?_⟩
        refine fin _ _ _ _ _ _ _ (Int.emod_nonneg _ (by omega)) (Int.emod_lt_of_pos _ hm) upd_same (by rw [upd_ne hsp, upd_ne hsp, upd_ne hsp, upd_ne hsp]; exact s1) (by omega) b1.upd.upd.upd.upd ((((v1.updL p1).updL upd_same).updL upd_same).updL upd_same)
      · exact ⟨⟨_, rfl⟩, _, _, _, _, _, upd_same, (by rw [upd_ne hsp, upd_ne hsp]; exact s1), (by omega), b1.upd.upd, (v1.updL p1).updL upd_same⟩
    · rintro σ H2 ⟨⟨cell, rfl⟩, i, c, k, n, a, hp2, hs2, hi2, hb2, he2⟩
      refine ⟨_, rfl, _, _, _, _, rfl, rfl, SqL.of hp2, rfl, _, rfl, _, _, rfl, rfl, .inr ⟨by decide, by decide⟩, _, rfl, _, _, _, _, rfl, rfl, SqL.of hp2, rfl, _, _, rfl, rfl, .inl ⟨by decide, by decide⟩, _, _, rfl, rfl, _, _, rfl, rfl, _, _, rfl, rfl, .inr ⟨by decide, by decide⟩, _, _, rfl, rfl, (by show (0 : Int) < 2147483647; decide), ?_⟩
      generalize ea : (a * 1000003 + 7919 * n + 1) * 48271 % 2147483647 = x
      have a0 : 0 ≤ x := by rw [← ea]; exact Int.emod_nonneg _ (by decide)
      have a1 : x < 2147483647 := by rw [← ea]; exact Int.emod_lt_of_pos _ (by decide)
      refine ⟨_, rfl, _, rfl, _, _, rfl, rfl, ⟨by decide, by decide⟩, _, _, rfl, rfl, _, _, rfl, rfl, .inl ⟨by omega, by omega⟩, _, _, rfl, rfl, (by show (0 : Int) < 2147483647; decide), ?_⟩
      generalize eb : x * (x / 1009 + 69621) % 2147483647 = y
      have b0 : 0 ≤ y := by rw [← eb]; exact Int.emod_nonneg _ (by decide)
      have b1 : y < 2147483647 := by rw [← eb]; exact Int.emod_lt_of_pos _ (by decide)
      refine ⟨_, rfl, _, rfl, _, _, rfl, rfl, ⟨by decide, by decide⟩, _, _, rfl, rfl, _, _, rfl, rfl, .inl ⟨by omega, by omega⟩, _, _, rfl, rfl, (by show (0 : Int) < 2147483399; decide), ?_⟩
      refine ⟨_, rfl, _, rfl, _, _, rfl, rfl, hm, ?_⟩
      exact fin _ _ _ _ _ _ _ (Int.emod_nonneg _ (by omega)) (Int.emod_lt_of_pos _ hm) hp2 hs2 hi2 hb2 he2
end
end Ash

set_option Elab.async false
set_option linter.all false
set_option maxRecDepth 100000
set_option maxHeartbeats 4000000
namespace Ash
open PySem PySem.Spec PyProof.Rows L2
open C8 (pss_cut)
def spNumber : Sp := fun vs H Q _ => ∃ (p s : Addr), vs = [.ref p] ∧ PoolAt H p s ∧ ∀ (n : Int) H', Pl H H' p s → Q (.int n) H'
def spDue (K : PySem.W.Frag) : Sp := fun vs H Q _ => ∃ (f : Addr) (us : List V) (ts : List T3) (v : V) (o : Option (List (Option Int))), vs = [.ref f, v] ∧ Fs H f us ts ∧ ThAt K H v o ∧ Q (.bl (BF.due ts o)) H
def spCircle : Sp := fun vs H Q _ => ∃ (p s : Addr) (count : Nat) (start many total : Int), vs = [.ref p, .int count, .int start, .int many, .int total] ∧ PoolAt H p s ∧ 1 ≤ count ∧ count ≤ 8 ∧ 0 ≤ start ∧ start < count ∧ 1 ≤ many ∧ many ≤ 5 ∧
  ∀ c us ts H', Pl H H' p s → H c = none → H' c = some (.lst us) → TrAt H' us ts → us.length = many.toNat → BF.Good count ts → Q (.ref c) H'
theorem TrAt.snoc {H : Hp} {us : List V} {ts : List T3} {t : T3} {e : Addr} (h : TrAt H us ts) (he : H e = some (.tup (tv t))) : TrAt H (us ++ [.ref e]) (ts ++ [t]) := by
  refine ⟨by simp [h.1], fun i v u a b => ?_⟩
  by_cases hi : i < us.length
  · rw [List.getElem?_append_left hi] at a
    rw [List.getElem?_append_left (by rw [← h.1]; exact hi)] at b
    exact h.2 i v u a b
  · rw [List.getElem?_append_right (by omega)] at a
    rw [List.getElem?_append_right (by rw [← h.1]; omega)] at b
    have : i - us.length = 0 := by
      rcases Nat.eq_zero_or_pos (i - us.length) with z | z
      · exact z
      · rw [List.getElem?_eq_none (by simp; omega)] at a
        cases a
    rw [this] at a
    rw [← h.1, this] at b
    cases a
    cases b
    exact ⟨e, rfl, he⟩
section
variable {P : Program} {w : World} {K : PySem.W.Frag} {mg : Str → Option Value} {base : Heap}
structure G1 (P : Program) (w : World) (K : PySem.W.Frag) (mg : Str → Option Value) (base : Heap) : Prop where
  law_draw : Cal P w K mg base CX0 "_law_draw" 1 ["state", "many"] spDraw
abbrev s_l_number : Stmt := topS 18
theorem sc_l_number : FnScope ["state", "kind"] ["state"] (defScope s_l_number) := ⟨rfl, rfl, rfl, by decide +kernel, rfl, by decide +kernel, by decide +kernel⟩
theorem ok_number {f : Addr} {fd : FuncData} (F : Fun K "_law_number" "_law_number" s_l_number f fd) (B : Blt mg) (G : G1 P w K mg base) : FnOk P w K mg base CX0 2 f fd ["state"] spNumber := by
  refine F.ok sc_l_number (fun vs H Q E h => ?_) (fun cdv A outer s H vs Q E hr h => ?_)
  · obtain ⟨p, s, rfl, _⟩ := h
    rfl
  · obtain ⟨p, s0, rfl, hP, q⟩ := h
    refine ⟨_, (pss_cons (ps_set (i := 1) sc_l_number.nd rfl (Or.inl rfl) (pe_cal G.law_draw (hr.mono (by decide)) pass0 (pa_cons (pv 0) (pa_cons pe_int pa_nil))))
    (pss_cons (ps_if (pt_cmpR op_lt (pv 1) pe_int (nomark _))
      (pss_one (ps_ret (pe_op op_sub (pe_cal G.law_draw (hr.mono (by decide)) pass0 (pa_cons (pv 0) (pa_cons pe_int pa_nil))) pe_int)))
      pss_nil)
    (pss_cons (ps_if (pt_cmpR op_eq (pv 1) pe_int (nomark _))
      (pss_one (ps_ret (pe_op op_sub (pe_cal G.law_draw (hr.mono (by decide)) pass0 (pa_cons (pv 0) (pa_cons pe_int pa_nil))) pe_int)))
      pss_nil)
    (pss_one (ps_ret (pe_op op_add (pe_op op_mul (pe_op op_sub (pe_cal G.law_draw (hr.mono (by decide)) pass0 (pa_cons (pv 0) (pa_cons (pe_op op_mul pe_int (pe_op op_pow pe_int pe_int)) pa_nil))) (pe_op op_pow pe_int pe_int)) (pe_op op_pow pe_int pe_int)) (pe_cal G.law_draw (hr.mono (by decide)) pass0 (pa_cons (pv 0) (pa_cons (pe_op op_pow pe_int pe_int) pa_nil))))))))), ?_⟩
    refine ⟨_, rfl, p, s0, 8, rfl, hP, (by decide), (by decide), fun x H1 x0 x6 P1 => ⟨_, rfl, _, _, rfl, rfl, _, rfl, ?_⟩⟩
    refine ite2 (fun c => ?_) (fun c => ?_)
    · exact ⟨_, rfl, p, s0, 9, rfl, P1.now, (by decide), (by decide), fun y H2 y0 y6 P2 => ⟨_, _, rfl, rfl, q _ H2 (P1.trans P2)⟩⟩
    · refine ⟨_, rfl, rfl, _, rfl, ?_⟩
      refine ite2 (fun c => ?_) (fun c => ?_)
      · exact ⟨_, rfl, p, s0, 201, rfl, P1.now, (by decide), (by decide), fun y H2 y0 y6 P2 => ⟨_, _, rfl, rfl, q _ H2 (P1.trans P2)⟩⟩
      · refine ⟨_, rfl, _, _, rfl, rfl, ⟨by decide, by decide, by decide⟩, _, _, rfl, rfl, .inl ⟨by decide, by decide⟩, p, s0, 2000000000, rfl, P1.now, (by decide), (by decide), fun y H2 y0 y6 P2 => ⟨_, _, rfl, rfl, ⟨by decide, by decide, by decide⟩, _, _, rfl, rfl, _, _, rfl, rfl, ⟨by decide, by decide, by decide⟩, _, _, rfl, rfl, .inl ?_, _, rfl, _, _, rfl, rfl, ⟨by decide, by decide, by decide⟩, p, s0, 1000000000, rfl, P2.now, (by decide), (by decide), fun z H3 z0 z6 P3 => ⟨_, _, rfl, rfl, q _ H3 ((P1.trans P2).trans P3)⟩⟩⟩
        show -(2 ^ 64) < y - 1000000000 ∧ y - 1000000000 < 2 ^ 64
        omega
abbrev s_l_is_integer : Stmt := topS 19
theorem sc_l_is_integer : FnScope ["thing"] ["thing"] (defScope s_l_is_integer) := ⟨rfl, rfl, rfl, by decide +kernel, rfl, by decide +kernel, by decide +kernel⟩
theorem ok_law_is_integer {f : Addr} {fd : FuncData} (F : Fun K "_law_is_integer" "_law_is_integer" s_l_is_integer f fd) (B : Blt mg) : FnOk P w K mg base CX0 1 f fd ["thing"] (spIsInt K) := by
  refine F.ok sc_l_is_integer (fun vs H Q E h => ?_) (fun cdv A outer s H vs Q E hr h => ?_)
  · obtain ⟨v, rfl, _⟩ := h
    rfl
  · obtain ⟨v, rfl, hv⟩ := h
    refine ⟨_, (pss_one (ps_ret (pe_and (pe_callB call_isi (by rfl) B.isinstance (by decide +kernel) (pa_cons (pv 0) (pa_cons (pe_bltn (v := .ty "int") (by rfl) B.int (by decide +kernel) rfl) pa_nil))) (pe_one (pe_not (pe_callB call_isi (by rfl) B.isinstance (by decide +kernel) (pa_cons (pv 0) (pa_cons (pe_bltn (v := .ty "bool") (by rfl) B.bool (by decide +kernel) rfl) pa_nil)))))))), ?_⟩
    rcases hv with ⟨n, rfl, q⟩ | ⟨⟨t, bi, bb, ty, e1, e2, e3⟩, q⟩
    · refine ⟨_, rfl, _, _, _, _, true, rfl, ClsV.ty _, .base (.int n), kit_ty (by decide +kernel), _, rfl, iteT ?_⟩
      refine ⟨_, rfl, _, _, _, _, false, rfl, ClsV.ty _, .base (.int n), kit_ty (by decide +kernel), _, rfl, q⟩
    · refine ⟨_, rfl, _, _, _, _, bi, rfl, ClsV.ty _, ty, e1, _, rfl, ?_⟩
      cases bi with
      | false => exact iteF q
      | true =>
        refine iteT ⟨_, rfl, _, _, _, _, bb, rfl, ClsV.ty _, ty, e2, _, rfl, ?_⟩
        have e3 : (!bb) = false := e3
        rw [e3]
        exact q
structure G2 (P : Program) (w : World) (K : PySem.W.Frag) (mg : Str → Option Value) (base : Heap) : Prop extends G1 P w K mg base where
  law_number : Cal P w K mg base CX0 "_law_number" 2 ["state"] spNumber
  law_is_integer : Cal P w K mg base CX0 "_law_is_integer" 1 ["thing"] (spIsInt K)
end
end Ash

set_option Elab.async false
set_option linter.all false
set_option maxRecDepth 100000
set_option maxHeartbeats 4000000
namespace Ash
open PySem PySem.Spec PyProof.Rows L2
open C8 (pss_cut)
/-! ### things that are none -/
theorem th_tup {K : PySem.W.Frag} {H : Hp} {a : Addr} {xs : List V} {ds : List (Option Int)} (h : H a = some (.tup xs)) (hl : xs.length = ds.length) (hn : xs.length ≤ 1000) (hx : ∀ (i : Nat) x d, xs[i]? = some x → ds[i]? = some d → ItAt K H x d) : ThAt K H (.ref a) (some ds) :=
  ⟨a, xs, rfl, .base (.tup h), SqT.of h, hl, hn, hx, h⟩
theorem ni_tup {K : PySem.W.Frag} {H : Hp} {v : V} (h : TyX K H v (.type "tuple")) : NotInt K H v := ⟨_, false, false, h, kit_ty (by decide +kernel), kit_ty (by decide +kernel), rfl⟩
theorem ni_lst {K : PySem.W.Frag} {H : Hp} {v : V} (h : TyX K H v (.type "list")) : NotInt K H v := ⟨_, false, false, h, kit_ty (by decide +kernel), kit_ty (by decide +kernel), rfl⟩
theorem ni_dct {K : PySem.W.Frag} {H : Hp} {v : V} (h : TyX K H v (.type "dict")) : NotInt K H v := ⟨_, false, false, h, kit_ty (by decide +kernel), kit_ty (by decide +kernel), rfl⟩
theorem ni_str {K : PySem.W.Frag} {H : Hp} {x : Str} : NotInt K H (.str x) := ⟨_, false, false, .base (.str x), kit_ty (by decide +kernel), kit_ty (by decide +kernel), rfl⟩
theorem ni_non {K : PySem.W.Frag} {H : Hp} : NotInt K H .non := ⟨_, false, false, .base .non, kit_ty (by decide +kernel), kit_ty (by decide +kernel), rfl⟩
theorem ni_bl {K : PySem.W.Frag} {H : Hp} {b : Bool} : NotInt K H (.bl b) := ⟨_, true, true, .base (.bl b), kit_ty (by decide +kernel), kit_ty (by decide +kernel), rfl⟩
theorem nt_lst {K : PySem.W.Frag} {H : Hp} {v : V} (h : TyX K H v (.type "list")) : ThAt K H v none := ⟨_, h, kit_ty (by decide +kernel)⟩
theorem nt_dct {K : PySem.W.Frag} {H : Hp} {v : V} (h : TyX K H v (.type "dict")) : ThAt K H v none := ⟨_, h, kit_ty (by decide +kernel)⟩
theorem nt_str {K : PySem.W.Frag} {H : Hp} {x : Str} : ThAt K H (.str x) none := ⟨_, .base (.str x), kit_ty (by decide +kernel)⟩
theorem nt_non {K : PySem.W.Frag} {H : Hp} : ThAt K H .non none := ⟨_, .base .non, kit_ty (by decide +kernel)⟩
theorem nt_bl {K : PySem.W.Frag} {H : Hp} {b : Bool} : ThAt K H (.bl b) none := ⟨_, .base (.bl b), kit_ty (by decide +kernel)⟩
theorem nt_int {K : PySem.W.Frag} {H : Hp} {b : Int} : ThAt K H (.int b) none := ⟨_, .base (.int b), kit_ty (by decide +kernel)⟩
theorem th_nil {K : PySem.W.Frag} {H : Hp} {a : Addr} (h : H a = some (.tup [])) : ThAt K H (.ref a) (some []) := th_tup h rfl (by decide) fun i x d h _ => by simp at h
/-- one item -/
theorem th_one {K : PySem.W.Frag} {H : Hp} {a : Addr} {x : V} (h : H a = some (.tup [x])) (hx : NotInt K H x) : ThAt K H (.ref a) (some [none]) := th_tup h rfl (by show 1 ≤ 1000; decide) fun i y d h1 h2 => by
  cases i with
  | zero => cases h1; cases h2; exact hx
  | succ i => simp at h1
theorem th_two {K : PySem.W.Frag} {H : Hp} {a : Addr} {x y : V} (h : H a = some (.tup [x, y])) (hx : NotInt K H x) (hy : NotInt K H y) : ThAt K H (.ref a) (some [none, none]) := th_tup h rfl (by show 2 ≤ 1000; decide) fun i z d h1 h2 => by
  rcases i with _ | _ | i
  · cases h1; cases h2; exact hx
  · cases h1; cases h2; exact hy
  · simp at h1
theorem th_four {K : PySem.W.Frag} {H : Hp} {a : Addr} {x y : V} {m n : Int} (h : H a = some (.tup [x, .int m, .int n, y])) (hx : NotInt K H x) (hy : NotInt K H y) : ThAt K H (.ref a) (some [none, some m, some n, none]) := th_tup h rfl (by show 4 ≤ 1000; decide) fun i z d h1 h2 => by
  rcases i with _ | _ | _ | _ | i
  · cases h1; cases h2; exact hx
  · cases h1; cases h2; rfl
  · cases h1; cases h2; rfl
  · cases h1; cases h2; exact hy
  · simp at h1
theorem th_ints {K : PySem.W.Frag} {H : Hp} {a : Addr} {ns : List Int} (h : H a = some (.tup (ns.map V.int))) (hn : ns.length ≤ 1000) : ThAt K H (.ref a) (some (ns.map some)) := th_tup h (by rw [List.length_map, List.length_map]) (by rw [List.length_map]; exact hn) fun i y d h1 h2 => by
  rw [List.getElem?_map] at h1 h2
  cases e : ns[i]? with
  | none => rw [e] at h1; cases h1
  | some n => rw [e] at h1 h2; cases h1; cases h2; rfl
def spDeep (K : PySem.W.Frag) : Sp := fun vs H Q _ => vs = [] ∧ ∀ v ds H', Same H H' → ThAt K H' v (some ds) → Q v H'
def spStrange (K : PySem.W.Frag) : Sp := fun vs H Q _ => ∃ (p s : Addr), vs = [.ref p] ∧ PoolAt H p s ∧ ∀ v o H', Pl H H' p s → ThAt K H' v o → Q v H'
/-- a deep thing -/
def Dpp (K : PySem.W.Frag) (H : Hp) (v : V) : Prop := (∃ a xs, v = .ref a ∧ H a = some (.lst xs)) ∨ (∃ a, v = .ref a ∧ H a = some (.tup [])) ∨ (∃ a x, v = .ref a ∧ H a = some (.tup [x]) ∧ NotInt K H x) ∨ (∃ a kvs, v = .ref a ∧ H a = some (.dK kvs))
theorem Dpp.ni {K : PySem.W.Frag} {H : Hp} {v : V} (h : Dpp K H v) : NotInt K H v := by
  rcases h with ⟨a, xs, rfl, h⟩ | ⟨a, rfl, h⟩ | ⟨a, x, rfl, h, _⟩ | ⟨a, kvs, rfl, h⟩
  · exact ni_lst (.base (.lst h))
  · exact ni_tup (.base (.tup h))
  · exact ni_tup (.base (.tup h))
  · exact ni_dct (.base (.dK h))
theorem Dpp.th {K : PySem.W.Frag} {H : Hp} {v : V} (h : Dpp K H v) : ∃ o, ThAt K H v o := by
  rcases h with ⟨a, xs, rfl, h⟩ | ⟨a, rfl, h⟩ | ⟨a, x, rfl, h, hx⟩ | ⟨a, kvs, rfl, h⟩
  · exact ⟨_, nt_lst (.base (.lst h))⟩
  · exact ⟨_, th_nil h⟩
  · exact ⟨_, th_one h hx⟩
  · exact ⟨_, nt_dct (.base (.dK h))⟩
theorem Dpp.ev {K : PySem.W.Frag} {H H' : Hp} {v : V} (h : Dpp K H v) (s : Ev H H') : Dpp K H' v := by
  rcases h with ⟨a, xs, rfl, h⟩ | ⟨a, rfl, h⟩ | ⟨a, x, rfl, h, hx⟩ | ⟨a, kvs, rfl, h⟩
  · rcases s _ _ h with h1 | ⟨_, ys, _, h1⟩
    · exact .inl ⟨a, xs, rfl, h1⟩
    · exact .inl ⟨a, ys, rfl, h1⟩
  · exact .inr (.inl ⟨a, rfl, s.tup h⟩)
  · exact .inr (.inr (.inl ⟨a, x, rfl, s.tup h, hx.ev s⟩))
  · rcases s _ _ h with h1 | ⟨_, _, z, _⟩
    · exact .inr (.inr (.inr ⟨a, kvs, rfl, h1⟩))
    · cases z
end Ash

set_option Elab.async false
set_option linter.all false
set_option maxRecDepth 100000
set_option maxHeartbeats 4000000
namespace Ash
open PySem PySem.Spec PyProof.Rows L2
open C8 (pss_cut)
section
variable {P : Program} {w : World} {K : PySem.W.Frag} {mg : Str → Option Value} {base : Heap}
abbrev s_l_strange : Stmt := topS 20
theorem sc_l_strange : FnScope ["state", "deep", "k", "things"] ["state"] (defScope s_l_strange) := ⟨rfl, rfl, rfl, by decide +kernel, rfl, by decide +kernel, by decide +kernel⟩
theorem ok_strange {f : Addr} {fd : FuncData} (F : Fun K "_law_strange" "_law_strange" s_l_strange f fd) (B : Blt mg) (G : G1 P w K mg base) : FnOk P w K mg base CX0 2 f fd ["state"] (spStrange K) := by
  refine F.ok sc_l_strange (fun vs H Q E h => ?_) (fun cdv A outer s H vs Q E hr h => ?_)
  · obtain ⟨p, s, rfl, _⟩ := h
    rfl
  · obtain ⟨p, s0, rfl, hP, q⟩ := h
    refine ⟨_, (pss_cons (ps_set (i := 1) sc_l_strange.nd rfl (Or.inl rfl) (pe_ix ix_list (pe_lst (pa_cons (pe_lst pa_nil) (pa_cons (pe_tup pa_nil) (pa_cons pe_dnewK pa_nil)))) (pe_cal G.law_draw (hr.mono (by decide)) pass0 (pa_cons (pv 0) (pa_cons pe_int pa_nil))) (fun _ _ => rfl)))
    (pss_cons (ps_for PassesOwn.never rfl (pi_range1 (by rfl) B.range (pa_cons pe_int pa_nil)) (pg_name (i := 2) sc_l_strange.nd rfl (Or.inl rfl))
      (pss_one (ps_if (pt_val (pe_callB call_isi (by rfl) B.isinstance (by decide +kernel) (pa_cons (pv 1) (pa_cons (pe_bltn (v := .ty "list") (by rfl) B.list (by decide +kernel) rfl) pa_nil))))
        (pss_one (ps_set (i := 1) sc_l_strange.nd rfl (Or.inl rfl) (pe_lst (pa_cons (pv 1) pa_nil))))
        (pss_one (ps_if (pt_val (pe_callB call_isi (by rfl) B.isinstance (by decide +kernel) (pa_cons (pv 1) (pa_cons (pe_bltn (v := .ty "tuple") (by rfl) B.tuple (by decide +kernel) rfl) pa_nil))))
          (pss_one (ps_set (i := 1) sc_l_strange.nd rfl (Or.inl rfl) (pe_tup (pa_cons (pv 1) pa_nil))))
          (pss_one (ps_set (i := 1) sc_l_strange.nd rfl (Or.inl rfl) (pe_disp (pps_cons pe_str (pv 1) pps_nil) (by rfl) (by rfl) (fun z => by cases z) (by decide)))))))))
    (pss_cons (ps_set (i := 3) sc_l_strange.nd rfl (Or.inl rfl) (pe_lst (pa_cons pe_non (pa_cons pe_bl (pa_cons pe_bl (pa_cons pe_str (pa_cons pe_str (pa_cons pe_str (pa_cons pe_str (pa_cons (pe_tup pa_nil) (pa_cons (pe_tup (pa_cons pe_int (pa_cons pe_int pa_nil))) (pa_cons (pe_tup (pa_cons pe_int (pa_cons pe_int (pa_cons pe_int pa_nil)))) (pa_cons (pe_lst (pa_cons pe_int (pa_cons pe_int pa_nil))) (pa_cons pe_dnewK (pa_cons (pe_disp (pps_cons pe_str (pe_lst (pa_cons pe_int pa_nil)) pps_nil) (by rfl) (by rfl) (fun z => by cases z) (by decide)) (pa_cons (pv 1) pa_nil))))))))))))))))
    (pss_one (ps_ret (pe_ix ix_list (pv 3) (pe_cal G.law_draw (hr.mono (by decide)) pass0 (pa_cons (pv 0) (pa_cons (pe_callB call_len_seq (by rfl) B.len (by decide +kernel) (pa_cons (pv 3) pa_nil)) pa_nil))) (fun _ _ => rfl))))))), ?_⟩
    refine ⟨(by show 0 ≤ sizeLine; decide), fun a1 h1 => ⟨(by show 0 ≤ sizeLine; decide), fun a2 h2 => fun a3 h3 => ⟨(by show 3 ≤ sizeLine; decide), fun l hl => ?_⟩⟩⟩
    have S1 := sameAt (Same.refl _) h1 (o := .lst [])
    have S2 := sameAt (Same.refl _) h2 (o := .tup [])
    have S3 := sameAt (Same.refl _) h3 (o := .dK [])
    have S4 := sameAt (Same.refl _) hl (o := .lst [.ref a1, .ref a2, .ref a3])
    have e1 := ((S2.trans S3).trans S4) _ _ (upd_same (a := a1))
    have e2 := (S3.trans S4) _ _ (upd_same (a := a2))
    have e3 := S4 _ _ (upd_same (a := a3))
    have S := ((S1.trans S2).trans S3).trans S4
    have hl0 : H l = none := none_of ((S1.trans S2).trans S3) hl
    have hlp : l ≠ p := fun z => hP.ne.1 (z ▸ hl0)
    have P0 : Pl H _ p s0 := (Pl.refl hP).same S
    refine ⟨_, rfl, p, s0, 3, rfl, hP.same S, (by decide), (by decide), fun g H1 g0 g3 P1 => ?_⟩
    obtain ⟨j, rfl⟩ : ∃ j : Nat, g = (j : Int) := ⟨g.toNat, by omega⟩
    have it : ∃ v, ([V.ref a1, .ref a2, .ref a3] : List V)[j]? = some v ∧ Dpp K H1 v := by
      rcases j with _ | _ | _ | j
      · exact ⟨_, rfl, Dpp.ev (.inl ⟨_, _, rfl, e1⟩) P1.ev⟩
      · exact ⟨_, rfl, Dpp.ev (.inr (.inl ⟨_, rfl, e2⟩)) P1.ev⟩
      · exact ⟨_, rfl, Dpp.ev (.inr (.inr (.inr ⟨_, _, rfl, e3⟩))) P1.ev⟩
      · omega
    obtain ⟨v, hv, hD⟩ := it
    refine ⟨l, _, _, v, rfl, rfl, SqL.of (P1.keep upd_same hlp), atI_nat hv, ?_⟩
    have P01 := P0.trans P1
    refine ⟨_, rfl, (by decide), (by decide), for_range (n := 15) (fun i σ H2 => (∃ v k, σ = [some (.ref p), some v, k, none] ∧ Dpp K H2 v) ∧ Pl H H2 p s0) ?_ ?_ ?_⟩
    · exact ⟨⟨v, _, rfl, hD⟩, P01⟩
    · rintro i σ H2 hi ⟨⟨v, k, rfl, hD⟩, P2⟩
      have step : ∀ (a : Addr) (o : HO), H2 a = none → Dpp K (upd H2 a o) (.ref a) → (∃ v' k', [some (V.ref p), some (.ref a), some (V.int ((0 : Int) + (i : Int))), none] = [some (.ref p), some v', k', none] ∧ Dpp K (upd H2 a o) v') ∧ Pl H (upd H2 a o) p s0 :=
        fun a o ha hd => ⟨⟨_, _, rfl, hd⟩, P2.new ha⟩
      have ni := hD.ni
      have mkl : ∀ t, TyX K H2 v t → True := fun _ _ => trivial
      rcases hD with ⟨a, xs, rfl, h⟩ | hD
      · exact ⟨_, rfl, _, _, _, _, true, rfl, ClsV.ty _, .base (.lst h), kit_ty (by decide +kernel), _, rfl, iteT ⟨_, rfl, (by show 1 ≤ sizeLine; decide), fun b hb => step b _ hb (.inl ⟨_, _, rfl, upd_same⟩)⟩⟩
      · have tup : ∀ {a xs}, v = .ref a → H2 a = some (.tup xs) → (TyX K H2 v (.type "tuple")) := fun e h => by rw [e]; exact .base (.tup h)
        rcases hD with ⟨a, rfl, h⟩ | ⟨a, x, rfl, h, hx⟩ | ⟨a, kvs, rfl, h⟩
        · exact ⟨_, rfl, _, _, _, _, false, rfl, ClsV.ty _, .base (.tup h), kit_ty (by decide +kernel), _, rfl, iteF ⟨_, rfl, _, _, _, _, true, rfl, ClsV.ty _, .base (.tup h), kit_ty (by decide +kernel), _, rfl, iteT ⟨_, rfl, (by show 1 ≤ sizeLine; decide), fun b hb => step b _ hb (.inr (.inr (.inl ⟨_, _, rfl, upd_same, ni.ev ((Ev.refl _).new hb)⟩)))⟩⟩⟩
        · exact ⟨_, rfl, _, _, _, _, false, rfl, ClsV.ty _, .base (.tup h), kit_ty (by decide +kernel), _, rfl, iteF ⟨_, rfl, _, _, _, _, true, rfl, ClsV.ty _, .base (.tup h), kit_ty (by decide +kernel), _, rfl, iteT ⟨_, rfl, (by show 1 ≤ sizeLine; decide), fun b hb => step b _ hb (.inr (.inr (.inl ⟨_, _, rfl, upd_same, ni.ev ((Ev.refl _).new hb)⟩)))⟩⟩⟩
        · refine ⟨_, rfl, _, _, _, _, false, rfl, ClsV.ty _, .base (.dK h), kit_ty (by decide +kernel), _, rfl, iteF ⟨_, rfl, _, _, _, _, false, rfl, ClsV.ty _, .base (.dK h), kit_ty (by decide +kernel), _, rfl, iteF fun d hd => ⟨_, rfl, upd_same, [(Sum.inr "a", .ref a)], rfl, (by show 1 ≤ 15; decide), ?_⟩⟩⟩
          rw [upd_upd]
          exact step d _ hd (.inr (.inr (.inr ⟨_, _, rfl, upd_same⟩)))
    · rintro σ H2 ⟨⟨v, k, rfl, hD⟩, P2⟩
      refine ⟨(by show 0 ≤ sizeLine; decide), fun t1 h1 => ⟨(by show 2 ≤ sizeLine; decide), fun t2 h2 => ⟨(by show 3 ≤ sizeLine; decide), fun t3 h3 => ⟨(by show 2 ≤ sizeLine; decide), fun l4 h4 => fun d5 h5 => fun d6 h6 => ⟨(by show 1 ≤ sizeLine; decide), fun l7 h7 => ⟨sameAt (Same.refl _) h7 _ _ upd_same, [(Sum.inr "a", .ref l7)], rfl, (by show 1 ≤ 15; decide), _, rfl, (by show 14 ≤ sizeLine; decide), fun th hth => ?_⟩⟩⟩⟩⟩⟩
      have A1 := sameAt (Same.refl H2) h1 (o := .tup [])
      have A2 := sameAt (Same.refl _) h2 (o := .tup [.int 0, .int 0])
      have A3 := sameAt (Same.refl _) h3 (o := .tup [.int 1, .int 2, .int 3])
      have A4 := sameAt (Same.refl _) h4 (o := .lst [.int 0, .int 1])
      have A5 := sameAt (Same.refl _) h5 (o := .dK [])
      have A6 := sameAt (sameAt (sameAt (Same.refl _) h6 (o := .dK [])) (none_of (sameAt (Same.refl _) h6) h7) (o := .lst [.int 0])) h6 (o := .dK (mergeK [] [(Sum.inr "a", .ref l7)]))
      have A7 := sameAt (Same.refl _) hth (o := .lst [.non, .bl true, .bl false, .str "", .str "a", .str "now", .str "last a at now", .ref t1, .ref t2, .ref t3, .ref l4, .ref d5, .ref d6, v])
      have e1 := (((((A2.trans A3).trans A4).trans A5).trans A6).trans A7) _ _ (upd_same (a := t1))
      have e2 := ((((A3.trans A4).trans A5).trans A6).trans A7) _ _ (upd_same (a := t2))
      have e3 := (((A4.trans A5).trans A6).trans A7) _ _ (upd_same (a := t3))
      have e4 := ((A5.trans A6).trans A7) _ _ (upd_same (a := l4))
      have e5 := (A6.trans A7) _ _ (upd_same (a := d5))
      have e6 := A7 _ _ (upd_same (a := d6))
      have A := (((((A1.trans A2).trans A3).trans A4).trans A5).trans A6).trans A7
      have AB := (((((A1.trans A2).trans A3).trans A4).trans A5).trans A6)
      have hthp : th ≠ p := fun z => P2.now.ne.1 (z ▸ none_of AB hth)
      have P3 := P2.same A
      have hD3 := hD.ev (Ev.same A)
      refine ⟨_, rfl, _, rfl, _, rfl, th, _, rfl, .inl (SqL.of upd_same), p, s0, _, rfl, P3.now, (by show (0 : Int) < 14; decide), (by show (14 : Int) < 2 ^ 200; decide), fun g H4 g0 g1 P4 => ?_⟩
      obtain ⟨j, rfl⟩ : ∃ j : Nat, g = (j : Int) := ⟨g.toNat, by omega⟩
      have g1 : (j : Int) < 14 := g1
      have it : ∃ v', ([.non, .bl true, .bl false, .str "", .str "a", .str "now", .str "last a at now", .ref t1, .ref t2, .ref t3, .ref l4, .ref d5, .ref d6, v] : List V)[j]? = some v' ∧ ∃ o, ThAt K H4 v' o := by
        rcases j with _ | _ | _ | _ | _ | _ | _ | _ | _ | _ | _ | _ | _ | _ | j
        · exact ⟨_, rfl, _, nt_non⟩
        · exact ⟨_, rfl, _, nt_bl⟩
        · exact ⟨_, rfl, _, nt_bl⟩
        · exact ⟨_, rfl, _, nt_str⟩
        · exact ⟨_, rfl, _, nt_str⟩
        · exact ⟨_, rfl, _, nt_str⟩
        · exact ⟨_, rfl, _, nt_str⟩
        · exact ⟨_, rfl, _, (th_nil e1).ev P4.ev⟩
        · exact ⟨_, rfl, _, (th_ints (ns := [0, 0]) e2 (by decide)).ev P4.ev⟩
        · exact ⟨_, rfl, _, (th_ints (ns := [1, 2, 3]) e3 (by decide)).ev P4.ev⟩
        · exact ⟨_, rfl, _, ThAt.ev (nt_lst (.base (.lst e4))) P4.ev⟩
        · exact ⟨_, rfl, _, ThAt.ev (nt_dct (.base (.dK e5))) P4.ev⟩
        · exact ⟨_, rfl, _, ThAt.ev (nt_dct (.base (.dK e6))) P4.ev⟩
        · exact ⟨_, rfl, (hD3.ev P4.ev).th⟩
        · omega
      obtain ⟨v', hv', o, hT⟩ := it
      exact ⟨th, _, _, v', rfl, rfl, SqL.of (P4.keep upd_same hthp), atI_nat hv', q v' o H4 (P3.trans P4) hT⟩
end
end Ash

set_option Elab.async false
set_option linter.all false
set_option maxRecDepth 100000
set_option maxHeartbeats 4000000
namespace Ash
open PySem PySem.Spec PyProof.Rows L2
open C8 (pss_cut)
theorem TrAt.app {H : Hp} {us vs : List V} {ts ws : List T3} (h : TrAt H us ts) (k : TrAt H vs ws) : TrAt H (us ++ vs) (ts ++ ws) := by
  refine ⟨by rw [List.length_append, List.length_append, h.1, k.1], fun i v t a b => ?_⟩
  by_cases hi : i < us.length
  · rw [List.getElem?_append_left hi] at a
    rw [List.getElem?_append_left (by rw [← h.1]; exact hi)] at b
    exact h.2 i v t a b
  · rw [List.getElem?_append_right (by omega)] at a
    rw [List.getElem?_append_right (by rw [← h.1]; omega), ← h.1] at b
    exact k.2 _ v t a b
theorem TrAt.tak {H : Hp} {us : List V} {ts : List T3} (h : TrAt H us ts) (k : Nat) : TrAt H (us.take k) (ts.take k) := by
  refine ⟨by rw [List.length_take, List.length_take, h.1], fun i v t a b => ?_⟩
  rw [List.getElem?_take] at a b
  by_cases c : i < k
  · rw [if_pos c] at a b
    exact h.2 i v t a b
  · rw [if_neg c] at a
    cases a
theorem TrAt.drp {H : Hp} {us : List V} {ts : List T3} (h : TrAt H us ts) (k : Nat) : TrAt H (us.drop k) (ts.drop k) := by
  refine ⟨by rw [List.length_drop, List.length_drop, h.1], fun i v t a b => ?_⟩
  rw [List.getElem?_drop] at a b
  exact h.2 _ v t a b
theorem TrAt.one {H : Hp} {e : Addr} {t : T3} (h : H e = some (.tup (tv t))) : TrAt H [.ref e] [t] := TrAt.snoc (us := []) (ts := []) ⟨rfl, fun i v t a b => by simp at a⟩ h
theorem mem_ins {k : Nat} {ts : List T3} {t u : T3} : u ∈ ts.take k ++ [t] ++ ts.drop k ↔ u ∈ ts ∨ u = t := by
  constructor
  · intro h
    rcases List.mem_append.mp h with q | q
    · rcases List.mem_append.mp q with q | q
      · exact .inl (List.mem_of_mem_take q)
      · exact .inr (List.mem_singleton.mp q)
    · exact .inl (List.mem_of_mem_drop q)
  · rintro (h | rfl)
    · rw [← List.take_append_drop k ts] at h
      rcases List.mem_append.mp h with q | q
      · exact List.mem_append.mpr (.inl (List.mem_append.mpr (.inl q)))
      · exact List.mem_append.mpr (.inr q)
    · exact List.mem_append.mpr (.inl (List.mem_append.mpr (.inr List.mem_cons_self)))
def sumI : List Int → Int
  | [] => 0
  | x :: r => x + sumI r
theorem sumI_snoc : ∀ (a : List Int) (x : Int), sumI (a ++ [x]) = sumI a + x
  | [], x => by show x + 0 = 0 + x; omega
  | y :: r, x => by
    show y + sumI (r ++ [x]) = y + sumI r + x
    rw [sumI_snoc r x]
    omega
/-- a closed way with the sum -1 lies in the list -/
def LoopIn (ts : List T3) : Prop := ∃ (ws nm : List Int), ws ≠ [] ∧ nm.length = ws.length ∧ sumI nm = -1 ∧ ∀ k, k < ws.length → (ws.getD k 0, ws.getD ((k + 1) % ws.length) 0, nm.getD k 0) ∈ ts
theorem sumI_take {l : List Int} : ∀ k, k < l.length → sumI (l.take (k + 1)) = sumI (l.take k) + l.getD k 0 := fun k hk => by
  have e : l[k]? = some l[k] := List.getElem?_eq_getElem hk
  rw [List.take_add_one, e, List.getD_eq_getElem?_getD, e]
  exact sumI_snoc _ _
theorem loop_no {ts : List T3} {vl : List Int} (h : LoopIn ts) (k : ∀ t ∈ ts, BF.at_ vl (BF.lo t) ≤ BF.at_ vl (BF.hi t) + t.2.2) : False := by
  obtain ⟨ws, nm, h0, h1, h2, h3⟩ := h
  have pos : 0 < ws.length := List.length_pos_iff.mpr h0
  have step : ∀ j, j < ws.length → BF.at_ vl (ws.getD j 0).toNat ≤ BF.at_ vl (ws.getD ((j + 1) % ws.length) 0).toNat + nm.getD j 0 := fun j hj => k _ (h3 j hj)
  have part : ∀ j, j < ws.length → BF.at_ vl (ws.getD 0 0).toNat ≤ BF.at_ vl (ws.getD j 0).toNat + sumI (nm.take j) := by
    intro j
    induction j with
    | zero => intro _; show _ ≤ _ + (0 : Int); omega
    | succ j ih =>
      intro hj
      have a := ih (by omega)
      have b := step j (by omega)
      rw [Nat.mod_eq_of_lt hj] at b
      rw [sumI_take j (by omega)]
      omega
  have a := part (ws.length - 1) (by omega)
  have b := step (ws.length - 1) (by omega)
  rw [show ws.length - 1 + 1 = ws.length by omega, Nat.mod_self] at b
  have c := sumI_take (l := nm) (ws.length - 1) (by omega)
  rw [show ws.length - 1 + 1 = nm.length by omega, List.take_length, h2] at c
  omega
def spSize : Sp := fun vs H Q _ => ∃ (p s : Addr), vs = [.ref p] ∧ PoolAt H p s ∧ ∀ (n : Int) H', 0 ≤ n → n ≤ 80 → Pl H H' p s → Q (.int n) H'
/-- a new list of facts -/
def NewF (H : Hp) (p s : Addr) (n m : Nat) (R : List T3 → Prop) (Q : VK) : Prop := ∀ q us ts H', Pl H H' p s → H q = none → H' q = some (.lst us) → TrAt H' us ts → us.length ≤ m → BF.Good n ts → R ts → Q (.ref q) H'
def Kept (ts : List T3) : Prop := ∃ vl : List Int, ∀ t ∈ ts, BF.at_ vl (BF.lo t) ≤ BF.at_ vl (BF.hi t) + t.2.2
def spMake (R : List T3 → Prop) : Sp := fun vs H Q _ => ∃ (p s : Addr) (n : Nat) (many : Int), vs = [.ref p, .int n, .int many] ∧ PoolAt H p s ∧ 1 ≤ n ∧ n ≤ 14 ∧ 0 ≤ many ∧ many ≤ 80 ∧ NewF H p s n many.toNat R Q
def spLooped : Sp := fun vs H Q _ => ∃ (p s f : Addr) (us : List V) (ts : List T3) (n : Nat), vs = [.ref p, .int n, .ref f] ∧ PoolAt H p s ∧ 1 ≤ n ∧ n ≤ 14 ∧ Fs H f us ts ∧ us.length ≤ 74 ∧ BF.Good n ts ∧ f ≠ p ∧ NewF H p s n 80 LoopIn Q
section
variable {P : Program} {w : World} {K : PySem.W.Frag} {mg : Str → Option Value} {base : Heap}
abbrev s_l_size : Stmt := topS 21
theorem sc_l_size : FnScope ["state", "kind"] ["state"] (defScope s_l_size) := ⟨rfl, rfl, rfl, by decide +kernel, rfl, by decide +kernel, by decide +kernel⟩
theorem ok_size {f : Addr} {fd : FuncData} (F : Fun K "_law_size" "_law_size" s_l_size f fd) (B : Blt mg) (G : G1 P w K mg base) : FnOk P w K mg base CX0 2 f fd ["state"] spSize := by
  refine F.ok sc_l_size (fun vs H Q E h => ?_) (fun cdv A outer s H vs Q E hr h => ?_)
  · obtain ⟨p, s, rfl, _⟩ := h
    rfl
  · obtain ⟨p, s0, rfl, hP, q⟩ := h
    refine ⟨_, (pss_cons (ps_set (i := 1) sc_l_size.nd rfl (Or.inl rfl) (pe_cal G.law_draw (hr.mono (by decide)) pass0 (pa_cons (pv 0) (pa_cons pe_int pa_nil))))
    (pss_cons (ps_if (pt_cmpR op_eq (pv 1) pe_int (nomark _))
      (pss_one (ps_ret (pe_op op_add pe_int (pe_cal G.law_draw (hr.mono (by decide)) pass0 (pa_cons (pv 0) (pa_cons pe_int pa_nil))))))
      pss_nil)
    (pss_one (ps_ret (pe_cal G.law_draw (hr.mono (by decide)) pass0 (pa_cons (pv 0) (pa_cons pe_int pa_nil))))))), ?_⟩
    refine ⟨_, rfl, p, s0, 8, rfl, hP, (by decide), (by decide), fun x H1 x0 x6 P1 => ⟨_, rfl, rfl, _, rfl, ite2 (fun c => ?_) (fun c => ?_)⟩⟩
    · exact ⟨_, rfl, p, s0, 41, rfl, P1.now, (by decide), (by decide), fun y H2 y0 y6 P2 => ⟨_, _, rfl, rfl, q _ H2 (by show 0 ≤ 40 + y; omega) (by show 40 + y ≤ 80; omega) (P1.trans P2)⟩⟩
    · exact ⟨_, rfl, p, s0, 13, rfl, P1.now, (by decide), (by decide), fun y H2 y0 y6 P2 => q _ H2 y0 (by omega) (P1.trans P2)⟩
abbrev s_l_amount : Stmt := topS 22
theorem sc_l_amount : FnScope ["state"] ["state"] (defScope s_l_amount) := ⟨rfl, rfl, rfl, by decide +kernel, rfl, by decide +kernel, by decide +kernel⟩
theorem ok_amount {f : Addr} {fd : FuncData} (F : Fun K "_law_amount" "_law_amount" s_l_amount f fd) (B : Blt mg) (G : G2 P w K mg base) : FnOk P w K mg base CX0 3 f fd ["state"] spNumber := by
  refine F.ok sc_l_amount (fun vs H Q E h => ?_) (fun cdv A outer s H vs Q E hr h => ?_)
  · obtain ⟨p, s, rfl, _⟩ := h
    rfl
  · obtain ⟨p, s0, rfl, hP, q⟩ := h
    refine ⟨_, (pss_cons (ps_if (pt_cmpR op_eq (pe_cal G.law_draw (hr.mono (by decide)) pass0 (pa_cons (pv 0) (pa_cons pe_int pa_nil))) pe_int (nomark _))
      (pss_one (ps_ret (pe_op op_mul (pe_cal G.law_number (hr.mono (by decide)) pass0 (pa_cons (pv 0) pa_nil)) (pe_op op_pow pe_int pe_int))))
      pss_nil)
    (pss_one (ps_ret (pe_op op_sub (pe_cal G.law_draw (hr.mono (by decide)) pass0 (pa_cons (pv 0) (pa_cons pe_int pa_nil))) pe_int)))), ?_⟩
    refine ⟨_, rfl, p, s0, 12, rfl, hP, (by decide), (by decide), fun x H1 x0 x6 P1 => ⟨rfl, _, rfl, ite2 (fun c => ?_) (fun c => ?_)⟩⟩
    · exact ⟨_, rfl, p, s0, rfl, P1.now, fun y H2 P2 => ⟨_, _, rfl, rfl, ⟨by decide, by decide, by decide⟩, _, _, rfl, rfl, .inr ⟨by decide, by decide⟩, q _ H2 (P1.trans P2)⟩⟩
    · exact ⟨_, rfl, p, s0, 15, rfl, P1.now, (by decide), (by decide), fun y H2 y0 y6 P2 => ⟨_, _, rfl, rfl, q _ H2 (P1.trans P2)⟩⟩
structure L3 (P : Program) (w : World) (K : PySem.W.Frag) (mg : Str → Option Value) (base : Heap) : Prop extends G2 P w K mg base where
  law_amount : Cal P w K mg base CX0 "_law_amount" 3 ["state"] spNumber
abbrev s_l_free : Stmt := topS 24
theorem sc_l_free : FnScope ["state", "count", "many", "facts", "k"] ["state", "count", "many"] (defScope s_l_free) := ⟨rfl, rfl, rfl, by decide +kernel, rfl, by decide +kernel, by decide +kernel⟩
theorem ok_free {f : Addr} {fd : FuncData} (F : Fun K "_law_free" "_law_free" s_l_free f fd) (B : Blt mg) (G : L3 P w K mg base) : FnOk P w K mg base CX0 4 f fd ["state", "count", "many"] (spMake fun _ => True) := by
  refine F.ok sc_l_free (fun vs H Q E h => ?_) (fun cdv A outer s H vs Q E hr h => ?_)
  · obtain ⟨p, s, n, many, rfl, _⟩ := h
    rfl
  · obtain ⟨p, s0, n, many, rfl, hP, n1, n14, m0, m80, q⟩ := h
    refine ⟨_, (pss_cons (ps_set (i := 3) sc_l_free.nd rfl (Or.inl rfl) (pe_lst pa_nil))
    (pss_cons (ps_for PassesOwn.never rfl (pi_range1 (by rfl) B.range (pa_cons (pv 2) pa_nil)) (pg_name (i := 4) sc_l_free.nd rfl (Or.inl rfl))
      (pss_one (ps_expr (pe_bm PySem.F.plainAttrs_list PySem.F.slot_list_append PySem.F.type_list_append mt_append (pv 3) (pa_cons (pe_tup (pa_cons (pe_cal G.law_draw (hr.mono (by decide)) pass0 (pa_cons (pv 0) (pa_cons (pv 1) pa_nil))) (pa_cons (pe_cal G.law_draw (hr.mono (by decide)) pass0 (pa_cons (pv 0) (pa_cons (pv 1) pa_nil))) (pa_cons (pe_cal G.law_amount (hr.mono (by decide)) pass0 (pa_cons (pv 0) pa_nil)) pa_nil)))) pa_nil)))))
    (pss_one (ps_ret (pv 3))))), ?_⟩
    refine ⟨(by show 0 ≤ sizeLine; decide), fun q0 hq0 => ⟨_, rfl, _, rfl, (by omega), (by omega), for_range (n := many.toNat) (fun i σ H1 => (∃ k, σ = [some (.ref p), some (.int n), some (.int many), some (.ref q0), k]) ∧ ∃ us ts, H1 q0 = some (.lst us) ∧ TrAt H1 us ts ∧ us.length = i ∧ BF.Good n ts ∧ Pl H H1 p s0) ?_ ?_ ?_⟩⟩
    · exact ⟨⟨_, rfl⟩, [], [], upd_same, ⟨rfl, fun i v t a b => by simp at a⟩, rfl, fun t h => (nomatch h), (Pl.refl hP).new hq0⟩
    · rintro i σ H1 hi ⟨⟨k, rfl⟩, us, ts, hq1, hT, hlen, hG, P1⟩
      have hqp : q0 ≠ p := fun z => hP.ne.1 (z ▸ hq0)
      refine ⟨_, rfl, .inl ⟨rfl, _, SqL.of hq1⟩, _, rfl, _, rfl, p, s0, n, rfl, P1.now, (by omega), (by omega), fun a H2 a0 a1 P2 => ⟨_, rfl, _, rfl, p, s0, n, rfl, P2.now, (by omega), (by omega), fun b H3 b0 b1 P3 => ⟨_, rfl, p, s0, rfl, P3.now, fun c H4 P4 => ⟨(by show 3 ≤ sizeLine; decide), fun e he => ?_⟩⟩⟩⟩
      have P14 := ((P1.trans P2).trans P3).trans P4
      have P24 := (P2.trans P3).trans P4
      have hq4 := P24.keep hq1 hqp
      have hT4 : TrAt H4 us ts := hT.tk fun t xs e => P24.ev.tup e
      have se : Same H4 (upd H4 e (.tup [.int a, .int b, .int c])) := sameAt (Same.refl _) he
      refine ⟨q0, us, _, rfl, rfl, se _ _ hq4, small1000 (by omega), ⟨_, rfl⟩, us ++ [.ref e], ts ++ [(a, b, c)], upd_same, ?_, by rw [List.length_append]; show us.length + 1 = i + 1; omega, ?_, (P14.new he).lstAt hq0 (se _ _ hq4)⟩
      · refine TrAt.tk (TrAt.snoc (t := (a, b, c)) (hT4.tk fun t xs h => se _ _ h) upd_same) fun t xs h => ?_
        rw [upd_ne (ne_of h (se _ _ hq4) (by intro z; cases z))]
        exact h
      · intro t ht
        rcases List.mem_append.mp ht with h | h
        · exact hG t h
        · rw [List.mem_singleton.mp h]
          exact ⟨a0, a1, b0, b1⟩
    · rintro σ H1 ⟨⟨k, rfl⟩, us, ts, hq1, hT, hlen, hG, P1⟩
      exact ⟨_, rfl, q q0 us ts H1 P1 hq0 hq1 hT (by omega) hG trivial⟩
end
end Ash

set_option Elab.async false
set_option linter.all false
set_option maxRecDepth 100000
set_option maxHeartbeats 4000000
namespace Ash
open PySem PySem.Spec PyProof.Rows L2
open C8 (pss_cut)
section
variable {P : Program} {w : World} {K : PySem.W.Frag} {mg : Str → Option Value} {base : Heap}
abbrev s_l_planted : Stmt := topS 23
theorem sc_l_planted : FnScope ["state", "count", "many", "k", "values", "facts", "a", "b"] ["state", "count", "many"] (defScope s_l_planted) := ⟨rfl, rfl, rfl, by decide +kernel, rfl, by decide +kernel, by decide +kernel⟩
theorem ok_planted {f : Addr} {fd : FuncData} (F : Fun K "_law_planted" "_law_planted" s_l_planted f fd) (B : Blt mg) (G : G2 P w K mg base) : FnOk P w K mg base CX0 4 f fd ["state", "count", "many"] (spMake Kept) := by
  refine F.ok sc_l_planted (fun vs H Q E h => ?_) (fun cdv A outer s H vs Q E hr h => ?_)
  · obtain ⟨p, s, n, many, rfl, _⟩ := h
    rfl
  · obtain ⟨p, s0, n, many, rfl, hP, n1, n14, m0, m80, q⟩ := h
    refine ⟨_, (pss_cons (ps_setLc (i := 4) (own := [("k", 3)]) (g := gName 3) (tt := tYes) (by rfl) sc_l_planted.nd rfl rfl (sw_true rfl rfl rfl (by decide +kernel)) (pi_range1 (by rfl) B.range (pa_cons (pv 1) pa_nil)) (blkOk_by (own := [("k", 3)]) (N := ["state", "count", "many", "k", "values", "facts", "a", "b"]) (sc := defScope s_l_planted) (by decide +kernel)) (fun _ _ _ _ _ => (pg_name (i := 3) sc_l_planted.nd rfl (Or.inl rfl))) (fun _ _ _ _ _ => pts_nil) (fun _ _ _ _ _ => (pe_cal G.law_number (hr.mono (by decide)) pass0 (pa_cons (pv 0) pa_nil))))
    (pss_cons (ps_set (i := 5) sc_l_planted.nd rfl (Or.inl rfl) (pe_lst pa_nil))
    (pss_cons (ps_for PassesOwn.never rfl (pi_range1 (by rfl) B.range (pa_cons (pv 2) pa_nil)) (pg_name (i := 3) sc_l_planted.nd rfl (Or.inl rfl))
      (pss_cons (ps_set (i := 6) sc_l_planted.nd rfl (Or.inl rfl) (pe_cal G.law_draw (hr.mono (by decide)) pass0 (pa_cons (pv 0) (pa_cons (pv 1) pa_nil))))
      (pss_cons (ps_set (i := 7) sc_l_planted.nd rfl (Or.inl rfl) (pe_cal G.law_draw (hr.mono (by decide)) pass0 (pa_cons (pv 0) (pa_cons (pv 1) pa_nil))))
      (pss_one (ps_expr (pe_bm PySem.F.plainAttrs_list PySem.F.slot_list_append PySem.F.type_list_append mt_append (pv 5) (pa_cons (pe_tup (pa_cons (pv 6) (pa_cons (pv 7) (pa_cons (pe_op op_add (pe_op op_sub (pe_ix ix_list (pv 4) (pv 6) (fun _ _ => rfl)) (pe_ix ix_list (pv 4) (pv 7) (fun _ _ => rfl))) (pe_cal G.law_draw (hr.mono (by decide)) pass0 (pa_cons (pv 0) (pa_cons pe_int pa_nil)))) pa_nil)))) pa_nil)))))))
    (pss_one (ps_ret (pv 5)))))), ?_⟩
    refine ⟨_, rfl, _, rfl, (by omega), (by omega), fun D hD => lc_range (lo := 0) (n := n) (fun i H4 => ∃ ls : List Int, H4 D = some (.lst (ls.map V.int)) ∧ ls.length = i ∧ Pl H H4 p s0) ⟨[], upd_same, rfl, (Pl.refl hP).new hD⟩ ?_ ?_⟩
    · rintro i H4 hi ⟨ls, h1, h2, P4⟩
      have hDp : D ≠ p := fun z => hP.ne.1 (z ▸ hD)
      refine ⟨rfl, _, rfl, p, s0, rfl, P4.now, fun g H5 P5 => ⟨_, P5.keep h1 hDp, (by rw [List.length_map]; exact small1000 (by omega)), ls ++ [g], ?_, by rw [List.length_append]; show ls.length + 1 = i + 1; omega, (P4.trans P5).lstAt hD (P5.keep h1 hDp)⟩⟩
      rw [upd_same, List.map_append]
      rfl
    rintro H0 ⟨vl, hv0, hvl, P0⟩
    have hDp : D ≠ p := fun z => hP.ne.1 (z ▸ hD)
    refine ⟨(by show 0 ≤ sizeLine; decide), fun q0 hq0 => ?_⟩
    have hqH : H q0 = none := P0.free hq0
    have hqp : q0 ≠ p := fun z => hP.ne.1 (z ▸ hqH)
    have hDq : D ≠ q0 := ne_of_none hv0 hq0
    refine ⟨_, rfl, _, rfl, (by omega), (by omega), for_range (n := many.toNat) (fun i σ H1 => (∃ k a b, σ = [some (.ref p), some (.int n), some (.int many), k, some (.ref D), some (.ref q0), a, b]) ∧ ∃ us ts, H1 q0 = some (.lst us) ∧ TrAt H1 us ts ∧ us.length = i ∧ BF.Good n ts ∧ Pl H H1 p s0 ∧ H1 D = some (.lst (vl.map V.int)) ∧ ∀ t ∈ ts, BF.at_ vl (BF.lo t) ≤ BF.at_ vl (BF.hi t) + t.2.2) ?_ ?_ ?_⟩
    · exact ⟨⟨_, _, _, rfl⟩, [], [], upd_same, ⟨rfl, fun i v t a b => by simp at a⟩, rfl, fun t h => (nomatch h), P0.new hq0, by rw [upd_ne hDq]; exact hv0, fun t h => (nomatch h)⟩
    · rintro i σ H1 hi ⟨⟨k, a, b, rfl⟩, us, ts, hq1, hT, hlen, hG, P1, hv1, hkeep⟩
      refine ⟨_, rfl, _, rfl, p, s0, n, rfl, P1.now, (by omega), (by omega), fun a H2 a0 a1 P2 => ⟨_, rfl, _, rfl, p, s0, n, rfl, P2.now, (by omega), (by omega), fun b H3 b0 b1 P3 => ?_⟩⟩
      have P13 := (P1.trans P2).trans P3
      have P23 := P2.trans P3
      have hq3 := P23.keep hq1 hqp
      have hv3 := P23.keep hv1 hDp
      have rd : ∀ z : Int, 0 ≤ z → z < n → atI (vl.map V.int) z = some (.int (BF.at_ vl z.toNat)) := fun z h0 h1 => by
        obtain ⟨j, rfl⟩ : ∃ j : Nat, z = (j : Int) := ⟨z.toNat, by omega⟩
        refine atI_nat ?_
        unfold BF.at_
        rw [List.getElem?_map, List.getD_eq_getElem?_getD, Int.toNat_natCast, List.getElem?_eq_getElem (by omega)]
        rfl
      refine ⟨_, rfl, .inl ⟨rfl, _, SqL.of hq3⟩, _, rfl, _, rfl, _, rfl, _, rfl, _, _, _, _, rfl, rfl, SqL.of hv3, rd a a0 a1, _, rfl, _, rfl, _, _, _, _, rfl, rfl, SqL.of hv3, rd b b0 b1, _, _, rfl, rfl, _, rfl, p, s0, 3, rfl, P3.now, (by decide), (by decide), fun d H4 d0 d3 P4 => ⟨_, _, rfl, rfl, (by show 3 ≤ sizeLine; decide), fun e he => ?_⟩⟩
      have hT4 : TrAt H4 us ts := hT.tk fun t xs e => (P23.trans P4).ev.tup e
      have hq4 := P4.keep hq3 hqp
      have hv4 := P4.keep hv3 hDp
      have P14 := P13.trans P4
      have se := sameAt (Same.refl _) he (o := .tup [.int a, .int b, .int (BF.at_ vl a.toNat - BF.at_ vl b.toNat + d)])
      refine ⟨q0, us, _, rfl, rfl, se _ _ hq4, small1000 (by omega), ⟨_, _, _, rfl⟩, us ++ [.ref e], ts ++ [(a, b, BF.at_ vl a.toNat - BF.at_ vl b.toNat + d)], upd_same, ?_, by rw [List.length_append]; show us.length + 1 = i + 1; omega, ?_, (P14.new he).lstAt hqH (se _ _ hq4), ?_, ?_⟩
      · refine TrAt.tk (TrAt.snoc (t := (a, b, BF.at_ vl a.toNat - BF.at_ vl b.toNat + d)) (hT4.tk fun t xs h => se _ _ h) upd_same) fun t xs h => ?_
        rw [upd_ne (ne_of h (se _ _ hq4) (by intro z; cases z))]
        exact h
      · intro t ht
        rcases List.mem_append.mp ht with h | h
        · exact hG t h
        · rw [List.mem_singleton.mp h]
          exact ⟨a0, a1, b0, b1⟩
      · rw [upd_ne hDq]
        exact se _ _ hv4
      · intro t ht
        rcases List.mem_append.mp ht with h | h
        · exact hkeep t h
        · rw [List.mem_singleton.mp h]
          show BF.at_ vl a.toNat ≤ BF.at_ vl b.toNat + (BF.at_ vl a.toNat - BF.at_ vl b.toNat + d)
          omega
    · rintro σ H1 ⟨⟨k, a, b, rfl⟩, us, ts, hq1, hT, hlen, hG, P1, hv1, hkeep⟩
      exact ⟨_, rfl, q q0 us ts H1 P1 hqH hq1 hT (by omega) hG ⟨vl, hkeep⟩⟩
abbrev s_l_looped : Stmt := topS 25
theorem sc_l_looped : FnScope ["state", "count", "facts", "k", "way", "left", "made", "number"] ["state", "count", "facts"] (defScope s_l_looped) := ⟨rfl, rfl, rfl, by decide +kernel, rfl, by decide +kernel, by decide +kernel⟩
theorem ok_looped {f : Addr} {fd : FuncData} (F : Fun K "_law_looped" "_law_looped" s_l_looped f fd) (B : Blt mg) (G : L3 P w K mg base) : FnOk P w K mg base CX0 4 f fd ["state", "count", "facts"] spLooped := by
  refine F.ok sc_l_looped (fun vs H Q E h => ?_) (fun cdv A outer s H vs Q E hr h => ?_)
  · obtain ⟨p, s, f, us, ts, n, rfl, _⟩ := h
    rfl
  · obtain ⟨p, s0, f, us0, ts0, n, rfl, hP, n1, n14, hF, u74, hG0, hfp, q⟩ := h
    refine ⟨_, (pss_cons (ps_setLc (i := 4) (own := [("k", 3)]) (g := gName 3) (tt := tYes) (by rfl) sc_l_looped.nd rfl rfl (sw_true rfl rfl rfl (by decide +kernel)) (pi_range1 (by rfl) B.range (pa_cons (pe_op op_add pe_int (pe_cal G.law_draw (hr.mono (by decide)) pass0 (pa_cons (pv 0) (pa_cons pe_int pa_nil)))) pa_nil)) (blkOk_by (own := [("k", 3)]) (N := ["state", "count", "facts", "k", "way", "left", "made", "number"]) (sc := defScope s_l_looped) (by decide +kernel)) (fun _ _ _ _ _ => (pg_name (i := 3) sc_l_looped.nd rfl (Or.inl rfl))) (fun _ _ _ _ _ => pts_nil) (fun _ _ _ _ _ => (pe_cal G.law_draw (hr.mono (by decide)) pass0 (pa_cons (pv 0) (pa_cons (pv 1) pa_nil)))))
    (pss_cons (ps_set (i := 5) sc_l_looped.nd rfl (Or.inl rfl) (pe_un un_neg pe_int))
    (pss_cons (ps_set (i := 6) sc_l_looped.nd rfl (Or.inl rfl) (pe_callTy call_list_of (by rfl) B.list (by decide +kernel) (pa_cons (pv 2) pa_nil)))
    (pss_cons (ps_for PassesOwn.never rfl (pi_range1 (by rfl) B.range (pa_cons (pe_callB call_len_seq (by rfl) B.len (by decide +kernel) (pa_cons (pv 4) pa_nil)) pa_nil)) (pg_name (i := 3) sc_l_looped.nd rfl (Or.inl rfl))
      (pss_cons (ps_set (i := 7) sc_l_looped.nd rfl (Or.inl rfl) (pe_cal G.law_amount (hr.mono (by decide)) pass0 (pa_cons (pv 0) pa_nil)))
      (pss_cut (ps_if (pt_cmpR op_eq (pv 3) (pe_op op_sub (pe_callB call_len_seq (by rfl) B.len (by decide +kernel) (pa_cons (pv 4) pa_nil)) pe_int) (nomark _))
        (pss_one (ps_set (i := 7) sc_l_looped.nd rfl (Or.inl rfl) (pv 5)))
        pss_nil)
      (pss_cons (ps_set (i := 5) sc_l_looped.nd rfl (Or.inl rfl) (pe_op op_sub (pv 5) (pv 7)))
      (pss_one (ps_expr (pe_bm PySem.F.plainAttrs_list PySem.F.slot_list_insert PySem.F.type_list_insert mt_insert (pv 6) (pa_cons (pe_cal G.law_draw (hr.mono (by decide)) pass0 (pa_cons (pv 0) (pa_cons (pe_op op_add (pe_callB call_len_seq (by rfl) B.len (by decide +kernel) (pa_cons (pv 6) pa_nil)) pe_int) pa_nil))) (pa_cons (pe_tup (pa_cons (pe_ix ix_list (pv 4) (pv 3) (fun _ _ => rfl)) (pa_cons (pe_ix ix_list (pv 4) (pe_op op_mod (pe_op op_add (pv 3) pe_int) (pe_callB call_len_seq (by rfl) B.len (by decide +kernel) (pa_cons (pv 4) pa_nil))) (fun _ _ => rfl)) (pa_cons (pv 7) pa_nil)))) pa_nil)))))))))
    (pss_one (ps_ret (pv 6))))))), ?_⟩
    refine ⟨_, rfl, p, s0, 6, rfl, hP, (by decide), (by decide), fun wn H1 w0 w6 P1 => ⟨_, _, rfl, rfl, _, rfl, ?_, ?_, fun D hD => lc_range (lo := 0) (n := ((1 : Int) + wn).toNat) (fun i H4 => ∃ ls : List Int, H4 D = some (.lst (ls.map V.int)) ∧ ls.length = i ∧ (∀ x ∈ ls, 0 ≤ x ∧ x < n) ∧ Pl H H4 p s0) ⟨[], upd_same, rfl, fun x h => (nomatch h), P1.new hD⟩ ?_ ?_⟩⟩
    · show -(2 ^ 62) ≤ (1 : Int) + wn
      omega
    · show (1 : Int) + wn < 2 ^ 62
      omega
    · rintro i H4 hi ⟨ls, h1, h2, h3, P4⟩
      have hD0 : H D = none := P1.free hD
      have hDp : D ≠ p := fun z => hP.ne.1 (z ▸ hD0)
      refine ⟨rfl, _, rfl, _, rfl, p, s0, n, rfl, P4.now, (by omega), (by omega), fun g H5 g0 g1 P5 => ⟨_, P5.keep h1 hDp, (by rw [List.length_map]; exact small1000 (by omega)), ls ++ [g], ?_, by rw [List.length_append]; show ls.length + 1 = i + 1; omega, fun x hx => ?_, (P4.trans P5).lstAt hD0 (P5.keep h1 hDp)⟩⟩
      · rw [upd_same, List.map_append]
        rfl
      · rcases List.mem_append.mp hx with h | h
        · exact h3 x h
        · rw [List.mem_singleton.mp h]
          exact ⟨g0, g1⟩
    rintro H2 ⟨ws, hw2, hwl, hwr, P2⟩
    have hD0 : H D = none := P1.free hD
    have hDp : D ≠ p := fun z => hP.ne.1 (z ▸ hD0)
    have hf2 := P2.keep hF.l hfp
    have hT2 : TrAt H2 us0 ts0 := hF.t.tk fun t xs e => P2.ev.tup e
    refine ⟨_, rfl, _, rfl, f, _, rfl, .inl (SqL.of hf2), fun q0 hq0 => ?_⟩
    have hqH : H q0 = none := P2.free hq0
    have hqp : q0 ≠ p := fun z => hP.ne.1 (z ▸ hqH)
    have hDq : D ≠ q0 := ne_of_none hw2 hq0
    have sq := sameAt (Same.refl _) hq0 (o := .lst us0)
    have hL1 : 1 ≤ ws.length := by omega
    have hL6 : ws.length ≤ 6 := by omega
    have rd : ∀ j : Nat, j < ws.length → atI (ws.map V.int) (j : Int) = some (.int (ws.getD j 0)) := fun j hj => by
      refine atI_nat ?_
      rw [List.getElem?_map, List.getD_eq_getElem?_getD, List.getElem?_eq_getElem hj]
      rfl
    have inr : ∀ j : Nat, j < ws.length → 0 ≤ ws.getD j 0 ∧ ws.getD j 0 < n := fun j hj => by
      rw [List.getD_eq_getElem?_getD, List.getElem?_eq_getElem hj]
      exact hwr _ (List.getElem_mem hj)
    refine ⟨_, rfl, D, _, rfl, .inl (SqL.of (sq _ _ hw2)), _, rfl, (by rw [List.length_map]; omega), (by rw [List.length_map]; omega), for_range (n := (ws.map V.int).length) (fun i σ H3 => (∃ k x, ∃ left : Int, σ = [some (.ref p), some (.int n), some (.ref f), k, some (.ref D), some (.int left), some (.ref q0), x] ∧ ∃ us ts nm, H3 q0 = some (.lst us) ∧ TrAt H3 us ts ∧ us.length ≤ us0.length + i ∧ BF.Good n ts ∧ List.length nm = i ∧ left = -1 - sumI nm ∧ (i = ws.length → left = 0) ∧ (∀ j, j < i → (ws.getD j 0, ws.getD ((j + 1) % ws.length) 0, nm.getD j 0) ∈ ts)) ∧ Pl H H3 p s0 ∧ H3 D = some (.lst (ws.map V.int))) ?_ ?_ ?_⟩
    · exact ⟨⟨_, _, -1, rfl, us0, ts0, [], upd_same, hT2.tk fun t xs e => sq _ _ e, by omega, hG0, rfl, by show (-1 : Int) = -1 - 0; omega, fun z => absurd z (by omega), fun j h => absurd h (by omega)⟩, P2.new hq0, sq _ _ hw2⟩
    · rintro i σ H3 hi ⟨⟨k, x, left, rfl, us, ts, nm, hq3, hT3, hl3, hG3, hnl, hleft, _, hmem⟩, P3, hw3⟩
      rw [List.length_map] at hi
      refine ⟨_, rfl, p, s0, rfl, P3.now, fun num H4 P4 => ?_⟩
      have P34 := P3.trans P4
      have hq4 := P4.keep hq3 hqp
      have hw4 := P4.keep hw3 hDp
      have hT4 : TrAt H4 us ts := hT3.tk fun t xs e => P4.ev.tup e
      refine ⟨fun σ H5 => (∃ (k : Option V) (num : Int), σ = [some (.ref p), some (.int n), some (.ref f), some (.int ((0 : Int) + (i : Int))), some (.ref D), some (.int left), some (.ref q0), some (.int num)] ∧ (i + 1 = ws.length → num = left)) ∧ H5 = H4, ?_, ?_⟩
      · refine ⟨_, rfl, _, rfl, D, _, rfl, .inl (SqL.of hw4), _, _, rfl, rfl, rfl, _, rfl, ite2 (fun c => ?_) (fun c => ?_)⟩
        · exact ⟨_, rfl, ⟨none, left, rfl, fun _ => rfl⟩, rfl⟩
        · refine ⟨⟨none, num, rfl, fun z => absurd (decide_eq_true ?_) c⟩, rfl⟩
          show V.int ((0 : Int) + (i : Int)) = V.int (((ws.map V.int).length : Nat) - 1)
          rw [List.length_map, ← z]
          congr 1
          omega
      · rintro σ H5 ⟨⟨_, num, rfl, hnum⟩, rfl⟩
        have ul : us.length ≤ 80 := by omega
        refine ⟨_, rfl, _, rfl, _, _, rfl, rfl, _, rfl, .inl ⟨rfl, _, SqL.of hq4⟩, _, rfl, _, rfl, q0, _, rfl, .inl (SqL.of hq4), _, _, rfl, rfl, p, s0, _, rfl, P4.now, (by show (0 : Int) < us.length + 1; omega), (by show ((us.length : Int) + 1) < 2 ^ 200; omega), fun at_ H6 a0 a1 P6 => ?_⟩
        have a1 : at_ < us.length + 1 := a1
        have hw6 := P6.keep hw4 hDp
        have hq6 := P6.keep hq4 hqp
        have hT6 : TrAt H6 us ts := hT4.tk fun t xs e => P6.ev.tup e
        have e1 : atI (ws.map V.int) ((0 : Int) + (i : Int)) = some (.int (ws.getD i 0)) := by rw [Int.zero_add]; exact rd i hi
        have hmod : ((0 : Int) + (i : Int) + 1) % (((ws.map V.int).length : Nat) : Int) = (((i + 1) % ws.length : Nat) : Int) := by
          rw [List.length_map, Int.zero_add]
          exact (Int.natCast_emod (i + 1) ws.length).symm
        have hml : (i + 1) % ws.length < ws.length := Nat.mod_lt _ (by omega)
        refine ⟨_, rfl, _, rfl, _, _, _, _, rfl, rfl, SqL.of hw6, e1, _, rfl, _, rfl, _, _, rfl, rfl, _, rfl, D, _, rfl, .inl (SqL.of hw6), _, _, rfl, rfl, (by show (0 : Int) < (((ws.map V.int).length : Nat) : Int); rw [List.length_map]; omega), _, _, _, .int (ws.getD ((i + 1) % ws.length) 0), rfl, rfl, SqL.of hw6, (by show atI _ (((0 : Int) + (i : Int) + 1) % (((ws.map V.int).length : Nat) : Int)) = _; rw [hmod]; exact rd _ hml), _, rfl, (by show 3 ≤ sizeLine; decide), fun e he => ?_⟩
        have se := sameAt (Same.refl _) he (o := .tup [.int (ws.getD i 0), .int (ws.getD ((i + 1) % ws.length) 0), .int num])
        have hqe := se _ _ hq6
        refine ⟨q0, us, at_, .ref e, rfl, rfl, hqe, small1000 (by omega), a0, (by omega), ?_⟩
        have hTe : TrAt (upd H6 e (.tup [.int (ws.getD i 0), .int (ws.getD ((i + 1) % ws.length) 0), .int num])) us ts := hT6.tk fun t xs h => se _ _ h
        have one := TrAt.one (t := (ws.getD i 0, ws.getD ((i + 1) % ws.length) 0, num)) (upd_same (H := H6) (a := e))
        have hne : ∀ t xs, (upd H6 e (.tup [.int (ws.getD i 0), .int (ws.getD ((i + 1) % ws.length) 0), .int num])) t = some (.tup xs) → (upd (upd H6 e (.tup [.int (ws.getD i 0), .int (ws.getD ((i + 1) % ws.length) 0), .int num])) q0 (.lst (us.take at_.toNat ++ [.ref e] ++ us.drop at_.toNat))) t = some (.tup xs) := fun t xs h => by
          rw [upd_ne (ne_of h hqe (by intro z; cases z))]
          exact h
        refine ⟨⟨_, _, left - num, rfl, us.take at_.toNat ++ [.ref e] ++ us.drop at_.toNat, ts.take at_.toNat ++ [(ws.getD i 0, ws.getD ((i + 1) % ws.length) 0, num)] ++ ts.drop at_.toNat, nm ++ [num], upd_same, (((hTe.tak _).app one).app (hTe.drp _)).tk hne, ?_, fun t ht => ?_, ?_, ?_, fun z => ?_, fun j hj => ?_⟩, ((P34.trans P6).new he).lstAt hqH hqe, by rw [upd_ne hDq]; exact se _ _ hw6⟩
        · rw [List.length_append, List.length_append, List.length_take, List.length_drop]
          show min _ _ + 1 + _ ≤ _
          omega
        · rcases mem_ins.mp ht with h | h
          · exact hG3 t h
          · rw [h]
            exact ⟨(inr i hi).1, (inr i hi).2, (inr _ hml).1, (inr _ hml).2⟩
        · rw [List.length_append, hnl]
          rfl
        · rw [sumI_snoc, hleft]
          omega
        · rw [hnum z]
          omega
        · refine mem_ins.mpr ?_
          by_cases c : j = i
          · right
            rw [c, List.getD_eq_getElem?_getD (l := nm ++ [num]), List.getElem?_append_right (by omega), hnl, Nat.sub_self]
            rfl
          · left
            have := hmem j (by omega)
            rw [List.getD_eq_getElem?_getD (l := nm ++ [num]), List.getElem?_append_left (by omega), ← List.getD_eq_getElem?_getD]
            exact this
    · rintro σ H3 ⟨⟨k, x, left, rfl, us, ts, nm, hq3, hT3, hl3, hG3, hnl, hleft, hz, hmem⟩, P3, hw3⟩
      rw [List.length_map] at hl3 hnl hz hmem
      have hz := hz rfl
      exact ⟨_, rfl, q q0 us ts H3 P3 hqH hq3 hT3 (by omega) hG3 ⟨ws, nm, fun z => by rw [z] at hL1; exact absurd hL1 (by decide), hnl, by omega, hmem⟩⟩
end
end Ash

set_option Elab.async false
set_option linter.all false
set_option maxRecDepth 100000
set_option maxHeartbeats 4000000
namespace Ash
open PySem PySem.Spec PyProof.Rows L2
open C8 (pss_cut)
theorem chn_prv {l : List T3} (h : BF.chn (BF.prv l 0) l = true) : ∀ i, i ≤ l.length → BF.chn (BF.prv l i) (l.drop i) = true
  | 0, _ => h
  | i + 1, hi => by
    have a := chn_prv h i (by omega)
    have e : l[i]? = some l[i] := List.getElem?_eq_getElem (by omega)
    rw [BF.chn_step e, Bool.and_eq_true] at a
    rw [BF.prv_step e]
    exact a.2
theorem chn_cyc {l : List T3} (h : BF.chn (BF.prv l 0) l = true) (k : Nat) (hk : k < l.length) : (l.getD k (0, 0, 0)).2.1 = (l.getD ((k + 1) % l.length) (0, 0, 0)).1 := by
  have hm : (k + 1) % l.length < l.length := Nat.mod_lt _ (by omega)
  have a := chn_prv h _ (Nat.le_of_lt hm)
  have e : l[(k + 1) % l.length]? = some l[(k + 1) % l.length] := List.getElem?_eq_getElem hm
  rw [BF.chn_step e, Bool.and_eq_true, decide_eq_true_eq] at a
  have e2 : l.getD ((k + 1) % l.length) (0, 0, 0) = l[(k + 1) % l.length] := by rw [List.getD_eq_getElem?_getD, e]; rfl
  rw [e2, ← a.1]
  by_cases c : k + 1 < l.length
  · rw [Nat.mod_eq_of_lt c]
    rw [List.getD_eq_getElem?_getD]
    rfl
  · have : k + 1 = l.length := by omega
    rw [this, Nat.mod_self]
    show _ = (l.getLast?.getD (0, 0, 0)).2.1
    rw [List.getLast?_eq_getElem?, ← this, Nat.add_sub_cancel, List.getD_eq_getElem?_getD]
def spClosed : Sp := fun vs H Q _ => ∃ (f t : Addr) (us : List V) (ts : List T3) (ns : List Nat), vs = [.ref f, .ref t] ∧ Fs H f us ts ∧ H t = some (.tup (ns.map fun i => V.int (i : Nat))) ∧ ns ≠ [] ∧ ns.length ≤ 1000 ∧ (∀ i ∈ ns, i < ts.length) ∧ BF.chn (BF.prv (BF.facts ts ns) 0) (BF.facts ts ns) = true ∧ BF.sum3 (BF.facts ts ns) < 0 ∧ Q (.bl true) H
def spKeeps : Sp := fun vs H Q _ => ∃ (n : Nat) (f d : Addr) (us : List V) (ts : List T3) (vl : List Int), vs = [.int n, .ref f, .ref d] ∧ Fs H f us ts ∧ BF.Good n ts ∧ H d = some (.lst (vl.map V.int)) ∧ vl.length = n ∧ n ≤ 1000 ∧ (∀ (i : Nat) t, ts[i]? = some t → BF.at_ vl (BF.lo t) ≤ BF.at_ vl (BF.hi t) + t.2.2) ∧ ∀ H', Same H H' → Q (.bl true) H'
section
variable {P : Program} {w : World} {K : PySem.W.Frag} {mg : Str → Option Value} {base : Heap}
abbrev s_l_is_closed : Stmt := topS 26
theorem sc_l_is_closed : FnScope ["facts", "found", "total", "k", "following"] ["facts", "found"] (defScope s_l_is_closed) := ⟨rfl, rfl, rfl, by decide +kernel, rfl, by decide +kernel, by decide +kernel⟩
theorem ok_closed {f : Addr} {fd : FuncData} (F : Fun K "_law_is_closed" "_law_is_closed" s_l_is_closed f fd) (B : Blt mg) (G : G2 P w K mg base) : FnOk P w K mg base CX0 2 f fd ["facts", "found"] spClosed := by
  refine F.ok sc_l_is_closed (fun vs H Q E h => ?_) (fun cdv A outer s H vs Q E hr h => ?_)
  · obtain ⟨f, t, us, ts, ns, rfl, _⟩ := h
    rfl
  · obtain ⟨f, t, us, ts, ns, rfl, hF, ht, h0, h1000, hin, hch, hsum, q⟩ := h
    refine ⟨_, (pss_cons (ps_if (PW.pt (pw_or (pt_not (pt_val (pe_callB call_isi (by rfl) B.isinstance (by decide +kernel) (pa_cons (pv 1) (pa_cons (pe_bltn (v := .ty "tuple") (by rfl) B.tuple (by decide +kernel) rfl) pa_nil))))) (pw_or1 (pt_cmpR op_eq (pe_callB call_len_seq (by rfl) B.len (by decide +kernel) (pa_cons (pv 1) pa_nil)) pe_int (nomark _)))))
      (pss_one (ps_ret pe_bl))
      pss_nil)
    (pss_cons (ps_set (i := 2) sc_l_is_closed.nd rfl (Or.inl rfl) pe_int)
    (pss_cons (ps_for PassesOwn.never rfl (pi_range1 (by rfl) B.range (pa_cons (pe_callB call_len_seq (by rfl) B.len (by decide +kernel) (pa_cons (pv 1) pa_nil)) pa_nil)) (pg_name (i := 3) sc_l_is_closed.nd rfl (Or.inl rfl))
      (pss_cons (ps_if (PW.pt (pw_or (pt_not (pt_val (pe_cal G.law_is_integer (hr.mono (by decide)) pass0 (pa_cons (pe_ix ix_tup (pv 1) (pv 3) (fun _ _ => rfl)) pa_nil)))) (pw_or (pt_cmpR op_lt (pe_ix ix_tup (pv 1) (pv 3) (fun _ _ => rfl)) pe_int (nomark _)) (pw_or1 (pt_cmpR op_ge (pe_ix ix_tup (pv 1) (pv 3) (fun _ _ => rfl)) (pe_callB call_len_seq (by rfl) B.len (by decide +kernel) (pa_cons (pv 0) pa_nil)) (nomark _))))))
        (pss_one (ps_ret pe_bl))
        pss_nil)
      (pss_cons (ps_set (i := 4) sc_l_is_closed.nd rfl (Or.inl rfl) (pe_ix ix_tup (pv 1) (pe_op op_mod (pe_op op_add (pv 3) pe_int) (pe_callB call_len_seq (by rfl) B.len (by decide +kernel) (pa_cons (pv 1) pa_nil))) (fun _ _ => rfl)))
      (pss_cons (ps_if (PW.pt (pw_or (pt_not (pt_val (pe_cal G.law_is_integer (hr.mono (by decide)) pass0 (pa_cons (pv 4) pa_nil)))) (pw_or (pt_cmpR op_lt (pv 4) pe_int (nomark _)) (pw_or1 (pt_cmpR op_ge (pv 4) (pe_callB call_len_seq (by rfl) B.len (by decide +kernel) (pa_cons (pv 0) pa_nil)) (nomark _))))))
        (pss_one (ps_ret pe_bl))
        pss_nil)
      (pss_cons (ps_if (pt_cmpR op_ne (pe_ix ix_tup (pe_ix ix_list (pv 0) (pe_ix ix_tup (pv 1) (pv 3) (fun _ _ => rfl)) (fun _ _ => rfl)) pe_int (fun _ _ => rfl)) (pe_ix ix_tup (pe_ix ix_list (pv 0) (pv 4) (fun _ _ => rfl)) pe_int (fun _ _ => rfl)) (nomark _))
        (pss_one (ps_ret pe_bl))
        pss_nil)
      (pss_one (ps_set (i := 2) sc_l_is_closed.nd rfl (Or.inl rfl) (pe_op op_add (pv 2) (pe_ix ix_tup (pe_ix ix_list (pv 0) (pe_ix ix_tup (pv 1) (pv 3) (fun _ _ => rfl)) (fun _ _ => rfl)) pe_int (fun _ _ => rfl))))))))))
    (pss_one (ps_ret (pe_cmpR op_lt (pv 2) pe_int (nomark _))))))), ?_⟩
    have hpos : 0 < ns.length := List.length_pos_iff.mpr h0
    have ful : us.length = ts.length := hF.t.1
    have hfl : (BF.facts ts ns).length = ns.length := by unfold BF.facts; rw [List.length_map]
    have rd : ∀ j : Nat, j < ns.length → ∃ m : Nat, ns[j]? = some m ∧ atI (ns.map fun i : Nat => V.int (i : Nat)) (j : Int) = some (.int (m : Nat)) ∧ m < ts.length ∧ ∃ p, us[m]? = some (.ref p) ∧ H p = some (.tup (tv ((BF.facts ts ns).getD j (0, 0, 0)))) := fun j hj => by
      have e : ns[j]? = some ns[j] := List.getElem?_eq_getElem hj
      have hm := hin _ (List.getElem_mem hj)
      have e2 : ts[ns[j]]? = some ts[ns[j]] := List.getElem?_eq_getElem hm
      obtain ⟨p, g1, g2⟩ := hF.t.at e2
      refine ⟨ns[j], e, atI_nat (by rw [List.getElem?_map, e]; rfl), hm, p, g1, ?_⟩
      rw [List.getD_eq_getElem?_getD, BF.facts_at e e2]
      exact g2
    refine ⟨_, rfl, _, _, _, _, true, rfl, ClsV.ty _, .base (.tup ht), kit_ty (by decide +kernel), _, rfl, iteF ?_⟩
    refine ⟨_, rfl, t, _, rfl, .inr (SqT.of ht), rfl, _, rfl, ite2 (fun c => ?_) (fun c => ?_)⟩
    · have c : V.int (((ns.map fun i : Nat => V.int (i : Nat)).length : Nat) : Int) = .int 0 := of_decide_eq_true c
      have c := V.int.inj c
      rw [List.length_map] at c
      exact absurd c (by omega)
    refine ⟨_, rfl, t, _, rfl, .inr (SqT.of ht), _, rfl, (by rw [List.length_map]; omega), (by rw [List.length_map]; omega), for_range (n := (ns.map fun i : Nat => V.int (i : Nat)).length) (fun i σ H1 => (∃ a b, σ = [some (.ref f), some (.ref t), some (.int (BF.sum3 ((BF.facts ts ns).take i))), a, b]) ∧ H1 = H) ⟨⟨_, _, rfl⟩, rfl⟩ ?_ ?_⟩
    · rintro i σ H1 hi ⟨⟨a, b, rfl⟩, rfl⟩
      rw [List.length_map] at hi
      obtain ⟨m, e1, e2, e3, p, e4, e5⟩ := rd i hi
      have hml : (i + 1) % ns.length < ns.length := Nat.mod_lt _ hpos
      obtain ⟨m', d1, d2, d3, p', d4, d5⟩ := rd _ hml
      have cyc := chn_cyc hch i (by rw [hfl]; exact hi)
      rw [hfl] at cyc
      have e2' : atI (ns.map fun i : Nat => V.int (i : Nat)) ((0 : Int) + (i : Int)) = some (.int (m : Nat)) := by rw [Int.zero_add]; exact e2
      have hmod : ((0 : Int) + (i : Int) + 1) % (((ns.map fun i : Nat => V.int (i : Nat)).length : Nat) : Int) = (((i + 1) % ns.length : Nat) : Int) := by
        rw [List.length_map, Int.zero_add]
        exact (Int.natCast_emod (i + 1) ns.length).symm
      have i1 : ∀ {A B : Prop}, B → if decide ((m : Int) < 0) = true then A else B := fun h => by rw [decide_eq_false (by omega)]; exact iteF h
      refine ⟨_, rfl, _, rfl, t, _, _, _, rfl, rfl, SqT.of ht, e2', _, rfl, .inl ⟨m, rfl, _, rfl, iteF ⟨_, rfl, _, rfl, t, _, _, _, rfl, rfl, SqT.of ht, e2', _, _, rfl, rfl, _, rfl, ?_⟩⟩⟩
      rw [decide_eq_false (show ¬ (m : Int) < 0 by omega)]
      refine iteF ⟨_, rfl, _, rfl, t, _, _, _, rfl, rfl, SqT.of ht, e2', _, rfl, f, _, rfl, .inl (SqL.of hF.l), _, _, rfl, rfl, _, rfl, ?_⟩
      rw [ful, decide_eq_false (show ¬ (m : Int) ≥ (ts.length : Nat) by omega)]
      refine iteF ⟨_, rfl, _, rfl, _, _, rfl, rfl, _, rfl, t, _, rfl, .inr (SqT.of ht), _, _, rfl, rfl, (by show (0 : Int) < (((ns.map fun i : Nat => V.int (i : Nat)).length : Nat) : Int); rw [List.length_map]; omega), t, _, _, .int (m' : Nat), rfl, rfl, SqT.of ht, (by show atI _ (((0 : Int) + (i : Int) + 1) % (((ns.map fun i : Nat => V.int (i : Nat)).length : Nat) : Int)) = _; rw [hmod]; exact d2), ?_⟩
      refine ⟨_, rfl, _, rfl, .inl ⟨m', rfl, _, rfl, iteF ⟨_, rfl, _, _, rfl, rfl, _, rfl, ?_⟩⟩⟩
      rw [decide_eq_false (show ¬ (m' : Int) < 0 by omega)]
      refine iteF ⟨_, rfl, _, rfl, f, _, rfl, .inl (SqL.of hF.l), _, _, rfl, rfl, _, rfl, ?_⟩
      rw [ful, decide_eq_false (show ¬ (m' : Int) ≥ (ts.length : Nat) by omega)]
      refine iteF ⟨_, rfl, _, rfl, _, rfl, t, _, _, _, rfl, rfl, SqT.of ht, e2', f, _, _, _, rfl, rfl, SqL.of hF.l, atI_nat e4, p, _, _, _, rfl, rfl, SqT.of e5, rfl, _, rfl, _, rfl, f, _, _, _, rfl, rfl, SqL.of hF.l, atI_nat d4, p', _, _, _, rfl, rfl, SqT.of d5, rfl, rfl, _, rfl, ?_⟩
      rw [cyc, decide_eq_true (rfl : V.int ((BF.facts ts ns).getD ((i + 1) % ns.length) (0, 0, 0)).1 = V.int ((BF.facts ts ns).getD ((i + 1) % ns.length) (0, 0, 0)).1)]
      refine iteF ⟨_, rfl, _, rfl, _, rfl, _, rfl, t, _, _, _, rfl, rfl, SqT.of ht, e2', f, _, _, _, rfl, rfl, SqL.of hF.l, atI_nat e4, p, _, _, _, rfl, rfl, SqT.of e5, rfl, _, _, rfl, rfl, ⟨some (.int ((0 : Int) + (i : Int))), some (.int (m' : Nat)), ?_⟩, rfl⟩
      have ef : (BF.facts ts ns)[i]? = some ((BF.facts ts ns).getD i (0, 0, 0)) := by rw [List.getD_eq_getElem?_getD, List.getElem?_eq_getElem (by rw [hfl]; exact hi)]; rfl
      rw [BF.sum3_step ef]
      rfl
    · rintro σ H1 ⟨⟨a, b, rfl⟩, rfl⟩
      rw [List.length_map, ← hfl, List.take_length]
      refine ⟨_, rfl, _, _, rfl, rfl, ?_⟩
      show Q (.bl (decide (BF.sum3 (BF.facts ts ns) < 0))) H1
      rw [decide_eq_true hsum]
      exact q
abbrev s_l_keeps : Stmt := topS 27
theorem sc_l_keeps : FnScope ["count", "facts", "found", "a", "b", "c", "number"] ["count", "facts", "found"] (defScope s_l_keeps) := ⟨rfl, rfl, rfl, by decide +kernel, rfl, by decide +kernel, by decide +kernel⟩
theorem ok_keeps {f : Addr} {fd : FuncData} (F : Fun K "_law_keeps" "_law_keeps" s_l_keeps f fd) (B : Blt mg) (G : G2 P w K mg base) : FnOk P w K mg base CX0 2 f fd ["count", "facts", "found"] spKeeps := by
  refine F.ok sc_l_keeps (fun vs H Q E h => ?_) (fun cdv A outer s H vs Q E hr h => ?_)
  · obtain ⟨n, f, d, us, ts, vl, rfl, _⟩ := h
    rfl
  · obtain ⟨n, f, d, us, ts, vl, rfl, hF, hG, hd, hl, hn, hk, q⟩ := h
    refine ⟨_, (pss_cons (ps_if (PW.pt (pw_or (pt_not (pt_val (pe_callB call_isi (by rfl) B.isinstance (by decide +kernel) (pa_cons (pv 2) (pa_cons (pe_bltn (v := .ty "list") (by rfl) B.list (by decide +kernel) rfl) pa_nil))))) (pw_or (pt_cmpR op_ne (pe_callB call_len_seq (by rfl) B.len (by decide +kernel) (pa_cons (pv 2) pa_nil)) (pv 0) (nomark _)) (pw_or1 (pt_not (pt_val (pe_callB (cr_all rfl) (by rfl) B.all (by decide +kernel) (pa_cons (pe_lc (own := [("number", 6)]) (g := gName 6) (tt := tYes) (by rfl) sc_l_keeps.nd (pi_list (pv 2)) (blkOk_by (own := [("number", 6)]) (N := ["count", "facts", "found", "a", "b", "c", "number"]) (sc := defScope s_l_keeps) (by decide +kernel)) (fun _ _ _ _ _ => (pg_name (i := 6) sc_l_keeps.nd rfl (Or.inl rfl))) (fun _ _ _ _ _ => pts_nil) (fun _ _ _ _ _ => (pe_cal G.law_is_integer (hr.mono (by decide)) pass0 (pa_cons (pv 6) pa_nil)))) pa_nil))))))))
      (pss_one (ps_ret pe_bl))
      pss_nil)
    (pss_cons (ps_for PassesOwn.never rfl (pi_list (pv 1)) (pg_tup (by rfl) (pgs_cons (pg_name (i := 3) sc_l_keeps.nd rfl (Or.inl rfl)) (pgs_cons (pg_name (i := 4) sc_l_keeps.nd rfl (Or.inl rfl)) (pgs_cons (pg_name (i := 5) sc_l_keeps.nd rfl (Or.inl rfl)) pgs_nil))))
      (pss_one (ps_if (pt_cmpR op_gt (pe_ix ix_list (pv 2) (pv 3) (fun _ _ => rfl)) (pe_op op_add (pe_ix ix_list (pv 2) (pv 4) (fun _ _ => rfl)) (pv 5)) (nomark _))
        (pss_one (ps_ret pe_bl))
        pss_nil)))
    (pss_one (ps_ret pe_bl)))), ?_⟩
    refine ⟨_, rfl, _, _, _, _, true, rfl, ClsV.ty _, .base (.lst hd), kit_ty (by decide +kernel), _, rfl, iteF ?_⟩
    refine ⟨_, rfl, d, _, rfl, .inl (SqL.of hd), _, rfl, rfl, _, rfl, ?_⟩
    rw [List.length_map, hl, decide_eq_true (rfl : V.int (n : Nat) = V.int (n : Nat))]
    refine iteF ⟨_, rfl, d, rfl, ⟨_, SqL.of hd⟩, fun D hD => lc_list (a := d) (xs := vl.map V.int) (fun i H1 => H1 D = some (.lst ((List.replicate i true).map V.bl)) ∧ Same H H1) ⟨upd_same, sameAt (Same.refl H) hD⟩ (fun i H1 _ hv => SqL.of (hv.2 _ _ hd)) ?_ ?_⟩
    · rintro i x H1 hi ⟨hD1, hs⟩
      have hil : i < vl.length := by have := (List.getElem?_eq_some_iff.mp hi).1; rwa [List.length_map] at this
      obtain ⟨z, rfl⟩ : ∃ z, x = V.int z := by
        rw [List.getElem?_map] at hi
        cases e : vl[i]? with
        | none => rw [e] at hi; cases hi
        | some z => rw [e] at hi; exact ⟨z, (Option.some.inj hi).symm⟩
      refine ⟨rfl, _, rfl, _, rfl, .inl ⟨z, rfl, _, hD1, (by rw [List.length_map, List.length_replicate]; exact small1000 (by omega)), ?_, sameAt hs hD⟩⟩
      rw [upd_same, List.replicate_succ', List.map_append]
      rfl
    rintro H1 ⟨hD1, hs⟩
    refine ⟨D, _, rfl, SqL.of hD1, ?_⟩
    have e2 : ((List.replicate (vl.map V.int).length true).all id) = true := by simp
    rw [e2]
    refine ⟨_, rfl, iteF ?_⟩
    have F1 := hF.same hs
    have hd1 := hs _ _ hd
    refine ⟨_, rfl, f, rfl, ⟨_, SqL.of F1.l⟩, for_list (a := f) (xs := us) (fun i σ H2 => (∃ a b c x, σ = [some (.int n), some (.ref f), some (.ref d), a, b, c, x]) ∧ H2 = H1) ⟨⟨_, _, _, _, rfl⟩, rfl⟩ (fun i σ H2 _ hv => by rw [hv.2]; exact SqL.of F1.l) ?_ ?_⟩
    · rintro i x σ H2 hi ⟨⟨a, b, c, y, rfl⟩, rfl⟩
      have hit : i < ts.length := by rw [← F1.t.1]; exact (List.getElem?_eq_some_iff.mp hi).1
      have et : ts[i]? = some ts[i] := List.getElem?_eq_getElem hit
      obtain ⟨p, e3, e4⟩ := F1.t.at et
      rw [hi] at e3
      cases e3
      have g := hG _ (List.getElem_mem hit)
      have kk := hk i _ et
      generalize ts[i] = ti at et e4 g kk
      have rd : ∀ z : Int, 0 ≤ z → z < n → atI (vl.map V.int) z = some (.int (BF.at_ vl z.toNat)) := fun z h0 h1 => by
        obtain ⟨j, rfl⟩ : ∃ j : Nat, z = (j : Int) := ⟨z.toNat, by omega⟩
        refine atI_nat ?_
        unfold BF.at_
        rw [List.getElem?_map, List.getD_eq_getElem?_getD, Int.toNat_natCast, List.getElem?_eq_getElem (by omega)]
        rfl
      refine ⟨p, _, rfl, SqT.of e4, rfl, _, _, rfl, _, _, rfl, _, _, rfl, rfl, ?_⟩
      refine ⟨_, rfl, _, rfl, _, _, _, _, rfl, rfl, SqL.of hd1, rd _ g.1 g.2.1, _, rfl, _, rfl, _, _, _, _, rfl, rfl, SqL.of hd1, rd _ g.2.2.1 g.2.2.2, _, rfl, _, _, rfl, rfl, _, _, rfl, rfl, _, rfl, ?_⟩
      rw [decide_eq_false (show ¬ BF.at_ vl ti.1.toNat > BF.at_ vl ti.2.1.toNat + ti.2.2 by unfold BF.lo BF.hi at kk; omega)]
      exact iteF ⟨⟨_, _, _, _, rfl⟩, rfl⟩
    · rintro σ H2 ⟨⟨a, b, c, y, rfl⟩, rfl⟩
      exact q _ hs
end
end Ash

set_option Elab.async false
set_option linter.all false
set_option maxRecDepth 100000
set_option maxHeartbeats 4000000
namespace L2
open PySem PySem.Spec PyProof.Rows
section
variable {X : Cx} {C fI : Addr} {par fl : Str}
/-- n.f in the suite that caught an own error with the one field fl -/
def tByB (fl : Str) (C a : Addr) (cls : Value) (d : Option Addr) (te : TE) : TE := fun σ H Q => te σ H fun x H1 => x = .ref a ∧ cls = .ref C ∧ ∃ (dd : Addr) (v : V), d = some dd ∧ H1 dd = some (.xd [(fl, v)]) ∧ Q v H1
theorem pe_byB {a : Addr} {oe : Obj} {cls : Value} {d : Option Addr} {pn : List (Addr × Obj)} {e : Expr} {te : TE} {pos : Pos} (T : PySem.BadX.Txt X.prog X.K X.mg par fl C fI) (hz : Zc cls d oe) (hf : ∃ vs, oe.data = .fields vs) (he : PE (X.suite a ((a, oe) :: pn)) e te)
    (hb : attributeBase e fl X.env (eval e X.env) = eval e X.env := by rfl) :
    PE (X.suite a ((a, oe) :: pn)) (.Attribute e fl pos) (tByB fl C a cls d te) := by
  refine ⟨fun pins s σ H Q I h => ?_⟩
  refine attr_of hb (thn (he.run pins s σ H _ I h) fun u s1 hh => ?_)
  obtain ⟨x, H1, I1, rx, ex, ec, dd, v, ed, ea, q⟩ := hh
  subst ex
  obtain rfl : u = Value.ref a := rx
  subst ec
  subst ed
  obtain ⟨ha, _⟩ := I1.pin (a, oe) (List.mem_append_left _ List.mem_cons_self)
  obtain ⟨vs, hd⟩ := hf
  have hx : ObjOk X.prog X.w H1 s1.heap dd (.xd [(fl, v)]) := I1.hok dd _ ea
  obtain ⟨mA, hns, hr⟩ := hx
  obtain ⟨od, ho, hl⟩ := lookIn_ns hns
  have l : List.lookup fl [(fl, v)] = some v := by simp [List.lookup]
  obtain ⟨u, hu, ru⟩ := RelO.some_of (v := v) (o := mA fl) (by rw [← l]; exact hr fl)
  have J : PySem.W.InstAt s1.heap a oe C (some od) := ⟨ha, hz.1, by unfold PySem.W.notCls; rw [hd] <;> rfl, by rw [hz.2]; exact ho⟩
  exact HandSPX.exc_get I1.kIn J T.ga T.gg T.exC (PySem.W.findObj_own T.hdC T.noN rfl (by rw [hl, hu])) (handed_of ru) ⟨v, H1, I1.tok _, ru, q⟩
end
end L2
namespace Ash
open PySem PySem.Spec PyProof.Rows L2
open C8 (pss_cut)
def IsI (K : PySem.W.Frag) (H : Hp) (x : V) : Prop := ∃ d, ItAt K H x d
theorem isi_int {K : PySem.W.Frag} {H : Hp} {n : Int} : IsI K H (.int n) := ⟨some n, rfl⟩
theorem isi_ni {K : PySem.W.Frag} {H : Hp} {x : V} (h : NotInt K H x) : IsI K H x := ⟨none, h⟩
theorem isi_all {K : PySem.W.Frag} {H : Hp} : ∀ {xs : List V}, (∀ x ∈ xs, IsI K H x) → ∃ ds : List (Option Int), xs.length = ds.length ∧ ∀ (i : Nat) x d, xs[i]? = some x → ds[i]? = some d → ItAt K H x d
  | [], _ => ⟨[], rfl, fun i x d h _ => by simp at h⟩
  | x :: r, h => by
    obtain ⟨d, hd⟩ := h x List.mem_cons_self
    obtain ⟨ds, e, h2⟩ := isi_all (xs := r) fun y hy => h y (List.mem_cons_of_mem _ hy)
    refine ⟨d :: ds, by rw [List.length_cons, List.length_cons, e], fun i y d' a b => ?_⟩
    cases i with
    | zero => cases a; cases b; exact hd
    | succ i => exact h2 i y d' a b
theorem th_any {K : PySem.W.Frag} {H : Hp} {a : Addr} {xs : List V} (h : H a = some (.tup xs)) (hn : xs.length ≤ 1000) (hx : ∀ x ∈ xs, IsI K H x) : ∃ ds, ThAt K H (.ref a) (some ds) := by
  obtain ⟨ds, e, h2⟩ := isi_all hx
  exact ⟨ds, th_tup h e hn h2⟩
/-- what is told of a list -/
def outD : Option Nat → PyData
  | none => .tuple [.str "told", .int 0]
  | some i => .tuple [.str "fact", .int (i : Nat)]
def outV : Option Nat → List V
  | none => [.str "told", .int 0]
  | some i => [.str "fact", .int (i : Nat)]
def spRefused (K : PySem.W.Frag) : Sp := fun vs H Q _ => ∃ (f : Addr) (us : List V) (qs : List (Option T3)) (n : Nat), vs = [.int n, .ref f] ∧ FsX K n H f us qs ∧ n ≤ 1000 ∧ ∀ l a b H', Same H H' → H' l = some (.lst [.ref a, .ref b]) → H' a = some (.tup (outV (bx qs))) → H' b = some (.tup (outV (bx qs))) → Q (.ref l) H'
def spLF (K : PySem.W.Frag) : Sp := fun vs H Q _ => ∃ (n : Nat) (v : V) (o : Option (List (Option Int))), vs = [.int n, v] ∧ ThAt K H v o ∧ ∀ H', Same H H' → Q (.bl (isF n o)) H'
def spBad (K : PySem.W.Frag) : Sp := fun vs H Q _ => ∃ (p s : Addr) (n : Nat), vs = [.ref p, .int n] ∧ PoolAt H p s ∧ 1 ≤ n ∧ n ≤ 14 ∧ ∀ v q H', Pl H H' p s → FtAt K n H' v q → Q v H'
section
variable {P : Program} {w : World} {K : PySem.W.Frag} {mg : Str → Option Value} {base : Heap}
structure R6 (P : Program) (w : World) (K : PySem.W.Frag) (mg : Str → Option Value) (base : Heap) (CE : Addr) : Prop where
  ring : Cal P w K mg base (L2.CX P w) "ring" 5 ["count", "facts"] (spRingX K CE)
  solution : Cal P w K mg base (L2.CX P w) "solution" 5 ["count", "facts"] (spSolX K CE)
abbrev s_l_refused : Stmt := topS 28
theorem sc_l_refused : FnScope ["count", "facts", "told", "bad"] ["count", "facts"] (defScope s_l_refused) := ⟨rfl, rfl, rfl, by decide +kernel, rfl, by decide +kernel, by decide +kernel⟩
theorem ok_refused {f CE fE : Addr} {fd : FuncData} (F : Fun K "_law_refused" "_law_refused" s_l_refused f fd) (B : Blt mg) (TE : PySem.BadX.Txt P K mg "at" "at" CE fE) (c_BadFact : mg "BadFact" = some (.ref CE)) (G : R6 P w K mg base CE) : FnOk P w K mg base CX0 6 f fd ["count", "facts"] (spRefused K) := by
  refine F.ok sc_l_refused (fun vs H Q E h => ?_) (fun cdv A outer s H vs Q E hr h => ?_)
  · obtain ⟨f, us, qs, n, rfl, _⟩ := h
    rfl
  · obtain ⟨f, us, qs, n, rfl, hF, hn, q⟩ := h
    refine ⟨_, (pss_cons (ps_set (i := 2) sc_l_refused.nd rfl (Or.inl rfl) (pe_lst pa_nil))
    (pss_cut (ps_try_as (i := 3) (tb := fun W => tSeq (tDrop (tCallSD (spRingX K CE) [] (WE W) (tCons (tVar 0) (tCons (tVar 1) tNil)))) (tDrop (tBM K "list" rAppend (tVar 2) (tCons (tTup (tCons (tC (.str "told")) (tCons (tC (.int 0)) tNil))) tNil)))) (ts := fun a cls d => tDrop (tBM K "list" rAppend (tVar 2) (tCons (tTup (tCons (tC (.str "fact")) (tCons (tByB "at" CE a cls d (tVar 3)) tNil))) tNil))) (Wout := fun _ _ _ _ => False) rfl rfl sc_l_refused.nd rfl rfl ⟨rfl, by decide, .inl c_BadFact⟩ takes0 (fun W pn xe tk _ =>
      (pss_cons (ps_expr (pe_calS G.ring (hr.mono (by decide)) (fun σ => passAt tk σ) (pa_cons (pv 0) (pa_cons (pv 1) pa_nil))))
      (pss_one (ps_expr (pe_bm PySem.F.plainAttrs_list PySem.F.slot_list_append PySem.F.type_list_append mt_append (pv 2) (pa_cons (pe_tup (pa_cons pe_str (pa_cons pe_int pa_nil))) pa_nil))))))
      (fun a oe cls d pn hz hf => (pss_one (ps_expr (pe_bm PySem.F.plainAttrs_list PySem.F.slot_list_append PySem.F.type_list_append mt_append (pv 2) (pa_cons (pe_tup (pa_cons pe_str (pa_cons (pe_byB TE hz hf (pv 3)) pa_nil))) pa_nil))))))
    (pss_cons (ps_try_as (i := 3) (tb := fun W => tSeq (tDrop (tCallSD (spSolX K CE) [] (WE W) (tCons (tVar 0) (tCons (tVar 1) tNil)))) (tDrop (tBM K "list" rAppend (tVar 2) (tCons (tTup (tCons (tC (.str "told")) (tCons (tC (.int 0)) tNil))) tNil)))) (ts := fun a cls d => tDrop (tBM K "list" rAppend (tVar 2) (tCons (tTup (tCons (tC (.str "fact")) (tCons (tByB "at" CE a cls d (tVar 3)) tNil))) tNil))) (Wout := fun _ _ _ _ => False) rfl rfl sc_l_refused.nd rfl rfl ⟨rfl, by decide, .inl c_BadFact⟩ takes0 (fun W pn xe tk _ =>
      (pss_cons (ps_expr (pe_calS G.solution (hr.mono (by decide)) (fun σ => passAt tk σ) (pa_cons (pv 0) (pa_cons (pv 1) pa_nil))))
      (pss_one (ps_expr (pe_bm PySem.F.plainAttrs_list PySem.F.slot_list_append PySem.F.type_list_append mt_append (pv 2) (pa_cons (pe_tup (pa_cons pe_str (pa_cons pe_int pa_nil))) pa_nil))))))
      (fun a oe cls d pn hz hf => (pss_one (ps_expr (pe_bm PySem.F.plainAttrs_list PySem.F.slot_list_append PySem.F.type_list_append mt_append (pv 2) (pa_cons (pe_tup (pa_cons pe_str (pa_cons (pe_byB TE hz hf (pv 3)) pa_nil))) pa_nil))))))
    (pss_one (ps_ret (pv 2)))))), ?_⟩
    refine ⟨(by show 0 ≤ sizeLine; decide), fun l hl => ?_⟩
    have sl := sameAt (Same.refl _) hl (o := .lst [])
    refine ⟨fun σ H1 => (∃ x, σ = [some (.int n), some (.ref f), some (.ref l), x]) ∧ ∃ a, H1 l = some (.lst [.ref a]) ∧ H1 a = some (.tup (outV (bx qs))) ∧ Same H H1, ?_, ?_⟩
    · have hl0 : (upd H l (.lst [])) l = some (.lst []) := upd_same
      have F1 := hF.same sl
      generalize upd H l (.lst []) = H1 at hl0 F1 sl ⊢
      have put : ∀ H2, Same H1 H2 → ∀ t, H2 t = none → ∀ (y : Option V), (∃ x, ([some (V.int n), some (.ref f), some (.ref l), y] : List (Option V)) = [some (.int n), some (.ref f), some (.ref l), x]) ∧ ∃ a, (upd (upd H2 t (.tup (outV (bx qs)))) l (.lst ([] ++ [.ref t]))) l = some (.lst [.ref a]) ∧ (upd (upd H2 t (.tup (outV (bx qs)))) l (.lst ([] ++ [.ref t]))) a = some (.tup (outV (bx qs))) ∧ Same H (upd (upd H2 t (.tup (outV (bx qs)))) l (.lst ([] ++ [.ref t]))) := fun H2 s2 t ht y => by
        have htl : t ≠ l := fun z => by rw [z, s2 _ _ hl0] at ht; cases ht
        refine ⟨⟨_, rfl⟩, t, upd_same, by rw [upd_ne htl, upd_same], ?_⟩
        exact sameAt ((sl.trans s2).trans (sameAt (Same.refl _) ht)) hl
      refine ⟨_, rfl, _, rfl, f, us, qs, n, rfl, F1, hn, fun ts vs H2 e hs s2 => ?_, fun ts ns t H2 e hs s2 ht2 => ?_, fun i d H2 hb s2 hx => ?_⟩
      · subst e
        refine ⟨_, rfl, .inl ⟨rfl, _, SqL.of (s2 _ _ hl0)⟩, (by show 2 ≤ sizeLine; decide), fun t ht => ⟨l, [], _, rfl, rfl, sameAt (Same.refl _) ht _ _ (s2 _ _ hl0), small1000 (by decide), ?_⟩⟩
        have := put H2 s2 t ht none
        rw [bx_some ts] at this ⊢
        exact this
      · subst e
        refine ⟨_, rfl, .inl ⟨rfl, _, SqL.of (s2 _ _ hl0)⟩, (by show 2 ≤ sizeLine; decide), fun t ht => ⟨l, [], _, rfl, rfl, sameAt (Same.refl _) ht _ _ (s2 _ _ hl0), small1000 (by decide), ?_⟩⟩
        have := put H2 s2 t ht none
        rw [bx_some ts] at this ⊢
        exact this
      · refine ⟨true, TE.te, fun _ a ha => ?_, fun q => Bool.noConfusion q⟩
        refine ⟨_, rfl, .inl ⟨rfl, _, SqL.of (s2 _ _ hl0)⟩, _, rfl, rfl, rfl, d, _, rfl, hx, (by show 2 ≤ sizeLine; decide), fun t ht => ⟨l, [], _, rfl, rfl, sameAt (Same.refl _) ht _ _ (s2 _ _ hl0), small1000 (by decide), ?_⟩⟩
        have := put H2 s2 t ht none
        rw [hb] at this ⊢
        exact this
    · rintro σ H1 ⟨⟨x, rfl⟩, a, hl1, ha1, s1⟩
      have F1 := hF.same s1
      have fin : ∀ H2, Same H1 H2 → ∀ t, H2 t = none → Q (.ref l) (upd (upd H2 t (.tup (outV (bx qs)))) l (.lst ([.ref a] ++ [.ref t]))) := fun H2 s2 t ht => by
        have htl : t ≠ l := fun z => by rw [z, s2 _ _ hl1] at ht; cases ht
        have hal : a ≠ l := ne_of ha1 hl1 (by intro z; cases z)
        refine q l a t _ (sameAt ((s1.trans s2).trans (sameAt (Same.refl _) ht)) hl) upd_same ?_ (by rw [upd_ne htl, upd_same])
        rw [upd_ne hal]
        exact sameAt (Same.refl _) ht _ _ (s2 _ _ ha1)
      refine ⟨_, rfl, _, rfl, f, us, qs, n, rfl, F1, hn, fun ts vs p2 H2 e hs s2 _ hp2 => ?_, fun ts ns H2 e hs s2 => ?_, fun i d H2 hb s2 hx => ?_⟩
      · subst e
        refine ⟨_, rfl, .inl ⟨rfl, _, SqL.of (s2 _ _ hl1)⟩, (by show 2 ≤ sizeLine; decide), fun t ht => ⟨l, _, _, rfl, rfl, sameAt (Same.refl _) ht _ _ (s2 _ _ hl1), small1000 (by show 1 ≤ 1000; decide), _, rfl, ?_⟩⟩
        have := fin H2 s2 t ht
        rw [bx_some ts] at this
        exact this
      · subst e
        refine ⟨_, rfl, .inl ⟨rfl, _, SqL.of (s2 _ _ hl1)⟩, (by show 2 ≤ sizeLine; decide), fun t ht => ⟨l, _, _, rfl, rfl, sameAt (Same.refl _) ht _ _ (s2 _ _ hl1), small1000 (by show 1 ≤ 1000; decide), _, rfl, ?_⟩⟩
        have := fin H2 s2 t ht
        rw [bx_some ts] at this
        exact this
      · refine ⟨true, TE.te, fun _ a' ha' => ?_, fun q => Bool.noConfusion q⟩
        refine ⟨_, rfl, .inl ⟨rfl, _, SqL.of (s2 _ _ hl1)⟩, _, rfl, rfl, rfl, d, _, rfl, hx, (by show 2 ≤ sizeLine; decide), fun t ht => ⟨l, _, _, rfl, rfl, sameAt (Same.refl _) ht _ _ (s2 _ _ hl1), small1000 (by show 1 ≤ 1000; decide), _, rfl, ?_⟩⟩
        have := fin H2 s2 t ht
        rw [hb] at this
        exact this
end
end Ash

set_option Elab.async false
set_option linter.all false
set_option maxRecDepth 100000
set_option maxHeartbeats 4000000
namespace Ash
open PySem PySem.Spec PyProof.Rows L2
open C8 (pss_cut)
theorem ft_any {K : PySem.W.Frag} {n : Nat} {H : Hp} {a : Addr} {xs : List V} (h : H a = some (.tup xs)) (hn : xs.length ≤ 1000) (hx : ∀ x ∈ xs, IsI K H x) : ∃ q, FtAt K n H (.ref a) q := by
  obtain ⟨ds, e⟩ := th_any h hn hx
  exact ft_of e
section
variable {P : Program} {w : World} {K : PySem.W.Frag} {mg : Str → Option Value} {base : Heap}
abbrev s_l_bad : Stmt := topS 29
theorem sc_l_bad : FnScope ["state", "count", "a", "bad"] ["state", "count"] (defScope s_l_bad) := ⟨rfl, rfl, rfl, by decide +kernel, rfl, by decide +kernel, by decide +kernel⟩
theorem ok_bad {f : Addr} {fd : FuncData} (F : Fun K "_law_bad" "_law_bad" s_l_bad f fd) (B : Blt mg) (G : G1 P w K mg base) (Gs : Cal P w K mg base CX0 "_law_strange" 2 ["state"] (spStrange K)) : FnOk P w K mg base CX0 3 f fd ["state", "count"] (spBad K) := by
  refine F.ok sc_l_bad (fun vs H Q E h => ?_) (fun cdv A outer s H vs Q E hr h => ?_)
  · obtain ⟨p, s, n, rfl, _⟩ := h
    rfl
  · obtain ⟨p, s0, n, rfl, hP, n1, n14, q⟩ := h
    refine ⟨_, (pss_cons (ps_set (i := 2) sc_l_bad.nd rfl (Or.inl rfl) (pe_cal G.law_draw (hr.mono (by decide)) pass0 (pa_cons (pv 0) (pa_cons (pv 1) pa_nil))))
    (pss_cons (ps_set (i := 3) sc_l_bad.nd rfl (Or.inl rfl) (pe_lst (pa_cons (pe_tup (pa_cons (pv 2) (pa_cons (pv 1) (pa_cons pe_int pa_nil)))) (pa_cons (pe_tup (pa_cons (pv 1) (pa_cons (pv 2) (pa_cons pe_int pa_nil)))) (pa_cons (pe_tup (pa_cons (pe_un un_neg pe_int) (pa_cons (pv 2) (pa_cons pe_int pa_nil)))) (pa_cons (pe_tup (pa_cons (pv 2) (pa_cons (pe_un un_neg pe_int) (pa_cons pe_int pa_nil)))) (pa_cons (pe_tup (pa_cons (pv 2) (pa_cons (pv 2) pa_nil))) (pa_cons (pe_tup (pa_cons (pv 2) (pa_cons (pv 2) (pa_cons pe_int (pa_cons pe_int pa_nil))))) (pa_cons (pe_lst (pa_cons (pv 2) (pa_cons (pv 2) (pa_cons pe_int pa_nil)))) (pa_cons (pe_tup (pa_cons (pv 2) (pa_cons (pv 2) (pa_cons pe_non pa_nil)))) (pa_cons (pe_tup (pa_cons (pv 2) (pa_cons (pv 2) (pa_cons pe_str pa_nil)))) pa_nil)))))))))))
    (pss_cons (ps_set (i := 3) sc_l_bad.nd rfl (Or.inl rfl) (pe_op op_cat (pv 3) (pe_lst (pa_cons (pe_tup (pa_cons pe_bl (pa_cons (pv 2) (pa_cons pe_int pa_nil)))) (pa_cons (pe_tup (pa_cons (pv 2) (pa_cons pe_bl (pa_cons pe_int pa_nil)))) (pa_cons (pe_tup (pa_cons (pv 2) (pa_cons (pv 2) (pa_cons pe_bl pa_nil)))) (pa_cons (pe_cal Gs (hr.mono (by decide)) pass0 (pa_cons (pv 0) pa_nil)) pa_nil)))))))
    (pss_one (ps_ret (pe_ix ix_list (pv 3) (pe_cal G.law_draw (hr.mono (by decide)) pass0 (pa_cons (pv 0) (pa_cons (pe_callB call_len_seq (by rfl) B.len (by decide +kernel) (pa_cons (pv 3) pa_nil)) pa_nil))) (fun _ _ => rfl))))))), ?_⟩
    refine ⟨_, rfl, _, rfl, p, s0, n, rfl, hP, (by omega), (by omega), fun a H0 a0 a1 P0 => ?_⟩
    refine ⟨_, rfl, _, rfl, (by show 3 ≤ sizeLine; decide), fun t1 h1 => ⟨_, rfl, _, rfl, (by show 3 ≤ sizeLine; decide), fun t2 h2 => ⟨_, rfl, _, rfl, (by show 3 ≤ sizeLine; decide), fun t3 h3 => ⟨_, rfl, _, rfl, (by show 3 ≤ sizeLine; decide), fun t4 h4 => ⟨_, rfl, _, rfl, (by show 2 ≤ sizeLine; decide), fun t5 h5 => ⟨_, rfl, _, rfl, (by show 4 ≤ sizeLine; decide), fun t6 h6 => ⟨_, rfl, _, rfl, (by show 3 ≤ sizeLine; decide), fun t7 h7 => ⟨_, rfl, _, rfl, (by show 3 ≤ sizeLine; decide), fun t8 h8 => ⟨_, rfl, _, rfl, (by show 3 ≤ sizeLine; decide), fun t9 h9 => ⟨(by show 9 ≤ sizeLine; decide), fun b9 hb9 => ?_⟩⟩⟩⟩⟩⟩⟩⟩⟩⟩
    have A1 := sameAt (Same.refl _) h1 (o := .tup [.int a, .int n, .int 0])
    have A2 := sameAt (Same.refl _) h2 (o := .tup [.int n, .int a, .int 0])
    have A3 := sameAt (Same.refl _) h3 (o := .tup [.int (-1), .int a, .int 0])
    have A4 := sameAt (Same.refl _) h4 (o := .tup [.int a, .int (-1), .int 0])
    have A5 := sameAt (Same.refl _) h5 (o := .tup [.int a, .int a])
    have A6 := sameAt (Same.refl _) h6 (o := .tup [.int a, .int a, .int 0, .int 0])
    have A7 := sameAt (Same.refl _) h7 (o := .lst [.int a, .int a, .int 0])
    have A8 := sameAt (Same.refl _) h8 (o := .tup [.int a, .int a, .non])
    have A9 := sameAt (Same.refl _) h9 (o := .tup [.int a, .int a, .str "0"])
    have Ab := sameAt (Same.refl _) hb9 (o := .lst [.ref t1, .ref t2, .ref t3, .ref t4, .ref t5, .ref t6, .ref t7, .ref t8, .ref t9])
    have E9 := A9.trans Ab
    have E8 := A8.trans E9
    have E7 := A7.trans E8
    have E6 := A6.trans E7
    have E5 := A5.trans E6
    have E4 := A4.trans E5
    have E3 := A3.trans E4
    have E2 := A2.trans E3
    have E1 := A1.trans E2
    have e1 := E2 _ _ (upd_same (a := t1))
    have e2 := E3 _ _ (upd_same (a := t2))
    have e3 := E4 _ _ (upd_same (a := t3))
    have e4 := E5 _ _ (upd_same (a := t4))
    have e5 := E6 _ _ (upd_same (a := t5))
    have e6 := E7 _ _ (upd_same (a := t6))
    have e7 := E8 _ _ (upd_same (a := t7))
    have e8 := E9 _ _ (upd_same (a := t8))
    have e9 := Ab _ _ (upd_same (a := t9))
    have eb : (upd (upd (upd (upd (upd (upd (upd (upd (upd (upd H0 t1 (.tup [.int a, .int n, .int 0])) t2 (.tup [.int n, .int a, .int 0])) t3 (.tup [.int (-1), .int a, .int 0])) t4 (.tup [.int a, .int (-1), .int 0])) t5 (.tup [.int a, .int a])) t6 (.tup [.int a, .int a, .int 0, .int 0])) t7 (.lst [.int a, .int a, .int 0])) t8 (.tup [.int a, .int a, .non])) t9 (.tup [.int a, .int a, .str "0"])) b9 (.lst [.ref t1, .ref t2, .ref t3, .ref t4, .ref t5, .ref t6, .ref t7, .ref t8, .ref t9])) b9 = some (.lst [.ref t1, .ref t2, .ref t3, .ref t4, .ref t5, .ref t6, .ref t7, .ref t8, .ref t9]) := upd_same
    have Eb0 := ((((((((A1.trans A2).trans A3).trans A4).trans A5).trans A6).trans A7).trans A8).trans A9)
    have b9p : b9 ≠ p := fun z => P0.now.ne.1 (z ▸ none_of Eb0 hb9)
    clear A1 A2 A3 A4 A5 A6 A7 A8 A9 Ab E2 E3 E4 E5 E6 E7 E8 E9 h1 h2 h3 h4 h5 h6 h7 h8 h9 hb9 Eb0
    generalize upd (upd (upd (upd (upd (upd (upd (upd (upd (upd H0 t1 (.tup [.int a, .int n, .int 0])) t2 (.tup [.int n, .int a, .int 0])) t3 (.tup [.int (-1), .int a, .int 0])) t4 (.tup [.int a, .int (-1), .int 0])) t5 (.tup [.int a, .int a])) t6 (.tup [.int a, .int a, .int 0, .int 0])) t7 (.lst [.int a, .int a, .int 0])) t8 (.tup [.int a, .int a, .non])) t9 (.tup [.int a, .int a, .str "0"])) b9 (.lst [.ref t1, .ref t2, .ref t3, .ref t4, .ref t5, .ref t6, .ref t7, .ref t8, .ref t9]) = H1 at E1 e1 e2 e3 e4 e5 e6 e7 e8 e9 eb ⊢
    have P1 := P0.same E1
    refine ⟨_, rfl, _, rfl, (by show 3 ≤ sizeLine; decide), fun u1 g1 => ⟨_, rfl, (by show 3 ≤ sizeLine; decide), fun u2 g2 => ⟨_, rfl, _, rfl, (by show 3 ≤ sizeLine; decide), fun u3 g3 => ?_⟩⟩⟩
    have B1 := sameAt (Same.refl _) g1 (o := .tup [.bl true, .int a, .int 0])
    have B2 := sameAt (Same.refl _) g2 (o := .tup [.int a, .bl false, .int 0])
    have B3 := sameAt (Same.refl _) g3 (o := .tup [.int a, .int a, .bl true])
    have d1 := (B2.trans B3) _ _ (upd_same (a := u1))
    have d2 := B3 _ _ (upd_same (a := u2))
    have B := (B1.trans B2).trans B3
    have d3 : (upd (upd (upd H1 u1 (.tup [.bl true, .int a, .int 0])) u2 (.tup [.int a, .bl false, .int 0])) u3 (.tup [.int a, .int a, .bl true])) u3 = some (.tup [.int a, .int a, .bl true]) := upd_same
    generalize upd (upd (upd H1 u1 (.tup [.bl true, .int a, .int 0])) u2 (.tup [.int a, .bl false, .int 0])) u3 (.tup [.int a, .int a, .bl true]) = H2 at B d1 d2 d3 ⊢
    have P2 := P1.same B
    refine ⟨_, rfl, p, s0, rfl, P2.now, fun sv so H3 P3 hS => ⟨(by show 4 ≤ sizeLine; decide), fun l4 hl4 => ?_⟩⟩
    have C1 := sameAt (Same.refl _) hl4 (o := .lst [.ref u1, .ref u2, .ref u3, sv])
    have eb4 := C1 _ _ (P3.keep (B _ _ eb) b9p)
    refine ⟨b9, l4, _, _, rfl, rfl, eb4, upd_same, (by show 9 + 4 ≤ sizeLine; decide), fun bb hbb => ?_⟩
    have C2 := sameAt (Same.refl _) hbb (o := .lst ([.ref t1, .ref t2, .ref t3, .ref t4, .ref t5, .ref t6, .ref t7, .ref t8, .ref t9] ++ [.ref u1, .ref u2, .ref u3, sv]))
    have C := C1.trans C2
    have P4 := (P2.trans P3).same C
    have bbp : bb ≠ p := fun z => ((P2.trans P3).same C1).now.ne.1 (z ▸ hbb)
    refine ⟨_, rfl, _, rfl, _, rfl, bb, _, rfl, .inl (SqL.of upd_same), p, s0, _, rfl, P4.now, (by show (0 : Int) < 13; decide), (by show (13 : Int) < 2 ^ 200; decide), fun g H5 g0 g1 P5 => ?_⟩
    obtain ⟨j, rfl⟩ : ∃ j : Nat, g = (j : Int) := ⟨g.toNat, by omega⟩
    have g1 : (j : Int) < 13 := g1
    have EV : Ev H2 H5 := (P3.ev.trans (Ev.same C)).trans P5.ev
    have EV1 : Ev H1 H5 := (Ev.same B).trans EV
    have mk : ∀ {t xs}, H5 t = some (.tup xs) → xs.length ≤ 1000 → (∀ x ∈ xs, IsI K H5 x) → ∃ q, FtAt K n H5 (.ref t) q := fun h hn hx => ft_any h hn hx
    have it : ∃ v', ([.ref t1, .ref t2, .ref t3, .ref t4, .ref t5, .ref t6, .ref t7, .ref t8, .ref t9, .ref u1, .ref u2, .ref u3, sv] : List V)[j]? = some v' ∧ ∃ q, FtAt K n H5 v' q := by
      have is3 : ∀ {x y z : V}, IsI K H5 x → IsI K H5 y → IsI K H5 z → ∀ v ∈ [x, y, z], IsI K H5 v := fun hx hy hz v hv => by
        simp only [List.mem_cons, List.not_mem_nil, or_false] at hv
        rcases hv with rfl | rfl | rfl
        · exact hx
        · exact hy
        · exact hz
      rcases j with _ | _ | _ | _ | _ | _ | _ | _ | _ | _ | _ | _ | _ | j
      · exact ⟨_, rfl, mk (EV1.tup e1) (by show 3 ≤ 1000; decide) (is3 isi_int isi_int isi_int)⟩
      · exact ⟨_, rfl, mk (EV1.tup e2) (by show 3 ≤ 1000; decide) (is3 isi_int isi_int isi_int)⟩
      · exact ⟨_, rfl, mk (EV1.tup e3) (by show 3 ≤ 1000; decide) (is3 isi_int isi_int isi_int)⟩
      · exact ⟨_, rfl, mk (EV1.tup e4) (by show 3 ≤ 1000; decide) (is3 isi_int isi_int isi_int)⟩
      · exact ⟨_, rfl, mk (EV1.tup e5) (by show 2 ≤ 1000; decide) fun v hv => by
          simp only [List.mem_cons, List.not_mem_nil, or_false, or_self] at hv
          rw [hv]
          exact isi_int⟩
      · refine ⟨_, rfl, mk (EV1.tup e6) (by show 4 ≤ 1000; decide) fun v hv => ?_⟩
        simp only [List.mem_cons, List.not_mem_nil, or_false] at hv
        rcases hv with rfl | rfl | rfl | rfl <;> exact isi_int
      · exact ⟨_, rfl, ft_of (ThAt.ev (nt_lst (.base (.lst e7))) EV1)⟩
      · exact ⟨_, rfl, mk (EV1.tup e8) (by show 3 ≤ 1000; decide) (is3 isi_int isi_int (isi_ni ni_non))⟩
      · exact ⟨_, rfl, mk (EV1.tup e9) (by show 3 ≤ 1000; decide) (is3 isi_int isi_int (isi_ni ni_str))⟩
      · exact ⟨_, rfl, mk (EV.tup d1) (by show 3 ≤ 1000; decide) (is3 (isi_ni ni_bl) isi_int isi_int)⟩
      · exact ⟨_, rfl, mk (EV.tup d2) (by show 3 ≤ 1000; decide) (is3 isi_int (isi_ni ni_bl) isi_int)⟩
      · exact ⟨_, rfl, mk (EV.tup d3) (by show 3 ≤ 1000; decide) (is3 isi_int isi_int (isi_ni ni_bl))⟩
      · exact ⟨_, rfl, ft_of (hS.ev ((Ev.same C).trans P5.ev))⟩
      · omega
    obtain ⟨v', hv', qq, hT⟩ := it
    exact ⟨bb, _, _, v', rfl, rfl, SqL.of (P5.keep upd_same bbp), atI_nat hv', q v' qq H5 (P4.trans P5) hT⟩
abbrev s_l_is_fact : Stmt := topS 30
theorem sc_l_is_fact : FnScope ["count", "thing", "part"] ["count", "thing"] (defScope s_l_is_fact) := ⟨rfl, rfl, rfl, by decide +kernel, rfl, by decide +kernel, by decide +kernel⟩
theorem ok_law_is_fact {f : Addr} {fd : FuncData} (F : Fun K "_law_is_fact" "_law_is_fact" s_l_is_fact f fd) (B : Blt mg) (G : G2 P w K mg base) : FnOk P w K mg base CX0 2 f fd ["count", "thing"] (spLF K) := by
  refine F.ok sc_l_is_fact (fun vs H Q E h => ?_) (fun cdv A outer s H vs Q E hr h => ?_)
  · obtain ⟨n, v, o, rfl, _⟩ := h
    rfl
  · obtain ⟨n, v, o, rfl, hT, q⟩ := h
    refine ⟨_, (pss_cons (ps_if (PW.pt (pw_or (pt_not (pt_val (pe_callB call_isi (by rfl) B.isinstance (by decide +kernel) (pa_cons (pv 1) (pa_cons (pe_bltn (v := .ty "tuple") (by rfl) B.tuple (by decide +kernel) rfl) pa_nil))))) (pw_or (pt_cmpR op_ne (pe_callB call_len_seq (by rfl) B.len (by decide +kernel) (pa_cons (pv 1) pa_nil)) pe_int (nomark _)) (pw_or1 (pt_not (pt_val (pe_callB (cr_all rfl) (by rfl) B.all (by decide +kernel) (pa_cons (pe_lc (own := [("part", 2)]) (g := gName 2) (tt := tYes) (by rfl) sc_l_is_fact.nd (pi_tup (pv 1)) (blkOk_by (own := [("part", 2)]) (N := ["count", "thing", "part"]) (sc := defScope s_l_is_fact) (by decide +kernel)) (fun _ _ _ _ _ => (pg_name (i := 2) sc_l_is_fact.nd rfl (Or.inl rfl))) (fun _ _ _ _ _ => pts_nil) (fun _ _ _ _ _ => (pe_cal G.law_is_integer (hr.mono (by decide)) pass0 (pa_cons (pv 2) pa_nil)))) pa_nil))))))))
      (pss_one (ps_ret pe_bl))
      pss_nil)
    (pss_one (ps_ret (pe_and (pe_chain op_le op_lt pe_int (pe_ix ix_tup (pv 1) pe_int (fun _ _ => rfl)) (pv 0)) (pe_one (pe_chain op_le op_lt pe_int (pe_ix ix_tup (pv 1) pe_int (fun _ _ => rfl)) (pv 0))))))), ?_⟩
    have q0 := q H (Same.refl H)
    cases o with
    | none =>
      obtain ⟨t, ty, e⟩ := hT
      exact ⟨_, rfl, _, _, _, _, false, rfl, ClsV.ty _, ty, e, _, rfl, iteT (iteT q0)⟩
    | some ds =>
      obtain ⟨t, xs, rfl, ty, hS, hl, h1000, hx, hH⟩ := hT
      refine ⟨_, rfl, _, _, _, _, true, rfl, ClsV.ty _, ty, kit_ty (by decide +kernel), _, rfl, iteF ?_⟩
      refine ⟨_, rfl, t, _, rfl, .inr hS, rfl, _, rfl, ?_⟩
      refine ite2 (fun c => ?_) (fun c => ?_)
      · have c3 : xs.length ≠ 3 := fun z => by
          have c : (!decide (V.int xs.length = V.int 3)) = true := c
          rw [z] at c
          exact absurd c (by decide)
        have e : isF n (some ds) = false := by
          cases hb : isF n (some ds) with
          | false => rfl
          | true =>
            obtain ⟨a, b, c, e, _⟩ := isF_eq hb
            cases e
            exact absurd hl c3
        rw [e] at q0
        exact iteT q0
      · have c3 : xs.length = 3 := by
          refine Classical.byContradiction fun z => c ?_
          show (!decide (V.int xs.length = V.int 3)) = true
          rw [decide_eq_false (fun y : V.int xs.length = V.int 3 => z (by injection y with y; omega))]
          rfl
        clear c
        refine ⟨_, rfl, t, rfl, ⟨_, hS⟩, fun D hD => lc_it (walk_tup (xs := xs)) (fun i H1 => H1 D = some (.lst (((ds.take i).map (·.isSome)).map V.bl)) ∧ Same H H1) ⟨upd_same, sameAt (Same.refl H) hD⟩ (fun i H1 _ hv => seqS hS hv.2) ?_ ?_⟩
        · rintro i x H1 H2 hi ⟨hD1, hs⟩ ⟨rfl, hxi⟩
          have hil : i < ds.length := by rw [← hl]; exact hi
          have hd : ds[i]? = some ds[i] := List.getElem?_eq_getElem hil
          have hI := (hx i x _ hxi hd).ev (Ev.same hs)
          have hsz : (((ds.take i).map (·.isSome)).map V.bl).length < sizeLine := by
            rw [List.length_map, List.length_map, List.length_take]
            exact small1000 (by omega)
          refine ⟨rfl, _, rfl, _, rfl, ?_⟩
          rw [list_take hd, List.map_append, List.map_append]
          generalize ds[i] = d at hI
          cases d with
          | none => exact .inr ⟨hI, _, hD1, hsz, upd_same, sameAt hs hD⟩
          | some n => exact .inl ⟨n, hI, _, hD1, hsz, upd_same, sameAt hs hD⟩
        rintro H1 ⟨hD1, hs⟩
        rw [hl, List.take_length] at hD1
        refine ⟨D, _, rfl, SqL.of hD1, ?_⟩
        rw [List.all_map]
        have q1 := q H1 hs
        obtain ⟨a, b, c, rfl⟩ : ∃ a b c, ds = [a, b, c] := by
          match ds, hl.symm.trans c3 with
          | [a, b, c], _ => exact ⟨a, b, c, rfl⟩
        obtain ⟨x, y, z, rfl⟩ : ∃ x y z, xs = [x, y, z] := by
          match xs, c3 with
          | [x, y, z], _ => exact ⟨x, y, z, rfl⟩
        have hx0 := hx 0 x a rfl rfl
        have hx1 := hx 1 y b rfl rfl
        cases a with
        | none => exact ⟨_, rfl, iteT q1⟩
        | some a =>
          cases b with
          | none => exact ⟨_, rfl, iteT q1⟩
          | some b =>
            cases c with
            | none => exact ⟨_, rfl, iteT q1⟩
            | some c =>
              obtain rfl : x = .int a := hx0
              obtain rfl : y = .int b := hx1
              have hS1 := seqS hS hs
              have q1 : Q (.bl ((decide (0 ≤ a) && decide (0 ≤ b)) && (decide (a < n) && decide (b < n)))) H1 := q1
              refine ⟨_, rfl, iteF ?_⟩
              refine ⟨_, rfl, _, _, _, _, rfl, rfl, hS1, rfl, _, _, rfl, rfl, _, rfl, ?_⟩
              by_cases ca : 0 ≤ a
              · rw [decide_eq_true ca] at q1 ⊢
                refine iteT ⟨_, rfl, _, _, rfl, rfl, _, rfl, ?_⟩
                by_cases cn : a < n
                · rw [decide_eq_true cn] at q1 ⊢
                  refine iteT ⟨_, rfl, _, _, _, _, rfl, rfl, hS1, rfl, _, _, rfl, rfl, _, rfl, ?_⟩
                  by_cases cb : 0 ≤ b
                  · rw [decide_eq_true cb] at q1 ⊢
                    exact iteT ⟨_, rfl, _, _, rfl, rfl, q1⟩
                  · rw [decide_eq_false cb] at q1 ⊢
                    exact iteF q1
                · rw [decide_eq_false cn, Bool.false_and, Bool.and_false] at q1
                  rw [decide_eq_false cn]
                  exact iteF q1
              · rw [decide_eq_false ca, Bool.false_and, Bool.false_and] at q1
                rw [decide_eq_false ca]
                exact iteF ⟨_, rfl, iteF q1⟩
end
end Ash

set_option Elab.async false
set_option linter.all false
set_option maxRecDepth 100000
set_option maxHeartbeats 4000000
namespace Ash
open PySem PySem.Spec PyProof.Rows L2
open C8 (pss_cut)
theorem noPart {σ : L2.St} {H : Hp} {Q : Option Int → Hp → Prop} (h : Q none H) : tNoPart σ H Q := h
theorem FsX.ins {K : PySem.W.Frag} {n k : Nat} {H : Hp} {f : Addr} {us : List V} {qs : List (Option T3)} {v : V} {q : Option T3} (h : FsX K n H f us qs) (hv : FtAt K n H v q) (hn : us.length < 1000) : FsX K n (upd H f (.lst (us.take k ++ [v] ++ us.drop k))) f (us.take k ++ [v] ++ us.drop k) (qs.take k ++ [q] ++ qs.drop k) := by
  have e : Ev H (upd H f (.lst (us.take k ++ [v] ++ us.drop k))) := (Ev.refl H).updL h.l
  have hl := h.len
  have len : ∀ {α : Type} {l : List α} {x : α}, (l.take k ++ [x] ++ l.drop k).length = l.length + 1 := fun {α} {l} {x} => by
    rw [List.length_append, List.length_append, List.length_take, List.length_drop]
    show min _ _ + 1 + _ = _
    omega
  refine ⟨upd_same, by rw [len, len, hl], fun i y z a b => ?_, by rw [len]; omega⟩
  refine FtAt.ev ?_ e
  have lt : (us.take k).length = (qs.take k).length := by rw [List.length_take, List.length_take, hl]
  by_cases c1 : i < (us.take k ++ [v]).length
  · rw [List.getElem?_append_left c1] at a
    rw [List.getElem?_append_left (by rw [List.length_append, ← lt]; rw [List.length_append] at c1; exact c1)] at b
    by_cases c2 : i < (us.take k).length
    · rw [List.getElem?_append_left c2, List.getElem?_take] at a
      rw [List.getElem?_append_left (by rw [← lt]; exact c2), List.getElem?_take] at b
      by_cases c3 : i < k
      · rw [if_pos c3] at a b
        exact h.at_ i y z a b
      · rw [if_neg c3] at a
        cases a
    · have : i = (us.take k).length := by
        rw [List.length_append] at c1
        have c1 : i < (us.take k).length + 1 := c1
        omega
      rw [List.getElem?_append_right (by omega), this, Nat.sub_self] at a
      rw [List.getElem?_append_right (by omega), this, lt, Nat.sub_self] at b
      cases a
      cases b
      exact hv
  · rw [List.getElem?_append_right (by omega), List.getElem?_drop] at a
    rw [List.getElem?_append_right (by rw [List.length_append, ← lt]; rw [List.length_append] at c1; have c1 : ¬ i < (us.take k).length + 1 := c1; show (us.take k).length + 1 ≤ i; omega), List.getElem?_drop] at b
    have e2 : (us.take k ++ [v]).length = (qs.take k ++ [q]).length := by rw [List.length_append, List.length_append, lt]; rfl
    rw [e2] at a
    exact h.at_ _ y z a b
theorem out_dp {K : PySem.W.Frag} {H : Hp} {a : Addr} {o : Option Nat} (h : H a = some (.tup (outV o))) : Dp K H (.ref a) (outD o) := by
  cases o with
  | none => exact .tup (SqT.of h) (.cons (.str _) (.cons (.int _) .nil))
  | some i => exact .tup (SqT.of h) (.cons (.str _) (.cons (.int _) .nil))
theorem out_lay (o : Option Nat) : (outD o).canLay0 = true ∧ (outD o).depth ≤ 2 := by
  cases o with
  | none =>
    obtain ⟨h1, h2⟩ := flat_lay (ds := [.str "told", .int 0]) (by decide +kernel)
    unfold outD
    simp [PyData.canLay0, PyData.depth, h1]
    omega
  | some i =>
    obtain ⟨h1, h2⟩ := flat_lay (ds := [.str "fact", .int (i : Nat)]) (by
      rw [List.all_cons, List.all_cons, List.all_nil]
      rw [show flatD (.str "fact") = true from by decide +kernel]
      rfl)
    unfold outD
    simp [PyData.canLay0, PyData.depth, h1]
    omega
theorem outs_shaped (o : Option Nat) : SeqAt.shaped (.list [outD o, outD o]) = true := by
  obtain ⟨h1, h2⟩ := out_lay o
  unfold SeqAt.shaped
  simp [PyData.canLay0, PyData.canLayAll0, PyData.depth, PyData.depthAll, h1]
  omega
theorem shaped_flatL {ds : List PyData} (h : ds.all flatD = true) : SeqAt.shaped (.list ds) = true := by
  obtain ⟨h1, h2⟩ := flat_lay h
  unfold SeqAt.shaped
  simp [PyData.canLay0, PyData.depth, h1]
  omega
theorem ints_dpA {K : PySem.W.Frag} {H : Hp} : ∀ (ns : List Int), DpAll K H (ns.map V.int) (ns.map PyData.int)
  | [] => .nil
  | n :: r => .cons (.int n) (ints_dpA r)
theorem ints_flat (ns : List Int) : (ns.map PyData.int).all flatD = true := by
  rw [List.all_map, List.all_eq_true]
  intro x _
  rfl
def rLenS (K : PySem.W.Frag) : List V → Hp → VK → Prop := fun xs H Q => ∃ p ys, xs = [.ref p] ∧ (SqL K H p ys ∨ SqT K H p ys) ∧ Q (.int ys.length) H
def spRefuses : Sp := fun vs H Q _ => ∃ (p s f : Addr) (n : Nat) (us : List V) (ts : List T3), vs = [.ref p, .int n, .ref f] ∧ PoolAt H p s ∧ 1 ≤ n ∧ n ≤ 14 ∧ Fs H f us ts ∧ BF.Good n ts ∧ us.length ≤ 20 ∧ f ≠ p ∧ ∀ H', Pl H H' p s → Q (.bl true) H'
section
variable {P : Program} {w : World} {K : PySem.W.Frag} {mg : Str → Option Value} {base : Heap}
structure S6 (P : Program) (w : World) (K : PySem.W.Frag) (mg : Str → Option Value) (base : Heap) : Prop extends G2 P w K mg base where
  law_bad : Cal P w K mg base CX0 "_law_bad" 3 ["state", "count"] (spBad K)
  law_is_fact : Cal P w K mg base CX0 "_law_is_fact" 2 ["count", "thing"] (spLF K)
  law_refused : Cal P w K mg base CX0 "_law_refused" 6 ["count", "facts"] (spRefused K)
abbrev s_l_refuses : Stmt := topS 31
theorem sc_l_refuses : FnScope ["state", "count", "facts", "handed", "k", "wrong", "due"] ["state", "count", "facts"] (defScope s_l_refuses) := ⟨rfl, rfl, rfl, by decide +kernel, rfl, by decide +kernel, by decide +kernel⟩
theorem ok_refuses {f : Addr} {fd : FuncData} (F : Fun K "_law_refuses" "_law_refuses" s_l_refuses f fd) (B : Blt mg) (G : S6 P w K mg base) : FnOk P w K mg base CX0 7 f fd ["state", "count", "facts"] spRefuses := by
  refine F.ok sc_l_refuses (fun vs H Q E h => ?_) (fun cdv A outer s H vs Q E hr h => ?_)
  · obtain ⟨p, s, f, n, us, ts, rfl, _⟩ := h
    rfl
  · obtain ⟨p, s0, f, n, us, ts, rfl, hP, n1, n14, hF, hG, u20, hfp, q⟩ := h
    refine ⟨_, (pss_cons (ps_set (i := 3) sc_l_refuses.nd rfl (Or.inr rfl) (pe_callTy call_list_of (by rfl) B.list (by decide +kernel) (pa_cons (pv 2) pa_nil)))
    (pss_cons (ps_for PassesOwn.never rfl (pi_range1 (by rfl) B.range (pa_cons (pe_op op_add pe_int (pe_cal G.law_draw (hr.mono (by decide)) pass0 (pa_cons (pv 0) (pa_cons pe_int pa_nil)))) pa_nil)) (pg_name (i := 4) sc_l_refuses.nd rfl (Or.inl rfl))
      (pss_one (ps_expr (pe_bm PySem.F.plainAttrs_list PySem.F.slot_list_insert PySem.F.type_list_insert mt_insert (pv 3) (pa_cons (pe_cal G.law_draw (hr.mono (by decide)) pass0 (pa_cons (pv 0) (pa_cons (pe_op op_add (pe_callB (show CallR _ (.builtin "len") (rLenS K) from call_len_seq) (by rfl) B.len (by decide +kernel) (pa_cons (pv 3) pa_nil)) pe_int) pa_nil))) (pa_cons (pe_cal G.law_bad (hr.mono (by decide)) pass0 (pa_cons (pv 0) (pa_cons (pv 1) pa_nil))) pa_nil))))))
    (pss_cons (ps_setLc (i := 5) (own := [("k", 4)]) (g := gName 4) (by rfl) sc_l_refuses.nd rfl rfl (sw_true rfl rfl rfl (by decide +kernel)) (pi_range1 (by rfl) B.range (pa_cons (pe_callB (show CallR _ (.builtin "len") (rLenS K) from call_len_seq) (by rfl) B.len (by decide +kernel) (pa_cons (pv 3) pa_nil)) pa_nil)) (blkOk_by (own := [("k", 4)]) (N := ["state", "count", "facts", "handed", "k", "wrong", "due"]) (sc := defScope s_l_refuses) (by decide +kernel)) (fun _ _ _ _ _ => (pg_name (i := 4) sc_l_refuses.nd rfl (Or.inl rfl))) (fun _ _ _ _ _ => pts_one (pt_not (pt_val (pe_cal G.law_is_fact (hr.mono (by decide)) pass0 (pa_cons (pv 1) (pa_cons (pe_ix (show IxR _ (rIxL K) from ix_list) (pv 3) (pv 4) (fun _ _ => rfl)) pa_nil)))))) (fun _ _ _ _ _ => (pv 4)))
    (pss_cons (ps_set (i := 6) sc_l_refuses.nd rfl (Or.inl rfl) (pe_tup (pa_cons pe_str (pa_cons pe_int pa_nil))))
    (pss_cut (ps_if (pt_cmpR op_gt (pe_callB call_len_seq (by rfl) B.len (by decide +kernel) (pa_cons (pv 5) pa_nil)) pe_int (nomark _))
      (pss_one (ps_set (i := 6) sc_l_refuses.nd rfl (Or.inl rfl) (pe_tup (pa_cons pe_str (pa_cons (pe_ix ix_list (pv 5) pe_int (fun _ _ => rfl)) pa_nil)))))
      pss_nil)
    (pss_one (ps_ret (pe_and (pe_cmpR (op_eqD hr.units) (pe_cal G.law_refused (hr.mono (by decide)) pass0 (pa_cons (pv 1) (pa_cons (pv 3) pa_nil))) (pe_lst (pa_cons (pv 6) (pa_cons (pv 6) pa_nil))) (nomark _)) (pe_one (pe_cmpR (op_eqD hr.units) (pe_cal G.law_refused (hr.mono (by decide)) pass0 (pa_cons (pv 1) (pa_cons (pe_callTy call_list_of (by rfl) B.list (by decide +kernel) (pa_cons (pv 2) pa_nil)) pa_nil))) (pe_lst (pa_cons (pe_tup (pa_cons pe_str (pa_cons pe_int pa_nil))) (pa_cons (pe_tup (pa_cons pe_str (pa_cons pe_int pa_nil))) pa_nil))) (nomark _))))))))))), ?_⟩
    refine ⟨_, rfl, f, _, rfl, .inl (SqL.of hF.l), fun hd hhd => ?_⟩
    have sh := sameAt (Same.refl _) hhd (o := .lst us)
    have hdp : hd ≠ p := fun z => hP.ne.1 (z ▸ hhd)
    have hdf : hd ≠ f := fun z => by rw [z, hF.l] at hhd; cases hhd
    have hds : hd ≠ s0 := fun z => hP.ne.2 (z ▸ hhd)
    have F1 := hF.same sh
    have X1 : FsX K n (upd H hd (.lst us)) hd us (ts.map some) := (Fs.x (K := K) (⟨upd_same, F1.t, F1.n⟩ : Fs (upd H hd (.lst us)) hd us ts) hG)
    have P1 : Pl H (upd H hd (.lst us)) p s0 := (Pl.refl hP).new hhd
    generalize upd H hd (.lst us) = H1 at F1 X1 P1 ⊢
    refine ⟨_, rfl, p, s0, 2, rfl, P1.now, (by decide), (by decide), fun tw H2 t0 t2 P2 => ⟨_, _, rfl, rfl, _, rfl, ?_, ?_, for_range (n := ((1 : Int) + tw).toNat) (fun i σ H3 => ∃ us' qs, (∃ k, σ = [some (.ref p), some (.int n), some (.ref f), some (.ref hd), k, none, none]) ∧ FsX K n H3 hd us' qs ∧ us'.length ≤ 20 + i ∧ Fs H3 f us ts ∧ Pl H H3 p s0) ?_ ?_ ?_⟩⟩
    · show -(2 ^ 62) ≤ (1 : Int) + tw
      omega
    · show (1 : Int) + tw < 2 ^ 62
      omega
    · exact ⟨us, _, ⟨_, rfl⟩, X1.ev P2.ev (P2.keep X1.l hdp), by omega, ⟨P2.keep F1.l hfp, F1.t.tk fun _ _ e => P2.ev.tup e, F1.n⟩, P1.trans P2⟩
    · rintro i σ H3 hi ⟨us', qs, ⟨k, rfl⟩, X3, hl3, F3, P3⟩
      have hi : i < ((1 : Int) + tw).toNat := hi
      refine ⟨_, rfl, .inl ⟨rfl, _, SqL.of X3.l⟩, _, rfl, _, rfl, hd, _, rfl, .inl (SqL.of X3.l), _, _, rfl, rfl, p, s0, _, rfl, P3.now, (by show (0 : Int) < us'.length + 1; omega), (by show ((us'.length : Int) + 1) < 2 ^ 200; omega), fun at_ H4 a0 a1 P4 => ⟨_, rfl, _, rfl, p, s0, n, rfl, P4.now, n1, n14, fun v qq H5 P5 hv => ?_⟩⟩
      have a1 : at_ < us'.length + 1 := a1
      have P45 := P4.trans P5
      have X5 := X3.ev P45.ev (P45.keep X3.l hdp)
      have F5 : Fs H5 f us ts := ⟨P45.keep F3.l hfp, F3.t.tk fun _ _ e => P45.ev.tup e, F3.n⟩
      refine ⟨hd, us', at_, v, rfl, rfl, X5.l, small1000 (by omega), a0, (by omega), us'.take at_.toNat ++ [v] ++ us'.drop at_.toNat, qs.take at_.toNat ++ [qq] ++ qs.drop at_.toNat, ⟨_, rfl⟩, X5.ins hv (by omega), ?_, ?_, (P3.trans P45).lstAt hhd X5.l⟩
      · rw [List.length_append, List.length_append, List.length_take, List.length_drop]
        show min _ _ + 1 + _ ≤ _
        omega
      · refine ⟨by rw [upd_ne hdf.symm]; exact F5.l, F5.t.tk fun t xs e => ?_, F5.n⟩
        rw [upd_ne (ne_of e X5.l (by intro z; cases z))]
        exact e
    · rintro σ H3 ⟨us', qs, ⟨k, rfl⟩, X3, hl3, F3, P3⟩
      have hl30 : us'.length ≤ 30 := by
        have : ((1 : Int) + tw).toNat ≤ 2 := by omega
        omega
      refine ⟨_, rfl, hd, _, rfl, .inl (SqL.of X3.l), _, rfl, (by omega), (by omega), fun D hD => lc_range (n := us'.length) (fun i H4 => ∃ wl : List Int, H4 D = some (.lst (wl.map V.int)) ∧ Same H3 H4 ∧ wl.length ≤ i ∧ (wl = [] → ∀ j, j < i → qs[j]? ≠ some none) ∧ ∀ x r, wl = x :: r → ∃ k : Nat, x = k ∧ bx qs = some k) ⟨[], upd_same, sameAt (Same.refl _) hD, Nat.le_refl _, fun _ j h => absurd h (by omega), fun x r h => by cases h⟩ ?_ ?_⟩
      · rintro i H4 hi ⟨wl, h1, s4, h3, h4, h5⟩
        have hq : qs[i]? = some (qs[i]'(by rw [← X3.len]; exact hi)) := List.getElem?_eq_getElem (by rw [← X3.len]; exact hi)
        have hu : us'[i]? = some us'[i] := List.getElem?_eq_getElem hi
        have hA := (X3.at_ i _ _ hu hq).ev (Ev.same s4)
        generalize qs[i]'(by rw [← X3.len]; exact hi) = qi at hq hA
        obtain ⟨o, hT, ho⟩ := hA.th
        refine ⟨rfl, _, rfl, _, rfl, _, rfl, _, _, _, us'[i], rfl, rfl, SqL.of (s4 _ _ X3.l), (by rw [Int.zero_add]; exact atI_nat hu), n, us'[i], o, rfl, hT, fun H5 s5 => ⟨_, rfl, ?_⟩⟩
        have h1' := s5 _ _ h1
        have S5 := s4.trans s5
        cases qi with
        | some t =>
          rw [show isF n o = true from ho]
          refine iteF ⟨wl, h1', S5, by omega, fun e j hj => ?_, h5⟩
          by_cases c : j = i
          · rw [c, hq]
            exact fun z => nomatch z
          · exact h4 e j (by omega)
        | none =>
          rw [show isF n o = false from ho]
          refine iteT ⟨_, rfl, _, h1', (by rw [List.length_map]; exact small1000 (by omega)), wl ++ [(0 : Int) + (i : Int)], ?_, sameAt S5 hD, by rw [List.length_append]; show wl.length + 1 ≤ i + 1; omega, fun e => by simp at e, fun x r e => ?_⟩
          · rw [upd_same, List.map_append]
            rfl
          · cases wl with
            | nil =>
              have e : [(0 : Int) + (i : Int)] = x :: r := e
              injection e with e _
              exact ⟨i, by rw [← e]; omega, bx_at (fun j hj => h4 rfl j hj) hq⟩
            | cons y s =>
              have e : y :: (s ++ [(0 : Int) + (i : Int)]) = x :: r := e
              injection e with e _
              rw [← e]
              exact h5 y s rfl
      rintro H4 ⟨wl, h1, s4, h3, h4, h5⟩
      have hDp : D ≠ p := fun z => P3.now.ne.1 (z ▸ hD)
      refine ⟨(by show 2 ≤ sizeLine; decide), fun t1 ht1 => ?_⟩
      have st := sameAt s4 (none_of s4 ht1) (o := .tup [.str "told", .int 0])
      have hD5 := sameAt (Same.refl _) ht1 (o := .tup [.str "told", .int 0]) _ _ h1
      have e5 : (upd H4 t1 (.tup [.str "told", .int 0])) t1 = some (.tup [.str "told", .int 0]) := upd_same
      generalize upd H4 t1 (.tup [.str "told", .int 0]) = H5 at st hD5 e5 ⊢
      refine ⟨fun σ H6 => ∃ t, σ = [some (.ref p), some (.int n), some (.ref f), some (.ref hd), k, some (.ref D), some (.ref t)] ∧ H6 t = some (.tup (outV (bx qs))) ∧ Same H3 H6, ?_, ?_⟩
      · refine ⟨_, rfl, D, _, rfl, .inl (SqL.of hD5), _, _, rfl, rfl, _, rfl, ?_⟩
        rw [List.length_map]
        cases wl with
        | nil =>
          refine ite2 (fun c => ?_) (fun c => ⟨t1, rfl, ?_, st⟩)
          · exact absurd (of_decide_eq_true c) (by decide)
          · rw [(bx_none (qs := qs) (fun j hj => h4 rfl j (by rw [X3.len]; exact hj))).1]
            exact e5
        | cons x r =>
          obtain ⟨kk, rfl, hb⟩ := h5 x r rfl
          refine ite2 (fun c => ?_) (fun c => absurd (decide_eq_true (show (0 : Int) < (((kk : Int) :: r).length : Nat) by rw [List.length_cons]; omega)) c)
          refine ⟨_, rfl, D, _, _, .int (kk : Nat), rfl, rfl, SqL.of hD5, atI_nat (j := 0) rfl, (by show 2 ≤ sizeLine; decide), fun t2 ht2 => ⟨t2, rfl, ?_, sameAt st (none_of st ht2)⟩⟩
          rw [hb]
          exact upd_same
      · rintro σ H6 ⟨t, rfl, ht, s6⟩
        have X6 := X3.same s6
        refine ⟨_, rfl, _, rfl, hd, us', qs, n, rfl, X6, (by omega), fun l a b H7 s7 hl ha hb => ?_⟩
        have ht7 := s7 _ _ ht
        refine ⟨_, rfl, _, rfl, (by show 2 ≤ sizeLine; decide), fun l2 hl2 => ?_⟩
        have sl := sameAt (Same.refl _) hl2 (o := .lst [.ref t, .ref t])
        refine ⟨_, _, .lst (SqL.of (sl _ _ hl)) (.cons (out_dp (sl _ _ ha)) (.cons (out_dp (sl _ _ hb)) .nil)), .lst (SqL.of upd_same) (.cons (out_dp (sl _ _ ht7)) (.cons (out_dp (sl _ _ ht7)) .nil)), outs_shaped _, outs_shaped _, _, rfl, ?_⟩
        rw [SeqAt.eqv_refl _ (SeqAt.canLay_of_shaped (outs_shaped _))]
        have s8 := (s6.trans s7).trans sl
        refine iteT ⟨_, rfl, _, rfl, f, _, rfl, .inl (SqL.of (s8 _ _ F3.l)), fun l3 hl3 => ?_⟩
        have s9 := sameAt s8 (none_of s8 hl3) (o := .lst us)
        have F9 := F3.same s9
        have X9 : FsX K n (upd (upd H7 l2 (.lst [.ref t, .ref t])) l3 (.lst us)) l3 us (ts.map some) := Fs.x (⟨upd_same, F9.t, F9.n⟩ : Fs _ l3 us ts) hG
        generalize upd (upd H7 l2 (.lst [.ref t, .ref t])) l3 (.lst us) = H9 at s9 X9 ⊢
        refine ⟨l3, us, ts.map some, n, rfl, X9, (by omega), fun l a b H10 s10 hl ha hb => ?_⟩
        rw [bx_some] at ha hb
        refine ⟨(by show 2 ≤ sizeLine; decide), fun v1 g1 => ⟨(by show 2 ≤ sizeLine; decide), fun v2 g2 => ⟨(by show 2 ≤ sizeLine; decide), fun l4 g4 => ?_⟩⟩⟩
        have r1 := sameAt (Same.refl _) g1 (o := .tup [.str "told", .int 0])
        have r2 := sameAt (Same.refl _) g2 (o := .tup [.str "told", .int 0])
        have r4 := sameAt (Same.refl _) g4 (o := .lst [.ref v1, .ref v2])
        have rr := (r1.trans r2).trans r4
        have k1 := (r2.trans r4) _ _ (upd_same (a := v1))
        have k2 := r4 _ _ (upd_same (a := v2))
        refine ⟨_, _, .lst (SqL.of (rr _ _ hl)) (.cons (out_dp (rr _ _ ha)) (.cons (out_dp (rr _ _ hb)) .nil)), .lst (SqL.of upd_same) (.cons (out_dp (o := none) k1) (.cons (out_dp (o := none) k2) .nil)), outs_shaped _, outs_shaped _, ?_⟩
        rw [SeqAt.eqv_refl _ (SeqAt.canLay_of_shaped (outs_shaped _))]
        exact q _ (P3.same ((s9.trans s10).trans rr))
end
end Ash

set_option Elab.async false
set_option linter.all false
set_option maxRecDepth 100000
set_option maxHeartbeats 4000000
namespace Ash
open PySem PySem.Spec PyProof.Rows L2
open C8 (pss_cut)
/-! ### facts as data -/
def tdat (t : T3) : PyData := .tuple [.int t.1, .int t.2.1, .int t.2.2]
theorem t_dp {K : PySem.W.Frag} {H : Hp} {e : Addr} {t : T3} (h : H e = some (.tup (tv t))) : Dp K H (.ref e) (tdat t) := .tup (SqT.of h) (.cons (.int _) (.cons (.int _) (.cons (.int _) .nil)))
theorem t_shaped (t : T3) : SeqAt.shaped (tdat t) = true := shaped_flat (by simp [flatD])
theorem t_lay (t : T3) : (tdat t).canLay0 = true ∧ (tdat t).depth ≤ 2 := by
  obtain ⟨h1, h2⟩ := flat_lay (ds := [.int t.1, .int t.2.1, .int t.2.2]) (by simp [flatD])
  unfold tdat
  simp [PyData.canLay0, PyData.depth, h1]
  omega
theorem ts_lay : ∀ (ts : List T3), PyData.canLayAll0 (ts.map tdat) = true ∧ PyData.depthAll (ts.map tdat) ≤ 2
  | [] => by simp [PyData.canLayAll0, PyData.depthAll]
  | t :: ts => by
    obtain ⟨h1, h2⟩ := ts_lay ts
    obtain ⟨h3, h4⟩ := t_lay t
    rw [List.map_cons]
    simp only [PyData.canLayAll0, PyData.depthAll, h1, h3, Bool.and_self, true_and]
    exact Nat.max_le.mpr ⟨h4, h2⟩
theorem ts_shaped (ts : List T3) : SeqAt.shaped (.list (ts.map tdat)) = true := by
  obtain ⟨h1, h2⟩ := ts_lay ts
  unfold SeqAt.shaped
  simp [PyData.canLay0, PyData.depth, h1]
  omega
theorem t_eqv (t u : T3) : PyData.eqv (tdat t) (tdat u) = decide (t = u) := by
  obtain ⟨a, b, c⟩ := t
  obtain ⟨a', b', c'⟩ := u
  unfold tdat
  simp only [PyData.eqv, PyData.eqvAll, Prod.mk.injEq]
  by_cases e1 : a = a' <;> by_cases e2 : b = b' <;> by_cases e3 : c = c' <;> simp [e1, e2, e3]
theorem TrAt.dpA {K : PySem.W.Frag} {H : Hp} : ∀ {ys : List V} {ts : List T3}, TrAt H ys ts → DpAll K H ys (ts.map tdat)
  | [], [], _ => .nil
  | [], _ :: _, h => by have := h.1; simp at this
  | _ :: _, [], h => by have := h.1; simp at this
  | v :: ys, t :: ts, h => by
    obtain ⟨e, rfl, h2⟩ := h.2 0 v t rfl rfl
    exact .cons (t_dp h2) (TrAt.dpA ⟨by have := h.1; simpa using this, fun i v t a b => h.2 (i + 1) v t a b⟩)
theorem TrAt.dp {K : PySem.W.Frag} {H : Hp} {q : Addr} {ys : List V} {ts : List T3} (h : TrAt H ys ts) (hq : SqL K H q ys) : Dp K H (.ref q) (.list (ts.map tdat)) := .lst hq h.dpA
theorem ints_dpN {K : PySem.W.Frag} {H : Hp} : ∀ (ns : List Nat), DpAll K H (ns.map fun i => V.int (i : Nat)) (ns.map fun i => PyData.int (i : Nat))
  | [] => .nil
  | n :: r => .cons (.int n) (ints_dpN r)
theorem nats_flat (ns : List Nat) : (ns.map fun i => PyData.int (i : Nat)).all flatD = true := by
  rw [List.all_map, List.all_eq_true]
  intro x _
  rfl
theorem kept_no {ts : List T3} {n : Nat} {ns : List Nat} (g : BF.Good n ts) (h : IsRng ts n ns) (k : Kept ts) : False := by
  obtain ⟨vl, k⟩ := k
  obtain ⟨h0, h1, h2, h3⟩ := h.due g
  have a := BF.not_due (v := vl) (fun i t hi => k t (List.mem_of_getElem? hi)) (some (ns.map fun n : Nat => some (n : Int)))
  rw [BF.due_in h0 h1, h2, decide_eq_true h3] at a
  cases a
theorem IsRng.few {ts : List T3} {n : Nat} {ns : List Nat} (g : BF.Good n ts) (h : IsRng ts n ns) : ns.length ≤ n := by
  obtain ⟨v0, m, _, h1, h2, rfl⟩ := h
  obtain ⟨L, hL⟩ := BF.G.rds g (n + 1)
  obtain ⟨p, p1, pn, pb⟩ := (BF.around hL h1).2
  unfold BF.rngN
  rw [List.length_map, List.length_range]
  refine Nat.le_trans (Nat.le_of_not_lt fun z => ?_) pn
  exact h2.first p p1 z pb
theorem sol_no {ts : List T3} {n : Nat} {vs : List Int} (h : IsSol ts n vs) (k : LoopIn ts) : False := by
  refine loop_no (vl := vs) k fun t ht => ?_
  obtain ⟨i, hi, e⟩ := List.getElem_of_mem ht
  exact h.keep.2 i t (by rw [List.getElem?_eq_getElem hi, e])
theorem some_inj {ts us : List T3} (h : us.map some = ts.map some) : us = ts := by
  have := congrArg (List.filterMap id) h
  rw [List.filterMap_map, List.filterMap_map] at this
  have e : ∀ l : List T3, l.filterMap (id ∘ some) = l := fun l => by
    induction l with
    | nil => rfl
    | cons a r ih => rw [List.filterMap_cons]; exact congrArg (a :: ·) ih
  rw [e, e] at this
  exact this
def spLaw (K : PySem.W.Frag) : Sp := fun vs H Q _ => ∃ (a : Addr) (ns : List Int), vs = [.ref a] ∧ SqL K H a (ns.map V.int) ∧ ns.length ≤ 63 ∧ ∀ H', Q (.bl true) H'
section
variable {P : Program} {w : World} {K : PySem.W.Frag} {mg : Str → Option Value} {base : Heap}
structure W6 (P : Program) (w : World) (K : PySem.W.Frag) (mg : Str → Option Value) (base : Heap) (CE : Addr) : Prop where
  law_state : Cal P w K mg base CX0 "_law_state" 1 ["script"] (spPool K)
  law_draw : Cal P w K mg base CX0 "_law_draw" 1 ["state", "many"] spDraw
  law_size : Cal P w K mg base CX0 "_law_size" 2 ["state"] spSize
  law_planted : Cal P w K mg base CX0 "_law_planted" 4 ["state", "count", "many"] (spMake Kept)
  law_free : Cal P w K mg base CX0 "_law_free" 4 ["state", "count", "many"] (spMake fun _ => True)
  law_looped : Cal P w K mg base CX0 "_law_looped" 4 ["state", "count", "facts"] spLooped
  law_is_closed : Cal P w K mg base CX0 "_law_is_closed" 2 ["facts", "found"] spClosed
  law_keeps : Cal P w K mg base CX0 "_law_keeps" 2 ["count", "facts", "found"] spKeeps
  law_refuses : Cal P w K mg base CX0 "_law_refuses" 7 ["state", "count", "facts"] spRefuses
  is_ring : Cal P w K mg base CX0 "is_ring" 5 ["facts", "thing"] (spIsRing K)
  ring : Cal P w K mg base (L2.CX P w) "ring" 5 ["count", "facts"] (spRingX K CE)
  solution : Cal P w K mg base (L2.CX P w) "solution" 5 ["count", "facts"] (spSolX K CE)
abbrev s_law : Stmt := topS 32
theorem sc_law : FnScope ["script", "state", "turn", "count", "kind", "many", "facts", "handed", "loop", "values"] ["script"] (defScope s_law) := ⟨rfl, rfl, rfl, by decide +kernel, rfl, by decide +kernel, by decide +kernel⟩
theorem ok_law {f CE : Addr} {fd : FuncData} (F : Fun K "law" "law" s_law f fd) (B : Blt mg) (G : W6 P w K mg base CE) : FnOk P w K mg base CX0 8 f fd ["script"] (spLaw K) := by
  refine F.ok sc_law (fun vs H Q E h => ?_) (fun cdv A outer s H vs Q E hr h => ?_)
  · obtain ⟨a, ns, rfl, _⟩ := h
    rfl
  · obtain ⟨a, ns, rfl, hS, hn, q⟩ := h
    refine ⟨_, (pss_cons (ps_set (i := 1) sc_law.nd rfl (Or.inl rfl) (pe_cal G.law_state (hr.mono (by decide)) pass0 (pa_cons (pv 0) pa_nil)))
    (pss_cons (ps_for PassesOwn.never rfl (pi_range1 (by rfl) B.range (pa_cons (pe_op op_add pe_int (pe_cal G.law_draw (hr.mono (by decide)) pass0 (pa_cons (pv 1) (pa_cons pe_int pa_nil)))) pa_nil)) (pg_name (i := 2) sc_law.nd rfl (Or.inl rfl))
      (pss_cons (ps_set (i := 3) sc_law.nd rfl (Or.inl rfl) (pe_op op_add pe_int (pe_cal G.law_draw (hr.mono (by decide)) pass0 (pa_cons (pv 1) (pa_cons pe_int pa_nil)))))
      (pss_cons (ps_set (i := 4) sc_law.nd rfl (Or.inl rfl) (pe_cal G.law_draw (hr.mono (by decide)) pass0 (pa_cons (pv 1) (pa_cons pe_int pa_nil))))
      (pss_cons (ps_set (i := 5) sc_law.nd rfl (Or.inl rfl) (pe_cal G.law_size (hr.mono (by decide)) pass0 (pa_cons (pv 1) pa_nil)))
      (pss_cut (ps_if (pt_cmpR op_eq (pv 4) pe_int (nomark _))
        (pss_one (ps_set (i := 6) sc_law.nd rfl (Or.inl rfl) (pe_cal G.law_planted (hr.mono (by decide)) pass0 (pa_cons (pv 1) (pa_cons (pv 3) (pa_cons (pv 5) pa_nil))))))
        (pss_one (ps_set (i := 6) sc_law.nd rfl (Or.inl rfl) (pe_cal G.law_free (hr.mono (by decide)) pass0 (pa_cons (pv 1) (pa_cons (pv 3) (pa_cons (pv 5) pa_nil)))))))
      (pss_cut (ps_if (pt_cmpR op_eq (pv 4) pe_int (nomark _))
        (pss_one (ps_set (i := 6) sc_law.nd rfl (Or.inl rfl) (pe_cal G.law_looped (hr.mono (by decide)) pass0 (pa_cons (pv 1) (pa_cons (pv 3) (pa_cons (pe_slice sl_list (pv 6) po_none (po_some pe_int)) pa_nil))))))
        pss_nil)
      (pss_cons (ps_set (i := 7) sc_law.nd rfl (Or.inl rfl) (pe_callTy call_list_of (by rfl) B.list (by decide +kernel) (pa_cons (pv 6) pa_nil)))
      (pss_cons (ps_set (i := 8) sc_law.nd rfl (Or.inl rfl) (pe_cal G.ring (hr.mono (by decide)) (passE takes0) (pa_cons (pv 3) (pa_cons (pv 7) pa_nil))))
      (pss_cons (ps_set (i := 9) sc_law.nd rfl (Or.inl rfl) (pe_cal G.solution (hr.mono (by decide)) (passE takes0) (pa_cons (pv 3) (pa_cons (pv 7) pa_nil))))
      (pss_cons (ps_if (PW.pt (pw_or (pt_cmpR (op_neD hr.units) (pv 7) (pv 6) (nomark _)) (pw_or1 (pt_cmpR op_eq (pe_cmpR op_isN (pv 8) pe_non (nomark _)) (pe_cmpR op_isN (pv 9) pe_non (nomark _)) (nomark _)))))
        (pss_one (ps_ret pe_bl))
        pss_nil)
      (pss_cons (ps_if (PW.pt (pw_or (pt_cmpR (op_neD hr.units) (pe_cal G.ring (hr.mono (by decide)) (passE takes0) (pa_cons (pv 3) (pa_cons (pv 7) pa_nil))) (pv 8) (nomark _)) (pw_or1 (pt_cmpR (op_neD hr.units) (pe_cal G.solution (hr.mono (by decide)) (passE takes0) (pa_cons (pv 3) (pa_cons (pv 7) pa_nil))) (pv 9) (nomark _)))))
        (pss_one (ps_ret pe_bl))
        pss_nil)
      (pss_cons (ps_if (PW.pt (pw_and (pt_cmpR op_lt (pv 4) pe_int (nomark _)) (pw_and1 (pt_cmpR op_ne (pe_cmpR op_isN (pv 8) pe_non (nomark _)) (pe_cmpR op_eq (pv 4) pe_int (nomark _)) (nomark _)))))
        (pss_one (ps_ret pe_bl))
        pss_nil)
      (pss_cons (ps_if (PW.pt (pw_and (pt_cmpR op_isN (pv 8) pe_non (nomark _)) (pw_and1 (pt_not (pt_val (pe_cal G.law_keeps (hr.mono (by decide)) pass0 (pa_cons (pv 3) (pa_cons (pv 6) (pa_cons (pv 9) pa_nil)))))))))
        (pss_one (ps_ret pe_bl))
        pss_nil)
      (pss_cons (ps_if (PW.pt (pw_and (pt_cmpR op_notN (pv 8) pe_non (nomark _)) (pw_and1 (PW.pt (pw_or (pt_not (pt_val (pe_cal G.law_is_closed (hr.mono (by decide)) pass0 (pa_cons (pv 6) (pa_cons (pv 8) pa_nil))))) (pw_or1 (pt_cmpR op_isnot_bl (pe_cal G.is_ring (hr.mono (by decide)) pass0 (pa_cons (pv 6) (pa_cons (pv 8) pa_nil))) pe_bl (nomark _))))))))
        (pss_one (ps_ret pe_bl))
        pss_nil)
      (pss_one (ps_if (pt_not (pt_val (pe_cal G.law_refuses (hr.mono (by decide)) pass0 (pa_cons (pv 1) (pa_cons (pv 3) (pa_cons (pe_slice sl_list (pv 6) po_none (po_some pe_int)) pa_nil))))))
        (pss_one (ps_ret pe_bl))
        pss_nil))))))))))))))))
    (pss_one (ps_ret pe_bl)))), ?_⟩
    refine ⟨_, rfl, a, ns, rfl, hS, fun p s0 H1 hp P1 s1 => ⟨_, rfl, p, s0, 6, rfl, P1, (by decide), (by decide), fun tn H2 t0 t6 P2 => ⟨_, _, rfl, rfl, _, rfl, ?_, ?_, for_range (n := ((1 : Int) + tn).toNat) (fun i σ H3 => (∃ x2 x3 x4 x5 x6 x7 x8 x9 : Option V, σ = [some (.ref a), some (.ref p), x2, x3, x4, x5, x6, x7, x8, x9]) ∧ PoolAt H3 p s0) ⟨⟨_, _, _, _, _, _, _, _, rfl⟩, P2.now⟩ ?_ ?_⟩⟩⟩
    · show -(2 ^ 62) ≤ (1 : Int) + tn
      omega
    · show (1 : Int) + tn < 2 ^ 62
      omega
    · rintro i σ H3 hi ⟨⟨x2, x3, x4, x5, x6, x7, x8, x9, rfl⟩, P3⟩
      refine ⟨_, rfl, p, s0, 14, rfl, P3, (by decide), (by decide), fun c H4 c0 c14 P4 => ⟨_, _, rfl, rfl, _, rfl, p, s0, 3, rfl, P4.now, (by decide), (by decide), fun kind H5 k0 k3 P5 => ⟨_, rfl, p, s0, rfl, P5.now, fun many H6 m0 m80 P6 => ?_⟩⟩⟩
      obtain ⟨n, hcn⟩ : ∃ n : Nat, (1 : Int) + c = (n : Int) := ⟨(1 + c).toNat, by omega⟩
      have n1 : 1 ≤ n := by omega
      have n14 : n ≤ 14 := by omega
      have P6n := P6.now
      refine ⟨fun σ H => ∃ (q0 : Addr) (us : List V) (ts : List T3), (∃ x7 x8 x9 : Option V, σ = [some (.ref a), some (.ref p), some (.int ((0 : Int) + (i : Int))), some (.int n), some (.int kind), some (.int many), some (.ref q0), x7, x8, x9]) ∧ PoolAt H p s0 ∧ Fs H q0 us ts ∧ BF.Good n ts ∧ us.length ≤ 80 ∧ q0 ≠ p ∧ (kind = 0 → Kept ts), ?_, ?_⟩
      · refine ⟨_, rfl, rfl, _, rfl, ite2 (fun c0 => ?_) (fun c0 => ?_)⟩
        · refine ⟨_, rfl, _, rfl, _, rfl, p, s0, n, many, (by rw [← hcn]; rfl), P6n, n1, n14, m0, m80, fun q0 us ts H' P' hq0 hq hT hl hG hK => ⟨q0, us, ts, ⟨x7, x8, x9, by rw [← hcn]; rfl⟩, P'.now, ⟨hq, hT, by omega⟩, hG, by omega, fun z => P6n.ne.1 (z ▸ hq0), fun _ => hK⟩⟩
        · have k0' : kind ≠ 0 := fun z => c0 (decide_eq_true (by rw [z]))
          refine ⟨_, rfl, _, rfl, _, rfl, p, s0, n, many, (by rw [← hcn]; rfl), P6n, n1, n14, m0, m80, fun q0 us ts H' P' hq0 hq hT hl hG hK => ⟨q0, us, ts, ⟨x7, x8, x9, by rw [← hcn]; rfl⟩, P'.now, ⟨hq, hT, by omega⟩, hG, by omega, fun z => P6n.ne.1 (z ▸ hq0), fun z => absurd z k0'⟩⟩
      · rintro σ H7 ⟨q0, us, ts, ⟨x7, x8, x9, rfl⟩, P7, hF, hG, hl80, hqp, hkept⟩
        refine ⟨fun σ H => ∃ (q0 : Addr) (us : List V) (ts : List T3), (∃ x7 x8 x9 : Option V, σ = [some (.ref a), some (.ref p), some (.int ((0 : Int) + (i : Int))), some (.int n), some (.int kind), some (.int many), some (.ref q0), x7, x8, x9]) ∧ PoolAt H p s0 ∧ Fs H q0 us ts ∧ BF.Good n ts ∧ us.length ≤ 80 ∧ q0 ≠ p ∧ (kind = 0 → Kept ts) ∧ (kind = 1 → LoopIn ts), ?_, ?_⟩
        · refine ⟨_, rfl, rfl, _, rfl, ite2 (fun c1 => ?_) (fun c1 => ?_)⟩
          · have k1 : kind = 1 := V.int.inj (of_decide_eq_true c1)
            refine ⟨_, rfl, _, rfl, _, rfl, _, rfl, q0, us, rfl, SqL.of hF.l, fun sl hsl => ?_⟩
            have ss := sameAt (Same.refl _) hsl (o := .lst (cutV us none (some 74)))
            have hT8 : TrAt (upd H7 sl (.lst (cutV us none (some 74)))) (cutV us none (some 74)) ((ts.drop (HT.sIx us.length 0 none)).take (HT.sIx us.length us.length (some 74) - HT.sIx us.length 0 none)) := ((hF.t.tk fun t xs e => ss _ _ e).drp _).tak _
            have hlen : (cutV us none (some 74)).length ≤ 74 := by
              have e : HT.sIx us.length us.length (some ((74 : Nat) : Int)) = min 74 us.length := HT.sIx_nat _ _ _
              unfold cutV
              rw [List.length_take]
              have e : HT.sIx us.length us.length (some 74) = min 74 us.length := e
              rw [e]
              omega
            have hG8 : BF.Good n ((ts.drop (HT.sIx us.length 0 none)).take (HT.sIx us.length us.length (some 74) - HT.sIx us.length 0 none)) := fun t ht => hG t (List.mem_of_mem_drop (List.mem_of_mem_take ht))
            refine ⟨p, s0, sl, _, _, n, rfl, P7.same ss, n1, n14, ⟨upd_same, hT8, by omega⟩, hlen, hG8, fun z => P7.ne.1 (z ▸ hsl), fun q1 us1 ts1 H' P' hq1 hq hT hl hG' hK => ⟨q1, us1, ts1, ⟨x7, x8, x9, rfl⟩, P'.now, ⟨hq, hT, by omega⟩, hG', by omega, fun z => (P7.same ss).ne.1 (z ▸ hq1), fun z => by omega, fun _ => hK⟩⟩
          · have k1 : kind ≠ 1 := fun z => c1 (decide_eq_true (by rw [z]))
            exact ⟨q0, us, ts, ⟨x7, x8, x9, rfl⟩, P7, hF, hG, hl80, hqp, hkept, fun z => absurd z k1⟩
        · clear hF hG hkept P7 hqp hl80
          rintro σ H8 ⟨q0, us, ts, ⟨x7, x8, x9, rfl⟩, P8, hF, hG, hl80, hqp, hkept, hloop⟩
          refine ⟨_, rfl, q0, _, rfl, .inl (SqL.of hF.l), fun hd hhd => ?_⟩
          have sh := sameAt (Same.refl _) hhd (o := .lst us)
          have F9 := hF.same sh
          have Fh : Fs (upd H8 hd (.lst us)) hd us ts := ⟨upd_same, F9.t, F9.n⟩
          have P9 := P8.same sh
          generalize upd H8 hd (.lst us) = H9 at F9 Fh P9 ⊢
          have X9 : FsX K n H9 hd us (ts.map some) := Fs.x Fh hG
          have nob : ∀ {i : Nat}, bx (ts.map some) = some i → False := fun h => by rw [bx_some] at h; cases h
          have hn : n ≤ 1000 := by omega
          have hkd := k3
          refine ⟨_, rfl, _, rfl, hd, us, ts.map some, n, rfl, X9, hn, fun ts' vs H10 e hs s10 => ?_, fun ts' ns t H10 e hr s10 ht => ?_, fun i d H' hb _ _ => (nob hb).elim⟩
          · obtain rfl := some_inj e.symm
            refine ⟨_, rfl, _, rfl, hd, us, ts'.map some, n, rfl, X9.same s10, hn, fun ts2 ws pv H11 e2 hs2 s11 _ hpv => ?_, fun ts2 ns H11 e2 hr s11 => ?_, fun i d H' hb _ _ => (nob hb).elim⟩
            rotate_left
            · obtain rfl := some_inj e2.symm
              exact (hs.not hr).elim
            obtain rfl := some_inj e2.symm
            obtain rfl := hs2.uniq hs
            have S11 := s10.trans s11
            have Fh1 := Fh.same S11
            have F1 := F9.same S11
            refine ⟨_, rfl, _, rfl, _, _, Fh1.t.dp (SqL.of Fh1.l), F1.t.dp (SqL.of F1.l), ts_shaped _, ts_shaped _, _, rfl, ?_⟩
            rw [SeqAt.eqv_refl _ (SeqAt.canLay_of_shaped (ts_shaped _))]
            refine iteF ⟨_, rfl, rfl, _, rfl, rfl, rfl, _, rfl, ite2 (fun c => absurd c (by simp)) (fun _ => ?_)⟩
            refine ⟨_, rfl, _, rfl, hd, us, ts2.map some, n, rfl, X9.same S11, hn, fun ts3 vs3 H12 e3 hs3 s12 => ?_, fun ts3 ns t H12 e3 hr s12 _ => ?_, fun i d H' hb _ _ => (nob hb).elim⟩
            rotate_left
            · obtain rfl := some_inj e3.symm
              exact (hs.not hr).elim
            refine ⟨_, rfl, .none, .none, .non, .non, by decide +kernel, by decide +kernel, _, rfl, iteF ?_⟩
            have S12 := S11.trans s12
            refine ⟨_, rfl, _, rfl, hd, us, ts2.map some, n, rfl, X9.same S12, hn, fun ts4 ws4 pv4 H13 e4 hs4 s13 _ hpv4 => ?_, fun ts4 ns H13 e4 hr s13 => ?_, fun i d H' hb _ _ => (nob hb).elim⟩
            rotate_left
            · obtain rfl := some_inj e4.symm
              exact (hs.not hr).elim
            obtain rfl := some_inj e4.symm
            obtain rfl := hs4.uniq hs
            have S13 := S12.trans s13
            have hpv13 := s13 _ _ (s12 _ _ hpv)
            refine ⟨_, rfl, _, _, .lst (SqL.of hpv4) (ints_dpA _), .lst (SqL.of hpv13) (ints_dpA _), shaped_flatL (ints_flat _), shaped_flatL (ints_flat _), _, rfl, ?_⟩
            rw [SeqAt.eqv_refl _ (SeqAt.canLay_of_shaped (shaped_flatL (ints_flat _)))]
            refine iteF ⟨_, rfl, _, _, rfl, rfl, _, rfl, ?_⟩
            refine ite2 (fun ck => ?_) (fun ck => ?_)
            · have ck : kind < 2 := of_decide_eq_true ck
              have kk : kind = 0 := by
                have : kind ≠ 1 := fun z => sol_no hs (hloop z)
                omega
              subst kk
              refine ⟨_, rfl, rfl, _, rfl, rfl, rfl, _, rfl, ite2 (fun c => absurd c (by simp)) (fun _ => ?_)⟩
              refine ⟨_, rfl, rfl, _, rfl, iteT ⟨_, rfl, _, rfl, _, rfl, n, q0, pv, us, _, _, rfl, F9.same S13, hG, hpv13, hs.keep.1, hn, hs.keep.2, fun Hx sx0 => ⟨_, rfl, iteF ⟨_, rfl, rfl, _, rfl, iteF ?_⟩⟩⟩⟩
              have sx := S13.trans sx0
              have FL := F9.same sx
              have PL := P9.same sx
              refine ⟨_, rfl, _, rfl, _, rfl, _, rfl, q0, us, rfl, SqL.of FL.l, fun sl hsl => ?_⟩
              have ss := sameAt (Same.refl _) hsl (o := .lst (cutV us none (some 20)))
              have hlen : (cutV us none (some 20)).length ≤ 20 := by
                have e : HT.sIx us.length us.length (some ((20 : Nat) : Int)) = min 20 us.length := HT.sIx_nat _ _ _
                unfold cutV
                rw [List.length_take]
                have e : HT.sIx us.length us.length (some 20) = min 20 us.length := e
                rw [e]
                omega
              refine ⟨p, s0, sl, n, _, _, rfl, PL.same ss, n1, n14, ⟨upd_same, ((FL.t.tk fun t xs e => ss _ _ e).drp _).tak _, by omega⟩, fun t ht => hG t (List.mem_of_mem_drop (List.mem_of_mem_take ht)), hlen, fun z => PL.ne.1 (z ▸ hsl), fun H' P' => ⟨_, rfl, iteF ⟨⟨_, _, _, _, _, _, _, _, rfl⟩, P'.now⟩⟩⟩
            · skip
              refine ⟨_, rfl, rfl, _, rfl, iteT ⟨_, rfl, _, rfl, _, rfl, n, q0, pv, us, _, _, rfl, F9.same S13, hG, hpv13, hs.keep.1, hn, hs.keep.2, fun Hx sx0 => ⟨_, rfl, iteF ⟨_, rfl, rfl, _, rfl, iteF ?_⟩⟩⟩⟩
              have sx := S13.trans sx0
              have FL := F9.same sx
              have PL := P9.same sx
              refine ⟨_, rfl, _, rfl, _, rfl, _, rfl, q0, us, rfl, SqL.of FL.l, fun sl hsl => ?_⟩
              have ss := sameAt (Same.refl _) hsl (o := .lst (cutV us none (some 20)))
              have hlen : (cutV us none (some 20)).length ≤ 20 := by
                have e : HT.sIx us.length us.length (some ((20 : Nat) : Int)) = min 20 us.length := HT.sIx_nat _ _ _
                unfold cutV
                rw [List.length_take]
                have e : HT.sIx us.length us.length (some 20) = min 20 us.length := e
                rw [e]
                omega
              refine ⟨p, s0, sl, n, _, _, rfl, PL.same ss, n1, n14, ⟨upd_same, ((FL.t.tk fun t xs e => ss _ _ e).drp _).tak _, by omega⟩, fun t ht => hG t (List.mem_of_mem_drop (List.mem_of_mem_take ht)), hlen, fun z => PL.ne.1 (z ▸ hsl), fun H' P' => ⟨_, rfl, iteF ⟨⟨_, _, _, _, _, _, _, _, rfl⟩, P'.now⟩⟩⟩
          · skip
            obtain rfl := some_inj e.symm
            refine ⟨_, rfl, _, rfl, hd, us, ts'.map some, n, rfl, X9.same s10, hn, fun ts2 ws pv H11 e2 hs2 s11 _ hpv => ?_, fun ts2 ns2 H11 e2 hr2 s11 => ?_, fun i d H' hb _ _ => (nob hb).elim⟩
            · obtain rfl := some_inj e2.symm
              exact (hs2.not hr).elim
            have S11 := s10.trans s11
            have Fh1 := Fh.same S11
            have F1 := F9.same S11
            refine ⟨_, rfl, _, rfl, _, _, Fh1.t.dp (SqL.of Fh1.l), F1.t.dp (SqL.of F1.l), ts_shaped _, ts_shaped _, _, rfl, ?_⟩
            rw [SeqAt.eqv_refl _ (SeqAt.canLay_of_shaped (ts_shaped _))]
            refine iteF ⟨_, rfl, rfl, _, rfl, rfl, rfl, _, rfl, ite2 (fun c => absurd c (by simp)) (fun _ => ?_)⟩
            refine ⟨_, rfl, _, rfl, hd, us, ts'.map some, n, rfl, X9.same S11, hn, fun ts3 vs3 H12 e3 hs3 s12 => ?_, fun ts3 ns3 t3 H12 e3 hr3 s12 ht3 => ?_, fun i d H' hb _ _ => (nob hb).elim⟩
            · obtain rfl := some_inj e3.symm
              exact (hs3.not hr).elim
            obtain rfl := some_inj e3.symm
            obtain rfl := hr3.uniq hr
            have S12 := S11.trans s12
            have ht12 := s12 _ _ (s11 _ _ ht)
            refine ⟨_, rfl, _, _, .tup (SqT.of ht3) (ints_dpN _), .tup (SqT.of ht12) (ints_dpN _), shaped_flat (nats_flat _), shaped_flat (nats_flat _), _, rfl, ?_⟩
            rw [SeqAt.eqv_refl _ (SeqAt.canLay_of_shaped (shaped_flat (nats_flat _)))]
            refine iteF ⟨_, rfl, _, rfl, hd, us, ts3.map some, n, rfl, X9.same S12, hn, fun ts4 ws4 pv4 H13 e4 hs4 s13 _ hpv4 => ?_, fun ts4 ns4 H13 e4 hr4 s13 => ?_, fun i d H' hb _ _ => (nob hb).elim⟩
            · obtain rfl := some_inj e4.symm
              exact (hs4.not hr).elim
            refine ⟨_, rfl, .none, .none, .non, .non, by decide +kernel, by decide +kernel, _, rfl, iteF ?_⟩
            have S13 := S12.trans s13
            have ht13 := s13 _ _ ht12
            obtain ⟨hd0, hd1, hd2, hd3⟩ := hr.due hG
            have hfew := hr.few hG
            have hdue : BF.due ts3 (some (ns3.map fun n : Nat => some (n : Int))) = true := by
              rw [BF.due_in hd0 hd1, hd2, decide_eq_true hd3]
              rfl
            have th13 : ThAt K H13 (.ref t) (some (ns3.map fun n : Nat => some (n : Int))) := th_tup ht13 (by rw [List.length_map, List.length_map]) (by rw [List.length_map]; omega) fun i x d h1 h2 => by
              rw [List.getElem?_map] at h1 h2
              cases e : ns3[i]? with
              | none => rw [e] at h1; cases h1
              | some m => rw [e] at h1 h2; cases h1; cases h2; rfl
            refine ⟨_, rfl, _, _, rfl, rfl, _, rfl, ?_⟩
            refine ite2 (fun ck => ?_) (fun ck => ?_)
            · have ck : kind < 2 := of_decide_eq_true ck
              have kk : kind = 1 := by
                have : kind ≠ 0 := fun z => kept_no hG hr (hkept z)
                omega
              subst kk
              refine ⟨_, rfl, rfl, _, rfl, rfl, rfl, _, rfl, ite2 (fun c => absurd c (by simp)) (fun _ => ?_)⟩
              refine ⟨_, rfl, rfl, _, rfl, iteF ⟨_, rfl, rfl, _, rfl, iteT ⟨_, rfl, _, rfl, q0, t, us, _, ns3, rfl, F9.same S13, ht13, hd0, (by omega), hd1, hd2, hd3, _, rfl, iteF ⟨_, rfl, _, rfl, q0, us, _, n, .ref t, _, rfl, F9.same S13, hG, th13, fun Hx sx0 => ⟨_, _, rfl, rfl, _, rfl, ?_⟩⟩⟩⟩⟩
              rw [hdue]
              refine iteF ?_
              have sx := S13.trans sx0
              have FL := F9.same sx
              have PL := P9.same sx
              refine ⟨_, rfl, _, rfl, _, rfl, _, rfl, q0, us, rfl, SqL.of FL.l, fun sl hsl => ?_⟩
              have ss := sameAt (Same.refl _) hsl (o := .lst (cutV us none (some 20)))
              have hlen : (cutV us none (some 20)).length ≤ 20 := by
                have e : HT.sIx us.length us.length (some ((20 : Nat) : Int)) = min 20 us.length := HT.sIx_nat _ _ _
                unfold cutV
                rw [List.length_take]
                have e : HT.sIx us.length us.length (some 20) = min 20 us.length := e
                rw [e]
                omega
              refine ⟨p, s0, sl, n, _, _, rfl, PL.same ss, n1, n14, ⟨upd_same, ((FL.t.tk fun t xs e => ss _ _ e).drp _).tak _, by omega⟩, fun t ht => hG t (List.mem_of_mem_drop (List.mem_of_mem_take ht)), hlen, fun z => PL.ne.1 (z ▸ hsl), fun H' P' => ⟨_, rfl, iteF ⟨⟨_, _, _, _, _, _, _, _, rfl⟩, P'.now⟩⟩⟩
            · skip
              refine ⟨_, rfl, rfl, _, rfl, iteF ⟨_, rfl, rfl, _, rfl, iteT ⟨_, rfl, _, rfl, q0, t, us, _, ns3, rfl, F9.same S13, ht13, hd0, (by omega), hd1, hd2, hd3, _, rfl, iteF ⟨_, rfl, _, rfl, q0, us, _, n, .ref t, _, rfl, F9.same S13, hG, th13, fun Hx sx0 => ⟨_, _, rfl, rfl, _, rfl, ?_⟩⟩⟩⟩⟩
              rw [hdue]
              refine iteF ?_
              have sx := S13.trans sx0
              have FL := F9.same sx
              have PL := P9.same sx
              refine ⟨_, rfl, _, rfl, _, rfl, _, rfl, q0, us, rfl, SqL.of FL.l, fun sl hsl => ?_⟩
              have ss := sameAt (Same.refl _) hsl (o := .lst (cutV us none (some 20)))
              have hlen : (cutV us none (some 20)).length ≤ 20 := by
                have e : HT.sIx us.length us.length (some ((20 : Nat) : Int)) = min 20 us.length := HT.sIx_nat _ _ _
                unfold cutV
                rw [List.length_take]
                have e : HT.sIx us.length us.length (some 20) = min 20 us.length := e
                rw [e]
                omega
              refine ⟨p, s0, sl, n, _, _, rfl, PL.same ss, n1, n14, ⟨upd_same, ((FL.t.tk fun t xs e => ss _ _ e).drp _).tak _, by omega⟩, fun t ht => hG t (List.mem_of_mem_drop (List.mem_of_mem_take ht)), hlen, fun z => PL.ne.1 (z ▸ hsl), fun H' P' => ⟨_, rfl, iteF ⟨⟨_, _, _, _, _, _, _, _, rfl⟩, P'.now⟩⟩⟩
    · rintro σ H3 ⟨_, P3⟩
      exact q H3
end
end Ash

set_option Elab.async false
set_option linter.all false
set_option maxRecDepth 100000
set_option maxHeartbeats 4000000
namespace Ash
open PySem PySem.Spec PyProof.Rows L2
/-! ### what the top has written -/
/-- a def of the top -/
structure D1 (K : PySem.W.Frag) (mg : Str → Option Value) (x : Str) (st : Stmt) : Prop where
  ex : ∃ (f : Addr) (fd : FuncData), mg x = some (.ref f) ∧ Fun K x x st f fd
section
variable {K : PySem.W.Frag} {h : Heap} {mg : Str → Option Value} {x : Str} {st : Stmt} {f : Addr} {oc kV dc pm cdv ct : Value} {od an : Option Addr} {sl : Array (Option Value)}
theorem d1 (X : K.In h) (G : h.Ns mainGlobals mg) (a : PySem.W.nsIn K mainGlobals x = some (some (.ref f))) (l : K.lookup f = some ⟨oc, od, .func (PySem.W.fnOf x x (defArgs st) (defBody st) (defScope st) .none kV dc pm an cdv ct), sl⟩) (c : PySem.W.codeIn K cdv x = true) (k : PySem.W.keepIn K (.ref f) = true) : D1 K mg x st :=
  ⟨f, _, PySem.W.mg_of X G a, fun_mk l c k⟩
end
section
variable {P : Program} {w : World} {K : PySem.W.Frag} {mg : Str → Option Value} {base : Heap} {CX : CXT} {x : Str} {st : Stmt} {ps : List Str} {k : Nat} {sp : Sp}
theorem cal_of (D : D1 K mg x st) (hb : ∀ (kV doc pm : Value) (an : Option Addr) (cdv ct : Value) (us : List Value), us.length = ps.length → bindArgs (PySem.W.fnOf x x (defArgs st) (defBody st) (defScope st) .none kV doc pm an cdv ct) ⟨us, []⟩ = pure (ps.zip us))
    (ok : ∀ f fd, Fun K x x st f fd → FnOk P w K mg base CX k f fd ps sp) : Cal P w K mg base CX x k ps sp := by
  obtain ⟨f, fd, hm, F⟩ := D.ex
  exact ⟨f, fd, hm, F.kp, F.binds hb, ok f fd F⟩
end
section
variable {P : Program} {w : World} {K : PySem.W.Frag} {mg : Str → Option Value} {base : Heap}
theorem all_ok {CE fE : Addr} (B : Blt mg) (TE : PySem.BadX.Txt P K mg "at" "at" CE fE) (cE : mg "BadFact" = some (.ref CE))
    (d_is_integer : D1 K mg "is_integer" s_is_integer)
    (d_are_integers : D1 K mg "are_integers" s_are_integers)
    (d_is_fact : D1 K mg "is_fact" s_is_fact)
    (d_check_facts : D1 K mg "check_facts" s_check_facts)
    (d_goes_round : D1 K mg "goes_round" s_goes_round)
    (d_is_ring : D1 K mg "is_ring" s_is_ring)
    (d_ring_behind : D1 K mg "ring_behind" s_ring_behind)
    (d_solved : D1 K mg "solved" s_solved)
    (d_ring : D1 K mg "ring" s_ring)
    (d_solution : D1 K mg "solution" s_solution)
    (d__law_state : D1 K mg "_law_state" s_l_state)
    (d__law_draw : D1 K mg "_law_draw" s_l_draw)
    (d__law_number : D1 K mg "_law_number" s_l_number)
    (d__law_is_integer : D1 K mg "_law_is_integer" s_l_is_integer)
    (d__law_strange : D1 K mg "_law_strange" s_l_strange)
    (d__law_size : D1 K mg "_law_size" s_l_size)
    (d__law_amount : D1 K mg "_law_amount" s_l_amount)
    (d__law_planted : D1 K mg "_law_planted" s_l_planted)
    (d__law_free : D1 K mg "_law_free" s_l_free)
    (d__law_looped : D1 K mg "_law_looped" s_l_looped)
    (d__law_is_closed : D1 K mg "_law_is_closed" s_l_is_closed)
    (d__law_keeps : D1 K mg "_law_keeps" s_l_keeps)
    (d__law_refused : D1 K mg "_law_refused" s_l_refused)
    (d__law_bad : D1 K mg "_law_bad" s_l_bad)
    (d__law_is_fact : D1 K mg "_law_is_fact" s_l_is_fact)
    (d__law_refuses : D1 K mg "_law_refuses" s_l_refuses)
    {f : Addr} {fd : FuncData} (F_law : Fun K "law" "law" s_law f fd) : FnOk P w K mg base CX0 8 f fd ["script"] (spLaw K) := by
  have c_is_integer := cal_of (P := P) (w := w) (base := base) (ps := ["thing"]) d_is_integer (fun _ _ _ _ _ _ us hl => match us, hl with | [_], _ => rfl) fun f fd F => ok_is_integer F B
  have k1 : K1 P w K mg base := ⟨c_is_integer⟩
  have c_are := cal_of (P := P) (w := w) (base := base) (ps := ["things"]) d_are_integers (fun _ _ _ _ _ _ us hl => match us, hl with | [_], _ => rfl) fun f fd F => ok_are_integers F B k1
  have k2 : K2 P w K mg base := ⟨k1, c_are⟩
  have c_isf := cal_of (P := P) (w := w) (base := base) (ps := ["thing"]) d_is_fact (fun _ _ _ _ _ _ us hl => match us, hl with | [_], _ => rfl) fun f fd F => ok_is_fact F B k2
  have k3 : K3 P w K mg base := ⟨k2, c_isf⟩
  have c_check := cal_of (P := P) (w := w) (base := base) (ps := ["facts", "count"]) d_check_facts (fun _ _ _ _ _ _ us hl => match us, hl with | [_, _], _ => rfl) fun f fd F => ok_check F B k3
  have k4 : K4 P w K mg base := ⟨k3, c_check⟩
  have c_goes := cal_of (P := P) (w := w) (base := base) (ps := ["facts", "thing"]) d_goes_round (fun _ _ _ _ _ _ us hl => match us, hl with | [_, _], _ => rfl) fun f fd F => ok_goes F B k1
  have k5 : K5 P w K mg base := ⟨k4, c_goes⟩
  have c_isring := cal_of (P := P) (w := w) (base := base) (ps := ["facts", "thing"]) d_is_ring (fun _ _ _ _ _ _ us hl => match us, hl with | [_, _], _ => rfl) fun f fd F => ok_is_ring F B k5
  have c_behind := cal_of (P := P) (w := w) (base := base) (ps := ["facts", "because", "lowered"]) d_ring_behind (fun _ _ _ _ _ _ us hl => match us, hl with | [_, _, _], _ => rfl) fun f fd F => ok_behind F B
  have k6 : K6 P w K mg base := ⟨k5, c_behind⟩
  have c_solved := cal_of (P := P) (w := w) (base := base) (ps := ["count", "facts"]) d_solved (fun _ _ _ _ _ _ us hl => match us, hl with | [_, _], _ => rfl) fun f fd F => ok_solved F B k6
  have c_areA := cal_of (P := P) (w := w) (base := base) (ps := ["things"]) d_are_integers (fun _ _ _ _ _ _ us hl => match us, hl with | [_], _ => rfl) fun f fd F => ok_are_integersA F B k1
  have ka2 : KA2 P w K mg base := ⟨c_areA⟩
  have c_isfA := cal_of (P := P) (w := w) (base := base) (ps := ["thing"]) d_is_fact (fun _ _ _ _ _ _ us hl => match us, hl with | [_], _ => rfl) fun f fd F => ok_is_factA F B ka2
  have ka3 : KA3 P w K mg base := ⟨c_isfA⟩
  have c_checkX := cal_of (P := P) (w := w) (base := base) (ps := ["facts", "count"]) d_check_facts (fun _ _ _ _ _ _ us hl => match us, hl with | [_, _], _ => rfl) fun f fd F => ok_checkX F B TE cE ka3
  have kx : KX P w K mg base CE := ⟨c_checkX, c_solved⟩
  have c_ringX := cal_of (P := P) (w := w) (base := base) (ps := ["count", "facts"]) d_ring (fun _ _ _ _ _ _ us hl => match us, hl with | [_, _], _ => rfl) fun f fd F => ok_ringX F B kx
  have c_solX := cal_of (P := P) (w := w) (base := base) (ps := ["count", "facts"]) d_solution (fun _ _ _ _ _ _ us hl => match us, hl with | [_, _], _ => rfl) fun f fd F => ok_solX F B kx
  have r6 : R6 P w K mg base CE := ⟨c_ringX, c_solX⟩
  have c_state := cal_of (P := P) (w := w) (base := base) (ps := ["script"]) d__law_state (fun _ _ _ _ _ _ us hl => match us, hl with | [_], _ => rfl) fun f fd F => ok_state F B
  have c_draw := cal_of (P := P) (w := w) (base := base) (ps := ["state", "many"]) d__law_draw (fun _ _ _ _ _ _ us hl => match us, hl with | [_, _], _ => rfl) fun f fd F => ok_draw F B
  have g1 : G1 P w K mg base := ⟨c_draw⟩
  have c_number := cal_of (P := P) (w := w) (base := base) (ps := ["state"]) d__law_number (fun _ _ _ _ _ _ us hl => match us, hl with | [_], _ => rfl) fun f fd F => ok_number F B g1
  have c_lii := cal_of (P := P) (w := w) (base := base) (ps := ["thing"]) d__law_is_integer (fun _ _ _ _ _ _ us hl => match us, hl with | [_], _ => rfl) fun f fd F => ok_law_is_integer F B
  have g2 : G2 P w K mg base := ⟨g1, c_number, c_lii⟩
  have c_strange := cal_of (P := P) (w := w) (base := base) (ps := ["state"]) d__law_strange (fun _ _ _ _ _ _ us hl => match us, hl with | [_], _ => rfl) fun f fd F => ok_strange F B g1
  have c_size := cal_of (P := P) (w := w) (base := base) (ps := ["state"]) d__law_size (fun _ _ _ _ _ _ us hl => match us, hl with | [_], _ => rfl) fun f fd F => ok_size F B g1
  have c_amount := cal_of (P := P) (w := w) (base := base) (ps := ["state"]) d__law_amount (fun _ _ _ _ _ _ us hl => match us, hl with | [_], _ => rfl) fun f fd F => ok_amount F B g2
  have l3 : L3 P w K mg base := ⟨g2, c_amount⟩
  have c_planted := cal_of (P := P) (w := w) (base := base) (ps := ["state", "count", "many"]) d__law_planted (fun _ _ _ _ _ _ us hl => match us, hl with | [_, _, _], _ => rfl) fun f fd F => ok_planted F B g2
  have c_free := cal_of (P := P) (w := w) (base := base) (ps := ["state", "count", "many"]) d__law_free (fun _ _ _ _ _ _ us hl => match us, hl with | [_, _, _], _ => rfl) fun f fd F => ok_free F B l3
  have c_looped := cal_of (P := P) (w := w) (base := base) (ps := ["state", "count", "facts"]) d__law_looped (fun _ _ _ _ _ _ us hl => match us, hl with | [_, _, _], _ => rfl) fun f fd F => ok_looped F B l3
  have c_closed := cal_of (P := P) (w := w) (base := base) (ps := ["facts", "found"]) d__law_is_closed (fun _ _ _ _ _ _ us hl => match us, hl with | [_, _], _ => rfl) fun f fd F => ok_closed F B g2
  have c_keeps := cal_of (P := P) (w := w) (base := base) (ps := ["count", "facts", "found"]) d__law_keeps (fun _ _ _ _ _ _ us hl => match us, hl with | [_, _, _], _ => rfl) fun f fd F => ok_keeps F B g2
  have c_refused := cal_of (P := P) (w := w) (base := base) (ps := ["count", "facts"]) d__law_refused (fun _ _ _ _ _ _ us hl => match us, hl with | [_, _], _ => rfl) fun f fd F => ok_refused F B TE cE r6
  have c_bad := cal_of (P := P) (w := w) (base := base) (ps := ["state", "count"]) d__law_bad (fun _ _ _ _ _ _ us hl => match us, hl with | [_, _], _ => rfl) fun f fd F => ok_bad F B g1 c_strange
  have c_lif := cal_of (P := P) (w := w) (base := base) (ps := ["count", "thing"]) d__law_is_fact (fun _ _ _ _ _ _ us hl => match us, hl with | [_, _], _ => rfl) fun f fd F => ok_law_is_fact F B g2
  have s6 : S6 P w K mg base := ⟨g2, c_bad, c_lif, c_refused⟩
  have c_refuses := cal_of (P := P) (w := w) (base := base) (ps := ["state", "count", "facts"]) d__law_refuses (fun _ _ _ _ _ _ us hl => match us, hl with | [_, _, _], _ => rfl) fun f fd F => ok_refuses F B s6
  have w6 : W6 P w K mg base CE := ⟨c_state, c_draw, c_size, c_planted, c_free, c_looped, c_closed, c_keeps, c_refuses, c_isring, c_ringX, c_solX⟩
  exact ok_law F_law B w6
end
theorem exm_me {K : PySem.W.Frag} {C : Addr} (h1 : PySem.W.subIn K (.ref C) (.type "BaseException") = some true) (h2 : PySem.W.isClsIn K C = true) (h3 : PySem.W.typeIn K (.ref C) = some (.type "type")) (h4 : PySem.W.subIn K (.ref C) (.ref C) = some true) : PySem.W.exmOne K (.ref C) (.ref C) = some true := by
  have h2' : (PySem.W.clsIn K C).isSome = true := h2
  simp [PySem.W.exmOne, PySem.W.kitCls, h1, h2', h3, h4]
open PySem.W PySem.Calls PySem.HandSPX in
/-- the facts of an own error's class -/
theorem txt_mk {P : Program} {K : PySem.W.Frag} {h : Heap} {mg : Str → Option Value} {par fl : Str} {C fI N cda cc : Addr} {nm q qual tx file : Str} {bs bm sub : List Value} {sn : List Str} {ab : Bool} {col : Option Bool} {dd : Option Addr} {m0 m1 m2 m3 m5 : Option Value}
    {oc doc pm ct ccl cl : Value} {od an cdd cld : Option Addr} {osl ccs csl : Array (Option Value)} {vs : Array Value} {pa : Arguments} {p0 p1 p2 p3 p4 p5 p6 p7 p8 p9 : Pos} {j : Nat} {a0 : Arg} {tf : Nat} (X : K.In h) (G : h.Ns mainGlobals mg)
    (cls : K.lookup C = some (excClassObj nm q C N bs bm true sn sub ab col dd m0 m1 m2 m3 m5 "ValueError.__new__")) (ref : PySem.HandSPX.refsVE bm = true)
    (sa : PySem.W.findIn K (.ref C) "__setattr__" = some (some (.builtin "object.__setattr__"))) (ga : PySem.W.findIn K (.ref C) "__getattribute__" = some (some (.builtin "BaseException.__getattribute__"))) (gg : PySem.W.findIn K (.ref C) "__getattr__" = some none) (noN : PySem.W.findIn K (.ref C) fl = some none)
    (iC : PySem.W.findIn K (.ref C) "__init__" = some (some (.ref fI))) (tC : PySem.W.typeIn K (.ref fI) = some (.type "function")) (kC : PySem.W.keepIn K (.ref C) = true) (exC : PySem.W.subIn K (.ref C) (.type "BaseException") = some true) (veC : PySem.W.subIn K (.ref C) (.type "ValueError") = some true)
    (slf : PySem.W.mroIn K C (.ref C) = some true) (tyC : PySem.W.typeIn K (.ref C) = some (.type "type")) (hdC : PySem.W.hasDictIn K C = true) (isC : PySem.W.isClsIn K C = true) (sC : PySem.W.subIn K (.ref C) (.ref C) = some true)
    (along : PySem.W.ks_superIn K C C "__init__" = some (some (.builtin "ValueError.__init__"))) (opq : PySem.W.nsIn K cStatics "thirdparty.any" = some none) (sup : PySem.W.nsIn K mainGlobals "super" = some none) (top : (P.main.scope.names.lookup ("super" : Str)).isSome = false)
    (lf : K.lookup fI = some ⟨oc, od, .func (PySem.W.ksFn "__init__" qual pa (PySem.BadX.shape tx par fl p0 p1 p2 p3 p4 p5 p6 p7 p8 p9 j) (PySem.BadX.sco par) .none .none doc pm an (.ref cda) ct cc), osl⟩) (cd : PySem.W.codeIn K (.ref cda) qual = true) (ha0 : (pa.posonlyargs ++ pa.args).head? = some a0) (ha1 : a0.arg = "self")
    (bd : ∀ (s : Shared) (u v : Value), BindsTo s (PySem.W.ksFn "__init__" qual pa (PySem.BadX.shape tx par fl p0 p1 p2 p3 p4 p5 p6 p7 p8 p9 j) (PySem.BadX.sco par) .none .none doc pm an (.ref cda) ct cc) ⟨[u, v], []⟩ [("self", u), (par, v)])
    (lc : K.lookup cda = some ⟨ccl, cdd, .fields vs, ccs⟩) (hvs : vs[2]? = some (.str file tf)) (hfile : ((P.main.file : Str) == file) = true) (hpe : (p2.endLine == p4.line) = true) (lcc : K.lookup cc = some ⟨cl, cld, .cell (some (.ref C)), csl⟩) : PySem.BadX.Txt P K mg par fl C fI :=
  { cls := ⟨nm, q, N, bs, bm, sn, sub, ab, col, dd, m0, m1, m2, m3, m5, cls, ref⟩, sa := sa, ga := ga, gg := gg, noN := noN, iC := iC, tC := tC, kC := kC, exC := exC, veC := veC, slf := slf, tyC := tyC, hdC := hdC, te := exm_me exC isC tyC sC, along := along, opq := opq, sup := PySem.W.mg_none_of X G sup, top := top,
    fn := ⟨oc, od, qual, tx, doc, pm, an, cda, cc, ct, osl, pa, p0, p1, p2, p3, p4, p5, p6, p7, p8, p9, j, a0, lf, cd, ha0, ha1, bd, ⟨ccl, cdd, vs, ccs, file, tf, lc, hvs, hfile⟩, hpe, ⟨cl, cld, csl, lcc⟩⟩ }
theorem all_mk {P : Program} {w : World} {K : PySem.W.Frag} {h : Heap} {mg : Str → Option Value} {fa CE fE f4 : Addr} {oc4 kV4 dc4 pm4 cd4 ct4 : Value} {od4 an4 : Option Addr} {sl4 : Array (Option Value)} (X : K.In h) (G : h.Ns mainGlobals mg) (hfa : mg "law" = some (.ref fa)) (aBF : PySem.W.nsIn K mainGlobals "BadFact" = some (some (.ref CE)))
    (a4 : PySem.W.nsIn K mainGlobals "law" = some (some (.ref f4))) (l4 : K.lookup f4 = some ⟨oc4, od4, .func (PySem.W.fnOf "law" "law" (defArgs s_law) (defBody s_law) (defScope s_law) .none kV4 dc4 pm4 an4 cd4 ct4), sl4⟩) (c4 : PySem.W.codeIn K cd4 "law" = true) (k4 : PySem.W.keepIn K (.ref f4) = true) (B : Blt mg) (TE : PySem.BadX.Txt P K mg "at" "at" CE fE)
    (d_is_integer : D1 K mg "is_integer" s_is_integer)
    (d_are_integers : D1 K mg "are_integers" s_are_integers)
    (d_is_fact : D1 K mg "is_fact" s_is_fact)
    (d_check_facts : D1 K mg "check_facts" s_check_facts)
    (d_goes_round : D1 K mg "goes_round" s_goes_round)
    (d_is_ring : D1 K mg "is_ring" s_is_ring)
    (d_ring_behind : D1 K mg "ring_behind" s_ring_behind)
    (d_solved : D1 K mg "solved" s_solved)
    (d_ring : D1 K mg "ring" s_ring)
    (d_solution : D1 K mg "solution" s_solution)
    (d__law_state : D1 K mg "_law_state" s_l_state)
    (d__law_draw : D1 K mg "_law_draw" s_l_draw)
    (d__law_number : D1 K mg "_law_number" s_l_number)
    (d__law_is_integer : D1 K mg "_law_is_integer" s_l_is_integer)
    (d__law_strange : D1 K mg "_law_strange" s_l_strange)
    (d__law_size : D1 K mg "_law_size" s_l_size)
    (d__law_amount : D1 K mg "_law_amount" s_l_amount)
    (d__law_planted : D1 K mg "_law_planted" s_l_planted)
    (d__law_free : D1 K mg "_law_free" s_l_free)
    (d__law_looped : D1 K mg "_law_looped" s_l_looped)
    (d__law_is_closed : D1 K mg "_law_is_closed" s_l_is_closed)
    (d__law_keeps : D1 K mg "_law_keeps" s_l_keeps)
    (d__law_refused : D1 K mg "_law_refused" s_l_refused)
    (d__law_bad : D1 K mg "_law_bad" s_l_bad)
    (d__law_is_fact : D1 K mg "_law_is_fact" s_l_is_fact)
    (d__law_refuses : D1 K mg "_law_refuses" s_l_refuses)
    : ∃ fd : FuncData, (∀ (s : Shared) (v : Value), BindsTo s fd ⟨[v], []⟩ [("script", v)]) ∧ ∀ base : Heap, K.In base → base.Ns mainGlobals mg → FnOk P w K mg base CX0 8 fa fd ["script"] (spLaw K) := by
  have e := hfa.symm.trans (PySem.W.mg_of X G a4)
  cases e
  exact ⟨PySem.W.fnOf "law" "law" (defArgs s_law) (defBody s_law) (defScope s_law) .none kV4 dc4 pm4 an4 cd4 ct4, fun s v => .of_eq rfl, fun base _ _ => all_ok B TE (PySem.W.mg_of X G aBF) d_is_integer d_are_integers d_is_fact d_check_facts d_goes_round d_is_ring d_ring_behind d_solved d_ring d_solution d__law_state d__law_draw d__law_number d__law_is_integer d__law_strange d__law_size d__law_amount d__law_planted d__law_free d__law_looped d__law_is_closed d__law_keeps d__law_refused d__law_bad d__law_is_fact d__law_refuses (fun_mk l4 c4 k4)⟩
theorem walk {l : PySem.W.OpenLaw} {q : Program} {loose : List Str} {XP : (Str → Option Value) → Heap → Prop} {YP : World → Heap → Prop} {d : DefRec} {K : Params → PySem.W.Frag} (hn : l.most = some 63) (hdf : d.params.defaults = [])
    (hY : ∀ (w : World) (h : Heap), YP w h → (K w.params).In h)
    (F : ∀ (w : World) (mg : Str → Option Value) (fa : Addr) (h : Heap), (K w.params).In h → h.Ns mainGlobals mg → mg d.name = some (.ref fa) →
      ∃ fd : FuncData, (∀ (s : Shared) (u : Value), BindsTo s fd ⟨[u], []⟩ [("script", u)]) ∧ ∀ base : Heap, (K w.params).In base → base.Ns mainGlobals mg → FnOk l.prog w (K w.params) mg base CX0 8 fa fd ["script"] (spLaw (K w.params))) :
    PySem.W.WalkO q loose XP YP l.row.toRowW d [] (fun f vs => PySem.call f vs) :=
  L2.walk_of (n := 63) (k := 8) (x := "script") (CX := fun _ => CX0) (sp := fun w => spLaw (K w.params)) hn (by decide) hdf ⟨rfl, by decide, by decide⟩ hY F (fun _ _ a ns hl _ hS => ⟨a, ns, rfl, hS, hl, fun _ => rfl⟩) fun _ _ _ _ _ z => z
end Ash

set_option Elab.async false
open PySem PySem.W PyProof.Rows
set_option maxRecDepth 100000 in
set_option maxHeartbeats 0 in
theorem PySem.Challenge.cw_asofhall_k20_rings_or_solutions_holds : PySem.Challenge.rw_asofhall_k20_rings_or_solutions.Holds := by
  w_on; o_law; k_head; (case hw => w_witness2)
  k_fill
  refine Ash.walk (l := PySem.Challenge.rw_asofhall_k20_rings_or_solutions) rfl rfl (fun w h Y => PySem.W.kIn_of Y) ?F
  case F =>
    intro w mg fa h KX G hmg
    refine' Ash.all_mk KX G hmg ?aBF ?a4 ?l4 ?c4 ?k4 ?B ?TE ?d_is_integer ?d_are_integers ?d_is_fact ?d_check_facts ?d_goes_round ?d_is_ring ?d_ring_behind ?d_solved ?d_ring ?d_solution ?d__law_state ?d__law_draw ?d__law_number ?d__law_is_integer ?d__law_strange ?d__law_size ?d__law_amount ?d__law_planted ?d__law_free ?d__law_looped ?d__law_is_closed ?d__law_keeps ?d__law_refused ?d__law_bad ?d__law_is_fact ?d__law_refuses
    (case aBF => k_is)
    (case a4 => k_is)
    (case l4 => k_is)
    (case c4 => k_is)
    (case k4 => k_is)
    (case B => refine' { len := PySem.W.mg_none_of KX G ?z_len, int := PySem.W.mg_none_of KX G ?z_int, bool := PySem.W.mg_none_of KX G ?z_bool, str := PySem.W.mg_none_of KX G ?z_str, list := PySem.W.mg_none_of KX G ?z_list, tuple := PySem.W.mg_none_of KX G ?z_tuple, dict := PySem.W.mg_none_of KX G ?z_dict, isinstance := PySem.W.mg_none_of KX G ?z_isinstance, all := PySem.W.mg_none_of KX G ?z_all, range := PySem.W.mg_none_of KX G ?z_range, enumerate := PySem.W.mg_none_of KX G ?z_enumerate, sorted := PySem.W.mg_none_of KX G ?z_sorted, min := PySem.W.mg_none_of KX G ?z_min, max := PySem.W.mg_none_of KX G ?z_max }; (case z_len => k_is); (case z_int => k_is); (case z_bool => k_is); (case z_str => k_is); (case z_list => k_is); (case z_tuple => k_is); (case z_dict => k_is); (case z_isinstance => k_is); (case z_all => k_is); (case z_range => k_is); (case z_enumerate => k_is); (case z_sorted => k_is); (case z_min => k_is); (case z_max => k_is))
    (case TE => refine' Ash.txt_mk KX G ?x_cls ?x_ref ?x_sa ?x_ga ?x_gg ?x_noN ?x_iC ?x_tC ?x_kC ?x_exC ?x_veC ?x_slf ?x_tyC ?x_hdC ?x_isC ?x_sC ?x_along ?x_opq ?x_sup ?x_top ?x_lf ?x_cd ?x_ha0 ?x_ha1 ?x_bd ?x_lc ?x_hvs ?x_hfile ?x_hpe ?x_lcc; (case x_cls => k_is); (case x_ref => decide +kernel); (case x_sa => k_is); (case x_ga => k_is); (case x_gg => k_is); (case x_noN => k_is); (case x_iC => k_is); (case x_tC => k_is); (case x_kC => k_is); (case x_exC => k_is); (case x_veC => k_is); (case x_slf => k_is); (case x_tyC => k_is); (case x_hdC => k_is); (case x_isC => k_is); (case x_sC => k_is); (case x_along => ks_is); (case x_opq => k_is); (case x_sup => k_is); (case x_top => decide +kernel); (case x_lf => k_is); (case x_cd => k_is); (case x_ha0 => exact rfl); (case x_ha1 => exact rfl); (case x_bd => exact fun s u v => .of_eq rfl); (case x_lc => k_is); (case x_hvs => exact rfl); (case x_hfile => decide +kernel); (case x_hpe => decide +kernel); (case x_lcc => k_is))
    (case d_is_integer => refine' Ash.d1 KX G ?a ?l ?c ?k; (case a => k_is); (case l => k_is); (case c => k_is); (case k => k_is))
    (case d_are_integers => refine' Ash.d1 KX G ?a ?l ?c ?k; (case a => k_is); (case l => k_is); (case c => k_is); (case k => k_is))
    (case d_is_fact => refine' Ash.d1 KX G ?a ?l ?c ?k; (case a => k_is); (case l => k_is); (case c => k_is); (case k => k_is))
    (case d_check_facts => refine' Ash.d1 KX G ?a ?l ?c ?k; (case a => k_is); (case l => k_is); (case c => k_is); (case k => k_is))
    (case d_goes_round => refine' Ash.d1 KX G ?a ?l ?c ?k; (case a => k_is); (case l => k_is); (case c => k_is); (case k => k_is))
    (case d_is_ring => refine' Ash.d1 KX G ?a ?l ?c ?k; (case a => k_is); (case l => k_is); (case c => k_is); (case k => k_is))
    (case d_ring_behind => refine' Ash.d1 KX G ?a ?l ?c ?k; (case a => k_is); (case l => k_is); (case c => k_is); (case k => k_is))
    (case d_solved => refine' Ash.d1 KX G ?a ?l ?c ?k; (case a => k_is); (case l => k_is); (case c => k_is); (case k => k_is))
    (case d_ring => refine' Ash.d1 KX G ?a ?l ?c ?k; (case a => k_is); (case l => k_is); (case c => k_is); (case k => k_is))
    (case d_solution => refine' Ash.d1 KX G ?a ?l ?c ?k; (case a => k_is); (case l => k_is); (case c => k_is); (case k => k_is))
    (case d__law_state => refine' Ash.d1 KX G ?a ?l ?c ?k; (case a => k_is); (case l => k_is); (case c => k_is); (case k => k_is))
    (case d__law_draw => refine' Ash.d1 KX G ?a ?l ?c ?k; (case a => k_is); (case l => k_is); (case c => k_is); (case k => k_is))
    (case d__law_number => refine' Ash.d1 KX G ?a ?l ?c ?k; (case a => k_is); (case l => k_is); (case c => k_is); (case k => k_is))
    (case d__law_is_integer => refine' Ash.d1 KX G ?a ?l ?c ?k; (case a => k_is); (case l => k_is); (case c => k_is); (case k => k_is))
    (case d__law_strange => refine' Ash.d1 KX G ?a ?l ?c ?k; (case a => k_is); (case l => k_is); (case c => k_is); (case k => k_is))
    (case d__law_size => refine' Ash.d1 KX G ?a ?l ?c ?k; (case a => k_is); (case l => k_is); (case c => k_is); (case k => k_is))
    (case d__law_amount => refine' Ash.d1 KX G ?a ?l ?c ?k; (case a => k_is); (case l => k_is); (case c => k_is); (case k => k_is))
    (case d__law_planted => refine' Ash.d1 KX G ?a ?l ?c ?k; (case a => k_is); (case l => k_is); (case c => k_is); (case k => k_is))
    (case d__law_free => refine' Ash.d1 KX G ?a ?l ?c ?k; (case a => k_is); (case l => k_is); (case c => k_is); (case k => k_is))
    (case d__law_looped => refine' Ash.d1 KX G ?a ?l ?c ?k; (case a => k_is); (case l => k_is); (case c => k_is); (case k => k_is))
    (case d__law_is_closed => refine' Ash.d1 KX G ?a ?l ?c ?k; (case a => k_is); (case l => k_is); (case c => k_is); (case k => k_is))
    (case d__law_keeps => refine' Ash.d1 KX G ?a ?l ?c ?k; (case a => k_is); (case l => k_is); (case c => k_is); (case k => k_is))
    (case d__law_refused => refine' Ash.d1 KX G ?a ?l ?c ?k; (case a => k_is); (case l => k_is); (case c => k_is); (case k => k_is))
    (case d__law_bad => refine' Ash.d1 KX G ?a ?l ?c ?k; (case a => k_is); (case l => k_is); (case c => k_is); (case k => k_is))
    (case d__law_is_fact => refine' Ash.d1 KX G ?a ?l ?c ?k; (case a => k_is); (case l => k_is); (case c => k_is); (case k => k_is))
    (case d__law_refuses => refine' Ash.d1 KX G ?a ?l ?c ?k; (case a => k_is); (case l => k_is); (case c => k_is); (case k => k_is))

