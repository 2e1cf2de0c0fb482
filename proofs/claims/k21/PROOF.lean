import PyProof.Rows.All
import Wide.All
import OpenK.AllK
import Wide.FinOn
import PyProof.EqAt
import PyProof.EqKinds
import PyProof.TupleCall
import KE.KExcSuper
import HandS.ForMost
import HandS.ForExc
import HandS.ExcInit
import HandS.IsInst
import HandS.Wide
import HandS.Star
import HandS.CallSlots
import HandS.DictComp
import HandS.OwnEq
import HandS.Codes
import HandS.Defaults
import HandS.Walk
import PySem.Challenge.RW_asofhall_k21_rings_judged
import HandS.TupMul
import HandS.TupAny
import HandS.Style
set_option Elab.async false
set_option linter.all false
set_option maxRecDepth 100000
set_option maxHeartbeats 4000000
namespace PySem
namespace BadX
open PySem.W PySem.Calls PyProof.Rows PySem.HandSPX
/-- super().__init__(text); self.fl = par -/
def shape (tx par fl : Str) (p0 p1 p2 p3 p4 p5 p6 p7 p8 p9 : Pos) (j : Nat) : List Stmt :=
  [.Expr (.Call (.Attribute (.Call (.Name "super" p0) [] [] p1) "__init__" p2) [.Constant (.str tx) j p3] [] p4) p5,
   .Assign [.Attribute (.Name "self" p6) fl p7] (.Name par p8) p9]
def sco (par : Str) : Scope := { kind := .function, names := [(PySem.Str.ofString "self", .local), (par, .local), (PySem.Str.ofString "__class__", .free), (PySem.Str.ofString "super", .globalImplicit)], isGenerator := false, isCoroutine := false, more := [] }
/-- what the written part says of an own error's class at C, its __init__ at fI, whose one field is fl -/
structure Txt (P : Program) (K : Frag) (mg : Str → Option Value) (par fl : Str) (C fI : Addr) : Prop where
  cls : ∃ nm q N bs bm sn sub ab col dd k0 k1 k2 k3 k5, K.lookup C = some (excClassObj nm q C N bs bm true sn sub ab col dd k0 k1 k2 k3 k5 "ValueError.__new__") ∧ refsVE bm = true
  sa : findIn K (.ref C) "__setattr__" = some (some (.builtin "object.__setattr__"))
  ga : findIn K (.ref C) "__getattribute__" = some (some (.builtin "BaseException.__getattribute__"))
  gg : findIn K (.ref C) "__getattr__" = some none
  noN : findIn K (.ref C) fl = some none
  iC : findIn K (.ref C) "__init__" = some (some (.ref fI))
  tC : typeIn K (.ref fI) = some (.type "function")
  kC : keepIn K (.ref C) = true
  exC : subIn K (.ref C) (.type "BaseException") = some true
  veC : subIn K (.ref C) (.type "ValueError") = some true
  slf : mroIn K C (.ref C) = some true
  tyC : typeIn K (.ref C) = some (.type "type")
  hdC : hasDictIn K C = true
  te : exmOne K (.ref C) (.ref C) = some true
  along : ks_superIn K C C "__init__" = some (some (.builtin "ValueError.__init__"))
  opq : nsIn K cStatics "thirdparty.any" = some none
  sup : mg "super" = none
  top : (P.main.scope.names.lookup ("super" : Str)).isSome = false
  fn : ∃ (oc : Value) (od : Option Addr) (qual tx : Str) (doc pm : Value) (an : Option Addr) (cda cc : Addr) (ct : Value) (osl : Array (Option Value)) (pa : Arguments) (p0 p1 p2 p3 p4 p5 p6 p7 p8 p9 : Pos) (j : Nat) (a0 : Arg),
    K.lookup fI = some ⟨oc, od, .func (ksFn "__init__" qual pa (shape tx par fl p0 p1 p2 p3 p4 p5 p6 p7 p8 p9 j) (sco par) .none .none doc pm an (.ref cda) ct cc), osl⟩ ∧ codeIn K (.ref cda) qual = true ∧
    (pa.posonlyargs ++ pa.args).head? = some a0 ∧ a0.arg = "self" ∧
    (∀ (s : Shared) (u v : Value), BindsTo s (ksFn "__init__" qual pa (shape tx par fl p0 p1 p2 p3 p4 p5 p6 p7 p8 p9 j) (sco par) .none .none doc pm an (.ref cda) ct cc) ⟨[u, v], []⟩ [("self", u), (par, v)]) ∧
    (∃ ccl cdd vs ccs file tf, K.lookup cda = some ⟨ccl, cdd, .fields vs, ccs⟩ ∧ vs[2]? = some (.str file tf) ∧ ((P.main.file : Str) == file) = true) ∧
    (p2.endLine == p4.line) = true ∧
    (∃ cl cld csl, K.lookup cc = some ⟨cl, cld, .cell (some (.ref C)), csl⟩)
/-- what __init__ leaves of a fresh exception at x -/
structure Left (fl : Str) (h h' : Heap) (x C dx t1 : Addr) (v : Value) : Prop where
  keep : ∀ b o, b ≠ x → h.get? b = some o → h'.get? b = some o
  obj : h'.get? x = some { cls := .ref C, dict := some dx, data := .fields #[.ref t1, .none, .none, .none, .bool false, .none] }
  dbig : h.objs.size ≤ dx
  dne : dx ≠ x
  ns : h'.Ns1 dx (fun y => if y = fl then some v else none)
section
variable {prog : Program} {w : World} {A : Around} {E : Value → Shared → Prop} {R : Result → Shared → Prop} {s : Shared} {K : Frag} {mg mb : Str → Option Value} {C fI : Addr} {par fl : Str}
/-- the wrapper of ValueError.__init__, bound to x, called -/
theorem call_bound {h : Heap} {g : Array GenState} {d : Drawn} {t : Nat} {os : OsState} {u x t0 : Addr} {rest : List Value} {Q : Value → Shared → Prop} {nm q : Str} {N : Addr} {bs bm : List Value} {sn : List Str} {sub : List Value} {ab : Bool} {col : Option Bool} {dd : Option Addr} {k0 k1 k2 k3 k5 : Option Value}
    (hC : h.get? C = some (excClassObj nm q C N bs bm true sn sub ab col dd k0 k1 k2 k3 k5 "ValueError.__new__")) (hx : h.get? x = some (excO C t0)) (hu : h.get? u = some (kxs_mw "ValueError.__init__" x)) (hr : rest.length ≤ sizeLine)
    (hq : ∀ h', (∀ b o, b ≠ x → h.get? b = some o → h'.get? b = some o) → h'.get? x = some (excO C h.objs.size) → Q .none ⟨h', g, d, t, os⟩) :
    wpAny (model prog w) A (call (.ref u) rest) Q E ⟨h, g, d, t, os⟩ := by
  have FB := F.excBase_ValueError
  refine wpAny_call (codeAny_of_tree ?_)
  show wpAny _ A.in1 (callAny (.ref u) ⟨rest, []⟩) _ _ _
  simp only [callAny]
  refine wpAny_bind (wpAny_load hu ?_)
  have c1 : (Value.type "method-wrapper" == Value.type "method" || Value.type "method-wrapper" == Value.type "builtin_function_or_method" || Value.type "method-wrapper" == Value.type "method-wrapper") = true := by decide
  simp only [kxs_mw, c1, if_true]
  refine KFB.if_so (by decide) (wpAny_bind (check_bound_init FB.toExcCallFacts hC hx rfl (wpAny_bind (wpAny_pure (wpAny_pure ⟨plainId_quiet FB.init.plain _, codeAny_builtin FB.initEntry ?_⟩)))))
  exact exc_init_tree (cls := .ref C) (t0 := t0) (dv := none) (c2 := .none) (c3 := .none) (b4 := .bool false) hx hr fun h' k e' _ => hq h' k e'
theorem init_ok {x t0 : Addr} {v : Value} (T : Txt prog K mg par fl C fI) (X : K.In s.heap) (G : s.heap.Ns mainGlobals mg) (B : s.heap.Ns builtinsNs mb) (hb : mb "super" = some (.type "super")) (hlim : s.heap.NoLimit)
    (hx : s.heap.get? x = some (excO C t0)) (hnx : K.lookup x = none) (hroom : A.depth < recursionLimit) (hp1 : (par == ("__debug__" : Str)) = false) (hp2 : ¬ par = "self")
    (hloc : (sco par).names.lookup par = some .local) (hks : (sco par).names.lookup ("super" : Str) = some .globalImplicit) (hkc : (sco par).names.lookup ("__class__" : Str) = some .free)
    (hq : ∀ h' tk t1 dx, Left fl s.heap h' x C dx t1 v → R (.ok (.ret .none)) { s with heap := h', toks := tk }) :
    codeAny (model prog w) A (.call (.ref fI) ⟨[.ref x, v], []⟩) R s := by
  obtain ⟨oc, od, qual, tx, doc, pm, an, cda, cc, ct, osl, pa, p0, p1, p2, p3, p4, p5, p6, p7, p8, p9, j, a0, ho, hcd, ha0, ha1, hbd, ⟨ccl, cdd, vs, ccs, file, tf, hcode, hvs, hfile⟩, hpe, ⟨cl, cld, csl, hcell⟩⟩ := T.fn
  obtain ⟨nm, q, N, bs, bm, sn, sub, ab, col, dd, k0, k1, k2, k3, k5, hC, hbm⟩ := T.cls
  have hcl : clsIn K C = some { name := nm, bases := bs, mro := .ref C :: bm, ns := N, qualname := q, hasDict := true, slotNames := sn, subclasses := sub, abstract := ab, collection := col, hasDel := false } := by unfold clsIn; rw [hC] <;> rfl
  refine ks_codeAny_call_defAt (binds := [("self", .ref x), (par, v)]) hroom (X _ _ ho) rfl hlim (codeRec_of X hcd) rfl (hbd s (.ref x) v) ?_ ?_ (fun h₁ hns hk₁ => ?_)
  · intro y hy
    have : y ∈ [(PySem.Str.ofString "self", NameKind.local), (par, .local), (PySem.Str.ofString "__class__", .free), (PySem.Str.ofString "super", .globalImplicit)] := hy
    simp only [List.mem_cons, List.not_mem_nil, or_false] at this
    rcases this with rfl | rfl | rfl | rfl <;> (intro z; cases z)
  · intro y hy
    simp only [List.mem_cons, List.not_mem_nil, or_false] at hy
    rcases hy with rfl | rfl
    · exact (by rfl : (sco par).names.lookup ("self" : Str) = some .local)
    · exact hloc
  have hself : ([(("self" : Str), Value.ref x), (par, v)] : List (Str × Value)).reverse.lookup ("self" : Str) = some (Value.ref x) := by
    show List.lookup ("self" : Str) [(par, v), (("self" : Str), Value.ref x)] = _
    have e1 : (("self" : Str) == par) = false := by simpa using fun z => hp2 z.symm
    simp [List.lookup, e1]
  have hpar : ([(("self" : Str), Value.ref x), (par, v)] : List (Str × Value)).reverse.lookup par = some v := by
    show List.lookup par [(par, v), (("self" : Str), Value.ref x)] = _
    simp [List.lookup]
  have X₁ : K.In h₁ := X.keeps hk₁
  have hx₁ := hk₁ _ _ hx
  refine ks_wpAt_execs_cons (ks_wpAt_Expr_any (ks_wpAt_MethodCall (pl := ?pl) ?_ ?he))
  case he =>
    rw [arm_eval_Call]
    unfold methodCall methodCallPos
    rw [hpe]
    with_unfolding_all rfl
  refine ks_wpAt_super_base (hks := hks) (hkc := hkc) (by decide +kernel) rfl (X₁ _ _ ho) rfl ha0 rfl (X₁ _ _ hcode) rfl hvs hfile T.top ?_
  refine ks_loadName_global rfl hks (loadGlobal_builtin (G.keeps hk₁) T.sup (B.keeps hk₁) hb ⟨rfl, ?_⟩)
  refine wpAny_loadName_free rfl hkc rfl ⟨_, X₁ _ _ hcell, rfl⟩ ?_
  rw [ha1]
  refine wpAny_loadName_local rfl rfl hns hself ?_
  refine ks_wpAny_isType_cls (X₁ _ _ hC) rfl ⟨rfl, ?_⟩
  refine ks_wpAny_call_super (X₁ _ _ hC) rfl hx₁ rfl (fun c e => by cases e) (looks_mroIn X₁ T.slf) (fun h₂ e₂ k₂ => ?_)
  have X₂ : K.In h₂ := X₁.keeps k₂
  have hx₂ := k₂ _ _ hx₁
  have I₂ : InstAt h₂ x (excO C t0) C none := ⟨hx₂, rfl, rfl, trivial⟩
  have hal := T.along
  unfold ks_superIn at hal
  rw [hcl] at hal
  refine kxs_getMethod kxs_ValueError e₂ (looks_opaque X₂ T.opq) (l₀ := .ref C :: bm) ?_ rfl X₂ hal (I₂.type.andThen (looks_subIn X₂ T.veC)) (ks_ne X₂ I₂ hcl) (by decide +kernel) ?_
  · exact fun A Q E s k q => wpAny_bind ((looks_clsIn X₂ hcl) A _ E s k (wpAny_pure q))
  have hu : (h₂.push (kxs_mw "ValueError.__init__" x)).get? h₂.objs.size = some (kxs_mw "ValueError.__init__" x) := Heap.get?_push_at rfl rfl
  have k₃ : ∀ b o, h₂.get? b = some o → (h₂.push (kxs_mw "ValueError.__init__" x)).get? b = some o := fun b o e => Heap.get?_push_of_some _ e
  let H₃ := h₂.push (kxs_mw "ValueError.__init__" x)
  refine kxs_callWith1 (i := "ValueError.__init__") (x := x) (u := h₂.objs.size) (h₀ := Att.noObjs H₃) (L := h₂.objs.size + 7) (news := [(h₂.objs.size, kxs_mw "ValueError.__init__" x)]) (fun q hq => ?_) (List.Mem.head _) ?_
  · rcases List.mem_cons.mp hq with rfl | hq
    · exact ⟨hu, by show h₂.objs.size ≠ h₂.objs.size + 7; omega, Att.noObjs_get _ _⟩
    · cases hq
  refine wpAny_items_cons (Constant_str ?_)
  refine wpAny_items_nil ⟨hu, ?_⟩
  have X₃ : K.In (h₂.push (kxs_mw "ValueError.__init__" x)) := X₂.keeps k₃
  refine call_bound (X₃ _ _ hC) (k₃ _ _ hx₂) hu (by rw [sizeLine_eq]; exact (by decide : 1 ≤ 16777216)) fun h₄ k₄ e₄ => ?_
  -- self.fl = par
  have k14 : ∀ b o, b ≠ x → h₁.get? b = some o → h₄.get? b = some o := fun b o hb e => k₄ b o hb (k₃ b o (k₂ b o e))
  have xL : s.heap.objs.size ≠ x := Nat.ne_of_gt (Heap.lt_size hx)
  obtain ⟨oL, es, ep, hL, hr⟩ := hns
  have hns₄ : h₄.Ns s.heap.objs.size (fun y => ([(("self" : Str), Value.ref x), (par, v)] : List (Str × Value)).reverse.lookup y) := ⟨oL, es, ep, k14 _ _ xL hL, hr⟩
  have X₄ : K.In h₄ := fun a o e => k₄ a o (fun z => by rw [z, hnx] at e; cases e) (X₃ a o e)
  refine wpAt_of_wpAny (wpAny_execs_cons (plainObj_wpAny_Assign_Attribute ?_))
  refine wpAny_Name (wpAny_loadName_local rfl hloc hns₄ hpar ?_) hp1
  refine wpAny_Name (wpAny_loadName_local rfl rfl hns₄ hself ?_) (by decide)
  refine set_plain X₄ (ox := excO C h₂.objs.size.succ) (od := none) ⟨?_, rfl, rfl, trivial⟩ T.sa ?_
  · show h₄.get? x = some (excO C h₂.objs.size.succ)
    rw [e₄, Heap.size_push]
  have e₄' : h₄.get? x = some (excO C h₂.objs.size.succ) := by
    rw [e₄, Heap.size_push]
  refine exc_osa X₄ e₄' hcl (show refsVE (.ref C :: bm) = true from hbm) rfl T.noN (fun h₅ tk₅ dx k₅ dn dne hx₅ hn₅ => ?_)
  have z1 : s.heap.objs.size < h₄.objs.size := Heap.lt_size (k14 _ _ xL hL)
  refine wpAny_execs_nil (hq h₅ tk₅ _ dx ⟨fun b o hb e => k₅ b o hb (k14 b o hb (hk₁ b o e)), hx₅, Nat.le_of_lt (Nat.lt_of_lt_of_le z1 dn), dne, hn₅⟩)
theorem one_le (v : Value) : [v].length ≤ sizeLine := by
  rw [sizeLine_eq]
  exact (by decide : 1 ≤ 16777216)
/-- a made error -/
structure Made (fl : Str) (h h' : Heap) (e C d : Addr) (v : Value) : Prop where
  keep : ∀ b o, h.get? b = some o → h'.get? b = some o
  new : h.objs.size ≤ e
  obj : ∃ oe vs, h'.get? e = some oe ∧ oe.cls = .ref C ∧ oe.dict = some d ∧ oe.data = .fields vs ∧ vs[1]? = some .none
  dbig : h.objs.size ≤ d
  dne : d ≠ e
  ns : h'.Ns1 d (fun y => if y = fl then some v else none)
/-- the names of such an __init__ -/
structure Par (par : Str) : Prop where
  p1 : (par == ("__debug__" : Str)) = false
  p2 : ¬ par = "self"
  p3 : (sco par).names.lookup par = some .local
  p4 : (sco par).names.lookup ("super" : Str) = some .globalImplicit
  p5 : (sco par).names.lookup ("__class__" : Str) = some .free
theorem made_ok {v : Value} (T : Txt prog K mg par fl C fI) (p : Par par) (X : K.In s.heap) (G : s.heap.Ns mainGlobals mg) (B : s.heap.Ns builtinsNs mb) (hb : mb "super" = some (.type "super")) (hlim : s.heap.NoLimit) (hroom : A.depth + 1 < recursionLimit)
    (hq : ∀ h' tk e d, Made fl s.heap h' e C d v → R (.ok (.ret (.ref e))) { s with heap := h', toks := tk }) :
    codeAny (model prog w) A (.call (.ref C) ⟨[v], []⟩) R s := by
  obtain ⟨nm, q, N, bs, bm, sn, sub, ab, col, dd, k0, k1, k2, k3, k5, hC, hbm⟩ := T.cls
  obtain ⟨hp, g, dr, tk, os⟩ := s
  let hp2 := (hp.push (kdv_tup [v])).push (excO C hp.objs.size)
  have k : ∀ b o, hp.get? b = some o → hp2.get? b = some o := fun b o e => Heap.get?_push_of_some _ (Heap.get?_push_of_some _ e)
  have hget : hp2.get? (hp.objs.size + 1) = some (excO C hp.objs.size) := by
    show ((hp.push (kdv_tup [v])).push (excO C hp.objs.size)).get? (hp.objs.size + 1) = _
    heap_get
  have hsz : hp2.objs.size = hp.objs.size + 2 := by
    show ((hp.push (kdv_tup [v])).push (excO C hp.objs.size)).objs.size = _
    rw [Heap.size_push, Heap.size_push]
  have hnx : K.lookup (hp.objs.size + 1) = none := by
    cases e : K.lookup (hp.objs.size + 1) with
    | none => rfl
    | some o => exact absurd (Nat.lt_of_succ_lt (Heap.lt_size (show hp.get? _ = some o from X _ _ e))) (Nat.lt_irrefl _)
  refine call_own F.excBase_ValueError (fun Y => refsVE_contains Y bm hbm) (X _ _ hC) (looks_findIn X T.iC) (fun self => bind_fn X self T.tC) (one_le v) ?_
  refine init_ok (s := ⟨hp2, g, dr, tk, os⟩) T (X.keeps k) (G.keeps k) (B.keeps k) hb (hlim.keeps k) hget hnx (show A.depth + 1 < recursionLimit from hroom) p.p1 p.p2 p.p3 p.p4 p.p5 fun h' tk' t1 dx ⟨k', hx, dn, dne, hns⟩ => ?_
  have old : ∀ b o, hp.get? b = some o → h'.get? b = some o := fun b o e => k' b o (Nat.ne_of_lt (Nat.lt_succ_of_lt (Heap.lt_size e))) (k b o e)
  have dn' : hp2.objs.size ≤ dx := dn
  rw [hsz] at dn'
  exact ⟨rfl, hq h' tk' (hp.objs.size + 1) dx ⟨old, Nat.le_succ _, ⟨_, _, hx, rfl, rfl, rfl, rfl⟩, (by show hp.objs.size ≤ dx; omega), dne, hns⟩⟩
end
end BadX
end PySem
namespace L2
open PySem PySem.Spec PyProof.Rows
theorem relO_one {v : V} {v' : Value} (r : RelV v v') (fl f : Str) : RelO (List.lookup f [(fl, v)]) (if f = fl then some v' else none) := by
  by_cases hw : f = fl
  · subst hw
    rw [if_pos rfl]
    have q : List.lookup f [(f, v)] = some v := by simp [List.lookup]
    rw [q]
    exact r
  · rw [if_neg hw]
    have qw : (f == fl) = false := by simpa using hw
    have q2 : List.lookup f [(fl, v)] = none := by simp [List.lookup, qw]
    rw [q2]
    trivial
section
variable {X : Cx} {C fI : Addr}
/-- Cls(e), an own error with the one field fl -/
def tMkB (fl : Str) (C : Addr) (ta : TA) : St → Hp → XK → Prop := fun σ H Q => ta σ H fun vs H1 => ∃ v, vs = [v] ∧ ∀ d, H1 d = none → Q (.ref C) (some d) (upd H1 d (.xd [(fl, v)]))
theorem pmk_bad {x par fl : Str} {a : Expr} {ta : TA} {p pos : Pos} {k : Nat} (T : PySem.BadX.Txt X.prog X.K X.mg par fl C fI) (pr : PySem.BadX.Par par) (hm : X.mg x = some (.ref C)) (hr : Room k X.A) (ha : PA X [a] ta) (hg : Gl X x)
    (hdb : (x == ("__debug__" : Str)) = false := by decide)
    (he : starEach (a :: []) X.env = (false, eval a X.env) :: starEach [] X.env := by rfl) (hpl : (backTo pos (starEach [] X.env)).any (·.1) = false := by rfl) :
    PMk X (.Call (.Name x p) [a] [] pos) (tMkB fl C ta) := by
  intro pins s σ H Q I h
  refine wpAny_Call_Name_kw (ld_glob I hg hm ?_ hdb)
  refine PySem.W.callWith_K (h₀ := X.base) I.ok.mod.kin T.kC (thn (ha.run pos pins s σ H _ I h) fun us s1 hh => ?_) he hpl
  obtain ⟨vs, H1, I1, r1, v, ev, q1⟩ := hh
  subst ev
  refine ⟨I1.kIn, ?_⟩
  cases r1 with
  | cons rv rn =>
    rename_i v' us'
    cases rn
    show wpAny _ _ (call (.ref C) [v']) _ _ _
    have hlim := I1.nolimit
    obtain ⟨mb, hb1, hb2⟩ := I1.mod.blt
    have Gn : s1.heap.Ns mainGlobals X.mg := I1.mod.glob.keeps I1.bk
    have Bn : s1.heap.Ns builtinsNs mb := hb1.keeps I1.bk
    have hbs : mb "super" = some (.type "super") := (hb2 _ (by decide +kernel)).trans (by first | boot_by_name | rfl | kernel_rfl)
    obtain ⟨hp, g, dr, tk, os⟩ := s1
    refine wpAny_call (PySem.BadX.made_ok T pr I1.kIn Gn Bn hbs hlim (by have := hr.dp; omega) fun h' tk' e d M => ?_)
    show MkP X pins σ Q (.ref e) ⟨h', g, dr, tk', os⟩
    obtain ⟨oe, fv, hoe, hc, hd, hdat, h1⟩ := M.obj
    have hns := M.ns
    obtain ⟨G', g1, g2⟩ := restrict h' fun b => decide (b ≠ e)
    have gk : ∀ b, b ≠ e → G'.get? b = h'.get? b := fun b hb => g1 b (decide_eq_true hb)
    have ge : G'.get? e = none := g2 e (by simp)
    have old : ∀ b o, hp.get? b = some o → G'.get? b = some o := fun b o q => (gk b (Nat.ne_of_lt (Nat.lt_of_lt_of_le (Heap.lt_size q) M.new))).trans (M.keep b o q)
    have ob : ObjOk X.prog X.w (upd H1 d (.xd [(fl, v)])) G' d (.xd [(fl, v)]) :=
      ⟨_, hns.at (fun o q => (gk d M.dne).trans q), fun f => relO_one rv fl f⟩
    have J : Inv X pins σ (upd H1 d (.xd [(fl, v)])) ⟨G', g, dr, tk', os⟩ := I1.laid (t' := tk') old M.dbig ob
    refine ⟨e, oe, fv, ⟨G', g, dr, tk', os⟩, _, .ref C, some d, rfl, J, fun b o q => ?_, ge, hoe, ⟨hc, hd⟩, hdat, h1, ?_, rfl, I1.bare, raises_own T.exC T.tyC, q1 d (I1.hok.fresh M.dbig)⟩
    · by_cases hb : b = e
      · have q' : G'.get? b = some o := q
        rw [hb, ge] at q'; cases q'
      · exact (gk b hb).symm.trans q
    · rw [upd_ne (Ne.symm M.dne)]
      exact I1.hok.fresh M.new
/-- raise Cls(e) -/
def tRaiseB (fl : Str) (C : Addr) (W : WX) (ta : TA) : TS := fun _ σ H => tMkB fl C ta σ H fun cls d H' => W cls d σ H'
theorem ps_raiseB {x par fl : Str} {a : Expr} {ta : TA} {W : WX} {p pos pos2 : Pos} {k : Nat} (hc : X.calm = true) (T : PySem.BadX.Txt X.prog X.K X.mg par fl C fI) (pr : PySem.BadX.Par par) (hm : X.mg x = some (.ref C)) (hr : Room k X.A) (tk : Takes X W) (ha : PA X [a] ta) (hg : Gl X x)
    (hdb : (x == ("__debug__" : Str)) = false := by decide)
    (he : starEach (a :: []) X.env = (false, eval a X.env) :: starEach [] X.env := by rfl) (hpl : (backTo pos (starEach [] X.env)).any (·.1) = false := by rfl) :
    PS X (.Raise (some (.Call (.Name x p) [a] [] pos)) none pos2) (tRaiseB fl C W ta) := ps_raise hc tk (pmk_bad T pr hm hr ha hg hdb he hpl)
end
end L2

set_option Elab.async false
set_option linter.all false
set_option maxRecDepth 100000
set_option maxHeartbeats 4000000
namespace Ash
open PySem PySem.Spec PyProof.Rows L2
abbrev topS (i : Nat) : Stmt := PySem.Challenge.pw_asofhall_k21_rings_judged.main.body.getD i (.Pass ⟨0, 0, 0, 0⟩)
/-- a def of the top by its name, with its promise -/
structure Cal (P : Program) (w : World) (K : PySem.W.Frag) (mg : Str → Option Value) (base : Heap) (CX : CXT) (x : Str) (k : Nat) (ps : List Str) (sp : Sp) : Prop where
  ex : ∃ f fd, mg x = some (.ref f) ∧ PySem.W.keepIn K (.ref f) = true ∧ Binds K fd ps [] ∧ FnOk P w K mg base CX k f fd ps sp
section
variable {X : Cx} {CX : CXT} {k j : Nat} {ps : List Str} {sp : Sp} {E : XK} {x : Str} {p pos : Pos} {e : Expr} {es : List Expr} {t : TA}
theorem pe_cal (G : Cal X.prog X.w X.K X.mg X.base CX x k ps sp) (hr : Room k X.A) (hx : Passes CX X E) (ha : PA X (e :: es) t) (hg : Gl X x := by rfl)
    (hdb : (x == ("__debug__" : Str)) = false := by decide) (he : starEach (e :: es) X.env = (false, eval e X.env) :: starEach es X.env := by rfl) (hpl : (backTo pos (starEach es X.env)).any (·.1) = false := by rfl) :
    PE X (.Call (.Name x p) (e :: es) [] pos) (tCall sp [] E t) := by
  obtain ⟨f, fd, hm, hk, hb, F⟩ := G.ex
  exact pe_call F hr hg hm hk hb .nil hx ha hdb he hpl
theorem pe_calS {E : L2.St → XK} (G : Cal X.prog X.w X.K X.mg X.base CX x k ps sp) (hr : Room k X.A) (hx : ∀ σ, PassesAt CX X σ (E σ)) (ha : PA X (e :: es) t) (hg : Gl X x := by rfl)
    (hdb : (x == ("__debug__" : Str)) = false := by decide) (he : starEach (e :: es) X.env = (false, eval e X.env) :: starEach es X.env := by rfl) (hpl : (backTo pos (starEach es X.env)).any (·.1) = false := by rfl) :
    PE X (.Call (.Name x p) (e :: es) [] pos) (tCallSD sp [] E t) := by
  obtain ⟨f, fd, hm, hk, hb, F⟩ := G.ex
  exact pe_callSD F hr hg hm hk hb .nil hx ha hdb he hpl
/-- a class by its name, with its __init__'s promise -/
structure Mak (P : Program) (w : World) (K : PySem.W.Frag) (mg : Str → Option Value) (base : Heap) (CX : CXT) (x : Str) (C : Addr) (k : Nat) (ps : List Str) (sp : Sp) : Prop where
  ex : ∃ f fd, Mk K C f ∧ mg x = some (.ref C) ∧ Binds K fd ps [] ∧ FnOk P w K mg base CX k f fd ps sp
theorem pe_mak {C : Addr} (G : Mak X.prog X.w X.K X.mg X.base CX x C k ps sp) (hr : Room (k + 1) X.A) (hx : Passes CX X E) (ha : PA X (e :: es) t) (hg : Gl X x := by rfl)
    (hdb : (x == ("__debug__" : Str)) = false := by decide) (he : starEach (e :: es) X.env = (false, eval e X.env) :: starEach es X.env := by rfl) (hpl : (backTo pos (starEach es X.env)).any (·.1) = false := by rfl) :
    PE X (.Call (.Name x p) (e :: es) [] pos) (tMake C sp [] E t) := by
  obtain ⟨f, fd, M, hm, hb, F⟩ := G.ex
  exact pe_make M F hr hg hm hb .nil hx ha hdb he hpl
/-- int(n) of an int -/
theorem call_intI : CallR X (.type "int") (fun xs H Q => ∃ i, xs = [.int i] ∧ Q (.int i) H) := by
  intro pins s σ H xs us Q I r h
  exact call_int1 pins s σ H xs us Q I r (.inl h)
end
/-- what is wanted of an exception at any slots of the def -/
def WEl (X : Cx) (W : WX) : XK := fun cls d H => ∀ σ : L2.St, σ.length = X.N.length → W cls d σ H
theorem passW {X : Cx} {W : WX} (tk : Takes X W) : Passes (L2.CX X.prog X.w) X (WEl X W) := fun _ σ _ _ e s' I c => tk e s' (XE.of_call I (fun cls d H' h => h σ I.len) c)
theorem passE {X : Cx} {E : XK} (tk : Takes X (fun cls d _ H => E cls d H)) : Passes (L2.CX X.prog X.w) X E := passes_call tk fun _ _ _ _ h => h
/-- a method of a class, with its promise -/
structure Met (P : Program) (w : World) (K : PySem.W.Frag) (mg : Str → Option Value) (base : Heap) (CX : CXT) (C : Addr) (m : Str) (k : Nat) (ps : List Str) (sp : Sp) : Prop where
  ex : ∃ f fd, Meth K C m f ∧ Binds K fd ps [] ∧ FnOk P w K mg base CX k f fd ps sp
/-- a dict comprehension over a walk: as lc_it -/
theorem dc_it {J : It} {n : Nat} {W0 : Hp → Prop} {Y : Nat → Hp → V → Hp → Prop} (wk : Walk J n W0 Y) {g : TG} {tt : TT} {tk tv : TE} {vs : List Nat} {σ : L2.St} {H1 : Hp} {D : Addr} {Qd : Hp → Prop} (Pv : Nat → Hp → Prop) (h0 : Pv 0 (upd H1 D (.dK []))) (hG : ∀ i H, i ≤ n → Pv i H → W0 H)
    (hs : ∀ i x H H', i < n → Pv i H → Y i H x H' → g x (wipe σ vs) H' fun σ2 H2 => wipe σ2 vs = wipe σ vs ∧ tt σ2 H2 fun b H3 =>
      if b = true then tk σ2 H3 fun y H4 => tv σ2 H4 fun z H5 => ∃ kvs k, y = kV k ∧ H5 D = some (.dK kvs) ∧ kvs.length < sizeLine ∧ Pv (i + 1) (upd H5 D (.dK (putK kvs k z))) else Pv (i + 1) H3) (hd : ∀ H, Pv n H → Qd H) :
    ∃ W : Nat → Nat → Hp → Prop, (∃ m, W 0 m (upd H1 D (.dK []))) ∧ ∀ i m H, W i m H →
      (J.stop i H ∧ Qd H) ∨ (J.go i H ∧ ∃ Nx : Hp → Prop, (∀ H', Nx H' → ∃ m', m' < m ∧ W (i + 1) m' H') ∧ ∀ x H', J.yld i H x H' → g x (wipe σ vs) H' fun σ2 H2 => wipe σ2 vs = wipe σ vs ∧ tt σ2 H2 fun b H3 =>
        if b = true then tk σ2 H3 fun y H4 => tv σ2 H4 fun z H5 => ∃ kvs k, y = kV k ∧ H5 D = some (.dK kvs) ∧ kvs.length < sizeLine ∧ Nx (upd H5 D (.dK (putK kvs k z))) else Nx H3) := by
  refine ⟨fun i m H => (m + i = n) ∧ Pv i H, ⟨n, rfl, h0⟩, ?_⟩
  rintro i m H ⟨hm, pv⟩
  by_cases c : i < n
  · refine .inr ⟨wk.goes i H c (hG i H (by omega) pv), Pv (i + 1), fun H' pv' => ⟨m - 1, by omega, by omega, pv'⟩, fun x H' y => ?_⟩
    exact hs i x H H' c pv (wk.yields i H x H' c (hG i H (by omega) pv) y)
  · have : i = n := by omega
    subst this
    exact .inl ⟨wk.stops H (hG _ H (Nat.le_refl _) pv), hd H pv⟩
/-- the built-in names that the top leaves alone -/
structure Blt (mg : Str → Option Value) : Prop where
  len : mg "len" = none
  int : mg "int" = none
  bool : mg "bool" = none
  str : mg "str" = none
  list : mg "list" = none
  tuple : mg "tuple" = none
  dict : mg "dict" = none
  isinstance : mg "isinstance" = none
  all : mg "all" = none
  range : mg "range" = none
  enumerate : mg "enumerate" = none
  sorted : mg "sorted" = none
  min : mg "min" = none
  max : mg "max" = none
/-- data without depth -/
def flatD : PyData → Bool
  | .none => true
  | .bool _ => true
  | .int _ => true
  | .str x => PyData.strOk x
  | _ => false
theorem flat_lay : ∀ {ds : List PyData}, ds.all flatD = true → PyData.canLayAll0 ds = true ∧ PyData.depthAll ds ≤ 1
  | [], _ => by simp [PyData.canLayAll0, PyData.depthAll]
  | d :: ds, h => by
    rw [List.all_cons, Bool.and_eq_true] at h
    obtain ⟨h1, h2⟩ := flat_lay h.2
    cases d with
    | none => simp [PyData.canLayAll0, PyData.depthAll, PyData.canLay0, PyData.depth, h1, h2]
    | bool b => simp [PyData.canLayAll0, PyData.depthAll, PyData.canLay0, PyData.depth, h1, h2]
    | int b => simp [PyData.canLayAll0, PyData.depthAll, PyData.canLay0, PyData.depth, h1, h2]
    | str b =>
      have hb : PyData.strOk b = true := h.1
      simp [PyData.canLayAll0, PyData.depthAll, PyData.canLay0, PyData.depth, h1, h2, hb]
    | _ => exact absurd h.1 (by simp [flatD])
theorem shaped_flat {ds : List PyData} (h : ds.all flatD = true) : SeqAt.shaped (.tuple ds) = true := by
  obtain ⟨h1, h2⟩ := flat_lay h
  unfold SeqAt.shaped
  simp [PyData.canLay0, PyData.depth, h1]
  omega
/-- all but p stands -/
def But (p : Addr) (H H' : Hp) : Prop := ∀ b o, H b = some o → b ≠ p → H' b = some o
theorem But.refl (p : Addr) (H : Hp) : But p H H := fun _ _ h _ => h
theorem But.trans {p : Addr} {H H1 H2 : Hp} (a : But p H H1) (b : But p H1 H2) : But p H H2 := fun c o h n => b c o (a c o h n) n
theorem But.upd {p : Addr} {H H' : Hp} {o : HO} (a : But p H H') : But p H (L2.upd H' p o) := fun c u h n => by rw [upd_ne n]; exact a c u h n
theorem But.new {p q : Addr} {H H' : Hp} {o : HO} (a : But p H H') (h : H' q = none) (hp : H q = none ∨ q ≠ p := by first | exact .inl ‹_› | exact .inr ‹_›) : But p H (L2.upd H' q o) := fun c u hc n => by
  rw [upd_ne]
  · exact a c u hc n
  · intro z
    subst z
    rw [a c u hc n] at h
    cases h
theorem But.at {p q : Addr} {H H' : Hp} {o : HO} (a : But p H H') (h : H q = none) : But p H (L2.upd H' q o) := fun c u hc n => by
  rw [upd_ne (ne_of_none hc h)]
  exact a c u hc n
theorem sameAt {q : Addr} {H H' : Hp} {o : HO} (a : Same H H') (h : H q = none) : Same H (L2.upd H' q o) := fun c u hc => by
  rw [upd_ne (ne_of_none hc h)]
  exact a c u hc
theorem But.same {p : Addr} {H H' : Hp} (a : Same H H') : But p H H' := fun c o h _ => a c o h
theorem Same.new {q : Addr} {H H' : Hp} {o : HO} (a : Same H H') (h : H' q = none) : Same H (upd H' q o) := fun c u hc => by
  rw [upd_ne (ne_of_none (a c u hc) h)]
  exact a c u hc
theorem But.seq {K : PySem.W.Frag} {p a : Addr} {H H' : Hp} {xs : List V} (e : But p H H') (hn : ∀ o, H p = some o → ∀ ys, o ≠ .lst ys → True) (h : H a = some (.lst xs)) (n : a ≠ p) : SqL K H' a xs := .of (e _ _ h n)
end Ash

set_option Elab.async false
set_option linter.all false
namespace Ash.BF
abbrev T3 := Int × Int × Int
/-- values, the facts because of which they were lowered, the one lowered last in this round -/
structure S where
  v : List Int
  p : List (Option Nat)
  l : Option Nat
def lo (t : T3) : Nat := t.1.toNat
def hi (t : T3) : Nat := t.2.1.toNat
def Good (n : Nat) (ts : List T3) : Prop := ∀ t ∈ ts, 0 ≤ t.1 ∧ t.1 < n ∧ 0 ≤ t.2.1 ∧ t.2.1 < n
def at_ (v : List Int) (i : Nat) : Int := v.getD i 0
def stp (s : S) (i : Nat) (t : T3) : S :=
  if at_ s.v (hi t) + t.2.2 < at_ s.v (lo t) then ⟨s.v.set (lo t) (at_ s.v (hi t) + t.2.2), s.p.set (lo t) (some i), some (lo t)⟩ else s
def run (ts : List T3) (s : S) : Nat → S
  | 0 => ⟨s.v, s.p, none⟩
  | k + 1 => match ts[k]? with
    | some t => stp (run ts s k) k t
    | none => run ts s k
def rds (ts : List T3) (n : Nat) : Nat → S
  | 0 => ⟨List.replicate n 0, List.replicate n none, none⟩
  | r + 1 => run ts (rds ts n r) ts.length
theorem run_some {ts : List T3} {s : S} {k : Nat} {t : T3} (h : ts[k]? = some t) : run ts s (k + 1) = stp (run ts s k) k t := by
  show (match ts[k]? with | some t => stp (run ts s k) k t | none => run ts s k) = _
  rw [h]
theorem run_none {ts : List T3} {s : S} {k : Nat} (h : ts[k]? = none) : run ts s (k + 1) = run ts s k := by
  show (match ts[k]? with | some t => stp (run ts s k) k t | none => run ts s k) = _
  rw [h]
theorem stp_len {s : S} {i : Nat} {t : T3} : (stp s i t).v.length = s.v.length ∧ (stp s i t).p.length = s.p.length := by
  unfold stp
  split
  · exact ⟨List.length_set, List.length_set⟩
  · exact ⟨rfl, rfl⟩
theorem run_len {ts : List T3} {s : S} : ∀ k, (run ts s k).v.length = s.v.length ∧ (run ts s k).p.length = s.p.length
  | 0 => ⟨rfl, rfl⟩
  | k + 1 => by
    cases h : ts[k]? with
    | none => rw [run_none h]; exact run_len k
    | some t =>
      rw [run_some h, stp_len.1, stp_len.2]
      exact run_len k
theorem rds_len {ts : List T3} {n : Nat} : ∀ r, (rds ts n r).v.length = n ∧ (rds ts n r).p.length = n
  | 0 => ⟨List.length_replicate, List.length_replicate⟩
  | r + 1 => by
    have h := rds_len (ts := ts) (n := n) r
    show (run ts (rds ts n r) ts.length).v.length = n ∧ (run ts (rds ts n r) ts.length).p.length = n
    rw [(run_len _).1, (run_len _).2]
    exact h
/-- a round in which nothing was lowered kept all facts -/
theorem kept {ts : List T3} {s : S} : ∀ k, (run ts s k).l = none → (run ts s k).v = s.v ∧ ∀ i t, i < k → ts[i]? = some t → at_ s.v (lo t) ≤ at_ s.v (hi t) + t.2.2
  | 0, _ => ⟨rfl, fun _ _ h => absurd h (by omega)⟩
  | k + 1, h => by
    cases e : ts[k]? with
    | none =>
      rw [run_none e] at h ⊢
      obtain ⟨a, b⟩ := kept k h
      refine ⟨a, fun i t hi ht => b i t ?_ ht⟩
      have : i ≠ k := fun z => by rw [z, e] at ht; cases ht
      omega
    | some t =>
      rw [run_some e] at h ⊢
      unfold stp at h ⊢
      by_cases c : at_ (run ts s k).v (hi t) + t.2.2 < at_ (run ts s k).v (lo t)
      · rw [if_pos c] at h
        cases h
      · rw [if_neg c] at h ⊢
        obtain ⟨a, b⟩ := kept k h
        refine ⟨a, fun i u hi hu => ?_⟩
        by_cases z : i = k
        · rw [z, e] at hu
          cases hu
          rw [a] at c
          omega
        · exact b i u (by omega) hu
theorem at_set {v : List Int} {i j : Nat} {x : Int} (h : i < v.length) : at_ (v.set i x) j = if j = i then x else at_ v j := by
  unfold at_
  rw [List.getD_eq_getElem?_getD, List.getD_eq_getElem?_getD, List.getElem?_set]
  by_cases e : i = j
  · subst e
    simp [h]
  · rw [if_neg e, if_neg (Ne.symm e)]
/-- levels: the last round in which a variable was lowered is at most one behind that of the fact's other end -/
structure G (ts : List T3) (n r k : Nat) (s : S) (L : Nat → Nat) : Prop where
  lv : s.v.length = n
  lp : s.p.length = n
  lam : ∀ u, L u ≤ r
  fac : ∀ i t, ts[i]? = some t → at_ s.v (lo t) ≤ at_ s.v (hi t) + t.2.2 ∨ (i < k → r ≤ L (hi t)) ∧ r ≤ L (hi t) + 1
  par : ∀ u, 1 ≤ L u → u < n ∧ ∃ i t, s.p[u]? = some (some i) ∧ ts[i]? = some t ∧ lo t = u ∧ L u ≤ L (hi t) + 1
  low : ∀ u, s.l = some u → u < n ∧ L u = r
theorem lo_lt {n : Nat} {ts : List T3} (g : Good n ts) {i : Nat} {t : T3} (h : ts[i]? = some t) : lo t < n ∧ hi t < n := by
  have := g t (List.mem_of_getElem? h)
  unfold lo hi
  omega
theorem G.step {ts : List T3} {n r k : Nat} {s : S} {L : Nat → Nat} {t : T3} (gd : Good n ts) (h : G ts n r k s L) (hr : 1 ≤ r) (e : ts[k]? = some t) : ∃ L', G ts n r (k + 1) (stp s k t) L' := by
  obtain ⟨hlo, hhi⟩ := lo_lt gd e
  unfold stp
  by_cases c : at_ s.v (hi t) + t.2.2 < at_ s.v (lo t)
  · rw [if_pos c]
    have hL : r ≤ L (hi t) + 1 := by
      rcases h.fac k t e with q | q
      · omega
      · exact q.2
    have hv : lo t < s.v.length := by rw [h.lv]; exact hlo
    refine ⟨fun u => if u = lo t then r else L u, ?_⟩
    have mono : ∀ u, L u ≤ (if u = lo t then r else L u) := fun u => by
      by_cases q : u = lo t
      · rw [if_pos q]; exact h.lam u
      · rw [if_neg q]; exact Nat.le_refl _
    refine ⟨by rw [List.length_set]; exact h.lv, by rw [List.length_set]; exact h.lp, fun u => ?_, fun i u hu => ?_, fun u hu => ?_, fun u hu => ?_⟩
    · show (if u = lo t then r else L u) ≤ r
      split
      · exact Nat.le_refl _
      · exact h.lam u
    · show at_ (s.v.set (lo t) _) (lo u) ≤ at_ (s.v.set (lo t) _) (hi u) + u.2.2 ∨ (i < k + 1 → r ≤ (if hi u = lo t then r else L (hi u))) ∧ r ≤ (if hi u = lo t then r else L (hi u)) + 1
      rw [at_set hv, at_set hv]
      by_cases q : hi u = lo t
      · right
        rw [if_pos q]
        exact ⟨fun _ => Nat.le_refl _, by omega⟩
      · rw [if_neg q, if_neg q]
        by_cases z : i = k
        · rw [z, e] at hu
          cases hu
          left
          rw [if_pos rfl]
          omega
        · rcases h.fac i u hu with a | a
          · left
            by_cases y : lo u = lo t
            · rw [if_pos y]
              rw [y] at a
              omega
            · rw [if_neg y]
              exact a
          · right
            exact ⟨fun y => a.1 (by omega), a.2⟩
    · show u < n ∧ ∃ i t', (s.p.set (lo t) (some k))[u]? = some (some i) ∧ ts[i]? = some t' ∧ lo t' = u ∧ (if u = lo t then r else L u) ≤ (if hi t' = lo t then r else L (hi t')) + 1
      have hu : 1 ≤ (if u = lo t then r else L u) := hu
      by_cases q : u = lo t
      · subst q
        refine ⟨hlo, k, t, by rw [List.getElem?_set, if_pos rfl, if_pos (by rw [h.lp]; exact hlo)], e, rfl, ?_⟩
        rw [if_pos rfl]
        have := mono (hi t)
        omega
      · rw [if_neg q] at hu ⊢
        obtain ⟨a, i, t', b1, b2, b3, b4⟩ := h.par u hu
        refine ⟨a, i, t', by rw [List.getElem?_set, if_neg (Ne.symm q)]; exact b1, b2, b3, ?_⟩
        have := mono (hi t')
        omega
    · have hu : some (lo t) = some u := hu
      cases hu
      exact ⟨hlo, if_pos rfl⟩
  · rw [if_neg c]
    refine ⟨L, h.lv, h.lp, h.lam, fun i u hu => ?_, h.par, h.low⟩
    by_cases z : i = k
    · rw [z, e] at hu
      cases hu
      left
      omega
    · rcases h.fac i u hu with a | a
      · exact .inl a
      · exact .inr ⟨fun y => a.1 (by omega), a.2⟩
theorem G.run {ts : List T3} {n r : Nat} {s : S} (gd : Good n ts) (hr : 1 ≤ r) (h : ∃ L, G ts n r 0 ⟨s.v, s.p, none⟩ L) : ∀ k, k ≤ ts.length → ∃ L, G ts n r k (BF.run ts s k) L
  | 0, _ => h
  | k + 1, hk => by
    obtain ⟨L, g⟩ := G.run gd hr h k (by omega)
    have e : ts[k]? = some ts[k] := List.getElem?_eq_getElem (by omega)
    rw [run_some e]
    exact g.step gd hr e
theorem G.rds {ts : List T3} {n : Nat} (gd : Good n ts) : ∀ r, ∃ L, G ts n r ts.length (BF.rds ts n r) L
  | 0 => ⟨fun _ => 0, List.length_replicate, List.length_replicate, fun _ => Nat.le_refl _, fun i t _ => .inr ⟨fun _ => Nat.zero_le _, Nat.zero_le _⟩, fun u h => absurd h (by decide), fun u h => by cases h⟩
  | r + 1 => by
    obtain ⟨L, g⟩ := G.rds gd r
    refine G.run gd (by omega) ⟨L, g.lv, g.lp, fun u => Nat.le_succ_of_le (g.lam u), fun i t ht => ?_, g.par, fun u h => by cases h⟩ _ (Nat.le_refl _)
    rcases g.fac i t ht with a | a
    · exact .inl a
    · have := a.1 (List.getElem?_eq_some_iff.mp ht).1
      exact .inr ⟨fun z => absurd z (by omega), by omega⟩
/-- from a variable to the other end of the fact because of which it was lowered -/
def nx (ts : List T3) (p : List (Option Nat)) (u : Nat) : Nat := match p[u]? with
  | some (some i) => match ts[i]? with
    | some t => hi t
    | none => 0
  | _ => 0
def orb (ts : List T3) (p : List (Option Nat)) (v : Nat) : Nat → Nat
  | 0 => v
  | k + 1 => nx ts p (orb ts p v k)
def Has (ts : List T3) (p : List (Option Nat)) (u : Nat) : Prop := ∃ i t, p[u]? = some (some i) ∧ ts[i]? = some t ∧ lo t = u
theorem nx_eq {ts : List T3} {p : List (Option Nat)} {u i : Nat} {t : T3} (h1 : p[u]? = some (some i)) (h2 : ts[i]? = some t) : nx ts p u = hi t := by
  unfold nx
  rw [h1]
  show (match ts[i]? with | some t => hi t | none => 0) = _
  rw [h2]
theorem sub_len : ∀ (n : Nat) (l : List Nat), l.Nodup → (∀ x ∈ l, x < n) → l.length ≤ n
  | 0, l, _, h => by
    cases l with
    | nil => exact Nat.le_refl _
    | cons x r => exact absurd (h x List.mem_cons_self) (by omega)
  | n + 1, l, nd, h => by
    have h1 := sub_len n (l.filter (· ≠ n)) (nd.filter _) (fun x hx => by
      have := List.mem_filter.mp hx
      have a := h x this.1
      have b : x ≠ n := of_decide_eq_true this.2
      omega)
    have h2 : l.length ≤ (l.filter (· ≠ n)).length + 1 := by
      clear h h1
      induction l with
      | nil => simp
      | cons x r ih =>
        rw [List.nodup_cons] at nd
        by_cases e : x = n
        · subst e
          have : r.filter (· ≠ x) = r := List.filter_eq_self.mpr fun a ha => decide_eq_true fun z => nd.1 (z ▸ ha)
          rw [List.filter_cons_of_neg (by simp), this]
          exact Nat.le_refl _
        · rw [List.filter_cons_of_pos (by simp [e])]
          have := ih nd.2
          simp only [List.length_cons]
          omega
    omega
theorem pigeonhole {n : Nat} {f : Nat → Nat} (h : ∀ k, k ≤ n → f k < n) : ∃ i j, i < j ∧ j ≤ n ∧ f i = f j := by
  refine Classical.byContradiction fun no => ?_
  have nd : ((List.range (n + 1)).map f).Nodup := by
    rw [List.nodup_iff_pairwise_ne, List.pairwise_map]
    refine (List.pairwise_lt_range).imp_of_mem fun {a b} ha hb hab e => no ⟨a, b, hab, ?_, e⟩
    have := List.mem_range.mp hb
    omega
  have := sub_len n _ nd fun x hx => by
    obtain ⟨k, hk, rfl⟩ := List.mem_map.mp hx
    have := List.mem_range.mp hk
    exact h k (by omega)
  rw [List.length_map, List.length_range] at this
  omega
theorem orb_add {ts : List T3} {p : List (Option Nat)} {v i j : Nat} (h : orb ts p v i = orb ts p v j) : ∀ m, orb ts p v (i + m) = orb ts p v (j + m)
  | 0 => h
  | m + 1 => by
    show nx ts p (orb ts p v (i + m)) = nx ts p (orb ts p v (j + m))
    rw [orb_add h m]
theorem around {ts : List T3} {n v k : Nat} {s : S} {L : Nat → Nat} (g : G ts n (n + 1) k s L) (h : s.l = some v) :
    (∀ k, Has ts s.p (orb ts s.p v k) ∧ orb ts s.p v k < n) ∧ ∃ p, 1 ≤ p ∧ p ≤ n ∧ orb ts s.p v (n + p) = orb ts s.p v n := by
  have lev : ∀ j, j ≤ n → n + 1 ≤ L (orb ts s.p v j) + j := by
    intro j
    induction j with
    | zero =>
      intro _
      have := (g.low v h).2
      show n + 1 ≤ L v + 0
      omega
    | succ j ih =>
      intro hj
      have a := ih (by omega)
      obtain ⟨_, i, t, b1, b2, b3, b4⟩ := g.par _ (show 1 ≤ L (orb ts s.p v j) by omega)
      show n + 1 ≤ L (nx ts s.p (orb ts s.p v j)) + (j + 1)
      rw [nx_eq b1 b2]
      omega
  have low : ∀ j, j ≤ n → Has ts s.p (orb ts s.p v j) ∧ orb ts s.p v j < n := fun j hj => by
    obtain ⟨a, i, t, b1, b2, b3, _⟩ := g.par _ (show 1 ≤ L (orb ts s.p v j) by have := lev j hj; omega)
    exact ⟨⟨i, t, b1, b2, b3⟩, a⟩
  obtain ⟨i, j, hij, hj, e⟩ := pigeonhole (f := orb ts s.p v) (fun k hk => (low k hk).2)
  have per : ∀ m, i ≤ m → orb ts s.p v (m + (j - i)) = orb ts s.p v m := fun m hm => by
    have := orb_add e (m - i)
    rw [show i + (m - i) = m by omega, show j + (m - i) = m + (j - i) by omega] at this
    exact this.symm
  refine ⟨fun k => ?_, j - i, by omega, by omega, per n (by omega)⟩
  induction k using Nat.strongRecOn with
  | ind k ih =>
    by_cases hk : k ≤ n
    · exact low k hk
    · have := ih (k - (j - i)) (by omega)
      rw [← per (k - (j - i)) (by omega), show k - (j - i) + (j - i) = k by omega] at this
      exact this
end Ash.BF

set_option Elab.async false
set_option linter.all false
namespace Ash.BF
/-! what a ring of facts is, for any thing: none for what is no tuple, else its items, none for what is no integer -/
def inR (N : Nat) : Option Int → Bool
  | some n => decide (0 ≤ n ∧ n < N)
  | none => false
def chn : Int → List T3 → Bool
  | _, [] => true
  | b, t :: r => decide (b = t.1) && chn t.2.1 r
def sum3 : List T3 → Int
  | [] => 0
  | t :: r => t.2.2 + sum3 r
/-- the variable that stands ahead of the i-th fact, around the end -/
def prv (l : List T3) : Nat → Int
  | 0 => (l.getLast?.getD (0, 0, 0)).2.1
  | i + 1 => (l[i]?.getD (0, 0, 0)).2.1
def due (ts : List T3) : Option (List (Option Int)) → Bool
  | none => false
  | some ds => !ds.isEmpty && (ds.all (inR ts.length) && (chn (prv (ds.map fun d => ts.getD (d.getD 0).toNat (0, 0, 0)) 0) (ds.map fun d => ts.getD (d.getD 0).toNat (0, 0, 0)) && decide (sum3 (ds.map fun d => ts.getD (d.getD 0).toNat (0, 0, 0)) < 0)))
theorem due_none {ts : List T3} : due ts none = false := rfl
theorem due_nil {ts : List T3} : due ts (some []) = false := rfl
theorem due_bad {ts : List T3} {ds : List (Option Int)} {i : Nat} {d : Option Int} (h : ds[i]? = some d) (e : inR ts.length d = false) : due ts (some ds) = false := by
  have : ds.all (inR ts.length) = false := List.all_eq_false.mpr ⟨d, List.mem_of_getElem? h, by rw [e]; exact Bool.false_ne_true⟩
  show (!ds.isEmpty && (ds.all (inR ts.length) && _)) = false
  rw [this, Bool.false_and, Bool.and_false]
theorem chn_step {b : Int} {l : List T3} {i : Nat} {t : T3} (h : l[i]? = some t) : chn b (l.drop i) = (decide (b = t.1) && chn t.2.1 (l.drop (i + 1))) := by
  obtain ⟨hi, e⟩ := List.getElem?_eq_some_iff.mp h
  rw [List.drop_eq_getElem_cons hi, e]
  rfl
theorem prv_step {l : List T3} {i : Nat} {t : T3} (h : l[i]? = some t) : prv l (i + 1) = t.2.1 := by
  show (l[i]?.getD (0, 0, 0)).2.1 = _
  rw [h]
  rfl
theorem sum3_append : ∀ (a b : List T3), sum3 (a ++ b) = sum3 a + sum3 b
  | [], b => by show sum3 b = 0 + sum3 b; omega
  | t :: r, b => by
    show t.2.2 + sum3 (r ++ b) = t.2.2 + sum3 r + sum3 b
    rw [sum3_append r b]
    omega
theorem sum3_step {l : List T3} {i : Nat} {t : T3} (h : l[i]? = some t) : sum3 (l.take (i + 1)) = sum3 (l.take i) + t.2.2 := by
  rw [List.take_add_one, h, sum3_append]
  show _ + (t.2.2 + 0) = _
  omega
/-- the facts of the indexes -/
def facts (ts : List T3) (ns : List Nat) : List T3 := ns.map fun n => ts.getD n (0, 0, 0)
theorem due_in {ts : List T3} {ns : List Nat} (h0 : ns ≠ []) (h : ∀ n ∈ ns, n < ts.length) : due ts (some (ns.map fun n : Nat => some (n : Int))) = (chn (prv (facts ts ns) 0) (facts ts ns) && decide (sum3 (facts ts ns) < 0)) := by
  have e1 : (ns.map fun n : Nat => some (n : Int)).isEmpty = false := by cases ns with | nil => exact absurd rfl h0 | cons a r => rfl
  have e2 : (ns.map fun n : Nat => some (n : Int)).all (inR ts.length) = true := by
    rw [List.all_map, List.all_eq_true]
    intro n hn
    have := h n hn
    exact decide_eq_true (by omega)
  have e3 : ((ns.map fun n : Nat => some (n : Int)).map fun d => ts.getD (d.getD 0).toNat (0, 0, 0)) = facts ts ns := by
    unfold facts
    rw [List.map_map]
    rfl
  show (!(ns.map fun n : Nat => some (n : Int)).isEmpty && ((ns.map fun n : Nat => some (n : Int)).all (inR ts.length) && (chn (prv ((ns.map fun n : Nat => some (n : Int)).map fun d => ts.getD (d.getD 0).toNat (0, 0, 0)) 0) ((ns.map fun n : Nat => some (n : Int)).map fun d => ts.getD (d.getD 0).toNat (0, 0, 0)) && decide (sum3 ((ns.map fun n : Nat => some (n : Int)).map fun d => ts.getD (d.getD 0).toNat (0, 0, 0)) < 0)))) = _
  rw [e1, e2, e3]
  rfl
/-- all in range: they are indexes -/
theorem all_in {N : Nat} : ∀ {ds : List (Option Int)}, (∀ (i : Nat) d, ds[i]? = some d → inR N d = true) → ∃ ns : List Nat, ds = ns.map (fun n : Nat => some (n : Int)) ∧ ∀ n ∈ ns, n < N
  | [], _ => ⟨[], rfl, fun _ h => nomatch h⟩
  | d :: r, h => by
    obtain ⟨ns, e, h2⟩ := all_in (ds := r) fun i d hd => h (i + 1) d hd
    have h0 := h 0 d rfl
    cases d with
    | none => cases h0
    | some n =>
      have h0 : 0 ≤ n ∧ n < N := of_decide_eq_true h0
      refine ⟨n.toNat :: ns, ?_, fun m hm => ?_⟩
      · rw [List.map_cons, ← e, show ((n.toNat : Nat) : Int) = n by omega]
      · rcases List.mem_cons.mp hm with rfl | hm
        · omega
        · exact h2 m hm
theorem facts_at {ts : List T3} {ns : List Nat} {i n : Nat} {t : T3} (h : ns[i]? = some n) (ht : ts[n]? = some t) : (facts ts ns)[i]? = some t := by
  unfold facts
  rw [List.getElem?_map, h]
  show some (ts.getD n (0, 0, 0)) = _
  rw [List.getD_eq_getElem?_getD, ht]
  rfl
/-! where all facts are kept there is no ring -/
theorem chn_sum {v : Nat → Int} : ∀ {l : List T3} {b : Int}, chn b l = true → (∀ t ∈ l, v t.1.toNat ≤ v t.2.1.toNat + t.2.2) → v b.toNat ≤ v ((l.getLast?.getD (0, b, 0)).2.1).toNat + sum3 l
  | [], b, _, _ => by show v b.toNat ≤ v b.toNat + 0; omega
  | t :: r, b, h, k => by
    have h : (decide (b = t.1) && chn t.2.1 r) = true := h
    rw [Bool.and_eq_true, decide_eq_true_eq] at h
    have a := chn_sum h.2 fun t' ht' => k t' (List.mem_cons_of_mem _ ht')
    have k0 := k t List.mem_cons_self
    rw [h.1]
    have e : ((t :: r).getLast?.getD (0, b, 0)).2.1 = (r.getLast?.getD (0, t.2.1, 0)).2.1 := by
      cases r with
      | nil => rfl
      | cons u r => rw [List.getLast?_cons_cons, List.getLast?_eq_some_getLast (List.cons_ne_nil u r)]; rfl
    rw [h.1] at e
    rw [e]
    show _ ≤ _ + (t.2.2 + sum3 r)
    omega
theorem not_due {ts : List T3} {v : List Int} (h : ∀ (i : Nat) t, ts[i]? = some t → at_ v (lo t) ≤ at_ v (hi t) + t.2.2) (o : Option (List (Option Int))) : due ts o = false := by
  refine Bool.eq_false_iff.mpr fun q => ?_
  cases o with
  | none => cases q
  | some ds =>
    by_cases hd : ds = []
    · subst hd
      cases q
    by_cases hb : ∃ (i : Nat) (d : Option Int), ds[i]? = some d ∧ inR ts.length d = false
    · obtain ⟨i, d, h1, h2⟩ := hb
      rw [due_bad h1 h2] at q
      cases q
    · obtain ⟨ns, rfl, hn⟩ := all_in (N := ts.length) (ds := ds) fun i d hd => by
        cases e : inR ts.length d with
        | true => rfl
        | false => exact absurd ⟨i, d, hd, e⟩ hb
      have h0 : ns ≠ [] := fun z => hd (by rw [z]; rfl)
      rw [due_in h0 hn, Bool.and_eq_true, decide_eq_true_eq] at q
      have := chn_sum (v := fun u => at_ v u) q.1 fun t ht => by
        unfold facts at ht
        obtain ⟨n, h1, rfl⟩ := List.mem_map.mp ht
        have hl := hn n h1
        have e : ts[n]? = some (ts.getD n (0, 0, 0)) := by rw [List.getD_eq_getElem?_getD, List.getElem?_eq_getElem hl]; rfl
        exact h n _ e
      have hf : facts ts ns ≠ [] := fun z => h0 (List.map_eq_nil_iff.mp z)
      have e : prv (facts ts ns) 0 = ((facts ts ns).getLast?.getD (0, prv (facts ts ns) 0, 0)).2.1 := by
        show ((facts ts ns).getLast?.getD (0, 0, 0)).2.1 = _
        rw [List.getLast?_eq_some_getLast hf]
        rfl
      rw [← e] at this
      have := q.2
      omega
end Ash.BF

set_option Elab.async false
set_option linter.all false
set_option maxRecDepth 100000
set_option maxHeartbeats 4000000
namespace Ash
open PySem PySem.Spec PyProof.Rows L2
open C8 (pss_cut)
/-! ### kinds of values -/
def NotInt (K : PySem.W.Frag) (H : Hp) (v : V) : Prop := ∃ t bi bb, TyX K H v t ∧ PySem.W.kitOne K t (.type "int") = some bi ∧ PySem.W.kitOne K t (.type "bool") = some bb ∧ (bi && !bb) = false
def NotStr (K : PySem.W.Frag) (H : Hp) (v : V) : Prop := ∃ t, TyX K H v t ∧ PySem.W.kitOne K t (.type "str") = some false
def NotTup (K : PySem.W.Frag) (H : Hp) (v : V) : Prop := ∃ t, TyX K H v t ∧ PySem.W.kitOne K t (.type "tuple") = some false
def spIsInt (K : PySem.W.Frag) : Sp := fun vs H Q _ => ∃ v, vs = [v] ∧ ((∃ n, v = .int n ∧ Q (.bl true) H) ∨ (NotInt K H v ∧ Q (.bl false) H))
def spAreInts (K : PySem.W.Frag) : Sp := fun vs H Q _ => ∃ (a : Addr) (ns : List Int), vs = [.ref a] ∧ SqT K H a (ns.map V.int) ∧ ns.length ≤ 100 ∧ ∀ H', Same H H' → Q (.bl true) H'
theorem list_take {α : Type} {l : List α} {i : Nat} {x : α} (h : l[i]? = some x) : l.take (i + 1) = l.take i ++ [x] := by
  rw [List.take_add_one, h]
  rfl
section
variable {P : Program} {w : World} {K : PySem.W.Frag} {mg : Str → Option Value} {base : Heap}
structure K1 (P : Program) (w : World) (K : PySem.W.Frag) (mg : Str → Option Value) (base : Heap) : Prop where
  is_integer : Cal P w K mg base CX0 "is_integer" 1 ["thing"] (spIsInt K)
abbrev s_is_integer : Stmt := topS 4
theorem sc_is_integer : FnScope ["thing"] ["thing"] (defScope s_is_integer) := ⟨rfl, rfl, rfl, by decide +kernel, rfl, by decide +kernel, by decide +kernel⟩
theorem ok_is_integer {f : Addr} {fd : FuncData} (F : Fun K "is_integer" "is_integer" s_is_integer f fd) (B : Blt mg) : FnOk P w K mg base CX0 1 f fd ["thing"] (spIsInt K) := by
  refine F.ok sc_is_integer (fun vs H Q E h => ?_) (fun cdv A outer s H vs Q E hr h => ?_)
  · obtain ⟨v, rfl, _⟩ := h
    rfl
  · obtain ⟨v, rfl, hv⟩ := h
    refine ⟨_, (pss_one (ps_ret (pe_and (pe_callB call_isi (by rfl) B.isinstance (by decide +kernel) (pa_cons (pv 0) (pa_cons (pe_bltn (v := .ty "int") (by rfl) B.int (by decide +kernel) rfl) pa_nil))) (pe_one (pe_not (pe_callB call_isi (by rfl) B.isinstance (by decide +kernel) (pa_cons (pv 0) (pa_cons (pe_bltn (v := .ty "bool") (by rfl) B.bool (by decide +kernel) rfl) pa_nil)))))))), ?_⟩
    rcases hv with ⟨n, rfl, q⟩ | ⟨⟨t, bi, bb, ty, e1, e2, e3⟩, q⟩
    · refine ⟨_, rfl, _, _, _, _, true, rfl, ClsV.ty _, .base (.int n), kit_ty (by decide +kernel), _, rfl, iteT ?_⟩
      refine ⟨_, rfl, _, _, _, _, false, rfl, ClsV.ty _, .base (.int n), kit_ty (by decide +kernel), _, rfl, q⟩
    · refine ⟨_, rfl, _, _, _, _, bi, rfl, ClsV.ty _, ty, e1, _, rfl, ?_⟩
      cases bi with
      | false => exact iteF q
      | true =>
        refine iteT ⟨_, rfl, _, _, _, _, bb, rfl, ClsV.ty _, ty, e2, _, rfl, ?_⟩
        have e3 : (!bb) = false := e3
        rw [e3]
        exact q
abbrev s_are_integers : Stmt := topS 5
theorem sc_are_integers : FnScope ["things", "thing"] ["things"] (defScope s_are_integers) := ⟨rfl, rfl, rfl, by decide +kernel, rfl, by decide +kernel, by decide +kernel⟩
theorem ok_are_integers {f : Addr} {fd : FuncData} (F : Fun K "are_integers" "are_integers" s_are_integers f fd) (B : Blt mg) (G : K1 P w K mg base) : FnOk P w K mg base CX0 2 f fd ["things"] (spAreInts K) := by
  refine F.ok sc_are_integers (fun vs H Q E h => ?_) (fun cdv A outer s H vs Q E hr h => ?_)
  · obtain ⟨a, ns, rfl, _⟩ := h
    rfl
  · obtain ⟨a, ns, rfl, hS, hn, q⟩ := h
    refine ⟨_, (pss_one (ps_ret (pe_callB (cr_all rfl) (by rfl) B.all (by decide +kernel) (pa_cons (pe_lc (own := [("thing", 1)]) (g := gName 1) (tt := tYes) (by rfl) sc_are_integers.nd (pi_tup (pv 0)) (blkOk_by (own := [("thing", 1)]) (N := ["things", "thing"]) (sc := defScope s_are_integers) (by decide +kernel)) (fun _ _ _ _ _ => (pg_name (i := 1) sc_are_integers.nd rfl (Or.inl rfl))) (fun _ _ _ _ _ => pts_nil) (fun _ _ _ _ _ => (pe_cal G.is_integer (hr.mono (by decide)) pass0 (pa_cons (pv 1) pa_nil)))) pa_nil)))), ?_⟩
    refine ⟨_, rfl, a, rfl, ⟨_, hS⟩, fun D hD => lc_it (walk_tup (xs := ns.map V.int)) (fun i H1 => H1 D = some (.lst ((List.replicate i true).map V.bl)) ∧ Same H H1) ⟨upd_same, sameAt (Same.refl H) hD⟩ (fun i H1 _ hv => ?_) ?_ ?_⟩
    · rcases hS with (h | ⟨o, h⟩) | h
      · exact .inl (.inl (hv.2 _ _ h))
      · exact .inl (.inr ⟨o, hv.2 _ _ h⟩)
      · exact .inr h
    · rintro i x H1 H2 hi ⟨hD1, hs⟩ ⟨rfl, hx⟩
      obtain ⟨z, rfl⟩ : ∃ z, x = V.int z := by
        rw [List.getElem?_map] at hx
        cases e : ns[i]? with
        | none => rw [e] at hx; cases hx
        | some z => rw [e] at hx; exact ⟨z, (Option.some.inj hx).symm⟩
      rw [List.length_map] at hi
      refine ⟨rfl, _, rfl, _, rfl, .inl ⟨z, rfl, _, hD1, (by rw [List.length_map, List.length_replicate]; exact small1000 (by omega)), ?_, sameAt hs hD⟩⟩
      rw [upd_same, List.replicate_succ', List.map_append]
      rfl
    · rintro H1 ⟨hD1, hs⟩
      refine ⟨D, _, rfl, SqL.of hD1, ?_⟩
      rw [List.length_map] at hD1 ⊢
      have e2 : ((List.replicate ns.length true).all id) = true := by simp
      rw [e2]
      exact q _ hs
end
end Ash

set_option Elab.async false
set_option linter.all false
set_option maxRecDepth 100000
set_option maxHeartbeats 4000000
namespace Ash
open PySem PySem.Spec PyProof.Rows L2
open C8 (pss_cut)
/-! ### frames -/
theorem none_of {H H' : Hp} {q : Addr} (s : Same H H') (h : H' q = none) : H q = none := by
  cases e : H q with
  | none => rfl
  | some o => rw [s _ _ e] at h; cases h
theorem seqS {K : PySem.W.Frag} {H H' : Hp} {a : Addr} {us : List V} (h : SqT K H a us) (s : Same H H') : SqT K H' a us := by
  rcases h with (h | ⟨o, h⟩) | h
  · exact .inl (.inl (s _ _ h))
  · exact .inl (.inr ⟨o, s _ _ h⟩)
  · exact .inr h
/-- all stands, but lists, which stay lists -/
def Ev (H H' : Hp) : Prop := ∀ b o, H b = some o → H' b = some o ∨ ∃ xs ys, o = .lst xs ∧ H' b = some (.lst ys)
theorem Ev.refl (H : Hp) : Ev H H := fun _ _ h => .inl h
theorem Ev.trans {H H1 H2 : Hp} (a : Ev H H1) (b : Ev H1 H2) : Ev H H2 := fun c o h => by
  rcases a c o h with h1 | ⟨xs, ys, e, h1⟩
  · exact b c o h1
  · rcases b c _ h1 with h2 | ⟨_, zs, _, h2⟩
    · exact .inr ⟨xs, ys, e, h2⟩
    · exact .inr ⟨xs, zs, e, h2⟩
theorem Ev.same {H H' : Hp} (s : Same H H') : Ev H H' := fun b o h => .inl (s b o h)
theorem Ev.updL {H H' : Hp} {a : Addr} {xs ys : List V} (e : Ev H H') (h : H' a = some (.lst xs)) : Ev H (upd H' a (.lst ys)) := e.trans fun b o hb => by
  by_cases q : b = a
  · rw [q, h] at hb
    exact .inr ⟨xs, ys, (Option.some.inj hb).symm, by rw [q, upd_same]⟩
  · exact .inl (by rw [upd_ne q]; exact hb)
theorem Ev.new {H H' : Hp} {a : Addr} {o : HO} (e : Ev H H') (h : H' a = none) : Ev H (upd H' a o) := e.trans (Ev.same fun b u hb => by rw [upd_ne (ne_of_none hb h)]; exact hb)
theorem Ev.ne {H H' : Hp} {a : Addr} (e : Ev H H') (h : H' a = none) : H a = none := by
  cases q : H a with
  | none => rfl
  | some o =>
    rcases e a o q with h1 | ⟨_, _, _, h1⟩ <;> rw [h1] at h <;> cases h
theorem Ev.tup {H H' : Hp} {a : Addr} {xs : List V} (e : Ev H H') (h : H a = some (.tup xs)) : H' a = some (.tup xs) := by
  rcases e a _ h with h1 | ⟨_, _, q, _⟩
  · exact h1
  · cases q
theorem tyx_ev {K : PySem.W.Frag} {H H' : Hp} {v : V} {t : Value} (h : TyX K H v t) (s : Ev H H') : TyX K H' v t := by
  have k : ∀ {b o}, H b = some o → (∀ xs, o ≠ .lst xs) → H' b = some o := fun {b o} hb n => by
    rcases s b o hb with h1 | ⟨xs, _, q, _⟩
    · exact h1
    · exact absurd q (n xs)
  cases h with
  | base b =>
    refine .base ?_
    cases b with
    | non => exact .non
    | bl x => exact .bl x
    | int x => exact .int x
    | str x => exact .str x
    | flt x => exact .flt x
    | lst e =>
      rcases s _ _ e with h1 | ⟨_, _, _, h1⟩
      · exact .lst h1
      · exact .lst h1
    | frz e => exact .frz (k e (fun _ z => by cases z))
    | tup e => exact .tup (k e (fun _ z => by cases z))
    | dK e => exact .dK (k e (fun _ z => by cases z))
    | dT e => exact .dT (k e (fun _ z => by cases z))
    | ins e c a b d f => exact .ins (k e (fun _ z => by cases z)) c a b d f
  | byt b => exact .byt b
  | set e => exact .set (k e (fun _ z => by cases z))
  | kList e c => exact .kList e c
  | kTuple e c => exact .kTuple e c
  | kDict e c => exact .kDict e c
  | fTuple e => exact .fTuple (k e (fun _ z => by cases z))
  | fDict e => exact .fDict (k e (fun _ z => by cases z))
theorem seq_ev {K : PySem.W.Frag} {H H' : Hp} {a : Addr} {us : List V} (h : SqT K H a us) (s : Ev H H') : SqT K H' a us := by
  rcases h with (h | ⟨o, h⟩) | h
  · exact .inl (.inl (s.tup h))
  · rcases s _ _ h with h1 | ⟨_, _, q, _⟩
    · exact .inl (.inr ⟨o, h1⟩)
    · cases q
  · exact .inr h
theorem NotInt.ev {K : PySem.W.Frag} {H H' : Hp} {v : V} (h : NotInt K H v) (s : Ev H H') : NotInt K H' v := by
  obtain ⟨t, bi, bb, ty, r⟩ := h
  exact ⟨t, bi, bb, tyx_ev ty s, r⟩
/-- a thing: none for what is no tuple, else its items, none for what is no integer -/
def ItAt (K : PySem.W.Frag) (H : Hp) (x : V) : Option Int → Prop
  | some n => x = .int n
  | none => NotInt K H x
def ThAt (K : PySem.W.Frag) (H : Hp) (v : V) : Option (List (Option Int)) → Prop
  | none => NotTup K H v
  | some ds => ∃ t xs, v = .ref t ∧ TyX K H v (.type "tuple") ∧ SqT K H t xs ∧ xs.length = ds.length ∧ xs.length ≤ 1000 ∧ ∀ (i : Nat) x d, xs[i]? = some x → ds[i]? = some d → ItAt K H x d
theorem ItAt.ev {K : PySem.W.Frag} {H H' : Hp} {x : V} {d : Option Int} (h : ItAt K H x d) (s : Ev H H') : ItAt K H' x d := by
  cases d with
  | some n => exact h
  | none => exact NotInt.ev h s
theorem ThAt.ev {K : PySem.W.Frag} {H H' : Hp} {v : V} {o : Option (List (Option Int))} (h : ThAt K H v o) (s : Ev H H') : ThAt K H' v o := by
  cases o with
  | none =>
    obtain ⟨t, ty, e⟩ := h
    exact ⟨t, tyx_ev ty s, e⟩
  | some ds =>
    obtain ⟨t, xs, e, ty, h1, h2, h4, h3⟩ := h
    exact ⟨t, xs, e, tyx_ev ty s, seq_ev h1 s, h2, h4, fun i x d a b => (h3 i x d a b).ev s⟩
/-! ### facts -/
abbrev T3 := BF.T3
def tv (t : T3) : List V := [.int t.1, .int t.2.1, .int t.2.2]
def TrAt (H : Hp) (us : List V) (ts : List T3) : Prop := us.length = ts.length ∧ ∀ (i : Nat) v t, us[i]? = some v → ts[i]? = some t → ∃ a, v = .ref a ∧ H a = some (.tup (tv t))
theorem TrAt.tk {H H' : Hp} {us : List V} {ts : List T3} (h : TrAt H us ts) (k : ∀ a xs, H a = some (.tup xs) → H' a = some (.tup xs)) : TrAt H' us ts :=
  ⟨h.1, fun i v t a b => let ⟨p, e, q⟩ := h.2 i v t a b; ⟨p, e, k _ _ q⟩⟩
theorem TrAt.at {H : Hp} {us : List V} {ts : List T3} (h : TrAt H us ts) {i : Nat} {t : T3} (ht : ts[i]? = some t) : ∃ a, us[i]? = some (.ref a) ∧ H a = some (.tup (tv t)) := by
  have hi : i < us.length := by rw [h.1]; exact (List.getElem?_eq_some_iff.mp ht).1
  obtain ⟨a, e, q⟩ := h.2 i _ t (List.getElem?_eq_getElem hi) ht
  exact ⟨a, by rw [List.getElem?_eq_getElem hi, e], q⟩
structure Fs (H : Hp) (f : Addr) (us : List V) (ts : List T3) : Prop where
  l : H f = some (.lst us)
  t : TrAt H us ts
  n : us.length ≤ 1000
theorem Fs.same {H H' : Hp} {f : Addr} {us : List V} {ts : List T3} (h : Fs H f us ts) (s : Same H H') : Fs H' f us ts := ⟨s _ _ h.l, h.t.tk fun _ _ e => s _ _ e, h.n⟩
def spIsFact : Sp := fun vs H Q _ => ∃ (a : Addr) (t : T3), vs = [.ref a] ∧ H a = some (.tup (tv t)) ∧ 0 ≤ t.1 ∧ 0 ≤ t.2.1 ∧ ∀ H', Same H H' → Q (.bl true) H'
def spCheck : Sp := fun vs H Q _ => ∃ (f : Addr) (c : V) (us : List V) (ts : List T3) (n : Nat), vs = [.ref f, c] ∧ (c = .non ∨ c = .int n) ∧ Fs H f us ts ∧ BF.Good n ts ∧ ∀ H', Same H H' → Q .non H'
def spGo (K : PySem.W.Frag) : Sp := fun vs H Q _ => ∃ (f : Addr) (us : List V) (ts : List T3) (v : V) (o : Option (List (Option Int))), vs = [.ref f, v] ∧ Fs H f us ts ∧ ThAt K H v o ∧ ∀ H', Same H H' → Q (.bl (BF.due ts o)) H'
def spIsRing (K : PySem.W.Frag) : Sp := fun vs H Q _ => ∃ (f : Addr) (us : List V) (ts : List T3) (n : Nat) (v : V) (o : Option (List (Option Int))), vs = [.ref f, v] ∧ Fs H f us ts ∧ BF.Good n ts ∧ ThAt K H v o ∧ ∀ H', Same H H' → Q (.bl (BF.due ts o)) H'
section
variable {P : Program} {w : World} {K : PySem.W.Frag} {mg : Str → Option Value} {base : Heap}
structure K2 (P : Program) (w : World) (K : PySem.W.Frag) (mg : Str → Option Value) (base : Heap) : Prop extends K1 P w K mg base where
  are_integers : Cal P w K mg base CX0 "are_integers" 2 ["things"] (spAreInts K)
abbrev s_is_fact : Stmt := topS 10
theorem sc_is_fact : FnScope ["thing"] ["thing"] (defScope s_is_fact) := ⟨rfl, rfl, rfl, by decide +kernel, rfl, by decide +kernel, by decide +kernel⟩
theorem ok_is_fact {f : Addr} {fd : FuncData} (F : Fun K "is_fact" "is_fact" s_is_fact f fd) (B : Blt mg) (G : K2 P w K mg base) : FnOk P w K mg base CX0 3 f fd ["thing"] spIsFact := by
  refine F.ok sc_is_fact (fun vs H Q E h => ?_) (fun cdv A outer s H vs Q E hr h => ?_)
  · obtain ⟨a, t, rfl, _⟩ := h
    rfl
  · obtain ⟨a, t, rfl, ha, h1, h2, q⟩ := h
    refine ⟨_, (pss_cons (ps_if (PW.pt (pw_or (pt_not (pt_val (pe_callB call_isi (by rfl) B.isinstance (by decide +kernel) (pa_cons (pv 0) (pa_cons (pe_bltn (v := .ty "tuple") (by rfl) B.tuple (by decide +kernel) rfl) pa_nil))))) (pw_or (pt_cmpR op_ne (pe_callB call_len_seq (by rfl) B.len (by decide +kernel) (pa_cons (pv 0) pa_nil)) pe_int (nomark _)) (pw_or1 (pt_not (pt_val (pe_cal G.are_integers (hr.mono (by decide)) pass0 (pa_cons (pv 0) pa_nil))))))))
      (pss_one (ps_ret pe_bl))
      pss_nil)
    (pss_one (ps_ret (pe_and (pe_cmpR op_ge (pe_ix ix_tup (pv 0) pe_int (fun _ _ => rfl)) pe_int (nomark _)) (pe_one (pe_cmpR op_ge (pe_ix ix_tup (pv 0) pe_int (fun _ _ => rfl)) pe_int (nomark _))))))), ?_⟩
    refine ⟨_, rfl, _, _, _, _, true, rfl, ClsV.ty _, .base (.tup ha), kit_ty (by decide +kernel), _, rfl, iteF ?_⟩
    refine ⟨_, rfl, a, _, rfl, .inr (SqT.of ha), rfl, _, rfl, iteF ?_⟩
    refine ⟨_, rfl, a, [t.1, t.2.1, t.2.2], rfl, SqT.of ha, (by show 3 ≤ 100; decide), fun H1 s1 => ⟨_, rfl, iteF ?_⟩⟩
    have ha1 := s1 _ _ ha
    refine ⟨_, rfl, _, _, _, _, rfl, rfl, SqT.of ha1, rfl, _, _, rfl, rfl, _, rfl, ?_⟩
    rw [decide_eq_true (show t.1 ≥ 0 from h1)]
    refine iteT ⟨_, rfl, _, _, _, _, rfl, rfl, SqT.of ha1, rfl, _, _, rfl, rfl, ?_⟩
    show Q (.bl (decide (0 ≤ t.2.1))) H1
    rw [decide_eq_true h2]
    exact q H1 s1
structure K3 (P : Program) (w : World) (K : PySem.W.Frag) (mg : Str → Option Value) (base : Heap) : Prop extends K2 P w K mg base where
  is_fact : Cal P w K mg base CX0 "is_fact" 3 ["thing"] spIsFact
abbrev s_check_facts : Stmt := topS 9
theorem sc_check_facts : FnScope ["facts", "count", "at", "fact"] ["facts", "count"] (defScope s_check_facts) := ⟨rfl, rfl, rfl, by decide +kernel, rfl, by decide +kernel, by decide +kernel⟩
theorem ok_check {f : Addr} {fd : FuncData} (F : Fun K "check_facts" "check_facts" s_check_facts f fd) (B : Blt mg) (G : K3 P w K mg base) : FnOk P w K mg base CX0 4 f fd ["facts", "count"] spCheck := by
  refine F.ok sc_check_facts (fun vs H Q E h => ?_) (fun cdv A outer s H vs Q E hr h => ?_)
  · obtain ⟨f, c, us, ts, n, rfl, _⟩ := h
    rfl
  · obtain ⟨f, c, us, ts, n, rfl, hc, hF, hG, q⟩ := h
    refine ⟨_, (pss_one (ps_for PassesOwn.never rfl (pi_enum (by rfl) B.enumerate (pa_cons (pv 0) pa_nil)) (pg_tup (by rfl) (pgs_cons (pg_name (i := 2) sc_check_facts.nd rfl (Or.inl rfl)) (pgs_cons (pg_name (i := 3) sc_check_facts.nd rfl (Or.inl rfl)) pgs_nil)))
      (pss_one (ps_if (PW.pt (pw_or (pt_not (pt_val (pe_cal G.is_fact (hr.mono (by decide)) pass0 (pa_cons (pv 3) pa_nil)))) (pw_or1 (PW.pt (pw_and (pt_cmpR op_notN (pv 1) pe_non (nomark _)) (pw_and1 (pt_cmpR op_ge (pe_callB (call_max2 rfl) (by rfl) B.max (by decide +kernel) (pa_cons (pe_ix ix_tup (pv 3) pe_int (fun _ _ => rfl)) (pa_cons (pe_ix ix_tup (pv 3) pe_int (fun _ _ => rfl)) pa_nil))) (pv 1) (nomark _))))))))
        (pss_one ps_never)
        pss_nil)))), ?_⟩
    refine ⟨_, rfl, f, us, rfl, SqL.of hF.l, for_it walk_enum (fun i σ H1 => (∃ a b, σ = [some (.ref f), some c, a, b]) ∧ Same H H1) ⟨⟨_, _, rfl⟩, Same.refl H⟩ (fun i σ H1 _ hv => SqL.of (hv.2 _ _ hF.l)) ?_ ?_⟩
    · rintro i x σ H1 H2 hi ⟨⟨a, b, rfl⟩, s1⟩ ⟨T, x1, x2, rfl, hT, rfl, e1, e2⟩
      cases e1
      have hit : i < ts.length := by rw [← hF.t.1]; exact hi
      obtain ⟨p, e3, e4⟩ := hF.t.at (List.getElem?_eq_getElem hit)
      have e2 : us[i]? = some x2 := e2
      rw [e3] at e2
      cases e2
      have g := hG _ (List.getElem_mem hit)
      have s2 : Same H (upd H1 T (.tup [.int (i : Nat), .ref p])) := s1.trans (sameAt (Same.refl _) hT)
      refine ⟨T, _, rfl, SqT.of upd_same, rfl, _, _, rfl, _, _, rfl, rfl, ?_⟩
      refine ⟨_, rfl, p, _, rfl, s2 _ _ e4, g.1, g.2.2.1, fun H3 s3 => ⟨_, rfl, iteF ?_⟩⟩
      have e5 := s3 _ _ (s2 _ _ e4)
      rcases hc with rfl | rfl
      · exact ⟨_, rfl, rfl, _, rfl, iteF (iteF ⟨⟨_, _, rfl⟩, s2.trans s3⟩)⟩
      · refine ⟨_, rfl, rfl, _, rfl, iteT ⟨_, rfl, _, _, _, _, rfl, rfl, SqT.of e5, rfl, _, rfl, _, _, _, _, rfl, rfl, SqT.of e5, rfl, _, _, rfl, _, rfl, _, _, rfl, rfl, _, rfl, ?_⟩⟩
        rw [decide_eq_false (show ¬ (if ts[i].2.1 > ts[i].1 then ts[i].2.1 else ts[i].1) ≥ (n : Int) by split <;> omega)]
        exact iteF ⟨⟨_, _, rfl⟩, s2.trans s3⟩
    · rintro σ H1 ⟨⟨a, b, rfl⟩, s1⟩
      exact q H1 s1
end
end Ash

set_option Elab.async false
set_option linter.all false
set_option maxRecDepth 100000
set_option maxHeartbeats 4000000
namespace Ash
open PySem PySem.Spec PyProof.Rows L2
open C8 (pss_cut)
theorem list_last {α : Type} {l : List α} (h : l ≠ []) : ∃ a x, l = a ++ [x] := ⟨l.dropLast, l.getLast h, (List.dropLast_concat_getLast h).symm⟩
section
variable {P : Program} {w : World} {K : PySem.W.Frag} {mg : Str → Option Value} {base : Heap}
structure K4 (P : Program) (w : World) (K : PySem.W.Frag) (mg : Str → Option Value) (base : Heap) : Prop extends K3 P w K mg base where
  check_facts : Cal P w K mg base CX0 "check_facts" 4 ["facts", "count"] spCheck
abbrev s_goes_round : Stmt := topS 13
theorem sc_goes_round : FnScope ["facts", "thing", "at", "behind", "total", "low", "high", "more"] ["facts", "thing"] (defScope s_goes_round) := ⟨rfl, rfl, rfl, by decide +kernel, rfl, by decide +kernel, by decide +kernel⟩
theorem ok_goes {f : Addr} {fd : FuncData} (F : Fun K "goes_round" "goes_round" s_goes_round f fd) (B : Blt mg) (G : K1 P w K mg base) : FnOk P w K mg base CX0 2 f fd ["facts", "thing"] (spGo K) := by
  refine F.ok sc_goes_round (fun vs H Q E h => ?_) (fun cdv A outer s H vs Q E hr h => ?_)
  · obtain ⟨f, us, ts, v, o, rfl, _⟩ := h
    rfl
  · obtain ⟨f, us, ts, v, o, rfl, hF, hT, q⟩ := h
    have q := q H (Same.refl H)
    refine ⟨_, (pss_cons (ps_if (PW.pt (pw_or (pt_not (pt_val (pe_callB call_isi (by rfl) B.isinstance (by decide +kernel) (pa_cons (pv 1) (pa_cons (pe_bltn (v := .ty "tuple") (by rfl) B.tuple (by decide +kernel) rfl) pa_nil))))) (pw_or1 (pt_cmpR op_eq (pe_callB call_len_seq (by rfl) B.len (by decide +kernel) (pa_cons (pv 1) pa_nil)) pe_int (nomark _)))))
      (pss_one (ps_ret pe_bl))
      pss_nil)
    (pss_cut (ps_for PassesOwn.never rfl (pi_tup (pv 1)) (pg_name (i := 2) sc_goes_round.nd rfl (Or.inl rfl))
      (pss_one (ps_if (PW.pt (pw_or (pt_not (pt_val (pe_cal G.is_integer (hr.mono (by decide)) pass0 (pa_cons (pv 2) pa_nil)))) (pw_or1 (pt_not (pt_chain op_le op_lt pe_int (pv 2) (pe_callB call_len_seq (by rfl) B.len (by decide +kernel) (pa_cons (pv 0) pa_nil)))))))
        (pss_one (ps_ret pe_bl))
        pss_nil)))
    (pss_cons (ps_set (i := 3) sc_goes_round.nd rfl (Or.inl rfl) (pe_ix ix_tup (pe_ix ix_list (pv 0) (pe_ix ix_tup (pv 1) (pe_un un_neg pe_int) (fun _ _ => rfl)) (fun _ _ => rfl)) pe_int (fun _ _ => rfl)))
    (pss_cons (ps_set (i := 4) sc_goes_round.nd rfl (Or.inl rfl) pe_int)
    (pss_cons (ps_for PassesOwn.never rfl (pi_tup (pv 1)) (pg_name (i := 2) sc_goes_round.nd rfl (Or.inl rfl))
      (pss_cons (ps_asg (pe_ix ix_list (pv 0) (pv 2) (fun _ _ => rfl)) (pg_tup (by rfl) (pgs_cons (pg_name (i := 5) sc_goes_round.nd rfl (Or.inl rfl)) (pgs_cons (pg_name (i := 6) sc_goes_round.nd rfl (Or.inl rfl)) (pgs_cons (pg_name (i := 7) sc_goes_round.nd rfl (Or.inl rfl)) pgs_nil)))))
      (pss_cons (ps_if (pt_cmpR op_ne (pv 5) (pv 3) (nomark _))
        (pss_one (ps_ret pe_bl))
        pss_nil)
      (pss_cons (ps_set (i := 3) sc_goes_round.nd rfl (Or.inl rfl) (pv 6))
      (pss_one (ps_aug (i := 4) sc_goes_round.nd rfl (.inl rfl) (pv 7) ip_add))))))
    (pss_one (ps_ret (pe_cmpR op_lt (pv 4) pe_int (nomark _))))))))), ?_⟩
    cases o with
    | none =>
      obtain ⟨t, ty, e⟩ := hT
      exact ⟨_, rfl, _, _, _, _, false, rfl, ClsV.ty _, ty, e, _, rfl, iteT (iteT q)⟩
    | some ds =>
      obtain ⟨t, xs, rfl, ty, hS, hl, h1000, hx⟩ := hT
      refine ⟨_, rfl, _, _, _, _, true, rfl, ClsV.ty _, ty, kit_ty (by decide +kernel), _, rfl, iteF ?_⟩
      refine ⟨_, rfl, t, _, rfl, .inr hS, rfl, _, rfl, ?_⟩
      refine ite2 (fun c0 => ?_) (fun c0 => ?_)
      · have c0 : V.int xs.length = .int 0 := of_decide_eq_true c0
        have : ds = [] := by
          refine List.eq_nil_of_length_eq_zero ?_
          rw [← hl]
          injection c0 with c0
          omega
        subst this
        exact q
      · have c0 : ds ≠ [] := fun z => c0 (decide_eq_true (by rw [hl, z]; rfl))
        have ful : us.length = ts.length := hF.t.1
        -- all are in range
        refine ⟨fun σ H1 => (∃ a b c d e g, σ = [some (.ref f), some (.ref t), a, b, c, d, e, g]) ∧ H1 = H ∧ ∀ (j : Nat) d, ds[j]? = some d → BF.inR ts.length d = true, ?_, ?_⟩
        · refine ⟨_, rfl, t, rfl, ⟨_, hS⟩, for_tup (xs := xs) (fun i σ H1 => (∃ a b c d e g, σ = [some (.ref f), some (.ref t), a, b, c, d, e, g]) ∧ H1 = H ∧ ∀ (j : Nat) d, j < i → ds[j]? = some d → BF.inR ts.length d = true) ⟨⟨_, _, _, _, _, _, rfl⟩, rfl, fun _ _ h => absurd h (by omega)⟩ (fun i σ H1 _ hv => by rw [hv.2.1]; exact hS) ?_ ?_⟩
          · rintro i x σ H1 hi ⟨⟨a, b, c, d, e, g, rfl⟩, rfl, ha⟩
            have hil : i < ds.length := by rw [← hl]; exact (List.getElem?_eq_some_iff.mp hi).1
            obtain ⟨dd, hd⟩ : ∃ dd, ds[i]? = some dd := ⟨_, List.getElem?_eq_getElem hil⟩
            have hxi := hx i x dd hi hd
            have bad : BF.inR ts.length dd = false → Q (.bl false) H1 := fun z => by
              have := q
              rw [BF.due_bad hd z] at this
              exact this
            refine ⟨_, rfl, _, rfl, ?_⟩
            cases dd with
            | none => exact .inr ⟨hxi, _, rfl, iteT (iteT (bad rfl))⟩
            | some m =>
              obtain rfl : x = .int m := hxi
              refine .inl ⟨m, rfl, _, rfl, iteF ⟨_, rfl, _, _, rfl, rfl, _, rfl, ?_⟩⟩
              refine ite2 (fun c1 => ?_) (fun c1 => ?_)
              · have c1 : 0 ≤ m := of_decide_eq_true c1
                refine ⟨_, rfl, f, _, rfl, .inl (SqL.of hF.l), _, _, rfl, rfl, _, rfl, ?_⟩
                rw [ful]
                by_cases c2 : m < ts.length
                · rw [decide_eq_true c2]
                  refine iteF ⟨⟨_, _, _, _, _, _, rfl⟩, rfl, fun j d' hj hd' => ?_⟩
                  by_cases e : j = i
                  · rw [e, hd] at hd'
                    cases hd'
                    exact decide_eq_true ⟨c1, c2⟩
                  · exact ha j d' (by omega) hd'
                · rw [decide_eq_false c2]
                  exact iteT (bad (decide_eq_false fun z => c2 z.2))
              · have c1 : ¬ 0 ≤ m := by simpa using c1
                exact ⟨_, rfl, iteT (bad (decide_eq_false fun z => c1 z.1))⟩
          · rintro σ H1 ⟨hs, rfl, ha⟩
            exact ⟨hs, rfl, fun j d hd => ha j d (by rw [hl]; exact (List.getElem?_eq_some_iff.mp hd).1) hd⟩
        · rintro σ H1 ⟨⟨a, b, c, d, e, g, rfl⟩, rfl, ha⟩
          obtain ⟨ns, rfl, hn⟩ := BF.all_in ha
          have n0 : ns ≠ [] := fun z => c0 (by rw [z]; rfl)
          rw [BF.due_in n0 hn] at q
          have hxs : ∀ (i : Nat) n, ns[i]? = some n → xs[i]? = some (.int (n : Int)) := fun i n hni => by
            have hi : i < xs.length := by rw [hl, List.length_map]; exact (List.getElem?_eq_some_iff.mp hni).1
            have := hx i xs[i] (some (n : Int)) (List.getElem?_eq_getElem hi) (by rw [List.getElem?_map, hni]; rfl)
            rw [List.getElem?_eq_getElem hi]
            exact congrArg some this
          have hlen : xs.length = ns.length := by rw [hl, List.length_map]
          have hat : ∀ n ∈ ns, ∃ p, us[n]? = some (.ref p) ∧ H1 p = some (.tup (tv (ts.getD n (0, 0, 0)))) := fun n hm => by
            have := hn n hm
            have e : ts[n]? = some (ts.getD n (0, 0, 0)) := by rw [List.getD_eq_getElem?_getD, List.getElem?_eq_getElem this]; rfl
            exact hF.t.at e
          -- behind
          obtain ⟨ns', z, rfl⟩ := list_last n0
          obtain ⟨p, e1, e2⟩ := hat z (List.mem_append.mpr (.inr List.mem_cons_self))
          have hlast : ∃ xs', xs = xs' ++ [.int (z : Int)] := by
            have : xs ≠ [] := fun q => by rw [q] at hlen; simp at hlen
            obtain ⟨xs', y, hy⟩ := list_last this
            refine ⟨xs', ?_⟩
            have h1 := hxs ns'.length z (by rw [List.getElem?_append_right (Nat.le_refl _), Nat.sub_self]; rfl)
            have h2 : xs'.length = ns'.length := by
              have := hlen
              rw [hy, List.length_append, List.length_append] at this
              simpa using this
            rw [hy, ← h2, List.getElem?_append_right (Nat.le_refl _), Nat.sub_self] at h1
            rw [hy]
            cases h1
            rfl
          obtain ⟨xs', hxe⟩ := hlast
          refine ⟨_, rfl, _, rfl, _, rfl, t, _, _, V.int z, rfl, rfl, hS, (by rw [hxe]; exact atI_last _ _), f, _, _, _, rfl, rfl, SqL.of hF.l, atI_nat e1, p, _, _, _, rfl, rfl, SqT.of e2, rfl, ?_⟩
          have hprv : (ts.getD z (0, 0, 0)).2.1 = BF.prv (BF.facts ts (ns' ++ [z])) 0 := by
            show _ = ((BF.facts ts (ns' ++ [z])).getLast?.getD (0, 0, 0)).2.1
            unfold BF.facts
            rw [List.map_append, List.map_cons, List.map_nil, List.getLast?_append]
            rfl
          generalize hns : ns' ++ [z] = ns at *
          have chk : BF.chn (BF.prv (BF.facts ts ns) 0) (BF.facts ts ns) = BF.chn (BF.prv (BF.facts ts ns) 0) ((BF.facts ts ns).drop 0) := rfl
          refine ⟨_, rfl, t, rfl, ⟨_, hS⟩, for_tup (xs := xs) (fun i σ H2 => (∃ a c d e, σ = [some (.ref f), some (.ref t), a, some (.int (BF.prv (BF.facts ts ns) i)), some (.int (BF.sum3 ((BF.facts ts ns).take i))), c, d, e]) ∧ H2 = H1 ∧ BF.chn (BF.prv (BF.facts ts ns) 0) (BF.facts ts ns) = BF.chn (BF.prv (BF.facts ts ns) i) ((BF.facts ts ns).drop i)) ?_ (fun i σ H2 _ hv => by rw [hv.2.1]; exact hS) ?_ ?_⟩
          · rw [hprv]
            exact ⟨⟨_, _, _, _, rfl⟩, rfl, rfl⟩
          · rintro i x σ H2 hi ⟨⟨a, c, d, e, rfl⟩, rfl, hch⟩
            have hil : i < ns.length := by rw [← hlen]; exact (List.getElem?_eq_some_iff.mp hi).1
            obtain ⟨m, hm⟩ : ∃ m, ns[i]? = some m := ⟨_, List.getElem?_eq_getElem hil⟩
            have hmm := List.mem_of_getElem? hm
            have := hxs i m hm
            rw [hi] at this
            cases this
            obtain ⟨p', e3, e4⟩ := hat m hmm
            have hft : (BF.facts ts ns)[i]? = some (ts.getD m (0, 0, 0)) := BF.facts_at hm (by rw [List.getD_eq_getElem?_getD, List.getElem?_eq_getElem (hn m hmm)]; rfl)
            generalize ts.getD m (0, 0, 0) = ti at e4 hft
            rw [BF.chn_step hft] at hch
            refine ⟨_, rfl, _, rfl, _, _, _, _, rfl, rfl, SqL.of hF.l, atI_nat e3, p', _, rfl, SqT.of e4, rfl, _, _, rfl, _, _, rfl, _, _, rfl, rfl, ?_⟩
            refine ⟨_, rfl, _, rfl, rfl, _, rfl, ?_⟩
            by_cases c1 : BF.prv (BF.facts ts ns) i = ti.1
            · rw [c1] at hch ⊢
              rw [decide_eq_true (rfl : ti.1 = ti.1), Bool.true_and] at hch
              rw [decide_eq_true (rfl : V.int ti.1 = V.int ti.1)]
              refine iteF ⟨_, rfl, _, rfl, _, rfl, _, _, rfl, rfl, ⟨some (.int (m : Nat)), some (.int ti.1), some (.int ti.2.1), some (.int ti.2.2), ?_⟩, rfl, ?_⟩
              · rw [BF.prv_step hft, BF.sum3_step hft]
                rfl
              · rw [hch, BF.prv_step hft]
            · rw [decide_eq_false (fun z : V.int ti.1 = V.int (BF.prv (BF.facts ts ns) i) => c1 (by injection z with z; exact z.symm))]
              refine iteT ?_
              have := q
              rw [hch, decide_eq_false c1, Bool.false_and, Bool.false_and] at this
              exact this
          · rintro σ H2 ⟨⟨a, c, d, e, rfl⟩, rfl, hch⟩
            have hfl : (BF.facts ts ns).length = xs.length := by unfold BF.facts; rw [List.length_map, hlen]
            rw [← hfl, List.drop_length] at hch
            rw [← hfl, List.take_length]
            refine ⟨_, rfl, _, _, rfl, rfl, ?_⟩
            have := q
            rw [hch] at this
            exact this
structure K5 (P : Program) (w : World) (K : PySem.W.Frag) (mg : Str → Option Value) (base : Heap) : Prop extends K4 P w K mg base where
  goes_round : Cal P w K mg base CX0 "goes_round" 2 ["facts", "thing"] (spGo K)
abbrev s_is_ring : Stmt := topS 8
theorem sc_is_ring : FnScope ["facts", "thing"] ["facts", "thing"] (defScope s_is_ring) := ⟨rfl, rfl, rfl, by decide +kernel, rfl, by decide +kernel, by decide +kernel⟩
theorem ok_is_ring {f : Addr} {fd : FuncData} (F : Fun K "is_ring" "is_ring" s_is_ring f fd) (B : Blt mg) (G : K5 P w K mg base) : FnOk P w K mg base CX0 5 f fd ["facts", "thing"] (spIsRing K) := by
  refine F.ok sc_is_ring (fun vs H Q E h => ?_) (fun cdv A outer s H vs Q E hr h => ?_)
  · obtain ⟨f, us, ts, n, v, o, rfl, _⟩ := h
    rfl
  · obtain ⟨f, us, ts, n, v, o, rfl, hF, hG, hT, q⟩ := h
    refine ⟨_, (pss_cons (ps_expr (pe_cal G.check_facts (hr.mono (by decide)) pass0 (pa_cons (pv 0) (pa_cons pe_non pa_nil))))
    (pss_one (ps_ret (pe_cal G.goes_round (hr.mono (by decide)) pass0 (pa_cons (pv 0) (pa_cons (pv 1) pa_nil)))))), ?_⟩
    exact ⟨_, rfl, f, _, us, ts, n, rfl, .inl rfl, hF, hG, fun H1 s1 => ⟨_, rfl, _, rfl, f, us, ts, v, o, rfl, hF.same s1, hT.ev (Ev.same s1), fun H2 s2 => q H2 (s1.trans s2)⟩⟩
end
end Ash

set_option Elab.async false
set_option linter.all false
set_option maxRecDepth 100000
set_option maxHeartbeats 4000000
namespace Ash
open PySem PySem.Spec PyProof.Rows L2
open C8 (pss_cut)
def pV : Option Nat → V
  | none => .non
  | some i => .int (i : Nat)
def idxV (p : List (Option Nat)) (u : Nat) : V := pV (p.getD u none)
/-- the ring from the n-th variable of the way on -/
structure Rng (ts : List T3) (p : List (Option Nat)) (n v0 m : Nat) : Prop where
  pos : 1 ≤ m
  back : BF.orb ts p v0 (n + m) = BF.orb ts p v0 n
  first : ∀ j, 1 ≤ j → j < m → BF.orb ts p v0 (n + j) ≠ BF.orb ts p v0 n
def rngV (ts : List T3) (p : List (Option Nat)) (n v0 m : Nat) : List V := (List.range m).map fun j => idxV p (BF.orb ts p v0 (n + j))
def spBehind : Sp := fun vs H Q _ => ∃ (f bc : Addr) (us : List V) (ts : List T3) (p : List (Option Nat)) (n v0 : Nat), vs = [.ref f, .ref bc, .int v0] ∧ Fs H f us ts ∧ BF.Good n ts ∧ H bc = some (.lst (p.map pV)) ∧ p.length = n ∧ n ≤ 1000 ∧
  (∀ k, BF.Has ts p (BF.orb ts p v0 k)) ∧ (∃ m, 1 ≤ m ∧ m ≤ n ∧ BF.orb ts p v0 (n + m) = BF.orb ts p v0 n) ∧
  ∀ m t H', Rng ts p n v0 m → Same H H' → H' t = some (.tup (rngV ts p n v0 m)) → Q (.ref t) H'
theorem has_at {H : Hp} {f : Addr} {us : List V} {ts : List T3} {p : List (Option Nat)} {n u : Nat} (F : Fs H f us ts) (g : BF.Good n ts) (h : BF.Has ts p u) :
    ∃ (i : Nat) (a : Addr) (t : T3), (p.map pV)[u]? = some (.int (i : Nat)) ∧ us[i]? = some (.ref a) ∧ H a = some (.tup (tv t)) ∧ t.2.1 = (BF.nx ts p u : Nat) ∧ idxV p u = .int (i : Nat) := by
  obtain ⟨i, t, h1, h2, h3⟩ := h
  obtain ⟨a, e1, e2⟩ := F.t.at h2
  have := g t (List.mem_of_getElem? h2)
  refine ⟨i, a, t, by rw [List.getElem?_map, h1]; rfl, e1, e2, ?_, ?_⟩
  · rw [BF.nx_eq h1 h2]
    unfold BF.hi
    omega
  · unfold idxV
    rw [List.getD_eq_getElem?_getD, h1]
    rfl
section
variable {P : Program} {w : World} {K : PySem.W.Frag} {mg : Str → Option Value} {base : Heap}
abbrev s_ring_behind : Stmt := topS 12
theorem sc_ring_behind : FnScope ["facts", "because", "lowered", "variable", "_", "around", "first"] ["facts", "because", "lowered"] (defScope s_ring_behind) := ⟨rfl, rfl, rfl, by decide +kernel, rfl, by decide +kernel, by decide +kernel⟩
theorem ok_behind {f : Addr} {fd : FuncData} (F : Fun K "ring_behind" "ring_behind" s_ring_behind f fd) (B : Blt mg) : FnOk P w K mg base CX0 1 f fd ["facts", "because", "lowered"] spBehind := by
  refine F.ok sc_ring_behind (fun vs H Q E h => ?_) (fun cdv A outer s H vs Q E hr h => ?_)
  · obtain ⟨f, bc, us, ts, p, n, v0, rfl, _⟩ := h
    rfl
  · obtain ⟨f, bc, us, ts, p, n, v0, rfl, hF, hG, hb, hn, h1000, hall, ⟨m0, m1, mn, mb⟩, q⟩ := h
    refine ⟨_, (pss_cons (ps_set (i := 3) sc_ring_behind.nd rfl (Or.inl rfl) (pv 2))
    (pss_cons (ps_for PassesOwn.never rfl (pi_list (pv 1)) (pg_name (i := 4) sc_ring_behind.nd rfl (Or.inl rfl))
      (pss_one (ps_set (i := 3) sc_ring_behind.nd rfl (Or.inl rfl) (pe_ix ix_tup (pe_ix ix_list (pv 0) (pe_ix ix_list (pv 1) (pv 3) (fun _ _ => rfl)) (fun _ _ => rfl)) pe_int (fun _ _ => rfl)))))
    (pss_cons (ps_set (i := 5) sc_ring_behind.nd rfl (Or.inl rfl) (pe_lst pa_nil))
    (pss_cons (ps_set (i := 6) sc_ring_behind.nd rfl (Or.inl rfl) (pv 3))
    (pss_cons (ps_while PassesOwn.never (PW.pt (pw_or (pt_cmpR op_eq (pe_callB call_len_seq (by rfl) B.len (by decide +kernel) (pa_cons (pv 5) pa_nil)) pe_int (nomark _)) (pw_or1 (pt_cmpR op_ne (pv 3) (pv 6) (nomark _)))))
      (pss_cons (ps_expr (pe_bm PySem.F.plainAttrs_list PySem.F.slot_list_append PySem.F.type_list_append mt_append (pv 5) (pa_cons (pe_ix ix_list (pv 1) (pv 3) (fun _ _ => rfl)) pa_nil)))
      (pss_one (ps_set (i := 3) sc_ring_behind.nd rfl (Or.inl rfl) (pe_ix ix_tup (pe_ix ix_list (pv 0) (pe_ix ix_list (pv 1) (pv 3) (fun _ _ => rfl)) (fun _ _ => rfl)) pe_int (fun _ _ => rfl))))))
    (pss_one (ps_ret (pe_callTy call_tuple_of (by rfl) B.tuple (by decide +kernel) (pa_cons (pv 5) pa_nil))))))))), ?_⟩
    refine ⟨_, rfl, _, rfl, bc, rfl, ⟨_, SqL.of hb⟩, for_list (a := bc) (xs := p.map pV) (fun i σ H1 => (∃ a b c, σ = [some (.ref f), some (.ref bc), some (.int v0), some (.int (BF.orb ts p v0 i : Nat)), a, b, c]) ∧ H1 = H) ⟨⟨_, _, _, rfl⟩, rfl⟩ (fun i σ H1 _ hv => by rw [hv.2]; exact SqL.of hb) ?_ ?_⟩
    · rintro i x σ H1 hi ⟨⟨a, b, c, rfl⟩, rfl⟩
      obtain ⟨k, e, t, h1, h2, h3, h4, h5⟩ := has_at hF hG (hall i)
      refine ⟨_, rfl, _, rfl, _, rfl, _, _, _, _, rfl, rfl, SqL.of hb, atI_nat h1, _, _, _, _, rfl, rfl, SqL.of hF.l, atI_nat h2, _, _, _, _, rfl, rfl, SqT.of h3, rfl, ⟨some x, b, c, ?_⟩, rfl⟩
      rw [h4]
      rfl
    · rintro σ H1 ⟨⟨a, b, c, rfl⟩, rfl⟩
      rw [List.length_map, hn]
      refine ⟨(by show 0 ≤ sizeLine; decide), fun ar har => ?_⟩
      have s0 : Same H1 (upd H1 ar (.lst [])) := sameAt (Same.refl _) har
      refine ⟨_, rfl, ?_⟩
      refine ⟨fun mm σ H2 => ∃ k, mm = n + m0 - k ∧ k ≤ m0 ∧ σ = [some (.ref f), some (.ref bc), some (.int v0), some (.int (BF.orb ts p v0 (n + k) : Nat)), a, some (.ref ar), some (.int (BF.orb ts p v0 n : Nat))] ∧ H2 ar = some (.lst (rngV ts p n v0 k)) ∧ Same H1 H2 ∧ ∀ j, 1 ≤ j → j < k → BF.orb ts p v0 (n + j) ≠ BF.orb ts p v0 n, ⟨_, 0, rfl, Nat.zero_le _, rfl, upd_same, s0, fun j h h' => absurd h' (by omega)⟩, ?_⟩
      rintro mm σ H2 ⟨k, rfl, hk, rfl, h2, s2, hfi⟩
      have hlen : (rngV ts p n v0 k).length = k := by unfold rngV; rw [List.length_map, List.length_range]
      refine ⟨_, rfl, ar, _, rfl, .inl (SqL.of h2), rfl, _, rfl, ?_⟩
      rw [hlen]
      refine ite2 (fun c1 => ?_) (fun c1 => ?_)
      · have k0 : k = 0 := by
          have := of_decide_eq_true c1
          injection this with this
          omega
        have hk' : k + 1 ≤ m0 := by omega
        have hfi' : ∀ j, 1 ≤ j → j < k + 1 → BF.orb ts p v0 (n + j) ≠ BF.orb ts p v0 n := fun j h h' => absurd h' (by omega)
        refine iteT ?_
        obtain ⟨i, e, t, g1, g2, g3, g4, g5⟩ := has_at hF hG (hall (n + k))
        refine ⟨fun σ' H' => σ' = [some (.ref f), some (.ref bc), some (.int v0), some (.int (BF.orb ts p v0 (n + (k + 1)) : Nat)), a, some (.ref ar), some (.int (BF.orb ts p v0 n : Nat))] ∧ H' ar = some (.lst (rngV ts p n v0 (k + 1))) ∧ Same H1 H', fun σ' H' h => ⟨n + m0 - (k + 1), by omega, k + 1, rfl, hk', h.1, h.2.1, h.2.2, hfi'⟩, ?_⟩
        refine ⟨_, rfl, .inl ⟨rfl, _, SqL.of h2⟩, _, rfl, _, rfl, _, _, _, _, rfl, rfl, SqL.of (s2 _ _ hb), atI_nat g1, ar, _, _, rfl, rfl, h2, (by rw [hlen]; exact small1000 (by omega)), ?_⟩
        have s3 : Same H1 (upd H2 ar (.lst (rngV ts p n v0 k ++ [.int (i : Nat)]))) := sameAt s2 har
        refine ⟨_, rfl, _, rfl, _, rfl, _, _, _, _, rfl, rfl, SqL.of (s3 _ _ hb), atI_nat g1, _, _, _, _, rfl, rfl, SqL.of (s3 _ _ hF.l), atI_nat g2, _, _, _, _, rfl, rfl, SqT.of (s3 _ _ g3), rfl, ?_, ?_, s3⟩
        · rw [g4]
          rfl
        · rw [upd_same, ← g5]
          unfold rngV
          rw [List.range_succ, List.map_append]
          rfl
      · have k0 : k ≠ 0 := fun z => c1 (decide_eq_true (by rw [z]; rfl))
        refine ⟨_, rfl, _, rfl, rfl, _, rfl, ?_⟩
        by_cases c2 : BF.orb ts p v0 (n + k) = BF.orb ts p v0 n
        · rw [c2, decide_eq_true (rfl : V.int (BF.orb ts p v0 n : Nat) = V.int (BF.orb ts p v0 n : Nat))]
          refine iteF ⟨_, rfl, ar, _, rfl, .inl ⟨SqL.of h2, fun t ht => ?_⟩⟩
          exact q k t _ ⟨by omega, c2, hfi⟩ (sameAt s2 (none_of s2 ht)) upd_same
        · rw [decide_eq_false (fun z : V.int (BF.orb ts p v0 (n + k) : Nat) = V.int (BF.orb ts p v0 n : Nat) => c2 (by injection z with z; omega))]
          have hk' : k + 1 ≤ m0 := by
            rcases Nat.lt_or_eq_of_le hk with z | z
            · exact z
            · exact absurd (by rw [z]; exact mb) c2
          have hfi' : ∀ j, 1 ≤ j → j < k + 1 → BF.orb ts p v0 (n + j) ≠ BF.orb ts p v0 n := fun j h h' => by
            by_cases e : j = k
            · rw [e]; exact c2
            · exact hfi j h (by omega)
          refine iteT ?_
          obtain ⟨i, e, t, g1, g2, g3, g4, g5⟩ := has_at hF hG (hall (n + k))
          refine ⟨fun σ' H' => σ' = [some (.ref f), some (.ref bc), some (.int v0), some (.int (BF.orb ts p v0 (n + (k + 1)) : Nat)), a, some (.ref ar), some (.int (BF.orb ts p v0 n : Nat))] ∧ H' ar = some (.lst (rngV ts p n v0 (k + 1))) ∧ Same H1 H', fun σ' H' h => ⟨n + m0 - (k + 1), by omega, k + 1, rfl, hk', h.1, h.2.1, h.2.2, hfi'⟩, ?_⟩
          refine ⟨_, rfl, .inl ⟨rfl, _, SqL.of h2⟩, _, rfl, _, rfl, _, _, _, _, rfl, rfl, SqL.of (s2 _ _ hb), atI_nat g1, ar, _, _, rfl, rfl, h2, (by rw [hlen]; exact small1000 (by omega)), ?_⟩
          have s3 : Same H1 (upd H2 ar (.lst (rngV ts p n v0 k ++ [.int (i : Nat)]))) := sameAt s2 har
          refine ⟨_, rfl, _, rfl, _, rfl, _, _, _, _, rfl, rfl, SqL.of (s3 _ _ hb), atI_nat g1, _, _, _, _, rfl, rfl, SqL.of (s3 _ _ hF.l), atI_nat g2, _, _, _, _, rfl, rfl, SqT.of (s3 _ _ g3), rfl, ?_, ?_, s3⟩
          · rw [g4]
            rfl
          · rw [upd_same, ← g5]
            unfold rngV
            rw [List.range_succ, List.map_append]
            rfl
end
end Ash

set_option Elab.async false
set_option linter.all false
set_option maxRecDepth 100000
set_option maxHeartbeats 4000000
namespace Ash
open PySem PySem.Spec PyProof.Rows L2
open C8 (pss_cut)
def spSolved : Sp := fun vs H Q _ => ∃ (f : Addr) (us : List V) (ts : List T3) (n : Nat), vs = [.int n, .ref f] ∧ Fs H f us ts ∧ BF.Good n ts ∧ n ≤ 1000 ∧
  (∀ r t p H', r ≤ n → (BF.rds ts n (r + 1)).l = none → (∀ r' < r, (BF.rds ts n (r' + 1)).l ≠ none) → Same H H' → H p = none → H' t = some (.tup [.ref p, .non]) → H' p = some (.lst ((BF.rds ts n (r + 1)).v.map V.int)) → Q (.ref t) H') ∧
  (∀ v0 m t p H', (∀ r' ≤ n, (BF.rds ts n (r' + 1)).l ≠ none) → (BF.rds ts n (n + 1)).l = some v0 → Rng ts (BF.rds ts n (n + 1)).p n v0 m → Same H H' → H' t = some (.tup [.non, .ref p]) → H' p = some (.tup (rngV ts (BF.rds ts n (n + 1)).p n v0 m)) → Q (.ref t) H')
theorem rep_map {α : Type} {n : Nat} {x : α} : (List.replicate n [x]).flatten = List.replicate n x := by
  induction n with
  | zero => rfl
  | succ n ih => rw [List.replicate_succ, List.flatten_cons, ih]; rfl
section
variable {P : Program} {w : World} {K : PySem.W.Frag} {mg : Str → Option Value} {base : Heap}
structure K6 (P : Program) (w : World) (K : PySem.W.Frag) (mg : Str → Option Value) (base : Heap) : Prop extends K5 P w K mg base where
  ring_behind : Cal P w K mg base CX0 "ring_behind" 1 ["facts", "because", "lowered"] spBehind
abbrev s_solved : Stmt := topS 11
theorem sc_solved : FnScope ["count", "facts", "values", "because", "lowered", "_", "at", "low", "high", "more"] ["count", "facts"] (defScope s_solved) := ⟨rfl, rfl, rfl, by decide +kernel, rfl, by decide +kernel, by decide +kernel⟩
theorem ok_solved {f : Addr} {fd : FuncData} (F : Fun K "solved" "solved" s_solved f fd) (B : Blt mg) (G : K6 P w K mg base) : FnOk P w K mg base CX0 2 f fd ["count", "facts"] spSolved := by
  refine F.ok sc_solved (fun vs H Q E h => ?_) (fun cdv A outer s H vs Q E hr h => ?_)
  · obtain ⟨f, us, ts, n, rfl, _⟩ := h
    rfl
  · obtain ⟨f, us, ts, n, rfl, hF, hG, hn, q1, q2⟩ := h
    refine ⟨_, (pss_cons (ps_set (i := 2) sc_solved.nd rfl (Or.inl rfl) (pe_op op_rep (pe_lst (pa_cons pe_int pa_nil)) (pv 0)))
    (pss_cons (ps_set (i := 3) sc_solved.nd rfl (Or.inl rfl) (pe_op op_rep (pe_lst (pa_cons pe_non pa_nil)) (pv 0)))
    (pss_cons (ps_set (i := 4) sc_solved.nd rfl (Or.inl rfl) pe_non)
    (pss_cons (ps_for PassesOwn.never rfl (pi_range1 (by rfl) B.range (pa_cons (pe_op op_add (pv 0) pe_int) pa_nil)) (pg_name (i := 5) sc_solved.nd rfl (Or.inl rfl))
      (pss_cons (ps_set (i := 4) sc_solved.nd rfl (Or.inl rfl) pe_non)
      (pss_cons (ps_for PassesOwn.never rfl (pi_enum (by rfl) B.enumerate (pa_cons (pv 1) pa_nil)) (pg_tup (by rfl) (pgs_cons (pg_name (i := 6) sc_solved.nd rfl (Or.inl rfl)) (pgs_cons (pg_tup (by rfl) (pgs_cons (pg_name (i := 7) sc_solved.nd rfl (Or.inl rfl)) (pgs_cons (pg_name (i := 8) sc_solved.nd rfl (Or.inl rfl)) (pgs_cons (pg_name (i := 9) sc_solved.nd rfl (Or.inl rfl)) pgs_nil)))) pgs_nil)))
        (pss_one (ps_if (pt_cmpR op_lt (pe_op op_add (pe_ix ix_list (pv 2) (pv 8) (fun _ _ => rfl)) (pv 9)) (pe_ix ix_list (pv 2) (pv 7) (fun _ _ => rfl)) (nomark _))
          (pss_cons (ps_asg (pe_op op_add (pe_ix ix_list (pv 2) (pv 8) (fun _ _ => rfl)) (pv 9)) (pg_sub (pv 2) (pv 7) set_list))
          (pss_cons (ps_asg (pv 6) (pg_sub (pv 3) (pv 7) set_list))
          (pss_one (ps_set (i := 4) sc_solved.nd rfl (Or.inl rfl) (pv 7)))))
          pss_nil)))
      (pss_one (ps_if (pt_cmpR op_isN (pv 4) pe_non (nomark _))
        (pss_one (ps_ret (pe_tup (pa_cons (pv 2) (pa_cons pe_non pa_nil)))))
        pss_nil)))))
    (pss_one (ps_ret (pe_tup (pa_cons pe_non (pa_cons (pe_cal G.ring_behind (hr.mono (by decide)) pass0 (pa_cons (pv 1) (pa_cons (pv 3) (pa_cons (pv 4) pa_nil)))) pa_nil))))))))), ?_⟩
    refine ⟨(by show 1 ≤ sizeLine; decide), fun l1 hl1 => ⟨_, rfl, _, _, _, rfl, rfl, upd_same, (by omega), (by omega), (by show 1 * _ ≤ sizeLine; rw [sizeLine_eq]; omega), fun vv hvv => ?_⟩⟩
    refine ⟨(by show 1 ≤ sizeLine; decide), fun l2 hl2 => ⟨_, rfl, _, _, _, rfl, rfl, upd_same, (by omega), (by omega), (by show 1 * _ ≤ sizeLine; rw [sizeLine_eq]; omega), fun bc hbc => ?_⟩⟩
    rw [rep_map] at hbc hl2 ⊢
    rw [rep_map]
    have s1 : Same H (upd H l1 (.lst [.int 0])) := sameAt (Same.refl _) hl1
    have s2 := Same.new s1 hvv (o := .lst (List.replicate (n : Int).toNat (.int 0)))
    have s3 := Same.new s2 hl2 (o := .lst [.non])
    have hvv0 := none_of s1 hvv
    have hbc0 := none_of s3 hbc
    have hvb : vv ≠ bc := ne_of_none (Same.new (Same.refl _) hl2 (o := .lst [.non]) _ _ upd_same) hbc
    have s4 := Same.new s3 hbc (o := .lst (List.replicate (n : Int).toNat .non))
    have hv4 : (upd (upd (upd (upd H l1 (.lst [.int 0])) vv (.lst (List.replicate (n : Int).toNat (.int 0)))) l2 (.lst [.non])) bc (.lst (List.replicate (n : Int).toNat .non))) vv = some (.lst (List.replicate n (.int 0))) := by
      rw [upd_ne hvb]
      exact Same.new (Same.refl _) hl2 _ _ upd_same
    have hb4 : (upd (upd (upd (upd H l1 (.lst [.int 0])) vv (.lst (List.replicate (n : Int).toNat (.int 0)))) l2 (.lst [.non])) bc (.lst (List.replicate (n : Int).toNat .non))) bc = some (.lst (List.replicate n .non)) := upd_same
    generalize upd (upd (upd (upd H l1 _) vv _) l2 _) bc _ = H4 at s4 hv4 hb4 ⊢
    refine ⟨_, rfl, _, _, rfl, rfl, _, rfl, (by omega), (by omega), for_range (n := ((n : Int) + 1).toNat) (fun r σ H1 => (∃ lw a b c d e, σ = [some (.int n), some (.ref f), some (.ref vv), some (.ref bc), some lw, a, b, c, d, e] ∧ (r = n + 1 → ∃ v0, (BF.rds ts n (n + 1)).l = some v0 ∧ lw = .int (v0 : Nat))) ∧ H1 vv = some (.lst ((BF.rds ts n r).v.map V.int)) ∧ H1 bc = some (.lst ((BF.rds ts n r).p.map pV)) ∧ Same H H1 ∧ ∀ r' < r, (BF.rds ts n (r' + 1)).l ≠ none) ?_ ?_ ?_⟩
    · refine ⟨⟨_, _, _, _, _, _, rfl, fun z => absurd z (by omega)⟩, ?_, ?_, s4, fun _ h => absurd h (by omega)⟩
      · rw [hv4]
        show _ = some (HO.lst ((List.replicate n (0 : Int)).map V.int))
        rw [List.map_replicate]
      · rw [hb4]
        show _ = some (HO.lst ((List.replicate n none).map pV))
        rw [List.map_replicate]
        rfl
    · rintro r σ H1 hr ⟨⟨lw, a, b, c, d, e, rfl, hlw⟩, hv, hb, s5, hno⟩
      have hr : r < n + 1 := by omega
      generalize hS0 : BF.rds ts n r = S0 at hv hb
      have hl0 : S0.v.length = n ∧ S0.p.length = n := by rw [← hS0]; exact BF.rds_len r
      have hSr : BF.rds ts n (r + 1) = BF.run ts S0 ts.length := by rw [← hS0]; rfl
      refine ⟨_, rfl, f, us, rfl, SqL.of (s5 _ _ hF.l), for_it walk_enum (fun k σ H2 => (∃ x1 x2 x3 x4 x5, σ = [some (.int n), some (.ref f), some (.ref vv), some (.ref bc), some (pV (BF.run ts S0 k).l), x1, x2, x3, x4, x5]) ∧ H2 vv = some (.lst ((BF.run ts S0 k).v.map V.int)) ∧ H2 bc = some (.lst ((BF.run ts S0 k).p.map pV)) ∧ Same H H2) ?_ (fun i σ H1 _ hv => SqL.of (hv.2.2.2 _ _ hF.l)) ?_ ?_⟩
      · exact ⟨⟨_, _, _, _, _, rfl⟩, hv, hb, s5⟩
      · rintro k x σ H2 H3 hk ⟨⟨y1, y2, y3, y4, y5, rfl⟩, hv2, hb2, s6⟩ ⟨T, x1, x2, rfl, hT, rfl, e1, e2⟩
        cases e1
        have hkt : k < ts.length := by rw [← hF.t.1]; exact hk
        have et : ts[k]? = some ts[k] := List.getElem?_eq_getElem hkt
        obtain ⟨p, e3, e4⟩ := hF.t.at et
        have e2 : us[k]? = some x2 := e2
        rw [e3] at e2
        cases e2
        have g := hG _ (List.getElem_mem hkt)
        rw [BF.run_some et]
        have hl := BF.run_len (ts := ts) (s := S0) k
        rw [hl0.1, hl0.2] at hl
        generalize hti : ts[k] = ti at et e4 g
        generalize BF.run ts S0 k = Sk at hv2 hb2 hl ⊢
        have s7 : Same H (upd H2 T (.tup [.int (k : Nat), .ref p])) := s6.trans (sameAt (Same.refl _) hT)
        have off : ∀ {q o}, H2 q = some o → (upd H2 T (.tup [.int (k : Nat), .ref p])) q = some o := fun h => sameAt (Same.refl _) hT _ _ h
        have hv3 := off hv2
        have hb3 := off hb2
        have e5 := s7 _ _ e4
        have TT : (upd H2 T (.tup [.int (k : Nat), .ref p])) T = some (.tup [.int (k : Nat), .ref p]) := upd_same
        generalize upd H2 T (.tup [.int (k : Nat), .ref p]) = H3 at s7 hv3 hb3 e5 TT ⊢
        have lo_eq : ti.1 = (BF.lo ti : Nat) := by unfold BF.lo; omega
        have hi_eq : ti.2.1 = (BF.hi ti : Nat) := by unfold BF.hi; omega
        have lo_lt : BF.lo ti < n := by have := g.2.1; unfold BF.lo; omega
        have hi_lt : BF.hi ti < n := by have := g.2.2.2; unfold BF.hi; omega
        have at_eq : ∀ u, u < n → (Sk.v.map V.int)[u]? = some (.int (BF.at_ Sk.v u)) := fun u hu => by
          unfold BF.at_
          rw [List.getElem?_map, List.getD_eq_getElem?_getD, List.getElem?_eq_getElem (by rw [hl.1]; exact hu)]
          rfl
        refine ⟨T, _, rfl, SqT.of TT, rfl, _, _, rfl, _, _, rfl, p, _, rfl, SqT.of e5, rfl, _, _, rfl, _, _, rfl, _, _, rfl, rfl, rfl, ?_⟩
        have ixl : ∀ {xs : List V}, xs.length = n → ixN xs.length ti.1 = some (BF.lo ti) := fun {xs} h => by
          rw [h, lo_eq]
          unfold ixN
          rw [if_pos (by omega), if_pos (by omega)]
          exact congrArg some (by omega)
        have rd : ∀ u (z : Int), z = (u : Nat) → u < n → atI (Sk.v.map V.int) z = some (.int (BF.at_ Sk.v u)) := fun u z e hu => by rw [e]; exact atI_nat (at_eq u hu)
        refine ⟨_, rfl, _, rfl, _, _, _, _, rfl, rfl, SqL.of hv3, rd _ _ hi_eq hi_lt, _, rfl, _, _, rfl, rfl, _, rfl, _, rfl, _, _, _, _, rfl, rfl, SqL.of hv3, rd _ _ lo_eq lo_lt, _, _, rfl, rfl, _, rfl, ?_⟩
        unfold BF.stp
        refine ite2 (fun c1 => ?_) (fun c1 => ?_)
        · have c1 : BF.at_ Sk.v (BF.hi ti) + ti.2.2 < BF.at_ Sk.v (BF.lo ti) := of_decide_eq_true c1
          rw [if_pos c1]
          refine ⟨_, rfl, _, rfl, _, _, _, _, rfl, rfl, SqL.of hv3, rd _ _ hi_eq hi_lt, _, rfl, _, _, rfl, rfl, _, rfl, _, rfl, _, _, _, _, rfl, rfl, hv3, ixl (by rw [List.length_map]; exact hl.1), ?_⟩
          refine ⟨_, rfl, _, rfl, _, rfl, _, _, _, _, rfl, rfl, (by rw [upd_ne hvb.symm]; exact hb3), ixl (by rw [List.length_map]; exact hl.2), _, rfl, ⟨y1, some (.int (k : Nat)), some (.int ti.1), some (.int ti.2.1), some (.int ti.2.2), ?_⟩, ?_, ?_, ?_⟩
          · have e : V.int ti.1 = pV (some (BF.lo ti)) := by
              show _ = V.int _
              rw [← lo_eq]
            show [_, _, _, _, some (V.int ti.1), _, _, _, _, _] = [_, _, _, _, some (pV (some (BF.lo ti))), _, _, _, _, _]
            rw [e]
          · rw [upd_ne hvb, upd_same, List.map_set]
          · rw [upd_same, List.map_set]
            rfl
          · exact sameAt (sameAt s7 hvv0) hbc0
        · have c1 : ¬ BF.at_ Sk.v (BF.hi ti) + ti.2.2 < BF.at_ Sk.v (BF.lo ti) := fun z => c1 (decide_eq_true z)
          rw [if_neg c1]
          exact ⟨⟨_, _, _, _, _, rfl⟩, hv3, hb3, s7⟩
      · rintro σ H2 ⟨⟨y1, y2, y3, y4, y5, rfl⟩, hv2, hb2, s6⟩
        rw [hF.t.1, ← hSr] at hv2 hb2 ⊢
        cases hl : (BF.rds ts n (r + 1)).l with
        | none =>
          refine ⟨_, rfl, rfl, _, rfl, iteT ⟨_, rfl, (by show 2 ≤ sizeLine; decide), fun t ht => ?_⟩⟩
          have sT : Same H2 (upd H2 t (.tup [.ref vv, .non])) := sameAt (Same.refl _) ht
          exact q1 r t vv _ (by omega) hl hno (s6.trans sT) hvv0 upd_same (sT _ _ hv2)
        | some v0 =>
          refine ⟨_, rfl, rfl, _, rfl, iteF ?_⟩
          refine ⟨⟨_, _, _, _, _, _, rfl, fun z => ⟨v0, ?_, rfl⟩⟩, hv2, hb2, s6, fun r' h => ?_⟩
          · rw [← hl, show r = n by omega]
          · by_cases z : r' = r
            · rw [z, hl]
              exact fun z => nomatch z
            · exact hno r' (by omega)
    · rintro σ H1 ⟨⟨lw, a, b, c, d, e, rfl, hlw⟩, hv, hb, s5, hno⟩
      have e1 : ((n : Int) + 1).toNat = n + 1 := by omega
      rw [e1] at hv hb hno hlw
      obtain ⟨v0, hv0, rfl⟩ := hlw rfl
      obtain ⟨L, hL⟩ := BF.G.rds hG (n + 1)
      obtain ⟨hall, hper⟩ := BF.around hL hv0
      refine ⟨_, rfl, _, rfl, _, rfl, f, bc, us, ts, _, n, v0, rfl, hF.same s5, hG, hb, (BF.rds_len (n + 1)).2, hn, fun k => (hall k).1, hper, fun m t H2 hm s6 ht => ?_⟩
      refine ⟨(by show 2 ≤ sizeLine; decide), fun p hp => ?_⟩
      have sT : Same H2 (upd H2 p (.tup [.non, .ref t])) := sameAt (Same.refl _) hp
      exact q2 v0 m p t _ (fun r' h => hno r' (by omega)) hv0 hm ((s5.trans s6).trans sT) upd_same (sT _ _ ht)
def spRing : Sp := fun vs H Q _ => ∃ (f : Addr) (us : List V) (ts : List T3) (n : Nat), vs = [.int n, .ref f] ∧ Fs H f us ts ∧ BF.Good n ts ∧ n ≤ 1000 ∧
  (∀ v H', Same H H' → (∀ (i : Nat) t, ts[i]? = some t → BF.at_ v (BF.lo t) ≤ BF.at_ v (BF.hi t) + t.2.2) → Q .non H') ∧ (∀ t H', Same H H' → Q (.ref t) H')
structure K7 (P : Program) (w : World) (K : PySem.W.Frag) (mg : Str → Option Value) (base : Heap) : Prop extends K6 P w K mg base where
  solved : Cal P w K mg base CX0 "solved" 2 ["count", "facts"] spSolved
abbrev s_ring : Stmt := topS 7
theorem sc_ring : FnScope ["count", "facts", "_", "around"] ["count", "facts"] (defScope s_ring) := ⟨rfl, rfl, rfl, by decide +kernel, rfl, by decide +kernel, by decide +kernel⟩
theorem ok_ring {f : Addr} {fd : FuncData} (F : Fun K "ring" "ring" s_ring f fd) (B : Blt mg) (G : K7 P w K mg base) : FnOk P w K mg base CX0 5 f fd ["count", "facts"] spRing := by
  refine F.ok sc_ring (fun vs H Q E h => ?_) (fun cdv A outer s H vs Q E hr h => ?_)
  · obtain ⟨f, us, ts, n, rfl, _⟩ := h
    rfl
  · obtain ⟨f, us, ts, n, rfl, hF, hG, hn, q1, q2⟩ := h
    refine ⟨_, (pss_cons (ps_expr (pe_cal G.check_facts (hr.mono (by decide)) pass0 (pa_cons (pv 1) (pa_cons (pv 0) pa_nil))))
    (pss_cons (ps_asg (pe_cal G.solved (hr.mono (by decide)) pass0 (pa_cons (pv 0) (pa_cons (pv 1) pa_nil))) (pg_tup (by rfl) (pgs_cons (pg_name (i := 2) sc_ring.nd rfl (Or.inl rfl)) (pgs_cons (pg_name (i := 3) sc_ring.nd rfl (Or.inl rfl)) pgs_nil))))
    (pss_one (ps_ret (pv 3))))), ?_⟩
    refine ⟨_, rfl, _, rfl, f, _, us, ts, n, rfl, .inr rfl, hF, hG, fun H1 s1 => ⟨_, rfl, _, rfl, f, us, ts, n, rfl, hF.same s1, hG, hn, fun r t p H2 hr h1 h2 s2 hp ht hp2 => ?_, fun v0 m t p H2 h1 h2 h3 s2 ht hp => ?_⟩⟩
    · refine ⟨t, _, rfl, SqT.of ht, rfl, _, _, rfl, _, _, rfl, rfl, _, rfl, ?_⟩
      have k := BF.kept (ts := ts) (s := BF.rds ts n r) ts.length h1
      exact q1 (BF.rds ts n r).v _ (s1.trans s2) fun i t hi => k.2 i t (List.getElem?_eq_some_iff.mp hi).1 hi
    · exact ⟨t, _, rfl, SqT.of ht, rfl, _, _, rfl, _, _, rfl, rfl, _, rfl, q2 p _ (s1.trans s2)⟩
end
end Ash

set_option Elab.async false
set_option linter.all false
set_option maxRecDepth 100000
set_option maxHeartbeats 4000000
namespace Ash
open PySem PySem.Spec PyProof.Rows L2
open C8 (pss_cut)
/-- the pool of drawn numbers at p, the script's copy at s -/
def PoolAt (H : Hp) (p s : Addr) : Prop := ∃ (ns : List Int) (i c k n a : Int), H p = some (.lst [.ref s, .int i, .int c, .int k, .int n, .int a]) ∧ H s = some (.lst (ns.map V.int)) ∧ 0 ≤ i ∧ s ≠ p
theorem PoolAt.same {H H' : Hp} {p s : Addr} (h : PoolAt H p s) (e : Same H H') : PoolAt H' p s := by
  obtain ⟨ns, i, c, k, n, a, h1, h2, h3, h4⟩ := h
  exact ⟨ns, i, c, k, n, a, e _ _ h1, e _ _ h2, h3, h4⟩
theorem PoolAt.off {H : Hp} {p s q : Addr} {o : HO} (h : PoolAt H p s) (hp : q ≠ p) (hs : q ≠ s) : PoolAt (L2.upd H q o) p s := by
  obtain ⟨ns, i, c, k, n, a, h1, h2, h3, h4⟩ := h
  exact ⟨ns, i, c, k, n, a, by rw [upd_ne hp.symm]; exact h1, by rw [upd_ne hs.symm]; exact h2, h3, h4⟩
/-- from H0 to H nothing that was tracked has changed but the pool -/
structure Pl (H0 H : Hp) (p s : Addr) : Prop where
  now : PoolAt H p s
  op : H0 p ≠ none
  os : H0 s ≠ none
  but : But p H0 H
  ev : Ev H0 H
section
variable {H0 H H1 : Hp} {p s q : Addr} {o : HO}
theorem PoolAt.ne (h : PoolAt H p s) : H p ≠ none ∧ H s ≠ none := by
  obtain ⟨ns, i, c, k, n, a, h1, h2, h3, h4⟩ := h
  rw [h1, h2]
  exact ⟨Option.some_ne_none _, Option.some_ne_none _⟩
theorem Pl.refl (h : PoolAt H p s) : Pl H H p s := ⟨h, h.ne.1, h.ne.2, But.refl p H, Ev.refl H⟩
theorem Pl.at (h : Pl H0 H p s) (hq0 : H0 q = none) (hq : H q = none) : Pl H0 (L2.upd H q o) p s :=
  ⟨h.now.off (fun z => h.op (z ▸ hq0)) (fun z => h.os (z ▸ hq0)), h.op, h.os, h.but.at hq0, h.ev.new hq⟩
theorem Pl.keep (h : Pl H0 H p s) {b : Addr} {u : HO} (e : H0 b = some u) (n : b ≠ p) : H b = some u := h.but b u e n
theorem Pl.free (h : Pl H0 H p s) (hq : H q = none) : H0 q = none := by
  cases e : H0 q with
  | none => rfl
  | some u =>
    by_cases hp : q = p
    · exact absurd (hp ▸ hq) h.now.ne.1
    · rw [h.but q u e hp] at hq
      cases hq
theorem Pl.trans (a : Pl H0 H p s) (b : Pl H H1 p s) : Pl H0 H1 p s := ⟨b.now, a.op, a.os, a.but.trans b.but, a.ev.trans b.ev⟩
/-- a new thing -/
theorem Pl.new (h : Pl H0 H p s) (hq : H q = none) : Pl H0 (L2.upd H q o) p s := h.at (h.free hq) hq
theorem Pl.same (h : Pl H0 H p s) (e : Same H H1) : Pl H0 H1 p s := ⟨h.now.same e, h.op, h.os, fun b u hb n => e b u (h.but b u hb n), h.ev.trans (Ev.same e)⟩
end
theorem Pl.lstAt {H H1 : Hp} {p s q : Addr} {xs ys : List V} (h : Pl H H1 p s) (h0 : H q = none) (hq : H1 q = some (.lst xs)) : Pl H (L2.upd H1 q (.lst ys)) p s :=
  ⟨h.now.off (fun z => h.op (z ▸ h0)) (fun z => h.os (z ▸ h0)), h.op, h.os, fun b o hb hn => by rw [upd_ne (ne_of_none hb h0)]; exact h.but b o hb hn, h.ev.updL hq⟩
def spPool (K : PySem.W.Frag) : Sp := fun vs H Q _ => ∃ (a : Addr) (ns : List Int), vs = [.ref a] ∧ SqL K H a (ns.map V.int) ∧ ∀ p s H', H p = none → PoolAt H' p s → Same H H' → Q (.ref p) H'
def spDraw : Sp := fun vs H Q _ => ∃ (p s : Addr) (many : Int), vs = [.ref p, .int many] ∧ PoolAt H p s ∧ 0 < many ∧ many < 2 ^ 200 ∧ ∀ (d : Int) H', 0 ≤ d → d < many → Pl H H' p s → Q (.int d) H'
section
variable {P : Program} {w : World} {K : PySem.W.Frag} {mg : Str → Option Value} {base : Heap}
abbrev s_l_state : Stmt := topS 15
theorem sc_l_state : FnScope ["script"] ["script"] (defScope s_l_state) := ⟨rfl, rfl, rfl, by decide +kernel, rfl, by decide +kernel, by decide +kernel⟩
theorem ok_state {f : Addr} {fd : FuncData} (F : Fun K "_law_state" "_law_state" s_l_state f fd) (B : Blt mg) : FnOk P w K mg base CX0 1 f fd ["script"] (spPool K) := by
  refine F.ok sc_l_state (fun vs H Q E h => ?_) (fun cdv A outer s H vs Q E hr h => ?_)
  · obtain ⟨a, ns, rfl, _⟩ := h
    rfl
  · obtain ⟨a, ns, rfl, hS, k⟩ := h
    refine ⟨_, (pss_one (ps_ret (pe_lst (pa_cons (pe_callTy call_list_of (by rfl) B.list (by decide +kernel) (pa_cons (pv 0) pa_nil)) (pa_cons pe_int (pa_cons pe_int (pa_cons pe_int (pa_cons pe_int (pa_cons pe_int pa_nil))))))))), ?_⟩
    refine ⟨_, rfl, _, _, rfl, .inl hS, fun l hl => ⟨(by show 6 ≤ sizeLine; decide), fun p hp => ?_⟩⟩
    have hpl : l ≠ p := fun z => by rw [z, upd_same] at hp; cases hp
    have hp0 : H p = none := by rw [upd_ne (Ne.symm hpl)] at hp; exact hp
    refine k p l _ hp0 ⟨ns, _, _, _, _, _, upd_same, (by rw [upd_ne hpl, upd_same]), (by decide), hpl⟩ ?_
    exact Same.new (Same.new (Same.refl H) hl) hp
abbrev s_l_draw : Stmt := topS 16
theorem sc_l_draw : FnScope ["state", "many", "digit", "cell", "number"] ["state", "many"] (defScope s_l_draw) := ⟨rfl, rfl, rfl, by decide +kernel, rfl, by decide +kernel, by decide +kernel⟩
theorem ok_draw {f : Addr} {fd : FuncData} (F : Fun K "_law_draw" "_law_draw" s_l_draw f fd) (B : Blt mg) : FnOk P w K mg base CX0 1 f fd ["state", "many"] spDraw := by
  refine F.ok sc_l_draw (fun vs H Q E h => ?_) (fun cdv A outer s H vs Q E hr h => ?_)
  · obtain ⟨p, _, many, rfl, _⟩ := h
    rfl
  · obtain ⟨p, s, many, rfl, hPP, hm, hm2, kk⟩ := h
    obtain ⟨ns, i, c, k, n, a, hp, hs, hi, hsp⟩ := id hPP
    have fin : ∀ (d : Int) (H1 : Hp) (i c k n a : Int), 0 ≤ d → d < many → H1 p = some (.lst [.ref s, .int i, .int c, .int k, .int n, .int a]) → H1 s = some (.lst (ns.map V.int)) → 0 ≤ i → But p H H1 → Ev H H1 → Q (.int d) H1 :=
      fun d H1 i c k n a h1 h2 h3 h4 h5 h6 h7 => kk d H1 h1 h2 ⟨⟨ns, i, c, k, n, a, h3, h4, h5, hsp⟩, hPP.ne.1, hPP.ne.2, h6, h7⟩
    refine ⟨_, (pss_cut (ps_if (PW.pt (pw_and (pt_cmpR op_gt (pe_ix ix_list (pv 0) pe_int (fun _ _ => rfl)) pe_int (nomark _)) (pw_and1 (pt_cmpR op_lt (pe_ix ix_list (pv 0) pe_int (fun _ _ => rfl)) pe_int (nomark _)))))
      (pss_cons (ps_set (i := 2) sc_l_draw.nd rfl (Or.inl rfl) (pe_op op_mod (pe_callTy call_intI (by rfl) B.int (by decide +kernel) (pa_cons (pe_ix ix_list (pv 0) pe_int (fun _ _ => rfl)) pa_nil)) (pv 1)))
      (pss_cons (ps_asg (pe_op op_fdivW (pe_ix ix_list (pv 0) pe_int (fun _ _ => rfl)) (pv 1)) (pg_sub (pv 0) pe_int set_list))
      (pss_cons (ps_asg (pe_op op_add (pe_ix ix_list (pv 0) pe_int (fun _ _ => rfl)) pe_int) (pg_sub (pv 0) pe_int set_list))
      (pss_one (ps_ret (pv 2))))))
      pss_nil)
    (pss_cons (ps_asg (pe_op op_add (pe_ix ix_list (pv 0) pe_int (fun _ _ => rfl)) pe_int) (pg_sub (pv 0) pe_int set_list))
    (pss_cut (ps_if (pt_cmpR op_lt (pe_ix ix_list (pv 0) pe_int (fun _ _ => rfl)) (pe_callB call_len_seq (by rfl) B.len (by decide +kernel) (pa_cons (pe_ix ix_list (pv 0) pe_int (fun _ _ => rfl)) pa_nil)) (nomark _))
      (pss_cons (ps_set (i := 3) sc_l_draw.nd rfl (Or.inl rfl) (pe_ix ix_list (pe_ix ix_list (pv 0) pe_int (fun _ _ => rfl)) (pe_ix ix_list (pv 0) pe_int (fun _ _ => rfl)) (fun _ _ => rfl)))
      (pss_cons (ps_asg (pe_op op_add (pe_ix ix_list (pv 0) pe_int (fun _ _ => rfl)) pe_int) (pg_sub (pv 0) pe_int set_list))
      (pss_cons (ps_asg (pe_op op_mod (pe_op op_add (pe_op op_mul (pe_ix ix_list (pv 0) pe_int (fun _ _ => rfl)) pe_int) (pe_callTy call_intI (by rfl) B.int (by decide +kernel) (pa_cons (pv 3) pa_nil))) (pe_op op_pow pe_int pe_int)) (pg_sub (pv 0) pe_int set_list))
      (pss_one (ps_if (pt_cmpR op_ge (pv 3) (pe_op op_pow pe_int pe_int) (nomark _))
        (pss_cons (ps_asg (pe_op op_fdivW (pv 3) (pv 1)) (pg_sub (pv 0) pe_int set_list))
        (pss_cons (ps_asg pe_int (pg_sub (pv 0) pe_int set_list))
        (pss_one (ps_ret (pe_op op_mod (pe_callTy call_intI (by rfl) B.int (by decide +kernel) (pa_cons (pv 3) pa_nil)) (pv 1))))))
        pss_nil)))))
      pss_nil)
    (pss_cons (ps_set (i := 4) sc_l_draw.nd rfl (Or.inl rfl) (pe_op op_mod (pe_op op_mul (pe_op op_add (pe_op op_add (pe_op op_mul (pe_callTy call_intI (by rfl) B.int (by decide +kernel) (pa_cons (pe_ix ix_list (pv 0) pe_int (fun _ _ => rfl)) pa_nil)) pe_int) (pe_op op_mul pe_int (pe_ix ix_list (pv 0) pe_int (fun _ _ => rfl)))) pe_int) pe_int) pe_int))
    (pss_cons (ps_set (i := 4) sc_l_draw.nd rfl (Or.inl rfl) (pe_op op_mod (pe_op op_mul (pv 4) (pe_op op_add (pe_op op_fdiv (pv 4) pe_int) pe_int)) pe_int))
    (pss_cons (ps_set (i := 4) sc_l_draw.nd rfl (Or.inl rfl) (pe_op op_mod (pe_op op_mul (pv 4) (pe_op op_add (pe_op op_fdiv (pv 4) pe_int) pe_int)) pe_int))
    (pss_one (ps_ret (pe_op op_mod (pv 4) (pv 1)))))))))), ?_⟩
    refine ⟨fun σ H1 => σ = [some (.ref p), some (.int many), none, none, none] ∧ H1 = H, ?_, ?_⟩
    · refine ⟨_, rfl, _, _, _, _, rfl, rfl, SqL.of hp, rfl, _, _, rfl, rfl, _, rfl, ?_⟩
      refine ite2 (fun c1 => ?_) (fun c1 => ⟨rfl, rfl⟩)
      refine ⟨_, rfl, _, _, _, _, rfl, rfl, SqL.of hp, rfl, _, _, rfl, rfl, _, rfl, ?_⟩
      refine ite2 (fun c2 => ?_) (fun c2 => ⟨rfl, rfl⟩)
      refine ⟨_, rfl, _, _, _, _, rfl, rfl, SqL.of hp, rfl, _, rfl, _, rfl, _, _, rfl, rfl, hm, ?_⟩
      refine ⟨_, rfl, _, _, _, _, rfl, rfl, SqL.of hp, rfl, _, rfl, _, _, rfl, rfl, wide_div (b := 200) hm (by omega) (by decide) (by decide), _, rfl, _, _, _, _, rfl, rfl, hp, rfl, ?_⟩
      refine ⟨_, rfl, _, _, _, _, rfl, rfl, SqL.of upd_same, rfl, _, _, rfl, rfl, _, rfl, _, _, _, _, rfl, rfl, upd_same, rfl, _, rfl, ?_⟩
      refine fin _ _ _ _ _ _ _ (Int.emod_nonneg _ (by omega)) (Int.emod_lt_of_pos _ hm) upd_same (by rw [upd_ne hsp, upd_ne hsp]; exact hs) hi (But.refl p H).upd.upd (((Ev.refl H).updL hp).updL upd_same)
    rintro σ H1 ⟨rfl, rfl⟩
    refine ⟨_, rfl, _, _, _, _, rfl, rfl, SqL.of hp, rfl, _, _, rfl, rfl, _, rfl, _, _, _, _, rfl, rfl, hp, rfl, ?_⟩
    refine ⟨fun σ H2 => (∃ cell, σ = [some (.ref p), some (.int many), none, cell, none]) ∧ ∃ (i c k n a : Int), H2 p = some (.lst [.ref s, .int i, .int c, .int k, .int n, .int a]) ∧ H2 s = some (.lst (ns.map V.int)) ∧ 0 ≤ i ∧ But p H1 H2 ∧ Ev H1 H2, ?_, ?_⟩
    · generalize eH : upd H1 p (.lst _) = H2
      have p1 : H2 p = some (.lst [.ref s, .int i, .int c, .int k, .int (n + 1), .int a]) := by rw [← eH]; exact upd_same
      have s1 : H2 s = some (.lst (ns.map V.int)) := by rw [← eH, upd_ne hsp]; exact hs
      have b1 : But p H1 H2 := by rw [← eH]; exact (But.refl p H1).upd
      have v1 : Ev H1 H2 := by rw [← eH]; exact (Ev.refl H1).updL hp
      clear eH
      refine ⟨_, rfl, _, _, _, _, rfl, rfl, SqL.of p1, rfl, _, rfl, _, _, _, _, rfl, rfl, SqL.of p1, rfl, _, _, rfl, .inl (SqL.of s1), _, _, rfl, rfl, _, rfl, ?_⟩
      refine ite2 (fun c3 => ?_) (fun c3 => ⟨⟨_, rfl⟩, _, _, _, _, _, p1, s1, hi, b1, v1⟩)
      have c3' : i < (ns.map V.int).length := of_decide_eq_true c3
      obtain ⟨j, rfl⟩ : ∃ j : Nat, i = (j : Int) := ⟨i.toNat, by omega⟩
      have hj : j < ns.length := by rw [List.length_map] at c3'; omega
      refine ⟨_, rfl, _, _, _, _, rfl, rfl, SqL.of p1, rfl, _, rfl, _, _, _, _, rfl, rfl, SqL.of p1, rfl, _, _, _, V.int ns[j], rfl, rfl, SqL.of s1, atI_nat (by rw [List.getElem?_map, List.getElem?_eq_getElem hj]; rfl), ?_⟩
      refine ⟨_, rfl, _, _, _, _, rfl, rfl, SqL.of p1, rfl, _, _, rfl, rfl, _, rfl, _, _, _, _, rfl, rfl, p1, rfl, ?_⟩
      refine ⟨_, rfl, _, _, _, _, rfl, rfl, SqL.of upd_same, rfl, _, _, rfl, rfl, .inr ⟨by decide, by decide⟩, _, rfl, _, rfl, _, _, rfl, rfl, _, _, rfl, rfl, ⟨by decide, by decide, by decide⟩, _, _, rfl, rfl, (by show (0 : Int) < 10 ^ 18; decide), _, rfl, _, _, _, _, rfl, rfl, upd_same, rfl, ?_⟩
      refine ⟨_, rfl, _, _, rfl, rfl, ⟨by decide, by decide, by decide⟩, _, _, rfl, rfl, _, rfl, ?_⟩
      refine ite2 (fun c4 => ?_) (fun c4 => ?_)
      · refine ⟨_, rfl, _, rfl, _, _, rfl, rfl, wide_div (b := 200) hm (by omega) (by decide) (by decide), _, rfl, _, _, _, _, rfl, rfl, upd_same, rfl, _, rfl, _, _, _, _, rfl, rfl, upd_same, rfl, _, rfl, _, rfl, _, rfl, _, _, rfl, rfl, hm, ?_⟩
        refine fin _ _ _ _ _ _ _ (Int.emod_nonneg _ (by omega)) (Int.emod_lt_of_pos _ hm) upd_same (by rw [upd_ne hsp, upd_ne hsp, upd_ne hsp, upd_ne hsp]; exact s1) (by omega) b1.upd.upd.upd.upd ((((v1.updL p1).updL upd_same).updL upd_same).updL upd_same)
      · exact ⟨⟨_, rfl⟩, _, _, _, _, _, upd_same, (by rw [upd_ne hsp, upd_ne hsp]; exact s1), (by omega), b1.upd.upd, (v1.updL p1).updL upd_same⟩
    · rintro σ H2 ⟨⟨cell, rfl⟩, i, c, k, n, a, hp2, hs2, hi2, hb2, he2⟩
      refine ⟨_, rfl, _, _, _, _, rfl, rfl, SqL.of hp2, rfl, _, rfl, _, _, rfl, rfl, .inr ⟨by decide, by decide⟩, _, rfl, _, _, _, _, rfl, rfl, SqL.of hp2, rfl, _, _, rfl, rfl, .inl ⟨by decide, by decide⟩, _, _, rfl, rfl, _, _, rfl, rfl, _, _, rfl, rfl, .inr ⟨by decide, by decide⟩, _, _, rfl, rfl, (by show (0 : Int) < 2147483647; decide), ?_⟩
      generalize ea : (a * 1000003 + 7919 * n + 1) * 48271 % 2147483647 = x
      have a0 : 0 ≤ x := by rw [← ea]; exact Int.emod_nonneg _ (by decide)
      have a1 : x < 2147483647 := by rw [← ea]; exact Int.emod_lt_of_pos _ (by decide)
      refine ⟨_, rfl, _, rfl, _, _, rfl, rfl, ⟨by decide, by decide⟩, _, _, rfl, rfl, _, _, rfl, rfl, .inl ⟨by omega, by omega⟩, _, _, rfl, rfl, (by show (0 : Int) < 2147483647; decide), ?_⟩
      generalize eb : x * (x / 1009 + 69621) % 2147483647 = y
      have b0 : 0 ≤ y := by rw [← eb]; exact Int.emod_nonneg _ (by decide)
      have b1 : y < 2147483647 := by rw [← eb]; exact Int.emod_lt_of_pos _ (by decide)
      refine ⟨_, rfl, _, rfl, _, _, rfl, rfl, ⟨by decide, by decide⟩, _, _, rfl, rfl, _, _, rfl, rfl, .inl ⟨by omega, by omega⟩, _, _, rfl, rfl, (by show (0 : Int) < 2147483399; decide), ?_⟩
      refine ⟨_, rfl, _, rfl, _, _, rfl, rfl, hm, ?_⟩
      exact fin _ _ _ _ _ _ _ (Int.emod_nonneg _ (by omega)) (Int.emod_lt_of_pos _ hm) hp2 hs2 hi2 hb2 he2
end
end Ash

set_option Elab.async false
set_option linter.all false
set_option maxRecDepth 100000
set_option maxHeartbeats 4000000
namespace Ash
open PySem PySem.Spec PyProof.Rows L2
open C8 (pss_cut)
def spNumber : Sp := fun vs H Q _ => ∃ (p s : Addr), vs = [.ref p] ∧ PoolAt H p s ∧ ∀ (n : Int) H', Pl H H' p s → Q (.int n) H'
def spDue (K : PySem.W.Frag) : Sp := fun vs H Q _ => ∃ (f : Addr) (us : List V) (ts : List T3) (v : V) (o : Option (List (Option Int))), vs = [.ref f, v] ∧ Fs H f us ts ∧ ThAt K H v o ∧ Q (.bl (BF.due ts o)) H
def spCircle : Sp := fun vs H Q _ => ∃ (p s : Addr) (count : Nat) (start many total : Int), vs = [.ref p, .int count, .int start, .int many, .int total] ∧ PoolAt H p s ∧ 1 ≤ count ∧ count ≤ 8 ∧ 0 ≤ start ∧ start < count ∧ 1 ≤ many ∧ many ≤ 5 ∧
  ∀ c us ts H', Pl H H' p s → H c = none → H' c = some (.lst us) → TrAt H' us ts → us.length = many.toNat → BF.Good count ts → Q (.ref c) H'
theorem TrAt.snoc {H : Hp} {us : List V} {ts : List T3} {t : T3} {e : Addr} (h : TrAt H us ts) (he : H e = some (.tup (tv t))) : TrAt H (us ++ [.ref e]) (ts ++ [t]) := by
  refine ⟨by simp [h.1], fun i v u a b => ?_⟩
  by_cases hi : i < us.length
  · rw [List.getElem?_append_left hi] at a
    rw [List.getElem?_append_left (by rw [← h.1]; exact hi)] at b
    exact h.2 i v u a b
  · rw [List.getElem?_append_right (by omega)] at a
    rw [List.getElem?_append_right (by rw [← h.1]; omega)] at b
    have : i - us.length = 0 := by
      rcases Nat.eq_zero_or_pos (i - us.length) with z | z
      · exact z
      · rw [List.getElem?_eq_none (by simp; omega)] at a
        cases a
    rw [this] at a
    rw [← h.1, this] at b
    cases a
    cases b
    exact ⟨e, rfl, he⟩
section
variable {P : Program} {w : World} {K : PySem.W.Frag} {mg : Str → Option Value} {base : Heap}
structure G1 (P : Program) (w : World) (K : PySem.W.Frag) (mg : Str → Option Value) (base : Heap) : Prop where
  law_draw : Cal P w K mg base CX0 "_law_draw" 1 ["state", "many"] spDraw
abbrev s_l_number : Stmt := topS 17
theorem sc_l_number : FnScope ["state", "kind"] ["state"] (defScope s_l_number) := ⟨rfl, rfl, rfl, by decide +kernel, rfl, by decide +kernel, by decide +kernel⟩
theorem ok_number {f : Addr} {fd : FuncData} (F : Fun K "_law_number" "_law_number" s_l_number f fd) (B : Blt mg) (G : G1 P w K mg base) : FnOk P w K mg base CX0 2 f fd ["state"] spNumber := by
  refine F.ok sc_l_number (fun vs H Q E h => ?_) (fun cdv A outer s H vs Q E hr h => ?_)
  · obtain ⟨p, s, rfl, _⟩ := h
    rfl
  · obtain ⟨p, s0, rfl, hP, q⟩ := h
    refine ⟨_, (pss_cons (ps_set (i := 1) sc_l_number.nd rfl (Or.inl rfl) (pe_cal G.law_draw (hr.mono (by decide)) pass0 (pa_cons (pv 0) (pa_cons pe_int pa_nil))))
    (pss_cons (ps_if (pt_cmpR op_lt (pv 1) pe_int (nomark _))
      (pss_one (ps_ret (pe_op op_sub (pe_cal G.law_draw (hr.mono (by decide)) pass0 (pa_cons (pv 0) (pa_cons pe_int pa_nil))) pe_int)))
      pss_nil)
    (pss_cons (ps_if (pt_cmpR op_eq (pv 1) pe_int (nomark _))
      (pss_one (ps_ret (pe_op op_sub (pe_cal G.law_draw (hr.mono (by decide)) pass0 (pa_cons (pv 0) (pa_cons pe_int pa_nil))) pe_int)))
      pss_nil)
    (pss_one (ps_ret (pe_op op_add (pe_op op_mul (pe_op op_sub (pe_cal G.law_draw (hr.mono (by decide)) pass0 (pa_cons (pv 0) (pa_cons (pe_op op_mul pe_int (pe_op op_pow pe_int pe_int)) pa_nil))) (pe_op op_pow pe_int pe_int)) (pe_op op_pow pe_int pe_int)) (pe_cal G.law_draw (hr.mono (by decide)) pass0 (pa_cons (pv 0) (pa_cons (pe_op op_pow pe_int pe_int) pa_nil))))))))), ?_⟩
    refine ⟨_, rfl, p, s0, 8, rfl, hP, (by decide), (by decide), fun x H1 x0 x6 P1 => ⟨_, rfl, _, _, rfl, rfl, _, rfl, ?_⟩⟩
    refine ite2 (fun c => ?_) (fun c => ?_)
    · exact ⟨_, rfl, p, s0, 9, rfl, P1.now, (by decide), (by decide), fun y H2 y0 y6 P2 => ⟨_, _, rfl, rfl, q _ H2 (P1.trans P2)⟩⟩
    · refine ⟨_, rfl, rfl, _, rfl, ?_⟩
      refine ite2 (fun c => ?_) (fun c => ?_)
      · exact ⟨_, rfl, p, s0, 201, rfl, P1.now, (by decide), (by decide), fun y H2 y0 y6 P2 => ⟨_, _, rfl, rfl, q _ H2 (P1.trans P2)⟩⟩
      · refine ⟨_, rfl, _, _, rfl, rfl, ⟨by decide, by decide, by decide⟩, _, _, rfl, rfl, .inl ⟨by decide, by decide⟩, p, s0, 2000000000, rfl, P1.now, (by decide), (by decide), fun y H2 y0 y6 P2 => ⟨_, _, rfl, rfl, ⟨by decide, by decide, by decide⟩, _, _, rfl, rfl, _, _, rfl, rfl, ⟨by decide, by decide, by decide⟩, _, _, rfl, rfl, .inl ?_, _, rfl, _, _, rfl, rfl, ⟨by decide, by decide, by decide⟩, p, s0, 1000000000, rfl, P2.now, (by decide), (by decide), fun z H3 z0 z6 P3 => ⟨_, _, rfl, rfl, q _ H3 ((P1.trans P2).trans P3)⟩⟩⟩
        show -(2 ^ 64) < y - 1000000000 ∧ y - 1000000000 < 2 ^ 64
        omega
abbrev s_l_is_integer : Stmt := topS 18
theorem sc_l_is_integer : FnScope ["thing"] ["thing"] (defScope s_l_is_integer) := ⟨rfl, rfl, rfl, by decide +kernel, rfl, by decide +kernel, by decide +kernel⟩
theorem ok_law_is_integer {f : Addr} {fd : FuncData} (F : Fun K "_law_is_integer" "_law_is_integer" s_l_is_integer f fd) (B : Blt mg) : FnOk P w K mg base CX0 1 f fd ["thing"] (spIsInt K) := by
  refine F.ok sc_l_is_integer (fun vs H Q E h => ?_) (fun cdv A outer s H vs Q E hr h => ?_)
  · obtain ⟨v, rfl, _⟩ := h
    rfl
  · obtain ⟨v, rfl, hv⟩ := h
    refine ⟨_, (pss_one (ps_ret (pe_and (pe_callB call_isi (by rfl) B.isinstance (by decide +kernel) (pa_cons (pv 0) (pa_cons (pe_bltn (v := .ty "int") (by rfl) B.int (by decide +kernel) rfl) pa_nil))) (pe_one (pe_not (pe_callB call_isi (by rfl) B.isinstance (by decide +kernel) (pa_cons (pv 0) (pa_cons (pe_bltn (v := .ty "bool") (by rfl) B.bool (by decide +kernel) rfl) pa_nil)))))))), ?_⟩
    rcases hv with ⟨n, rfl, q⟩ | ⟨⟨t, bi, bb, ty, e1, e2, e3⟩, q⟩
    · refine ⟨_, rfl, _, _, _, _, true, rfl, ClsV.ty _, .base (.int n), kit_ty (by decide +kernel), _, rfl, iteT ?_⟩
      refine ⟨_, rfl, _, _, _, _, false, rfl, ClsV.ty _, .base (.int n), kit_ty (by decide +kernel), _, rfl, q⟩
    · refine ⟨_, rfl, _, _, _, _, bi, rfl, ClsV.ty _, ty, e1, _, rfl, ?_⟩
      cases bi with
      | false => exact iteF q
      | true =>
        refine iteT ⟨_, rfl, _, _, _, _, bb, rfl, ClsV.ty _, ty, e2, _, rfl, ?_⟩
        have e3 : (!bb) = false := e3
        rw [e3]
        exact q
structure G2 (P : Program) (w : World) (K : PySem.W.Frag) (mg : Str → Option Value) (base : Heap) : Prop extends G1 P w K mg base where
  law_number : Cal P w K mg base CX0 "_law_number" 2 ["state"] spNumber
  law_is_integer : Cal P w K mg base CX0 "_law_is_integer" 1 ["thing"] (spIsInt K)
abbrev s_l_circle : Stmt := topS 21
theorem sc_l_circle : FnScope ["state", "count", "start", "many", "total", "facts", "at", "left", "k", "goal", "number"] ["state", "count", "start", "many", "total"] (defScope s_l_circle) := ⟨rfl, rfl, rfl, by decide +kernel, rfl, by decide +kernel, by decide +kernel⟩
theorem ok_circle {f : Addr} {fd : FuncData} (F : Fun K "_law_circle" "_law_circle" s_l_circle f fd) (B : Blt mg) (G : G2 P w K mg base) : FnOk P w K mg base CX0 3 f fd ["state", "count", "start", "many", "total"] spCircle := by
  refine F.ok sc_l_circle (fun vs H Q E h => ?_) (fun cdv A outer s H vs Q E hr h => ?_)
  · obtain ⟨p, s, count, start, many, total, rfl, _⟩ := h
    rfl
  · obtain ⟨p, s0, count, start, many, total, rfl, hP, c1, c8, st0, st1, m1, m5, q⟩ := h
    refine ⟨_, (pss_cons (ps_set (i := 5) sc_l_circle.nd rfl (Or.inl rfl) (pe_lst pa_nil))
    (pss_cons (ps_set (i := 6) sc_l_circle.nd rfl (Or.inl rfl) (pv 2))
    (pss_cons (ps_set (i := 7) sc_l_circle.nd rfl (Or.inl rfl) (pv 4))
    (pss_cons (ps_for PassesOwn.never rfl (pi_range1 (by rfl) B.range (pa_cons (pv 3) pa_nil)) (pg_name (i := 8) sc_l_circle.nd rfl (Or.inl rfl))
      (pss_cons (ps_set (i := 9) sc_l_circle.nd rfl (Or.inl rfl) (pe_cal G.law_draw (hr.mono (by decide)) pass0 (pa_cons (pv 0) (pa_cons (pv 1) pa_nil))))
      (pss_cons (ps_set (i := 10) sc_l_circle.nd rfl (Or.inl rfl) (pe_cal G.law_number (hr.mono (by decide)) pass0 (pa_cons (pv 0) pa_nil)))
      (pss_cut (ps_if (pt_cmpR op_eq (pv 8) (pe_op op_sub (pv 3) pe_int) (nomark _))
        (pss_cons (ps_set (i := 9) sc_l_circle.nd rfl (Or.inl rfl) (pv 2))
        (pss_one (ps_set (i := 10) sc_l_circle.nd rfl (Or.inl rfl) (pv 7))))
        pss_nil)
      (pss_cons (ps_set (i := 7) sc_l_circle.nd rfl (Or.inl rfl) (pe_op op_sub (pv 7) (pv 10)))
      (pss_cons (ps_expr (pe_bm PySem.F.plainAttrs_list PySem.F.slot_list_append PySem.F.type_list_append mt_append (pv 5) (pa_cons (pe_tup (pa_cons (pv 6) (pa_cons (pv 9) (pa_cons (pv 10) pa_nil)))) pa_nil)))
      (pss_one (ps_set (i := 6) sc_l_circle.nd rfl (Or.inl rfl) (pv 9)))))))))
    (pss_one (ps_ret (pv 5))))))), ?_⟩
    refine ⟨(by show 0 ≤ sizeLine; decide), fun q0 hq0 => ⟨_, rfl, _, rfl, _, rfl, _, rfl, (by omega), (by omega), for_range (n := many.toNat) (fun i σ H1 => (∃ (at_ left : Int) (a b c : Option V), σ = [some (.ref p), some (.int count), some (.int start), some (.int many), some (.int total), some (.ref q0), some (.int at_), some (.int left), a, b, c] ∧ 0 ≤ at_ ∧ at_ < count) ∧ ∃ us ts, H1 q0 = some (.lst us) ∧ TrAt H1 us ts ∧ us.length = i ∧ BF.Good count ts ∧ Pl H H1 p s0) ?_ ?_ ?_⟩⟩
    · exact ⟨⟨start, total, _, _, _, rfl, st0, st1⟩, [], [], upd_same, ⟨rfl, fun i v t a b => by simp at a⟩, rfl, fun t h => (nomatch h), (Pl.refl hP).new hq0⟩
    · rintro i σ H1 hi ⟨⟨at_, left, a, b, c, rfl, a0, a1⟩, us, ts, hq1, hT, hlen, hG, P1⟩
      have hqp : q0 ≠ p := fun z => hP.ne.1 (z ▸ hq0)
      refine ⟨_, rfl, _, rfl, p, s0, count, rfl, P1.now, (by omega), (by omega), fun goal H2 g0 g1 P2 => ⟨_, rfl, p, s0, rfl, P2.now, fun number H3 P3 => ?_⟩⟩
      have P13 := (P1.trans P2).trans P3
      have hq3 : H3 q0 = some (.lst us) := P3.keep (P2.keep hq1 hqp) hqp
      have hT3 : TrAt H3 us ts := hT.tk fun t xs e => (P2.trans P3).ev.tup e
      refine ⟨fun σ H4 => (∃ (goal number : Int) (k : Option V), σ = [some (.ref p), some (.int count), some (.int start), some (.int many), some (.int total), some (.ref q0), some (.int at_), some (.int left), k, some (.int goal), some (.int number)] ∧ 0 ≤ goal ∧ goal < count) ∧ H4 = H3, ?_, ?_⟩
      · refine ⟨_, rfl, _, rfl, _, _, rfl, rfl, rfl, _, rfl, ?_⟩
        refine ite2 (fun c => ?_) (fun c => ?_)
        · exact ⟨_, rfl, _, rfl, ⟨_, _, _, rfl, st0, st1⟩, rfl⟩
        · exact ⟨⟨_, _, _, rfl, g0, g1⟩, rfl⟩
      · rintro σ H4 ⟨⟨goal, number, k, rfl, g0, g1⟩, rfl⟩
        refine ⟨_, rfl, _, rfl, _, _, rfl, rfl, _, rfl, .inl ⟨rfl, _, SqL.of hq3⟩, _, rfl, _, rfl, _, rfl, (by show 3 ≤ sizeLine; decide), fun e he => ?_⟩
        have se : Same H4 (upd H4 e (.tup [.int at_, .int goal, .int number])) := sameAt (Same.refl _) he
        refine ⟨q0, us, _, rfl, rfl, se _ _ hq3, small1000 (by omega), ?_⟩
        refine ⟨_, rfl, ⟨goal, _, _, _, _, rfl, g0, g1⟩, us ++ [.ref e], ts ++ [(at_, goal, number)], upd_same, ?_, by rw [List.length_append]; show us.length + 1 = i + 1; omega, ?_, (P13.new he).lstAt hq0 (se _ _ hq3)⟩
        · refine TrAt.tk (TrAt.snoc (t := (at_, goal, number)) (hT3.tk fun t xs h => se _ _ h) upd_same) fun t xs h => ?_
          rw [upd_ne (ne_of h (se _ _ hq3) (by intro z; cases z))]
          exact h
        · intro t ht
          rcases List.mem_append.mp ht with h | h
          · exact hG t h
          · rw [List.mem_singleton.mp h]
            exact ⟨a0, a1, g0, g1⟩
    · rintro σ H1 ⟨⟨at_, left, a, b, c, rfl, a0, a1⟩, us, ts, hq1, hT, hlen, hG, P1⟩
      exact ⟨_, rfl, q q0 us ts H1 P1 hq0 hq1 hT hlen hG⟩
end
end Ash

set_option Elab.async false
set_option linter.all false
set_option maxRecDepth 100000
set_option maxHeartbeats 4000000
namespace Ash
open PySem PySem.Spec PyProof.Rows L2
open C8 (pss_cut)
/-- indexes that stand in a tuple -/
structure Ix (H : Hp) (us : List V) (ts : List T3) (xs : List V) (ns : List Nat) : Prop where
  ne : ns ≠ []
  lt : ∀ n ∈ ns, n < ts.length
  at_ : ∀ (i : Nat) n, ns[i]? = some n → xs[i]? = some (.int (n : Int))
  len : xs.length = ns.length
theorem Ix.prev {H : Hp} {us : List V} {ts : List T3} {xs : List V} {ns : List Nat} (h : Ix H us ts xs ns) {i : Nat} (hi : i < ns.length) : ∃ m, m < ts.length ∧ atI xs ((0 : Int) + (i : Int) - 1) = some (.int (m : Int)) ∧ (ts.getD m (0, 0, 0)).2.1 = BF.prv (BF.facts ts ns) i := by
  cases i with
  | zero =>
    obtain ⟨ns', z, e⟩ := list_last h.ne
    obtain ⟨xs', y, hy⟩ := list_last (l := xs) (fun q => by have := h.len; rw [q] at this; rw [← this] at hi; exact absurd hi (by simp))
    have hl : xs'.length = ns'.length := by
      have := h.len
      rw [hy, e, List.length_append, List.length_append] at this
      simpa using this
    have h1 := h.at_ ns'.length z (by rw [e, List.getElem?_append_right (Nat.le_refl _), Nat.sub_self]; rfl)
    rw [hy, ← hl, List.getElem?_append_right (Nat.le_refl _), Nat.sub_self] at h1
    cases h1
    refine ⟨z, h.lt z (by rw [e]; exact List.mem_append.mpr (.inr List.mem_cons_self)), ?_, ?_⟩
    · rw [show ((0 : Int) + ((0 : Nat) : Int) - 1) = -1 from rfl, hy]
      exact atI_last _ _
    · show _ = ((BF.facts ts ns).getLast?.getD (0, 0, 0)).2.1
      unfold BF.facts
      rw [e, List.map_append, List.map_cons, List.map_nil, List.getLast?_append]
      rfl
  | succ i =>
    have hi' : i < ns.length := by omega
    have e : ns[i]? = some ns[i] := List.getElem?_eq_getElem hi'
    refine ⟨ns[i], h.lt _ (List.getElem_mem hi'), ?_, ?_⟩
    · rw [show ((0 : Int) + ((i + 1 : Nat) : Int) - 1) = (i : Int) by omega]
      exact atI_nat (h.at_ i _ e)
    · have hm := h.lt _ (List.getElem_mem hi')
      exact (BF.prv_step (BF.facts_at e (by rw [List.getD_eq_getElem?_getD, List.getElem?_eq_getElem hm]; rfl))).symm
section
variable {P : Program} {w : World} {K : PySem.W.Frag} {mg : Str → Option Value} {base : Heap}
abbrev s_l_due : Stmt := topS 22
theorem sc_l_due : FnScope ["facts", "thing", "place", "total", "k"] ["facts", "thing"] (defScope s_l_due) := ⟨rfl, rfl, rfl, by decide +kernel, rfl, by decide +kernel, by decide +kernel⟩
theorem ok_due {f : Addr} {fd : FuncData} (F : Fun K "_law_due" "_law_due" s_l_due f fd) (B : Blt mg) (G : G2 P w K mg base) : FnOk P w K mg base CX0 2 f fd ["facts", "thing"] (spDue K) := by
  refine F.ok sc_l_due (fun vs H Q E h => ?_) (fun cdv A outer s H vs Q E hr h => ?_)
  · obtain ⟨f, us, ts, v, o, rfl, _⟩ := h
    rfl
  · obtain ⟨f, us, ts, v, o, rfl, hF, hT, q⟩ := h
    refine ⟨_, (pss_cons (ps_if (PW.pt (pw_or (pt_not (pt_val (pe_callB call_isi (by rfl) B.isinstance (by decide +kernel) (pa_cons (pv 1) (pa_cons (pe_bltn (v := .ty "tuple") (by rfl) B.tuple (by decide +kernel) rfl) pa_nil))))) (pw_or1 (pt_cmpR op_eq (pe_callB call_len_seq (by rfl) B.len (by decide +kernel) (pa_cons (pv 1) pa_nil)) pe_int (nomark _)))))
      (pss_one (ps_ret pe_bl))
      pss_nil)
    (pss_cut (ps_for PassesOwn.never rfl (pi_tup (pv 1)) (pg_name (i := 2) sc_l_due.nd rfl (Or.inl rfl))
      (pss_one (ps_if (PW.pt (pw_or (pt_not (pt_val (pe_cal G.law_is_integer (hr.mono (by decide)) pass0 (pa_cons (pv 2) pa_nil)))) (pw_or (pt_cmpR op_lt (pv 2) pe_int (nomark _)) (pw_or1 (pt_cmpR op_ge (pv 2) (pe_callB call_len_seq (by rfl) B.len (by decide +kernel) (pa_cons (pv 0) pa_nil)) (nomark _))))))
        (pss_one (ps_ret pe_bl))
        pss_nil)))
    (pss_cons (ps_set (i := 3) sc_l_due.nd rfl (Or.inl rfl) pe_int)
    (pss_cons (ps_for PassesOwn.never rfl (pi_range1 (by rfl) B.range (pa_cons (pe_callB call_len_seq (by rfl) B.len (by decide +kernel) (pa_cons (pv 1) pa_nil)) pa_nil)) (pg_name (i := 4) sc_l_due.nd rfl (Or.inl rfl))
      (pss_cons (ps_if (pt_cmpR op_ne (pe_ix ix_tup (pe_ix ix_list (pv 0) (pe_ix ix_tup (pv 1) (pe_op op_sub (pv 4) pe_int) (fun _ _ => rfl)) (fun _ _ => rfl)) pe_int (fun _ _ => rfl)) (pe_ix ix_tup (pe_ix ix_list (pv 0) (pe_ix ix_tup (pv 1) (pv 4) (fun _ _ => rfl)) (fun _ _ => rfl)) pe_int (fun _ _ => rfl)) (nomark _))
        (pss_one (ps_ret pe_bl))
        pss_nil)
      (pss_one (ps_set (i := 3) sc_l_due.nd rfl (Or.inl rfl) (pe_op op_add (pv 3) (pe_ix ix_tup (pe_ix ix_list (pv 0) (pe_ix ix_tup (pv 1) (pv 4) (fun _ _ => rfl)) (fun _ _ => rfl)) pe_int (fun _ _ => rfl)))))))
    (pss_one (ps_ret (pe_cmpR op_lt (pv 3) pe_int (nomark _)))))))), ?_⟩
    cases o with
    | none =>
      obtain ⟨t, ty, e⟩ := hT
      exact ⟨_, rfl, _, _, _, _, false, rfl, ClsV.ty _, ty, e, _, rfl, iteT (iteT q)⟩
    | some ds =>
      obtain ⟨t, xs, rfl, ty, hS, hl, h1000, hx⟩ := hT
      refine ⟨_, rfl, _, _, _, _, true, rfl, ClsV.ty _, ty, kit_ty (by decide +kernel), _, rfl, iteF ?_⟩
      refine ⟨_, rfl, t, _, rfl, .inr hS, rfl, _, rfl, ?_⟩
      refine ite2 (fun c0 => ?_) (fun c0 => ?_)
      · have c0 : V.int xs.length = .int 0 := of_decide_eq_true c0
        have : ds = [] := by
          refine List.eq_nil_of_length_eq_zero ?_
          rw [← hl]
          injection c0 with c0
          omega
        subst this
        exact q
      · have c0 : ds ≠ [] := fun z => c0 (decide_eq_true (by rw [hl, z]; rfl))
        have ful : us.length = ts.length := hF.t.1
        refine ⟨fun σ H1 => (∃ a b c, σ = [some (.ref f), some (.ref t), a, b, c]) ∧ H1 = H ∧ ∀ (j : Nat) d, ds[j]? = some d → BF.inR ts.length d = true, ?_, ?_⟩
        · refine ⟨_, rfl, t, rfl, ⟨_, hS⟩, for_tup (xs := xs) (fun i σ H1 => (∃ a b c, σ = [some (.ref f), some (.ref t), a, b, c]) ∧ H1 = H ∧ ∀ (j : Nat) d, j < i → ds[j]? = some d → BF.inR ts.length d = true) ⟨⟨_, _, _, rfl⟩, rfl, fun _ _ h => absurd h (by omega)⟩ (fun i σ H1 _ hv => by rw [hv.2.1]; exact hS) ?_ ?_⟩
          · rintro i x σ H1 hi ⟨⟨a, b, c, rfl⟩, rfl, ha⟩
            have hil : i < ds.length := by rw [← hl]; exact (List.getElem?_eq_some_iff.mp hi).1
            obtain ⟨dd, hd⟩ : ∃ dd, ds[i]? = some dd := ⟨_, List.getElem?_eq_getElem hil⟩
            have hxi := hx i x dd hi hd
            have bad : BF.inR ts.length dd = false → Q (.bl false) H1 := fun z => by
              have := q
              rw [BF.due_bad hd z] at this
              exact this
            refine ⟨_, rfl, _, rfl, ?_⟩
            cases dd with
            | none => exact .inr ⟨hxi, _, rfl, iteT (iteT (bad rfl))⟩
            | some m =>
              obtain rfl : x = .int m := hxi
              refine .inl ⟨m, rfl, _, rfl, iteF ⟨_, rfl, _, _, rfl, rfl, _, rfl, ?_⟩⟩
              refine ite2 (fun c1 => ?_) (fun c1 => ?_)
              · have c1 : m < 0 := of_decide_eq_true c1
                exact iteT (bad (decide_eq_false fun z => by omega))
              · have c1 : ¬ m < 0 := fun z => c1 (decide_eq_true z)
                refine ⟨_, rfl, _, rfl, f, _, rfl, .inl (SqL.of hF.l), _, _, rfl, rfl, _, rfl, ?_⟩
                rw [ful]
                refine ite2 (fun c2 => ?_) (fun c2 => ?_)
                · have c2 : m ≥ ts.length := of_decide_eq_true c2
                  exact bad (decide_eq_false fun z => by omega)
                · have c2 : ¬ m ≥ ts.length := fun z => c2 (decide_eq_true z)
                  refine ⟨⟨_, _, _, rfl⟩, rfl, fun j d' hj hd' => ?_⟩
                  by_cases e : j = i
                  · rw [e, hd] at hd'
                    cases hd'
                    exact decide_eq_true ⟨by omega, by omega⟩
                  · exact ha j d' (by omega) hd'
          · rintro σ H1 ⟨hs, rfl, ha⟩
            exact ⟨hs, rfl, fun j d hd => ha j d (by rw [hl]; exact (List.getElem?_eq_some_iff.mp hd).1) hd⟩
        · rintro σ H1 ⟨⟨a, b, c, rfl⟩, rfl, ha⟩
          obtain ⟨ns, rfl, hn⟩ := BF.all_in ha
          have n0 : ns ≠ [] := fun z => c0 (by rw [z]; rfl)
          rw [BF.due_in n0 hn] at q
          have I : Ix H1 us ts xs ns := ⟨n0, hn, fun i n hni => by
            have hi : i < xs.length := by rw [hl, List.length_map]; exact (List.getElem?_eq_some_iff.mp hni).1
            have := hx i xs[i] (some (n : Int)) (List.getElem?_eq_getElem hi) (by rw [List.getElem?_map, hni]; rfl)
            rw [List.getElem?_eq_getElem hi]
            exact congrArg some this, by rw [hl, List.length_map]⟩
          have hat : ∀ n, n < ts.length → ∃ p, us[n]? = some (.ref p) ∧ H1 p = some (.tup (tv (ts.getD n (0, 0, 0)))) := fun n this => by
            have e : ts[n]? = some (ts.getD n (0, 0, 0)) := by rw [List.getD_eq_getElem?_getD, List.getElem?_eq_getElem this]; rfl
            exact hF.t.at e
          refine ⟨_, rfl, t, _, rfl, .inr hS, _, rfl, (by omega), (by omega), for_range (n := xs.length) (fun i σ H2 => (∃ a c, σ = [some (.ref f), some (.ref t), a, some (.int (BF.sum3 ((BF.facts ts ns).take i))), c]) ∧ H2 = H1 ∧ BF.chn (BF.prv (BF.facts ts ns) 0) (BF.facts ts ns) = BF.chn (BF.prv (BF.facts ts ns) i) ((BF.facts ts ns).drop i)) ?_ ?_ ?_⟩
          · exact ⟨⟨_, _, rfl⟩, rfl, rfl⟩
          · rintro i σ H2 hi ⟨⟨a, c, rfl⟩, rfl, hch⟩
            have hil : i < ns.length := by rw [← I.len]; exact hi
            obtain ⟨m0, hm0, hm1, hm2⟩ := I.prev hil
            obtain ⟨p0, e0, e1⟩ := hat m0 hm0
            obtain ⟨m, hm⟩ : ∃ m, ns[i]? = some m := ⟨_, List.getElem?_eq_getElem hil⟩
            have hmm := hn m (List.mem_of_getElem? hm)
            obtain ⟨p1, e2, e3⟩ := hat m hmm
            have hft : (BF.facts ts ns)[i]? = some (ts.getD m (0, 0, 0)) := BF.facts_at hm (by rw [List.getD_eq_getElem?_getD, List.getElem?_eq_getElem hmm]; rfl)
            have hmi : atI xs ((0 : Int) + (i : Int)) = some (.int (m : Int)) := by rw [show ((0 : Int) + (i : Int)) = (i : Int) by omega]; exact atI_nat (I.at_ i m hm)
            rw [BF.chn_step hft] at hch
            refine ⟨_, rfl, _, rfl, _, rfl, _, _, rfl, rfl, t, _, _, _, rfl, rfl, hS, hm1, f, _, _, _, rfl, rfl, SqL.of hF.l, atI_nat e0, p0, _, _, _, rfl, rfl, SqT.of e1, rfl, _, rfl, _, rfl, _, rfl, t, _, _, _, rfl, rfl, hS, hmi, f, _, _, _, rfl, rfl, SqL.of hF.l, atI_nat e2, p1, _, _, _, rfl, rfl, SqT.of e3, rfl, rfl, _, rfl, ?_⟩
            rw [hm2]
            generalize ts.getD m (0, 0, 0) = ti at e3 hft hch ⊢
            by_cases c1 : BF.prv (BF.facts ts ns) i = ti.1
            · rw [c1] at hch ⊢
              rw [decide_eq_true (rfl : ti.1 = ti.1), Bool.true_and] at hch
              rw [decide_eq_true (rfl : V.int ti.1 = V.int ti.1)]
              refine iteF ⟨_, rfl, _, rfl, _, rfl, _, rfl, t, _, _, _, rfl, rfl, hS, hmi, f, _, _, _, rfl, rfl, SqL.of hF.l, atI_nat e2, p1, _, _, _, rfl, rfl, SqT.of e3, rfl, _, _, rfl, rfl, ⟨a, some (.int ((0 : Int) + (i : Int))), ?_⟩, rfl, ?_⟩
              · rw [BF.sum3_step hft]
                rfl
              · rw [hch, BF.prv_step hft]
            · rw [decide_eq_false (fun z : V.int (BF.prv (BF.facts ts ns) i) = V.int ti.1 => c1 (by injection z with z))]
              refine iteT ?_
              have := q
              rw [hch, decide_eq_false c1, Bool.false_and, Bool.false_and] at this
              exact this
          · rintro σ H2 ⟨⟨a, c, rfl⟩, rfl, hch⟩
            have hfl : (BF.facts ts ns).length = xs.length := by unfold BF.facts; rw [List.length_map, I.len]
            rw [← hfl, List.drop_length] at hch
            rw [← hfl, List.take_length]
            refine ⟨_, rfl, _, _, rfl, rfl, ?_⟩
            have := q
            rw [hch] at this
            exact this
end
end Ash

set_option Elab.async false
set_option linter.all false
set_option maxRecDepth 100000
set_option maxHeartbeats 4000000
namespace Ash
open PySem PySem.Spec PyProof.Rows L2
open C8 (pss_cut)
/-! ### things that are none -/
theorem th_tup {K : PySem.W.Frag} {H : Hp} {a : Addr} {xs : List V} {ds : List (Option Int)} (h : H a = some (.tup xs)) (hl : xs.length = ds.length) (hn : xs.length ≤ 1000) (hx : ∀ (i : Nat) x d, xs[i]? = some x → ds[i]? = some d → ItAt K H x d) : ThAt K H (.ref a) (some ds) :=
  ⟨a, xs, rfl, .base (.tup h), SqT.of h, hl, hn, hx⟩
theorem ni_tup {K : PySem.W.Frag} {H : Hp} {v : V} (h : TyX K H v (.type "tuple")) : NotInt K H v := ⟨_, false, false, h, kit_ty (by decide +kernel), kit_ty (by decide +kernel), rfl⟩
theorem ni_lst {K : PySem.W.Frag} {H : Hp} {v : V} (h : TyX K H v (.type "list")) : NotInt K H v := ⟨_, false, false, h, kit_ty (by decide +kernel), kit_ty (by decide +kernel), rfl⟩
theorem ni_dct {K : PySem.W.Frag} {H : Hp} {v : V} (h : TyX K H v (.type "dict")) : NotInt K H v := ⟨_, false, false, h, kit_ty (by decide +kernel), kit_ty (by decide +kernel), rfl⟩
theorem ni_str {K : PySem.W.Frag} {H : Hp} {x : Str} : NotInt K H (.str x) := ⟨_, false, false, .base (.str x), kit_ty (by decide +kernel), kit_ty (by decide +kernel), rfl⟩
theorem ni_non {K : PySem.W.Frag} {H : Hp} : NotInt K H .non := ⟨_, false, false, .base .non, kit_ty (by decide +kernel), kit_ty (by decide +kernel), rfl⟩
theorem ni_bl {K : PySem.W.Frag} {H : Hp} {b : Bool} : NotInt K H (.bl b) := ⟨_, true, true, .base (.bl b), kit_ty (by decide +kernel), kit_ty (by decide +kernel), rfl⟩
theorem nt_lst {K : PySem.W.Frag} {H : Hp} {v : V} (h : TyX K H v (.type "list")) : ThAt K H v none := ⟨_, h, kit_ty (by decide +kernel)⟩
theorem nt_dct {K : PySem.W.Frag} {H : Hp} {v : V} (h : TyX K H v (.type "dict")) : ThAt K H v none := ⟨_, h, kit_ty (by decide +kernel)⟩
theorem nt_str {K : PySem.W.Frag} {H : Hp} {x : Str} : ThAt K H (.str x) none := ⟨_, .base (.str x), kit_ty (by decide +kernel)⟩
theorem nt_non {K : PySem.W.Frag} {H : Hp} : ThAt K H .non none := ⟨_, .base .non, kit_ty (by decide +kernel)⟩
theorem nt_bl {K : PySem.W.Frag} {H : Hp} {b : Bool} : ThAt K H (.bl b) none := ⟨_, .base (.bl b), kit_ty (by decide +kernel)⟩
theorem nt_int {K : PySem.W.Frag} {H : Hp} {b : Int} : ThAt K H (.int b) none := ⟨_, .base (.int b), kit_ty (by decide +kernel)⟩
theorem th_nil {K : PySem.W.Frag} {H : Hp} {a : Addr} (h : H a = some (.tup [])) : ThAt K H (.ref a) (some []) := th_tup h rfl (by decide) fun i x d h _ => by simp at h
/-- one item -/
theorem th_one {K : PySem.W.Frag} {H : Hp} {a : Addr} {x : V} (h : H a = some (.tup [x])) (hx : NotInt K H x) : ThAt K H (.ref a) (some [none]) := th_tup h rfl (by show 1 ≤ 1000; decide) fun i y d h1 h2 => by
  cases i with
  | zero => cases h1; cases h2; exact hx
  | succ i => simp at h1
theorem th_two {K : PySem.W.Frag} {H : Hp} {a : Addr} {x y : V} (h : H a = some (.tup [x, y])) (hx : NotInt K H x) (hy : NotInt K H y) : ThAt K H (.ref a) (some [none, none]) := th_tup h rfl (by show 2 ≤ 1000; decide) fun i z d h1 h2 => by
  rcases i with _ | _ | i
  · cases h1; cases h2; exact hx
  · cases h1; cases h2; exact hy
  · simp at h1
theorem th_four {K : PySem.W.Frag} {H : Hp} {a : Addr} {x y : V} {m n : Int} (h : H a = some (.tup [x, .int m, .int n, y])) (hx : NotInt K H x) (hy : NotInt K H y) : ThAt K H (.ref a) (some [none, some m, some n, none]) := th_tup h rfl (by show 4 ≤ 1000; decide) fun i z d h1 h2 => by
  rcases i with _ | _ | _ | _ | i
  · cases h1; cases h2; exact hx
  · cases h1; cases h2; rfl
  · cases h1; cases h2; rfl
  · cases h1; cases h2; exact hy
  · simp at h1
theorem th_ints {K : PySem.W.Frag} {H : Hp} {a : Addr} {ns : List Int} (h : H a = some (.tup (ns.map V.int))) (hn : ns.length ≤ 1000) : ThAt K H (.ref a) (some (ns.map some)) := th_tup h (by rw [List.length_map, List.length_map]) (by rw [List.length_map]; exact hn) fun i y d h1 h2 => by
  rw [List.getElem?_map] at h1 h2
  cases e : ns[i]? with
  | none => rw [e] at h1; cases h1
  | some n => rw [e] at h1 h2; cases h1; cases h2; rfl
def spDeep (K : PySem.W.Frag) : Sp := fun vs H Q _ => vs = [] ∧ ∀ v ds H', Same H H' → ThAt K H' v (some ds) → Q v H'
def spStrange (K : PySem.W.Frag) : Sp := fun vs H Q _ => ∃ (p s : Addr), vs = [.ref p] ∧ PoolAt H p s ∧ ∀ v o H', Pl H H' p s → ThAt K H' v o → Q v H'
/-- a deep thing -/
def Dpp (K : PySem.W.Frag) (H : Hp) (v : V) : Prop := (∃ a xs, v = .ref a ∧ H a = some (.lst xs)) ∨ (∃ a, v = .ref a ∧ H a = some (.tup [])) ∨ (∃ a x, v = .ref a ∧ H a = some (.tup [x]) ∧ NotInt K H x) ∨ (∃ a kvs, v = .ref a ∧ H a = some (.dK kvs))
theorem Dpp.ni {K : PySem.W.Frag} {H : Hp} {v : V} (h : Dpp K H v) : NotInt K H v := by
  rcases h with ⟨a, xs, rfl, h⟩ | ⟨a, rfl, h⟩ | ⟨a, x, rfl, h, _⟩ | ⟨a, kvs, rfl, h⟩
  · exact ni_lst (.base (.lst h))
  · exact ni_tup (.base (.tup h))
  · exact ni_tup (.base (.tup h))
  · exact ni_dct (.base (.dK h))
theorem Dpp.th {K : PySem.W.Frag} {H : Hp} {v : V} (h : Dpp K H v) : ∃ o, ThAt K H v o := by
  rcases h with ⟨a, xs, rfl, h⟩ | ⟨a, rfl, h⟩ | ⟨a, x, rfl, h, hx⟩ | ⟨a, kvs, rfl, h⟩
  · exact ⟨_, nt_lst (.base (.lst h))⟩
  · exact ⟨_, th_nil h⟩
  · exact ⟨_, th_one h hx⟩
  · exact ⟨_, nt_dct (.base (.dK h))⟩
theorem Dpp.ev {K : PySem.W.Frag} {H H' : Hp} {v : V} (h : Dpp K H v) (s : Ev H H') : Dpp K H' v := by
  rcases h with ⟨a, xs, rfl, h⟩ | ⟨a, rfl, h⟩ | ⟨a, x, rfl, h, hx⟩ | ⟨a, kvs, rfl, h⟩
  · rcases s _ _ h with h1 | ⟨_, ys, _, h1⟩
    · exact .inl ⟨a, xs, rfl, h1⟩
    · exact .inl ⟨a, ys, rfl, h1⟩
  · exact .inr (.inl ⟨a, rfl, s.tup h⟩)
  · exact .inr (.inr (.inl ⟨a, x, rfl, s.tup h, hx.ev s⟩))
  · rcases s _ _ h with h1 | ⟨_, _, z, _⟩
    · exact .inr (.inr (.inr ⟨a, kvs, rfl, h1⟩))
    · cases z
section
variable {P : Program} {w : World} {K : PySem.W.Frag} {mg : Str → Option Value} {base : Heap}
abbrev s_l_deep : Stmt := topS 20
theorem sc_l_deep : FnScope ["thing", "k"] [] (defScope s_l_deep) := ⟨rfl, rfl, rfl, by decide +kernel, rfl, by decide +kernel, by decide +kernel⟩
theorem ok_deep {f : Addr} {fd : FuncData} (F : Fun K "_law_deep" "_law_deep" s_l_deep f fd) (B : Blt mg) : FnOk P w K mg base CX0 1 f fd [] (spDeep K) := by
  refine F.ok sc_l_deep (fun vs H Q E h => ?_) (fun cdv A outer s H vs Q E hr h => ?_)
  · obtain ⟨rfl, _⟩ := h
    rfl
  · obtain ⟨rfl, q⟩ := h
    refine ⟨_, (pss_cons (ps_set (i := 0) sc_l_deep.nd rfl (Or.inl rfl) (pe_tup pa_nil))
    (pss_cons (ps_for PassesOwn.never rfl (pi_range1 (by rfl) B.range (pa_cons pe_int pa_nil)) (pg_name (i := 1) sc_l_deep.nd rfl (Or.inl rfl))
      (pss_one (ps_set (i := 0) sc_l_deep.nd rfl (Or.inl rfl) (pe_ix ix_list (pe_lst (pa_cons (pe_tup (pa_cons pe_str (pa_cons (pe_tup (pa_cons (pv 0) pa_nil)) pa_nil))) (pa_cons (pe_tup (pa_cons (pv 0) pa_nil)) (pa_cons (pe_tup (pa_cons pe_str (pa_cons pe_int (pa_cons pe_int (pa_cons (pe_tup (pa_cons (pv 0) pa_nil)) pa_nil))))) (pa_cons (pe_tup (pa_cons pe_str (pa_cons (pv 0) pa_nil))) pa_nil))))) (pe_op op_mod (pe_callTy call_intI (by rfl) B.int (by decide +kernel) (pa_cons (pv 1) pa_nil)) pe_int) (fun _ _ => rfl)))))
    (pss_one (ps_ret (pv 0))))), ?_⟩
    refine ⟨(by show 0 ≤ sizeLine; decide), fun t0 ht0 => ⟨_, rfl, (by decide), (by decide), for_range (n := 5000) (fun i σ H1 => (∃ v k ds, σ = [some v, k] ∧ ThAt K H1 v (some ds)) ∧ Same H H1) ?_ ?_ ?_⟩⟩
    · exact ⟨⟨_, _, _, rfl, th_nil upd_same⟩, sameAt (Same.refl _) ht0⟩
    · rintro i σ H1 hi ⟨⟨v, k, ds, rfl, hT⟩, s1⟩
      obtain ⟨t, xs, rfl, ty, _⟩ := hT
      refine ⟨_, rfl, (by show 1 ≤ sizeLine; decide), fun a1 h1 => ⟨(by show 2 ≤ sizeLine; decide), fun a2 h2 => ⟨_, rfl, (by show 1 ≤ sizeLine; decide), fun a3 h3 => ⟨_, rfl, (by show 1 ≤ sizeLine; decide), fun a4 h4 => ⟨(by show 4 ≤ sizeLine; decide), fun a5 h5 => ⟨_, rfl, (by show 2 ≤ sizeLine; decide), fun a6 h6 => ⟨(by show 4 ≤ sizeLine; decide), fun l hl => ?_⟩⟩⟩⟩⟩⟩⟩
      have S1 := sameAt (Same.refl _) h1 (o := .tup [.ref t])
      have S2 := sameAt (Same.refl _) h2 (o := .tup [.str "cases", .ref a1])
      have S3 := sameAt (Same.refl _) h3 (o := .tup [.ref t])
      have S4 := sameAt (Same.refl _) h4 (o := .tup [.ref t])
      have S5 := sameAt (Same.refl _) h5 (o := .tup [.str "beside", .int 1, .int 0, .ref a4])
      have S6 := sameAt (Same.refl _) h6 (o := .tup [.str "ring", .ref t])
      have S7 := sameAt (Same.refl _) hl (o := .lst [.ref a2, .ref a3, .ref a5, .ref a6])
      have e1 := (((((S2.trans S3).trans S4).trans S5).trans S6).trans S7) _ _ (upd_same (a := a1))
      have e2 := ((((S3.trans S4).trans S5).trans S6).trans S7) _ _ (upd_same (a := a2))
      have e3 := (((S4.trans S5).trans S6).trans S7) _ _ (upd_same (a := a3))
      have e4 := ((S5.trans S6).trans S7) _ _ (upd_same (a := a4))
      have e5 := (S6.trans S7) _ _ (upd_same (a := a5))
      have e6 := S7 _ _ (upd_same (a := a6))
      have S := (((((S1.trans S2).trans S3).trans S4).trans S5).trans S6).trans S7
      have ty7 := tyx_ev ty (Ev.same S)
      obtain ⟨j, hj, j4⟩ : ∃ j : Nat, ((0 : Int) + (i : Int)) % 4 = (j : Int) ∧ j < 4 := ⟨(((0 : Int) + (i : Int)) % 4).toNat, by omega, by omega⟩
      have it : ∃ v', ([V.ref a2, .ref a3, .ref a5, .ref a6] : List V)[j]? = some v' ∧ ∃ ds, ThAt K (upd (upd (upd (upd (upd (upd (upd H1 a1 (.tup [.ref t])) a2 (.tup [.str "cases", .ref a1])) a3 (.tup [.ref t])) a4 (.tup [.ref t])) a5 (.tup [.str "beside", .int 1, .int 0, .ref a4])) a6 (.tup [.str "ring", .ref t])) l (.lst [.ref a2, .ref a3, .ref a5, .ref a6])) v' (some ds) := by
        rcases j with _ | _ | _ | _ | j
        · exact ⟨_, rfl, _, th_two e2 ni_str (ni_tup (.base (.tup e1)))⟩
        · exact ⟨_, rfl, _, th_one e3 (ni_tup ty7)⟩
        · exact ⟨_, rfl, _, th_four e5 ni_str (ni_tup (.base (.tup e4)))⟩
        · exact ⟨_, rfl, _, th_two e6 ni_str (ni_tup ty7)⟩
        · omega
      obtain ⟨v', h7, ds', h8⟩ := it
      refine ⟨_, rfl, _, rfl, _, _, rfl, rfl, (by show (0 : Int) < 4; decide), l, _, _, v', rfl, rfl, SqL.of upd_same, (by rw [hj]; exact atI_nat h7), ⟨v', _, ds', rfl, h8⟩, s1.trans S⟩
    · rintro σ H1 ⟨⟨v, k, ds, rfl, hT⟩, s1⟩
      exact ⟨_, rfl, q _ _ _ s1 hT⟩
end
end Ash

set_option Elab.async false
set_option linter.all false
set_option maxRecDepth 100000
set_option maxHeartbeats 4000000
namespace Ash
open PySem PySem.Spec PyProof.Rows L2
open C8 (pss_cut)
section
variable {P : Program} {w : World} {K : PySem.W.Frag} {mg : Str → Option Value} {base : Heap}
abbrev s_l_strange : Stmt := topS 19
theorem sc_l_strange : FnScope ["state", "deep", "k", "things"] ["state"] (defScope s_l_strange) := ⟨rfl, rfl, rfl, by decide +kernel, rfl, by decide +kernel, by decide +kernel⟩
theorem ok_strange {f : Addr} {fd : FuncData} (F : Fun K "_law_strange" "_law_strange" s_l_strange f fd) (B : Blt mg) (G : G1 P w K mg base) : FnOk P w K mg base CX0 2 f fd ["state"] (spStrange K) := by
  refine F.ok sc_l_strange (fun vs H Q E h => ?_) (fun cdv A outer s H vs Q E hr h => ?_)
  · obtain ⟨p, s, rfl, _⟩ := h
    rfl
  · obtain ⟨p, s0, rfl, hP, q⟩ := h
    refine ⟨_, (pss_cons (ps_set (i := 1) sc_l_strange.nd rfl (Or.inl rfl) (pe_ix ix_list (pe_lst (pa_cons (pe_lst pa_nil) (pa_cons (pe_tup pa_nil) (pa_cons pe_dnewK pa_nil)))) (pe_cal G.law_draw (hr.mono (by decide)) pass0 (pa_cons (pv 0) (pa_cons pe_int pa_nil))) (fun _ _ => rfl)))
    (pss_cons (ps_for PassesOwn.never rfl (pi_range1 (by rfl) B.range (pa_cons pe_int pa_nil)) (pg_name (i := 2) sc_l_strange.nd rfl (Or.inl rfl))
      (pss_one (ps_if (pt_val (pe_callB call_isi (by rfl) B.isinstance (by decide +kernel) (pa_cons (pv 1) (pa_cons (pe_bltn (v := .ty "list") (by rfl) B.list (by decide +kernel) rfl) pa_nil))))
        (pss_one (ps_set (i := 1) sc_l_strange.nd rfl (Or.inl rfl) (pe_lst (pa_cons (pv 1) pa_nil))))
        (pss_one (ps_if (pt_val (pe_callB call_isi (by rfl) B.isinstance (by decide +kernel) (pa_cons (pv 1) (pa_cons (pe_bltn (v := .ty "tuple") (by rfl) B.tuple (by decide +kernel) rfl) pa_nil))))
          (pss_one (ps_set (i := 1) sc_l_strange.nd rfl (Or.inl rfl) (pe_tup (pa_cons (pv 1) pa_nil))))
          (pss_one (ps_set (i := 1) sc_l_strange.nd rfl (Or.inl rfl) (pe_disp (pps_cons pe_str (pv 1) pps_nil) (by rfl) (by rfl) (fun z => by cases z) (by decide)))))))))
    (pss_cons (ps_set (i := 3) sc_l_strange.nd rfl (Or.inl rfl) (pe_lst (pa_cons pe_non (pa_cons pe_bl (pa_cons pe_bl (pa_cons pe_str (pa_cons pe_str (pa_cons pe_str (pa_cons pe_str (pa_cons (pe_tup pa_nil) (pa_cons (pe_tup (pa_cons pe_int (pa_cons pe_int pa_nil))) (pa_cons (pe_tup (pa_cons pe_int (pa_cons pe_int (pa_cons pe_int pa_nil)))) (pa_cons (pe_lst (pa_cons pe_int (pa_cons pe_int pa_nil))) (pa_cons pe_dnewK (pa_cons (pe_disp (pps_cons pe_str (pe_lst (pa_cons pe_int pa_nil)) pps_nil) (by rfl) (by rfl) (fun z => by cases z) (by decide)) (pa_cons (pv 1) pa_nil))))))))))))))))
    (pss_one (ps_ret (pe_ix ix_list (pv 3) (pe_cal G.law_draw (hr.mono (by decide)) pass0 (pa_cons (pv 0) (pa_cons (pe_callB call_len_seq (by rfl) B.len (by decide +kernel) (pa_cons (pv 3) pa_nil)) pa_nil))) (fun _ _ => rfl))))))), ?_⟩
    refine ⟨(by show 0 ≤ sizeLine; decide), fun a1 h1 => ⟨(by show 0 ≤ sizeLine; decide), fun a2 h2 => fun a3 h3 => ⟨(by show 3 ≤ sizeLine; decide), fun l hl => ?_⟩⟩⟩
    have S1 := sameAt (Same.refl _) h1 (o := .lst [])
    have S2 := sameAt (Same.refl _) h2 (o := .tup [])
    have S3 := sameAt (Same.refl _) h3 (o := .dK [])
    have S4 := sameAt (Same.refl _) hl (o := .lst [.ref a1, .ref a2, .ref a3])
    have e1 := ((S2.trans S3).trans S4) _ _ (upd_same (a := a1))
    have e2 := (S3.trans S4) _ _ (upd_same (a := a2))
    have e3 := S4 _ _ (upd_same (a := a3))
    have S := ((S1.trans S2).trans S3).trans S4
    have hl0 : H l = none := none_of ((S1.trans S2).trans S3) hl
    have hlp : l ≠ p := fun z => hP.ne.1 (z ▸ hl0)
    have P0 : Pl H _ p s0 := (Pl.refl hP).same S
    refine ⟨_, rfl, p, s0, 3, rfl, hP.same S, (by decide), (by decide), fun g H1 g0 g3 P1 => ?_⟩
    obtain ⟨j, rfl⟩ : ∃ j : Nat, g = (j : Int) := ⟨g.toNat, by omega⟩
    have it : ∃ v, ([V.ref a1, .ref a2, .ref a3] : List V)[j]? = some v ∧ Dpp K H1 v := by
      rcases j with _ | _ | _ | j
      · exact ⟨_, rfl, Dpp.ev (.inl ⟨_, _, rfl, e1⟩) P1.ev⟩
      · exact ⟨_, rfl, Dpp.ev (.inr (.inl ⟨_, rfl, e2⟩)) P1.ev⟩
      · exact ⟨_, rfl, Dpp.ev (.inr (.inr (.inr ⟨_, _, rfl, e3⟩))) P1.ev⟩
      · omega
    obtain ⟨v, hv, hD⟩ := it
    refine ⟨l, _, _, v, rfl, rfl, SqL.of (P1.keep upd_same hlp), atI_nat hv, ?_⟩
    have P01 := P0.trans P1
    refine ⟨_, rfl, (by decide), (by decide), for_range (n := 15) (fun i σ H2 => (∃ v k, σ = [some (.ref p), some v, k, none] ∧ Dpp K H2 v) ∧ Pl H H2 p s0) ?_ ?_ ?_⟩
    · exact ⟨⟨v, _, rfl, hD⟩, P01⟩
    · rintro i σ H2 hi ⟨⟨v, k, rfl, hD⟩, P2⟩
      have step : ∀ (a : Addr) (o : HO), H2 a = none → Dpp K (upd H2 a o) (.ref a) → (∃ v' k', [some (V.ref p), some (.ref a), some (V.int ((0 : Int) + (i : Int))), none] = [some (.ref p), some v', k', none] ∧ Dpp K (upd H2 a o) v') ∧ Pl H (upd H2 a o) p s0 :=
        fun a o ha hd => ⟨⟨_, _, rfl, hd⟩, P2.new ha⟩
      have ni := hD.ni
      have mkl : ∀ t, TyX K H2 v t → True := fun _ _ => trivial
      rcases hD with ⟨a, xs, rfl, h⟩ | hD
      · exact ⟨_, rfl, _, _, _, _, true, rfl, ClsV.ty _, .base (.lst h), kit_ty (by decide +kernel), _, rfl, iteT ⟨_, rfl, (by show 1 ≤ sizeLine; decide), fun b hb => step b _ hb (.inl ⟨_, _, rfl, upd_same⟩)⟩⟩
      · have tup : ∀ {a xs}, v = .ref a → H2 a = some (.tup xs) → (TyX K H2 v (.type "tuple")) := fun e h => by rw [e]; exact .base (.tup h)
        rcases hD with ⟨a, rfl, h⟩ | ⟨a, x, rfl, h, hx⟩ | ⟨a, kvs, rfl, h⟩
        · exact ⟨_, rfl, _, _, _, _, false, rfl, ClsV.ty _, .base (.tup h), kit_ty (by decide +kernel), _, rfl, iteF ⟨_, rfl, _, _, _, _, true, rfl, ClsV.ty _, .base (.tup h), kit_ty (by decide +kernel), _, rfl, iteT ⟨_, rfl, (by show 1 ≤ sizeLine; decide), fun b hb => step b _ hb (.inr (.inr (.inl ⟨_, _, rfl, upd_same, ni.ev ((Ev.refl _).new hb)⟩)))⟩⟩⟩
        · exact ⟨_, rfl, _, _, _, _, false, rfl, ClsV.ty _, .base (.tup h), kit_ty (by decide +kernel), _, rfl, iteF ⟨_, rfl, _, _, _, _, true, rfl, ClsV.ty _, .base (.tup h), kit_ty (by decide +kernel), _, rfl, iteT ⟨_, rfl, (by show 1 ≤ sizeLine; decide), fun b hb => step b _ hb (.inr (.inr (.inl ⟨_, _, rfl, upd_same, ni.ev ((Ev.refl _).new hb)⟩)))⟩⟩⟩
        · refine ⟨_, rfl, _, _, _, _, false, rfl, ClsV.ty _, .base (.dK h), kit_ty (by decide +kernel), _, rfl, iteF ⟨_, rfl, _, _, _, _, false, rfl, ClsV.ty _, .base (.dK h), kit_ty (by decide +kernel), _, rfl, iteF fun d hd => ⟨_, rfl, upd_same, [(Sum.inr "a", .ref a)], rfl, (by show 1 ≤ 15; decide), ?_⟩⟩⟩
          rw [upd_upd]
          exact step d _ hd (.inr (.inr (.inr ⟨_, _, rfl, upd_same⟩)))
    · rintro σ H2 ⟨⟨v, k, rfl, hD⟩, P2⟩
      refine ⟨(by show 0 ≤ sizeLine; decide), fun t1 h1 => ⟨(by show 2 ≤ sizeLine; decide), fun t2 h2 => ⟨(by show 3 ≤ sizeLine; decide), fun t3 h3 => ⟨(by show 2 ≤ sizeLine; decide), fun l4 h4 => fun d5 h5 => fun d6 h6 => ⟨(by show 1 ≤ sizeLine; decide), fun l7 h7 => ⟨sameAt (Same.refl _) h7 _ _ upd_same, [(Sum.inr "a", .ref l7)], rfl, (by show 1 ≤ 15; decide), _, rfl, (by show 14 ≤ sizeLine; decide), fun th hth => ?_⟩⟩⟩⟩⟩⟩
      have A1 := sameAt (Same.refl H2) h1 (o := .tup [])
      have A2 := sameAt (Same.refl _) h2 (o := .tup [.int 0, .int 0])
      have A3 := sameAt (Same.refl _) h3 (o := .tup [.int 1, .int 2, .int 3])
      have A4 := sameAt (Same.refl _) h4 (o := .lst [.int 0, .int 1])
      have A5 := sameAt (Same.refl _) h5 (o := .dK [])
      have A6 := sameAt (sameAt (sameAt (Same.refl _) h6 (o := .dK [])) (none_of (sameAt (Same.refl _) h6) h7) (o := .lst [.int 0])) h6 (o := .dK (mergeK [] [(Sum.inr "a", .ref l7)]))
      have A7 := sameAt (Same.refl _) hth (o := .lst [.non, .bl true, .bl false, .str "", .str "a", .str "now", .str "last a at now", .ref t1, .ref t2, .ref t3, .ref l4, .ref d5, .ref d6, v])
      have e1 := (((((A2.trans A3).trans A4).trans A5).trans A6).trans A7) _ _ (upd_same (a := t1))
      have e2 := ((((A3.trans A4).trans A5).trans A6).trans A7) _ _ (upd_same (a := t2))
      have e3 := (((A4.trans A5).trans A6).trans A7) _ _ (upd_same (a := t3))
      have e4 := ((A5.trans A6).trans A7) _ _ (upd_same (a := l4))
      have e5 := (A6.trans A7) _ _ (upd_same (a := d5))
      have e6 := A7 _ _ (upd_same (a := d6))
      have A := (((((A1.trans A2).trans A3).trans A4).trans A5).trans A6).trans A7
      have AB := (((((A1.trans A2).trans A3).trans A4).trans A5).trans A6)
      have hthp : th ≠ p := fun z => P2.now.ne.1 (z ▸ none_of AB hth)
      have P3 := P2.same A
      have hD3 := hD.ev (Ev.same A)
      refine ⟨_, rfl, _, rfl, _, rfl, th, _, rfl, .inl (SqL.of upd_same), p, s0, _, rfl, P3.now, (by show (0 : Int) < 14; decide), (by show (14 : Int) < 2 ^ 200; decide), fun g H4 g0 g1 P4 => ?_⟩
      obtain ⟨j, rfl⟩ : ∃ j : Nat, g = (j : Int) := ⟨g.toNat, by omega⟩
      have g1 : (j : Int) < 14 := g1
      have it : ∃ v', ([.non, .bl true, .bl false, .str "", .str "a", .str "now", .str "last a at now", .ref t1, .ref t2, .ref t3, .ref l4, .ref d5, .ref d6, v] : List V)[j]? = some v' ∧ ∃ o, ThAt K H4 v' o := by
        rcases j with _ | _ | _ | _ | _ | _ | _ | _ | _ | _ | _ | _ | _ | _ | j
        · exact ⟨_, rfl, _, nt_non⟩
        · exact ⟨_, rfl, _, nt_bl⟩
        · exact ⟨_, rfl, _, nt_bl⟩
        · exact ⟨_, rfl, _, nt_str⟩
        · exact ⟨_, rfl, _, nt_str⟩
        · exact ⟨_, rfl, _, nt_str⟩
        · exact ⟨_, rfl, _, nt_str⟩
        · exact ⟨_, rfl, _, (th_nil e1).ev P4.ev⟩
        · exact ⟨_, rfl, _, (th_ints (ns := [0, 0]) e2 (by decide)).ev P4.ev⟩
        · exact ⟨_, rfl, _, (th_ints (ns := [1, 2, 3]) e3 (by decide)).ev P4.ev⟩
        · exact ⟨_, rfl, _, ThAt.ev (nt_lst (.base (.lst e4))) P4.ev⟩
        · exact ⟨_, rfl, _, ThAt.ev (nt_dct (.base (.dK e5))) P4.ev⟩
        · exact ⟨_, rfl, _, ThAt.ev (nt_dct (.base (.dK e6))) P4.ev⟩
        · exact ⟨_, rfl, (hD3.ev P4.ev).th⟩
        · omega
      obtain ⟨v', hv', o, hT⟩ := it
      exact ⟨th, _, _, v', rfl, rfl, SqL.of (P4.keep upd_same hthp), atI_nat hv', q v' o H4 (P3.trans P4) hT⟩
end
end Ash

set_option Elab.async false
set_option linter.all false
set_option maxRecDepth 100000
set_option maxHeartbeats 4000000
namespace Ash
open PySem PySem.Spec PyProof.Rows L2 HT
section
variable {prog : Program} {w : World} {A : Around} {E : Value → Shared → Prop} {s : Shared}
theorem fm_congr {α β : Type} {f g : α → Option β} : ∀ {l : List α}, (∀ m ∈ l, f m = g m) → l.filterMap f = l.filterMap g
  | [], _ => rfl
  | a :: r, h => by
    rw [List.filterMap_cons, List.filterMap_cons, h a List.mem_cons_self, fm_congr (l := r) fun m hm => h m (List.mem_cons_of_mem _ hm)]
theorem pick_rev (xs : Array Value) : ((List.range xs.size).filterMap fun (m : Nat) => xs[(((xs.size : Int) - 1) + (m : Int) * (-1)).toNat]?).toArray = xs.toList.reverse.toArray := by
  congr 1
  have e : ((List.range xs.size).filterMap fun (m : Nat) => xs[(((xs.size : Int) - 1) + (m : Int) * (-1)).toNat]?) = (List.range xs.size).filterMap fun m => xs.toList.reverse[m]? := by
    refine fm_congr fun m hm => ?_
    have hm := List.mem_range.mp hm
    rw [List.getElem?_reverse (by rw [Array.length_toList]; exact hm), Array.length_toList, Array.getElem?_toList, show (((xs.size : Int) - 1) + (m : Int) * (-1)).toNat = xs.size - 1 - m by omega]
  rw [e]
  have gen : ∀ (l : List Value), (List.range l.length).filterMap (fun m => l[m]?) = l := fun l => by
    induction l with
    | nil => rfl
    | cons a r ih =>
      rw [List.length_cons, List.range_succ_eq_map, List.filterMap_cons, List.filterMap_map]
      show a :: _ = a :: r
      exact congrArg _ ih
  have := gen xs.toList.reverse
  rw [List.length_reverse, Array.length_toList] at this
  exact this
theorem applied_rev {sl : Addr} {vs : Value} {n : Nat} {Q : Int × Int × Nat → Shared → Prop} (hs : s.heap.IsSliceOf sl .none .none vs) (ps : IsPart vs (some (-1))) (h : Q ((n : Int) - 1, -1, n) s) :
    wpAny (model prog w) A (Builtin.Slice.sliceApplied (.ref sl) (pure (n : Int))) Q E s := by
  obtain ⟨os, hos, _, hds⟩ := id hs
  unfold Builtin.Slice.sliceApplied Builtin.Slice.sliceFields
  refine wpAny_bind (wpAny_bind (wpAny_field hos hds (x := .none) rfl (wpAny_bind (wpAny_field hos hds (x := .none) rfl (wpAny_bind (wpAny_field hos hds (x := vs) rfl (wpAny_pure ?_)))))))
  refine wpAny_bind (slicePart_ ps ?_)
  show wpAny _ _ (if ((-1 : Int) == 0) = true then _ else _) _ _ s
  rw [if_neg (by decide)]
  refine wpAny_bind (slicePart_none (wpAny_bind (slicePart_none (wpAny_bind (wpAny_pure ?_)))))
  have ad : Builtin.Slice.sliceAdjust none none (-1) (n : Int) = ((n : Int) - 1, -1) := rfl
  have pl : Builtin.Slice.slicePlaces ((n : Int) - 1) (-1) (-1) = n := by
    unfold Builtin.Slice.slicePlaces
    rw [if_neg (by decide)]
    by_cases c : (n : Int) - 1 > -1
    · rw [if_pos c, show (-(-1) : Int) = 1 from rfl, Int.ediv_one]; omega
    · rw [if_neg c]; omega
  show wpAny _ _ (match Builtin.Slice.sliceAdjust none none (-1) (n : Int) with | (lo, hi) => pure (lo, (-1 : Int), Builtin.Slice.slicePlaces lo hi (-1))) _ _ s
  rw [ad]
  show wpAny _ _ (pure ((n : Int) - 1, (-1 : Int), Builtin.Slice.slicePlaces ((n : Int) - 1) (-1) (-1))) _ _ s
  rw [pl]
  exact wpAny_pure h
theorem item_rev {t sl : Addr} {items : Array Value} {vs : Value} {Q : Value → Shared → Prop} (ht : IsTup s.heap t items) (hs : s.heap.IsSliceOf sl .none .none vs) (ps : IsPart vs (some (-1)))
    (h : Q (.ref s.heap.objs.size) { s with heap := s.heap.push { cls := .type "tuple", data := .seq items.toList.reverse.toArray } }) (hsz : items.size ≤ sizeLine) : wpAny (model prog w) A (getItem (.ref t) (.ref sl)) Q E s := by
  have hok : sizeOk (.seq items.toList.reverse.toArray) := by
    show items.toList.reverse.toArray.size ≤ sizeLine
    rw [List.size_toArray, List.length_reverse, Array.length_toList]
    exact hsz
  obtain ⟨os, hos, hcs, _⟩ := id hs
  have hTs : s.TypeIs (.ref sl) "slice" := ⟨os, hos, hcs⟩
  unfold getItem
  try with_reducible refine wpAny_holding ?_
  first | refine wpAny_bind (wpAny_pure ?_) | skip
  refine wpAny_bind (wpAny_sequenceKey ht.typeIs (by decide) ?_)
  refine wpAny_bind (wpAny_callSpecial?_slot (name := Str.ofString "__getitem__") ht.typeIs PyProof.Rows.slot_tuple_getitem (wpAny_call_entry PyProof.Rows.slot_tuple_getitem ht.typeIs entry_tuple_getitem ?_ (args_tuple_getitem _ _)))
  show wpAny _ _ (Builtin.Tuple.tupleItemsOf (.ref t) >>= _) _ _ s
  refine wpAny_bind (tupleItemsOf_ ht (wpAny_bind (wpAny_typeOf hTs ?_)))
  rw [if_pos (by decide)]
  refine wpAny_bind (applied_rev hs ps ?_)
  have hno : ¬ ((((items.size : Int) - 1) == 0 && (-1 : Int) == 1 && items.size == items.size) = true) := by
    intro q
    rw [Bool.and_eq_true, Bool.and_eq_true] at q
    exact absurd q.1.2 (by decide)
  show wpAny _ _ (if (((items.size : Int) - 1) == 0 && (-1 : Int) == 1 && items.size == items.size) = true then _ else _) _ _ s
  rw [if_neg hno, pick_rev]
  first
    | exact wpAny_bind (m := Builtin.Tuple.tupleExact _) (wpAny_newObj_type (wpAny_pure ⟨_, rfl, wpAny_pure h⟩) hok)
    | exact wpAny_bind (m := Builtin.Tuple.tupleExact _) (wpAny_newObj_type (wpAny_bind (wpAny_pure (wpAny_pure ⟨_, rfl, wpAny_pure h⟩))) hok)
    | exact wpAny_bind (wpAny_bind (m := Builtin.Tuple.tupleExact _) (wpAny_newObj_type (wpAny_pure (wpAny_pure ⟨_, rfl, wpAny_pure h⟩)) hok))
    | exact wpAny_bind (wpAny_bind (m := Builtin.Tuple.tupleExact _) (wpAny_newObj_type (wpAny_pure ⟨_, rfl, wpAny_pure h⟩) hok))
end
section
variable {X : Cx}
/-- t[::-1] -/
def tRevT (K : PySem.W.Frag) (te : TE) : TE := fun σ H Q => te σ H fun x H1 => ∃ a xs, x = .ref a ∧ SqT K H1 a xs ∧ ∀ p, H1 p = none → Q (.ref p) (upd H1 p (.tup xs.reverse))
theorem pe_revT {e : Expr} {te : TE} {k : Nat} {p1 p2 p3 pos : Pos} (he : PE X e te) : PE X (.Subscript e (.Slice none none (some (.UnaryOp .USub (.Constant (.int 1) k p1) p2)) p3) pos) (tRevT X.K te) := by
  refine ⟨fun pins s σ H Q I h => Subscript_ (thn (he.run pins s σ H _ I h) fun v s1 ⟨x, H1, I1, r1, a, xs, ex, hx, q⟩ => ?_)⟩
  subst ex
  cases r1
  have part : PO X (some (.UnaryOp .USub (.Constant (.int 1) k p1) p2)) (tPart (tUn (rU fun i => .int (-i)) (tC (.int 1)))) := po_some (pe_un un_neg pe_int)
  refine wpAny_Slice (thn (po_none.run pins s1 σ H1 (fun o H2 => o = none ∧ H2 = H1) I1 ⟨rfl, rfl⟩) fun vl s2 ⟨l, H2, I2, pl, el, e2⟩ => ?_)
  subst el e2
  cases pl
  refine thn (po_none.run pins s2 σ H2 (fun o H3 => o = none ∧ H3 = H2) I2 ⟨rfl, rfl⟩) fun vu s3 ⟨u, H3, I3, pu, eu, e3⟩ => ?_
  subst eu e3
  cases pu
  refine thn (part.run pins s3 σ H3 (fun o H4 => o = some (-1) ∧ H4 = H3) I3 ⟨1, rfl, -1, rfl, rfl, rfl⟩) fun vs s4 ⟨o, H4, I4, ps, eo, e4⟩ => ?_
  subst eo e4
  have I5 : Inv X pins σ H4 { s4 with heap := s4.heap.push { cls := .type "slice", data := .fields #[.none, .none, vs] } } := I4.kept (t' := s4.toks) fun b ob q => Heap.get?_push_of_some _ q
  obtain ⟨its, r, ht, hz⟩ := I5.tuple hx
  have hlen := r.length
  show wpAny (model X.prog X.w) X.A (subscriptTail e (.Slice none none (some (.UnaryOp .USub (.Constant (.int 1) k p1) p2)) p3) (.ref a) (.ref s4.heap.objs.size)) (EP X pins σ Q) X.xe { s4 with heap := s4.heap.push { cls := .type "slice", data := .fields #[.none, .none, vs] } }
  refine tail_any (ops := [.ref a, .ref s4.heap.objs.size]) ht.typeIs PyProof.Rows.slot_tuple_getitem.lookup ?_ (by with_unfolding_all rfl)
  refine item_rev ht (Heap.IsSliceOf.new _ .none .none vs) ps ?_ (by rw [List.size_toArray]; omega)
  refine ⟨.ref _, _, I5.laid (t' := s4.toks) (o := .tup xs.reverse) (fun b ob q => Heap.get?_push_of_some _ q) (Nat.le_refl _) ?_, rfl, q _ (I5.hok.fresh (Nat.le_refl _))⟩
  exact ⟨by rw [List.length_reverse]; exact hz, _, r.reverse, IsTup.new _ _⟩
/-- tuple * 1 is itself -/
theorem mul_one_meets (l : Addr) (items : Array Value) (n : Nat) (dd : Option Addr) (sl : Array (Option Value)) (u : Tok) :
    Meets (Builtin.«tuple.__mul__» ⟨[.ref l, .int 1 u], []⟩) (fun _ R s => s.heap.get? l = some { cls := .type "tuple", dict := dd, data := .seq items n, slots := sl } ∧ R (.ok (.ret (Value.ref l))) s) :=
  .of_wp fun prog w A R s h => by
    obtain ⟨hp, g, d, tk, os⟩ := s
    obtain ⟨hl, h⟩ := h
    have f1 := AutoSeq1.idx_int
    have c1 : (items.isEmpty || (1 : Int) == 1) = true := by simp
    wp_walk using wpAny_loadPart' hl
    exact ⟨_, rfl, h⟩
/-- t * k, k from 1 on -/
def rRepA (K : PySem.W.Frag) : R2 := fun x y H Q => ∃ l k xs, x = .ref l ∧ y = .int k ∧ SqT K H l xs ∧ xs ≠ [] ∧ 1 ≤ k ∧ k ≤ 1000 ∧ xs.length ≤ 1000 ∧ (k = 1 → Q (.ref l) H) ∧ (2 ≤ k → ∀ p, H p = none → Q (.ref p) (upd H p (.tup (List.replicate k.toNat xs).flatten)))
theorem op_repA : OpR X (binaryOp .Mult) (rRepA X.K) := by
  intro pins s σ H x y v u Q I rx ry h
  obtain ⟨l, k, xs, rfl, rfl, hT, hne, h1, h2, hz, q1, q2⟩ := h
  by_cases hk : k = 1
  · subst hk
    cases rx
    obtain ⟨t, rfl⟩ := ry
    obtain ⟨its, r, ⟨⟨cls, dd, data, sl⟩, ho, hc, n, hd⟩, hs⟩ := I.tuple hT
    simp only at hc hd
    subst hc hd
    refine wpAny_binaryOp_repeat_ref (T := "tuple") (U := "int") (by decide) ⟨_, ho, rfl⟩ (fun s' => typeIs_int s' 1 t) noFill_tuple_mul F.fills_int_mul F.slot_int_rmul repeat_tuple F.slot_int_index.lookup
      (call_meets F.slot_int_rmul (typeIs_int s 1 t) F.entry_int_rmul (F.args_int_rmul_2 _ _) (int_rmul_tuple 1 t l its.toArray n dd sl)
        ⟨ho, rfl, ⟨_, ho, rfl⟩, call_meets F.slot_tuple_mul ⟨_, ho, rfl⟩ F.entry_tuple_mul (F.args_tuple_mul_2 _ _) (mul_one_meets l its.toArray n dd sl t) ⟨ho, ?_⟩⟩)
    exact ⟨.ref l, H, I, rfl, q1 rfl⟩
  · exact op_repT pins s σ H _ _ v u Q I rx ry ⟨l, k, xs, rfl, rfl, hT, hne, by omega, h2, hz, q2 (by omega)⟩
end
end Ash

set_option Elab.async false
set_option linter.all false
set_option maxRecDepth 100000
set_option maxHeartbeats 4000000
namespace Ash
open PySem PySem.Spec PyProof.Rows L2
open C8 (pss_cut)
theorem slA_use {K : PySem.W.Frag} {H : Hp} {Q : VK} {a : Addr} {xs : List V} {lo hi : Option Int} (h : H a = some (.tup xs)) (q : ∀ a' H', Same H H' → H' a' = some (.tup (cutV xs lo hi)) → Q (.ref a') H') : rSlA K (.ref a) lo hi H Q := by
  refine ⟨a, xs, rfl, SqT.of h, fun w => q a H (Same.refl H) ?_, fun _ p hp => q p _ (sameAt (Same.refl H) hp) upd_same⟩
  have e : cutV xs lo hi = xs := by
    unfold cutV
    rw [w.1, w.2, List.drop_zero, Nat.sub_zero, List.take_length]
  rw [e]
  exact h
theorem catA_use {K : PySem.W.Frag} {H : Hp} {Q : VK} {a b : Addr} {xs ys : List V} (ha : H a = some (.tup xs)) (hb : H b = some (.tup ys)) (hz : xs.length + ys.length ≤ 1000) (q : ∀ c H', Same H H' → H' c = some (.tup (xs ++ ys)) → Q (.ref c) H') : rCatA K (.ref a) (.ref b) H Q := by
  refine ⟨a, b, xs, ys, rfl, rfl, SqT.of ha, SqT.of hb, by rw [sizeLine_eq]; omega, fun e => q b H (Same.refl H) (by rw [e]; exact hb), fun _ e => q a H (Same.refl H) (by rw [e, List.append_nil]; exact ha), fun _ _ p hp => q p _ (sameAt (Same.refl H) hp) upd_same⟩
theorem cut_mem {xs : List V} {lo hi : Option Int} {x : V} (h : x ∈ cutV xs lo hi) : x ∈ xs := by
  unfold cutV at h
  exact List.mem_of_mem_drop (List.mem_of_mem_take h)
def IsI (K : PySem.W.Frag) (H : Hp) (x : V) : Prop := ∃ d, ItAt K H x d
theorem isi_int {K : PySem.W.Frag} {H : Hp} {n : Int} : IsI K H (.int n) := ⟨some n, rfl⟩
theorem isi_ni {K : PySem.W.Frag} {H : Hp} {x : V} (h : NotInt K H x) : IsI K H x := ⟨none, h⟩
theorem isi_all {K : PySem.W.Frag} {H : Hp} : ∀ {xs : List V}, (∀ x ∈ xs, IsI K H x) → ∃ ds : List (Option Int), xs.length = ds.length ∧ ∀ (i : Nat) x d, xs[i]? = some x → ds[i]? = some d → ItAt K H x d
  | [], _ => ⟨[], rfl, fun i x d h _ => by simp at h⟩
  | x :: r, h => by
    obtain ⟨d, hd⟩ := h x List.mem_cons_self
    obtain ⟨ds, e, h2⟩ := isi_all (xs := r) fun y hy => h y (List.mem_cons_of_mem _ hy)
    refine ⟨d :: ds, by rw [List.length_cons, List.length_cons, e], fun i y d' a b => ?_⟩
    cases i with
    | zero => cases a; cases b; exact hd
    | succ i => exact h2 i y d' a b
theorem th_any {K : PySem.W.Frag} {H : Hp} {a : Addr} {xs : List V} (h : H a = some (.tup xs)) (hn : xs.length ≤ 1000) (hx : ∀ x ∈ xs, IsI K H x) : ∃ ds, ThAt K H (.ref a) (some ds) := by
  obtain ⟨ds, e, h2⟩ := isi_all hx
  exact ⟨ds, th_tup h e hn h2⟩
theorem noPart {σ : L2.St} {H : Hp} {Q : Option Int → Hp → Prop} (h : Q none H) : tNoPart σ H Q := h
theorem le2 {a b : Nat} (h : a ≤ 10) (h' : b ≤ 10) : a + b ≤ 1000 := by omega
theorem le3 {a b c : Nat} (h : a ≤ 10) (h' : b ≤ 10) (h'' : c ≤ 10) : a + b + c ≤ 1000 := by omega
def rLenS (K : PySem.W.Frag) : List V → Hp → VK → Prop := fun xs H Q => ∃ p ys, xs = [.ref p] ∧ (SqL K H p ys ∨ SqT K H p ys) ∧ Q (.int ys.length) H
def spSpoilt (K : PySem.W.Frag) : Sp := fun vs H Q _ => ∃ (p s f t : Addr) (us : List V) (ns : List Int), vs = [.ref p, .ref f, .ref t] ∧ PoolAt H p s ∧ H f = some (.lst us) ∧ f ≠ p ∧ 1 ≤ us.length ∧ us.length ≤ 100 ∧ H t = some (.tup (ns.map V.int)) ∧ 1 ≤ ns.length ∧ ns.length ≤ 10 ∧ ∀ v o H', Pl H H' p s → ThAt K H' v o → Q v H'
section
variable {P : Program} {w : World} {K : PySem.W.Frag} {mg : Str → Option Value} {base : Heap}
structure G3 (P : Program) (w : World) (K : PySem.W.Frag) (mg : Str → Option Value) (base : Heap) : Prop extends G2 P w K mg base where
  law_strange : Cal P w K mg base CX0 "_law_strange" 2 ["state"] (spStrange K)
abbrev s_l_spoilt : Stmt := topS 23
theorem sc_l_spoilt : FnScope ["state", "facts", "thing", "kind", "at", "value", "k"] ["state", "facts", "thing"] (defScope s_l_spoilt) := ⟨rfl, rfl, rfl, by decide +kernel, rfl, by decide +kernel, by decide +kernel⟩
theorem ok_spoilt {f : Addr} {fd : FuncData} (F : Fun K "_law_spoilt" "_law_spoilt" s_l_spoilt f fd) (B : Blt mg) (G : G3 P w K mg base) : FnOk P w K mg base CX0 3 f fd ["state", "facts", "thing"] (spSpoilt K) := by
  refine F.ok sc_l_spoilt (fun vs H Q E h => ?_) (fun cdv A outer s H vs Q E hr h => ?_)
  · obtain ⟨p, s, f, t, us, ns, rfl, _⟩ := h
    rfl
  · obtain ⟨p, s0, f, t, us, ns, rfl, hP, hf, hfp, u1, u100, ht, n1, n10, q⟩ := h
    refine ⟨_, (pss_cons (ps_set (i := 3) sc_l_spoilt.nd rfl (Or.inl rfl) (pe_cal G.law_draw (hr.mono (by decide)) pass0 (pa_cons (pv 0) (pa_cons pe_int pa_nil))))
    (pss_cons (ps_set (i := 4) sc_l_spoilt.nd rfl (Or.inl rfl) (pe_cal G.law_draw (hr.mono (by decide)) pass0 (pa_cons (pv 0) (pa_cons (pe_callB call_len_seq (by rfl) B.len (by decide +kernel) (pa_cons (pv 2) pa_nil)) pa_nil))))
    (pss_cons (ps_set (i := 5) sc_l_spoilt.nd rfl (Or.inl rfl) (pe_ix ix_tup (pv 2) (pv 4) (fun _ _ => rfl)))
    (pss_cons (ps_if (pt_cmpR op_eq (pv 3) pe_int (nomark _))
      (pss_one (ps_ret (pe_callTy call_list_of (by rfl) B.list (by decide +kernel) (pa_cons (pv 2) pa_nil))))
      pss_nil)
    (pss_cons (ps_if (pt_cmpR op_eq (pv 3) pe_int (nomark _))
      (pss_one (ps_ret (pe_op op_catA (pe_slice sl_tupA (pv 2) po_none (po_some (pv 4))) (pe_slice sl_tupA (pv 2) (po_some (pe_op op_add (pv 4) pe_int)) po_none))))
      pss_nil)
    (pss_cons (ps_if (pt_cmpR op_eq (pv 3) pe_int (nomark _))
      (pss_one (ps_ret (pe_op op_catA (pe_op op_catA (pe_slice sl_tupA (pv 2) po_none (po_some (pv 4))) (pe_tup (pa_cons (pv 5) (pa_cons (pv 5) pa_nil)))) (pe_slice sl_tupA (pv 2) (po_some (pe_op op_add (pv 4) pe_int)) po_none))))
      pss_nil)
    (pss_cons (ps_if (pt_cmpR op_eq (pv 3) pe_int (nomark _))
      (pss_one (ps_ret (pe_revT (pv 2))))
      pss_nil)
    (pss_cons (ps_if (pt_cmpR op_eq (pv 3) pe_int (nomark _))
      (pss_one (ps_ret (pe_op op_catA (pe_op op_catA (pe_slice sl_tupA (pv 2) po_none (po_some (pv 4))) (pe_tup (pa_cons (pe_ix ix_list (pe_lst (pa_cons pe_bl (pa_cons pe_bl (pa_cons pe_non (pa_cons pe_str (pa_cons (pe_un un_neg pe_int) (pa_cons (pe_callB (show CallR _ (.builtin "len") (rLenS K) from call_len_seq) (by rfl) B.len (by decide +kernel) (pa_cons (pv 1) pa_nil)) (pa_cons (pe_op op_sub (pv 5) (pe_callB (show CallR _ (.builtin "len") (rLenS K) from call_len_seq) (by rfl) B.len (by decide +kernel) (pa_cons (pv 1) pa_nil))) (pa_cons (pe_tup (pa_cons (pv 5) pa_nil)) pa_nil))))))))) (pe_cal G.law_draw (hr.mono (by decide)) pass0 (pa_cons (pv 0) (pa_cons pe_int pa_nil))) (fun _ _ => rfl)) pa_nil))) (pe_slice sl_tupA (pv 2) (po_some (pe_op op_add (pv 4) pe_int)) po_none))))
      pss_nil)
    (pss_cons (ps_if (pt_cmpR op_eq (pv 3) pe_int (nomark _))
      (pss_one (ps_ret (pe_op op_catA (pe_op op_catA (pe_slice sl_tupA (pv 2) po_none (po_some (pv 4))) (pe_tup (pa_cons (pe_cal G.law_draw (hr.mono (by decide)) pass0 (pa_cons (pv 0) (pa_cons (pe_callB (show CallR _ (.builtin "len") (rLenS K) from call_len_seq) (by rfl) B.len (by decide +kernel) (pa_cons (pv 1) pa_nil)) pa_nil))) pa_nil))) (pe_slice sl_tupA (pv 2) (po_some (pe_op op_add (pv 4) pe_int)) po_none))))
      pss_nil)
    (pss_cons (ps_if (pt_cmpR op_eq (pv 3) pe_int (nomark _))
      (pss_one (ps_ret (pe_cal G.law_strange (hr.mono (by decide)) pass0 (pa_cons (pv 0) pa_nil))))
      pss_nil)
    (pss_cons (ps_if (pt_cmpR op_eq (pv 3) pe_int (nomark _))
      (pss_one (ps_ret (pe_op op_repA (pv 2) (pe_op op_add pe_int (pe_cal G.law_draw (hr.mono (by decide)) pass0 (pa_cons (pv 0) (pa_cons pe_int pa_nil)))))))
      pss_nil)
    (pss_cons (ps_if (pt_cmpR op_eq (pv 3) pe_int (nomark _))
      (pss_one (ps_ret (pe_callTy call_tuple_of (by rfl) B.tuple (by decide +kernel) (pa_cons (pe_lc (own := [("k", 6)]) (g := gName 6) (tt := tYes) (by rfl) sc_l_spoilt.nd (pi_range1 (by rfl) B.range (pa_cons (pe_cal G.law_draw (hr.mono (by decide)) pass0 (pa_cons (pv 0) (pa_cons pe_int pa_nil))) pa_nil)) (blkOk_by (own := [("k", 6)]) (N := ["state", "facts", "thing", "kind", "at", "value", "k"]) (sc := defScope s_l_spoilt) (by decide +kernel)) (fun _ _ _ _ _ => (pg_name (i := 6) sc_l_spoilt.nd rfl (Or.inl rfl))) (fun _ _ _ _ _ => pts_nil) (fun _ _ _ _ _ => (pe_cal G.law_draw (hr.mono (by decide)) pass0 (pa_cons (pv 0) (pa_cons (pe_callB (show CallR _ (.builtin "len") (rLenS K) from call_len_seq) (by rfl) B.len (by decide +kernel) (pa_cons (pv 1) pa_nil)) pa_nil))))) pa_nil))))
      pss_nil)
    (pss_one (ps_ret (pe_op op_catA (pe_slice sl_tupA (pv 2) (po_some (pv 4)) po_none) (pe_slice sl_tupA (pv 2) po_none (po_some (pv 4)))))))))))))))))), ?_⟩
    refine ⟨_, rfl, p, s0, 12, rfl, hP, (by decide), (by decide), fun kind H1 k0 k12 P1 => ?_⟩
    refine ⟨_, rfl, _, rfl, t, _, rfl, .inr (SqT.of (P1.ev.tup ht)), p, s0, _, rfl, P1.now, (by rw [List.length_map]; omega), (by rw [List.length_map]; omega), fun at_ H2 a0 a1 P2 => ?_⟩
    rw [List.length_map] at a1
    obtain ⟨at_, rfl⟩ : ∃ n : Nat, at_ = (n : Int) := ⟨at_.toNat, by omega⟩
    have P12 := P1.trans P2
    have ht2 := P12.ev.tup ht
    have hf2 := P12.keep hf hfp
    have hval : (ns.map V.int)[at_]? = some (.int ns[at_]) := by rw [List.getElem?_map, List.getElem?_eq_getElem (by omega)]; rfl
    have len : (ns.map V.int).length ≤ 10 := by rw [List.length_map]; exact n10
    have cl : ∀ {lo hi}, (cutV (ns.map V.int) lo hi).length ≤ 10 := fun {lo hi} => Nat.le_trans (cutV_length _ _ _) len
    have intM : ∀ {H' : Hp} {x : V}, x ∈ ns.map V.int → IsI K H' x := fun h => by
      obtain ⟨n, _, rfl⟩ := List.mem_map.mp h
      exact isi_int
    have fin : ∀ (c : Addr) (H3 : Hp) (xs : List V), Pl H H3 p s0 → H3 c = some (.tup xs) → xs.length ≤ 1000 → (∀ x ∈ xs, IsI K H3 x) → Q (.ref c) H3 := fun c H3 xs P3 h hn hx => by
      obtain ⟨ds, hT⟩ := th_any h hn hx
      exact q _ _ _ P3 hT
    refine ⟨_, rfl, _, rfl, t, _, _, _, rfl, rfl, SqT.of ht2, atI_nat hval, ?_⟩
    generalize ns[at_] = val
    refine ⟨_, rfl, rfl, _, rfl, ite2 (fun c0 => ?_) (fun c0 => ?_)⟩
    · exact ⟨_, rfl, t, _, rfl, .inr (SqT.of ht2), fun l hl => q _ _ _ (P12.new hl) (nt_lst (.base (.lst upd_same)))⟩
    refine ⟨_, rfl, rfl, _, rfl, ite2 (fun c1 => ?_) (fun c1 => ?_)⟩
    · refine ⟨_, rfl, _, rfl, _, rfl, slA_use ht2 fun a1 H3 s3 h3 => ⟨_, rfl, _, rfl, _, _, rfl, rfl, _, rfl, ?_⟩⟩
      refine noPart (slA_use (s3 _ _ ht2) fun a2 H4 s4 h4 => catA_use (s4 _ _ h3) h4 (le2 cl cl) fun c H5 s5 h5 => fin c H5 _ (P12.same ((s3.trans s4).trans s5)) h5 (by rw [List.length_append]; exact le2 cl cl) fun x hx => ?_)
      rcases List.mem_append.mp hx with h | h
      · exact intM (cut_mem h)
      · exact intM (cut_mem h)
    refine ⟨_, rfl, rfl, _, rfl, ite2 (fun c2 => ?_) (fun c2 => ?_)⟩
    · refine ⟨_, rfl, _, rfl, _, rfl, slA_use ht2 fun a1 H3 s3 h3 => ⟨_, rfl, _, rfl, (by show 2 ≤ sizeLine; decide), fun b1 hb1 => ?_⟩⟩
      have sb := sameAt (Same.refl _) hb1 (o := .tup [.int val, .int val])
      refine catA_use (sb _ _ h3) upd_same (le2 cl (by show 2 ≤ 10; decide)) fun c1 H4 s4 h4 => ⟨_, rfl, _, rfl, _, _, rfl, rfl, _, rfl, ?_⟩
      refine noPart (slA_use (s4 _ _ (sb _ _ (s3 _ _ ht2))) fun a2 H5 s5 h5 => catA_use (s5 _ _ h4) h5 ?_ fun c H6 s6 h6 => fin c H6 _ (P12.same ((((s3.trans sb).trans s4).trans s5).trans s6)) h6 ?_ fun x hx => ?_)
      · rw [List.length_append]; exact le3 cl (by show 2 ≤ 10; decide) cl
      · rw [List.length_append, List.length_append]; exact le3 cl (by show 2 ≤ 10; decide) cl
      rcases List.mem_append.mp hx with h | h
      · rcases List.mem_append.mp h with h | h
        · exact intM (cut_mem h)
        · simp only [List.mem_cons, List.not_mem_nil, or_false, or_self] at h
          rw [h]
          exact isi_int
      · exact intM (cut_mem h)
    refine ⟨_, rfl, rfl, _, rfl, ite2 (fun c3 => ?_) (fun c3 => ?_)⟩
    · refine ⟨_, rfl, t, _, rfl, SqT.of ht2, fun c hc => fin c _ _ (P12.new hc) upd_same (by rw [List.length_reverse]; omega) fun x hx => intM (List.mem_reverse.mp hx)⟩
    refine ⟨_, rfl, rfl, _, rfl, ite2 (fun c4 => ?_) (fun c4 => ?_)⟩
    · refine ⟨_, rfl, _, rfl, _, rfl, slA_use ht2 fun a1 H3 s3 h3 => ⟨_, rfl, _, rfl, f, _, rfl, .inl (SqL.of (s3 _ _ hf2)), _, rfl, _, rfl, f, _, rfl, .inl (SqL.of (s3 _ _ hf2)), _, _, rfl, rfl, _, rfl, (by show 1 ≤ sizeLine; decide), fun t1 ht1 => ⟨(by show 8 ≤ sizeLine; decide), fun l hl => ?_⟩⟩⟩
      have st := sameAt (Same.refl _) ht1 (o := .tup [.int val])
      have sl := sameAt (Same.refl _) hl (o := .lst [.bl true, .bl false, .non, .str "0", .int (-1), .int us.length, .int (val - us.length), .ref t1])
      have PL := P12.same ((s3.trans st).trans sl)
      have hlp : l ≠ p := fun z => (P12.same (s3.trans st)).now.ne.1 (z ▸ hl)
      have e1 := sl _ _ (upd_same (a := t1))
      refine ⟨_, rfl, p, s0, 8, rfl, PL.now, (by decide), (by decide), fun g H4 g0 g1 P4 => ?_⟩
      obtain ⟨j, rfl⟩ : ∃ j : Nat, g = (j : Int) := ⟨g.toNat, by omega⟩
      have it : ∃ v', ([.bl true, .bl false, .non, .str "0", .int (-1), .int us.length, .int (val - us.length), .ref t1] : List V)[j]? = some v' ∧ ∀ H', Ev H4 H' → IsI K H' v' := by
        rcases j with _ | _ | _ | _ | _ | _ | _ | _ | j
        · exact ⟨_, rfl, fun H' _ => isi_ni ni_bl⟩
        · exact ⟨_, rfl, fun H' _ => isi_ni ni_bl⟩
        · exact ⟨_, rfl, fun H' _ => isi_ni ni_non⟩
        · exact ⟨_, rfl, fun H' _ => isi_ni ni_str⟩
        · exact ⟨_, rfl, fun H' _ => isi_int⟩
        · exact ⟨_, rfl, fun H' _ => isi_int⟩
        · exact ⟨_, rfl, fun H' _ => isi_int⟩
        · exact ⟨_, rfl, fun H' e => isi_ni (ni_tup (.base (.tup (e.tup (P4.ev.tup e1)))))⟩
        · omega
      obtain ⟨v', hv', hI⟩ := it
      refine ⟨l, _, _, v', rfl, rfl, SqL.of (P4.keep upd_same hlp), atI_nat hv', (by show 1 ≤ sizeLine; decide), fun b1 hb1 => ?_⟩
      have h34 : H4 a1 = some (.tup (cutV (ns.map V.int) none (some (at_ : Int)))) := P4.ev.tup (sl _ _ (st _ _ h3))
      have ht4 : H4 t = some (.tup (ns.map V.int)) := P4.ev.tup (sl _ _ (st _ _ (s3 _ _ ht2)))
      have sb := sameAt (Same.refl _) hb1 (o := .tup [v'])
      have PB := (PL.trans P4).new hb1 (o := .tup [v'])
      refine catA_use (sb _ _ h34) upd_same (le2 cl (by show 1 ≤ 10; decide)) fun c1 H5 s5 h5 => ⟨_, rfl, _, rfl, _, _, rfl, rfl, _, rfl, ?_⟩
      refine noPart (slA_use (s5 _ _ (sb _ _ ht4)) fun a2 H6 s6 h6 => catA_use (s6 _ _ h5) h6 ?_ fun c H7 s7 h7 => fin c H7 _ (PB.same ((s5.trans s6).trans s7)) h7 ?_ fun x hx => ?_)
      · rw [List.length_append]; exact le3 cl (by show 1 ≤ 10; decide) cl
      · rw [List.length_append, List.length_append]; exact le3 cl (by show 1 ≤ 10; decide) cl
      rcases List.mem_append.mp hx with h | h
      · rcases List.mem_append.mp h with h | h
        · exact intM (cut_mem h)
        · rw [List.mem_singleton.mp h]
          exact hI H7 (Ev.same (((sb.trans s5).trans s6).trans s7))
      · exact intM (cut_mem h)
    refine ⟨_, rfl, rfl, _, rfl, ite2 (fun c5 => ?_) (fun c5 => ?_)⟩
    · refine ⟨_, rfl, _, rfl, _, rfl, slA_use ht2 fun a1 H3 s3 h3 => ⟨_, rfl, _, rfl, f, _, rfl, .inl (SqL.of (s3 _ _ hf2)), p, s0, _, rfl, P12.now.same s3, (by omega), (by omega), fun g H4 g0 g1 P4 => ⟨(by show 1 ≤ sizeLine; decide), fun b1 hb1 => ?_⟩⟩⟩
      have h34 : H4 a1 = some (.tup (cutV (ns.map V.int) none (some (at_ : Int)))) := P4.ev.tup h3
      have ht4 : H4 t = some (.tup (ns.map V.int)) := P4.ev.tup (s3 _ _ ht2)
      have sb := sameAt (Same.refl _) hb1 (o := .tup [.int g])
      have PB := ((P12.same s3).trans P4).new hb1 (o := .tup [.int g])
      refine catA_use (sb _ _ h34) upd_same (le2 cl (by show 1 ≤ 10; decide)) fun c1 H5 s5 h5 => ⟨_, rfl, _, rfl, _, _, rfl, rfl, _, rfl, ?_⟩
      refine noPart (slA_use (s5 _ _ (sb _ _ ht4)) fun a2 H6 s6 h6 => catA_use (s6 _ _ h5) h6 ?_ fun c H7 s7 h7 => fin c H7 _ (PB.same ((s5.trans s6).trans s7)) h7 ?_ fun x hx => ?_)
      · rw [List.length_append]; exact le3 cl (by show 1 ≤ 10; decide) cl
      · rw [List.length_append, List.length_append]; exact le3 cl (by show 1 ≤ 10; decide) cl
      rcases List.mem_append.mp hx with h | h
      · rcases List.mem_append.mp h with h | h
        · exact intM (cut_mem h)
        · rw [List.mem_singleton.mp h]
          exact isi_int
      · exact intM (cut_mem h)
    refine ⟨_, rfl, rfl, _, rfl, ite2 (fun c6 => ?_) (fun c6 => ?_)⟩
    · exact ⟨_, rfl, p, s0, rfl, P12.now, fun v o H3 P3 hT => q v o H3 (P12.trans P3) hT⟩
    refine ⟨_, rfl, rfl, _, rfl, ite2 (fun c7 => ?_) (fun c7 => ?_)⟩
    · refine ⟨_, rfl, _, rfl, p, s0, 40, rfl, P12.now, (by decide), (by decide), fun g H3 g0 g1 P3 => ⟨_, _, rfl, rfl, ?_⟩⟩
      have ht3 := P3.ev.tup ht2
      refine ⟨t, _, ns.map V.int, rfl, rfl, SqT.of ht3, (fun z => by rw [List.map_eq_nil_iff] at z; rw [z] at n1; exact absurd n1 (by decide)), (by omega), (by omega), (by omega), fun _ => fin t H3 _ (P12.trans P3) ht3 (by omega) fun x hx => intM hx, fun _ c hc => fin c _ _ ((P12.trans P3).new hc) upd_same ?_ fun x hx => ?_⟩
      · rw [PyProof.Rows.lm_len_rep_flat]
        have : (1 + g).toNat * (ns.map V.int).length ≤ 40 * 10 := Nat.mul_le_mul (by omega) len
        omega
      · obtain ⟨ys, h1, h2⟩ := List.mem_flatten.mp hx
        rw [(List.mem_replicate.mp h1).2] at h2
        exact intM h2
    refine ⟨_, rfl, rfl, _, rfl, ite2 (fun c8 => ?_) (fun c8 => ?_)⟩
    · refine ⟨_, rfl, p, s0, 5, rfl, P12.now, (by decide), (by decide), fun m H3 m0 m5 P3 => ⟨_, rfl, (by omega), (by omega), fun D hD => lc_range (lo := 0) (n := m.toNat) (fun i H4 => ∃ ls : List Int, H4 D = some (.lst (ls.map V.int)) ∧ ls.length = i ∧ Pl H H4 p s0) ⟨[], upd_same, rfl, (P12.trans P3).new hD⟩ ?_ ?_⟩⟩
      · rintro i H4 hi ⟨ls, h1, h2, P4⟩
        have hDp : D ≠ p := fun z => P3.now.ne.1 (z ▸ hD)
        have hD0 : H D = none := (P12.trans P3).free hD
        refine ⟨rfl, _, rfl, _, rfl, f, _, rfl, .inl (SqL.of (P4.keep hf hfp)), p, s0, _, rfl, P4.now, (by omega), (by omega), fun g H5 g0 g1 P5 => ⟨_, P5.keep h1 hDp, (by rw [List.length_map]; exact small1000 (by omega)), ls ++ [g], ?_, by rw [List.length_append]; show ls.length + 1 = i + 1; omega, (P4.trans P5).lstAt hD0 (P5.keep h1 hDp)⟩⟩
        rw [upd_same, List.map_append]
        rfl
      · rintro H4 ⟨ls, h1, h2, P4⟩
        refine ⟨D, _, rfl, .inl ⟨SqL.of h1, fun c hc => fin c _ _ (P4.new hc) upd_same (by rw [List.length_map]; omega) fun x hx => ?_⟩⟩
        obtain ⟨n, _, rfl⟩ := List.mem_map.mp hx
        exact isi_int
    refine ⟨_, rfl, _, rfl, _, rfl, noPart (slA_use ht2 fun a1 H3 s3 h3 => ⟨_, rfl, _, rfl, _, rfl, slA_use (s3 _ _ ht2) fun a2 H4 s4 h4 => catA_use (s4 _ _ h3) h4 (le2 cl cl) fun c H5 s5 h5 => fin c H5 _ (P12.same ((s3.trans s4).trans s5)) h5 (by rw [List.length_append]; exact le2 cl cl) fun x hx => ?_⟩)⟩
    rcases List.mem_append.mp hx with h | h
    · exact intM (cut_mem h)
    · exact intM (cut_mem h)
end
end Ash

set_option Elab.async false
set_option linter.all false
set_option maxRecDepth 100000
set_option maxHeartbeats 4000000
namespace Ash
open PySem PySem.Spec PyProof.Rows L2
open C8 (pss_cut)
/-! ### facts as data -/
def tdat (t : T3) : PyData := .tuple [.int t.1, .int t.2.1, .int t.2.2]
theorem t_dp {K : PySem.W.Frag} {H : Hp} {e : Addr} {t : T3} (h : H e = some (.tup (tv t))) : Dp K H (.ref e) (tdat t) := .tup (SqT.of h) (.cons (.int _) (.cons (.int _) (.cons (.int _) .nil)))
theorem t_shaped (t : T3) : SeqAt.shaped (tdat t) = true := shaped_flat (by simp [flatD])
theorem t_lay (t : T3) : (tdat t).canLay0 = true ∧ (tdat t).depth ≤ 2 := by
  obtain ⟨h1, h2⟩ := flat_lay (ds := [.int t.1, .int t.2.1, .int t.2.2]) (by simp [flatD])
  unfold tdat
  simp [PyData.canLay0, PyData.depth, h1]
  omega
theorem ts_lay : ∀ (ts : List T3), PyData.canLayAll0 (ts.map tdat) = true ∧ PyData.depthAll (ts.map tdat) ≤ 2
  | [] => by simp [PyData.canLayAll0, PyData.depthAll]
  | t :: ts => by
    obtain ⟨h1, h2⟩ := ts_lay ts
    obtain ⟨h3, h4⟩ := t_lay t
    rw [List.map_cons]
    simp only [PyData.canLayAll0, PyData.depthAll, h1, h3, Bool.and_self, true_and]
    exact Nat.max_le.mpr ⟨h4, h2⟩
theorem ts_shaped (ts : List T3) : SeqAt.shaped (.list (ts.map tdat)) = true := by
  obtain ⟨h1, h2⟩ := ts_lay ts
  unfold SeqAt.shaped
  simp [PyData.canLay0, PyData.depth, h1]
  omega
theorem t_eqv (t u : T3) : PyData.eqv (tdat t) (tdat u) = decide (t = u) := by
  obtain ⟨a, b, c⟩ := t
  obtain ⟨a', b', c'⟩ := u
  unfold tdat
  simp only [PyData.eqv, PyData.eqvAll, Prod.mk.injEq]
  by_cases e1 : a = a' <;> by_cases e2 : b = b' <;> by_cases e3 : c = c' <;> simp [e1, e2, e3]
theorem TrAt.dpA {K : PySem.W.Frag} {H : Hp} : ∀ {ys : List V} {ts : List T3}, TrAt H ys ts → DpAll K H ys (ts.map tdat)
  | [], [], _ => .nil
  | [], _ :: _, h => by have := h.1; simp at this
  | _ :: _, [], h => by have := h.1; simp at this
  | v :: ys, t :: ts, h => by
    obtain ⟨e, rfl, h2⟩ := h.2 0 v t rfl rfl
    exact .cons (t_dp h2) (TrAt.dpA ⟨by have := h.1; simpa using this, fun i v t a b => h.2 (i + 1) v t a b⟩)
theorem TrAt.dp {K : PySem.W.Frag} {H : Hp} {q : Addr} {ys : List V} {ts : List T3} (h : TrAt H ys ts) (hq : SqL K H q ys) : Dp K H (.ref q) (.list (ts.map tdat)) := .lst hq h.dpA
theorem TrAt.app {H : Hp} {us vs : List V} {ts ws : List T3} (h : TrAt H us ts) (k : TrAt H vs ws) : TrAt H (us ++ vs) (ts ++ ws) := by
  refine ⟨by rw [List.length_append, List.length_append, h.1, k.1], fun i v t a b => ?_⟩
  by_cases hi : i < us.length
  · rw [List.getElem?_append_left hi] at a
    rw [List.getElem?_append_left (by rw [← h.1]; exact hi)] at b
    exact h.2 i v t a b
  · rw [List.getElem?_append_right (by omega)] at a
    rw [List.getElem?_append_right (by rw [← h.1]; omega), ← h.1] at b
    exact k.2 _ v t a b
theorem TrAt.tak {H : Hp} {us : List V} {ts : List T3} (h : TrAt H us ts) (k : Nat) : TrAt H (us.take k) (ts.take k) := by
  refine ⟨by rw [List.length_take, List.length_take, h.1], fun i v t a b => ?_⟩
  rw [List.getElem?_take] at a b
  by_cases c : i < k
  · rw [if_pos c] at a b
    exact h.2 i v t a b
  · rw [if_neg c] at a
    cases a
theorem TrAt.drp {H : Hp} {us : List V} {ts : List T3} (h : TrAt H us ts) (k : Nat) : TrAt H (us.drop k) (ts.drop k) := by
  refine ⟨by rw [List.length_drop, List.length_drop, h.1], fun i v t a b => ?_⟩
  rw [List.getElem?_drop] at a b
  exact h.2 _ v t a b
theorem TrAt.one {H : Hp} {e : Addr} {t : T3} (h : H e = some (.tup (tv t))) : TrAt H [.ref e] [t] := TrAt.snoc (us := []) (ts := []) ⟨rfl, fun i v t a b => by simp at a⟩ h
theorem good_ins {n k : Nat} {ts : List T3} {t : T3} (h : BF.Good n ts) (ht : 0 ≤ t.1 ∧ t.1 < n ∧ 0 ≤ t.2.1 ∧ t.2.1 < n) : BF.Good n (ts.take k ++ [t] ++ ts.drop k) := fun u hu => by
  rcases List.mem_append.mp hu with q | q
  · rcases List.mem_append.mp q with q | q
    · exact h u (List.mem_of_mem_take q)
    · rw [List.mem_singleton.mp q]
      exact ht
  · exact h u (List.mem_of_mem_drop q)
theorem cut_map {ns : List Int} {lo hi : Option Int} : ∃ ms : List Int, cutV (ns.map V.int) lo hi = ms.map V.int ∧ ms.length = HT.sIx ns.length ns.length hi - HT.sIx ns.length 0 lo := by
  refine ⟨(ns.drop (HT.sIx ns.length 0 lo)).take (HT.sIx ns.length ns.length hi - HT.sIx ns.length 0 lo), ?_, ?_⟩
  · unfold cutV
    rw [List.length_map, List.map_take, List.map_drop]
  · rw [List.length_take, List.length_drop]
    have : HT.sIx ns.length ns.length hi ≤ ns.length := HT.sIx_le _ _ (Nat.le_refl _) hi
    omega
theorem pe_cal0 {X : Cx} {CX : CXT} {k : Nat} {sp : Sp} {E : XK} {x : Str} {p pos : Pos} (G : Cal X.prog X.w X.K X.mg X.base CX x k [] sp) (hr : Room k X.A) (hx : Passes CX X E) (hg : Gl X x := by rfl)
    (hdb : (x == ("__debug__" : Str)) = false := by decide) : PE X (.Call (.Name x p) [] [] pos) (tCall sp [] E tNil) := by
  obtain ⟨f, fd, hm, hk, hb, F⟩ := G.ex
  exact pe_call0 F hr hg hm hk hb .nil hx hdb
def spLaw (K : PySem.W.Frag) : Sp := fun vs H Q _ => ∃ (a : Addr) (ns : List Int), vs = [.ref a] ∧ SqL K H a (ns.map V.int) ∧ ns.length ≤ 63 ∧ ∀ H', Q (.bl true) H'
/-- what a turn has made: the facts at f, their indexes at D -/
structure Tn (H : Hp) (p s c1 f D : Addr) (n l1 l2 : Nat) (us1 us : List V) (ts : List T3) (ns : List Int) : Prop where
  pool : PoolAt H p s
  one : H c1 = some (.lst us1)
  one_len : us1.length = l1
  fs : Fs H f us ts
  good : BF.Good n ts
  len : us.length = l1 + l2
  is : H D = some (.lst (ns.map V.int))
  nl : ns.length = l1 + l2
  fp : f ≠ p
  cp : c1 ≠ p
  dp : D ≠ p
  cf : c1 ≠ f
  df : D ≠ f
  fq : f ≠ s
theorem Tn.same {H H' : Hp} {p s c1 f D : Addr} {n l1 l2 : Nat} {us1 us : List V} {ts : List T3} {ns : List Int} (T : Tn H p s c1 f D n l1 l2 us1 us ts ns) (e : Same H H') : Tn H' p s c1 f D n l1 l2 us1 us ts ns :=
  ⟨T.pool.same e, e _ _ T.one, T.one_len, T.fs.same e, T.good, T.len, e _ _ T.is, T.nl, T.fp, T.cp, T.dp, T.cf, T.df, T.fq⟩
theorem Tn.pl {H H' : Hp} {p s c1 f D : Addr} {n l1 l2 : Nat} {us1 us : List V} {ts : List T3} {ns : List Int} (T : Tn H p s c1 f D n l1 l2 us1 us ts ns) (e : Pl H H' p s) : Tn H' p s c1 f D n l1 l2 us1 us ts ns :=
  ⟨e.now, e.keep T.one T.cp, T.one_len, ⟨e.keep T.fs.l T.fp, T.fs.t.tk fun _ _ h => e.ev.tup h, T.fs.n⟩, T.good, T.len, e.keep T.is T.dp, T.nl, T.fp, T.cp, T.dp, T.cf, T.df, T.fq⟩
/-- tuples of ints -/
theorem th_im {K : PySem.W.Frag} {H : Hp} {t : Addr} {xs : List V} (h : H t = some (.tup xs)) (hn : xs.length ≤ 1000) (hx : ∀ x ∈ xs, ∃ n, x = V.int n) : ∃ o, ThAt K H (.ref t) o := by
  obtain ⟨ds, e⟩ := th_any (K := K) h hn fun x h => by
    obtain ⟨n, rfl⟩ := hx x h
    exact isi_int
  exact ⟨_, e⟩
theorem ints_map {ms : List Int} : ∀ x ∈ ms.map V.int, ∃ n, x = V.int n := fun x h => by
  obtain ⟨n, _, rfl⟩ := List.mem_map.mp h
  exact ⟨n, rfl⟩
theorem ints_app {xs ys : List V} (h : ∀ x ∈ xs, ∃ n, x = V.int n) (k : ∀ x ∈ ys, ∃ n, x = V.int n) : ∀ x ∈ xs ++ ys, ∃ n, x = V.int n := fun x q => (List.mem_append.mp q).elim (h x) (k x)
/-- the things at g, the two ways at t1, t2 -/
structure Tg (K : PySem.W.Frag) (H : Hp) (p s f g t1 t2 : Addr) (vs : List V) (m1 m2 : List Int) (n : Nat) : Prop where
  l : H g = some (.lst vs)
  n : vs.length ≤ n
  gp : g ≠ p
  gf : g ≠ f
  gs : g ≠ s
  th : ∀ v ∈ vs, ∃ o, ThAt K H v o
  e1 : H t1 = some (.tup (m1.map V.int))
  e2 : H t2 = some (.tup (m2.map V.int))
  a1 : 1 ≤ m1.length
  b1 : m1.length ≤ 5
  a2 : 1 ≤ m2.length
  b2 : m2.length ≤ 5
theorem Tg.ev {K : PySem.W.Frag} {H H' : Hp} {p s f g t1 t2 : Addr} {vs : List V} {m1 m2 : List Int} {n : Nat} (T : Tg K H p s f g t1 t2 vs m1 m2 n) (e : Ev H H') (h : H' g = some (.lst vs)) : Tg K H' p s f g t1 t2 vs m1 m2 n :=
  ⟨h, T.n, T.gp, T.gf, T.gs, fun v hv => let ⟨o, q⟩ := T.th v hv; ⟨o, q.ev e⟩, e.tup T.e1, e.tup T.e2, T.a1, T.b1, T.a2, T.b2⟩
theorem Tg.same {K : PySem.W.Frag} {H H' : Hp} {p s f g t1 t2 : Addr} {vs : List V} {m1 m2 : List Int} {n : Nat} (T : Tg K H p s f g t1 t2 vs m1 m2 n) (e : Same H H') : Tg K H' p s f g t1 t2 vs m1 m2 n := T.ev (Ev.same e) (e _ _ T.l)
theorem Tg.pl {K : PySem.W.Frag} {H H' : Hp} {p s f g t1 t2 : Addr} {vs : List V} {m1 m2 : List Int} {n : Nat} (T : Tg K H p s f g t1 t2 vs m1 m2 n) (e : Pl H H' p s) : Tg K H' p s f g t1 t2 vs m1 m2 n := T.ev e.ev (e.keep T.l T.gp)
theorem Tg.put {K : PySem.W.Frag} {H : Hp} {p s f g t1 t2 : Addr} {vs : List V} {m1 m2 : List Int} {n : Nat} {v : V} (T : Tg K H p s f g t1 t2 vs m1 m2 n) (hv : ∃ o, ThAt K H v o) : Tg K (upd H g (.lst (vs ++ [v]))) p s f g t1 t2 (vs ++ [v]) m1 m2 (n + 1) := by
  have e : Ev H (upd H g (.lst (vs ++ [v]))) := (Ev.refl H).updL T.l
  refine ⟨upd_same, by rw [List.length_append]; exact Nat.succ_le_succ T.n, T.gp, T.gf, T.gs, fun u hu => ?_, e.tup T.e1, e.tup T.e2, T.a1, T.b1, T.a2, T.b2⟩
  rcases List.mem_append.mp hu with h | h
  · obtain ⟨o, q⟩ := T.th u h
    exact ⟨o, q.ev e⟩
  · rw [List.mem_singleton.mp h]
    obtain ⟨o, q⟩ := hv
    exact ⟨o, q.ev e⟩
theorem Fs.off {H : Hp} {f g : Addr} {us vs ws : List V} {ts : List T3} (h : Fs H f us ts) (n : g ≠ f) (hg : H g = some (.lst vs)) : Fs (upd H g (.lst ws)) f us ts :=
  ⟨by rw [upd_ne n.symm]; exact h.l, h.t.tk fun a xs e => ((Ev.refl H).updL hg).tup e, h.n⟩
theorem Fs.pl {H H' : Hp} {p s f : Addr} {us : List V} {ts : List T3} (h : Fs H f us ts) (n : f ≠ p) (e : Pl H H' p s) : Fs H' f us ts := ⟨e.keep h.l n, h.t.tk fun _ _ q => e.ev.tup q, h.n⟩
section
variable {P : Program} {w : World} {K : PySem.W.Frag} {mg : Str → Option Value} {base : Heap}
structure G4 (P : Program) (w : World) (K : PySem.W.Frag) (mg : Str → Option Value) (base : Heap) : Prop extends G3 P w K mg base where
  law_state : Cal P w K mg base CX0 "_law_state" 1 ["script"] (spPool K)
  law_circle : Cal P w K mg base CX0 "_law_circle" 3 ["state", "count", "start", "many", "total"] spCircle
  law_due : Cal P w K mg base CX0 "_law_due" 2 ["facts", "thing"] (spDue K)
  law_deep : Cal P w K mg base CX0 "_law_deep" 1 [] (spDeep K)
  law_spoilt : Cal P w K mg base CX0 "_law_spoilt" 3 ["state", "facts", "thing"] (spSpoilt K)
  is_ring : Cal P w K mg base CX0 "is_ring" 5 ["facts", "thing"] (spIsRing K)
  ring : Cal P w K mg base CX0 "ring" 5 ["count", "facts"] spRing
abbrev s_law : Stmt := topS 24
theorem sc_law : FnScope ["script", "state", "count", "start", "turn", "totals", "one", "two", "facts", "thing", "fact", "at", "first", "second", "things", "good", "handed", "told", "k", "place"] ["script"] (defScope s_law) := ⟨rfl, rfl, rfl, by decide +kernel, rfl, by decide +kernel, by decide +kernel⟩
theorem ok_law {f : Addr} {fd : FuncData} (F : Fun K "law" "law" s_law f fd) (B : Blt mg) (G : G4 P w K mg base) : FnOk P w K mg base CX0 6 f fd ["script"] (spLaw K) := by
  refine F.ok sc_law (fun vs H Q E h => ?_) (fun cdv A outer s H vs Q E hr h => ?_)
  · obtain ⟨a, ns, rfl, _⟩ := h
    rfl
  · obtain ⟨a, ns, rfl, hS, hn, q⟩ := h
    refine ⟨_, (pss_cons (ps_set (i := 1) sc_law.nd rfl (Or.inl rfl) (pe_cal G.law_state (hr.mono (by decide)) pass0 (pa_cons (pv 0) pa_nil)))
    (pss_cons (ps_set (i := 2) sc_law.nd rfl (Or.inl rfl) (pe_op op_add pe_int (pe_cal G.law_draw (hr.mono (by decide)) pass0 (pa_cons (pv 1) (pa_cons pe_int pa_nil)))))
    (pss_cons (ps_set (i := 3) sc_law.nd rfl (Or.inl rfl) (pe_cal G.law_draw (hr.mono (by decide)) pass0 (pa_cons (pv 1) (pa_cons (pv 2) pa_nil))))
    (pss_cons (ps_for PassesOwn.never rfl (pi_range1 (by rfl) B.range (pa_cons (pe_op op_add pe_int (pe_cal G.law_draw (hr.mono (by decide)) pass0 (pa_cons (pv 1) (pa_cons pe_int pa_nil)))) pa_nil)) (pg_name (i := 4) sc_law.nd rfl (Or.inl rfl))
      (pss_cons (ps_set (i := 5) sc_law.nd rfl (Or.inl rfl) (pe_lst (pa_cons (pe_un un_neg pe_int) (pa_cons pe_int (pa_cons pe_int (pa_cons (pe_cal G.law_number (hr.mono (by decide)) pass0 (pa_cons (pv 1) pa_nil)) (pa_cons (pe_op op_sub (pe_un un_neg pe_int) (pe_cal G.law_draw (hr.mono (by decide)) pass0 (pa_cons (pv 1) (pa_cons pe_int pa_nil)))) pa_nil)))))))
      (pss_cons (ps_set (i := 6) sc_law.nd rfl (Or.inl rfl) (pe_cal G.law_circle (hr.mono (by decide)) pass0 (pa_cons (pv 1) (pa_cons (pv 2) (pa_cons (pv 3) (pa_cons (pe_op op_add pe_int (pe_cal G.law_draw (hr.mono (by decide)) pass0 (pa_cons (pv 1) (pa_cons pe_int pa_nil)))) (pa_cons (pe_ix ix_list (pv 5) (pe_cal G.law_draw (hr.mono (by decide)) pass0 (pa_cons (pv 1) (pa_cons pe_int pa_nil))) (fun _ _ => rfl)) pa_nil)))))))
      (pss_cons (ps_set (i := 7) sc_law.nd rfl (Or.inl rfl) (pe_cal G.law_circle (hr.mono (by decide)) pass0 (pa_cons (pv 1) (pa_cons (pv 2) (pa_cons (pv 3) (pa_cons (pe_op op_add pe_int (pe_cal G.law_draw (hr.mono (by decide)) pass0 (pa_cons (pv 1) (pa_cons pe_int pa_nil)))) (pa_cons (pe_ix ix_list (pv 5) (pe_cal G.law_draw (hr.mono (by decide)) pass0 (pa_cons (pv 1) (pa_cons pe_int pa_nil))) (fun _ _ => rfl)) pa_nil)))))))
      (pss_cons (ps_set (i := 8) sc_law.nd rfl (Or.inl rfl) (pe_callTy call_list_of (by rfl) B.list (by decide +kernel) (pa_cons (pv 6) pa_nil)))
      (pss_cons (ps_setLc (i := 9) (own := [("k", 18)]) (g := gName 18) (tt := tYes) (by rfl) sc_law.nd rfl rfl (sw_true rfl rfl rfl (by decide +kernel)) (pi_range1 (by rfl) B.range (pa_cons (pe_callB call_len_seq (by rfl) B.len (by decide +kernel) (pa_cons (pv 6) pa_nil)) pa_nil)) (blkOk_by (own := [("k", 18)]) (N := ["script", "state", "count", "start", "turn", "totals", "one", "two", "facts", "thing", "fact", "at", "first", "second", "things", "good", "handed", "told", "k", "place"]) (sc := defScope s_law) (by decide +kernel)) (fun _ _ _ _ _ => (pg_name (i := 18) sc_law.nd rfl (Or.inl rfl))) (fun _ _ _ _ _ => pts_nil) (fun _ _ _ _ _ => (pv 18)))
      (pss_cons (ps_for PassesOwn.never rfl (pi_list (pv 7)) (pg_name (i := 10) sc_law.nd rfl (Or.inl rfl))
        (pss_cons (ps_set (i := 11) sc_law.nd rfl (Or.inr rfl) (pe_cal G.law_draw (hr.mono (by decide)) pass0 (pa_cons (pv 1) (pa_cons (pe_op op_add (pe_callB call_len_seq (by rfl) B.len (by decide +kernel) (pa_cons (pv 8) pa_nil)) pe_int) pa_nil))))
        (pss_cons (ps_expr (pe_bm PySem.F.plainAttrs_list PySem.F.slot_list_insert PySem.F.type_list_insert mt_insert (pv 8) (pa_cons (pv 11) (pa_cons (pv 10) pa_nil))))
        (pss_one (ps_set (i := 9) sc_law.nd rfl (Or.inl rfl) (pe_op op_cat (pe_lc (own := [("place", 19)]) (g := gName 19) (tt := tYes) (by rfl) sc_law.nd (pi_list (pv 9)) (blkOk_by (own := [("place", 19)]) (N := ["script", "state", "count", "start", "turn", "totals", "one", "two", "facts", "thing", "fact", "at", "first", "second", "things", "good", "handed", "told", "k", "place"]) (sc := defScope s_law) (by decide +kernel)) (fun _ _ _ _ _ => (pg_name (i := 19) sc_law.nd rfl (Or.inl rfl))) (fun _ _ _ _ _ => pts_nil) (fun _ _ _ _ _ => (pe_op op_add (pv 19) (pe_callTy call_int1 (by rfl) B.int (by decide +kernel) (pa_cons (pe_cmpR op_ge (pv 19) (pv 11) (nomark _)) pa_nil))))) (pe_lst (pa_cons (pv 11) pa_nil))))))))
      (pss_cons (ps_set (i := 12) sc_law.nd rfl (Or.inl rfl) (pe_callTy call_tuple_of (by rfl) B.tuple (by decide +kernel) (pa_cons (pe_slice sl_list (pv 9) po_none (po_some (pe_callB call_len_seq (by rfl) B.len (by decide +kernel) (pa_cons (pv 6) pa_nil)))) pa_nil)))
      (pss_cons (ps_set (i := 13) sc_law.nd rfl (Or.inl rfl) (pe_callTy call_tuple_of (by rfl) B.tuple (by decide +kernel) (pa_cons (pe_slice sl_list (pv 9) (po_some (pe_callB call_len_seq (by rfl) B.len (by decide +kernel) (pa_cons (pv 6) pa_nil))) po_none) pa_nil)))
      (pss_cons (ps_set (i := 14) sc_law.nd rfl (Or.inl rfl) (pe_lst (pa_cons (pv 12) (pa_cons (pv 13) (pa_cons (pe_op op_catA (pv 12) (pv 13)) (pa_cons (pe_op op_catA (pe_op op_catA (pv 13) (pv 12)) (pv 13)) (pa_cons (pe_tup pa_nil) pa_nil)))))))
      (pss_cut (ps_if (PW.pt (pw_and (pt_cmpR op_eq (pv 4) pe_int (nomark _)) (pw_and1 (pt_cmpR op_eq (pe_cal G.law_draw (hr.mono (by decide)) pass0 (pa_cons (pv 1) (pa_cons pe_int pa_nil))) pe_int (nomark _)))))
        (pss_one (ps_set (i := 14) sc_law.nd rfl (Or.inl rfl) (pe_op op_cat (pv 14) (pe_lst (pa_cons (pe_cal0 G.law_deep (hr.mono (by decide)) pass0) (pa_cons (pe_op op_catA (pv 12) (pe_tup (pa_cons (pe_cal0 G.law_deep (hr.mono (by decide)) pass0) pa_nil))) pa_nil))))))
        pss_nil)
      (pss_cons (ps_for PassesOwn.never rfl (pi_list (pe_lst (pa_cons (pv 12) (pa_cons (pv 13) (pa_cons (pe_op op_catA (pv 12) (pv 13)) pa_nil))))) (pg_name (i := 15) sc_law.nd rfl (Or.inl rfl))
        (pss_cons (ps_expr (pe_bm PySem.F.plainAttrs_list PySem.F.slot_list_append PySem.F.type_list_append mt_append (pv 14) (pa_cons (pe_cal G.law_spoilt (hr.mono (by decide)) pass0 (pa_cons (pv 1) (pa_cons (pv 8) (pa_cons (pv 15) pa_nil)))) pa_nil)))
        (pss_one (ps_expr (pe_bm PySem.F.plainAttrs_list PySem.F.slot_list_append PySem.F.type_list_append mt_append (pv 14) (pa_cons (pe_cal G.law_spoilt (hr.mono (by decide)) pass0 (pa_cons (pv 1) (pa_cons (pv 8) (pa_cons (pv 15) pa_nil)))) pa_nil))))))
      (pss_cons (ps_for PassesOwn.never rfl (pi_list (pv 14)) (pg_name (i := 9) sc_law.nd rfl (Or.inl rfl))
        (pss_cons (ps_set (i := 16) sc_law.nd rfl (Or.inl rfl) (pe_callTy call_list_of (by rfl) B.list (by decide +kernel) (pa_cons (pv 8) pa_nil)))
        (pss_cons (ps_set (i := 17) sc_law.nd rfl (Or.inl rfl) (pe_cal G.is_ring (hr.mono (by decide)) pass0 (pa_cons (pv 16) (pa_cons (pv 9) pa_nil))))
        (pss_one (ps_if (PW.pt (pw_or (pt_not (pt_val (pe_callB call_isi (by rfl) B.isinstance (by decide +kernel) (pa_cons (pv 17) (pa_cons (pe_bltn (v := .ty "bool") (by rfl) B.bool (by decide +kernel) rfl) pa_nil))))) (pw_or (pt_cmpR op_ne (pv 17) (pe_cal G.law_due (hr.mono (by decide)) pass0 (pa_cons (pv 8) (pa_cons (pv 9) pa_nil))) (nomark _)) (pw_or1 (pt_cmpR (op_neD hr.units) (pv 16) (pv 8) (nomark _))))))
          (pss_one (ps_ret pe_bl))
          pss_nil)))))
      (pss_one (ps_if (PW.pt (pw_and (pt_cmpR op_isN (pe_cal G.ring (hr.mono (by decide)) pass0 (pa_cons (pv 2) (pa_cons (pv 8) pa_nil))) pe_non (nomark _)) (pw_and1 (PW.pt (pw_or (pt_val (pe_cal G.law_due (hr.mono (by decide)) pass0 (pa_cons (pv 8) (pa_cons (pv 12) pa_nil)))) (pw_or1 (pt_val (pe_cal G.law_due (hr.mono (by decide)) pass0 (pa_cons (pv 8) (pa_cons (pv 13) pa_nil))))))))))
        (pss_one (ps_ret pe_bl))
        pss_nil)))))))))))))))
    (pss_one (ps_ret pe_bl)))))), ?_⟩
    refine ⟨_, rfl, a, ns, rfl, hS, fun p s0 H1 hp P1 s1 => ⟨_, rfl, p, s0, 8, rfl, P1, (by decide), (by decide), fun c H2 c0 c8 P2 => ⟨_, _, rfl, rfl, _, rfl, _, rfl, p, s0, _, rfl, P2.now, ?_, ?_, fun st H3 t0 t1 P3 => ⟨_, rfl, p, s0, 8, rfl, P3.now, (by decide), (by decide), fun tn H4 n0 n8 P4 => ⟨_, _, rfl, rfl, ?_⟩⟩⟩⟩⟩
    · show (0 : Int) < 1 + c
      omega
    · show (1 : Int) + c < 2 ^ 200
      omega
    have t1 : st < 1 + c := t1
    obtain ⟨cn, hcn⟩ : ∃ cn : Nat, (1 : Int) + c = (cn : Int) := ⟨(1 + c).toNat, by omega⟩
    refine ⟨_, rfl, ?_, ?_, for_range (n := ((1 : Int) + tn).toNat) (fun i σ H5 => (∃ x4 x5 x6 x7 x8 x9 x10 x11 x12 x13 x14 x15 x16 x17 x18 x19 : Option V, σ = [some (.ref a), some (.ref p), some (.int cn), some (.int st), x4, x5, x6, x7, x8, x9, x10, x11, x12, x13, x14, x15, x16, x17, x18, x19]) ∧ PoolAt H5 p s0) ?_ ?_ ?_⟩
    · show -(2 ^ 62) ≤ (1 : Int) + tn
      omega
    · show (1 : Int) + tn < 2 ^ 62
      omega
    · refine ⟨⟨none, none, none, none, none, none, none, none, none, none, none, none, none, none, none, none, ?_⟩, P4.now⟩
      rw [← hcn]
      rfl
    · rintro i σ H5 hi ⟨⟨x4, x5, x6, x7, x8, x9, x10, x11, x12, x13, x14, x15, x16, x17, x18, x19, rfl⟩, P5⟩
      refine ⟨_, rfl, _, rfl, p, s0, rfl, P5, fun n1 H6 P6 => ⟨_, rfl, _, rfl, p, s0, 9, rfl, P6.now, (by decide), (by decide), fun d H7 d0 d9 P7 => ⟨_, _, rfl, rfl, (by show 5 ≤ sizeLine; decide), fun tl htl => ?_⟩⟩⟩
      have tlp : tl ≠ p := fun z => P7.now.ne.1 (z ▸ htl)
      have tot : ∀ g : Int, 0 ≤ g → g < 5 → ∃ t : Int, atI ([.int (-1), .int 0, .int 1, .int n1, .int (-1 - d)] : List V) g = some (.int t) := fun g g0 g5 => by
        have : g = 0 ∨ g = 1 ∨ g = 2 ∨ g = 3 ∨ g = 4 := by omega
        rcases this with rfl | rfl | rfl | rfl | rfl <;> exact ⟨_, rfl⟩
      have P8 := (Pl.refl P7.now).new htl (o := .lst [.int (-1), .int 0, .int 1, .int n1, .int (-1 - d)])
      have ht8 : (upd H7 tl (.lst [.int (-1), .int 0, .int 1, .int n1, .int (-1 - d)])) tl = some (.lst [.int (-1), .int 0, .int 1, .int n1, .int (-1 - d)]) := upd_same
      refine ⟨_, rfl, _, rfl, _, rfl, _, rfl, p, s0, 5, rfl, P8.now, (by decide), (by decide), fun m1 H9 a0 a5 P9 => ⟨_, _, rfl, rfl, _, rfl, _, rfl, p, s0, 5, rfl, P9.now, (by decide), (by decide), fun g1 H10 g10 g15 P10 => ?_⟩⟩
      have ht10 := P10.keep (P9.keep ht8 tlp) tlp
      obtain ⟨tot1, htot1⟩ := tot g1 g10 g15
      refine ⟨tl, _, _, .int tot1, rfl, rfl, SqL.of ht10, htot1, p, s0, cn, st, 1 + m1, tot1, rfl, P10.now, (by omega), (by omega), t0, (by omega), (by omega), (by omega), fun c1 us1 ts1 H11 P11 hc1 hu1 hT1 hl1 hG1 => ?_⟩
      have ht11 := P11.keep ht10 tlp
      refine ⟨_, rfl, _, rfl, _, rfl, _, rfl, p, s0, 5, rfl, P11.now, (by decide), (by decide), fun m2 H12 b0 b5 P12 => ⟨_, _, rfl, rfl, _, rfl, _, rfl, p, s0, 5, rfl, P12.now, (by decide), (by decide), fun g2 H13 g20 g25 P13 => ?_⟩⟩
      have ht13 := P13.keep (P12.keep ht11 tlp) tlp
      obtain ⟨tot2, htot2⟩ := tot g2 g20 g25
      refine ⟨tl, _, _, .int tot2, rfl, rfl, SqL.of ht13, htot2, p, s0, cn, st, 1 + m2, tot2, rfl, P13.now, (by omega), (by omega), t0, (by omega), (by omega), (by omega), fun c2 us2 ts2 H14 P14 hc2 hu2 hT2 hl2 hG2 => ?_⟩
      have c1p : c1 ≠ p := fun z => P10.now.ne.1 (z ▸ hc1)
      have c2p : c2 ≠ p := fun z => P13.now.ne.1 (z ▸ hc2)
      have Q14 := (P12.trans P13).trans P14
      have hu1' := Q14.keep hu1 c1p
      have hT1' : TrAt H14 us1 ts1 := hT1.tk fun t xs e => Q14.ev.tup e
      generalize hL1 : (1 + m1).toNat = l1 at hl1
      generalize hL2 : (1 + m2).toNat = l2 at hl2
      refine ⟨_, rfl, c1, _, rfl, .inl (SqL.of hu1'), fun f hf => ?_⟩
      have sf : Same H14 (upd H14 f (.lst us1)) := sameAt (Same.refl _) hf
      have hfl : (upd H14 f (.lst us1)) f = some (.lst us1) := upd_same
      have fp : f ≠ p := fun z => P14.now.ne.1 (z ▸ hf)
      have c1f : c1 ≠ f := ne_of_none hu1' hf
      have fq : f ≠ s0 := fun z => P14.now.ne.2 (z ▸ hf)
      have c2f : c2 ≠ f := ne_of_none hu2 hf
      have P15 := P14.now.same sf
      have hu1f := sf _ _ hu1'
      have hu2f := sf _ _ hu2
      have hT1f := hT1'.tk fun t xs e => sf _ _ e
      have hT2f := hT2.tk fun t xs e => sf _ _ e
      generalize upd H14 f (.lst us1) = H15 at sf hfl P15 hu1f hu2f hT1f hT2f ⊢
      refine ⟨_, rfl, c1, _, rfl, .inl (SqL.of hu1f), _, rfl, (by omega), (by omega), fun D hD => lc_range (n := us1.length) (fun i H => H D = some (.lst (((List.range i).map fun j : Nat => (0 : Int) + (j : Int)).map V.int)) ∧ Same H15 H) ⟨upd_same, sameAt (Same.refl _) hD⟩ ?_ ?_⟩
      · rintro i H16 hi ⟨h1, s16⟩
        refine ⟨rfl, _, rfl, _, h1, (by rw [List.length_map, List.length_map, List.length_range]; exact small1000 (by omega)), ?_, sameAt s16 hD⟩
        rw [upd_same, List.range_succ, List.map_append, List.map_append]
        rfl
      rintro H16 ⟨hD16, s16⟩
      have Dp_ : D ≠ p := fun z => P15.ne.1 (z ▸ hD)
      have Df : D ≠ f := fun z => by rw [z, hfl] at hD; cases hD
      refine ⟨_, rfl, c2, rfl, ⟨_, SqL.of (s16 _ _ hu2f)⟩, for_list (a := c2) (xs := us2) (fun k σ H => ∃ (D' : Addr) (ns : List Int) (us : List V) (ts : List T3), (∃ y10 y11, σ = [some (.ref a), some (.ref p), some (.int cn), some (.int st), some (.int ((0 : Int) + (i : Int))), some (.ref tl), some (.ref c1), some (.ref c2), some (.ref f), some (.ref D'), y10, y11, x12, x13, x14, x15, x16, x17, x18, x19]) ∧ Tn H p s0 c1 f D' cn l1 k us1 us ts ns ∧ H c2 = some (.lst us2) ∧ TrAt H us2 ts2) ?_ (fun k σ H _ hv => ?_) ?_ ?_⟩
      · refine ⟨D, _, us1, ts1, ⟨_, _, rfl⟩, ⟨P15.same s16, s16 _ _ hu1f, hl1, ⟨s16 _ _ hfl, hT1f.tk fun t xs e => s16 _ _ e, by omega⟩, hG1, hl1, hD16, by rw [List.length_map, List.length_range]; exact hl1, fp, c1p, Dp_, c1f, Df, fq⟩, s16 _ _ hu2f, hT2f.tk fun t xs e => s16 _ _ e⟩
      · obtain ⟨_, _, _, _, _, _, h, _⟩ := hv
        exact SqL.of h
      · rintro k x σ H17 hk ⟨D', ns', us, ts, ⟨y10, y11, rfl⟩, T, hu2k, hT2k⟩
        have hkl : k < us2.length := (List.getElem?_eq_some_iff.mp hk).1
        have hkt : ts2[k]? = some (ts2[k]'(by rw [← hT2k.1]; exact hkl)) := List.getElem?_eq_getElem (by rw [← hT2k.1]; exact hkl)
        obtain ⟨e, he1, he2⟩ := hT2k.at hkt
        rw [hk] at he1
        cases he1
        have hgk := hG2 _ (List.mem_of_getElem? hkt)
        generalize ts2[k]'(by rw [← hT2k.1]; exact hkl) = tk at hkt he2 hgk
        have ul := T.len
        refine ⟨_, rfl, _, rfl, f, _, rfl, .inl (SqL.of T.fs.l), _, _, rfl, rfl, p, s0, _, rfl, T.pool, (by show (0 : Int) < us.length + 1; omega), (by show ((us.length : Int) + 1) < 2 ^ 200; omega), fun at_ H18 a0 a1 P18 => ?_⟩
        have hf18 := P18.keep T.fs.l T.fp
        have hD18 := P18.keep T.is T.dp
        have hT18 : TrAt H18 us ts := T.fs.t.tk fun t xs e => P18.ev.tup e
        have he18 := P18.ev.tup he2
        refine ⟨_, rfl, .inl ⟨rfl, _, SqL.of hf18⟩, _, rfl, _, rfl, f, us, at_, .ref e, rfl, rfl, hf18, small1000 (by omega), a0, ?_, ?_⟩
        · have a1 : at_ < us.length + 1 := a1
          omega
        have P19 := (Pl.refl P18.now)
        have hne : ∀ t xs, H18 t = some (.tup xs) → (upd H18 f (.lst (us.take at_.toNat ++ [.ref e] ++ us.drop at_.toNat))) t = some (.tup xs) := fun t xs h => by
          rw [upd_ne (ne_of h hf18 (by intro z; cases z))]
          exact h
        have hT19 : TrAt (upd H18 f (.lst (us.take at_.toNat ++ [.ref e] ++ us.drop at_.toNat))) (us.take at_.toNat ++ [.ref e] ++ us.drop at_.toNat) (ts.take at_.toNat ++ [tk] ++ ts.drop at_.toNat) :=
          (((hT18.tak _).app (TrAt.one he18)).app (hT18.drp _)).tk hne
        have hD19 : (upd H18 f (.lst (us.take at_.toNat ++ [.ref e] ++ us.drop at_.toNat))) D' = some (.lst (ns'.map V.int)) := by rw [upd_ne T.df]; exact hD18
        have hc1 : (upd H18 f (.lst (us.take at_.toNat ++ [.ref e] ++ us.drop at_.toNat))) c1 = some (.lst us1) := by rw [upd_ne T.cf]; exact P18.keep T.one T.cp
        have hc2 : (upd H18 f (.lst (us.take at_.toNat ++ [.ref e] ++ us.drop at_.toNat))) c2 = some (.lst us2) := by rw [upd_ne c2f]; exact P18.keep hu2k c2p
        have hT2n : TrAt (upd H18 f (.lst (us.take at_.toNat ++ [.ref e] ++ us.drop at_.toNat))) us2 ts2 := hT2k.tk fun t xs h => hne t xs (P18.ev.tup h)
        have hff : (upd H18 f (.lst (us.take at_.toNat ++ [.ref e] ++ us.drop at_.toNat))) f = some (.lst (us.take at_.toNat ++ [.ref e] ++ us.drop at_.toNat)) := upd_same
        have PP : PoolAt (upd H18 f (.lst (us.take at_.toNat ++ [.ref e] ++ us.drop at_.toNat))) p s0 := P18.now.off fp fq
        have hlen : (us.take at_.toNat ++ [V.ref e] ++ us.drop at_.toNat).length = l1 + (k + 1) := by
          rw [List.length_append, List.length_append, List.length_take, List.length_drop]
          show min _ _ + 1 + _ = _
          omega
        generalize us.take at_.toNat ++ [.ref e] ++ us.drop at_.toNat = us' at hT19 hD19 hc1 hc2 hT2n hff PP hlen ⊢
        generalize upd H18 f (.lst us') = H19 at hT19 hD19 hc1 hc2 hT2n hff PP ⊢
        have nl := T.nl
        refine ⟨_, rfl, D', rfl, ⟨_, SqL.of hD19⟩, fun E hE => lc_list (a := D') (xs := ns'.map V.int) (fun j H => ∃ ms : List Int, H E = some (.lst (ms.map V.int)) ∧ ms.length = j ∧ Same H19 H) ⟨[], upd_same, rfl, sameAt (Same.refl _) hE⟩ (fun j H _ hv => by obtain ⟨_, _, _, h⟩ := hv; exact SqL.of (h _ _ hD19)) ?_ ?_⟩
        · rintro j y H20 hj ⟨ms, h1, h2, s20⟩
          obtain ⟨z, rfl⟩ : ∃ z, y = V.int z := by
            rw [List.getElem?_map] at hj
            cases e : ns'[j]? with
            | none => rw [e] at hj; cases hj
            | some z => rw [e] at hj; exact ⟨z, (Option.some.inj hj).symm⟩
          have hjl : j < ns'.length := by have := (List.getElem?_eq_some_iff.mp hj).1; rwa [List.length_map] at this
          refine ⟨rfl, _, rfl, _, rfl, _, rfl, _, _, rfl, rfl, .inr ⟨_, rfl, _, _, rfl, rfl, _, h1, (by rw [List.length_map]; exact small1000 (by omega)), ms ++ [z + (if decide (at_ ≤ z) = true then 1 else 0)], ?_, by rw [List.length_append]; show ms.length + 1 = j + 1; omega, sameAt s20 hE⟩⟩
          rw [upd_same, List.map_append]
          rfl
        · rintro H20 ⟨ms, h1, h2, s20⟩
          rw [List.length_map] at h2
          refine ⟨_, rfl, (by show 1 ≤ sizeLine; decide), fun l hl => ?_⟩
          have sl := sameAt s20 (none_of s20 hl) (o := .lst [.int at_])
          refine ⟨E, l, _, _, rfl, rfl, sameAt (Same.refl _) hl _ _ h1, upd_same, (by rw [List.length_map]; show _ + 1 ≤ sizeLine; rw [sizeLine_eq]; omega), fun D2 hD2 => ?_⟩
          have sD := sameAt sl (none_of sl hD2) (o := .lst (ms.map V.int ++ [.int at_]))
          have hn2 := none_of sl hD2
          refine ⟨D2, ms ++ [at_], us', ts.take at_.toNat ++ [tk] ++ ts.drop at_.toNat, ⟨_, _, rfl⟩, ⟨PP.same sD, sD _ _ hc1, T.one_len, ⟨sD _ _ hff, hT19.tk fun t xs e => sD _ _ e, by omega⟩, good_ins T.good hgk, hlen, ?_, by rw [List.length_append]; show ms.length + 1 = _; omega, fp, c1p, fun z => PP.ne.1 (z ▸ hn2), c1f, (fun z => by rw [z, hff] at hn2; cases hn2), fq⟩, sD _ _ hc2, hT2n.tk fun t xs e => sD _ _ e⟩
          rw [upd_same, List.map_append]
          rfl
      rintro σ H17 ⟨D', ns', us, ts, ⟨y10, y11, rfl⟩, T, _, _⟩
      rw [hl2] at T
      have h1l : 1 ≤ l1 ∧ l1 ≤ 5 := by omega
      have h2l : 1 ≤ l2 ∧ l2 ≤ 5 := by omega
      clear hT1 hT1' hT1f hT2 hT2f hu1 hu1' hu1f hu2 hu2f hfl hD16 ht8 ht10 ht11 ht13 htot1 htot2 tot hG1 hG2 s16 sf hD hf P15 Q14 P14 P13 P12 P11 P10 P9 P8 P7 P6 P5
      -- first, second
      obtain ⟨m1s, ec1, hm1⟩ := @cut_map ns' none (some (us1.length : Int))
      obtain ⟨m2s, ec2, hm2⟩ := @cut_map ns' (some (us1.length : Int)) none
      rw [HT.sIx_nat, HT.sIx_none, T.one_len, T.nl] at hm1
      rw [HT.sIx_nat, HT.sIx_none, T.one_len, T.nl] at hm2
      refine ⟨_, rfl, _, rfl, c1, _, rfl, .inl (SqL.of T.one), _, rfl, D', _, rfl, SqL.of T.is, fun sl1 hsl1 => ⟨sl1, _, rfl, .inl ⟨SqL.of upd_same, fun t1 ht1 => ?_⟩⟩⟩
      rw [ec1]
      rw [ec1] at ht1
      have r1 := sameAt (Same.refl _) hsl1 (o := .lst (m1s.map V.int))
      have r2 := sameAt r1 (none_of r1 ht1) (o := .tup (m1s.map V.int))
      have T1 := T.same r2
      have e1 : (upd (upd H17 sl1 (.lst (m1s.map V.int))) t1 (.tup (m1s.map V.int))) t1 = some (.tup (m1s.map V.int)) := upd_same
      generalize upd (upd H17 sl1 (.lst (m1s.map V.int))) t1 (.tup (m1s.map V.int)) = H18 at T1 e1 ⊢
      refine ⟨_, rfl, _, rfl, c1, _, rfl, .inl (SqL.of T1.one), _, rfl, noPart ⟨D', _, rfl, SqL.of T1.is, fun sl2 hsl2 => ⟨sl2, _, rfl, .inl ⟨SqL.of upd_same, fun t2 ht2 => ?_⟩⟩⟩⟩
      rw [ec2]
      rw [ec2] at ht2
      have r3 := sameAt (Same.refl _) hsl2 (o := .lst (m2s.map V.int))
      have r4 := sameAt r3 (none_of r3 ht2) (o := .tup (m2s.map V.int))
      have T2 := T1.same r4
      have e1' := r4 _ _ e1
      have e2 : (upd (upd H18 sl2 (.lst (m2s.map V.int))) t2 (.tup (m2s.map V.int))) t2 = some (.tup (m2s.map V.int)) := upd_same
      generalize upd (upd H18 sl2 (.lst (m2s.map V.int))) t2 (.tup (m2s.map V.int)) = H19 at T2 e1' e2 ⊢
      -- things
      have q1 : (m1s.map V.int).length ≤ 5 := by rw [List.length_map]; omega
      have q2 : (m2s.map V.int).length ≤ 5 := by rw [List.length_map]; omega
      refine ⟨_, rfl, _, rfl, _, rfl, _, rfl, catA_use e1' e2 (by omega) fun t3 H20 s20 e3 => ⟨_, rfl, _, rfl, catA_use (s20 _ _ e2) (s20 _ _ e1') (by omega) fun t4 H21 s21 e4 => ⟨_, rfl, catA_use e4 (s21 _ _ (s20 _ _ e2)) (by rw [List.length_append]; omega) fun t5 H22 s22 e5 => ⟨(by show 0 ≤ sizeLine; decide), fun t6 ht6 => ⟨(by show 5 ≤ sizeLine; decide), fun tg htg => ?_⟩⟩⟩⟩⟩
      have T3' := ((T2.same s20).same s21).same s22
      have r6 := sameAt (Same.refl _) ht6 (o := .tup [])
      have T4 := T3'.same r6
      have rg := sameAt (Same.refl _) htg (o := .lst [.ref t1, .ref t2, .ref t3, .ref t5, .ref t6])
      have TT := T4.same rg
      have tgp : tg ≠ p := fun z => T4.pool.ne.1 (z ▸ htg)
      have tgf : tg ≠ f := fun z => by rw [z, T4.fs.l] at htg; cases htg
      have tgs : tg ≠ s0 := fun z => T4.pool.ne.2 (z ▸ htg)
      have sall := ((((s20.trans s21).trans s22).trans r6).trans rg)
      have TG : Tg K (upd (upd H22 t6 (.tup [])) tg (.lst [.ref t1, .ref t2, .ref t3, .ref t5, .ref t6])) p s0 f tg t1 t2 [.ref t1, .ref t2, .ref t3, .ref t5, .ref t6] m1s m2s 7 := by
        have b1 := sall _ _ e1'
        have b2 := sall _ _ e2
        have b3 := (((s21.trans s22).trans r6).trans rg) _ _ e3
        have b5 := (r6.trans rg) _ _ e5
        have b6 := rg _ _ (upd_same (a := t6))
        refine ⟨upd_same, by show 5 ≤ 7; decide, tgp, tgf, tgs, fun v hv => ?_, b1, b2, by omega, by omega, by omega, by omega⟩
        have i1 := ints_map (ms := m1s)
        have i2 := ints_map (ms := m2s)
        simp only [List.mem_cons, List.not_mem_nil, or_false] at hv
        rcases hv with rfl | rfl | rfl | rfl | rfl
        · exact th_im b1 (by omega) i1
        · exact th_im b2 (by omega) i2
        · exact th_im b3 (by rw [List.length_append]; omega) (ints_app i1 i2)
        · exact th_im b5 (by rw [List.length_append, List.length_append]; omega) (ints_app (ints_app i2 i1) i2)
        · exact ⟨_, th_nil b6⟩
      generalize upd (upd H22 t6 (.tup [])) tg (.lst [.ref t1, .ref t2, .ref t3, .ref t5, .ref t6]) = H23 at TT TG ⊢
      clear T T1 T2 T3' T4 r1 r2 r3 r4 r6 rg sall s20 s21 s22 e1 e1' e2 e3 e4 e5 hsl1 hsl2 ht1 ht2 ht6 htg
      refine ⟨fun σ H => ∃ (g : Addr) (vs : List V), σ = [some (.ref a), some (.ref p), some (.int cn), some (.int st), some (.int ((0 : Int) + (i : Int))), some (.ref tl), some (.ref c1), some (.ref c2), some (.ref f), some (.ref D'), y10, y11, some (.ref t1), some (.ref t2), some (.ref g), x15, x16, x17, x18, x19] ∧ Tn H p s0 c1 f D' cn l1 l2 us1 us ts ns' ∧ Tg K H p s0 f g t1 t2 vs m1s m2s 7, ?_, ?_⟩
      · refine ⟨_, rfl, rfl, _, rfl, ite2 (fun b0 => ?_) (fun b0 => ⟨tg, _, rfl, TT, TG⟩)⟩
        refine ⟨_, rfl, p, s0, 8, rfl, TT.pool, (by decide), (by decide), fun g8 H24 _ _ P24 => ⟨rfl, _, rfl, ite2 (fun b1 => ?_) (fun b1 => ⟨tg, _, rfl, TT.pl P24, TG.pl P24⟩)⟩⟩
        have TT := TT.pl P24
        have TG := TG.pl P24
        refine ⟨_, rfl, rfl, fun dv dds H25 s25 hdv => ⟨_, rfl, rfl, fun dw dws H26 s26 hdw => ⟨(by show 1 ≤ sizeLine; decide), fun t7 ht7 => ?_⟩⟩⟩
        have s256 := s25.trans s26
        have TT6 := TT.same s256
        have TG6 := TG.same s256
        have r7 := sameAt (Same.refl _) ht7 (o := .tup [dw])
        have nd : NotInt K H26 dw := by
          obtain ⟨_, _, rfl, ty, _⟩ := hdw
          exact ni_tup ty
        refine catA_use (r7 _ _ TG6.e1) upd_same (by rw [List.length_map]; have := TG6.b1; show _ + 1 ≤ 1000; omega) fun t8 H27 s27 e8 => ⟨(by show 2 ≤ sizeLine; decide), fun l hl => ?_⟩
        have rl := sameAt (Same.refl _) hl (o := .lst [dv, .ref t8])
        have s67 := (r7.trans s27).trans rl
        refine ⟨tg, l, _, _, rfl, rfl, s67 _ _ TG6.l, upd_same, (by show 5 + 2 ≤ sizeLine; decide), fun g' hg' => ?_⟩
        have rg := sameAt (Same.refl _) hg' (o := .lst ([.ref t1, .ref t2, .ref t3, .ref t5, .ref t6] ++ [dv, .ref t8]))
        have s68 := s67.trans rg
        have TT7 := TT6.same s67
        have TT8 := TT7.same rg
        have TG8 := TG6.same s68
        refine ⟨g', _, rfl, TT8, upd_same, by show 7 ≤ 7; decide, fun z => TT7.pool.ne.1 (z ▸ hg'), (fun z => by rw [z, TT7.fs.l] at hg'; cases hg'), fun z => TT7.pool.ne.2 (z ▸ hg'), fun v hv => ?_, TG8.e1, TG8.e2, TG8.a1, TG8.b1, TG8.a2, TG8.b2⟩
        rcases List.mem_append.mp hv with hv | hv
        · exact TG8.th v hv
        · simp only [List.mem_cons, List.not_mem_nil, or_false] at hv
          rcases hv with rfl | rfl
          · exact ⟨_, hdv.ev (Ev.same (s26.trans s68))⟩
          · obtain ⟨ds, q⟩ := th_any (K := K) ((rl.trans rg) _ _ e8) (by rw [List.length_append, List.length_map]; have := TG6.b1; show _ + 1 ≤ 1000; omega) fun x hx => by
              rcases List.mem_append.mp hx with hx | hx
              · obtain ⟨n, rfl⟩ := ints_map x hx
                exact isi_int
              · rw [List.mem_singleton.mp hx]
                exact isi_ni (nd.ev (Ev.same s68))
            exact ⟨_, q⟩
      · clear TT TG
        rintro σ H24 ⟨g, vs, rfl, TT, TG⟩
        refine ⟨_, rfl, _, rfl, _, rfl, _, rfl, catA_use TG.e1 TG.e2 (by omega) fun t9 H25 s25 e9 => ⟨(by show 3 ≤ sizeLine; decide), fun gl hgl => ?_⟩⟩
        have TT5 := TT.same s25
        have TG5 := TG.same s25
        have rl := sameAt (Same.refl _) hgl (o := .lst [.ref t1, .ref t2, .ref t9])
        have TT6 := TT5.same rl
        have TG6 := TG5.same rl
        have e9' := rl _ _ e9
        have glp : gl ≠ p := fun z => TT5.pool.ne.1 (z ▸ hgl)
        have glg : gl ≠ g := fun z => by rw [z, TG5.l] at hgl; cases hgl
        have hgl6 : (upd H25 gl (.lst [.ref t1, .ref t2, .ref t9])) gl = some (.lst [.ref t1, .ref t2, .ref t9]) := upd_same
        generalize upd H25 gl (.lst [.ref t1, .ref t2, .ref t9]) = H26 at TT6 TG6 e9' hgl6 ⊢
        have fp := TT6.fp
        have fl := TT6.len
        have good := TT6.good
        have F6 := TT6.fs
        have PP6 := TT6.pool
        clear TT TT5 TT6
        refine ⟨gl, rfl, ⟨_, SqL.of hgl6⟩, for_list (a := gl) (xs := [.ref t1, .ref t2, .ref t9]) (fun j σ H => ∃ (vs : List V), (∃ z15, σ = [some (.ref a), some (.ref p), some (.int cn), some (.int st), some (.int ((0 : Int) + (i : Int))), some (.ref tl), some (.ref c1), some (.ref c2), some (.ref f), some (.ref D'), y10, y11, some (.ref t1), some (.ref t2), some (.ref g), z15, x16, x17, x18, x19]) ∧ PoolAt H p s0 ∧ Fs H f us ts ∧ Tg K H p s0 f g t1 t2 vs m1s m2s (7 + 2 * j) ∧ H t9 = some (.tup (m1s.map V.int ++ m2s.map V.int)) ∧ H gl = some (.lst [.ref t1, .ref t2, .ref t9])) ?_ (fun j σ H _ hv => ?_) ?_ ?_⟩
        · exact ⟨vs, ⟨_, rfl⟩, PP6, F6, TG6, e9', hgl6⟩
        · obtain ⟨_, _, _, _, _, _, h⟩ := hv
          exact SqL.of h
        · clear TG TG5 TG6 PP6 F6 e9' hgl6
          rintro j x σ H27 hj ⟨vs, ⟨z15, rfl⟩, PP, FF, TG, e9, hgl⟩
          have hj3 : j < 3 := (List.getElem?_eq_some_iff.mp hj).1
          obtain ⟨tx, ms, rfl, htx, x1, x10⟩ : ∃ (tx : Addr) (ms : List Int), x = V.ref tx ∧ H27 tx = some (.tup (ms.map V.int)) ∧ 1 ≤ ms.length ∧ ms.length ≤ 10 := by
            have a1 := TG.a1
            have b1 := TG.b1
            have a2 := TG.a2
            have b2 := TG.b2
            rcases j with _ | _ | _ | j
            · cases hj
              exact ⟨t1, m1s, rfl, TG.e1, by omega, by omega⟩
            · cases hj
              exact ⟨t2, m2s, rfl, TG.e2, by omega, by omega⟩
            · cases hj
              exact ⟨t9, m1s ++ m2s, rfl, by rw [List.map_append]; exact e9, by rw [List.length_append]; omega, by rw [List.length_append]; omega⟩
            · omega
          have tn := TG.n
          refine ⟨_, rfl, .inl ⟨rfl, _, SqL.of TG.l⟩, _, rfl, _, rfl, _, rfl, p, s0, f, tx, us, ms, rfl, PP, FF.l, fp, (by omega), (by omega), htx, x1, x10, fun v o H28 P28 hv => ⟨g, vs, _, rfl, rfl, P28.keep TG.l TG.gp, small1000 (by omega), ?_⟩⟩
          have G8 := TG.pl P28
          have G9 := G8.put ⟨o, hv⟩
          have F9 := (FF.pl fp P28).off (ws := vs ++ [v]) G8.gf G8.l
          have P9 := P28.now.off (o := .lst (vs ++ [v])) G8.gp G8.gs
          have e9 : (upd H28 g (.lst (vs ++ [v]))) t9 = _ := ((Ev.refl H28).updL G8.l).tup (P28.ev.tup e9)
          have hgl9 : (upd H28 g (.lst (vs ++ [v]))) gl = some (.lst [.ref t1, .ref t2, .ref t9]) := by rw [upd_ne glg]; exact P28.keep hgl glp
          have htx9 := ((Ev.refl H28).updL G8.l (ys := vs ++ [v])).tup (P28.ev.tup htx)
          generalize upd H28 g (.lst (vs ++ [v])) = H29 at G9 F9 P9 e9 hgl9 htx9 ⊢
          have tn9 := G9.n
          refine ⟨_, rfl, .inl ⟨rfl, _, SqL.of G9.l⟩, _, rfl, _, rfl, _, rfl, p, s0, f, tx, us, ms, rfl, P9, F9.l, fp, (by omega), (by omega), htx9, x1, x10, fun v' o' H30 P30 hv' => ⟨g, vs ++ [v], _, rfl, rfl, P30.keep G9.l G9.gp, small1000 (by omega), ?_⟩⟩
          have G10 := G9.pl P30
          have G11 := G10.put ⟨o', hv'⟩
          refine ⟨vs ++ [v] ++ [v'], ⟨_, rfl⟩, P30.now.off G10.gp G10.gs, (F9.pl fp P30).off G10.gf G10.l, G11, ((Ev.refl H30).updL G10.l).tup (P30.ev.tup e9), by rw [upd_ne glg]; exact P30.keep hgl9 glp⟩
        · clear TG TG5 TG6 PP6 F6 e9' hgl6
          rintro σ H27 ⟨vs, ⟨z15, rfl⟩, PP, FF, TG, _, _⟩
          refine ⟨_, rfl, g, rfl, ⟨_, SqL.of TG.l⟩, for_list (a := g) (xs := vs) (fun j σ H => (∃ y9 z16 z17, σ = [some (.ref a), some (.ref p), some (.int cn), some (.int st), some (.int ((0 : Int) + (i : Int))), some (.ref tl), some (.ref c1), some (.ref c2), some (.ref f), y9, y10, y11, some (.ref t1), some (.ref t2), some (.ref g), z15, z16, z17, x18, x19]) ∧ Same H27 H) ⟨⟨_, _, _, rfl⟩, Same.refl _⟩ (fun j σ H _ hv => SqL.of (hv.2 _ _ TG.l)) ?_ ?_⟩
          · rintro j x σ H28 hj ⟨⟨y9, z16, z17, rfl⟩, s28⟩
            obtain ⟨o, hT⟩ := TG.th x (List.mem_of_getElem? hj)
            have F8 := FF.same s28
            refine ⟨_, rfl, f, _, rfl, .inl (SqL.of F8.l), fun hd hhd => ?_⟩
            have sh := sameAt (Same.refl _) hhd (o := .lst us)
            have F9 := F8.same sh
            have Fh : Fs (upd H28 hd (.lst us)) hd us ts := ⟨upd_same, F9.t, F9.n⟩
            have hT9 := hT.ev (Ev.same (s28.trans sh))
            have s29 := s28.trans sh
            generalize upd H28 hd (.lst us) = H29 at F9 Fh hT9 s29 ⊢
            refine ⟨_, rfl, _, rfl, hd, us, ts, cn, x, o, rfl, Fh, good, hT9, fun H30 s30 => ?_⟩
            have F10 := F9.same s30
            have Fh10 := Fh.same s30
            refine ⟨_, rfl, _, _, _, _, true, rfl, ClsV.ty _, .base (.bl _), kit_ty (by decide +kernel), _, rfl, iteF ⟨_, rfl, _, rfl, _, rfl, f, us, ts, x, o, rfl, F10, hT9.ev (Ev.same s30), rfl, _, rfl, ?_⟩⟩
            rw [decide_eq_true (rfl : V.bl (BF.due ts o) = V.bl (BF.due ts o))]
            refine iteF ⟨_, rfl, _, rfl, _, _, Fh10.t.dp (SqL.of Fh10.l), F10.t.dp (SqL.of F10.l), ts_shaped _, ts_shaped _, _, rfl, ?_⟩
            rw [SeqAt.eqv_refl _ (SeqAt.canLay_of_shaped (ts_shaped _))]
            exact iteF ⟨⟨_, _, _, rfl⟩, s29.trans s30⟩
          · rintro σ H28 ⟨⟨y9, z16, z17, rfl⟩, s28⟩
            have F8 := FF.same s28
            have P8 := PP.same s28
            have th1 := th_ints (K := K) (s28 _ _ TG.e1) (by have := TG.b1; omega)
            have th2 := th_ints (K := K) (s28 _ _ TG.e2) (by have := TG.b2; omega)
            refine ⟨_, rfl, _, rfl, f, us, ts, cn, rfl, F8, good, (by omega), fun v H29 s29 hk => ?_, fun t H29 s29 => ?_⟩
            · refine ⟨rfl, _, rfl, iteT ⟨_, rfl, _, rfl, f, us, ts, _, _, rfl, F8.same s29, th1.ev (Ev.same s29), _, rfl, ?_⟩⟩
              rw [BF.not_due hk]
              refine iteF ⟨_, rfl, _, rfl, f, us, ts, _, _, rfl, F8.same s29, th2.ev (Ev.same s29), _, rfl, ?_⟩
              rw [BF.not_due hk]
              exact iteF ⟨⟨_, _, _, _, _, _, _, _, _, _, _, _, _, _, _, _, rfl⟩, P8.same s29⟩
            · exact ⟨rfl, _, rfl, iteF ⟨⟨_, _, _, _, _, _, _, _, _, _, _, _, _, _, _, _, rfl⟩, P8.same s29⟩⟩
    · rintro σ H5 ⟨⟨x4, x5, x6, x7, x8, x9, x10, x11, x12, x13, x14, x15, x16, x17, x18, x19, rfl⟩, P5⟩
      exact q H5
end
end Ash

set_option Elab.async false
set_option linter.all false
set_option maxRecDepth 100000
set_option maxHeartbeats 4000000
namespace Ash
open PySem PySem.Spec PyProof.Rows L2
/-! ### what the top has written -/
/-- a def of the top -/
structure D1 (K : PySem.W.Frag) (mg : Str → Option Value) (x : Str) (st : Stmt) : Prop where
  ex : ∃ (f : Addr) (fd : FuncData), mg x = some (.ref f) ∧ Fun K x x st f fd
section
variable {K : PySem.W.Frag} {h : Heap} {mg : Str → Option Value} {x : Str} {st : Stmt} {f : Addr} {oc kV dc pm cdv ct : Value} {od an : Option Addr} {sl : Array (Option Value)}
theorem d1 (X : K.In h) (G : h.Ns mainGlobals mg) (a : PySem.W.nsIn K mainGlobals x = some (some (.ref f))) (l : K.lookup f = some ⟨oc, od, .func (PySem.W.fnOf x x (defArgs st) (defBody st) (defScope st) .none kV dc pm an cdv ct), sl⟩) (c : PySem.W.codeIn K cdv x = true) (k : PySem.W.keepIn K (.ref f) = true) : D1 K mg x st :=
  ⟨f, _, PySem.W.mg_of X G a, fun_mk l c k⟩
end
section
variable {P : Program} {w : World} {K : PySem.W.Frag} {mg : Str → Option Value} {base : Heap} {CX : CXT} {x : Str} {st : Stmt} {ps : List Str} {k : Nat} {sp : Sp}
theorem cal_of (D : D1 K mg x st) (hb : ∀ (kV doc pm : Value) (an : Option Addr) (cdv ct : Value) (us : List Value), us.length = ps.length → bindArgs (PySem.W.fnOf x x (defArgs st) (defBody st) (defScope st) .none kV doc pm an cdv ct) ⟨us, []⟩ = pure (ps.zip us))
    (ok : ∀ f fd, Fun K x x st f fd → FnOk P w K mg base CX k f fd ps sp) : Cal P w K mg base CX x k ps sp := by
  obtain ⟨f, fd, hm, F⟩ := D.ex
  exact ⟨f, fd, hm, F.kp, F.binds hb, ok f fd F⟩
end
section
variable {P : Program} {w : World} {K : PySem.W.Frag} {mg : Str → Option Value} {base : Heap}
theorem all_ok (B : Blt mg)
    (d_is_integer : D1 K mg "is_integer" s_is_integer)
    (d_are_integers : D1 K mg "are_integers" s_are_integers)
    (d_is_fact : D1 K mg "is_fact" s_is_fact)
    (d_check_facts : D1 K mg "check_facts" s_check_facts)
    (d_goes_round : D1 K mg "goes_round" s_goes_round)
    (d_is_ring : D1 K mg "is_ring" s_is_ring)
    (d_ring_behind : D1 K mg "ring_behind" s_ring_behind)
    (d_solved : D1 K mg "solved" s_solved)
    (d_ring : D1 K mg "ring" s_ring)
    (d__law_state : D1 K mg "_law_state" s_l_state)
    (d__law_draw : D1 K mg "_law_draw" s_l_draw)
    (d__law_number : D1 K mg "_law_number" s_l_number)
    (d__law_is_integer : D1 K mg "_law_is_integer" s_l_is_integer)
    (d__law_circle : D1 K mg "_law_circle" s_l_circle)
    (d__law_due : D1 K mg "_law_due" s_l_due)
    (d__law_deep : D1 K mg "_law_deep" s_l_deep)
    (d__law_strange : D1 K mg "_law_strange" s_l_strange)
    (d__law_spoilt : D1 K mg "_law_spoilt" s_l_spoilt)
    {f : Addr} {fd : FuncData} (F_law : Fun K "law" "law" s_law f fd) : FnOk P w K mg base CX0 6 f fd ["script"] (spLaw K) := by
  have c_is_integer := cal_of (P := P) (w := w) (base := base) (ps := ["thing"]) d_is_integer (fun _ _ _ _ _ _ us hl => match us, hl with | [_], _ => rfl) fun f fd F => ok_is_integer F B
  have k1 : K1 P w K mg base := ⟨c_is_integer⟩
  have c_are_integers := cal_of (P := P) (w := w) (base := base) (ps := ["things"]) d_are_integers (fun _ _ _ _ _ _ us hl => match us, hl with | [_], _ => rfl) fun f fd F => ok_are_integers F B k1
  have k2 : K2 P w K mg base := ⟨k1, c_are_integers⟩
  have c_is_fact := cal_of (P := P) (w := w) (base := base) (ps := ["thing"]) d_is_fact (fun _ _ _ _ _ _ us hl => match us, hl with | [_], _ => rfl) fun f fd F => ok_is_fact F B k2
  have k3 : K3 P w K mg base := ⟨k2, c_is_fact⟩
  have c_check_facts := cal_of (P := P) (w := w) (base := base) (ps := ["facts", "count"]) d_check_facts (fun _ _ _ _ _ _ us hl => match us, hl with | [_, _], _ => rfl) fun f fd F => ok_check F B k3
  have k4 : K4 P w K mg base := ⟨k3, c_check_facts⟩
  have c_goes_round := cal_of (P := P) (w := w) (base := base) (ps := ["facts", "thing"]) d_goes_round (fun _ _ _ _ _ _ us hl => match us, hl with | [_, _], _ => rfl) fun f fd F => ok_goes F B k1
  have k5 : K5 P w K mg base := ⟨k4, c_goes_round⟩
  have c_is_ring := cal_of (P := P) (w := w) (base := base) (ps := ["facts", "thing"]) d_is_ring (fun _ _ _ _ _ _ us hl => match us, hl with | [_, _], _ => rfl) fun f fd F => ok_is_ring F B k5
  have c_ring_behind := cal_of (P := P) (w := w) (base := base) (ps := ["facts", "because", "lowered"]) d_ring_behind (fun _ _ _ _ _ _ us hl => match us, hl with | [_, _, _], _ => rfl) fun f fd F => ok_behind F B
  have k6 : K6 P w K mg base := ⟨k5, c_ring_behind⟩
  have c_solved := cal_of (P := P) (w := w) (base := base) (ps := ["count", "facts"]) d_solved (fun _ _ _ _ _ _ us hl => match us, hl with | [_, _], _ => rfl) fun f fd F => ok_solved F B k6
  have k7 : K7 P w K mg base := ⟨k6, c_solved⟩
  have c_ring := cal_of (P := P) (w := w) (base := base) (ps := ["count", "facts"]) d_ring (fun _ _ _ _ _ _ us hl => match us, hl with | [_, _], _ => rfl) fun f fd F => ok_ring F B k7
  have c__law_state := cal_of (P := P) (w := w) (base := base) (ps := ["script"]) d__law_state (fun _ _ _ _ _ _ us hl => match us, hl with | [_], _ => rfl) fun f fd F => ok_state F B
  have c__law_draw := cal_of (P := P) (w := w) (base := base) (ps := ["state", "many"]) d__law_draw (fun _ _ _ _ _ _ us hl => match us, hl with | [_, _], _ => rfl) fun f fd F => ok_draw F B
  have g1 : G1 P w K mg base := ⟨c__law_draw⟩
  have c__law_number := cal_of (P := P) (w := w) (base := base) (ps := ["state"]) d__law_number (fun _ _ _ _ _ _ us hl => match us, hl with | [_], _ => rfl) fun f fd F => ok_number F B g1
  have c__law_is_integer := cal_of (P := P) (w := w) (base := base) (ps := ["thing"]) d__law_is_integer (fun _ _ _ _ _ _ us hl => match us, hl with | [_], _ => rfl) fun f fd F => ok_law_is_integer F B
  have g2 : G2 P w K mg base := ⟨g1, c__law_number, c__law_is_integer⟩
  have c__law_circle := cal_of (P := P) (w := w) (base := base) (ps := ["state", "count", "start", "many", "total"]) d__law_circle (fun _ _ _ _ _ _ us hl => match us, hl with | [_, _, _, _, _], _ => rfl) fun f fd F => ok_circle F B g2
  have c__law_due := cal_of (P := P) (w := w) (base := base) (ps := ["facts", "thing"]) d__law_due (fun _ _ _ _ _ _ us hl => match us, hl with | [_, _], _ => rfl) fun f fd F => ok_due F B g2
  have c__law_deep := cal_of (P := P) (w := w) (base := base) (ps := []) d__law_deep (fun _ _ _ _ _ _ us hl => match us, hl with | [], _ => rfl) fun f fd F => ok_deep F B
  have c__law_strange := cal_of (P := P) (w := w) (base := base) (ps := ["state"]) d__law_strange (fun _ _ _ _ _ _ us hl => match us, hl with | [_], _ => rfl) fun f fd F => ok_strange F B g1
  have g3 : G3 P w K mg base := ⟨g2, c__law_strange⟩
  have c__law_spoilt := cal_of (P := P) (w := w) (base := base) (ps := ["state", "facts", "thing"]) d__law_spoilt (fun _ _ _ _ _ _ us hl => match us, hl with | [_, _, _], _ => rfl) fun f fd F => ok_spoilt F B g3
  have g4 : G4 P w K mg base := ⟨g3, c__law_state, c__law_circle, c__law_due, c__law_deep, c__law_spoilt, c_is_ring, c_ring⟩
  exact ok_law F_law B g4
end
theorem all_mk {P : Program} {w : World} {K : PySem.W.Frag} {h : Heap} {mg : Str → Option Value} {fa f4 : Addr} {oc4 kV4 dc4 pm4 cd4 ct4 : Value} {od4 an4 : Option Addr} {sl4 : Array (Option Value)} (X : K.In h) (G : h.Ns mainGlobals mg) (hfa : mg "law" = some (.ref fa))
    (a4 : PySem.W.nsIn K mainGlobals "law" = some (some (.ref f4))) (l4 : K.lookup f4 = some ⟨oc4, od4, .func (PySem.W.fnOf "law" "law" (defArgs s_law) (defBody s_law) (defScope s_law) .none kV4 dc4 pm4 an4 cd4 ct4), sl4⟩) (c4 : PySem.W.codeIn K cd4 "law" = true) (k4 : PySem.W.keepIn K (.ref f4) = true) (B : Blt mg)
    (d_is_integer : D1 K mg "is_integer" s_is_integer)
    (d_are_integers : D1 K mg "are_integers" s_are_integers)
    (d_is_fact : D1 K mg "is_fact" s_is_fact)
    (d_check_facts : D1 K mg "check_facts" s_check_facts)
    (d_goes_round : D1 K mg "goes_round" s_goes_round)
    (d_is_ring : D1 K mg "is_ring" s_is_ring)
    (d_ring_behind : D1 K mg "ring_behind" s_ring_behind)
    (d_solved : D1 K mg "solved" s_solved)
    (d_ring : D1 K mg "ring" s_ring)
    (d__law_state : D1 K mg "_law_state" s_l_state)
    (d__law_draw : D1 K mg "_law_draw" s_l_draw)
    (d__law_number : D1 K mg "_law_number" s_l_number)
    (d__law_is_integer : D1 K mg "_law_is_integer" s_l_is_integer)
    (d__law_circle : D1 K mg "_law_circle" s_l_circle)
    (d__law_due : D1 K mg "_law_due" s_l_due)
    (d__law_deep : D1 K mg "_law_deep" s_l_deep)
    (d__law_strange : D1 K mg "_law_strange" s_l_strange)
    (d__law_spoilt : D1 K mg "_law_spoilt" s_l_spoilt)
    : ∃ fd : FuncData, (∀ (s : Shared) (v : Value), BindsTo s fd ⟨[v], []⟩ [("script", v)]) ∧ ∀ base : Heap, K.In base → base.Ns mainGlobals mg → FnOk P w K mg base CX0 6 fa fd ["script"] (spLaw K) := by
  have e := hfa.symm.trans (PySem.W.mg_of X G a4)
  cases e
  exact ⟨PySem.W.fnOf "law" "law" (defArgs s_law) (defBody s_law) (defScope s_law) .none kV4 dc4 pm4 an4 cd4 ct4, fun s v => .of_eq rfl, fun base _ _ => all_ok B d_is_integer d_are_integers d_is_fact d_check_facts d_goes_round d_is_ring d_ring_behind d_solved d_ring d__law_state d__law_draw d__law_number d__law_is_integer d__law_circle d__law_due d__law_deep d__law_strange d__law_spoilt (fun_mk l4 c4 k4)⟩
theorem walk {l : PySem.W.OpenLaw} {q : Program} {loose : List Str} {XP : (Str → Option Value) → Heap → Prop} {YP : World → Heap → Prop} {d : DefRec} {K : Params → PySem.W.Frag} (hn : l.most = some 63) (hdf : d.params.defaults = [])
    (hY : ∀ (w : World) (h : Heap), YP w h → (K w.params).In h)
    (F : ∀ (w : World) (mg : Str → Option Value) (fa : Addr) (h : Heap), (K w.params).In h → h.Ns mainGlobals mg → mg d.name = some (.ref fa) →
      ∃ fd : FuncData, (∀ (s : Shared) (u : Value), BindsTo s fd ⟨[u], []⟩ [("script", u)]) ∧ ∀ base : Heap, (K w.params).In base → base.Ns mainGlobals mg → FnOk l.prog w (K w.params) mg base CX0 6 fa fd ["script"] (spLaw (K w.params))) :
    PySem.W.WalkO q loose XP YP l.row.toRowW d [] (fun f vs => PySem.call f vs) :=
  L2.walk_of (n := 63) (k := 6) (x := "script") (CX := fun _ => CX0) (sp := fun w => spLaw (K w.params)) hn (by decide) hdf ⟨rfl, by decide, by decide⟩ hY F (fun _ _ a ns hl _ hS => ⟨a, ns, rfl, hS, hl, fun _ => rfl⟩) fun _ _ _ _ _ z => z
end Ash

set_option Elab.async false
open PySem PySem.W PyProof.Rows
set_option maxRecDepth 100000 in
set_option maxHeartbeats 0 in
theorem PySem.Challenge.cw_asofhall_k21_rings_judged_holds : PySem.Challenge.rw_asofhall_k21_rings_judged.Holds := by
  w_on; o_law; k_head; (case hw => w_witness2)
  k_fill
  refine Ash.walk (l := PySem.Challenge.rw_asofhall_k21_rings_judged) rfl rfl (fun w h Y => PySem.W.kIn_of Y) ?F
  case F =>
    intro w mg fa h KX G hmg
    refine' Ash.all_mk KX G hmg ?a4 ?l4 ?c4 ?k4 ?B ?d_is_integer ?d_are_integers ?d_is_fact ?d_check_facts ?d_goes_round ?d_is_ring ?d_ring_behind ?d_solved ?d_ring ?d__law_state ?d__law_draw ?d__law_number ?d__law_is_integer ?d__law_circle ?d__law_due ?d__law_deep ?d__law_strange ?d__law_spoilt
    (case a4 => k_is)
    (case l4 => k_is)
    (case c4 => k_is)
    (case k4 => k_is)
    (case B => refine' { len := PySem.W.mg_none_of KX G ?z_len, int := PySem.W.mg_none_of KX G ?z_int, bool := PySem.W.mg_none_of KX G ?z_bool, str := PySem.W.mg_none_of KX G ?z_str, list := PySem.W.mg_none_of KX G ?z_list, tuple := PySem.W.mg_none_of KX G ?z_tuple, dict := PySem.W.mg_none_of KX G ?z_dict, isinstance := PySem.W.mg_none_of KX G ?z_isinstance, all := PySem.W.mg_none_of KX G ?z_all, range := PySem.W.mg_none_of KX G ?z_range, enumerate := PySem.W.mg_none_of KX G ?z_enumerate, sorted := PySem.W.mg_none_of KX G ?z_sorted, min := PySem.W.mg_none_of KX G ?z_min, max := PySem.W.mg_none_of KX G ?z_max }; (case z_len => k_is); (case z_int => k_is); (case z_bool => k_is); (case z_str => k_is); (case z_list => k_is); (case z_tuple => k_is); (case z_dict => k_is); (case z_isinstance => k_is); (case z_all => k_is); (case z_range => k_is); (case z_enumerate => k_is); (case z_sorted => k_is); (case z_min => k_is); (case z_max => k_is))
    (case d_is_integer => refine' Ash.d1 KX G ?a ?l ?c ?k; (case a => k_is); (case l => k_is); (case c => k_is); (case k => k_is))
    (case d_are_integers => refine' Ash.d1 KX G ?a ?l ?c ?k; (case a => k_is); (case l => k_is); (case c => k_is); (case k => k_is))
    (case d_is_fact => refine' Ash.d1 KX G ?a ?l ?c ?k; (case a => k_is); (case l => k_is); (case c => k_is); (case k => k_is))
    (case d_check_facts => refine' Ash.d1 KX G ?a ?l ?c ?k; (case a => k_is); (case l => k_is); (case c => k_is); (case k => k_is))
    (case d_goes_round => refine' Ash.d1 KX G ?a ?l ?c ?k; (case a => k_is); (case l => k_is); (case c => k_is); (case k => k_is))
    (case d_is_ring => refine' Ash.d1 KX G ?a ?l ?c ?k; (case a => k_is); (case l => k_is); (case c => k_is); (case k => k_is))
    (case d_ring_behind => refine' Ash.d1 KX G ?a ?l ?c ?k; (case a => k_is); (case l => k_is); (case c => k_is); (case k => k_is))
    (case d_solved => refine' Ash.d1 KX G ?a ?l ?c ?k; (case a => k_is); (case l => k_is); (case c => k_is); (case k => k_is))
    (case d_ring => refine' Ash.d1 KX G ?a ?l ?c ?k; (case a => k_is); (case l => k_is); (case c => k_is); (case k => k_is))
    (case d__law_state => refine' Ash.d1 KX G ?a ?l ?c ?k; (case a => k_is); (case l => k_is); (case c => k_is); (case k => k_is))
    (case d__law_draw => refine' Ash.d1 KX G ?a ?l ?c ?k; (case a => k_is); (case l => k_is); (case c => k_is); (case k => k_is))
    (case d__law_number => refine' Ash.d1 KX G ?a ?l ?c ?k; (case a => k_is); (case l => k_is); (case c => k_is); (case k => k_is))
    (case d__law_is_integer => refine' Ash.d1 KX G ?a ?l ?c ?k; (case a => k_is); (case l => k_is); (case c => k_is); (case k => k_is))
    (case d__law_circle => refine' Ash.d1 KX G ?a ?l ?c ?k; (case a => k_is); (case l => k_is); (case c => k_is); (case k => k_is))
    (case d__law_due => refine' Ash.d1 KX G ?a ?l ?c ?k; (case a => k_is); (case l => k_is); (case c => k_is); (case k => k_is))
    (case d__law_deep => refine' Ash.d1 KX G ?a ?l ?c ?k; (case a => k_is); (case l => k_is); (case c => k_is); (case k => k_is))
    (case d__law_strange => refine' Ash.d1 KX G ?a ?l ?c ?k; (case a => k_is); (case l => k_is); (case c => k_is); (case k => k_is))
    (case d__law_spoilt => refine' Ash.d1 KX G ?a ?l ?c ?k; (case a => k_is); (case l => k_is); (case c => k_is); (case k => k_is))

