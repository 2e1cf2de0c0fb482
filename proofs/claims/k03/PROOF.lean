import PyProof.Rows.All
import Wide.All
import OpenK.AllK
import Wide.FinOn
import PyProof.EqAt
import PyProof.EqKinds
import PyProof.TupleCall
import KE.KExcSuper
import HandS.ForMost
import HandS.ForExc
import HandS.ExcInit
import HandS.IsInst
import HandS.Wide
import HandS.Star
import HandS.CallSlots
import HandS.DictComp
import HandS.OwnEq
import HandS.Codes
import HandS.Defaults
import HandS.Walk
import PySem.Challenge.RW_asofhall_k03_one_more_entry
import HandS.More
import KE.GoesMore
import PyProof.NeKinds
set_option Elab.async false
set_option linter.all false
set_option maxRecDepth 100000
set_option maxHeartbeats 4000000
namespace PySem
namespace BadX
open PySem.W PySem.Calls PyProof.Rows PySem.HandSPX
/-- super().__init__(text); self.fl = par -/
def shape (tx par fl : Str) (p0 p1 p2 p3 p4 p5 p6 p7 p8 p9 : Pos) (j : Nat) : List Stmt :=
  [.Expr (.Call (.Attribute (.Call (.Name "super" p0) [] [] p1) "__init__" p2) [.Constant (.str tx) j p3] [] p4) p5,
   .Assign [.Attribute (.Name "self" p6) fl p7] (.Name par p8) p9]
def sco (par : Str) : Scope := { kind := .function, names := [(PySem.Str.ofString "self", .local), (par, .local), (PySem.Str.ofString "__class__", .free), (PySem.Str.ofString "super", .globalImplicit)], isGenerator := false, isCoroutine := false, more := [] }
/-- what the written part says of an own error's class at C, its __init__ at fI, whose one field is fl -/
structure Txt (P : Program) (K : Frag) (mg : Str → Option Value) (par fl : Str) (C fI : Addr) : Prop where
  cls : ∃ nm q N bs bm sn sub ab col dd k0 k1 k2 k3 k5, K.lookup C = some (excClassObj nm q C N bs bm true sn sub ab col dd k0 k1 k2 k3 k5 "ValueError.__new__") ∧ refsVE bm = true
  sa : findIn K (.ref C) "__setattr__" = some (some (.builtin "object.__setattr__"))
  ga : findIn K (.ref C) "__getattribute__" = some (some (.builtin "BaseException.__getattribute__"))
  gg : findIn K (.ref C) "__getattr__" = some none
  noN : findIn K (.ref C) fl = some none
  iC : findIn K (.ref C) "__init__" = some (some (.ref fI))
  tC : typeIn K (.ref fI) = some (.type "function")
  kC : keepIn K (.ref C) = true
  exC : subIn K (.ref C) (.type "BaseException") = some true
  veC : subIn K (.ref C) (.type "ValueError") = some true
  slf : mroIn K C (.ref C) = some true
  tyC : typeIn K (.ref C) = some (.type "type")
  hdC : hasDictIn K C = true
  te : exmOne K (.ref C) (.ref C) = some true
  along : ks_superIn K C C "__init__" = some (some (.builtin "ValueError.__init__"))
  opq : nsIn K cStatics "thirdparty.any" = some none
  sup : mg "super" = none
  top : (P.main.scope.names.lookup ("super" : Str)).isSome = false
  fn : ∃ (oc : Value) (od : Option Addr) (qual tx : Str) (doc pm : Value) (an : Option Addr) (cda cc : Addr) (ct : Value) (osl : Array (Option Value)) (pa : Arguments) (p0 p1 p2 p3 p4 p5 p6 p7 p8 p9 : Pos) (j : Nat) (a0 : Arg),
    K.lookup fI = some ⟨oc, od, .func (ksFn "__init__" qual pa (shape tx par fl p0 p1 p2 p3 p4 p5 p6 p7 p8 p9 j) (sco par) .none .none doc pm an (.ref cda) ct cc), osl⟩ ∧ codeIn K (.ref cda) qual = true ∧
    (pa.posonlyargs ++ pa.args).head? = some a0 ∧ a0.arg = "self" ∧
    (∀ (s : Shared) (u v : Value), BindsTo s (ksFn "__init__" qual pa (shape tx par fl p0 p1 p2 p3 p4 p5 p6 p7 p8 p9 j) (sco par) .none .none doc pm an (.ref cda) ct cc) ⟨[u, v], []⟩ [("self", u), (par, v)]) ∧
    (∃ ccl cdd vs ccs file tf, K.lookup cda = some ⟨ccl, cdd, .fields vs, ccs⟩ ∧ vs[2]? = some (.str file tf) ∧ ((P.main.file : Str) == file) = true) ∧
    (p2.endLine == p4.line) = true ∧
    (∃ cl cld csl, K.lookup cc = some ⟨cl, cld, .cell (some (.ref C)), csl⟩)
/-- what __init__ leaves of a fresh exception at x -/
structure Left (fl : Str) (h h' : Heap) (x C dx t1 : Addr) (v : Value) : Prop where
  keep : ∀ b o, b ≠ x → h.get? b = some o → h'.get? b = some o
  obj : h'.get? x = some { cls := .ref C, dict := some dx, data := .fields #[.ref t1, .none, .none, .none, .bool false, .none] }
  dbig : h.objs.size ≤ dx
  dne : dx ≠ x
  ns : h'.Ns1 dx (fun y => if y = fl then some v else none)
section
variable {prog : Program} {w : World} {A : Around} {E : Value → Shared → Prop} {R : Result → Shared → Prop} {s : Shared} {K : Frag} {mg mb : Str → Option Value} {C fI : Addr} {par fl : Str}
/-- the wrapper of ValueError.__init__, bound to x, called -/
theorem call_bound {h : Heap} {g : Array GenState} {d : Drawn} {t : Nat} {os : OsState} {u x t0 : Addr} {rest : List Value} {Q : Value → Shared → Prop} {nm q : Str} {N : Addr} {bs bm : List Value} {sn : List Str} {sub : List Value} {ab : Bool} {col : Option Bool} {dd : Option Addr} {k0 k1 k2 k3 k5 : Option Value}
    (hC : h.get? C = some (excClassObj nm q C N bs bm true sn sub ab col dd k0 k1 k2 k3 k5 "ValueError.__new__")) (hx : h.get? x = some (excO C t0)) (hu : h.get? u = some (kxs_mw "ValueError.__init__" x)) (hr : rest.length ≤ sizeLine)
    (hq : ∀ h', (∀ b o, b ≠ x → h.get? b = some o → h'.get? b = some o) → h'.get? x = some (excO C h.objs.size) → Q .none ⟨h', g, d, t, os⟩) :
    wpAny (model prog w) A (call (.ref u) rest) Q E ⟨h, g, d, t, os⟩ := by
  have FB := F.excBase_ValueError
  refine wpAny_call (codeAny_of_tree ?_)
  show wpAny _ A.in1 (callAny (.ref u) ⟨rest, []⟩) _ _ _
  simp only [callAny]
  refine wpAny_bind (wpAny_load hu ?_)
  have c1 : (Value.type "method-wrapper" == Value.type "method" || Value.type "method-wrapper" == Value.type "builtin_function_or_method" || Value.type "method-wrapper" == Value.type "method-wrapper") = true := by decide
  simp only [kxs_mw, c1, if_true]
  refine KFB.if_so (by decide) (wpAny_bind (check_bound_init FB.toExcCallFacts hC hx rfl (wpAny_bind (wpAny_pure (wpAny_pure ⟨plainId_quiet FB.init.plain _, codeAny_builtin FB.initEntry ?_⟩)))))
  exact exc_init_tree (cls := .ref C) (t0 := t0) (dv := none) (c2 := .none) (c3 := .none) (b4 := .bool false) hx hr fun h' k e' _ => hq h' k e'
theorem init_ok {x t0 : Addr} {v : Value} (T : Txt prog K mg par fl C fI) (X : K.In s.heap) (G : s.heap.Ns mainGlobals mg) (B : s.heap.Ns builtinsNs mb) (hb : mb "super" = some (.type "super")) (hlim : s.heap.NoLimit)
    (hx : s.heap.get? x = some (excO C t0)) (hnx : K.lookup x = none) (hroom : A.depth < recursionLimit) (hp1 : (par == ("__debug__" : Str)) = false) (hp2 : ¬ par = "self")
    (hloc : (sco par).names.lookup par = some .local) (hks : (sco par).names.lookup ("super" : Str) = some .globalImplicit) (hkc : (sco par).names.lookup ("__class__" : Str) = some .free)
    (hq : ∀ h' tk t1 dx, Left fl s.heap h' x C dx t1 v → R (.ok (.ret .none)) { s with heap := h', toks := tk }) :
    codeAny (model prog w) A (.call (.ref fI) ⟨[.ref x, v], []⟩) R s := by
  obtain ⟨oc, od, qual, tx, doc, pm, an, cda, cc, ct, osl, pa, p0, p1, p2, p3, p4, p5, p6, p7, p8, p9, j, a0, ho, hcd, ha0, ha1, hbd, ⟨ccl, cdd, vs, ccs, file, tf, hcode, hvs, hfile⟩, hpe, ⟨cl, cld, csl, hcell⟩⟩ := T.fn
  obtain ⟨nm, q, N, bs, bm, sn, sub, ab, col, dd, k0, k1, k2, k3, k5, hC, hbm⟩ := T.cls
  have hcl : clsIn K C = some { name := nm, bases := bs, mro := .ref C :: bm, ns := N, qualname := q, hasDict := true, slotNames := sn, subclasses := sub, abstract := ab, collection := col, hasDel := false } := by unfold clsIn; rw [hC] <;> rfl
  refine ks_codeAny_call_defAt (binds := [("self", .ref x), (par, v)]) hroom (X _ _ ho) rfl hlim (codeRec_of X hcd) rfl (hbd s (.ref x) v) ?_ ?_ (fun h₁ hns hk₁ => ?_)
  · intro y hy
    have : y ∈ [(PySem.Str.ofString "self", NameKind.local), (par, .local), (PySem.Str.ofString "__class__", .free), (PySem.Str.ofString "super", .globalImplicit)] := hy
    simp only [List.mem_cons, List.not_mem_nil, or_false] at this
    rcases this with rfl | rfl | rfl | rfl <;> (intro z; cases z)
  · intro y hy
    simp only [List.mem_cons, List.not_mem_nil, or_false] at hy
    rcases hy with rfl | rfl
    · exact (by rfl : (sco par).names.lookup ("self" : Str) = some .local)
    · exact hloc
  have hself : ([(("self" : Str), Value.ref x), (par, v)] : List (Str × Value)).reverse.lookup ("self" : Str) = some (Value.ref x) := by
    show List.lookup ("self" : Str) [(par, v), (("self" : Str), Value.ref x)] = _
    have e1 : (("self" : Str) == par) = false := by simpa using fun z => hp2 z.symm
    simp [List.lookup, e1]
  have hpar : ([(("self" : Str), Value.ref x), (par, v)] : List (Str × Value)).reverse.lookup par = some v := by
    show List.lookup par [(par, v), (("self" : Str), Value.ref x)] = _
    simp [List.lookup]
  have X₁ : K.In h₁ := X.keeps hk₁
  have hx₁ := hk₁ _ _ hx
  refine ks_wpAt_execs_cons (ks_wpAt_Expr_any (ks_wpAt_MethodCall (pl := ?pl) ?_ ?he))
  case he =>
    rw [arm_eval_Call]
    unfold methodCall methodCallPos
    rw [hpe]
    with_unfolding_all rfl
  refine ks_wpAt_super_base (hks := hks) (hkc := hkc) (by decide +kernel) rfl (X₁ _ _ ho) rfl ha0 rfl (X₁ _ _ hcode) rfl hvs hfile T.top ?_
  refine ks_loadName_global rfl hks (loadGlobal_builtin (G.keeps hk₁) T.sup (B.keeps hk₁) hb ⟨rfl, ?_⟩)
  refine wpAny_loadName_free rfl hkc rfl ⟨_, X₁ _ _ hcell, rfl⟩ ?_
  rw [ha1]
  refine wpAny_loadName_local rfl rfl hns hself ?_
  refine ks_wpAny_isType_cls (X₁ _ _ hC) rfl ⟨rfl, ?_⟩
  refine ks_wpAny_call_super (X₁ _ _ hC) rfl hx₁ rfl (fun c e => by cases e) (looks_mroIn X₁ T.slf) (fun h₂ e₂ k₂ => ?_)
  have X₂ : K.In h₂ := X₁.keeps k₂
  have hx₂ := k₂ _ _ hx₁
  have I₂ : InstAt h₂ x (excO C t0) C none := ⟨hx₂, rfl, rfl, trivial⟩
  have hal := T.along
  unfold ks_superIn at hal
  rw [hcl] at hal
  refine kxs_getMethod kxs_ValueError e₂ (looks_opaque X₂ T.opq) (l₀ := .ref C :: bm) ?_ rfl X₂ hal (I₂.type.andThen (looks_subIn X₂ T.veC)) (ks_ne X₂ I₂ hcl) (by decide +kernel) ?_
  · exact fun A Q E s k q => wpAny_bind ((looks_clsIn X₂ hcl) A _ E s k (wpAny_pure q))
  have hu : (h₂.push (kxs_mw "ValueError.__init__" x)).get? h₂.objs.size = some (kxs_mw "ValueError.__init__" x) := Heap.get?_push_at rfl rfl
  have k₃ : ∀ b o, h₂.get? b = some o → (h₂.push (kxs_mw "ValueError.__init__" x)).get? b = some o := fun b o e => Heap.get?_push_of_some _ e
  let H₃ := h₂.push (kxs_mw "ValueError.__init__" x)
  refine kxs_callWith1 (i := "ValueError.__init__") (x := x) (u := h₂.objs.size) (h₀ := Att.noObjs H₃) (L := h₂.objs.size + 7) (news := [(h₂.objs.size, kxs_mw "ValueError.__init__" x)]) (fun q hq => ?_) (List.Mem.head _) ?_
  · rcases List.mem_cons.mp hq with rfl | hq
    · exact ⟨hu, by show h₂.objs.size ≠ h₂.objs.size + 7; omega, Att.noObjs_get _ _⟩
    · cases hq
  refine wpAny_items_cons (Constant_str ?_)
  refine wpAny_items_nil ⟨hu, ?_⟩
  have X₃ : K.In (h₂.push (kxs_mw "ValueError.__init__" x)) := X₂.keeps k₃
  refine call_bound (X₃ _ _ hC) (k₃ _ _ hx₂) hu (by rw [sizeLine_eq]; exact (by decide : 1 ≤ 16777216)) fun h₄ k₄ e₄ => ?_
  -- self.fl = par
  have k14 : ∀ b o, b ≠ x → h₁.get? b = some o → h₄.get? b = some o := fun b o hb e => k₄ b o hb (k₃ b o (k₂ b o e))
  have xL : s.heap.objs.size ≠ x := Nat.ne_of_gt (Heap.lt_size hx)
  obtain ⟨oL, es, ep, hL, hr⟩ := hns
  have hns₄ : h₄.Ns s.heap.objs.size (fun y => ([(("self" : Str), Value.ref x), (par, v)] : List (Str × Value)).reverse.lookup y) := ⟨oL, es, ep, k14 _ _ xL hL, hr⟩
  have X₄ : K.In h₄ := fun a o e => k₄ a o (fun z => by rw [z, hnx] at e; cases e) (X₃ a o e)
  refine wpAt_of_wpAny (wpAny_execs_cons (plainObj_wpAny_Assign_Attribute ?_))
  refine wpAny_Name (wpAny_loadName_local rfl hloc hns₄ hpar ?_) hp1
  refine wpAny_Name (wpAny_loadName_local rfl rfl hns₄ hself ?_) (by decide)
  refine set_plain X₄ (ox := excO C h₂.objs.size.succ) (od := none) ⟨?_, rfl, rfl, trivial⟩ T.sa ?_
  · show h₄.get? x = some (excO C h₂.objs.size.succ)
    rw [e₄, Heap.size_push]
  have e₄' : h₄.get? x = some (excO C h₂.objs.size.succ) := by
    rw [e₄, Heap.size_push]
  refine exc_osa X₄ e₄' hcl (show refsVE (.ref C :: bm) = true from hbm) rfl T.noN (fun h₅ tk₅ dx k₅ dn dne hx₅ hn₅ => ?_)
  have z1 : s.heap.objs.size < h₄.objs.size := Heap.lt_size (k14 _ _ xL hL)
  refine wpAny_execs_nil (hq h₅ tk₅ _ dx ⟨fun b o hb e => k₅ b o hb (k14 b o hb (hk₁ b o e)), hx₅, Nat.le_of_lt (Nat.lt_of_lt_of_le z1 dn), dne, hn₅⟩)
theorem one_le (v : Value) : [v].length ≤ sizeLine := by
  rw [sizeLine_eq]
  exact (by decide : 1 ≤ 16777216)
/-- a made error -/
structure Made (fl : Str) (h h' : Heap) (e C d : Addr) (v : Value) : Prop where
  keep : ∀ b o, h.get? b = some o → h'.get? b = some o
  new : h.objs.size ≤ e
  obj : ∃ oe vs, h'.get? e = some oe ∧ oe.cls = .ref C ∧ oe.dict = some d ∧ oe.data = .fields vs ∧ vs[1]? = some .none
  dbig : h.objs.size ≤ d
  dne : d ≠ e
  ns : h'.Ns1 d (fun y => if y = fl then some v else none)
/-- the names of such an __init__ -/
structure Par (par : Str) : Prop where
  p1 : (par == ("__debug__" : Str)) = false
  p2 : ¬ par = "self"
  p3 : (sco par).names.lookup par = some .local
  p4 : (sco par).names.lookup ("super" : Str) = some .globalImplicit
  p5 : (sco par).names.lookup ("__class__" : Str) = some .free
theorem made_ok {v : Value} (T : Txt prog K mg par fl C fI) (p : Par par) (X : K.In s.heap) (G : s.heap.Ns mainGlobals mg) (B : s.heap.Ns builtinsNs mb) (hb : mb "super" = some (.type "super")) (hlim : s.heap.NoLimit) (hroom : A.depth + 1 < recursionLimit)
    (hq : ∀ h' tk e d, Made fl s.heap h' e C d v → R (.ok (.ret (.ref e))) { s with heap := h', toks := tk }) :
    codeAny (model prog w) A (.call (.ref C) ⟨[v], []⟩) R s := by
  obtain ⟨nm, q, N, bs, bm, sn, sub, ab, col, dd, k0, k1, k2, k3, k5, hC, hbm⟩ := T.cls
  obtain ⟨hp, g, dr, tk, os⟩ := s
  let hp2 := (hp.push (kdv_tup [v])).push (excO C hp.objs.size)
  have k : ∀ b o, hp.get? b = some o → hp2.get? b = some o := fun b o e => Heap.get?_push_of_some _ (Heap.get?_push_of_some _ e)
  have hget : hp2.get? (hp.objs.size + 1) = some (excO C hp.objs.size) := by
    show ((hp.push (kdv_tup [v])).push (excO C hp.objs.size)).get? (hp.objs.size + 1) = _
    heap_get
  have hsz : hp2.objs.size = hp.objs.size + 2 := by
    show ((hp.push (kdv_tup [v])).push (excO C hp.objs.size)).objs.size = _
    rw [Heap.size_push, Heap.size_push]
  have hnx : K.lookup (hp.objs.size + 1) = none := by
    cases e : K.lookup (hp.objs.size + 1) with
    | none => rfl
    | some o => exact absurd (Nat.lt_of_succ_lt (Heap.lt_size (show hp.get? _ = some o from X _ _ e))) (Nat.lt_irrefl _)
  refine call_own F.excBase_ValueError (fun Y => refsVE_contains Y bm hbm) (X _ _ hC) (looks_findIn X T.iC) (fun self => bind_fn X self T.tC) (one_le v) ?_
  refine init_ok (s := ⟨hp2, g, dr, tk, os⟩) T (X.keeps k) (G.keeps k) (B.keeps k) hb (hlim.keeps k) hget hnx (show A.depth + 1 < recursionLimit from hroom) p.p1 p.p2 p.p3 p.p4 p.p5 fun h' tk' t1 dx ⟨k', hx, dn, dne, hns⟩ => ?_
  have old : ∀ b o, hp.get? b = some o → h'.get? b = some o := fun b o e => k' b o (Nat.ne_of_lt (Nat.lt_succ_of_lt (Heap.lt_size e))) (k b o e)
  have dn' : hp2.objs.size ≤ dx := dn
  rw [hsz] at dn'
  exact ⟨rfl, hq h' tk' (hp.objs.size + 1) dx ⟨old, Nat.le_succ _, ⟨_, _, hx, rfl, rfl, rfl, rfl⟩, (by show hp.objs.size ≤ dx; omega), dne, hns⟩⟩
end
end BadX
end PySem
namespace L2
open PySem PySem.Spec PyProof.Rows
theorem relO_one {v : V} {v' : Value} (r : RelV v v') (fl f : Str) : RelO (List.lookup f [(fl, v)]) (if f = fl then some v' else none) := by
  by_cases hw : f = fl
  · subst hw
    rw [if_pos rfl]
    have q : List.lookup f [(f, v)] = some v := by simp [List.lookup]
    rw [q]
    exact r
  · rw [if_neg hw]
    have qw : (f == fl) = false := by simpa using hw
    have q2 : List.lookup f [(fl, v)] = none := by simp [List.lookup, qw]
    rw [q2]
    trivial
section
variable {X : Cx} {C fI : Addr}
/-- Cls(e), an own error with the one field fl -/
def tMkB (fl : Str) (C : Addr) (ta : TA) : St → Hp → XK → Prop := fun σ H Q => ta σ H fun vs H1 => ∃ v, vs = [v] ∧ ∀ d, H1 d = none → Q (.ref C) (some d) (upd H1 d (.xd [(fl, v)]))
theorem pmk_bad {x par fl : Str} {a : Expr} {ta : TA} {p pos : Pos} {k : Nat} (T : PySem.BadX.Txt X.prog X.K X.mg par fl C fI) (pr : PySem.BadX.Par par) (hm : X.mg x = some (.ref C)) (hr : Room k X.A) (ha : PA X [a] ta) (hg : Gl X x)
    (hdb : (x == ("__debug__" : Str)) = false := by decide)
    (he : starEach (a :: []) X.env = (false, eval a X.env) :: starEach [] X.env := by rfl) (hpl : (backTo pos (starEach [] X.env)).any (·.1) = false := by rfl) :
    PMk X (.Call (.Name x p) [a] [] pos) (tMkB fl C ta) := by
  intro pins s σ H Q I h
  refine wpAny_Call_Name_kw (ld_glob I hg hm ?_ hdb)
  refine PySem.W.callWith_K (h₀ := X.base) I.ok.mod.kin T.kC (thn (ha.run pos pins s σ H _ I h) fun us s1 hh => ?_) he hpl
  obtain ⟨vs, H1, I1, r1, v, ev, q1⟩ := hh
  subst ev
  refine ⟨I1.kIn, ?_⟩
  cases r1 with
  | cons rv rn =>
    rename_i v' us'
    cases rn
    show wpAny _ _ (call (.ref C) [v']) _ _ _
    have hlim := I1.nolimit
    obtain ⟨mb, hb1, hb2⟩ := I1.mod.blt
    have Gn : s1.heap.Ns mainGlobals X.mg := I1.mod.glob.keeps I1.bk
    have Bn : s1.heap.Ns builtinsNs mb := hb1.keeps I1.bk
    have hbs : mb "super" = some (.type "super") := (hb2 _ (by decide +kernel)).trans (by first | boot_by_name | rfl | kernel_rfl)
    obtain ⟨hp, g, dr, tk, os⟩ := s1
    refine wpAny_call (PySem.BadX.made_ok T pr I1.kIn Gn Bn hbs hlim (by have := hr.dp; omega) fun h' tk' e d M => ?_)
    show MkP X pins σ Q (.ref e) ⟨h', g, dr, tk', os⟩
    obtain ⟨oe, fv, hoe, hc, hd, hdat, h1⟩ := M.obj
    have hns := M.ns
    obtain ⟨G', g1, g2⟩ := restrict h' fun b => decide (b ≠ e)
    have gk : ∀ b, b ≠ e → G'.get? b = h'.get? b := fun b hb => g1 b (decide_eq_true hb)
    have ge : G'.get? e = none := g2 e (by simp)
    have old : ∀ b o, hp.get? b = some o → G'.get? b = some o := fun b o q => (gk b (Nat.ne_of_lt (Nat.lt_of_lt_of_le (Heap.lt_size q) M.new))).trans (M.keep b o q)
    have ob : ObjOk X.prog X.w (upd H1 d (.xd [(fl, v)])) G' d (.xd [(fl, v)]) :=
      ⟨_, hns.at (fun o q => (gk d M.dne).trans q), fun f => relO_one rv fl f⟩
    have J : Inv X pins σ (upd H1 d (.xd [(fl, v)])) ⟨G', g, dr, tk', os⟩ := I1.laid (t' := tk') old M.dbig ob
    refine ⟨e, oe, fv, ⟨G', g, dr, tk', os⟩, _, .ref C, some d, rfl, J, fun b o q => ?_, ge, hoe, ⟨hc, hd⟩, hdat, h1, ?_, rfl, I1.bare, raises_own T.exC T.tyC, q1 d (I1.hok.fresh M.dbig)⟩
    · by_cases hb : b = e
      · have q' : G'.get? b = some o := q
        rw [hb, ge] at q'; cases q'
      · exact (gk b hb).symm.trans q
    · rw [upd_ne (Ne.symm M.dne)]
      exact I1.hok.fresh M.new
/-- raise Cls(e) -/
def tRaiseB (fl : Str) (C : Addr) (W : WX) (ta : TA) : TS := fun _ σ H => tMkB fl C ta σ H fun cls d H' => W cls d σ H'
theorem ps_raiseB {x par fl : Str} {a : Expr} {ta : TA} {W : WX} {p pos pos2 : Pos} {k : Nat} (hc : X.calm = true) (T : PySem.BadX.Txt X.prog X.K X.mg par fl C fI) (pr : PySem.BadX.Par par) (hm : X.mg x = some (.ref C)) (hr : Room k X.A) (tk : Takes X W) (ha : PA X [a] ta) (hg : Gl X x)
    (hdb : (x == ("__debug__" : Str)) = false := by decide)
    (he : starEach (a :: []) X.env = (false, eval a X.env) :: starEach [] X.env := by rfl) (hpl : (backTo pos (starEach [] X.env)).any (·.1) = false := by rfl) :
    PS X (.Raise (some (.Call (.Name x p) [a] [] pos)) none pos2) (tRaiseB fl C W ta) := ps_raise hc tk (pmk_bad T pr hm hr ha hg hdb he hpl)
end
end L2

set_option Elab.async false
set_option linter.all false
set_option maxRecDepth 100000
set_option maxHeartbeats 4000000
namespace Ash
open PySem PySem.Spec PyProof.Rows L2
abbrev topS (i : Nat) : Stmt := PySem.Challenge.pw_asofhall_k03_one_more_entry.main.body.getD i (.Pass ⟨0, 0, 0, 0⟩)
/-- a def of the top by its name, with its promise -/
structure Cal (P : Program) (w : World) (K : PySem.W.Frag) (mg : Str → Option Value) (base : Heap) (CX : CXT) (x : Str) (k : Nat) (ps : List Str) (sp : Sp) : Prop where
  ex : ∃ f fd, mg x = some (.ref f) ∧ PySem.W.keepIn K (.ref f) = true ∧ Binds K fd ps [] ∧ FnOk P w K mg base CX k f fd ps sp
section
variable {X : Cx} {CX : CXT} {k j : Nat} {ps : List Str} {sp : Sp} {E : XK} {x : Str} {p pos : Pos} {e : Expr} {es : List Expr} {t : TA}
theorem pe_cal (G : Cal X.prog X.w X.K X.mg X.base CX x k ps sp) (hr : Room k X.A) (hx : Passes CX X E) (ha : PA X (e :: es) t) (hg : Gl X x := by rfl)
    (hdb : (x == ("__debug__" : Str)) = false := by decide) (he : starEach (e :: es) X.env = (false, eval e X.env) :: starEach es X.env := by rfl) (hpl : (backTo pos (starEach es X.env)).any (·.1) = false := by rfl) :
    PE X (.Call (.Name x p) (e :: es) [] pos) (tCall sp [] E t) := by
  obtain ⟨f, fd, hm, hk, hb, F⟩ := G.ex
  exact pe_call F hr hg hm hk hb .nil hx ha hdb he hpl
theorem pe_calS {E : L2.St → XK} (G : Cal X.prog X.w X.K X.mg X.base CX x k ps sp) (hr : Room k X.A) (hx : ∀ σ, PassesAt CX X σ (E σ)) (ha : PA X (e :: es) t) (hg : Gl X x := by rfl)
    (hdb : (x == ("__debug__" : Str)) = false := by decide) (he : starEach (e :: es) X.env = (false, eval e X.env) :: starEach es X.env := by rfl) (hpl : (backTo pos (starEach es X.env)).any (·.1) = false := by rfl) :
    PE X (.Call (.Name x p) (e :: es) [] pos) (tCallSD sp [] E t) := by
  obtain ⟨f, fd, hm, hk, hb, F⟩ := G.ex
  exact pe_callSD F hr hg hm hk hb .nil hx ha hdb he hpl
/-- a class by its name, with its __init__'s promise -/
structure Mak (P : Program) (w : World) (K : PySem.W.Frag) (mg : Str → Option Value) (base : Heap) (CX : CXT) (x : Str) (C : Addr) (k : Nat) (ps : List Str) (sp : Sp) : Prop where
  ex : ∃ f fd, Mk K C f ∧ mg x = some (.ref C) ∧ Binds K fd ps [] ∧ FnOk P w K mg base CX k f fd ps sp
theorem pe_mak {C : Addr} (G : Mak X.prog X.w X.K X.mg X.base CX x C k ps sp) (hr : Room (k + 1) X.A) (hx : Passes CX X E) (ha : PA X (e :: es) t) (hg : Gl X x := by rfl)
    (hdb : (x == ("__debug__" : Str)) = false := by decide) (he : starEach (e :: es) X.env = (false, eval e X.env) :: starEach es X.env := by rfl) (hpl : (backTo pos (starEach es X.env)).any (·.1) = false := by rfl) :
    PE X (.Call (.Name x p) (e :: es) [] pos) (tMake C sp [] E t) := by
  obtain ⟨f, fd, M, hm, hb, F⟩ := G.ex
  exact pe_make M F hr hg hm hb .nil hx ha hdb he hpl
/-- int(n) of an int -/
theorem call_intI : CallR X (.type "int") (fun xs H Q => ∃ i, xs = [.int i] ∧ Q (.int i) H) := by
  intro pins s σ H xs us Q I r h
  exact call_int1 pins s σ H xs us Q I r (.inl h)
end
/-- what is wanted of an exception at any slots of the def -/
def WEl (X : Cx) (W : WX) : XK := fun cls d H => ∀ σ : L2.St, σ.length = X.N.length → W cls d σ H
theorem passW {X : Cx} {W : WX} (tk : Takes X W) : Passes (L2.CX X.prog X.w) X (WEl X W) := fun _ σ _ _ e s' I c => tk e s' (XE.of_call I (fun cls d H' h => h σ I.len) c)
theorem passE {X : Cx} {E : XK} (tk : Takes X (fun cls d _ H => E cls d H)) : Passes (L2.CX X.prog X.w) X E := passes_call tk fun _ _ _ _ h => h
/-- a method of a class, with its promise -/
structure Met (P : Program) (w : World) (K : PySem.W.Frag) (mg : Str → Option Value) (base : Heap) (CX : CXT) (C : Addr) (m : Str) (k : Nat) (ps : List Str) (sp : Sp) : Prop where
  ex : ∃ f fd, Meth K C m f ∧ Binds K fd ps [] ∧ FnOk P w K mg base CX k f fd ps sp
/-- a dict comprehension over a walk: as lc_it -/
theorem dc_it {J : It} {n : Nat} {W0 : Hp → Prop} {Y : Nat → Hp → V → Hp → Prop} (wk : Walk J n W0 Y) {g : TG} {tt : TT} {tk tv : TE} {vs : List Nat} {σ : L2.St} {H1 : Hp} {D : Addr} {Qd : Hp → Prop} (Pv : Nat → Hp → Prop) (h0 : Pv 0 (upd H1 D (.dK []))) (hG : ∀ i H, i ≤ n → Pv i H → W0 H)
    (hs : ∀ i x H H', i < n → Pv i H → Y i H x H' → g x (wipe σ vs) H' fun σ2 H2 => wipe σ2 vs = wipe σ vs ∧ tt σ2 H2 fun b H3 =>
      if b = true then tk σ2 H3 fun y H4 => tv σ2 H4 fun z H5 => ∃ kvs k, y = kV k ∧ H5 D = some (.dK kvs) ∧ kvs.length < sizeLine ∧ Pv (i + 1) (upd H5 D (.dK (putK kvs k z))) else Pv (i + 1) H3) (hd : ∀ H, Pv n H → Qd H) :
    ∃ W : Nat → Nat → Hp → Prop, (∃ m, W 0 m (upd H1 D (.dK []))) ∧ ∀ i m H, W i m H →
      (J.stop i H ∧ Qd H) ∨ (J.go i H ∧ ∃ Nx : Hp → Prop, (∀ H', Nx H' → ∃ m', m' < m ∧ W (i + 1) m' H') ∧ ∀ x H', J.yld i H x H' → g x (wipe σ vs) H' fun σ2 H2 => wipe σ2 vs = wipe σ vs ∧ tt σ2 H2 fun b H3 =>
        if b = true then tk σ2 H3 fun y H4 => tv σ2 H4 fun z H5 => ∃ kvs k, y = kV k ∧ H5 D = some (.dK kvs) ∧ kvs.length < sizeLine ∧ Nx (upd H5 D (.dK (putK kvs k z))) else Nx H3) := by
  refine ⟨fun i m H => (m + i = n) ∧ Pv i H, ⟨n, rfl, h0⟩, ?_⟩
  rintro i m H ⟨hm, pv⟩
  by_cases c : i < n
  · refine .inr ⟨wk.goes i H c (hG i H (by omega) pv), Pv (i + 1), fun H' pv' => ⟨m - 1, by omega, by omega, pv'⟩, fun x H' y => ?_⟩
    exact hs i x H H' c pv (wk.yields i H x H' c (hG i H (by omega) pv) y)
  · have : i = n := by omega
    subst this
    exact .inl ⟨wk.stops H (hG _ H (Nat.le_refl _) pv), hd H pv⟩
/-- the built-in names that the top leaves alone -/
structure Blt (mg : Str → Option Value) : Prop where
  len : mg "len" = none
  int : mg "int" = none
  bool : mg "bool" = none
  str : mg "str" = none
  list : mg "list" = none
  tuple : mg "tuple" = none
  dict : mg "dict" = none
  isinstance : mg "isinstance" = none
  all : mg "all" = none
  range : mg "range" = none
  enumerate : mg "enumerate" = none
  sorted : mg "sorted" = none
  min : mg "min" = none
  max : mg "max" = none
/-- data without depth -/
def flatD : PyData → Bool
  | .none => true
  | .bool _ => true
  | .int _ => true
  | .str x => PyData.strOk x
  | _ => false
theorem flat_lay : ∀ {ds : List PyData}, ds.all flatD = true → PyData.canLayAll0 ds = true ∧ PyData.depthAll ds ≤ 1
  | [], _ => by simp [PyData.canLayAll0, PyData.depthAll]
  | d :: ds, h => by
    rw [List.all_cons, Bool.and_eq_true] at h
    obtain ⟨h1, h2⟩ := flat_lay h.2
    cases d with
    | none => simp [PyData.canLayAll0, PyData.depthAll, PyData.canLay0, PyData.depth, h1, h2]
    | bool b => simp [PyData.canLayAll0, PyData.depthAll, PyData.canLay0, PyData.depth, h1, h2]
    | int b => simp [PyData.canLayAll0, PyData.depthAll, PyData.canLay0, PyData.depth, h1, h2]
    | str b =>
      have hb : PyData.strOk b = true := h.1
      simp [PyData.canLayAll0, PyData.depthAll, PyData.canLay0, PyData.depth, h1, h2, hb]
    | _ => exact absurd h.1 (by simp [flatD])
theorem shaped_flat {ds : List PyData} (h : ds.all flatD = true) : SeqAt.shaped (.tuple ds) = true := by
  obtain ⟨h1, h2⟩ := flat_lay h
  unfold SeqAt.shaped
  simp [PyData.canLay0, PyData.depth, h1]
  omega
/-- all but p stands -/
def But (p : Addr) (H H' : Hp) : Prop := ∀ b o, H b = some o → b ≠ p → H' b = some o
theorem But.refl (p : Addr) (H : Hp) : But p H H := fun _ _ h _ => h
theorem But.trans {p : Addr} {H H1 H2 : Hp} (a : But p H H1) (b : But p H1 H2) : But p H H2 := fun c o h n => b c o (a c o h n) n
theorem But.upd {p : Addr} {H H' : Hp} {o : HO} (a : But p H H') : But p H (L2.upd H' p o) := fun c u h n => by rw [upd_ne n]; exact a c u h n
theorem But.new {p q : Addr} {H H' : Hp} {o : HO} (a : But p H H') (h : H' q = none) (hp : H q = none ∨ q ≠ p := by first | exact .inl ‹_› | exact .inr ‹_›) : But p H (L2.upd H' q o) := fun c u hc n => by
  rw [upd_ne]
  · exact a c u hc n
  · intro z
    subst z
    rw [a c u hc n] at h
    cases h
theorem But.at {p q : Addr} {H H' : Hp} {o : HO} (a : But p H H') (h : H q = none) : But p H (L2.upd H' q o) := fun c u hc n => by
  rw [upd_ne (ne_of_none hc h)]
  exact a c u hc n
theorem sameAt {q : Addr} {H H' : Hp} {o : HO} (a : Same H H') (h : H q = none) : Same H (L2.upd H' q o) := fun c u hc => by
  rw [upd_ne (ne_of_none hc h)]
  exact a c u hc
theorem But.same {p : Addr} {H H' : Hp} (a : Same H H') : But p H H' := fun c o h _ => a c o h
theorem Same.new {q : Addr} {H H' : Hp} {o : HO} (a : Same H H') (h : H' q = none) : Same H (upd H' q o) := fun c u hc => by
  rw [upd_ne (ne_of_none (a c u hc) h)]
  exact a c u hc
theorem But.seq {K : PySem.W.Frag} {p a : Addr} {H H' : Hp} {xs : List V} (e : But p H H') (hn : ∀ o, H p = some o → ∀ ys, o ≠ .lst ys → True) (h : H a = some (.lst xs)) (n : a ≠ p) : SqL K H' a xs := .of (e _ _ h n)
end Ash

set_option Elab.async false
set_option linter.all false
set_option maxRecDepth 100000
set_option maxHeartbeats 4000000
namespace Ash
open PySem PySem.Spec PyProof.Rows L2
open C8 (pss_cut)
/-- the pool of drawn numbers at p, the script's copy at s -/
def PoolAt (H : Hp) (p s : Addr) : Prop := ∃ (ns : List Int) (i c k n : Int), H p = some (.lst [.ref s, .int i, .int c, .int k, .int n]) ∧ H s = some (.lst (ns.map V.int)) ∧ 0 ≤ i ∧ s ≠ p
theorem PoolAt.same {H H' : Hp} {p s : Addr} (h : PoolAt H p s) (e : Same H H') : PoolAt H' p s := by
  obtain ⟨ns, i, c, k, n, h1, h2, h3, h4⟩ := h
  exact ⟨ns, i, c, k, n, e _ _ h1, e _ _ h2, h3, h4⟩
theorem PoolAt.off {H : Hp} {p s q : Addr} {o : HO} (h : PoolAt H p s) (hp : q ≠ p) (hs : q ≠ s) : PoolAt (L2.upd H q o) p s := by
  obtain ⟨ns, i, c, k, n, h1, h2, h3, h4⟩ := h
  exact ⟨ns, i, c, k, n, by rw [upd_ne hp.symm]; exact h1, by rw [upd_ne hs.symm]; exact h2, h3, h4⟩
/-- from H0 to H nothing that was tracked has changed but the pool -/
structure Pl (H0 H : Hp) (p s : Addr) : Prop where
  now : PoolAt H p s
  op : H0 p ≠ none
  os : H0 s ≠ none
  but : But p H0 H
section
variable {H0 H H1 : Hp} {p s q : Addr} {o : HO}
theorem PoolAt.ne (h : PoolAt H p s) : H p ≠ none ∧ H s ≠ none := by
  obtain ⟨ns, i, c, k, n, h1, h2, h3, h4⟩ := h
  rw [h1, h2]
  exact ⟨Option.some_ne_none _, Option.some_ne_none _⟩
theorem Pl.refl (h : PoolAt H p s) : Pl H H p s := ⟨h, h.ne.1, h.ne.2, But.refl p H⟩
theorem Pl.at (h : Pl H0 H p s) (hq : H0 q = none) : Pl H0 (L2.upd H q o) p s :=
  ⟨h.now.off (fun z => h.op (z ▸ hq)) (fun z => h.os (z ▸ hq)), h.op, h.os, h.but.at hq⟩
theorem Pl.keep (h : Pl H0 H p s) {b : Addr} {u : HO} (e : H0 b = some u) (n : b ≠ p) : H b = some u := h.but b u e n
theorem Pl.free (h : Pl H0 H p s) (hq : H q = none) : H0 q = none := by
  cases e : H0 q with
  | none => rfl
  | some u =>
    by_cases hp : q = p
    · exact absurd (hp ▸ hq) h.now.ne.1
    · rw [h.but q u e hp] at hq
      cases hq
theorem Pl.trans (a : Pl H0 H p s) (b : Pl H H1 p s) : Pl H0 H1 p s := ⟨b.now, a.op, a.os, a.but.trans b.but⟩
/-- a new thing -/
theorem Pl.new (h : Pl H0 H p s) (hq : H q = none) : Pl H0 (L2.upd H q o) p s := h.at (h.free hq)
theorem Pl.same (h : Pl H0 H p s) (e : Same H H1) : Pl H0 H1 p s := ⟨h.now.same e, h.op, h.os, fun b u hb n => e b u (h.but b u hb n)⟩
end
def spPool (K : PySem.W.Frag) : Sp := fun vs H Q _ => ∃ (a : Addr) (ns : List Int), vs = [.ref a] ∧ SqL K H a (ns.map V.int) ∧ ∀ p s H', H p = none → PoolAt H' p s → Same H H' → Q (.ref p) H'
def spDraw : Sp := fun vs H Q _ => ∃ (p s : Addr) (many : Int), vs = [.ref p, .int many] ∧ PoolAt H p s ∧ 0 < many ∧ many < 2 ^ 200 ∧ ∀ (d : Int) H', 0 ≤ d → d < many → Pl H H' p s → Q (.int d) H'
section
variable {P : Program} {w : World} {K : PySem.W.Frag} {mg : Str → Option Value} {base : Heap}
abbrev s_l_pool : Stmt := topS 32
theorem sc_l_pool : FnScope ["script"] ["script"] (defScope s_l_pool) := ⟨rfl, rfl, rfl, by decide +kernel, rfl, by decide +kernel, by decide +kernel⟩
theorem ok_pool {f : Addr} {fd : FuncData} (F : Fun K "_law_pool" "_law_pool" s_l_pool f fd) (B : Blt mg) : FnOk P w K mg base CX0 1 f fd ["script"] (spPool K) := by
  refine F.ok sc_l_pool (fun vs H Q E h => ?_) (fun cdv A outer s H vs Q E hr h => ?_)
  · obtain ⟨a, ns, rfl, _⟩ := h
    rfl
  · obtain ⟨a, ns, rfl, hS, k⟩ := h
    refine ⟨_, (pss_one (ps_ret (pe_lst (pa_cons (pe_callTy call_list_of (by rfl) B.list (by decide +kernel) (pa_cons (pv 0) pa_nil)) (pa_cons pe_int (pa_cons pe_int (pa_cons pe_int (pa_cons pe_int pa_nil)))))))), ?_⟩
    refine ⟨_, rfl, _, _, rfl, .inl hS, fun l hl => ⟨(by show 5 ≤ sizeLine; decide), fun p hp => ?_⟩⟩
    have hpl : l ≠ p := fun z => by rw [z, upd_same] at hp; cases hp
    have hp0 : H p = none := by rw [upd_ne (Ne.symm hpl)] at hp; exact hp
    refine k p l _ hp0 ⟨ns, _, _, _, _, upd_same, (by rw [upd_ne hpl, upd_same]), (by decide), hpl⟩ ?_
    exact Same.new (Same.new (Same.refl H) hl) hp
abbrev s_l_draw : Stmt := topS 33
theorem sc_l_draw : FnScope ["pool", "many", "cell", "digit", "number"] ["pool", "many"] (defScope s_l_draw) := ⟨rfl, rfl, rfl, by decide +kernel, rfl, by decide +kernel, by decide +kernel⟩
theorem ok_draw {f : Addr} {fd : FuncData} (F : Fun K "_law_draw" "_law_draw" s_l_draw f fd) (B : Blt mg) : FnOk P w K mg base CX0 1 f fd ["pool", "many"] spDraw := by
  refine F.ok sc_l_draw (fun vs H Q E h => ?_) (fun cdv A outer s H vs Q E hr h => ?_)
  · obtain ⟨p, _, many, rfl, _⟩ := h
    rfl
  · obtain ⟨p, s, many, rfl, hPP, hm, hm2, kk⟩ := h
    obtain ⟨ns, i, c, k, n, hp, hs, hi, hsp⟩ := id hPP
    refine ⟨_, (pss_cons (ps_asg (pe_op op_add (pe_ix ix_list (pv 0) pe_int (fun _ _ => rfl)) pe_int) (pg_sub (pv 0) pe_int set_list))
    (pss_cut (ps_if (PW.pt (pw_and (pt_cmpR op_eq (pe_ix ix_list (pv 0) pe_int (fun _ _ => rfl)) pe_int (nomark _)) (pw_and1 (pt_cmpR op_lt (pe_ix ix_list (pv 0) pe_int (fun _ _ => rfl)) (pe_callB call_len_seq (by rfl) B.len (by decide +kernel) (pa_cons (pe_ix ix_list (pv 0) pe_int (fun _ _ => rfl)) pa_nil)) (nomark _)))))
      (pss_cons (ps_set (i := 2) sc_l_draw.nd rfl (Or.inl rfl) (pe_callTy call_intI (by rfl) B.int (by decide +kernel) (pa_cons (pe_ix ix_list (pe_ix ix_list (pv 0) pe_int (fun _ _ => rfl)) (pe_ix ix_list (pv 0) pe_int (fun _ _ => rfl)) (fun _ _ => rfl)) pa_nil)))
      (pss_cons (ps_asg (pe_op op_add (pe_ix ix_list (pv 0) pe_int (fun _ _ => rfl)) pe_int) (pg_sub (pv 0) pe_int set_list))
      (pss_one (ps_if (pt_cmpR op_ge (pv 2) (pe_op op_pow pe_int pe_int) (nomark _))
        (pss_one (ps_asg (pv 2) (pg_sub (pv 0) pe_int set_list)))
        (pss_one (ps_asg (pe_op op_mod (pe_callTy call_intI (by rfl) B.int (by decide +kernel) (pa_cons (pe_op op_add (pe_op op_add (pe_op op_mul (pe_ix ix_list (pv 0) pe_int (fun _ _ => rfl)) pe_int) (pe_op op_mul (pv 2) pe_int)) pe_int) pa_nil)) pe_int) (pg_sub (pv 0) pe_int set_list)))))))
      pss_nil)
    (pss_cons (ps_if (pt_cmpR op_gt (pe_ix ix_list (pv 0) pe_int (fun _ _ => rfl)) pe_int (nomark _))
      (pss_cons (ps_set (i := 3) sc_l_draw.nd rfl (Or.inl rfl) (pe_op op_mod (pe_callTy call_intI (by rfl) B.int (by decide +kernel) (pa_cons (pe_ix ix_list (pv 0) pe_int (fun _ _ => rfl)) pa_nil)) (pv 1)))
      (pss_cons (ps_asg (pe_op op_fdivW (pe_callTy call_intI (by rfl) B.int (by decide +kernel) (pa_cons (pe_ix ix_list (pv 0) pe_int (fun _ _ => rfl)) pa_nil)) (pv 1)) (pg_sub (pv 0) pe_int set_list))
      (pss_one (ps_ret (pv 3)))))
      pss_nil)
    (pss_cons (ps_set (i := 4) sc_l_draw.nd rfl (Or.inl rfl) (pe_op op_mod (pe_callTy call_intI (by rfl) B.int (by decide +kernel) (pa_cons (pe_op op_add (pe_op op_add (pe_ix ix_list (pv 0) pe_int (fun _ _ => rfl)) (pe_op op_mul (pe_ix ix_list (pv 0) pe_int (fun _ _ => rfl)) pe_int)) pe_int) pa_nil)) pe_int))
    (pss_cons (ps_set (i := 4) sc_l_draw.nd rfl (Or.inl rfl) (pe_op op_mod (pe_callTy call_intI (by rfl) B.int (by decide +kernel) (pa_cons (pe_op op_mul (pv 4) (pe_op op_add (pe_op op_fdiv (pv 4) pe_int) pe_int)) pa_nil)) pe_int))
    (pss_cons (ps_set (i := 4) sc_l_draw.nd rfl (Or.inl rfl) (pe_op op_mod (pe_callTy call_intI (by rfl) B.int (by decide +kernel) (pa_cons (pe_op op_mul (pv 4) (pe_op op_add (pe_op op_fdiv (pv 4) pe_int) pe_int)) pa_nil)) pe_int))
    (pss_cons (ps_asg (pv 4) (pg_sub (pv 0) pe_int set_list))
    (pss_one (ps_ret (pe_op op_mod (pe_callTy call_intI (by rfl) B.int (by decide +kernel) (pa_cons (pe_op op_fdiv (pv 4) pe_int) pa_nil)) (pv 1))))))))))), ?_⟩
    -- pool[3] = pool[3] + 1
    refine ⟨_, rfl, _, _, _, _, rfl, rfl, SqL.of hp, rfl, _, _, rfl, rfl, _, rfl, _, _, _, _, rfl, rfl, hp, rfl, ?_⟩
    -- the first if
    refine ⟨fun σ H1 => (∃ cell, σ = [some (.ref p), some (.int many), cell, none, none]) ∧ ∃ (i c k n : Int), H1 p = some (.lst [.ref s, .int i, .int c, .int k, .int n]) ∧ H1 s = some (.lst (ns.map V.int)) ∧ 0 ≤ i ∧ But p H H1, ?_, ?_⟩
    · generalize eH : upd H p (.lst _) = H1
      have hp1 : H1 p = some (.lst [.ref s, .int i, .int c, .int (k + 1), .int n]) := by rw [← eH]; exact upd_same
      have hs1 : H1 s = some (.lst (ns.map V.int)) := by rw [← eH, upd_ne hsp]; exact hs
      have hb1 : But p H H1 := by rw [← eH]; exact (But.refl p H).upd
      clear eH
      refine ⟨_, rfl, _, _, _, _, rfl, rfl, SqL.of hp1, rfl, rfl, _, rfl, ?_⟩
      refine ite2 (fun c2 => ?_) (fun c2 => ?_)
      · refine ⟨_, rfl, _, _, _, _, rfl, rfl, SqL.of hp1, rfl, _, rfl, _, _, _, _, rfl, rfl, SqL.of hp1, rfl, _, _, rfl, .inl (SqL.of hs1), _, _, rfl, rfl, _, rfl, ?_⟩
        refine ite2 (fun c3 => ?_) (fun c3 => ?_)
        · have c3' : i < (ns.map V.int).length := of_decide_eq_true c3
          obtain ⟨j, rfl⟩ : ∃ j : Nat, i = (j : Int) := ⟨i.toNat, by omega⟩
          have hj : j < ns.length := by rw [List.length_map] at c3'; omega
          -- cell = int(pool[0][pool[1]])
          refine ⟨_, rfl, _, _, _, _, rfl, rfl, SqL.of hp1, rfl, _, rfl, _, _, _, _, rfl, rfl, SqL.of hp1, rfl, _, _, _, V.int ns[j], rfl, rfl, SqL.of hs1, atI_nat (by rw [List.getElem?_map, List.getElem?_eq_getElem hj]; rfl), _, rfl, ?_⟩
          refine ⟨_, rfl, _, _, _, _, rfl, rfl, SqL.of hp1, rfl, _, _, rfl, rfl, _, rfl, _, _, _, _, rfl, rfl, hp1, rfl, ?_⟩
          refine ⟨_, rfl, _, _, rfl, rfl, ⟨by decide, by decide, by decide⟩, _, _, rfl, rfl, _, rfl, ?_⟩
          refine ite2 (fun c4 => ?_) (fun c4 => ?_)
          · refine ⟨_, rfl, _, rfl, _, _, _, _, rfl, rfl, upd_same, rfl, ⟨_, rfl⟩, _, _, _, _, upd_same, (by rw [upd_ne hsp, upd_ne hsp]; exact hs1), (by omega), hb1.upd.upd⟩
          · refine ⟨_, rfl, _, _, _, _, rfl, rfl, SqL.of upd_same, rfl, _, _, rfl, rfl, .inr ⟨by decide, by decide⟩, _, rfl, _, _, rfl, rfl, .inr ⟨by decide, by decide⟩, _, _, rfl, rfl, _, _, rfl, rfl, _, rfl, _, _, rfl, rfl, (by show (0 : Int) < 2147483647; decide), _, rfl, _, _, _, _, rfl, rfl, upd_same, rfl, ⟨_, rfl⟩, _, _, _, _, upd_same, (by rw [upd_ne hsp, upd_ne hsp]; exact hs1), (by omega), hb1.upd.upd⟩
        · exact ⟨⟨_, rfl⟩, _, _, _, _, hp1, hs1, hi, hb1⟩
      · exact ⟨⟨_, rfl⟩, _, _, _, _, hp1, hs1, hi, hb1⟩
    · rintro σ' H1 ⟨⟨cell, rfl⟩, i, c, k, n, hp1, hs1, hi, hb1⟩
      refine ⟨_, rfl, _, _, _, _, rfl, rfl, SqL.of hp1, rfl, _, _, rfl, rfl, _, rfl, ?_⟩
      refine ite2 (fun c2 => ?_) (fun c2 => ?_)
      · refine ⟨_, rfl, _, _, _, _, rfl, rfl, SqL.of hp1, rfl, _, rfl, _, rfl, _, _, rfl, rfl, hm, _, rfl, _, _, _, _, rfl, rfl, SqL.of hp1, rfl, _, rfl, _, rfl, _, _, rfl, rfl, wide_div (b := 200) hm (by omega) (by decide) (by decide), _, rfl, _, _, _, _, rfl, rfl, hp1, rfl, _, rfl, ?_⟩
        refine kk _ _ (Int.emod_nonneg _ (by omega)) (Int.emod_lt_of_pos _ hm) ⟨⟨ns, _, _, _, _, upd_same, (by rw [upd_ne hsp]; exact hs1), hi, hsp⟩, hPP.ne.1, hPP.ne.2, hb1.upd⟩
      · refine ⟨_, rfl, _, _, _, _, rfl, rfl, SqL.of hp1, rfl, _, rfl, _, _, _, _, rfl, rfl, SqL.of hp1, rfl, _, _, rfl, rfl, .inr ⟨by decide, by decide⟩, _, _, rfl, rfl, _, _, rfl, rfl, _, rfl, _, _, rfl, rfl, (by show (0 : Int) < 2147483647; decide), ?_⟩
        generalize ea : (n + k * 104729 + 1) % 2147483647 = a
        have a0 : 0 ≤ a := by rw [← ea]; exact Int.emod_nonneg _ (by decide)
        have a1 : a < 2147483647 := by rw [← ea]; exact Int.emod_lt_of_pos _ (by decide)
        refine ⟨_, rfl, _, rfl, _, _, rfl, rfl, ⟨by decide, by decide⟩, _, _, rfl, rfl, _, _, rfl, rfl, .inl ⟨by omega, by omega⟩, _, rfl, _, _, rfl, rfl, (by show (0 : Int) < 2147483647; decide), ?_⟩
        generalize eb : a * (a / 1009 + 69621) % 2147483647 = b
        have b0 : 0 ≤ b := by rw [← eb]; exact Int.emod_nonneg _ (by decide)
        have b1 : b < 2147483647 := by rw [← eb]; exact Int.emod_lt_of_pos _ (by decide)
        refine ⟨_, rfl, _, rfl, _, _, rfl, rfl, ⟨by decide, by decide⟩, _, _, rfl, rfl, _, _, rfl, rfl, .inl ⟨by omega, by omega⟩, _, rfl, _, _, rfl, rfl, (by show (0 : Int) < 2147483399; decide), ?_⟩
        refine ⟨_, rfl, _, rfl, _, _, _, _, rfl, rfl, hp1, rfl, _, rfl, _, _, rfl, rfl, ⟨by decide, by decide⟩, _, rfl, _, rfl, _, _, rfl, rfl, hm, ?_⟩
        refine kk _ _ (Int.emod_nonneg _ (by omega)) (Int.emod_lt_of_pos _ hm) ⟨⟨ns, _, _, _, _, upd_same, (by rw [upd_ne hsp]; exact hs1), hi, hsp⟩, hPP.ne.1, hPP.ne.2, hb1.upd⟩
end
end Ash

set_option Elab.async false
set_option linter.all false
set_option maxRecDepth 100000
set_option maxHeartbeats 4000000
namespace Ash
open PySem PySem.Spec PyProof.Rows L2
open C8 (pss_cut)
/-! ### names -/
def LET : List Nat := [97, 98, 99, 100, 101, 102, 103, 104, 105, 106, 107, 108, 109, 110, 111, 112, 113, 114, 115, 116, 117, 118, 119, 120, 121, 122]
abbrev abc : Str := "abcdefghijklmnopqrstuvwxyz"
theorem abc_let : abc.cps.toList = LET := by decide +kernel
theorem abc_size : abc.cps.size = 26 := by decide +kernel
/-- a name: 1 to 8 letters -/
def IsNm (z : Str) : Prop := 1 ≤ z.length ∧ z.length ≤ 8 ∧ ∀ c ∈ z.cps.toList, c ∈ LET
theorem let_small : ∀ c ∈ LET, c < 0x110000 := by decide
theorem nm_ok {z : Str} (h : IsNm z) : PyData.strOk z = true := by
  unfold PyData.strOk
  rw [← Array.all_toList, List.all_eq_true]
  exact fun c hc => decide_eq_true (let_small c (h.2.2 c hc))
theorem append_length (a b : Str) : (a ++ b).length = a.length + b.length := by
  show (a.cps ++ b.cps).size = a.cps.size + b.cps.size
  rw [Array.size_append]
theorem append_list (a b : Str) : (a ++ b).cps.toList = a.cps.toList ++ b.cps.toList := by
  show (a.cps ++ b.cps).toList = _
  rw [Array.toList_append]
theorem one_nm {c : Nat} (h : c ∈ LET) : IsNm ⟨#[c]⟩ := ⟨Nat.le_refl 1, (by show 1 ≤ 8; decide), fun d hd => by
  have e : d = c := by simpa using hd
  rw [e]
  exact h⟩
theorem inV_str {z : Str} : ∀ {l : List Str}, inV (.str z) (l.map V.str) = decide (z ∈ l)
  | [] => by simp [inV]
  | a :: l => by
    have ih := inV_str (z := z) (l := l)
    unfold inV at ih ⊢
    rw [List.map_cons, List.any_cons, ih]
    show ((a == z) || decide (z ∈ l)) = decide (z ∈ a :: l)
    by_cases h : a = z
    · subst h
      simp
    · have h' : ¬ z = a := fun q => h q.symm
      by_cases h2 : z ∈ l <;> simp [h, h', h2]
theorem flat_strs (l : List Str) : (l.map V.str).all flatV = true := by
  induction l with
  | nil => rfl
  | cons a l ih =>
    rw [List.map_cons, List.all_cons, ih]
    rfl
theorem sub_len {α : Type} [DecidableEq α] : ∀ {l m : List α}, l.Nodup → (∀ x ∈ l, x ∈ m) → l.length ≤ m.length
  | [], m, _, _ => Nat.zero_le _
  | a :: l, m, hn, h => by
    obtain ⟨h1, h2⟩ := List.nodup_cons.mp hn
    have ha : a ∈ m := h a List.mem_cons_self
    have ih := sub_len (l := l) (m := m.erase a) h2 fun x hx => (List.mem_erase_of_ne (fun z => h1 (by rw [← z]; exact hx))).mpr (h x (List.mem_cons_of_mem _ hx))
    rw [List.length_erase_of_mem ha] at ih
    have : 0 < m.length := List.length_pos_of_mem ha
    rw [List.length_cons]
    omega
theorem atI_natC {α : Type} {xs : List α} {j : Nat} (h : j < xs.length) : atI xs (j : Int) = some xs[j] := by
  unfold atI ixN
  rw [if_pos (by omega), if_pos (by omega), Option.bind_some, Int.toNat_natCast]
  exact List.getElem?_eq_getElem h
theorem let_strs : (LET.map fun c => (⟨#[c]⟩ : Str)).Nodup := by decide +kernel
theorem not_all {l : List Str} (hl : l.length ≤ 25) (h : ∀ c ∈ LET, (⟨#[c]⟩ : Str) ∈ l) : False := by
  have := sub_len let_strs (m := l) fun x hx => by
    obtain ⟨c, hc, rfl⟩ := List.mem_map.mp hx
    exact h c hc
  have e : (LET.map fun c => (⟨#[c]⟩ : Str)).length = 26 := by decide +kernel
  omega
def spNames : Sp := fun vs H Q _ => ∃ (p s : Addr) (many : Int), vs = [.ref p, .int many] ∧ PoolAt H p s ∧ 0 ≤ many ∧ many ≤ 25 ∧
  ∀ (q : Addr) (l : List Str) H', H q = none → H' q = some (.lst (l.map V.str)) → l.length = many.toNat → l.Nodup → (∀ z ∈ l, IsNm z) → Pl H H' p s → Q (.ref q) H'
section
variable {P : Program} {w : World} {K : PySem.W.Frag} {mg : Str → Option Value} {base : Heap}
abbrev CDraw (P : Program) (w : World) (K : PySem.W.Frag) (mg : Str → Option Value) (base : Heap) : Prop := Cal P w K mg base CX0 "_law_draw" 1 ["pool", "many"] spDraw
structure G1 (P : Program) (w : World) (K : PySem.W.Frag) (mg : Str → Option Value) (base : Heap) : Prop where
  law_draw : CDraw P w K mg base
abbrev s_l_names : Stmt := topS 34
theorem sc_l_names : FnScope ["pool", "many", "letters", "names", "k", "length", "name", "at", "letter"] ["pool", "many"] (defScope s_l_names) := ⟨rfl, rfl, rfl, by decide +kernel, rfl, by decide +kernel, by decide +kernel⟩
theorem ok_names {f : Addr} {fd : FuncData} (F : Fun K "_law_names" "_law_names" s_l_names f fd) (B : Blt mg) (G : G1 P w K mg base) : FnOk P w K mg base CX0 2 f fd ["pool", "many"] spNames := by
  refine F.ok sc_l_names (fun vs H Q E h => ?_) (fun cdv A outer s H vs Q E hr h => ?_)
  · obtain ⟨p, _, many, rfl, _⟩ := h
    rfl
  · obtain ⟨p, s0, many, rfl, hP, hm, hm2, kk⟩ := h
    refine ⟨_, (pss_cons (ps_set (i := 2) sc_l_names.nd rfl (Or.inl rfl) pe_str)
    (pss_cons (ps_set (i := 3) sc_l_names.nd rfl (Or.inl rfl) (pe_lst pa_nil))
    (pss_cons (ps_for PassesOwn.never rfl (pi_range1 (by rfl) B.range (pa_cons (pv 1) pa_nil)) (pg_name (i := 4) sc_l_names.nd rfl (Or.inl rfl))
      (pss_cons (ps_set (i := 5) sc_l_names.nd rfl (Or.inl rfl) pe_int)
      (pss_cut (ps_if (pt_cmpR op_eq (pe_cal G.law_draw (hr.mono (by decide)) pass0 (pa_cons (pv 0) (pa_cons pe_int pa_nil))) pe_int (nomark _))
        (pss_one (ps_set (i := 5) sc_l_names.nd rfl (Or.inl rfl) (pe_op op_add pe_int (pe_cal G.law_draw (hr.mono (by decide)) pass0 (pa_cons (pv 0) (pa_cons pe_int pa_nil))))))
        pss_nil)
      (pss_cons (ps_set (i := 6) sc_l_names.nd rfl (Or.inl rfl) pe_str)
      (pss_cut (ps_for PassesOwn.never rfl (pi_range1 (by rfl) B.range (pa_cons (pv 5) pa_nil)) (pg_name (i := 7) sc_l_names.nd rfl (Or.inl rfl))
        (pss_one (ps_set (i := 6) sc_l_names.nd rfl (Or.inl rfl) (pe_op op_add_str (pv 6) (pe_ix ix_str (pv 2) (pe_cal G.law_draw (hr.mono (by decide)) pass0 (pa_cons (pv 0) (pa_cons pe_int pa_nil))) (fun _ _ => rfl))))))
      (pss_cut (ps_for PassesOwn.never rfl (pi_str (pv 2)) (pg_name (i := 8) sc_l_names.nd rfl (Or.inl rfl))
        (pss_one (ps_if (PW.pt (pw_and (pt_cmpR op_in_seq (pv 6) (pv 3) rfl) (pw_and1 (pt_cmpR op_notIn_seq (pv 8) (pv 3) rfl))))
          (pss_one (ps_set (i := 6) sc_l_names.nd rfl (Or.inl rfl) (pv 8)))
          pss_nil)))
      (pss_one (ps_expr (pe_bm PySem.F.plainAttrs_list PySem.F.slot_list_append PySem.F.type_list_append mt_append (pv 3) (pa_cons (pv 6) pa_nil))))))))))
    (pss_one (ps_ret (pv 3)))))), ?_⟩
    refine ⟨(by show 0 ≤ sizeLine; decide), fun q hq => ?_⟩
    have hr1 : Room 1 _ := hr.mono (by decide)
    refine ⟨_, rfl, _, rfl, (by omega), (by omega), for_range (n := many.toNat) (fun i σ H1 => (∃ a b c d e, σ = [some (.ref p), some (.int many), some (.str abc), some (.ref q), a, b, c, d, e]) ∧ ∃ l : List Str, H1 q = some (.lst (l.map V.str)) ∧ l.length = i ∧ l.Nodup ∧ (∀ z ∈ l, IsNm z) ∧ Pl H H1 p s0) ?_ ?_ ?_⟩
    · exact ⟨⟨_, _, _, _, _, rfl⟩, [], upd_same, rfl, List.nodup_nil, (fun z hz => nomatch hz), (Pl.refl hP).at hq⟩
    · rintro i σ H1 hi ⟨⟨a, b, c, d, e, rfl⟩, l, hl, hlen, hnd, hnm, PL⟩
      have hqp : q ≠ p := fun z => hP.ne.1 (z ▸ hq)
      -- length
      refine ⟨fun σ H2 => (∃ k len c d e, σ = [some (.ref p), some (.int many), some (.str abc), some (.ref q), k, some (.int len), c, d, e] ∧ 1 ≤ len ∧ len ≤ 8) ∧ Pl H1 H2 p s0, ?_, ?_⟩
      · refine ⟨_, rfl, p, s0, 3, rfl, PL.now, (by decide), (by decide), fun x H2 h0 h3 P2 => ⟨rfl, _, rfl, ?_⟩⟩
        refine ite2 (fun c2 => ?_) (fun c2 => ?_)
        · refine ⟨_, rfl, p, s0, 8, rfl, P2.now, (by decide), (by decide), fun y H3 y0 y8 P3 => ?_⟩
          exact ⟨_, _, rfl, rfl, ⟨_, _, _, _, _, rfl, by omega, by omega⟩, P2.trans P3⟩
        · exact ⟨⟨_, _, _, _, _, rfl, by omega, by omega⟩, P2⟩
      rintro σ H2 ⟨⟨k, len, c, d, e, rfl, hlo, hhi⟩, P2⟩
      -- name
      refine ⟨fun σ H3 => (∃ k len nm d e, σ = [some (.ref p), some (.int many), some (.str abc), some (.ref q), k, len, some (.str nm), d, e] ∧ IsNm nm) ∧ Pl H1 H3 p s0, ?_, ?_⟩
      · refine ⟨_, rfl, _, rfl, (by omega), (by omega), for_range (n := len.toNat) (fun j σ H3 => (∃ d nm, σ = [some (.ref p), some (.int many), some (.str abc), some (.ref q), k, some (.int len), some (.str nm), d, e] ∧ nm.length = j ∧ ∀ c ∈ nm.cps.toList, c ∈ LET) ∧ Pl H1 H3 p s0) ?_ ?_ ?_⟩
        · exact ⟨⟨_, _, rfl, rfl, fun c hc => by cases hc⟩, P2⟩
        · rintro j σ H3 hj ⟨⟨d, nm, rfl, hnl, hnc⟩, P3⟩
          refine ⟨_, rfl, _, rfl, _, rfl, p, s0, 26, rfl, P3.now, (by decide), (by decide), fun x H4 x0 x26 P4 => ?_⟩
          obtain ⟨g, rfl⟩ : ∃ g : Nat, x = (g : Int) := ⟨x.toNat, by omega⟩
          have hg : g < LET.length := by show g < 26; omega
          refine ⟨_, _, LET[g], rfl, rfl, (by show abc.cps.size ≤ sizeLine; rw [abc_size]; decide), (by rw [abc_let]; exact atI_natC hg), _, _, rfl, rfl, ?_, ?_⟩
          · show nm.length + 1 ≤ sizeLine
            rw [sizeLine_eq]
            omega
          · refine ⟨⟨_, _, rfl, ?_, ?_⟩, P3.trans P4⟩
            · rw [append_length, hnl]
              rfl
            · intro c hc
              rw [append_list] at hc
              rcases List.mem_append.mp hc with hc | hc
              · exact hnc c hc
              · have e : c = LET[g] := by simpa using hc
                rw [e]
                exact List.getElem_mem hg
        · rintro σ H3 ⟨⟨d, nm, rfl, hnl, hnc⟩, P3⟩
          exact ⟨⟨_, _, _, _, _, rfl, by omega, by omega, hnc⟩, P3⟩
      rintro σ H3 ⟨⟨k, len, nm, d, e, rfl, hN⟩, P3⟩
      -- another name
      have hq3 : H3 q = some (.lst (l.map V.str)) := P3.keep hl hqp
      refine ⟨fun σ H4 => (∃ k len nm d e, σ = [some (.ref p), some (.int many), some (.str abc), some (.ref q), k, len, some (.str nm), d, e] ∧ IsNm nm ∧ nm ∉ l) ∧ H4 = H3, ?_, ?_⟩
      · refine ⟨_, rfl, _, rfl, for_it (walk_str (z := abc)) (fun j σ H4 => (∃ nm e, σ = [some (.ref p), some (.int many), some (.str abc), some (.ref q), k, len, some (.str nm), d, e] ∧ IsNm nm ∧ (nm ∈ l → ∀ (i : Nat) (x : Nat), i < j → LET[i]? = some x → (⟨#[x]⟩ : Str) ∈ l)) ∧ H4 = H3) ?_ (fun _ _ _ _ _ => trivial) ?_ ?_⟩
        · exact ⟨⟨_, _, rfl, hN, fun _ i x hi => by omega⟩, rfl⟩
        · rintro j x σ H4 H5 hj ⟨⟨nm, e, rfl, hN, hall⟩, rfl⟩ ⟨rfl, c, hc, rfl⟩
          have hc' : LET[j]? = some c := by
            rw [← abc_let, Array.getElem?_toList]
            exact hc
          have hcm : c ∈ LET := List.mem_of_getElem? hc'
          refine ⟨_, rfl, _, rfl, _, _, rfl, .inl (SqL.of hq3), rfl, flat_strs l, _, rfl, ?_⟩
          rw [if_neg (by decide), inV_str]
          refine ite2 (fun c2 => ?_) (fun c2 => ?_)
          · have c2 : nm ∈ l := of_decide_eq_true c2
            refine ⟨_, rfl, _, rfl, _, _, rfl, .inl (SqL.of hq3), rfl, flat_strs l, _, rfl, ?_⟩
            rw [if_pos rfl, inV_str]
            refine ite2 (fun c3 => ?_) (fun c3 => ?_)
            · have c3 : ¬ (⟨#[c]⟩ : Str) ∈ l := by simpa using c3
              exact ⟨_, rfl, ⟨_, _, rfl, one_nm hcm, fun z => absurd z c3⟩, rfl⟩
            · have c3 : (⟨#[c]⟩ : Str) ∈ l := by simpa using c3
              refine ⟨⟨_, _, rfl, hN, fun _ i x hi hx => ?_⟩, rfl⟩
              by_cases hij : i < j
              · exact hall c2 i x hij hx
              · have : i = j := by omega
                subst this
                rw [hc'] at hx
                cases hx
                exact c3
          · have c2 : ¬ nm ∈ l := by simpa using c2
            exact ⟨⟨_, _, rfl, hN, fun z => absurd z c2⟩, rfl⟩
        · rintro σ H4 ⟨⟨nm, e, rfl, hN, hall⟩, rfl⟩
          refine ⟨⟨_, _, _, _, _, rfl, hN, fun z => ?_⟩, rfl⟩
          refine not_all (l := l) (by omega) fun c hc => ?_
          obtain ⟨i, hi, e2⟩ := List.getElem_of_mem hc
          exact hall z i c (by rw [abc_size]; exact hi) (by rw [List.getElem?_eq_getElem hi, e2])
      rintro σ H4 ⟨⟨k, len, nm, d, e, rfl, hN, hnl⟩, rfl⟩
      refine ⟨_, rfl, .inl ⟨rfl, _, SqL.of hq3⟩, _, rfl, q, _, _, rfl, rfl, hq3, (by rw [List.length_map]; exact small1000 (by omega)), ?_⟩
      refine ⟨⟨_, _, _, _, _, rfl⟩, l ++ [nm], ?_, ?_, nd_snoc hnd hnl, ?_, (PL.trans P3).at hq⟩
      · rw [upd_same, List.map_append]
        rfl
      · rw [List.length_append, hlen]
        rfl
      · intro z hz
        rcases List.mem_append.mp hz with hz | hz
        · exact hnm z hz
        · rw [List.mem_singleton.mp hz]
          exact hN
    · rintro σ H1 ⟨⟨a, b, c, d, e, rfl⟩, l, hl, hlen, hnd, hnm, PL⟩
      exact ⟨_, rfl, kk q l H1 hq hl hlen hnd hnm PL⟩
end
end Ash

set_option Elab.async false
set_option linter.all false
set_option maxRecDepth 100000
set_option maxHeartbeats 4000000
namespace Ash
open PySem PySem.Spec PyProof.Rows L2
open C8 (pss_cut)
/-- a book's lates as a dict's pairs -/
def LK (L : List (Str × Int)) : List (Key × V) := L.map fun x => (Sum.inr x.1, V.int x.2)
structure Lates (L : List (Str × Int)) : Prop where
  some_ : 1 ≤ L.length
  few : L.length ≤ 8
  nd : (L.map (·.1)).Nodup
  nm : ∀ x ∈ L, IsNm x.1
  lo : ∀ x ∈ L, 0 ≤ x.2
  hi : ∀ x ∈ L, x.2 ≤ 1000000
theorem LK_len (L : List (Str × Int)) : (LK L).length = L.length := List.length_map _
theorem LK_val : ∀ (L : List (Str × Int)) (z : Str), valV (LK L) (Sum.inr z : Key) = (L.lookup z).map V.int
  | [], z => rfl
  | a :: L, z => by
    have ih := LK_val L z
    by_cases h : a.1 = z
    · have h' : (z == a.1) = true := by simpa using h.symm
      show valV ((Sum.inr a.1, V.int a.2) :: LK L) (Sum.inr z : Key) = _
      rw [valV_pos (by rw [h])]
      obtain ⟨a1, a2⟩ := a
      simp only [List.lookup, h', Option.map_some]
    · have h' : (z == a.1) = false := by simpa using fun q => h q.symm
      show valV ((Sum.inr a.1, V.int a.2) :: LK L) (Sum.inr z : Key) = _
      rw [valV_neg (fun q => h (Sum.inr.inj q)), ih]
      obtain ⟨a1, a2⟩ := a
      simp only [List.lookup, h']
theorem lookup_none : ∀ {L : List (Str × Int)} {z : Str}, z ∉ L.map (·.1) → L.lookup z = none
  | [], _, _ => rfl
  | (a1, a2) :: L, z, h => by
    have h1 : ¬ z = a1 := fun q => h (by rw [q]; exact List.mem_cons_self)
    have h' : (z == a1) = false := by simpa using h1
    simp only [List.lookup, h']
    exact lookup_none fun q => h (List.mem_cons_of_mem _ q)
def spLates : Sp := fun vs H Q _ => ∃ (p s : Addr), vs = [.ref p] ∧ PoolAt H p s ∧
  ∀ (d : Addr) (L : List (Str × Int)) H', H d = none → H' d = some (.dK (LK L)) → Lates L → Pl H H' p s → Q (.ref d) H'
section
variable {P : Program} {w : World} {K : PySem.W.Frag} {mg : Str → Option Value} {base : Heap}
structure G2 (P : Program) (w : World) (K : PySem.W.Frag) (mg : Str → Option Value) (base : Heap) : Prop extends G1 P w K mg base where
  law_names : Cal P w K mg base CX0 "_law_names" 2 ["pool", "many"] spNames
abbrev s_l_lates : Stmt := topS 35
theorem sc_l_lates : FnScope ["pool", "many", "lates", "name", "kind"] ["pool"] (defScope s_l_lates) := ⟨rfl, rfl, rfl, by decide +kernel, rfl, by decide +kernel, by decide +kernel⟩
theorem ok_lates {f : Addr} {fd : FuncData} (F : Fun K "_law_lates" "_law_lates" s_l_lates f fd) (B : Blt mg) (G : G2 P w K mg base) : FnOk P w K mg base CX0 3 f fd ["pool"] spLates := by
  refine F.ok sc_l_lates (fun vs H Q E h => ?_) (fun cdv A outer s H vs Q E hr h => ?_)
  · obtain ⟨p, _, rfl, _⟩ := h
    rfl
  · obtain ⟨p, s0, rfl, hP, kk⟩ := h
    have hu := hu_of hr
    refine ⟨_, (pss_cons (ps_set (i := 1) sc_l_lates.nd rfl (Or.inl rfl) (pe_op op_add pe_int (pe_cal G.law_draw (hr.mono (by decide)) pass0 (pa_cons (pv 0) (pa_cons pe_int pa_nil)))))
    (pss_cut (ps_if (pt_cmpR op_eq (pe_cal G.law_draw (hr.mono (by decide)) pass0 (pa_cons (pv 0) (pa_cons pe_int pa_nil))) pe_int (nomark _))
      (pss_one (ps_set (i := 1) sc_l_lates.nd rfl (Or.inl rfl) (pe_op op_add pe_int (pe_cal G.law_draw (hr.mono (by decide)) pass0 (pa_cons (pv 0) (pa_cons pe_int pa_nil))))))
      pss_nil)
    (pss_cons (ps_set (i := 2) sc_l_lates.nd rfl (Or.inl rfl) pe_dnewK)
    (pss_cons (ps_for PassesOwn.never rfl (pi_list (pe_cal G.law_names (hr.mono (by decide)) pass0 (pa_cons (pv 0) (pa_cons (pv 1) pa_nil)))) (pg_name (i := 3) sc_l_lates.nd rfl (Or.inl rfl))
      (pss_cons (ps_set (i := 4) sc_l_lates.nd rfl (Or.inl rfl) (pe_cal G.law_draw (hr.mono (by decide)) pass0 (pa_cons (pv 0) (pa_cons pe_int pa_nil))))
      (pss_one (ps_dput hu (pv 2) (pv 3) (pe_ix ix_list (pe_lst (pa_cons pe_int (pa_cons (pe_cal G.law_draw (hr.mono (by decide)) pass0 (pa_cons (pv 0) (pa_cons pe_int pa_nil))) (pa_cons (pe_cal G.law_draw (hr.mono (by decide)) pass0 (pa_cons (pv 0) (pa_cons pe_int pa_nil))) (pa_cons (pe_cal G.law_draw (hr.mono (by decide)) pass0 (pa_cons (pv 0) (pa_cons (pe_op op_add (pe_op op_pow pe_int pe_int) pe_int) pa_nil))) pa_nil))))) (pv 4) (fun _ _ => rfl)) rfl))))
    (pss_one (ps_ret (pv 2))))))), ?_⟩
    -- many
    refine ⟨_, rfl, p, s0, 3, rfl, hP, (by decide), (by decide), fun x H1 x0 x3 P1 => ⟨_, _, rfl, rfl, ?_⟩⟩
    refine ⟨fun σ H2 => (∃ many b c d, σ = [some (.ref p), some (.int many), b, c, d] ∧ 1 ≤ many ∧ many ≤ 8) ∧ Pl H H2 p s0, ?_, ?_⟩
    · refine ⟨_, rfl, p, s0, 12, rfl, P1.now, (by decide), (by decide), fun y H2 y0 y3 P2 => ⟨rfl, _, rfl, ?_⟩⟩
      refine ite2 (fun c2 => ?_) (fun c2 => ?_)
      · exact ⟨_, rfl, p, s0, 8, rfl, P2.now, (by decide), (by decide), fun z H3 z0 z3 P3 => ⟨_, _, rfl, rfl, ⟨_, _, _, _, rfl, by omega, by omega⟩, (P1.trans P2).trans P3⟩⟩
      · exact ⟨⟨_, _, _, _, rfl, by omega, by omega⟩, P1.trans P2⟩
    rintro σ H2 ⟨⟨many, b, c, e, rfl, m1, m8⟩, P2⟩
    intro d hd
    have hd0 := P2.free hd
    have P3 : Pl H (upd H2 d (.dK [])) p s0 := P2.at hd0
    refine ⟨_, rfl, _, rfl, p, s0, many, rfl, P3.now, (by omega), (by omega), fun q l H4 hq hl hlen hnd hnm P4 => ?_⟩
    have hdp : d ≠ p := fun z => by rw [z] at hd; exact P2.now.ne.1 hd
    have hd4 : H4 d = some (.dK []) := P4.keep upd_same hdp
    have hdq : q ≠ d := fun z => by rw [z, upd_same] at hq; cases hq
    have hqp : q ≠ p := fun z => by rw [z] at hq; exact P3.now.ne.1 hq
    have hq0 : H q = none := P3.free hq
    refine ⟨q, rfl, ⟨_, SqL.of hl⟩, for_list (K := K) (a := q) (xs := l.map V.str) (fun i σ H5 => (∃ a b, σ = [some (.ref p), some (.int many), some (.ref d), a, b]) ∧ H5 q = some (.lst (l.map V.str)) ∧ (∃ L : List (Str × Int), H5 d = some (.dK (LK L)) ∧ L.map (·.1) = l.take i ∧ ∀ x ∈ L, 0 ≤ x.2 ∧ x.2 ≤ 1000000) ∧ Pl H H5 p s0) ?_ (fun i σ H5 _ hv => SqL.of hv.2.1) ?_ ?_⟩
    · exact ⟨⟨_, _, rfl⟩, hl, ⟨[], hd4, rfl, fun x hx => nomatch hx⟩, P3.trans P4⟩
    · rintro i y σ H5 hi ⟨⟨a, b, rfl⟩, hq5, ⟨L, hd5, hL, hLb⟩, P5⟩
      obtain ⟨nm, hn, rfl⟩ : ∃ nm, l[i]? = some nm ∧ y = V.str nm := by
        rw [List.getElem?_map] at hi
        cases e : l[i]? with
        | none => rw [e] at hi; cases hi
        | some z => rw [e] at hi; exact ⟨z, rfl, (Option.some.inj hi).symm⟩
      have hil : i < l.length := (List.getElem?_eq_some_iff.mp hn).1
      have hnL : nm ∉ L.map (·.1) := by
        rw [hL]
        intro hm
        obtain ⟨j, hj, e⟩ := List.getElem_of_mem hm
        rw [List.length_take] at hj
        rw [List.getElem_take] at e
        have := nd_ix hnd (List.getElem?_eq_some_iff.mpr ⟨by omega, e⟩) hn
        omega
      have hLl : L.length = i := by
        have := congrArg List.length hL
        rw [List.length_map, List.length_take] at this
        omega
      refine ⟨_, rfl, p, s0, 4, rfl, P5.now, (by decide), (by decide), fun kind H6 k0 k4 P6 => ?_⟩
      refine ⟨_, rfl, p, s0, 4, rfl, P6.now, (by decide), (by decide), fun v1 H7 a0 a1 P7 => ?_⟩
      refine ⟨_, rfl, p, s0, 8, rfl, P7.now, (by decide), (by decide), fun v2 H8 b0 b1 P8 => ?_⟩
      refine ⟨_, rfl, _, _, rfl, rfl, ⟨by decide, by decide, by decide⟩, _, _, rfl, rfl, p, s0, _, rfl, P8.now, (by decide), (by decide), fun v3 H9 c0 c1 P9 => ⟨(by show 4 ≤ sizeLine; decide), fun u hu9 => ?_⟩⟩
      have c1 : v3 < 1000001 := c1
      have P59 : Pl H5 H9 p s0 := ((P6.trans P7).trans P8).trans P9
      have hdu : d ≠ u := fun z => by rw [← z, P59.keep hd5 hdp] at hu9; cases hu9
      have hqu : q ≠ u := fun z => by rw [← z, P59.keep hq5 hqp] at hu9; cases hu9
      obtain ⟨v, hv, vge, vle⟩ : ∃ v : Int, atI ([V.int 0, V.int v1, V.int v2, V.int v3]) kind = some (V.int v) ∧ 0 ≤ v ∧ v ≤ 1000000 := by
        have : kind = 0 ∨ kind = 1 ∨ kind = 2 ∨ kind = 3 := by omega
        rcases this with rfl | rfl | rfl | rfl
        · exact ⟨0, rfl, by omega, by omega⟩
        · exact ⟨v1, rfl, by omega, by omega⟩
        · exact ⟨v2, rfl, by omega, by omega⟩
        · exact ⟨v3, rfl, by omega, by omega⟩
      have hdX : (upd H9 u (.lst [V.int 0, V.int v1, V.int v2, V.int v3])) d = some (.dK (LK L)) := by rw [upd_ne hdu]; exact P59.keep hd5 hdp
      refine ⟨_, rfl, _, _, _, _, rfl, rfl, SqL.of upd_same, hv, _, rfl, _, rfl, d, _, rfl, DPut.k (k := Sum.inr nm) hdX (by rw [LK_len]; exact small1000 (by omega)), ?_⟩
      have hput : putK (LK L) (Sum.inr nm : Key) (V.int v) = LK (L ++ [(nm, v)]) := by
        rw [putK_new _ (by rw [LK_val, lookup_none hnL]; rfl)]
        unfold LK
        rw [List.map_append]
        rfl
      rw [hput]
      refine ⟨⟨_, _, rfl⟩, ?_, ⟨L ++ [(nm, v)], upd_same, ?_, ?_⟩, ?_⟩
      · rw [upd_ne hdq, upd_ne hqu]
        exact P59.keep hq5 hqp
      · rw [List.map_append, hL, List.take_add_one, hn]
        rfl
      · intro x hx
        rcases List.mem_append.mp hx with hx | hx
        · exact hLb x hx
        · rw [List.mem_singleton.mp hx]
          exact ⟨vge, vle⟩
      · exact (((P5.trans P59).new hu9).at hd0)
    · rintro σ H5 ⟨⟨a, b, rfl⟩, hq5, ⟨L, hd5, hL, hLb⟩, P5⟩
      rw [List.length_map, List.take_length] at hL
      have hLl : L.length = l.length := by rw [← hL, List.length_map]
      refine ⟨_, rfl, kk d L H5 hd0 hd5 ⟨by omega, by omega, by rw [hL]; exact hnd, fun x hx => hnm _ (by rw [← hL]; exact List.mem_map_of_mem hx), fun x hx => (hLb x hx).1, fun x hx => (hLb x hx).2⟩ P5⟩
end
end Ash

set_option Elab.async false
set_option linter.all false
set_option maxRecDepth 100000
set_option maxHeartbeats 4000000
namespace Ash
open PySem PySem.Spec PyProof.Rows L2
open C8 (pss_cut)
/-! ### kinds of values -/
def NotInt (K : PySem.W.Frag) (H : Hp) (v : V) : Prop := ∃ t bi bb, TyX K H v t ∧ PySem.W.kitOne K t (.type "int") = some bi ∧ PySem.W.kitOne K t (.type "bool") = some bb ∧ (bi && !bb) = false
def NotStr (K : PySem.W.Frag) (H : Hp) (v : V) : Prop := ∃ t, TyX K H v t ∧ PySem.W.kitOne K t (.type "str") = some false
def NotTup (K : PySem.W.Frag) (H : Hp) (v : V) : Prop := ∃ t, TyX K H v t ∧ PySem.W.kitOne K t (.type "tuple") = some false
def spIsInt (K : PySem.W.Frag) : Sp := fun vs H Q _ => ∃ v, vs = [v] ∧ ((∃ n, v = .int n ∧ Q (.bl true) H) ∨ (NotInt K H v ∧ Q (.bl false) H))
def spIsNat (K : PySem.W.Frag) : Sp := fun vs H Q _ => ∃ v, vs = [v] ∧ ((∃ n, v = .int n ∧ Q (.bl (decide (0 ≤ n))) H) ∨ (NotInt K H v ∧ Q (.bl false) H))
/-- the test of names -/
def nmB (z : Str) : Bool := decide (1 ≤ z.length ∧ z.length ≤ 8) && z.cps.toList.all fun c => decide (c ∈ LET)
theorem nmB_iff (z : Str) : nmB z = true ↔ IsNm z := by
  unfold nmB IsNm
  simp only [Bool.and_eq_true, decide_eq_true_eq, List.all_eq_true]
  exact ⟨fun ⟨⟨a, b⟩, c⟩ => ⟨a, b, c⟩, fun ⟨a, b, c⟩ => ⟨⟨a, b⟩, c⟩⟩
def spIsName (K : PySem.W.Frag) : Sp := fun vs H Q _ => ∃ v, vs = [v] ∧ ((∃ z, v = .str z ∧ z.length ≤ sizeLine ∧ ∀ H', Same H H' → Q (.bl (nmB z)) H') ∨ (NotStr K H v ∧ Q (.bl false) H))
def spAreInts (K : PySem.W.Frag) : Sp := fun vs H Q _ => ∃ (a : Addr) (ns : List Int), vs = [.ref a] ∧ SqT K H a (ns.map V.int) ∧ ns.length ≤ 100 ∧ ∀ H', Same H H' → Q (.bl true) H'
def spIsLate (K : PySem.W.Frag) : Sp := fun vs H Q _ => ∃ n : Int, vs = [.int n] ∧ Q (.bl (decide (0 ≤ n ∧ n ≤ 1000000))) H
def spIsLates (K : PySem.W.Frag) : Sp := fun vs H Q _ => ∃ (d : Addr) (L : List (Str × Int)), vs = [.ref d] ∧ H d = some (.dK (LK L)) ∧ Lates L ∧ ∀ H', Same H H' → Q (.bl true) H'
theorem list_take {α : Type} {l : List α} {i : Nat} {x : α} (h : l[i]? = some x) : l.take (i + 1) = l.take i ++ [x] := by
  rw [List.take_add_one, h]
  rfl
theorem list_lit (l : List Nat) : ∀ i x, l[i]? = some x → l.take (i + 1) = l.take i ++ [x] := fun i x h => by
  rw [List.take_add_one, h]
  rfl
structure Cst (mg : Str → Option Value) : Prop where
  k_LETTERS : ∃ t, mg "LETTERS" = some (.str abc t)
  k_LONGEST_NAME : ∃ t, mg "LONGEST_NAME" = some (.int 8 t)
  k_MOST_STREAMS : ∃ t, mg "MOST_STREAMS" = some (.int 8 t)
  k_MOST_LATE : ∃ t, mg "MOST_LATE" = some (.int 1000000 t)
  k_MOST_ENTRIES : ∃ t, mg "MOST_ENTRIES" = some (.int 400 t)
section
variable {P : Program} {w : World} {K : PySem.W.Frag} {mg : Str → Option Value} {base : Heap}
structure K1 (P : Program) (w : World) (K : PySem.W.Frag) (mg : Str → Option Value) (base : Heap) : Prop where
  is_integer : Cal P w K mg base CX0 "is_integer" 1 ["thing"] (spIsInt K)
abbrev s_is_integer : Stmt := topS 10
theorem sc_is_integer : FnScope ["thing"] ["thing"] (defScope s_is_integer) := ⟨rfl, rfl, rfl, by decide +kernel, rfl, by decide +kernel, by decide +kernel⟩
theorem ok_is_integer {f : Addr} {fd : FuncData} (F : Fun K "is_integer" "is_integer" s_is_integer f fd) (B : Blt mg) : FnOk P w K mg base CX0 1 f fd ["thing"] (spIsInt K) := by
  refine F.ok sc_is_integer (fun vs H Q E h => ?_) (fun cdv A outer s H vs Q E hr h => ?_)
  · obtain ⟨v, rfl, _⟩ := h
    rfl
  · obtain ⟨v, rfl, hv⟩ := h
    refine ⟨_, (pss_one (ps_ret (pe_and (pe_callB call_isi (by rfl) B.isinstance (by decide +kernel) (pa_cons (pv 0) (pa_cons (pe_bltn (v := .ty "int") (by rfl) B.int (by decide +kernel) rfl) pa_nil))) (pe_one (pe_not (pe_callB call_isi (by rfl) B.isinstance (by decide +kernel) (pa_cons (pv 0) (pa_cons (pe_bltn (v := .ty "bool") (by rfl) B.bool (by decide +kernel) rfl) pa_nil)))))))), ?_⟩
    rcases hv with ⟨n, rfl, q⟩ | ⟨⟨t, bi, bb, ty, e1, e2, e3⟩, q⟩
    · refine ⟨_, rfl, _, _, _, _, true, rfl, ClsV.ty _, .base (.int n), kit_ty (by decide +kernel), _, rfl, iteT ?_⟩
      refine ⟨_, rfl, _, _, _, _, false, rfl, ClsV.ty _, .base (.int n), kit_ty (by decide +kernel), _, rfl, q⟩
    · refine ⟨_, rfl, _, _, _, _, bi, rfl, ClsV.ty _, ty, e1, _, rfl, ?_⟩
      cases bi with
      | false => exact iteF q
      | true =>
        refine iteT ⟨_, rfl, _, _, _, _, bb, rfl, ClsV.ty _, ty, e2, _, rfl, ?_⟩
        have e3 : (!bb) = false := e3
        rw [e3]
        exact q
abbrev s_is_natural : Stmt := topS 11
theorem sc_is_natural : FnScope ["thing"] ["thing"] (defScope s_is_natural) := ⟨rfl, rfl, rfl, by decide +kernel, rfl, by decide +kernel, by decide +kernel⟩
theorem ok_is_natural {f : Addr} {fd : FuncData} (F : Fun K "is_natural" "is_natural" s_is_natural f fd) (B : Blt mg) (G : K1 P w K mg base) : FnOk P w K mg base CX0 2 f fd ["thing"] (spIsNat K) := by
  refine F.ok sc_is_natural (fun vs H Q E h => ?_) (fun cdv A outer s H vs Q E hr h => ?_)
  · obtain ⟨v, rfl, _⟩ := h
    rfl
  · obtain ⟨v, rfl, hv⟩ := h
    refine ⟨_, (pss_one (ps_ret (pe_and (pe_cal G.is_integer (hr.mono (by decide)) pass0 (pa_cons (pv 0) pa_nil)) (pe_one (pe_cmpR op_ge (pv 0) pe_int (nomark _)))))), ?_⟩
    rcases hv with ⟨n, rfl, q⟩ | ⟨ni, q⟩
    · exact ⟨_, rfl, _, rfl, .inl ⟨n, rfl, _, rfl, iteT ⟨_, rfl, _, _, rfl, rfl, q⟩⟩⟩
    · exact ⟨_, rfl, _, rfl, .inr ⟨ni, _, rfl, iteF q⟩⟩
abbrev s_is_name : Stmt := topS 12
theorem sc_is_name : FnScope ["thing", "letter"] ["thing"] (defScope s_is_name) := ⟨rfl, rfl, rfl, by decide +kernel, rfl, by decide +kernel, by decide +kernel⟩
theorem ok_is_name {f : Addr} {fd : FuncData} (F : Fun K "is_name" "is_name" s_is_name f fd) (B : Blt mg) (Cs : Cst mg) : FnOk P w K mg base CX0 1 f fd ["thing"] (spIsName K) := by
  obtain ⟨t1, g_LETTERS⟩ := Cs.k_LETTERS
  obtain ⟨t2, g_LONGEST_NAME⟩ := Cs.k_LONGEST_NAME
  refine F.ok sc_is_name (fun vs H Q E h => ?_) (fun cdv A outer s H vs Q E hr h => ?_)
  · obtain ⟨v, rfl, _⟩ := h
    rfl
  · obtain ⟨v, rfl, hv⟩ := h
    refine ⟨_, (pss_cons (ps_if (PW.pt (pw_or (pt_not (pt_val (pe_callB call_isi (by rfl) B.isinstance (by decide +kernel) (pa_cons (pv 0) (pa_cons (pe_bltn (v := .ty "str") (by rfl) B.str (by decide +kernel) rfl) pa_nil))))) (pw_or1 (pt_not (pt_chain op_le op_le pe_int (pe_callB call_len_str (by rfl) B.len (by decide +kernel) (pa_cons (pv 0) pa_nil)) (pe_glob (v := .int 8) (by rfl) g_LONGEST_NAME ⟨_, rfl⟩))))))
      (pss_one (ps_ret pe_bl))
      pss_nil)
    (pss_one (ps_ret (pe_callB (cr_all rfl) (by rfl) B.all (by decide +kernel) (pa_cons (pe_lc (own := [("letter", 1)]) (g := gName 1) (tt := tYes) (by rfl) sc_is_name.nd (pi_str (pv 0)) (blkOk_by (own := [("letter", 1)]) (N := ["thing", "letter"]) (sc := defScope s_is_name) (by decide +kernel)) (fun _ _ _ _ _ => (pg_name (i := 1) sc_is_name.nd rfl (Or.inl rfl))) (fun _ _ _ _ _ => pts_nil) (fun _ _ _ _ _ => (pe_cmpR op_in_sign (pv 1) (pe_glob (v := .str "abcdefghijklmnopqrstuvwxyz") (by rfl) g_LETTERS ⟨_, rfl⟩) rfl))) pa_nil))))), ?_⟩
    rcases hv with ⟨z, rfl, hz, q⟩ | ⟨⟨t, ty, e1⟩, q⟩
    · refine ⟨_, rfl, _, _, _, _, true, rfl, ClsV.ty _, .base (.str z), kit_ty (by decide +kernel), _, rfl, iteF ?_⟩
      refine ⟨_, rfl, _, rfl, hz, _, _, rfl, rfl, _, rfl, ?_⟩
      refine ite2 (fun c1 => ?_) (fun c1 => ?_)
      · have c1 : (1 : Int) ≤ z.length := of_decide_eq_true c1
        refine ⟨_, _, rfl, rfl, _, rfl, ?_⟩
        by_cases c8 : (z.length : Int) ≤ 8
        · refine iteNS c8 ?_
          refine ⟨_, rfl, z, rfl, fun D hD => lc_it (walk_str (z := z)) (fun i H1 => H1 D = some (.lst (((z.cps.toList.take i).map fun c => decide (c ∈ LET)).map V.bl)) ∧ Same H H1) ⟨upd_same, sameAt (Same.refl H) hD⟩ (fun _ _ _ _ => trivial) ?_ ?_⟩
          · rintro i x H1 H2 hi ⟨hD1, hs⟩ ⟨rfl, c, hc, rfl⟩
            have hc' : z.cps.toList[i]? = some c := by rw [Array.getElem?_toList]; exact hc
            have hlen : (z.cps.toList.take i).length ≤ 8 := by
              have : i < z.length := hi
              rw [List.length_take]
              omega
            refine ⟨rfl, _, rfl, c, abc, rfl, rfl, _, hD1, (by rw [List.length_map, List.length_map]; exact small1000 (by omega)), ?_, sameAt hs hD⟩
            rw [upd_same, list_lit _ _ _ hc', abc_let, List.map_append, List.map_append]
            rfl
          · rintro H1 ⟨hD1, hs⟩
            have e : z.cps.toList.take z.cps.size = z.cps.toList := by rw [← Array.length_toList, List.take_length]
            rw [e] at hD1
            refine ⟨D, _, rfl, SqL.of hD1, ?_⟩
            have e2 : ((z.cps.toList.map fun c => decide (c ∈ LET)).all id) = nmB z := by
              unfold nmB
              rw [decide_eq_true (show 1 ≤ z.length ∧ z.length ≤ 8 by omega), Bool.true_and, List.all_map]
              rfl
            rw [e2]
            exact q _ hs
        · rw [decide_eq_false c8]
          refine iteT ?_
          have e2 : nmB z = false := by
            unfold nmB
            rw [decide_eq_false (show ¬ (1 ≤ z.length ∧ z.length ≤ 8) by omega), Bool.false_and]
          have := q H (Same.refl H)
          rw [e2] at this
          exact this
      · have c1 : ¬ (1 : Int) ≤ z.length := by simpa using c1
        refine ⟨_, rfl, iteT ?_⟩
        have e2 : nmB z = false := by
          unfold nmB
          rw [decide_eq_false (show ¬ (1 ≤ z.length ∧ z.length ≤ 8) by omega), Bool.false_and]
        have := q H (Same.refl H)
        rw [e2] at this
        exact this
    · refine ⟨_, rfl, _, _, _, _, false, rfl, ClsV.ty _, ty, e1, _, rfl, iteT q⟩
structure K2 (P : Program) (w : World) (K : PySem.W.Frag) (mg : Str → Option Value) (base : Heap) : Prop extends K1 P w K mg base where
  is_natural : Cal P w K mg base CX0 "is_natural" 2 ["thing"] (spIsNat K)
  is_name : Cal P w K mg base CX0 "is_name" 1 ["thing"] (spIsName K)
abbrev s_are_integers : Stmt := topS 14
theorem sc_are_integers : FnScope ["things", "thing"] ["things"] (defScope s_are_integers) := ⟨rfl, rfl, rfl, by decide +kernel, rfl, by decide +kernel, by decide +kernel⟩
theorem ok_are_integers {f : Addr} {fd : FuncData} (F : Fun K "are_integers" "are_integers" s_are_integers f fd) (B : Blt mg) (G : K2 P w K mg base) : FnOk P w K mg base CX0 2 f fd ["things"] (spAreInts K) := by
  refine F.ok sc_are_integers (fun vs H Q E h => ?_) (fun cdv A outer s H vs Q E hr h => ?_)
  · obtain ⟨a, ns, rfl, _⟩ := h
    rfl
  · obtain ⟨a, ns, rfl, hS, hn, q⟩ := h
    refine ⟨_, (pss_one (ps_ret (pe_callB (cr_all rfl) (by rfl) B.all (by decide +kernel) (pa_cons (pe_lc (own := [("thing", 1)]) (g := gName 1) (tt := tYes) (by rfl) sc_are_integers.nd (pi_tup (pv 0)) (blkOk_by (own := [("thing", 1)]) (N := ["things", "thing"]) (sc := defScope s_are_integers) (by decide +kernel)) (fun _ _ _ _ _ => (pg_name (i := 1) sc_are_integers.nd rfl (Or.inl rfl))) (fun _ _ _ _ _ => pts_nil) (fun _ _ _ _ _ => (pe_cal G.is_integer (hr.mono (by decide)) pass0 (pa_cons (pv 1) pa_nil)))) pa_nil)))), ?_⟩
    refine ⟨_, rfl, a, rfl, ⟨_, hS⟩, fun D hD => lc_it (walk_tup (xs := ns.map V.int)) (fun i H1 => H1 D = some (.lst ((List.replicate i true).map V.bl)) ∧ Same H H1) ⟨upd_same, sameAt (Same.refl H) hD⟩ (fun i H1 _ hv => ?_) ?_ ?_⟩
    · rcases hS with (h | ⟨o, h⟩) | h
      · exact .inl (.inl (hv.2 _ _ h))
      · exact .inl (.inr ⟨o, hv.2 _ _ h⟩)
      · exact .inr h
    · rintro i x H1 H2 hi ⟨hD1, hs⟩ ⟨rfl, hx⟩
      obtain ⟨z, rfl⟩ : ∃ z, x = V.int z := by
        rw [List.getElem?_map] at hx
        cases e : ns[i]? with
        | none => rw [e] at hx; cases hx
        | some z => rw [e] at hx; exact ⟨z, (Option.some.inj hx).symm⟩
      rw [List.length_map] at hi
      refine ⟨rfl, _, rfl, _, rfl, .inl ⟨z, rfl, _, hD1, (by rw [List.length_map, List.length_replicate]; exact small1000 (by omega)), ?_, sameAt hs hD⟩⟩
      rw [upd_same, List.replicate_succ', List.map_append]
      rfl
    · rintro H1 ⟨hD1, hs⟩
      refine ⟨D, _, rfl, SqL.of hD1, ?_⟩
      rw [List.length_map] at hD1 ⊢
      have e2 : ((List.replicate ns.length true).all id) = true := by simp
      rw [e2]
      exact q _ hs
abbrev s_is_late : Stmt := topS 20
theorem sc_is_late : FnScope ["thing"] ["thing"] (defScope s_is_late) := ⟨rfl, rfl, rfl, by decide +kernel, rfl, by decide +kernel, by decide +kernel⟩
theorem ok_is_late {f : Addr} {fd : FuncData} (F : Fun K "is_late" "is_late" s_is_late f fd) (B : Blt mg) (Cs : Cst mg) (G : K2 P w K mg base) : FnOk P w K mg base CX0 2 f fd ["thing"] (spIsLate K) := by
  obtain ⟨t1, g_MOST_LATE⟩ := Cs.k_MOST_LATE
  refine F.ok sc_is_late (fun vs H Q E h => ?_) (fun cdv A outer s H vs Q E hr h => ?_)
  · obtain ⟨n, rfl, _⟩ := h
    rfl
  · obtain ⟨n, rfl, q⟩ := h
    refine ⟨_, (pss_one (ps_ret (pe_and (pe_cal G.is_integer (hr.mono (by decide)) pass0 (pa_cons (pv 0) pa_nil)) (pe_one (pe_chain op_le op_le pe_int (pv 0) (pe_glob (v := .int 1000000) (by rfl) g_MOST_LATE ⟨_, rfl⟩)))))), ?_⟩
    refine ⟨_, rfl, _, rfl, .inl ⟨n, rfl, _, rfl, iteT ⟨_, rfl, _, _, rfl, rfl, _, rfl, ?_⟩⟩⟩
    refine ite2 (fun c1 => ?_) (fun c1 => ?_)
    · have c1 : 0 ≤ n := of_decide_eq_true c1
      refine ⟨_, _, rfl, rfl, ?_⟩
      have e : decide (0 ≤ n ∧ n ≤ 1000000) = decide (n ≤ 1000000) := by simp [c1]
      rw [e] at q
      exact q
    · have c1 : ¬ 0 ≤ n := by simpa using c1
      have e : decide (0 ≤ n ∧ n ≤ 1000000) = false := by simp [c1]
      rw [e] at q
      exact q
structure K3 (P : Program) (w : World) (K : PySem.W.Frag) (mg : Str → Option Value) (base : Heap) : Prop extends K2 P w K mg base where
  are_integers : Cal P w K mg base CX0 "are_integers" 2 ["things"] (spAreInts K)
  is_late : Cal P w K mg base CX0 "is_late" 2 ["thing"] (spIsLate K)
abbrev s_is_lates : Stmt := topS 19
theorem sc_is_lates : FnScope ["thing", "stream", "late"] ["thing"] (defScope s_is_lates) := ⟨rfl, rfl, rfl, by decide +kernel, rfl, by decide +kernel, by decide +kernel⟩
theorem ok_is_lates {f : Addr} {fd : FuncData} (F : Fun K "is_lates" "is_lates" s_is_lates f fd) (B : Blt mg) (Cs : Cst mg) (G : K3 P w K mg base) : FnOk P w K mg base CX0 3 f fd ["thing"] (spIsLates K) := by
  obtain ⟨t1, g_MOST_STREAMS⟩ := Cs.k_MOST_STREAMS
  refine F.ok sc_is_lates (fun vs H Q E h => ?_) (fun cdv A outer s H vs Q E hr h => ?_)
  · obtain ⟨d, L, rfl, _⟩ := h
    rfl
  · obtain ⟨d, L, rfl, hd, LL, q⟩ := h
    refine ⟨_, (pss_cons (ps_if (PW.pt (pw_or (pt_not (pt_val (pe_callB call_isi (by rfl) B.isinstance (by decide +kernel) (pa_cons (pv 0) (pa_cons (pe_bltn (v := .ty "dict") (by rfl) B.dict (by decide +kernel) rfl) pa_nil))))) (pw_or1 (pt_not (pt_chain op_le op_le pe_int (pe_callB call_lenD (by rfl) B.len (by decide +kernel) (pa_cons (pv 0) pa_nil)) (pe_glob (v := .int 8) (by rfl) g_MOST_STREAMS ⟨_, rfl⟩))))))
      (pss_one (ps_ret pe_bl))
      pss_nil)
    (pss_one (ps_ret (pe_callB (cr_all rfl) (by rfl) B.all (by decide +kernel) (pa_cons (pe_lock (pe_lc (own := [("stream", 1), ("late", 2)]) (g := gTup K 2 (gCons (gName 1) (gCons (gName 2) gNil))) (tt := tYes) (by rfl) sc_is_lates.nd (pi_items (pv 0)) (blkOk_by (own := [("stream", 1), ("late", 2)]) (N := ["thing", "stream", "late"]) (sc := defScope s_is_lates) (by decide +kernel)) (fun _ _ _ _ _ => (pg_tup (by rfl) (pgs_cons (pg_name (i := 1) sc_is_lates.nd rfl (Or.inl rfl)) (pgs_cons (pg_name (i := 2) sc_is_lates.nd rfl (Or.inl rfl)) pgs_nil)))) (fun _ _ _ _ _ => pts_nil) (fun _ _ _ _ _ => (pe_and (pe_cal G.is_name (hr.mono (by decide)) pass0 (pa_cons (pv 1) pa_nil)) (pe_one (pe_cal G.is_late (hr.mono (by decide)) pass0 (pa_cons (pv 2) pa_nil))))))) pa_nil))))), ?_⟩
    refine ⟨_, rfl, _, _, _, _, true, rfl, ClsV.ty _, .base (.dK hd), kit_ty (by decide +kernel), _, rfl, iteF ?_⟩
    refine ⟨_, rfl, d, _, rfl, hd, _, _, rfl, rfl, _, rfl, ?_⟩
    rw [LK_len]
    have l1 := LL.some_
    have l2 := LL.few
    rw [decide_eq_true (show (1 : Int) ≤ (L.length : Int) by omega)]
    refine iteT ⟨_, _, rfl, rfl, _, rfl, iteNS (by omega) ?_⟩
    refine ⟨d, _, hd, trivial, fun od => ?_⟩
    have hDd : ∀ {D : Addr}, (upd H d (.frz od (.dK (LK L)))) D = none → D ≠ d := fun h z => by rw [z, upd_same] at h; cases h
    refine ⟨_, rfl, d, od, _, rfl, upd_same, fun D hD => lc_it (walk_items (kvs := LK L)) (fun i H1 => H1 D = some (.lst ((List.replicate i true).map V.bl)) ∧ Same (upd H d (.frz od (.dK (LK L)))) H1) ⟨upd_same, sameAt (Same.refl _) hD⟩ (fun i H1 _ hv => hv.2 _ _ upd_same) ?_ ?_⟩
    · rintro i x H1 H2 hi ⟨hD1, hs⟩ ⟨T, x1, x2, rfl, hT, rfl, h1, h2⟩
      rw [LK_len] at hi
      have hx : (LK L)[i]? = some (Sum.inr L[i].1, V.int L[i].2) := by
        unfold LK
        rw [List.getElem?_map, List.getElem?_eq_getElem hi]
        rfl
      simp only [hx, Option.map_some] at h1 h2
      cases h1
      cases h2
      have hm : L[i] ∈ L := List.getElem_mem hi
      have hDT : D ≠ T := fun z => by rw [← z, hD1] at hT; cases hT
      have nmz : nmB L[i].1 = true := (nmB_iff _).mpr (LL.nm _ hm)
      have lz : decide (0 ≤ L[i].2 ∧ L[i].2 ≤ 1000000) = true := decide_eq_true ⟨LL.lo _ hm, LL.hi _ hm⟩
      refine ⟨T, _, rfl, SqT.of upd_same, rfl, _, _, rfl, _, _, rfl, rfl, rfl, ?_⟩
      refine ⟨_, rfl, _, rfl, .inl ⟨L[i].1, rfl, (by have := (LL.nm _ hm).2.1; rw [sizeLine_eq]; omega), fun H3 s3 => ⟨_, rfl, ?_⟩⟩⟩
      rw [nmz]
      refine iteT ⟨_, rfl, L[i].2, rfl, ?_⟩
      rw [lz]
      refine ⟨_, s3 _ _ (by rw [upd_ne hDT]; exact hD1), (by rw [List.length_map, List.length_replicate]; exact small1000 (by omega)), ?_, fun b o hb => ?_⟩
      · rw [upd_same, List.replicate_succ', List.map_append]
        rfl
      · rw [upd_ne (ne_of_none hb hD)]
        refine s3 _ _ ?_
        rw [upd_ne (ne_of_none (hs _ _ hb) hT)]
        exact hs _ _ hb
    · rintro H1 ⟨hD1, hs⟩
      refine ⟨hs _ _ upd_same, D, _, rfl, SqL.of (by rw [upd_ne (hDd hD)]; exact hD1), ?_⟩
      have e2 : ((List.replicate (LK L).length true).all id) = true := by simp
      rw [e2]
      refine q _ fun b o hb => ?_
      by_cases e : b = d
      · rw [e, hd] at hb
        cases hb
        rw [e, upd_same]
      · rw [upd_ne e]
        exact hs _ _ (by rw [upd_ne e]; exact hb)
end
end Ash

set_option Elab.async false
set_option linter.all false
set_option maxRecDepth 100000
set_option maxHeartbeats 4000000
namespace Ash
open PySem PySem.Spec PyProof.Rows L2
open C8 (pss_cut)
/-! ### books -/
def BookAt (CB : Addr) (H : Hp) (b : Addr) (L : List (Str × Int)) : Prop := ∃ dx d L', H b = some (.ins CB dx [("_lates", .ref d)]) ∧ H d = some (.dK (LK L')) ∧ ∀ z, L'.lookup z = L.lookup z
theorem BookAt.same {CB : Addr} {H H' : Hp} {b : Addr} {L : List (Str × Int)} (h : BookAt CB H b L) (s : Same H H') : BookAt CB H' b L := by
  obtain ⟨dx, d, L', h1, h2, h3⟩ := h
  exact ⟨dx, d, L', s _ _ h1, s _ _ h2, h3⟩
theorem BookAt.pl {CB : Addr} {H H' : Hp} {b p s : Addr} {L : List (Str × Int)} (h : BookAt CB H b L) (P0 : PoolAt H p s) (P : Pl H H' p s) : BookAt CB H' b L := by
  obtain ⟨dx, d, L', h1, h2, h3⟩ := h
  obtain ⟨ns, i, c, k, n, hp, _⟩ := P0
  exact ⟨dx, d, L', P.keep h1 (ne_of h1 hp (by intro z; cases z)), P.keep h2 (ne_of h2 hp (by intro z; cases z)), h3⟩
theorem lookup_perm {L : List (Str × Int)} (hn : (L.map (·.1)).Nodup) {ys : List Str} (hp : ys.Perm (L.map (·.1))) (f : Str → Int) (hf : ∀ x ∈ L, f x.1 = x.2) (z : Str) : (ys.map fun y => (y, f y)).lookup z = L.lookup z := by
  by_cases hz : z ∈ L.map (·.1)
  · have hy : z ∈ ys := hp.mem_iff.mpr hz
    have a1 : ∀ (l : List Str), z ∈ l → (l.map fun y => (y, f y)).lookup z = some (f z) := fun l => by
      induction l with
      | nil => intro h; cases h
      | cons a l ih =>
        intro h
        by_cases e : z = a
        · subst e
          simp [List.lookup]
        · have h' : (z == a) = false := by simpa using e
          show List.lookup z ((a, f a) :: l.map fun y => (y, f y)) = _
          simp only [List.lookup, h']
          exact ih ((List.mem_cons.mp h).resolve_left e)
    have a2 : ∀ (l : List (Str × Int)), (∀ x ∈ l, f x.1 = x.2) → z ∈ l.map (·.1) → l.lookup z = some (f z) := fun l => by
      induction l with
      | nil => intro _ h; cases h
      | cons a l ih =>
        intro hf h
        obtain ⟨a1, a2⟩ := a
        by_cases e : z = a1
        · subst e
          have := hf _ List.mem_cons_self
          simp only [List.lookup, beq_self_eq_true]
          exact congrArg some this.symm
        · have h' : (z == a1) = false := by simpa using e
          simp only [List.lookup, h']
          exact ih (fun x hx => hf x (List.mem_cons_of_mem _ hx)) ((List.mem_cons.mp h).resolve_left e)
    rw [a1 ys hy, a2 L hf hz]
  · rw [lookup_none hz, lookup_none (L := ys.map fun y => (y, f y))]
    rw [List.map_map]
    show z ∉ ys.map fun y => y
    rw [List.map_id']
    exact fun h => hz (hp.mem_iff.mp h)
theorem lookup_mem : ∀ {L : List (Str × Int)} {x : Str × Int}, (L.map (·.1)).Nodup → x ∈ L → L.lookup x.1 = some x.2
  | [], x, _, h => nomatch h
  | (a1, a2) :: L, x, hn, h => by
    obtain ⟨h1, h2⟩ := List.nodup_cons.mp (show (a1 :: L.map (·.1)).Nodup from hn)
    rcases List.mem_cons.mp h with rfl | h
    · simp [List.lookup]
    · have e : ¬ x.1 = a1 := fun z => h1 (by rw [← z]; exact List.mem_map_of_mem h)
      have h' : (x.1 == a1) = false := by simpa using e
      simp only [List.lookup, h']
      exact lookup_mem h2 h
def spBookInit (CB : Addr) : Sp := fun vs H Q _ => ∃ (b dx d : Addr) (L : List (Str × Int)), vs = [.ref b, .ref d] ∧ H b = some (.ins CB dx []) ∧ H d = some (.dK (LK L)) ∧ Lates L ∧
  ∀ H', BookAt CB H' b L → (∀ c o, H c = some o → c ≠ b → H' c = some o) → Q .non H'
/-- has(stream) of a text -/
def spHas (CB : Addr) : Sp := fun vs H Q _ => ∃ (b : Addr) (L : List (Str × Int)) (z : Str), vs = [.ref b, .str z] ∧ BookAt CB H b L ∧ IsNm z ∧ ∀ H', Same H H' → Q (.bl (L.lookup z).isSome) H'
def spLate (CB : Addr) : Sp := fun vs H Q _ => ∃ (b : Addr) (L : List (Str × Int)) (z : Str) (n : Int), vs = [.ref b, .str z] ∧ BookAt CB H b L ∧ IsNm z ∧ L.lookup z = some n ∧ ∀ H', Same H H' → Q (.int n) H'
structure Cb (K : PySem.W.Frag) (mg : Str → Option Value) (CB : Addr) : Prop where
  cl : Cls K CB
  nL : NoAttr K CB "_lates"
  c : mg "Book" = some (.ref CB)
section
variable {P : Program} {w : World} {K : PySem.W.Frag} {mg : Str → Option Value} {base : Heap}
structure K4 (P : Program) (w : World) (K : PySem.W.Frag) (mg : Str → Option Value) (base : Heap) : Prop extends K3 P w K mg base where
  is_lates : Cal P w K mg base CX0 "is_lates" 3 ["thing"] (spIsLates K)
abbrev s_Book_init : Stmt := inClass (topS 18) 0
theorem sc_Book_init : FnScope ["self", "lates", "stream"] ["self", "lates"] (defScope s_Book_init) := ⟨rfl, rfl, rfl, by decide +kernel, rfl, by decide +kernel, by decide +kernel⟩
theorem ok_book_init {f CB : Addr} {fd : FuncData} (F : Fun K "__init__" "Book.__init__" s_Book_init f fd) (B : Blt mg) (T : Cb K mg CB) (G : K4 P w K mg base) : FnOk P w K mg base CX0 4 f fd ["self", "lates"] (spBookInit CB) := by
  refine F.ok sc_Book_init (fun vs H Q E h => ?_) (fun cdv A outer s H vs Q E hr h => ?_)
  · obtain ⟨b, dx, d, L, rfl, _⟩ := h
    rfl
  · obtain ⟨b, dx, d, L, rfl, hb, hd, LL, q⟩ := h
    have hu := hu_of hr
    refine ⟨_, (pss_cons (ps_if (pt_not (pt_val (pe_cal G.is_lates (hr.mono (by decide)) pass0 (pa_cons (pv 1) pa_nil))))
      (pss_one ps_never)
      pss_nil)
    (pss_one (ps_fld (pv 0) (pe_dc (own := [("stream", 2)]) (g := gName 2) (tt := tYes) (by rfl) sc_Book_init.nd (pi_list (pe_callB cr_sortedS (by rfl) B.sorted (by decide +kernel) (pa_cons (pe_callTy (call_listD (by rfl)) (by rfl) B.list (by decide +kernel) (pa_cons (pv 1) pa_nil)) pa_nil))) (blkOk_by (own := [("stream", 2)]) (N := ["self", "lates", "stream"]) (sc := defScope s_Book_init) (by decide +kernel)) (fun _ _ _ _ _ => (pg_name (i := 2) sc_Book_init.nd rfl (Or.inl rfl))) (fun _ _ _ _ _ => pts_nil) (fun _ _ _ _ _ => (pv 2)) (fun _ _ _ _ _ => (pe_dget hu (pv 1) (pv 2) (fun _ _ => rfl)))) rfl))), ?_⟩
    refine ⟨_, rfl, d, L, rfl, hd, LL, fun H1 s1 => ⟨_, rfl, iteF ?_⟩⟩
    refine ⟨_, rfl, d, _, rfl, .of (s1 _ _ hd), fun l hl => ?_⟩
    have e1 : (LK L).map (fun kv => kV kv.1) = (L.map (·.1)).map V.str := by
      unfold LK
      rw [List.map_map, List.map_map]
      rfl
    rw [e1]
    have l8 := LL.few
    refine ⟨l, _, rfl, SqL.of upd_same, (by rw [List.length_map]; omega), fun ys q1 hperm hsort hq1 => ?_⟩
    have hln : l ≠ q1 := fun z => by rw [← z, upd_same] at hq1; cases hq1
    have s2 : Same H (upd (upd H1 l (.lst ((L.map (·.1)).map V.str))) q1 (.lst (ys.map V.str))) := (s1.trans (sameAt (Same.refl H1) hl)).trans (sameAt (Same.refl _) hq1)
    have hlenY : ys.length ≤ 8 := by rw [hperm.length_eq, List.length_map]; exact l8
    have fOf : ∀ z, z ∈ L.map (·.1) → L.lookup z = some ((L.lookup z).getD 0) := fun z hz => by
      obtain ⟨x, hx, rfl⟩ := List.mem_map.mp hz
      rw [lookup_mem LL.nd hx]
      rfl
    refine ⟨q1, rfl, ⟨_, SqL.of upd_same⟩, fun D hD => dc_it (walk_list (xs := ys.map V.str)) (fun i H3 => H3 D = some (.dK (LK ((ys.take i).map fun y => (y, (L.lookup y).getD 0)))) ∧ Same (upd (upd H1 l (.lst ((L.map (·.1)).map V.str))) q1 (.lst (ys.map V.str))) H3) ⟨upd_same, sameAt (Same.refl _) hD⟩ (fun i H3 _ hv => SqL.of (hv.2 _ _ upd_same)) ?_ ?_⟩
    · rintro i x H3 H4 hi ⟨hD3, s3⟩ ⟨rfl, hx⟩
      obtain ⟨z, hz, rfl⟩ : ∃ z, ys[i]? = some z ∧ x = V.str z := by
        rw [List.getElem?_map] at hx
        cases e : ys[i]? with
        | none => rw [e] at hx; cases hx
        | some z => rw [e] at hx; exact ⟨z, rfl, (Option.some.inj hx).symm⟩
      have hzL : z ∈ L.map (·.1) := hperm.mem_iff.mp (List.mem_of_getElem? hz)
      have hd3 : H4 d = some (.dK (LK L)) := s3 _ _ (s2 _ _ hd)
      have hyn : ys.Nodup := hperm.symm.nodup LL.nd
      rw [List.length_map] at hi
      have hg := DGet.k (k := Sum.inr z) hd3
      rw [LK_val, fOf z hzL, Option.map_some] at hg
      refine ⟨rfl, _, rfl, _, rfl, _, rfl, d, _, rfl, hg, _, Sum.inr z, rfl, hD3, (by rw [LK_len, List.length_map, List.length_take]; exact small1000 (by omega)), ?_, sameAt s3 hD⟩
      rw [upd_same, putK_new]
      · rw [list_take hz, List.map_append]
        unfold LK
        rw [List.map_append]
        rfl
      · rw [LK_val, lookup_none]
        · rfl
        · rw [List.map_map]
          show z ∉ (ys.take i).map fun y => y
          rw [List.map_id']
          intro hm
          obtain ⟨j, hj, e⟩ := List.getElem_of_mem hm
          rw [List.length_take] at hj
          rw [List.getElem_take] at e
          have := nd_ix hyn (List.getElem?_eq_some_iff.mpr ⟨by omega, e⟩) hz
          omega
    · rintro H3 ⟨hD3, s3⟩
      rw [List.length_map, List.take_length] at hD3
      have hb3 : H3 b = some (.ins CB dx []) := s3 _ _ (s2 _ _ hb)
      have hbD : D ≠ b := fun z => by rw [z] at hD; exact absurd (s2 _ _ hb) (by rw [hD]; simp)
      refine ⟨_, rfl, b, CB, dx, [], rfl, hb3, T.cl, T.nL, (by show 0 < 1000; decide), ?_⟩
      refine q _ ⟨dx, D, _, upd_same, (by rw [upd_ne hbD]; exact hD3), fun z => ?_⟩ fun c o hc hn => ?_
      · exact lookup_perm LL.nd hperm _ (fun x hx => by rw [lookup_mem LL.nd hx]; rfl) z
      · rw [upd_ne hn]
        exact s3 _ _ (s2 _ _ hc)
abbrev s_Book_has : Stmt := inClass (topS 18) 3
theorem sc_Book_has : FnScope ["self", "stream"] ["self", "stream"] (defScope s_Book_has) := ⟨rfl, rfl, rfl, by decide +kernel, rfl, by decide +kernel, by decide +kernel⟩
theorem ok_book_has {f CB : Addr} {fd : FuncData} (F : Fun K "has" "Book.has" s_Book_has f fd) (B : Blt mg) (T : Cb K mg CB) (G : K4 P w K mg base) : FnOk P w K mg base CX0 2 f fd ["self", "stream"] (spHas CB) := by
  refine F.ok sc_Book_has (fun vs H Q E h => ?_) (fun cdv A outer s H vs Q E hr h => ?_)
  · obtain ⟨b, L, z, rfl, _⟩ := h
    rfl
  · obtain ⟨b, L, z, rfl, hB, hz, q⟩ := h
    have hu := hu_of hr
    refine ⟨_, (pss_one (ps_ret (pe_and (pe_cal G.is_name (hr.mono (by decide)) pass0 (pa_cons (pv 1) pa_nil)) (pe_one (pe_cmp (pc_din hu (pv 1) (pe_fld (pv 0) rfl)) rfl))))), ?_⟩
    refine ⟨_, rfl, _, rfl, .inl ⟨z, rfl, (by have := hz.2.1; rw [sizeLine_eq]; omega), fun H1 s1 => ⟨_, rfl, ?_⟩⟩⟩
    rw [(nmB_iff z).mpr hz]
    obtain ⟨dx, d, L', h1, h2, h3⟩ := hB.same s1
    refine iteT ⟨_, rfl, _, rfl, b, CB, dx, _, _, rfl, h1, T.cl, T.nL, rfl, d, _, rfl, DGet.k (k := Sum.inr z) h2, ?_⟩
    have e : (valV (LK L') (Sum.inr z : Key)).isSome = (L.lookup z).isSome := by rw [LK_val, Option.isSome_map, h3]
    rw [e]
    exact q H1 s1
abbrev s_Book_late : Stmt := inClass (topS 18) 4
theorem sc_Book_late : FnScope ["self", "stream"] ["self", "stream"] (defScope s_Book_late) := ⟨rfl, rfl, rfl, by decide +kernel, rfl, by decide +kernel, by decide +kernel⟩
theorem ok_book_late {f fh CB : Addr} {fd fdh : FuncData} (F : Fun K "late" "Book.late" s_Book_late f fd) (B : Blt mg) (T : Cb K mg CB) (M_has : Meth K CB "has" fh) (b_has : Binds K fdh ["self", "stream"] []) (F_has : FnOk P w K mg base CX0 2 fh fdh ["self", "stream"] (spHas CB)) : FnOk P w K mg base CX0 3 f fd ["self", "stream"] (spLate CB) := by
  refine F.ok sc_Book_late (fun vs H Q E h => ?_) (fun cdv A outer s H vs Q E hr h => ?_)
  · obtain ⟨b, L, z, n, rfl, _⟩ := h
    rfl
  · obtain ⟨b, L, z, n, rfl, hB, hz, hn, q⟩ := h
    have hu := hu_of hr
    refine ⟨_, (pss_cons (ps_if (pt_not (pt_val (pe_meth (pv 0) T.cl M_has F_has (hr.mono (by decide)) b_has .nil pass0 (pa_cons (pv 1) pa_nil))))
      (pss_one ps_never)
      pss_nil)
    (pss_one (ps_ret (pe_dget hu (pe_fld (pv 0) rfl) (pv 1) (fun _ _ => rfl))))), ?_⟩
    obtain ⟨dx, d, L', h1, h2, h3⟩ := id hB
    refine ⟨_, rfl, b, dx, _, rfl, h1, rfl, _, rfl, b, L, z, rfl, hB, hz, fun H1 s1 => ⟨_, rfl, ?_⟩⟩
    rw [hn]
    refine iteF ?_
    have hg := DGet.k (k := Sum.inr z) (s1 _ _ h2)
    rw [LK_val, h3, hn] at hg
    exact ⟨_, rfl, b, CB, dx, _, _, rfl, s1 _ _ h1, T.cl, T.nL, rfl, _, rfl, d, _, rfl, hg, q H1 s1⟩
end
end Ash

set_option Elab.async false
set_option linter.all false
set_option maxRecDepth 100000
set_option maxHeartbeats 4000000
namespace Ash
open PySem PySem.Spec PyProof.Rows L2
open C8 (pss_cut)
/-! ### entries -/
inductive Ent where
  | row (id : Int) (s k : Str) (m a r : Int)
  | fix (id m a r : Int)
  | gone (id r : Int)
  deriving DecidableEq
def Ent.vs : Ent → List V
  | .row id s k m a r => [.str "row", .int id, .str s, .str k, .int m, .int a, .int r]
  | .fix id m a r => [.str "fix", .int id, .int m, .int a, .int r]
  | .gone id r => [.str "gone", .int id, .int r]
def Ent.id : Ent → Int
  | .row id _ _ _ _ _ => id
  | .fix id _ _ _ => id
  | .gone id _ => id
def Ent.arr : Ent → Int
  | .row _ _ _ _ _ r => r
  | .fix _ _ _ r => r
  | .gone _ r => r
def Ent.ok (x : Ent) : Prop := 0 ≤ x.id ∧ ∀ id s k m a r, x = .row id s k m a r → IsNm s ∧ IsNm k
def EntAt (H : Hp) (e : Addr) (x : Ent) : Prop := H e = some (.tup x.vs)
/-- what is known of a row: taken back, or what it is -/
inductive RowSt where
  | tb
  | at_ (s k : Str) (m a : Int)
def RowV (aT : Addr) (H : Hp) : Option V → Option RowSt → Prop
  | none, none => True
  | some v, some .tb => v = .ref aT
  | some v, some (.at_ s k m a) => ∃ t, v = .ref t ∧ H t = some (.tup [.str s, .str k, .int m, .int a])
  | _, _ => False
theorem RowV.same {aT : Addr} {H H' : Hp} {v : Option V} {o : Option RowSt} (h : RowV aT H v o) (s : Same H H') : RowV aT H' v o := by
  cases v with
  | none => cases o <;> exact h
  | some v =>
    cases o with
    | none => exact h
    | some o =>
      cases o with
      | tb => exact h
      | at_ z k m a =>
        obtain ⟨t, e, h⟩ := h
        exact ⟨t, e, s _ _ h⟩
/-- what an entry makes of its row -/
def behind (L : List (Str × Int)) : Ent → Option RowSt → Option RowSt
  | .row _ s k m a r, none => (L.lookup s).bind fun l => if m ≤ r ∧ r ≤ m + l then some (.at_ s k m a) else none
  | .fix _ m a r, some (.at_ s k m0 _) => (L.lookup s).bind fun l => if r ≤ m0 + l ∧ m ≤ r ∧ r ≤ m + l then some (.at_ s k m a) else none
  | .gone _ r, some (.at_ s _ m0 _) => (L.lookup s).bind fun l => if r ≤ m0 + l then some .tb else none
  | _, _ => none
def spIsEntry (K : PySem.W.Frag) : Sp := fun vs H Q _ => ∃ v, vs = [v] ∧ ((∃ e x, v = .ref e ∧ EntAt H e x ∧ x.ok ∧ ∀ H', Same H H' → Q (.bl true) H') ∨ (NotTup K H v ∧ Q (.bl false) H) ∨
  ∃ e xs, v = .ref e ∧ H e = some (.tup xs) ∧ xs.length < 3 ∧ Q (.bl false) H)
def spArr (K : PySem.W.Frag) : Sp := fun vs H Q _ => ∃ e x, vs = [.ref e] ∧ EntAt H e x ∧ Q (.int x.arr) H
def spPlaced (CB : Addr) : Sp := fun vs H Q _ => ∃ (b t : Addr) (L : List (Str × Int)) (s k : Str) (m a r l : Int), vs = [.ref b, .ref t, .int r] ∧ BookAt CB H b L ∧ H t = some (.tup [.str s, .str k, .int m, .int a]) ∧ IsNm s ∧ L.lookup s = some l ∧
  ∀ H', Same H H' → Q (if m ≤ r ∧ r ≤ m + l then .ref t else .non) H'
def spBehind (aT CB : Addr) : Sp := fun vs H Q _ => ∃ (b e : Addr) (L : List (Str × Int)) (x : Ent) (ov : Option V) (o : Option RowSt), vs = [.ref b, .ref e, ov.getD .non] ∧ BookAt CB H b L ∧ EntAt H e x ∧ x.ok ∧ RowV aT H ov o ∧
  (∀ s k m a, o = some (.at_ s k m a) → IsNm s ∧ IsNm k ∧ (L.lookup s).isSome) ∧
  ∀ v H', Same H H' → ((behind L x o = none ∧ v = .non) ∨ (v ≠ .non ∧ ∃ y, behind L x o = some y ∧ RowV aT H' (some v) (some y))) → Q v H'
section
variable {P : Program} {w : World} {K : PySem.W.Frag} {mg : Str → Option Value} {base : Heap}
abbrev s_is_entry : Stmt := topS 23
theorem sc_is_entry : FnScope ["thing"] ["thing"] (defScope s_is_entry) := ⟨rfl, rfl, rfl, by decide +kernel, rfl, by decide +kernel, by decide +kernel⟩
theorem ok_is_entry {f : Addr} {fd : FuncData} (F : Fun K "is_entry" "is_entry" s_is_entry f fd) (B : Blt mg) (G : K3 P w K mg base) : FnOk P w K mg base CX0 3 f fd ["thing"] (spIsEntry K) := by
  refine F.ok sc_is_entry (fun vs H Q E h => ?_) (fun cdv A outer s H vs Q E hr h => ?_)
  · obtain ⟨v, rfl, _⟩ := h
    rfl
  · obtain ⟨v, rfl, hv⟩ := h
    refine ⟨_, (pss_cons (ps_if (PW.pt (pw_or (pt_not (pt_val (pe_callB call_isi (by rfl) B.isinstance (by decide +kernel) (pa_cons (pv 0) (pa_cons (pe_bltn (v := .ty "tuple") (by rfl) B.tuple (by decide +kernel) rfl) pa_nil))))) (pw_or (pt_cmpR op_lt (pe_callB call_len_seq (by rfl) B.len (by decide +kernel) (pa_cons (pv 0) pa_nil)) pe_int (nomark _)) (pw_or1 (pt_not (pt_val (pe_cal G.is_natural (hr.mono (by decide)) pass0 (pa_cons (pe_ix ix_tup (pv 0) pe_int (fun _ _ => rfl)) pa_nil))))))))
      (pss_one (ps_ret pe_bl))
      pss_nil)
    (pss_cons (ps_if (pt_cmpR op_eq (pe_ix ix_tup (pv 0) pe_int (fun _ _ => rfl)) pe_str (nomark _))
      (pss_one (ps_ret (pe_and (pe_cmpR op_eq (pe_callB call_len_seq (by rfl) B.len (by decide +kernel) (pa_cons (pv 0) pa_nil)) pe_int (nomark _)) (pe_and (pe_cal G.is_name (hr.mono (by decide)) pass0 (pa_cons (pe_ix ix_tup (pv 0) pe_int (fun _ _ => rfl)) pa_nil)) (pe_and (pe_cal G.is_name (hr.mono (by decide)) pass0 (pa_cons (pe_ix ix_tup (pv 0) pe_int (fun _ _ => rfl)) pa_nil)) (pe_one (pe_cal G.are_integers (hr.mono (by decide)) pass0 (pa_cons (pe_slice sl_tup (pv 0) (po_some pe_int) po_none) pa_nil))))))))
      pss_nil)
    (pss_cons (ps_if (pt_cmpR op_eq (pe_ix ix_tup (pv 0) pe_int (fun _ _ => rfl)) pe_str (nomark _))
      (pss_one (ps_ret (pe_and (pe_cmpR op_eq (pe_callB call_len_seq (by rfl) B.len (by decide +kernel) (pa_cons (pv 0) pa_nil)) pe_int (nomark _)) (pe_one (pe_cal G.are_integers (hr.mono (by decide)) pass0 (pa_cons (pe_slice sl_tup (pv 0) (po_some pe_int) po_none) pa_nil))))))
      pss_nil)
    (pss_one (ps_ret (pe_and (pe_cmpR op_eq (pe_ix ix_tup (pv 0) pe_int (fun _ _ => rfl)) pe_str (nomark _)) (pe_and (pe_cmpR op_eq (pe_callB call_len_seq (by rfl) B.len (by decide +kernel) (pa_cons (pv 0) pa_nil)) pe_int (nomark _)) (pe_one (pe_cal G.are_integers (hr.mono (by decide)) pass0 (pa_cons (pe_slice sl_tup (pv 0) (po_some pe_int) po_none) pa_nil)))))))))), ?_⟩
    rcases hv with ⟨e, x, rfl, hx, hok, q⟩ | ⟨⟨t, ty, e1⟩, q⟩ | ⟨e, xs, rfl, hx, hl, q⟩
    · refine ⟨_, rfl, _, _, _, _, true, rfl, ClsV.ty _, .base (.tup hx), kit_ty (by decide +kernel), _, rfl, iteF ?_⟩
      refine ⟨_, rfl, e, _, rfl, .inr (SqT.of hx), _, _, rfl, rfl, _, rfl, ?_⟩
      cases x with
      | row id s k m a r =>
        obtain ⟨h0, hn⟩ := hok
        obtain ⟨hs, hk⟩ := hn _ _ _ _ _ _ rfl
        refine iteF ⟨_, rfl, _, _, _, _, rfl, rfl, SqT.of hx, rfl, _, rfl, .inl ⟨id, rfl, _, rfl, ?_⟩⟩
        rw [decide_eq_true (show 0 ≤ id from h0)]
        refine iteF ⟨_, rfl, _, _, _, _, rfl, rfl, SqT.of hx, rfl, rfl, _, rfl, ?_⟩
        refine iteT ⟨_, rfl, e, _, rfl, .inr (SqT.of hx), rfl, _, rfl, iteT ?_⟩
        refine ⟨_, rfl, _, _, _, _, rfl, rfl, SqT.of hx, rfl, _, rfl, .inl ⟨s, rfl, (by have := hs.2.1; rw [sizeLine_eq]; omega), fun H1 s1 => ⟨_, rfl, ?_⟩⟩⟩
        rw [(nmB_iff s).mpr hs]
        have hx1 := s1 _ _ hx
        refine iteT ⟨_, rfl, _, _, _, _, rfl, rfl, SqT.of hx1, rfl, _, rfl, .inl ⟨k, rfl, (by have := hk.2.1; rw [sizeLine_eq]; omega), fun H2 s2 => ⟨_, rfl, ?_⟩⟩⟩
        rw [(nmB_iff k).mpr hk]
        have hx2 := s2 _ _ hx1
        refine iteT ⟨_, rfl, _, rfl, e, _, rfl, SqT.of hx2, (by show ¬ (HT.sIx 7 0 (some 4) = 0 ∧ HT.sIx 7 7 none = 7); decide), fun p hp => ?_⟩
        refine ⟨p, [m, a, r], rfl, SqT.of upd_same, (by show 3 ≤ 100; decide), fun H3 s3 => q _ ?_⟩
        exact ((s1.trans s2).trans (sameAt (Same.refl _) hp)).trans s3
      | fix id m a r =>
        obtain ⟨h0, hn⟩ := hok
        refine iteF ⟨_, rfl, _, _, _, _, rfl, rfl, SqT.of hx, rfl, _, rfl, .inl ⟨id, rfl, _, rfl, ?_⟩⟩
        rw [decide_eq_true (show 0 ≤ id from h0)]
        refine iteF ⟨_, rfl, _, _, _, _, rfl, rfl, SqT.of hx, rfl, rfl, _, rfl, ?_⟩
        refine iteF ⟨_, rfl, _, _, _, _, rfl, rfl, SqT.of hx, rfl, rfl, _, rfl, ?_⟩
        refine iteT ⟨_, rfl, e, _, rfl, .inr (SqT.of hx), rfl, _, rfl, iteT ?_⟩
        refine ⟨_, rfl, _, rfl, e, _, rfl, SqT.of hx, (by show ¬ (HT.sIx 5 0 (some 2) = 0 ∧ HT.sIx 5 5 none = 5); decide), fun p hp => ?_⟩
        refine ⟨p, [m, a, r], rfl, SqT.of upd_same, (by show 3 ≤ 100; decide), fun H3 s3 => q _ ?_⟩
        exact (sameAt (Same.refl _) hp).trans s3
      | gone id r =>
        obtain ⟨h0, hn⟩ := hok
        refine iteF ⟨_, rfl, _, _, _, _, rfl, rfl, SqT.of hx, rfl, _, rfl, .inl ⟨id, rfl, _, rfl, ?_⟩⟩
        rw [decide_eq_true (show 0 ≤ id from h0)]
        refine iteF ⟨_, rfl, _, _, _, _, rfl, rfl, SqT.of hx, rfl, rfl, _, rfl, ?_⟩
        refine iteF ⟨_, rfl, _, _, _, _, rfl, rfl, SqT.of hx, rfl, rfl, _, rfl, ?_⟩
        refine iteF ⟨_, rfl, _, _, _, _, rfl, rfl, SqT.of hx, rfl, rfl, _, rfl, iteT ?_⟩
        refine ⟨_, rfl, e, _, rfl, .inr (SqT.of hx), rfl, _, rfl, iteT ?_⟩
        refine ⟨_, rfl, _, rfl, e, _, rfl, SqT.of hx, (by show ¬ (HT.sIx 3 0 (some 2) = 0 ∧ HT.sIx 3 3 none = 3); decide), fun p hp => ?_⟩
        refine ⟨p, [r], rfl, SqT.of upd_same, (by show 1 ≤ 100; decide), fun H3 s3 => q _ ?_⟩
        exact (sameAt (Same.refl _) hp).trans s3
    · exact ⟨_, rfl, _, _, _, _, false, rfl, ClsV.ty _, ty, e1, _, rfl, iteT q⟩
    · refine ⟨_, rfl, _, _, _, _, true, rfl, ClsV.ty _, .base (.tup hx), kit_ty (by decide +kernel), _, rfl, iteF ?_⟩
      refine ⟨_, rfl, e, _, rfl, .inr (SqT.of hx), _, _, rfl, rfl, _, rfl, ?_⟩
      rw [decide_eq_true (show (xs.length : Int) < 3 by omega)]
      exact iteT q
abbrev s_arrival_of : Stmt := topS 24
theorem sc_arrival_of : FnScope ["entry"] ["entry"] (defScope s_arrival_of) := ⟨rfl, rfl, rfl, by decide +kernel, rfl, by decide +kernel, by decide +kernel⟩
theorem ok_arrival_of {f : Addr} {fd : FuncData} (F : Fun K "arrival_of" "arrival_of" s_arrival_of f fd) (B : Blt mg) : FnOk P w K mg base CX0 1 f fd ["entry"] (spArr K) := by
  refine F.ok sc_arrival_of (fun vs H Q E h => ?_) (fun cdv A outer s H vs Q E hr h => ?_)
  · obtain ⟨e, x, rfl, _⟩ := h
    rfl
  · obtain ⟨e, x, rfl, hx, q⟩ := h
    refine ⟨_, (pss_one (ps_ret (pe_ix ix_tup (pv 0) (pe_un un_neg pe_int) (fun _ _ => rfl)))), ?_⟩
    cases x with
    | row id s k m a r => exact ⟨_, rfl, _, rfl, _, _, _, _, rfl, rfl, SqT.of hx, rfl, q⟩
    | fix id m a r => exact ⟨_, rfl, _, rfl, _, _, _, _, rfl, rfl, SqT.of hx, rfl, q⟩
    | gone id r => exact ⟨_, rfl, _, rfl, _, _, _, _, rfl, rfl, SqT.of hx, rfl, q⟩
abbrev s_placed : Stmt := topS 26
theorem sc_placed : FnScope ["book", "row", "arrival", "stream", "moment"] ["book", "row", "arrival"] (defScope s_placed) := ⟨rfl, rfl, rfl, by decide +kernel, rfl, by decide +kernel, by decide +kernel⟩
theorem ok_placed {f fl CB : Addr} {fd fdl : FuncData} (F : Fun K "placed" "placed" s_placed f fd) (B : Blt mg) (T : Cb K mg CB) (M_late : Meth K CB "late" fl) (b_late : Binds K fdl ["self", "stream"] []) (F_late : FnOk P w K mg base CX0 3 fl fdl ["self", "stream"] (spLate CB)) : FnOk P w K mg base CX0 4 f fd ["book", "row", "arrival"] (spPlaced CB) := by
  refine F.ok sc_placed (fun vs H Q E h => ?_) (fun cdv A outer s H vs Q E hr h => ?_)
  · obtain ⟨b, t, L, z, k, m, a, r, l, rfl, _⟩ := h
    rfl
  · obtain ⟨b, t, L, z, k, m, a, r, l, rfl, hB, ht, hz, hl, q⟩ := h
    refine ⟨_, (pss_cons (ps_par (i := 3) (j := 4) (by rfl) sc_placed.nd rfl rfl (by decide) rfl rfl (pa_cons (pe_ix ix_tup (pv 1) pe_int (fun _ _ => rfl)) (pa_cons (pe_ix ix_tup (pv 1) pe_int (fun _ _ => rfl)) pa_nil)) (by rfl))
    (pss_cons (ps_if (pt_chain op_le op_le (pv 4) (pv 2) (pe_op op_add (pv 4) (pe_meth (pv 0) T.cl M_late F_late (hr.mono (by decide)) b_late .nil pass0 (pa_cons (pv 3) pa_nil))))
      (pss_one (ps_ret (pv 1)))
      pss_nil)
    (pss_one (ps_ret pe_non)))), ?_⟩
    refine ⟨_, rfl, _, _, _, _, rfl, rfl, SqT.of ht, rfl, _, rfl, _, _, _, _, rfl, rfl, SqT.of ht, rfl, _, _, rfl, ?_⟩
    obtain ⟨dx, d, L', h1, h2, h3⟩ := id hB
    refine ⟨_, rfl, _, rfl, _, _, rfl, rfl, _, rfl, ?_⟩
    refine ite2 (fun c1 => ?_) (fun c1 => ?_)
    · have c1 : m ≤ r := of_decide_eq_true c1
      refine ⟨_, rfl, _, rfl, b, dx, _, rfl, h1, rfl, _, rfl, b, L, z, l, rfl, hB, hz, hl, fun H1 s1 => ⟨_, _, rfl, rfl, _, _, rfl, rfl, _, rfl, ?_⟩⟩
      refine ite2 (fun c2 => ?_) (fun c2 => ?_)
      · have c2 : r ≤ m + l := of_decide_eq_true c2
        have := q H1 s1
        rw [if_pos ⟨c1, c2⟩] at this
        exact ⟨_, rfl, this⟩
      · have c2 : ¬ r ≤ m + l := by simpa using c2
        have := q H1 s1
        rw [if_neg (fun z => c2 z.2)] at this
        exact this
    · have c1 : ¬ m ≤ r := by simpa using c1
      have := q H (Same.refl H)
      rw [if_neg (fun z => c1 z.1)] at this
      exact ⟨_, rfl, iteF this⟩
structure K5 (P : Program) (w : World) (K : PySem.W.Frag) (mg : Str → Option Value) (base : Heap) (CB : Addr) : Prop extends K4 P w K mg base where
  is_entry : Cal P w K mg base CX0 "is_entry" 3 ["thing"] (spIsEntry K)
  arrival_of : Cal P w K mg base CX0 "arrival_of" 1 ["entry"] (spArr K)
  placed : Cal P w K mg base CX0 "placed" 4 ["book", "row", "arrival"] (spPlaced CB)
/-- the written () -/
structure Tb (K : PySem.W.Frag) (mg : Str → Option Value) (aT : Addr) : Prop where
  g : mg "TAKEN_BACK" = some (.ref aT)
  t : ∃ (o : Obj) (n : Nat), K.lookup aT = some o ∧ o.cls = .type "tuple" ∧ o.data = .seq #[] n
theorem Tb.sq {aT : Addr} (h : Tb K mg aT) (H : Hp) : SqT K H aT [] := by
  obtain ⟨o, n, h1, h2, h3⟩ := h.t
  exact .inr ⟨o, #[], n, h1, h2, h3, Nat.zero_le _, .nil⟩
abbrev s_row_behind : Stmt := topS 25
theorem sc_row_behind : FnScope ["book", "entry", "old", "stream", "key", "moment", "_"] ["book", "entry", "old"] (defScope s_row_behind) := ⟨rfl, rfl, rfl, by decide +kernel, rfl, by decide +kernel, by decide +kernel⟩
theorem ok_row_behind {f fh fl CB a_TAKEN_BACK : Addr} {fd fdh fdl : FuncData} (F : Fun K "row_behind" "row_behind" s_row_behind f fd) (B : Blt mg) (T : Cb K mg CB) (TB : Tb K mg a_TAKEN_BACK) (G : K5 P w K mg base CB) (M_has : Meth K CB "has" fh) (b_has : Binds K fdh ["self", "stream"] []) (F_has : FnOk P w K mg base CX0 2 fh fdh ["self", "stream"] (spHas CB))
    (M_late : Meth K CB "late" fl) (b_late : Binds K fdl ["self", "stream"] []) (F_late : FnOk P w K mg base CX0 3 fl fdl ["self", "stream"] (spLate CB)) : FnOk P w K mg base CX0 5 f fd ["book", "entry", "old"] (spBehind a_TAKEN_BACK CB) := by
  have g_TAKEN_BACK := TB.g
  refine F.ok sc_row_behind (fun vs H Q E h => ?_) (fun cdv A outer s H vs Q E hr h => ?_)
  · obtain ⟨b, e, L, x, ov, o, rfl, _⟩ := h
    rfl
  · obtain ⟨b, e, L, x, ov, o, rfl, hB, hx, hok, hV, hNm, q⟩ := h
    have hu := hu_of hr
    obtain ⟨dx, d, L', h1, h2, h3⟩ := id hB
    refine ⟨_, (pss_cons (ps_if (pt_cmpR op_eq (pe_ix ix_tup (pv 1) pe_int (fun _ _ => rfl)) pe_str (nomark _))
      (pss_cons (ps_if (PW.pt (pw_or (pt_cmpR op_notN (pv 2) pe_non (nomark _)) (pw_or1 (pt_not (pt_val (pe_meth (pv 0) T.cl M_has F_has (hr.mono (by decide)) b_has .nil pass0 (pa_cons (pe_ix ix_tup (pv 1) pe_int (fun _ _ => rfl)) pa_nil)))))))
        (pss_one (ps_ret pe_non))
        pss_nil)
      (pss_one (ps_ret (pe_cal G.placed (hr.mono (by decide)) pass0 (pa_cons (pv 0) (pa_cons (pe_slice sl_tup (pv 1) (po_some pe_int) (po_some pe_int)) (pa_cons (pe_cal G.arrival_of (hr.mono (by decide)) pass0 (pa_cons (pv 1) pa_nil)) pa_nil)))))))
      pss_nil)
    (pss_cons (ps_if (PW.pt (pw_or (pt_cmpR op_isN (pv 2) pe_non (nomark _)) (pw_or1 (pt_cmpR (op_eqD hr.units) (pv 2) (pe_glob (v := .ref a_TAKEN_BACK) (by rfl) g_TAKEN_BACK rfl) (nomark _)))))
      (pss_one (ps_ret pe_non))
      pss_nil)
    (pss_cons (ps_asg (pv 2) (pg_tup (by rfl) (pgs_cons (pg_name (i := 3) sc_row_behind.nd rfl (Or.inl rfl)) (pgs_cons (pg_name (i := 4) sc_row_behind.nd rfl (Or.inl rfl)) (pgs_cons (pg_name (i := 5) sc_row_behind.nd rfl (Or.inl rfl)) (pgs_cons (pg_name (i := 6) sc_row_behind.nd rfl (Or.inl rfl)) pgs_nil))))))
    (pss_cons (ps_if (pt_cmpR op_gt (pe_cal G.arrival_of (hr.mono (by decide)) pass0 (pa_cons (pv 1) pa_nil)) (pe_op op_add (pv 5) (pe_meth (pv 0) T.cl M_late F_late (hr.mono (by decide)) b_late .nil pass0 (pa_cons (pv 3) pa_nil))) (nomark _))
      (pss_one (ps_ret pe_non))
      pss_nil)
    (pss_cons (ps_if (pt_cmpR op_eq (pe_ix ix_tup (pv 1) pe_int (fun _ _ => rfl)) pe_str (nomark _))
      (pss_one (ps_ret (pe_glob (v := .ref a_TAKEN_BACK) (by rfl) g_TAKEN_BACK rfl)))
      pss_nil)
    (pss_one (ps_ret (pe_cal G.placed (hr.mono (by decide)) pass0 (pa_cons (pv 0) (pa_cons (pe_tup (pa_cons (pv 3) (pa_cons (pv 4) (pa_cons (pe_ix ix_tup (pv 1) pe_int (fun _ _ => rfl)) (pa_cons (pe_ix ix_tup (pv 1) pe_int (fun _ _ => rfl)) pa_nil))))) (pa_cons (pe_cal G.arrival_of (hr.mono (by decide)) pass0 (pa_cons (pv 1) pa_nil)) pa_nil))))))))))), ?_⟩
    cases x with
    | row id s k m a r =>
      obtain ⟨hs, hk⟩ := hok.2 _ _ _ _ _ _ rfl
      refine ⟨_, rfl, _, _, _, _, rfl, rfl, SqT.of hx, rfl, rfl, _, rfl, iteT ?_⟩
      cases ov with
      | some v =>
        have hvn : v ≠ .non := by
          cases o with
          | none => exact absurd hV (fun z => z)
          | some o =>
            cases o with
            | tb => obtain rfl : v = .ref a_TAKEN_BACK := hV; exact fun z => nomatch z
            | at_ s k m a => obtain ⟨t, rfl, _⟩ := hV; exact fun z => nomatch z
        refine ⟨_, rfl, rfl, _, rfl, ?_⟩
        show if (!decide (v = .non)) = true then _ else _
        rw [decide_eq_false hvn]
        refine iteT (q _ H (Same.refl H) (.inl ⟨?_, rfl⟩))
        cases o with
        | none => exact absurd hV (fun z => z)
        | some o => cases o <;> rfl
      | none =>
        cases o with
        | some o => exact absurd hV (fun z => z)
        | none =>
          refine ⟨_, rfl, rfl, _, rfl, iteF ?_⟩
          refine ⟨_, rfl, b, dx, _, rfl, h1, rfl, _, rfl, _, _, _, _, rfl, rfl, SqT.of hx, rfl, b, L, s, rfl, hB, hs, fun H1 s1 => ⟨_, rfl, ?_⟩⟩
          cases el : L.lookup s with
          | none =>
            refine iteT (q _ H1 s1 (.inl ⟨?_, rfl⟩))
            show (L.lookup s).bind _ = none
            rw [el]
            rfl
          | some l =>
            have hx1 := s1 _ _ hx
            refine iteF ⟨_, rfl, _, rfl, _, rfl, _, rfl, e, _, rfl, SqT.of hx1, (by show ¬ (HT.sIx 7 0 (some 2) = 0 ∧ HT.sIx 7 7 (some 6) = 7); decide), fun p hp => ?_⟩
            have hs2 : Same H (upd H1 p (.tup [.str s, .str k, .int m, .int a])) := s1.trans (sameAt (Same.refl _) hp)
            have hx2 : EntAt (upd H1 p (.tup [.str s, .str k, .int m, .int a])) e (.row id s k m a r) := hs2 _ _ hx
            refine ⟨_, rfl, e, _, rfl, hx2, b, p, L, s, k, m, a, r, l, rfl, hB.same hs2, upd_same, hs, el, fun H3 s3 => ?_⟩
            refine q _ H3 (hs2.trans s3) ?_
            by_cases c : m ≤ r ∧ r ≤ m + l
            · rw [if_pos c]
              refine .inr ⟨(fun z => nomatch z), .at_ s k m a, ?_, p, rfl, s3 _ _ upd_same⟩
              show (L.lookup s).bind _ = _
              rw [el, Option.bind_some, if_pos c]
            · rw [if_neg c]
              refine .inl ⟨?_, rfl⟩
              show (L.lookup s).bind _ = _
              rw [el, Option.bind_some, if_neg c]
    | fix id m a r =>
      refine ⟨_, rfl, _, _, _, _, rfl, rfl, SqT.of hx, rfl, rfl, _, rfl, iteF ?_⟩
      cases ov with
      | none =>
        cases o with
        | some o => exact absurd hV (fun z => z)
        | none => exact ⟨_, rfl, rfl, _, rfl, iteT (q _ H (Same.refl H) (.inl ⟨rfl, rfl⟩))⟩
      | some v =>
        cases o with
        | none => exact absurd hV (fun z => z)
        | some o =>
          cases o with
          | tb =>
            obtain rfl : v = .ref a_TAKEN_BACK := hV
            exact ⟨_, rfl, rfl, _, rfl, iteF ⟨_, rfl, .tuple [], .tuple [], .tup (TB.sq H) .nil, .tup (TB.sq H) .nil, rfl, rfl, _, rfl, iteT (q _ H (Same.refl H) (.inl ⟨rfl, rfl⟩))⟩⟩
          | at_ z k m0 a0 =>
            obtain ⟨t, rfl, ht⟩ := hV
            obtain ⟨hz, hk0, hzl⟩ := hNm _ _ _ _ rfl
            obtain ⟨l, el⟩ := Option.isSome_iff_exists.mp hzl
            refine ⟨_, rfl, rfl, _, rfl, iteF ⟨_, rfl, .tuple [.str z, .str k, .int m0, .int a0], .tuple [], .tup (SqT.of ht) (.cons (.str _) (.cons (.str _) (.cons (.int _) (.cons (.int _) .nil)))), .tup (TB.sq H) .nil, shaped_flat (by simp [flatD, nm_ok hz, nm_ok hk0]), rfl, _, rfl, iteF ?_⟩⟩
            refine ⟨_, rfl, t, _, rfl, SqT.of ht, rfl, _, _, rfl, _, _, rfl, _, _, rfl, _, _, rfl, rfl, ?_⟩
            refine ⟨_, rfl, e, _, rfl, hx, _, rfl, _, rfl, b, dx, _, rfl, h1, rfl, _, rfl, b, L, z, l, rfl, hB, hz, el, fun H1 s1 => ⟨_, _, rfl, rfl, _, _, rfl, rfl, _, rfl, ?_⟩⟩
            have hx1 : EntAt H1 e (.fix id m a r) := s1 _ _ hx
            have hB1 := hB.same s1
            refine ite2 (fun c1 => ?_) (fun c1 => ?_)
            · have c1 : m0 + l < r := of_decide_eq_true c1
              refine q _ H1 s1 (.inl ⟨?_, rfl⟩)
              show (L.lookup z).bind _ = none
              rw [el, Option.bind_some, if_neg (by omega)]
            · have c1 : ¬ m0 + l < r := fun z => c1 (decide_eq_true z)
              refine ⟨_, rfl, _, _, _, _, rfl, rfl, SqT.of hx1, rfl, rfl, _, rfl, iteF ?_⟩
              refine ⟨_, rfl, _, rfl, _, rfl, _, rfl, _, _, _, _, rfl, rfl, SqT.of hx1, rfl, _, rfl, _, _, _, _, rfl, rfl, SqT.of hx1, rfl, (by show 4 ≤ sizeLine; decide), fun p hp => ?_⟩
              have s2 : Same H (upd H1 p (.tup [.str z, .str k, .int m, .int a])) := s1.trans (sameAt (Same.refl _) hp)
              have hx2 : EntAt (upd H1 p (.tup [.str z, .str k, .int m, .int a])) e (.fix id m a r) := s2 _ _ hx
              refine ⟨_, rfl, e, _, rfl, hx2, b, p, L, z, k, m, a, r, l, rfl, hB.same s2, upd_same, hz, el, fun H3 s3 => ?_⟩
              refine q _ H3 (s2.trans s3) ?_
              by_cases c : m ≤ r ∧ r ≤ m + l
              · rw [if_pos c]
                refine .inr ⟨(fun z => nomatch z), .at_ z k m a, ?_, p, rfl, s3 _ _ upd_same⟩
                show (L.lookup z).bind _ = _
                rw [el, Option.bind_some, if_pos ⟨by omega, c.1, c.2⟩]
              · rw [if_neg c]
                refine .inl ⟨?_, rfl⟩
                show (L.lookup z).bind _ = _
                rw [el, Option.bind_some, if_neg (fun y => c y.2)]
    | gone id r =>
      refine ⟨_, rfl, _, _, _, _, rfl, rfl, SqT.of hx, rfl, rfl, _, rfl, iteF ?_⟩
      cases ov with
      | none =>
        cases o with
        | some o => exact absurd hV (fun z => z)
        | none => exact ⟨_, rfl, rfl, _, rfl, iteT (q _ H (Same.refl H) (.inl ⟨rfl, rfl⟩))⟩
      | some v =>
        cases o with
        | none => exact absurd hV (fun z => z)
        | some o =>
          cases o with
          | tb =>
            obtain rfl : v = .ref a_TAKEN_BACK := hV
            exact ⟨_, rfl, rfl, _, rfl, iteF ⟨_, rfl, .tuple [], .tuple [], .tup (TB.sq H) .nil, .tup (TB.sq H) .nil, rfl, rfl, _, rfl, iteT (q _ H (Same.refl H) (.inl ⟨rfl, rfl⟩))⟩⟩
          | at_ z k m0 a0 =>
            obtain ⟨t, rfl, ht⟩ := hV
            obtain ⟨hz, hk0, hzl⟩ := hNm _ _ _ _ rfl
            obtain ⟨l, el⟩ := Option.isSome_iff_exists.mp hzl
            refine ⟨_, rfl, rfl, _, rfl, iteF ⟨_, rfl, .tuple [.str z, .str k, .int m0, .int a0], .tuple [], .tup (SqT.of ht) (.cons (.str _) (.cons (.str _) (.cons (.int _) (.cons (.int _) .nil)))), .tup (TB.sq H) .nil, shaped_flat (by simp [flatD, nm_ok hz, nm_ok hk0]), rfl, _, rfl, iteF ?_⟩⟩
            refine ⟨_, rfl, t, _, rfl, SqT.of ht, rfl, _, _, rfl, _, _, rfl, _, _, rfl, _, _, rfl, rfl, ?_⟩
            refine ⟨_, rfl, e, _, rfl, hx, _, rfl, _, rfl, b, dx, _, rfl, h1, rfl, _, rfl, b, L, z, l, rfl, hB, hz, el, fun H1 s1 => ⟨_, _, rfl, rfl, _, _, rfl, rfl, _, rfl, ?_⟩⟩
            have hx1 : EntAt H1 e (.gone id r) := s1 _ _ hx
            refine ite2 (fun c1 => ?_) (fun c1 => ?_)
            · have c1 : m0 + l < r := of_decide_eq_true c1
              refine q _ H1 s1 (.inl ⟨?_, rfl⟩)
              show (L.lookup z).bind _ = none
              rw [el, Option.bind_some, if_neg (by omega)]
            · have c1 : ¬ m0 + l < r := fun z => c1 (decide_eq_true z)
              refine ⟨_, rfl, _, _, _, _, rfl, rfl, SqT.of hx1, rfl, rfl, _, rfl, iteT ?_⟩
              refine q _ H1 s1 (.inr ⟨(fun z => nomatch z), .tb, ?_, rfl⟩)
              show (L.lookup z).bind _ = _
              rw [el, Option.bind_some, if_pos (by omega)]
end
end Ash

set_option Elab.async false
set_option linter.all false
set_option maxRecDepth 100000
set_option maxHeartbeats 4000000
namespace PySem
open Sem (wp)
open AutoSeq1 (wpAny_loadPart')
theorem ash_enum_newT (l : Addr) (its : Array Value) (n : Nat) (dc : Option Addr) (sl : Array (Option Value)) :
    Meets (Builtin.«enumerate.__new__» ⟨[.type "enumerate", .ref l], []⟩) (fun _ R s => s.heap.get? l = some { cls := .type "tuple", dict := dc, data := .seq its n, slots := sl } ∧
      R (.ok (.ret (.ref (s.heap.push { cls := .type "tuple_iterator", data := .fields #[.ref l, .int 0 0] }).objs.size)))
        { s with heap := (s.heap.push { cls := .type "tuple_iterator", data := .fields #[.ref l, .int 0 0] }).push { cls := .type "enumerate", data := .fields #[.none, .bool false, .ref s.heap.objs.size, rawInt 0, .none, .none] } }) :=
  .of_wp fun prog w A R s h => by
    obtain ⟨hp, g, d, tk, os⟩ := s
    obtain ⟨ht, h⟩ := h
    have hsub := sub_enumerate
    have hT : Heap.IsTuple (Shared.heap ⟨hp, g, d, tk, os⟩) l its := ⟨_, ht, rfl, n, rfl⟩
    wp_walk using wpAny_loadPart' ht
    refine wpAny_stack_any fun st => wpAny_pure ?_
    split
    · rename_i c _ _ _ _ _
      cases (c == Value.type "enumerate") <;>
      · wp_walk using wpAny_loadPart' ht, wpAny_pyIter_tuple hT
        exact ⟨_, rfl, h⟩
    · wp_walk using wpAny_loadPart' ht, wpAny_pyIter_tuple hT
      exact ⟨_, rfl, h⟩
section
variable {prog : Program} {w : World} {A : Around} {E : Value → Shared → Prop} {s : Shared}
theorem ash_call_enumT {l : Addr} {its : Array Value} {Q : Value → Shared → Prop} (hT : s.heap.IsTuple l its)
    (h : ∀ h', IsEnum h' (s.heap.objs.size + 1) s.heap.objs.size 0 .none → h'.IsTupleIter s.heap.objs.size l 0 →
      (∀ b o, s.heap.get? b = some o → h'.get? b = some o) → Q (.ref (s.heap.objs.size + 1)) { s with heap := h' }) :
    wpAny (model prog w) A (call (.type "enumerate") [.ref l]) Q E s := by
  obtain ⟨⟨c, dc, dt, sl⟩, hl, hc, n, hd⟩ := hT
  replace hc : c = .type "tuple" := hc
  replace hd : dt = .seq its n := hd
  subst hc hd
  refine callType_new F.called_enumerate (by decide) (F.typeCall_enumerate_1 _) (F.newCall_enumerate_1 _) (fun o => F.args_object_init_2 o _) F.entry_enumerate_new (ash_enum_newT l its n dc sl) ⟨hl, ?_⟩
  let oi : Obj := { cls := .type "tuple_iterator", data := .fields #[.ref l, .int 0 0] }
  let oe : Obj := { cls := .type "enumerate", data := .fields #[.none, .bool false, .ref s.heap.objs.size, rawInt 0, .none, .none] }
  have hz : (s.heap.push oi).objs.size = s.heap.objs.size + 1 := Heap.size_push ..
  have he : IsEnum ((s.heap.push oi).push oe) (s.heap.objs.size + 1) s.heap.objs.size 0 .none := by
    have q := Heap.get?_push_size (s.heap.push oi) (o := oe) rfl
    rw [hz] at q
    exact q
  show _ ∧ _
  rw [hz]
  exact ⟨⟨_, he, rfl⟩, h _ he ⟨_, Heap.get?_push_of_some _ (Heap.get?_push_size _ rfl), rfl, rfl⟩ fun b o x => Heap.get?_push_of_some _ (Heap.get?_push_of_some _ x)⟩
end
end PySem
namespace Ash
open PySem PySem.Spec PyProof.Rows L2
/-- enumerate of a tuple: its items in new pairs -/
def Itet (K : PySem.W.Frag) (a : Addr) : It :=
  ⟨fun i H => ∃ (xs : List V) (x : V), SqT K H a xs ∧ xs[i]? = some x, fun i H v H' => ∃ T x, v = .ref T ∧ H T = none ∧ H' = upd H T (.tup [.int (i : Nat), x]) ∧ ∀ xs, SqT K H a xs → xs[i]? = some x, fun i H => ∃ xs : List V, SqT K H a xs ∧ xs.length ≤ i⟩
theorem turn_enumT {P : Program} {w : World} {K : PySem.W.Frag} {elts : List Expr} {kk : Nat} {tpos : Pos} (a e it : Addr) :
    Turn P w K (.Tuple elts kk tpos) (Itet K a) [e, it] e (fun i h => (∃ old, IsEnum h e it ((i : Nat) : Int) old) ∧ h.IsTupleIter it a i ∧ e ≠ it) where
  mem := by simp
  obj := fun i h st b hb => by
    obtain ⟨⟨old, he⟩, ⟨o, ho, hc, hd⟩, _⟩ := st
    rcases (show b = e ∨ b = it by simpa using hb) with z | z
    · subst z
      exact ⟨_, he, fun v q => nomatch q⟩
    · exact ⟨o, by rw [z]; exact ho, fun v q => by rw [hd] at q; cases q⟩
  keep := fun i h h' st k => by
    obtain ⟨⟨old, he⟩, hi, hne⟩ := st
    exact ⟨⟨old, k e (by simp) _ he⟩, hi.at fun o q => k it (by simp) o q, hne⟩
  item := by
    intro X hP hw hK hc i pins s σ H E I hf st hg
    subst hP hw hK
    obtain ⟨⟨old, he⟩, hit, hne⟩ := st
    obtain ⟨xs, x, hq, hx⟩ := hg
    obtain ⟨its, rv, p, hz⟩ := I.tuple hq
    obtain ⟨u, hu, ru⟩ := rv.get hx
    have hpT : s.heap.IsTuple a its.toArray := p
    have hel : e < s.heap.objs.size := Heap.lt_size he
    have hil : it < s.heap.objs.size := by
      obtain ⟨_, q, _⟩ := hit
      exact Heap.lt_size q
    have hae : e ≠ a := fun z => by
      obtain ⟨o, q1, q2, _⟩ := hpT
      rw [← z] at q1
      have q3 : s.heap.get? e = some _ := he
      rw [q3] at q1
      cases q1
      exact absurd (Value.type.inj q2) (by decide)
    have hai : a ≠ it := fun z => by
      obtain ⟨o, q1, q2, _⟩ := hpT
      obtain ⟨o2, q3, q4, _⟩ := hit
      rw [z, q3] at q1
      cases q1
      rw [q4] at q2
      exact absurd (Value.type.inj q2) (by decide)
    have hh : X.A.in1.handled = none := I.ok.hd hc
    have D := Draws.tuple (prog := X.prog) (w := X.w) hh it a hai its.toArray
    have hlt : i < its.toArray.size := by
      have := (List.getElem?_eq_some_iff.mp hu).1
      simpa using this
    refine wpAny_pyNext_enum_itemD D he ⟨hit, hpT⟩ hlt hne (by simp [hne, hae]) fun y h' tk hy ho hst hT hsz hk => ?_
    have hyu : y = u := by
      have q : its[i]? = some y := by simpa using hy
      rw [hu] at q
      exact (Option.some.inj q).symm
    subst hyu
    refine ⟨_, rfl, wpAny_letOwnedTupleGo_enum (s := { s with heap := h', toks := tk + 1 }) ho fun h'' he' sb => ?_⟩
    have hT2 : h''.get? s.heap.objs.size = some { cls := .type "tuple", data := .seq #[.int i tk, y] } := (sb.2 _ (Nat.ne_of_gt hel)).trans hT
    have new : ObjOk X.prog X.w (upd H s.heap.objs.size (.tup [.int (i : Nat), x])) h'' s.heap.objs.size (.tup [.int (i : Nat), x]) :=
      ⟨by show 2 ≤ sizeLine; decide, [.int i tk, y], .cons ⟨_, rfl⟩ (.cons ru .nil), ⟨_, hT2, rfl, _, rfl⟩⟩
    have I1 : Inv X pins σ (upd H s.heap.objs.size (.tup [.int (i : Nat), x])) { s with heap := h'', toks := tk + 1 } :=
      I.turnedNew (ch := [e, it]) (fun b o hb q => (sb.2 b (fun z => hb (by simp [z]))).trans (hk b o (fun z => hb (by simp [z])) (fun z => hb (by simp [z])) q)) hf (Nat.le_refl _) new
    refine ⟨.ref s.heap.objs.size, _, I1, rfl, ⟨_, x, rfl, I.hok.fresh (Nat.le_refl _), rfl, fun ys hy => by rw [I.tuple_inj hy hq]; exact hx⟩, ⟨⟨y, ?_⟩, hst.1.at fun o q => (sb.2 it (Ne.symm hne)).trans q, hne⟩, fun b hb => ?_⟩
    · rw [show ((i + 1 : Nat) : Int) = (i : Int) + 1 by omega]
      exact he'
    · have hb' : b < s.heap.objs.size := by
        rcases (show b = e ∨ b = it by simpa using hb) with z | z <;> rw [z] <;> assumption
      rw [upd_ne (Nat.ne_of_lt hb')]
      exact (hf b hb).1
  done := by
    intro X hP hw hK hc i pins s σ H E I hf st hg
    subst hP hw hK
    obtain ⟨⟨old, he⟩, hit, hne⟩ := st
    obtain ⟨xs, hq, hx⟩ := hg
    obtain ⟨its, rv, p, hz⟩ := I.tuple hq
    have hpT : s.heap.IsTuple a its.toArray := p
    obtain ⟨f0, f1, f2, f3, f4, f5⟩ := hf it (by simp)
    have hl := rv.length
    have hh : X.A.in1.handled = none := I.ok.hd hc
    have hT : s.TypeIs (.ref e) "enumerate" := ⟨_, he, rfl⟩
    unfold pyNext
    refine wpAny_bind (wpAny_attempt (wpAny_callSpecial?_slot (name := Str.ofString "__next__") hT F.slot_enumerate_next
      (wpAny_call_entry F.slot_enumerate_next hT F.entry_enumerate_next ?_ (F.args_enumerate_next_1 _))))
    show wpAny _ _ (field (.ref e) 2 >>= _) _ _ _
    refine wpAny_bind (wpAny_field he rfl (x := .ref it) rfl (wpAny_bind (wpAny_nextOf_tuple_end hh hit hpT (by simp; omega) fun h' x hb ⟨o, ho, hco⟩ => ?_)))
    refine wpAny_bind (wpAny_isInstance (T := "StopIteration") (b := true) ⟨o, ho, hco⟩ isSubtype_stop ?_)
    exact wpAny_pure ⟨rfl, I.turned (t' := s.toks) (fun b o hn q => hb b o hn q) f0 f1 f3 f4 f5⟩
  self := fun A i s Q E st h => by
    obtain ⟨⟨_, he⟩, _⟩ := st
    exact wpAny_pyIter_enum he h
/-- enumerate of a list or a tuple -/
def iEnumS (K : PySem.W.Frag) (ta : TA) : TI := fun σ H R => ta σ H fun vs H1 => ∃ a, vs = [.ref a] ∧ ((∃ xs, SqL K H1 a xs ∧ R (Ite K a) H1) ∨ ∃ xs, SqT K H1 a xs ∧ R (Itet K a) H1)
theorem pi_enumS {X : Cx} {e : Expr} {ta : TA} {p pos tpos : Pos} {elts : List Expr} {kk : Nat} (hg : Gl X "enumerate") (hm : X.mg "enumerate" = none) (ha : PA X [e] ta) (hs : starEach [e] X.env = [(false, eval e X.env)] := by rfl) :
    PI X (.Tuple elts kk tpos) (.Call (.Name "enumerate" p) [e] [] pos) (iEnumS X.K ta) := by
  refine ⟨fun pins s σ H R I h => ?_⟩
  refine Call_ (ld_blt I hg hm boot_enumerate (PyProof.Rows.callWith_type1 (thn (ha.run pos pins s σ H _ I h) fun us s1 ⟨vs, H1, I1, r1, a, ex, q1⟩ => ?_) hs rfl))
  subst ex
  have fresh : ∀ b, b ∈ [s1.heap.objs.size + 1, s1.heap.objs.size] → FpOk X pins H1 b := fun b hb => by
    have hle : s1.heap.objs.size ≤ b := by
      rcases (show b = s1.heap.objs.size + 1 ∨ b = s1.heap.objs.size by simpa using hb) with z | z <;> omega
    exact I1.fpOk hle (I1.hok.fresh hle)
  cases r1 with
  | cons r rr =>
    cases rr
    cases r
    rcases q1 with ⟨xs, hq, q⟩ | ⟨xs, hq, q⟩
    · obtain ⟨its, rv, p', hz⟩ := I1.list hq
      exact call_enumerate_list p'.isList fun h' he hit _ hk => wpAny_pyIter_enum he ⟨_, _, _, _, H1, rfl, I1.kept (t' := s1.toks) hk, turn_enum a _ _, ⟨⟨.none, he⟩, hit, Nat.succ_ne_self _⟩, fresh, q⟩
    · obtain ⟨its, rv, p', hz⟩ := I1.tuple hq
      exact ash_call_enumT (show s1.heap.IsTuple a its.toArray from p') fun h' he hit hk => wpAny_pyIter_enum he ⟨_, _, _, _, H1, rfl, I1.kept (t' := s1.toks) hk, turn_enumT a _ _, ⟨⟨.none, he⟩, hit, Nat.succ_ne_self _⟩, fresh, q⟩
theorem walk_enumT {K : PySem.W.Frag} {a : Addr} {xs : List V} : Walk (Itet K a) xs.length (fun H => SqT K H a xs) (YPair (fun i => some (.int (i : Nat))) (fun i => xs[i]?)) := by
  refine ⟨fun i _ hi q => ⟨xs, xs[i], q, by simp [hi]⟩, fun _ q => ⟨xs, q, Nat.le_refl _⟩, fun i H v H' _ q y => ?_⟩
  obtain ⟨T, x, h1, h2, h3, h4⟩ := y
  exact ⟨T, .int (i : Nat), x, h1, h2, h3, rfl, h4 xs q⟩
end Ash

set_option Elab.async false
set_option linter.all false
set_option maxRecDepth 100000
set_option maxHeartbeats 4000000
namespace Ash
open PySem PySem.Spec PyProof.Rows L2
open C8 (pss_cut)
/-! ### rows of things that may be entries -/
abbrev Kn := Int → Option RowSt
def late? (l : Option Int) (r : Int) : Bool := match l with
  | some t => decide (r < t)
  | none => false
/-- the index of the first thing that is not a good entry, and what is known ahead of it -/
def wk (L : List (Str × Int)) : List (Option Ent) → Nat → Kn → Option Int → Option Nat × Kn
  | [], _, S, _ => (none, S)
  | none :: _, i, S, _ => (some i, S)
  | some x :: r, i, S, l => if late? l x.arr = true then (some i, S) else match behind L x (S x.id) with
    | none => (some i, S)
    | some y => wk L r (i + 1) (fun j => if j = x.id then some y else S j) (some x.arr)
def ThAt (K : PySem.W.Frag) (H : Hp) (v : V) : Option Ent → Prop
  | some x => ∃ e, v = .ref e ∧ EntAt H e x ∧ x.ok
  | none => NotTup K H v ∨ ∃ e xs, v = .ref e ∧ H e = some (.tup xs) ∧ xs.length < 3
def KnAt (aT : Addr) (H : Hp) (d : Addr) (S : Kn) (n : Nat) : Prop := ∃ kvs : List (Key × V), H d = some (.dK kvs) ∧ kvs.length ≤ n ∧ ∀ id, RowV aT H (valV kvs (Sum.inl id)) (S id)
def KnOk (L : List (Str × Int)) (S : Kn) : Prop := ∀ id s k m a, S id = some (.at_ s k m a) → IsNm s ∧ IsNm k ∧ (L.lookup s).isSome
theorem tyx_same {K : PySem.W.Frag} {H H' : Hp} {v : V} {t : Value} (h : TyX K H v t) (s : Same H H') : TyX K H' v t := by
  cases h with
  | base b =>
    refine .base ?_
    cases b with
    | non => exact .non
    | bl x => exact .bl x
    | int x => exact .int x
    | str x => exact .str x
    | flt x => exact .flt x
    | lst e => exact .lst (s _ _ e)
    | frz e => exact .frz (s _ _ e)
    | tup e => exact .tup (s _ _ e)
    | dK e => exact .dK (s _ _ e)
    | dT e => exact .dT (s _ _ e)
    | ins e c a b d f => exact .ins (s _ _ e) c a b d f
  | byt b => exact .byt b
  | set e => exact .set (s _ _ e)
  | kList e c => exact .kList e c
  | kTuple e c => exact .kTuple e c
  | kDict e c => exact .kDict e c
  | fTuple e => exact .fTuple (s _ _ e)
  | fDict e => exact .fDict (s _ _ e)
theorem ThAt.same {K : PySem.W.Frag} {H H' : Hp} {v : V} {o : Option Ent} (h : ThAt K H v o) (s : Same H H') : ThAt K H' v o := by
  cases o with
  | some x =>
    obtain ⟨e, h1, h2, h3⟩ := h
    exact ⟨e, h1, s _ _ h2, h3⟩
  | none =>
    rcases h with ⟨t, h1, h2⟩ | ⟨e, xs, h1, h2, h3⟩
    · exact .inl ⟨t, tyx_same h1 s, h2⟩
    · exact .inr ⟨e, xs, h1, s _ _ h2, h3⟩
theorem behind_ok {L : List (Str × Int)} {x : Ent} {o : Option RowSt} {y : RowSt} (hx : x.ok) (ho : ∀ s k m a, o = some (.at_ s k m a) → IsNm s ∧ IsNm k ∧ (L.lookup s).isSome) (h : behind L x o = some y) :
    ∀ s k m a, y = .at_ s k m a → IsNm s ∧ IsNm k ∧ (L.lookup s).isSome := by
  rintro s k m a rfl
  cases x with
  | row id s' k' m' a' r =>
    cases o with
    | some o => cases h
    | none =>
      have h : (L.lookup s').bind _ = _ := h
      cases el : L.lookup s' with
      | none => rw [el] at h; cases h
      | some l =>
        rw [el, Option.bind_some] at h
        split at h
        · cases h
          obtain ⟨h1, h2⟩ := hx.2 _ _ _ _ _ _ rfl
          exact ⟨h1, h2, by rw [el]; rfl⟩
        · cases h
  | fix id m' a' r =>
    cases o with
    | none => cases h
    | some o =>
      cases o with
      | tb => cases h
      | at_ s' k' m0 a0 =>
        have h : (L.lookup s').bind _ = _ := h
        cases el : L.lookup s' with
        | none => rw [el] at h; cases h
        | some l =>
          rw [el, Option.bind_some] at h
          split at h
          · cases h
            exact ho _ _ _ _ rfl
          · cases h
  | gone id r =>
    cases o with
    | none => cases h
    | some o =>
      cases o with
      | tb => cases h
      | at_ s' k' m0 a0 =>
        have h : (L.lookup s').bind _ = _ := h
        cases el : L.lookup s' with
        | none => rw [el] at h; cases h
        | some l =>
          rw [el, Option.bind_some] at h
          split at h <;> cases h
def atV : Option Nat → V
  | none => .non
  | some i => .int (i : Int)
def spWalked (K : PySem.W.Frag) (aT CB : Addr) : Sp := fun vs H Q _ => ∃ (b a : Addr) (L : List (Str × Int)) (us : List V) (ths : List (Option Ent)), vs = [.ref b, .ref a] ∧ BookAt CB H b L ∧ (SqL K H a us ∨ SqT K H a us) ∧ us.length ≤ 1000 ∧ us.length = ths.length ∧
  (∀ (i : Nat) v o, us[i]? = some v → ths[i]? = some o → ThAt K H v o) ∧
  ∀ t kd H', Same H H' → H' t = some (.tup [atV (wk L ths 0 (fun _ => none) none).1, .ref kd]) → KnAt aT H' kd (wk L ths 0 (fun _ => none) none).2 us.length → Q (.ref t) H'
theorem pk_len {κ : Type} [DecidableEq κ] (c : List (κ × V)) (k : κ) (x : V) : (putK c k x).length ≤ c.length + 1 := by
  unfold putK
  split
  · rw [List.length_map]
    omega
  · rw [List.length_append]
    exact Nat.le_refl _
theorem seqS {K : PySem.W.Frag} {H H' : Hp} {a : Addr} {us : List V} (h : SqT K H a us) (s : Same H H') : SqT K H' a us := by
  rcases h with (h | ⟨o, h⟩) | h
  · exact .inl (.inl (s _ _ h))
  · exact .inl (.inr ⟨o, s _ _ h⟩)
  · exact .inr h
theorem rowV_off {aT d : Addr} {H : Hp} {kvs : List (Key × V)} {o' : HO} {w : Option V} {o : Option RowSt} (h : RowV aT H w o) (hd : H d = some (.dK kvs)) : RowV aT (upd H d o') w o := by
  cases w with
  | none => cases o <;> exact h
  | some v =>
    cases o with
    | none => exact h
    | some o =>
      cases o with
      | tb => exact h
      | at_ z k m a =>
        obtain ⟨t, e, h⟩ := h
        exact ⟨t, e, by rw [upd_ne (ne_of h hd (by intro z; cases z))]; exact h⟩
def latV : Option Int → V
  | none => .non
  | some n => .int n
theorem ent_id (y : Ent) : atI y.vs 1 = some (.int y.id) := by cases y <;> rfl
theorem wk_odd (L : List (Str × Int)) (r : List (Option Ent)) (i : Nat) (S : Kn) (l : Option Int) : wk L (none :: r) i S l = (some i, S) := rfl
theorem wk_late {L : List (Str × Int)} {x : Ent} {r : List (Option Ent)} {i : Nat} {S : Kn} {l : Option Int} (h : late? l x.arr = true) : wk L (some x :: r) i S l = (some i, S) := by
  show (if late? l x.arr = true then _ else _) = _
  rw [if_pos h]
theorem wk_bad {L : List (Str × Int)} {x : Ent} {r : List (Option Ent)} {i : Nat} {S : Kn} {l : Option Int} (h : late? l x.arr = false) (hb : behind L x (S x.id) = none) : wk L (some x :: r) i S l = (some i, S) := by
  show (if late? l x.arr = true then _ else _) = _
  rw [h, if_neg Bool.false_ne_true, hb]
theorem wk_go {L : List (Str × Int)} {x : Ent} {r : List (Option Ent)} {i : Nat} {S : Kn} {l : Option Int} {y : RowSt} (h : late? l x.arr = false) (hb : behind L x (S x.id) = some y) : wk L (some x :: r) i S l = wk L r (i + 1) (fun j => if j = x.id then some y else S j) (some x.arr) := by
  show (if late? l x.arr = true then _ else _) = _
  rw [h, if_neg Bool.false_ne_true, hb]
section
variable {P : Program} {w : World} {K : PySem.W.Frag} {mg : Str → Option Value} {base : Heap}
structure K6 (P : Program) (w : World) (K : PySem.W.Frag) (mg : Str → Option Value) (base : Heap) (CB aT : Addr) : Prop extends K5 P w K mg base CB where
  row_behind : Cal P w K mg base CX0 "row_behind" 5 ["book", "entry", "old"] (spBehind aT CB)
abbrev s_walked : Stmt := topS 27
theorem sc_walked : FnScope ["book", "things", "known", "latest", "at", "thing", "row"] ["book", "things"] (defScope s_walked) := ⟨rfl, rfl, rfl, by decide +kernel, rfl, by decide +kernel, by decide +kernel⟩
theorem ok_walked {f CB a_TAKEN_BACK : Addr} {fd : FuncData} (F : Fun K "walked" "walked" s_walked f fd) (B : Blt mg) (G : K6 P w K mg base CB a_TAKEN_BACK) : FnOk P w K mg base CX0 6 f fd ["book", "things"] (spWalked K a_TAKEN_BACK CB) := by
  refine F.ok sc_walked (fun vs H Q E h => ?_) (fun cdv A outer s H vs Q E hr h => ?_)
  · obtain ⟨b, a, L, us, ths, rfl, _⟩ := h
    rfl
  · obtain ⟨b, a, L, us, ths, rfl, hB, hS, hn, hlen, hT3, q⟩ := h
    have hu := hu_of hr
    refine ⟨_, (pss_cons (ps_set (i := 2) sc_walked.nd rfl (Or.inl rfl) pe_dnewK)
    (pss_cons (ps_set (i := 3) sc_walked.nd rfl (Or.inl rfl) pe_non)
    (pss_cons (ps_for PassesOwn.never rfl (pi_enumS (by rfl) B.enumerate (pa_cons (pv 1) pa_nil)) (pg_tup (by rfl) (pgs_cons (pg_name (i := 4) sc_walked.nd rfl (Or.inl rfl)) (pgs_cons (pg_name (i := 5) sc_walked.nd rfl (Or.inl rfl)) pgs_nil)))
      (pss_cut (ps_if (PW.pt (pw_or (pt_not (pt_val (pe_cal G.is_entry (hr.mono (by decide)) pass0 (pa_cons (pv 5) pa_nil)))) (pw_or1 (PW.pt (pw_and (pt_cmpR op_notN (pv 3) pe_non (nomark _)) (pw_and1 (pt_cmpR op_lt (pe_cal G.arrival_of (hr.mono (by decide)) pass0 (pa_cons (pv 5) pa_nil)) (pv 3) (nomark _))))))))
        (pss_one (ps_ret (pe_tup (pa_cons (pv 4) (pa_cons (pv 2) pa_nil)))))
        pss_nil)
      (pss_cons (ps_set (i := 6) sc_walked.nd rfl (Or.inl rfl) (pe_cal G.row_behind (hr.mono (by decide)) pass0 (pa_cons (pv 0) (pa_cons (pv 5) (pa_cons (pe_dget1 hu (pv 2) (pe_ix ix_tup (pv 5) pe_int (fun _ _ => rfl)) ⟨rfl, rfl, rfl, rfl⟩) pa_nil)))))
      (pss_cons (ps_if (pt_cmpR op_isN (pv 6) pe_non (nomark _))
        (pss_one (ps_ret (pe_tup (pa_cons (pv 4) (pa_cons (pv 2) pa_nil)))))
        pss_nil)
      (pss_cons (ps_dput hu (pv 2) (pe_ix ix_tup (pv 5) pe_int (fun _ _ => rfl)) (pv 6) rfl)
      (pss_one (ps_set (i := 3) sc_walked.nd rfl (Or.inl rfl) (pe_cal G.arrival_of (hr.mono (by decide)) pass0 (pa_cons (pv 5) pa_nil)))))))))
    (pss_one (ps_ret (pe_tup (pa_cons pe_non (pa_cons (pv 2) pa_nil)))))))), ?_⟩
    intro d hd
    rcases hS with hS | hS
    · refine ⟨_, rfl, a, rfl, .inl ⟨_, (sameAt (Same.refl H) hd).seq hS, for_it walk_enum (fun i σ H1 => ∃ (S : Kn) (lo : Option Int), (∃ a1 a2 a3, σ = [some (.ref b), some (.ref a), some (.ref d), some (latV lo), a1, a2, a3]) ∧ wk L ths 0 (fun _ => none) none = wk L (ths.drop i) i S lo ∧ KnAt a_TAKEN_BACK H1 d S i ∧ Same H H1 ∧ KnOk L S) ?_ (fun i σ H1 _ hv => by
        obtain ⟨S, lo, _, _, _, s1, _⟩ := hv
        exact s1.seq hS) ?_ ?_⟩⟩
      · exact ⟨fun _ => none, none, ⟨_, _, _, rfl⟩, rfl, ⟨[], upd_same, Nat.le_refl _, fun id => trivial⟩, sameAt (Same.refl H) hd, fun _ _ _ _ _ z => nomatch z⟩
      · rintro i x σ H1 H2 hi ⟨S, lo, ⟨a1, a2, a3, rfl⟩, hw, ⟨kvs, hk1, hk2, hk3⟩, s1, hKn⟩ ⟨T, x1, x2, rfl, hT, rfl, e1, e2⟩
        cases e1
        have hil : i < ths.length := by rw [← hlen]; exact hi
        obtain ⟨o, ho⟩ : ∃ o, ths[i]? = some o := ⟨_, List.getElem?_eq_getElem hil⟩
        have s2 : Same H (upd H1 T (.tup [.int (i : Nat), x2])) := s1.trans (sameAt (Same.refl _) hT)
        have hdT : d ≠ T := fun z => by rw [← z, hk1] at hT; cases hT
        have hkd2 : (upd H1 T (.tup [.int (i : Nat), x2])) d = some (.dK kvs) := by rw [upd_ne hdT]; exact hk1
        have hth := hT3 i x2 o e2 ho
        have hdrop : ths.drop i = o :: ths.drop (i + 1) := by
          rw [List.drop_eq_getElem_cons hil]
          rw [List.getElem?_eq_getElem hil] at ho
          rw [Option.some.inj ho]
        rw [hdrop] at hw
        refine ⟨T, _, rfl, SqT.of upd_same, rfl, _, _, rfl, _, _, rfl, rfl, ?_⟩
        have bad : ∀ H3, Same (upd H1 T (.tup [.int (i : Nat), x2])) H3 → wk L (o :: ths.drop (i + 1)) i S lo = (some i, S) →
            ∀ (p : Addr), H3 p = none → Q (.ref p) (upd H3 p (.tup [.int (i : Nat), .ref d])) := fun H3 s3 hbad p hp => by
          have s4 := s3.trans (sameAt (Same.refl H3) hp (o := .tup [.int (i : Nat), .ref d]))
          rw [hbad] at hw
          refine q p d _ (s2.trans s4) ?_ ?_
          · rw [upd_same, hw]
            rfl
          · rw [hw]
            exact ⟨kvs, s4 _ _ hkd2, Nat.le_trans hk2 (Nat.le_of_lt hi), fun id => (hk3 id).same ((sameAt (Same.refl H1) hT).trans s4)⟩
        refine ⟨fun σ' H3 => (∃ e y a3, o = some y ∧ x2 = .ref e ∧ EntAt H e y ∧ y.ok ∧ σ' = [some (.ref b), some (.ref a), some (.ref d), some (latV lo), some (.int (i : Nat)), some (.ref e), a3] ∧ late? lo y.arr = false) ∧ Same (upd H1 T (.tup [.int (i : Nat), x2])) H3, ?_, ?_⟩
        · cases o with
          | none =>
            refine ⟨_, rfl, x2, rfl, .inr ?_⟩
            rcases hth.same s2 with nt | ⟨e, xs, rfl, hx, hx3⟩
            · exact .inl ⟨nt, _, rfl, iteT ⟨_, rfl, _, rfl, (by show 2 ≤ sizeLine; decide), fun p hp => bad _ (Same.refl _) rfl p hp⟩⟩
            · exact .inr ⟨e, xs, rfl, hx, hx3, _, rfl, iteT ⟨_, rfl, _, rfl, (by show 2 ≤ sizeLine; decide), fun p hp => bad _ (Same.refl _) rfl p hp⟩⟩
          | some y =>
            obtain ⟨e, rfl, hx, hok⟩ := hth
            refine ⟨_, rfl, _, rfl, .inl ⟨e, y, rfl, s2 _ _ hx, hok, fun H3 s3 => ⟨_, rfl, iteF ?_⟩⟩⟩
            have hx3 : EntAt H3 e y := s3 _ _ (s2 _ _ hx)
            cases lo with
            | none => exact ⟨_, rfl, rfl, _, rfl, iteF ⟨⟨e, y, _, rfl, rfl, hx, hok, rfl, rfl⟩, s3⟩⟩
            | some n =>
              refine ⟨_, rfl, rfl, _, rfl, iteT ⟨_, rfl, e, y, rfl, hx3, _, rfl, _, _, rfl, rfl, _, rfl, ?_⟩⟩
              refine ite2 (fun c1 => ?_) (fun c1 => ?_)
              · exact ⟨_, rfl, _, rfl, (by show 2 ≤ sizeLine; decide), fun p hp => bad _ s3 (wk_late c1) p hp⟩
              · exact ⟨⟨e, y, _, rfl, rfl, hx, hok, rfl, Bool.eq_false_iff.mpr c1⟩, s3⟩
        · rintro σ' H3 ⟨⟨e, y, a3, rfl, rfl, hx, hok, rfl, hlt⟩, s3⟩
          have s23 := s2.trans s3
          have hx3 : EntAt H3 e y := s23 _ _ hx
          have hkd3 : H3 d = some (.dK kvs) := s3 _ _ hkd2
          have s13 : Same H1 H3 := (sameAt (Same.refl H1) hT).trans s3
          refine ⟨_, rfl, _, rfl, _, rfl, d, rfl, .inl ⟨_, .of hkd3⟩, _, rfl, _, _, _, _, rfl, rfl, SqT.of hx3, ent_id y, _, DGet.k (k := Sum.inl y.id) hkd3, b, e, L, y, _, S y.id, rfl, hB.same s23, hx3, hok, (hk3 y.id).same s13, hKn y.id, fun v H4 s4 hv => ?_⟩
          have s34 := s3.trans s4
          rcases hv with ⟨hb, rfl⟩ | ⟨hvn, z, hb, hvz⟩
          · exact ⟨_, rfl, rfl, _, rfl, iteT ⟨_, rfl, _, rfl, (by show 2 ≤ sizeLine; decide), fun p hp => bad _ s34 (wk_bad hlt hb) p hp⟩⟩
          · refine ⟨_, rfl, rfl, _, rfl, ?_⟩
            rw [decide_eq_false hvn]
            have hx4 : EntAt H4 e y := s4 _ _ hx3
            have hkd4 : H4 d = some (.dK kvs) := s4 _ _ hkd3
            refine iteF ⟨_, rfl, _, rfl, _, rfl, _, _, _, _, rfl, rfl, SqT.of hx4, ent_id y, d, _, rfl, DPut.k (k := Sum.inl y.id) hkd4 (small1000 (by omega)), ?_⟩
            have hed : e ≠ d := fun q => by rw [q] at hx4; rw [show H4 d = _ from hx4] at hkd4; cases hkd4
            have hx5 : EntAt (upd H4 d (.dK (putK kvs (Sum.inl y.id) v))) e y := by show upd _ _ _ _ = _; rw [upd_ne hed]; exact hx4
            have s5 : Same H (upd H4 d (.dK (putK kvs (Sum.inl y.id) v))) := sameAt (s23.trans s4) hd
            refine ⟨_, rfl, e, y, rfl, hx5, (fun j => if j = y.id then some z else S j), some y.arr, ⟨_, _, _, rfl⟩, ?_, ⟨_, upd_same, Nat.le_trans (pk_len _ _ _) (by omega), fun id => ?_⟩, s5, ?_⟩
            · rw [hw, wk_go hlt hb]
            · rw [valV_put]
              show RowV _ _ _ (if id = y.id then some z else S id)
              have rv : ∀ {w : Option V} {o : Option RowSt}, RowV a_TAKEN_BACK H4 w o → RowV a_TAKEN_BACK (upd H4 d (.dK (putK kvs (Sum.inl y.id) v))) w o := fun {w o} h => rowV_off h hkd4
              by_cases ej : id = y.id
              · rw [if_pos (by rw [ej]), if_pos ej]
                exact rv hvz
              · rw [if_neg (fun q => ej (Sum.inl.inj q)), if_neg ej]
                exact rv (((hk3 id).same s13).same s4)
            · intro id z1 k m a' he
              by_cases ej : id = y.id
              · have he : (if id = y.id then some z else S id) = some (.at_ z1 k m a') := he
                rw [if_pos ej] at he
                exact behind_ok hok (hKn y.id) hb _ _ _ _ (Option.some.inj he)
              · have he : (if id = y.id then some z else S id) = some (.at_ z1 k m a') := he
                rw [if_neg ej] at he
                exact hKn id _ _ _ _ he
      · rintro σ H1 ⟨S, lo, ⟨a1, a2, a3, rfl⟩, hw, hk, s1, hKn⟩
        have e : ths.drop us.length = [] := by rw [hlen]; exact List.drop_length
        rw [e] at hw
        refine ⟨_, rfl, (by show 2 ≤ sizeLine; decide), fun p hp => ?_⟩
        have s4 := sameAt (Same.refl H1) hp (o := .tup [.non, .ref d])
        obtain ⟨kvs, hk1, hk2, hk3⟩ := hk
        refine q p d _ (s1.trans s4) ?_ ?_
        · rw [upd_same, hw]
          rfl
        · rw [hw]
          exact ⟨kvs, s4 _ _ hk1, hk2, fun id => (hk3 id).same s4⟩
    · refine ⟨_, rfl, a, rfl, .inr ⟨_, seqS hS (sameAt (Same.refl H) hd), for_it walk_enumT (fun i σ H1 => ∃ (S : Kn) (lo : Option Int), (∃ a1 a2 a3, σ = [some (.ref b), some (.ref a), some (.ref d), some (latV lo), a1, a2, a3]) ∧ wk L ths 0 (fun _ => none) none = wk L (ths.drop i) i S lo ∧ KnAt a_TAKEN_BACK H1 d S i ∧ Same H H1 ∧ KnOk L S) ?_ (fun i σ H1 _ hv => by
        obtain ⟨S, lo, _, _, _, s1, _⟩ := hv
        exact seqS hS s1) ?_ ?_⟩⟩
      · exact ⟨fun _ => none, none, ⟨_, _, _, rfl⟩, rfl, ⟨[], upd_same, Nat.le_refl _, fun id => trivial⟩, sameAt (Same.refl H) hd, fun _ _ _ _ _ z => nomatch z⟩
      · rintro i x σ H1 H2 hi ⟨S, lo, ⟨a1, a2, a3, rfl⟩, hw, ⟨kvs, hk1, hk2, hk3⟩, s1, hKn⟩ ⟨T, x1, x2, rfl, hT, rfl, e1, e2⟩
        cases e1
        have hil : i < ths.length := by rw [← hlen]; exact hi
        obtain ⟨o, ho⟩ : ∃ o, ths[i]? = some o := ⟨_, List.getElem?_eq_getElem hil⟩
        have s2 : Same H (upd H1 T (.tup [.int (i : Nat), x2])) := s1.trans (sameAt (Same.refl _) hT)
        have hdT : d ≠ T := fun z => by rw [← z, hk1] at hT; cases hT
        have hkd2 : (upd H1 T (.tup [.int (i : Nat), x2])) d = some (.dK kvs) := by rw [upd_ne hdT]; exact hk1
        have hth := hT3 i x2 o e2 ho
        have hdrop : ths.drop i = o :: ths.drop (i + 1) := by
          rw [List.drop_eq_getElem_cons hil]
          rw [List.getElem?_eq_getElem hil] at ho
          rw [Option.some.inj ho]
        rw [hdrop] at hw
        refine ⟨T, _, rfl, SqT.of upd_same, rfl, _, _, rfl, _, _, rfl, rfl, ?_⟩
        have bad : ∀ H3, Same (upd H1 T (.tup [.int (i : Nat), x2])) H3 → wk L (o :: ths.drop (i + 1)) i S lo = (some i, S) →
            ∀ (p : Addr), H3 p = none → Q (.ref p) (upd H3 p (.tup [.int (i : Nat), .ref d])) := fun H3 s3 hbad p hp => by
          have s4 := s3.trans (sameAt (Same.refl H3) hp (o := .tup [.int (i : Nat), .ref d]))
          rw [hbad] at hw
          refine q p d _ (s2.trans s4) ?_ ?_
          · rw [upd_same, hw]
            rfl
          · rw [hw]
            exact ⟨kvs, s4 _ _ hkd2, Nat.le_trans hk2 (Nat.le_of_lt hi), fun id => (hk3 id).same ((sameAt (Same.refl H1) hT).trans s4)⟩
        refine ⟨fun σ' H3 => (∃ e y a3, o = some y ∧ x2 = .ref e ∧ EntAt H e y ∧ y.ok ∧ σ' = [some (.ref b), some (.ref a), some (.ref d), some (latV lo), some (.int (i : Nat)), some (.ref e), a3] ∧ late? lo y.arr = false) ∧ Same (upd H1 T (.tup [.int (i : Nat), x2])) H3, ?_, ?_⟩
        · cases o with
          | none =>
            refine ⟨_, rfl, x2, rfl, .inr ?_⟩
            rcases hth.same s2 with nt | ⟨e, xs, rfl, hx, hx3⟩
            · exact .inl ⟨nt, _, rfl, iteT ⟨_, rfl, _, rfl, (by show 2 ≤ sizeLine; decide), fun p hp => bad _ (Same.refl _) rfl p hp⟩⟩
            · exact .inr ⟨e, xs, rfl, hx, hx3, _, rfl, iteT ⟨_, rfl, _, rfl, (by show 2 ≤ sizeLine; decide), fun p hp => bad _ (Same.refl _) rfl p hp⟩⟩
          | some y =>
            obtain ⟨e, rfl, hx, hok⟩ := hth
            refine ⟨_, rfl, _, rfl, .inl ⟨e, y, rfl, s2 _ _ hx, hok, fun H3 s3 => ⟨_, rfl, iteF ?_⟩⟩⟩
            have hx3 : EntAt H3 e y := s3 _ _ (s2 _ _ hx)
            cases lo with
            | none => exact ⟨_, rfl, rfl, _, rfl, iteF ⟨⟨e, y, _, rfl, rfl, hx, hok, rfl, rfl⟩, s3⟩⟩
            | some n =>
              refine ⟨_, rfl, rfl, _, rfl, iteT ⟨_, rfl, e, y, rfl, hx3, _, rfl, _, _, rfl, rfl, _, rfl, ?_⟩⟩
              refine ite2 (fun c1 => ?_) (fun c1 => ?_)
              · exact ⟨_, rfl, _, rfl, (by show 2 ≤ sizeLine; decide), fun p hp => bad _ s3 (wk_late c1) p hp⟩
              · exact ⟨⟨e, y, _, rfl, rfl, hx, hok, rfl, Bool.eq_false_iff.mpr c1⟩, s3⟩
        · rintro σ' H3 ⟨⟨e, y, a3, rfl, rfl, hx, hok, rfl, hlt⟩, s3⟩
          have s23 := s2.trans s3
          have hx3 : EntAt H3 e y := s23 _ _ hx
          have hkd3 : H3 d = some (.dK kvs) := s3 _ _ hkd2
          have s13 : Same H1 H3 := (sameAt (Same.refl H1) hT).trans s3
          refine ⟨_, rfl, _, rfl, _, rfl, d, rfl, .inl ⟨_, .of hkd3⟩, _, rfl, _, _, _, _, rfl, rfl, SqT.of hx3, ent_id y, _, DGet.k (k := Sum.inl y.id) hkd3, b, e, L, y, _, S y.id, rfl, hB.same s23, hx3, hok, (hk3 y.id).same s13, hKn y.id, fun v H4 s4 hv => ?_⟩
          have s34 := s3.trans s4
          rcases hv with ⟨hb, rfl⟩ | ⟨hvn, z, hb, hvz⟩
          · exact ⟨_, rfl, rfl, _, rfl, iteT ⟨_, rfl, _, rfl, (by show 2 ≤ sizeLine; decide), fun p hp => bad _ s34 (wk_bad hlt hb) p hp⟩⟩
          · refine ⟨_, rfl, rfl, _, rfl, ?_⟩
            rw [decide_eq_false hvn]
            have hx4 : EntAt H4 e y := s4 _ _ hx3
            have hkd4 : H4 d = some (.dK kvs) := s4 _ _ hkd3
            refine iteF ⟨_, rfl, _, rfl, _, rfl, _, _, _, _, rfl, rfl, SqT.of hx4, ent_id y, d, _, rfl, DPut.k (k := Sum.inl y.id) hkd4 (small1000 (by omega)), ?_⟩
            have hed : e ≠ d := fun q => by rw [q] at hx4; rw [show H4 d = _ from hx4] at hkd4; cases hkd4
            have hx5 : EntAt (upd H4 d (.dK (putK kvs (Sum.inl y.id) v))) e y := by show upd _ _ _ _ = _; rw [upd_ne hed]; exact hx4
            have s5 : Same H (upd H4 d (.dK (putK kvs (Sum.inl y.id) v))) := sameAt (s23.trans s4) hd
            refine ⟨_, rfl, e, y, rfl, hx5, (fun j => if j = y.id then some z else S j), some y.arr, ⟨_, _, _, rfl⟩, ?_, ⟨_, upd_same, Nat.le_trans (pk_len _ _ _) (by omega), fun id => ?_⟩, s5, ?_⟩
            · rw [hw, wk_go hlt hb]
            · rw [valV_put]
              show RowV _ _ _ (if id = y.id then some z else S id)
              have rv : ∀ {w : Option V} {o : Option RowSt}, RowV a_TAKEN_BACK H4 w o → RowV a_TAKEN_BACK (upd H4 d (.dK (putK kvs (Sum.inl y.id) v))) w o := fun {w o} h => rowV_off h hkd4
              by_cases ej : id = y.id
              · rw [if_pos (by rw [ej]), if_pos ej]
                exact rv hvz
              · rw [if_neg (fun q => ej (Sum.inl.inj q)), if_neg ej]
                exact rv (((hk3 id).same s13).same s4)
            · intro id z1 k m a' he
              by_cases ej : id = y.id
              · have he : (if id = y.id then some z else S id) = some (.at_ z1 k m a') := he
                rw [if_pos ej] at he
                exact behind_ok hok (hKn y.id) hb _ _ _ _ (Option.some.inj he)
              · have he : (if id = y.id then some z else S id) = some (.at_ z1 k m a') := he
                rw [if_neg ej] at he
                exact hKn id _ _ _ _ he
      · rintro σ H1 ⟨S, lo, ⟨a1, a2, a3, rfl⟩, hw, hk, s1, hKn⟩
        have e : ths.drop us.length = [] := by rw [hlen]; exact List.drop_length
        rw [e] at hw
        refine ⟨_, rfl, (by show 2 ≤ sizeLine; decide), fun p hp => ?_⟩
        have s4 := sameAt (Same.refl H1) hp (o := .tup [.non, .ref d])
        obtain ⟨kvs, hk1, hk2, hk3⟩ := hk
        refine q p d _ (s1.trans s4) ?_ ?_
        · rw [upd_same, hw]
          rfl
        · rw [hw]
          exact ⟨kvs, s4 _ _ hk1, hk2, fun id => (hk3 id).same s4⟩
end
end Ash

set_option Elab.async false
set_option linter.all false
set_option maxRecDepth 100000
set_option maxHeartbeats 4000000
namespace Ash
open PySem PySem.Spec PyProof.Rows L2
open C8 (pss_cut)
/-! ### journals -/
def jf (b t kd : Addr) : List (Str × V) := putF "_known" (.ref kd) (putF "entries" (.ref t) (putF "book" (.ref b) []))
theorem jf_b (b t kd : Addr) : (jf b t kd).lookup ("book" : Str) = some (.ref b) := by
  unfold jf
  rw [lookup_putF, if_neg (by decide +kernel), lookup_putF, if_neg (by decide +kernel), lookup_putF, if_pos rfl]
theorem jf_e (b t kd : Addr) : (jf b t kd).lookup ("entries" : Str) = some (.ref t) := by
  unfold jf
  rw [lookup_putF, if_neg (by decide +kernel), lookup_putF, if_pos rfl]
theorem jf_k (b t kd : Addr) : (jf b t kd).lookup ("_known" : Str) = some (.ref kd) := by
  unfold jf
  rw [lookup_putF, if_pos rfl]
theorem jf_no (b t kd : Addr) {m : Str} (h1 : ¬ m = "_known") (h2 : ¬ m = "entries") (h3 : ¬ m = "book") : (jf b t kd).lookup m = none := by
  unfold jf
  rw [lookup_putF, if_neg h1, lookup_putF, if_neg h2, lookup_putF, if_neg h3]
  rfl
/-- a journal of the book at b with the things us, which are the entries xs -/
def JAt (K : PySem.W.Frag) (CJ CB : Addr) (H : Hp) (j b : Addr) (L : List (Str × Int)) (us : List V) (xs : List Ent) : Prop := ∃ dx t kd, H j = some (.ins CJ dx (jf b t kd)) ∧ BookAt CB H b L ∧ SqT K H t us ∧ us.length = xs.length ∧
  (∀ (i : Nat) v x, us[i]? = some v → xs[i]? = some x → ThAt K H v (some x)) ∧ (wk L (xs.map some) 0 (fun _ => none) none).1 = none
theorem JAt.same {K : PySem.W.Frag} {CJ CB : Addr} {H H' : Hp} {j b : Addr} {L : List (Str × Int)} {us : List V} {xs : List Ent} (h : JAt K CJ CB H j b L us xs) (s : Same H H') : JAt K CJ CB H' j b L us xs := by
  obtain ⟨dx, t, kd, h1, h2, h3, h4, h5, h6⟩ := h
  exact ⟨dx, t, kd, s _ _ h1, h2.same s, seqS h3 s, h4, fun i v x a b => (h5 i v x a b).same s, h6⟩
def spIsRow (K : PySem.W.Frag) : Sp := fun vs H Q _ => ∃ (a : Addr) (us : List V), vs = [.ref a] ∧ (H a = some (.lst us) ∨ SqT K H a us) ∧ ∀ H', Same H H' → Q (.bl true) H'
/-- the made error's dict -/
def Xd (H : Hp) (d : Addr) (fl : Str) (v : V) : Prop := H d = some (.xd [(fl, v)])
def spJInit (K : PySem.W.Frag) (CJ CB CE : Addr) : Sp := fun vs H Q E => ∃ (j dx b a : Addr) (L : List (Str × Int)) (us : List V) (ths : List (Option Ent)), vs = [.ref j, .ref b, .ref a] ∧ H j = some (.ins CJ dx []) ∧ BookAt CB H b L ∧ (H a = some (.lst us) ∨ SqT K H a us) ∧ us.length ≤ 400 ∧ us.length = ths.length ∧
  (∀ (i : Nat) v o, us[i]? = some v → ths[i]? = some o → ThAt K H v o) ∧
  (∀ H' xs, ths = xs.map some → (wk L ths 0 (fun _ => none) none).1 = none → JAt K CJ CB H' j b L us xs → (∀ c o, H c = some o → c ≠ j → H' c = some o) → Q .non H') ∧
  (∀ i d H', (wk L ths 0 (fun _ => none) none).1 = some i → Same H H' → Xd H' d "at" (.int (i : Int)) → E (.ref CE) (some d) H')
/-- what the top says of Journal and of the errors -/
structure Cj (P : Program) (K : PySem.W.Frag) (mg : Str → Option Value) (CJ CB : Addr) : Prop where
  cl : Cls K CJ
  nB : NoAttr K CJ "book"
  nE : NoAttr K CJ "entries"
  nK : NoAttr K CJ "_known"
  c : mg "Journal" = some (.ref CJ)
theorem wk_some {L : List (Str × Int)} : ∀ {ths : List (Option Ent)} {i : Nat} {S : Kn} {l : Option Int}, (wk L ths i S l).1 = none → ∃ xs : List Ent, ths = xs.map some
  | [], _, _, _, _ => ⟨[], rfl⟩
  | none :: r, i, S, l, h => by
    rw [wk_odd] at h
    cases h
  | some x :: r, i, S, l, h => by
    by_cases c : late? l x.arr = true
    · rw [wk_late c] at h
      cases h
    · have c : late? l x.arr = false := Bool.eq_false_iff.mpr c
      cases hb : behind L x (S x.id) with
      | none =>
        rw [wk_bad c hb] at h
        cases h
      | some y =>
        rw [wk_go c hb] at h
        obtain ⟨xs, e⟩ := wk_some h
        exact ⟨x :: xs, by rw [e]; rfl⟩
/-- all but an instance stands -/
theorem BookAt.chg {CB j C dx : Addr} {H H' : Hp} {b : Addr} {L : List (Str × Int)} (h : BookAt CB H b L) (hj : H j = some (.ins C dx [])) (k : ∀ c o, H c = some o → c ≠ j → H' c = some o) : BookAt CB H' b L := by
  obtain ⟨dx, d, L', h1, h2, h3⟩ := h
  exact ⟨dx, d, L', k _ _ h1 (ne_of h1 hj (by intro z; cases z)), k _ _ h2 (ne_of h2 hj (by intro z; cases z)), h3⟩
theorem seqC {K : PySem.W.Frag} {H H' : Hp} {a j C dx : Addr} {us : List V} (h : SqT K H a us) (hj : H j = some (.ins C dx [])) (k : ∀ c o, H c = some o → c ≠ j → H' c = some o) : SqT K H' a us := by
  rcases h with (h | ⟨o, h⟩) | h
  · exact .inl (.inl (k _ _ h (ne_of h hj (by intro z; cases z))))
  · exact .inl (.inr ⟨o, k _ _ h (ne_of h hj (by intro z; cases z))⟩)
  · exact .inr h
theorem thC {K : PySem.W.Frag} {H H' : Hp} {j C dx : Addr} {v : V} {x : Ent} (h : ThAt K H v (some x)) (hj : H j = some (.ins C dx [])) (k : ∀ c o, H c = some o → c ≠ j → H' c = some o) : ThAt K H' v (some x) := by
  obtain ⟨e, h1, h2, h3⟩ := h
  exact ⟨e, h1, k _ _ h2 (ne_of h2 hj (by intro z; cases z)), h3⟩
section
variable {P : Program} {w : World} {K : PySem.W.Frag} {mg : Str → Option Value} {base : Heap}
abbrev s_is_row : Stmt := topS 13
theorem sc_is_row : FnScope ["thing"] ["thing"] (defScope s_is_row) := ⟨rfl, rfl, rfl, by decide +kernel, rfl, by decide +kernel, by decide +kernel⟩
theorem ok_is_row {f : Addr} {fd : FuncData} (F : Fun K "is_row" "is_row" s_is_row f fd) (B : Blt mg) : FnOk P w K mg base CX0 1 f fd ["thing"] (spIsRow K) := by
  refine F.ok sc_is_row (fun vs H Q E h => ?_) (fun cdv A outer s H vs Q E hr h => ?_)
  · obtain ⟨a, us, rfl, _⟩ := h
    rfl
  · obtain ⟨a, us, rfl, hS, q⟩ := h
    refine ⟨_, (pss_one (ps_ret (pe_callB call_isiT (by rfl) B.isinstance (by decide +kernel) (pa_cons (pv 0) (pa_cons (pe_tup (pa_cons (pe_bltn (v := .ty "list") (by rfl) B.list (by decide +kernel) rfl) (pa_cons (pe_bltn (v := .ty "tuple") (by rfl) B.tuple (by decide +kernel) rfl) pa_nil))) pa_nil))))), ?_⟩
    refine ⟨_, rfl, (by show 2 ≤ sizeLine; decide), fun p hp => ?_⟩
    rcases hS with hS | hS
    · refine ⟨_, p, _, .type "list", [.type "list", .type "tuple"], true, rfl, upd_same, .cons (ClsV.ty _) (.cons (ClsV.ty _) .nil), .base (.lst (by rw [upd_ne (ne_of_none hS hp)]; exact hS)), kitAny_cons (b := true) (kit_ty (by decide +kernel)) (fun z => by cases z) (fun _ => rfl), q _ (sameAt (Same.refl H) hp)⟩
    · have ty : TyX K (upd H p (.tup [.ty "list", .ty "tuple"])) (.ref a) (.type "tuple") := by
        rcases hS with (h | ⟨o, h⟩) | ⟨o, its, n, h1, h2, h3⟩
        · exact .base (.tup (by rw [upd_ne (ne_of_none h hp)]; exact h))
        · exact .fTuple (by rw [upd_ne (ne_of_none h hp)]; exact h)
        · exact .kTuple h1 h2
      refine ⟨_, p, _, .type "tuple", [.type "list", .type "tuple"], true, rfl, upd_same, .cons (ClsV.ty _) (.cons (ClsV.ty _) .nil), ty, kitAny_cons (b := false) (kit_ty (by decide +kernel)) (fun _ => kitAny_cons (b := true) (kit_ty (by decide +kernel)) (fun z => by cases z) (fun _ => rfl)) (fun z => by cases z), q _ (sameAt (Same.refl H) hp)⟩
structure K7 (P : Program) (w : World) (K : PySem.W.Frag) (mg : Str → Option Value) (base : Heap) (CB aT : Addr) : Prop extends K6 P w K mg base CB aT where
  walked : Cal P w K mg base CX0 "walked" 6 ["book", "things"] (spWalked K aT CB)
  is_row : Cal P w K mg base CX0 "is_row" 1 ["thing"] (spIsRow K)
theorem par_at : PySem.BadX.Par "at" := ⟨by decide, by decide +kernel, by decide +kernel, by decide +kernel, by decide +kernel⟩
theorem par_value : PySem.BadX.Par "value" := ⟨by decide, by decide +kernel, by decide +kernel, by decide +kernel, by decide +kernel⟩
abbrev s_Journal_init : Stmt := inClass (topS 30) 0
theorem sc_Journal_init : FnScope ["self", "book", "entries", "at", "known"] ["self", "book", "entries"] (defScope s_Journal_init) := ⟨rfl, rfl, rfl, by decide +kernel, rfl, by decide +kernel, by decide +kernel⟩
theorem ok_j_init {f CJ CBook CE fE aT aE : Addr} {fd : FuncData} (F : FunD K "__init__" "Journal.__init__" (defArgs s_Journal_init) (defBody s_Journal_init) (defScope s_Journal_init) [.ref aE] [] f fd) (B : Blt mg) (Cs : Cst mg) (T : Cj P K mg CJ CBook) (TB : Cb K mg CBook) (TE : PySem.BadX.Txt P K mg "at" "at" CE fE) (c_BadEntry : mg "BadEntry" = some (.ref CE))
    (bk : ∀ H b dx fs, H b = some (.ins CBook dx fs) → TyX K H (.ref b) (.ref CBook)) (G : K7 P w K mg base CBook aT) : FnOk P w K mg base (L2.CX P w) 7 f fd ["self", "book", "entries"] (spJInit K CJ CBook CE) := by
  obtain ⟨t1, g_MOST_ENTRIES⟩ := Cs.k_MOST_ENTRIES
  have c_Book := TB.c
  refine F.ok (CX := L2.CX P w) sc_Journal_init (fun vs H Q E h => ?_) (fun cdv A outer s H vs Q E hr h => ?_)
  · obtain ⟨j, dx, b, a, L, us, ths, rfl, _⟩ := h
    rfl
  · obtain ⟨j, dx, b, a, L, us, ths, rfl, hj, hB, hS, h4, hlen, hT, qg, qb⟩ := h
    have hu := hu_of hr
    refine ⟨_, (pss_cons (ps_if (pt_not (pt_val (pe_callB call_isi (by rfl) B.isinstance (by decide +kernel) (pa_cons (pv 1) (pa_cons (pe_glob (v := .ref CBook) (by rfl) c_Book rfl) pa_nil)))))
      (pss_one ps_never)
      pss_nil)
    (pss_cons (ps_if (PW.pt (pw_or (pt_not (pt_val (pe_cal G.is_row (hr.mono (by decide)) pass0 (pa_cons (pv 2) pa_nil)))) (pw_or1 (pt_cmpR op_gt (pe_callB call_len_seq (by rfl) B.len (by decide +kernel) (pa_cons (pv 2) pa_nil)) (pe_glob (v := .int 400) (by rfl) g_MOST_ENTRIES ⟨_, rfl⟩) (nomark _)))))
      (pss_one ps_never)
      pss_nil)
    (pss_cons (ps_asg (pe_cal G.walked (hr.mono (by decide)) pass0 (pa_cons (pv 1) (pa_cons (pv 2) pa_nil))) (pg_tup (by rfl) (pgs_cons (pg_name (i := 3) sc_Journal_init.nd rfl (Or.inl rfl)) (pgs_cons (pg_name (i := 4) sc_Journal_init.nd rfl (Or.inl rfl)) pgs_nil))))
    (pss_cons (ps_if (pt_cmpR op_notN (pv 3) pe_non (nomark _))
      (pss_one (ps_raiseB rfl TE par_at c_BadEntry (hr.mono (Nat.zero_le _)) (takes_of rfl rfl rfl rfl) (pa_cons (pv 3) pa_nil) (by rfl)))
      pss_nil)
    (pss_cons (ps_fld (pv 0) (pv 1) rfl)
    (pss_cons (ps_fld (pv 0) (pe_callTy call_tuple_of (by rfl) B.tuple (by decide +kernel) (pa_cons (pv 2) pa_nil)) rfl)
    (pss_one (ps_fld (pv 0) (pv 4) rfl)))))))), ?_⟩
    obtain ⟨bx, bd, L', b1, b2, b3⟩ := id hB
    refine ⟨_, rfl, _, _, _, _, true, rfl, ClsV.own _, bk _ _ _ _ b1, (by show PySem.W.kitOne K _ _ = _; unfold PySem.W.kitOne; rw [if_pos (by simp)]), _, rfl, iteF ?_⟩
    refine ⟨_, rfl, a, us, rfl, hS, fun H1 s1 => ⟨_, rfl, iteF ?_⟩⟩
    have hS1 : SqL K H1 a us ∨ SqT K H1 a us := by
      rcases hS with h | h
      · exact .inl (SqL.of (s1 _ _ h))
      · exact .inr (seqS h s1)
    refine ⟨_, rfl, a, us, rfl, hS1, _, _, rfl, rfl, _, rfl, ?_⟩
    rw [decide_eq_false (show ¬ (400 : Int) < (us.length : Int) by omega)]
    refine iteF ⟨_, rfl, _, rfl, b, a, L, us, ths, rfl, hB.same s1, hS1, by omega, hlen, fun i v o x y => (hT i v o x y).same s1, fun t kd H2 s2 ht hk => ?_⟩
    have s12 := s1.trans s2
    refine ⟨t, _, rfl, SqT.of ht, rfl, _, _, rfl, _, _, rfl, rfl, ?_⟩
    have hj2 : H2 j = some (.ins CJ dx []) := s12 _ _ hj
    cases hw : (wk L ths 0 (fun _ => none) none).1 with
    | some i =>
      refine ⟨_, rfl, rfl, _, rfl, ?_⟩
      show if (!decide (atV (some i) = V.non)) = true then _ else _
      exact iteT ⟨_, rfl, _, rfl, fun d hd => qb i d _ hw (s12.trans (sameAt (Same.refl H2) hd)) upd_same⟩
    | none =>
      refine ⟨_, rfl, rfl, _, rfl, ?_⟩
      show if (!decide (atV none = V.non)) = true then _ else _
      refine iteF ?_
      obtain ⟨xs, hxs⟩ := wk_some hw
      have hlx : us.length = xs.length := by rw [hlen, hxs, List.length_map]
      have hTx : ∀ (i : Nat) v x, us[i]? = some v → xs[i]? = some x → ThAt K H v (some x) := fun i v x a b => hT i v (some x) a (by rw [hxs, List.getElem?_map, b]; rfl)
      have fin : ∀ H', (∀ c o, H c = some o → c ≠ j → H' c = some o) → (∃ t, H' j = some (.ins CJ dx (jf b t kd)) ∧ SqT K H' t us) → Q .non H' := fun H' kk ⟨t, h1, h2⟩ => by
        refine qg H' xs hxs hw ⟨dx, t, kd, h1, hB.chg hj kk, h2, hlx, fun i v x a b => thC (hTx i v x a b) hj kk, by rw [← hxs]; exact hw⟩ kk
      refine ⟨_, rfl, _, rfl, j, CJ, dx, [], rfl, hj2, T.cl, T.nB, (by show 0 < 1000; decide), ?_⟩
      generalize eA : upd H2 j (.ins CJ dx (putF "book" (.ref b) [])) = HA
      have hA : HA j = some (.ins CJ dx (putF "book" (.ref b) [])) := by rw [← eA]; exact upd_same
      have kA : ∀ c o, H c = some o → c ≠ j → HA c = some o := fun c o h n => by rw [← eA, upd_ne n]; exact s12 _ _ h
      clear eA
      rcases hS with hS | hS
      · have haj : a ≠ j := ne_of hS hj (by intro z; cases z)
        refine ⟨_, rfl, a, us, rfl, .inl ⟨SqL.of (kA _ _ hS haj), fun l hl => ?_⟩⟩
        have hlj : l ≠ j := fun z => by rw [z, hA] at hl; cases hl
        refine ⟨_, rfl, j, CJ, dx, _, rfl, (by rw [upd_ne hlj.symm]; exact hA), T.cl, T.nE, (by show 1 < 1000; decide), ?_⟩
        refine ⟨_, rfl, _, rfl, j, CJ, dx, _, rfl, upd_same, T.cl, T.nK, (by show 2 < 1000; decide), ?_⟩
        refine fin _ (fun c o h n => ?_) ⟨l, upd_same, SqT.of (by rw [upd_ne hlj, upd_ne hlj, upd_same])⟩
        have hcl : c ≠ l := fun z => by rw [← z, kA c o h n] at hl; cases hl
        rw [upd_ne n, upd_ne n, upd_ne hcl]
        exact kA c o h n
      · refine ⟨_, rfl, a, us, rfl, .inr ⟨seqC hS hj kA, ?_⟩⟩
        refine ⟨_, rfl, j, CJ, dx, _, rfl, hA, T.cl, T.nE, (by show 1 < 1000; decide), ?_⟩
        refine ⟨_, rfl, _, rfl, j, CJ, dx, _, rfl, upd_same, T.cl, T.nK, (by show 2 < 1000; decide), ?_⟩
        have kF : ∀ c o, H c = some o → c ≠ j → (upd (upd HA j (.ins CJ dx (putF "entries" (.ref a) (putF "book" (.ref b) [])))) j (.ins CJ dx (putF "_known" (.ref kd) (putF "entries" (.ref a) (putF "book" (.ref b) []))))) c = some o := fun c o h n => by
          rw [upd_ne n, upd_ne n]
          exact kA c o h n
        exact fin _ kF ⟨a, upd_same, seqC hS hj kF⟩
structure K8 (P : Program) (w : World) (K : PySem.W.Frag) (mg : Str → Option Value) (base : Heap) (CB aT CJ CE : Addr) : Prop extends K7 P w K mg base CB aT where
  Journal : Mak P w K mg base (L2.CX P w) "Journal" CJ 7 ["self", "book", "entries"] (spJInit K CJ CB CE)
theorem wk_ge {L : List (Str × Int)} : ∀ {xs : List Ent} {i : Nat} {S : Kn} {t : Int}, (wk L (xs.map some) i S (some t)).1 = none → ∀ x ∈ xs, t ≤ x.arr
  | [], _, _, _, _, x, hx => nomatch hx
  | y :: r, i, S, t, h, x, hx => by
    have h : (wk L (some y :: r.map some) i S (some t)).1 = none := h
    by_cases c : late? (some t) y.arr = true
    · rw [wk_late c] at h
      cases h
    · have c0 : late? (some t) y.arr = false := Bool.eq_false_iff.mpr c
      have c1 : ¬ y.arr < t := fun z => c (decide_eq_true z)
      cases hb : behind L y (S y.id) with
      | none =>
        rw [wk_bad c0 hb] at h
        cases h
      | some z =>
        rw [wk_go c0 hb] at h
        rcases List.mem_cons.mp hx with rfl | hx
        · omega
        · have := wk_ge h x hx
          omega
theorem wk_cut {L : List (Str × Int)} (n : Int) : ∀ {xs : List Ent} {i : Nat} {S : Kn} {l : Option Int}, (wk L (xs.map some) i S l).1 = none →
    ∃ k, k ≤ xs.length ∧ (∀ (j : Nat) x, xs[j]? = some x → (x.arr ≤ n ↔ j < k)) ∧ (wk L ((xs.take k).map some) i S l).1 = none ∧ xs.filter (fun x => decide (x.arr ≤ n)) = xs.take k
  | [], _, _, _, _ => ⟨0, Nat.le_refl _, fun j x h => by simp at h, rfl, rfl⟩
  | y :: r, i, S, l, h => by
    have h : (wk L (some y :: r.map some) i S l).1 = none := h
    by_cases c : late? l y.arr = true
    · rw [wk_late c] at h
      cases h
    · have c0 : late? l y.arr = false := Bool.eq_false_iff.mpr c
      cases hb : behind L y (S y.id) with
      | none =>
        rw [wk_bad c0 hb] at h
        cases h
      | some z =>
        rw [wk_go c0 hb] at h
        by_cases cn : y.arr ≤ n
        · obtain ⟨k, k1, k2, k3, k4⟩ := wk_cut n h
          refine ⟨k + 1, by rw [List.length_cons]; omega, fun j x hj => ?_, ?_, ?_⟩
          · cases j with
            | zero =>
              have : y = x := Option.some.inj hj
              subst this
              exact ⟨fun _ => Nat.succ_pos _, fun _ => cn⟩
            | succ j =>
              have := k2 j x hj
              omega
          · show (wk L (some y :: (r.take k).map some) i S l).1 = none
            rw [wk_go c0 hb]
            exact k3
          · rw [List.filter_cons, if_pos (decide_eq_true cn), k4]
            rfl
        · refine ⟨0, Nat.zero_le _, fun j x hj => ?_, rfl, ?_⟩
          · have hx := List.mem_of_getElem? hj
            have : n < x.arr := by
              rcases List.mem_cons.mp hx with rfl | hx
              · omega
              · have := wk_ge h x hx
                omega
            omega
          · rw [List.filter_eq_nil_iff.mpr]
            · rfl
            · intro x hx
              rcases List.mem_cons.mp hx with rfl | hx
              · simpa using cn
              · have := wk_ge h x hx
                simp
                omega
def spThen (K : PySem.W.Frag) (CJ CB CE : Addr) : Sp := fun vs H Q E => ∃ (j b : Addr) (L : List (Str × Int)) (us : List V) (xs : List Ent) (v : V) (o : Option Ent), vs = [.ref j, v] ∧ JAt K CJ CB H j b L us xs ∧ us.length < 400 ∧ ThAt K H v o ∧
  (∀ j' H' x, o = some x → (wk L ((xs ++ [x]).map some) 0 (fun _ => none) none).1 = none → Same H H' → JAt K CJ CB H' j' b L (us ++ [v]) (xs ++ [x]) → Q (.ref j') H') ∧
  (∀ i d H', (wk L (xs.map some ++ [o]) 0 (fun _ => none) none).1 = some i → Same H H' → Xd H' d "at" (.int (i : Int)) → E (.ref CE) (some d) H')
def spHeard (K : PySem.W.Frag) (CJ CB CM : Addr) : Sp := fun vs H Q E => ∃ (j b : Addr) (L : List (Str × Int)) (us : List V) (xs : List Ent) (v : V), vs = [.ref j, v] ∧ JAt K CJ CB H j b L us xs ∧ us.length ≤ 400 ∧
  ((∃ n, v = .int n ∧ ∀ k j' H', xs.filter (fun x => decide (x.arr ≤ n)) = xs.take k → Same H H' → JAt K CJ CB H' j' b L (us.take k) (xs.take k) → Q (.ref j') H') ∨
   (NotInt K H v ∧ ∀ d H', Same H H' → Xd H' d "value" v → E (.ref CM) (some d) H'))
theorem mk_same {H H' : Hp} {x dx C : Addr} (nx : H x = none) (nd : H dx = none) (k : ∀ c o, (upd (upd H dx (.own x)) x (.ins C dx [])) c = some o → c ≠ x → H' c = some o) : Same H H' := fun c o h =>
  k c o (by rw [upd_ne (ne_of_none h nx), upd_ne (ne_of_none h nd)]; exact h) (ne_of_none h nx)
abbrev s_Journal_then : Stmt := inClass (topS 30) 5
theorem sc_Journal_then : FnScope ["self", "entry"] ["self", "entry"] (defScope s_Journal_then) := ⟨rfl, rfl, rfl, by decide +kernel, rfl, by decide +kernel, by decide +kernel⟩
theorem ok_then {f CJ CB CE aT : Addr} {fd : FuncData} (F : Fun K "then" "Journal.then" s_Journal_then f fd) (B : Blt mg) (Cs : Cst mg) (T : Cj P K mg CJ CB) (G : K8 P w K mg base CB aT CJ CE) : FnOk P w K mg base (L2.CX P w) 9 f fd ["self", "entry"] (spThen K CJ CB CE) := by
  obtain ⟨t1, g_MOST_ENTRIES⟩ := Cs.k_MOST_ENTRIES
  refine F.okX sc_Journal_then (fun vs H Q E h => ?_) (fun cdv A outer s H vs Q E hr h => ?_)
  · obtain ⟨j, b, L, us, xs, v, o, rfl, _⟩ := h
    rfl
  · obtain ⟨j, b, L, us, xs, v, o, rfl, hJ, h4, hT, qg, qb⟩ := h
    refine ⟨_, (pss_cons (ps_if (pt_cmpR op_eq (pe_callB call_len_seq (by rfl) B.len (by decide +kernel) (pa_cons (pe_fld (pv 0) rfl) pa_nil)) (pe_glob (v := .int 400) (by rfl) g_MOST_ENTRIES ⟨_, rfl⟩) (nomark _))
      (pss_one ps_never)
      pss_nil)
    (pss_one (ps_ret (pe_mak G.Journal (hr.mono (by decide)) (passE (takes_of rfl rfl rfl rfl)) (pa_cons (pe_fld (pv 0) rfl) (pa_cons (pe_lst (StX.pa_star (pe_fld (pv 0) rfl) (pa_cons (pv 1) pa_nil))) pa_nil)))))), ?_⟩
    obtain ⟨dx, t, kd, h1, h2, h3, hl, h5, h6⟩ := id hJ
    refine ⟨_, rfl, j, CJ, dx, _, _, rfl, h1, T.cl, T.nE, jf_e _ _ _, t, us, rfl, .inr h3, rfl, _, rfl, ?_⟩
    rw [decide_eq_false (show ¬ (V.int (us.length : Int) = V.int 400) from fun z => by have := V.int.inj z; omega)]
    refine iteF ⟨_, rfl, j, CJ, dx, _, _, rfl, h1, T.cl, T.nB, jf_b _ _ _, _, rfl, j, CJ, dx, _, _, rfl, h1, T.cl, T.nE, jf_e _ _ _, t, us, rfl, .inl h3, _, rfl, (by rw [List.length_append]; exact Nat.le_of_lt (small1000 (by show us.length + 1 ≤ 1000; omega))), fun a ha => ?_⟩
    intro x dx' nx ndx nex
    have sA : Same H (upd H a (.lst (us ++ [v]))) := sameAt (Same.refl H) ha
    have sX : Same H (upd (upd (upd H a (.lst (us ++ [v]))) dx' (.own x)) x (.ins CJ dx' [])) := (sA.trans (sameAt (Same.refl _) ndx)).trans (sameAt (Same.refl _) (by rw [upd_ne (Ne.symm nex)]; exact nx))
    have haX : (upd (upd (upd H a (.lst (us ++ [v]))) dx' (.own x)) x (.ins CJ dx' [])) a = some (.lst (us ++ [v])) := by
      rw [upd_ne (fun z => by rw [← z, upd_same] at nx; cases nx), upd_ne (fun z => by rw [← z, upd_same] at ndx; cases ndx), upd_same]
    refine ⟨x, dx', b, a, L, us ++ [v], xs.map some ++ [o], rfl, upd_same, h2.same sX, .inl haX, by rw [List.length_append]; show us.length + 1 ≤ 400; omega, by rw [List.length_append, List.length_append, List.length_map, hl]; rfl, fun i v' o' hi ho => ?_, fun H' ys hys hw hJ' kk => ⟨rfl, ?_⟩, fun i d H' hw s hx => ?_⟩
    · by_cases hil : i < us.length
      · rw [List.getElem?_append_left hil] at hi
        rw [List.getElem?_append_left (by rw [List.length_map, ← hl]; exact hil), List.getElem?_map] at ho
        cases e : xs[i]? with
        | none => rw [e] at ho; cases ho
        | some y =>
          rw [e] at ho
          cases ho
          exact (h5 i v' y hi e).same sX
      · have hi' : i = us.length := by
          have := (List.getElem?_eq_some_iff.mp hi).1
          rw [List.length_append] at this
          have : i < us.length + 1 := this
          omega
        subst hi'
        rw [List.getElem?_append_right (Nat.le_refl _), Nat.sub_self] at hi
        rw [hl, List.getElem?_append_right (by rw [List.length_map]; exact Nat.le_refl _), List.length_map, Nat.sub_self] at ho
        cases hi
        cases ho
        exact hT.same sX
    · obtain ⟨y, rfl⟩ : ∃ y, o = some y := by
        cases o with
        | none =>
          have hm : (none : Option Ent) ∈ ys.map some := by rw [← hys]; simp
          obtain ⟨y, _, e⟩ := List.mem_map.mp hm
          cases e
        | some y => exact ⟨y, rfl⟩
      have e : ys = xs ++ [y] := by
        have e2 : (xs ++ [y]).map some = ys.map some := by rw [← hys, List.map_append]; rfl
        exact (List.map_inj_right (fun a b h => Option.some.inj h)).mp e2.symm
      subst e
      refine qg x H' y rfl (by rw [← hys]; exact hw) ?_ hJ'
      exact sA.trans (mk_same nx ndx kk)
    · exact qb i d H' hw (sX.trans s) hx
end
end Ash

set_option Elab.async false
set_option linter.all false
set_option maxRecDepth 100000
set_option maxHeartbeats 4000000
namespace Ash
open PySem PySem.Spec PyProof.Rows L2
open C8 (pss_cut)
section
variable {P : Program} {w : World} {K : PySem.W.Frag} {mg : Str → Option Value} {base : Heap}
abbrev s_Journal_heard : Stmt := inClass (topS 30) 6
theorem sc_Journal_heard : FnScope ["self", "h", "entry"] ["self", "h"] (defScope s_Journal_heard) := ⟨rfl, rfl, rfl, by decide +kernel, rfl, by decide +kernel, by decide +kernel⟩
theorem ok_heard {f CJ CB CE CM fM aT : Addr} {fd : FuncData} (F : Fun K "heard" "Journal.heard" s_Journal_heard f fd) (B : Blt mg) (T : Cj P K mg CJ CB) (TM : PySem.BadX.Txt P K mg "value" "value" CM fM) (c_BadMoment : mg "BadMoment" = some (.ref CM)) (G : K8 P w K mg base CB aT CJ CE) : FnOk P w K mg base (L2.CX P w) 9 f fd ["self", "h"] (spHeard K CJ CB CM) := by
  refine F.okX sc_Journal_heard (fun vs H Q E h => ?_) (fun cdv A outer s H vs Q E hr h => ?_)
  · obtain ⟨j, b, L, us, xs, v, rfl, _⟩ := h
    rfl
  · obtain ⟨j, b, L, us, xs, v, rfl, hJ, h4, hv⟩ := h
    refine ⟨_, (pss_cons (ps_if (pt_not (pt_val (pe_cal G.is_integer (hr.mono (by decide)) pass0 (pa_cons (pv 1) pa_nil))))
      (pss_one (ps_raiseB rfl TM par_value c_BadMoment (hr.mono (Nat.zero_le _)) (takes_of rfl rfl rfl rfl) (pa_cons (pv 1) pa_nil) (by rfl)))
      pss_nil)
    (pss_one (ps_ret (pe_mak G.Journal (hr.mono (by decide)) (passE (takes_of rfl rfl rfl rfl)) (pa_cons (pe_fld (pv 0) rfl) (pa_cons (pe_lc (own := [("entry", 2)]) (g := gName 2) (by rfl) sc_Journal_heard.nd (pi_tup (pe_fld (pv 0) rfl)) (blkOk_by (own := [("entry", 2)]) (N := ["self", "h", "entry"]) (sc := defScope s_Journal_heard) (by decide +kernel)) (fun _ _ _ _ _ => (pg_name (i := 2) sc_Journal_heard.nd rfl (Or.inl rfl))) (fun _ _ _ _ _ => pts_one (pt_cmpR op_le (pe_cal G.arrival_of (hr.mono (by decide)) pass0 (pa_cons (pv 2) pa_nil)) (pv 1) (nomark _))) (fun _ _ _ _ _ => (pv 2))) pa_nil)))))), ?_⟩
    obtain ⟨dx, t, kd, h1, h2, h3, hl, h5, h6⟩ := id hJ
    rcases hv with ⟨n, rfl, q⟩ | ⟨ni, q⟩
    · refine ⟨_, rfl, _, rfl, .inl ⟨n, rfl, _, rfl, iteF ?_⟩⟩
      obtain ⟨k, k1, k2, k3, k4⟩ := wk_cut n h6
      refine ⟨_, rfl, j, CJ, dx, _, _, rfl, h1, T.cl, T.nB, jf_b _ _ _, _, rfl, j, CJ, dx, _, _, rfl, h1, T.cl, T.nE, jf_e _ _ _, t, rfl, ⟨_, h3⟩, fun D hD => lc_it (walk_tup (xs := us)) (fun i H1 => H1 D = some (.lst (us.take (min i k))) ∧ Same H H1) ⟨by rw [Nat.zero_min]; exact upd_same, sameAt (Same.refl H) hD⟩ (fun i H1 _ hv => seqS h3 hv.2) ?_ ?_⟩
      · rintro i v H1 H2 hi ⟨hD1, s1⟩ ⟨rfl, hvi⟩
        have hix : i < xs.length := by rw [← hl]; exact hi
        obtain ⟨x, hx⟩ : ∃ x, xs[i]? = some x := ⟨_, List.getElem?_eq_getElem hix⟩
        obtain ⟨e, rfl, he, hok⟩ := h5 i v x hvi hx
        refine ⟨rfl, _, rfl, e, x, rfl, s1 _ _ he, _, rfl, _, _, rfl, rfl, _, rfl, ?_⟩
        refine ite2 (fun c => ?_) (fun c => ?_)
        · have c : x.arr ≤ n := of_decide_eq_true c
          have ik := (k2 i x hx).mp c
          refine ⟨_, rfl, _, hD1, (by rw [List.length_take]; exact small1000 (by omega)), ?_, sameAt s1 hD⟩
          rw [upd_same, Nat.min_eq_left (Nat.le_of_lt ik), Nat.min_eq_left (by omega), list_take hvi]
        · have c : ¬ x.arr ≤ n := fun z => c (decide_eq_true z)
          have ik : k ≤ i := Nat.le_of_not_lt fun z => c ((k2 i x hx).mpr z)
          refine ⟨?_, s1⟩
          rw [hD1, Nat.min_eq_right ik, Nat.min_eq_right (by omega)]
      · rintro H1 ⟨hD1, s1⟩
        rw [Nat.min_eq_right (by omega)] at hD1
        intro x dx' nx ndx nex
        have sX : Same H1 (upd (upd H1 dx' (.own x)) x (.ins CJ dx' [])) := (sameAt (Same.refl _) ndx).trans (sameAt (Same.refl _) (by rw [upd_ne (Ne.symm nex)]; exact nx))
        refine ⟨x, dx', b, D, L, us.take k, (xs.take k).map some, rfl, upd_same, h2.same (s1.trans sX), .inl (sX _ _ hD1), by rw [List.length_take]; omega, by rw [List.length_take, List.length_map, List.length_take, hl], fun i v' o' hi ho => ?_, fun H' ys hys hw hJ' kk => ⟨rfl, ?_⟩, fun i d H' hw s hx => ?_⟩
        · have hik : i < k := by
            have := (List.getElem?_eq_some_iff.mp hi).1
            rw [List.length_take] at this
            omega
          rw [List.getElem?_take_of_lt hik] at hi
          rw [List.getElem?_map, List.getElem?_take_of_lt hik] at ho
          cases e : xs[i]? with
          | none => rw [e] at ho; cases ho
          | some y =>
            rw [e] at ho
            cases ho
            exact (h5 i v' y hi e).same (s1.trans sX)
        · have e : ys = xs.take k := (List.map_inj_right (fun a b h => Option.some.inj h)).mp hys.symm
          subst e
          exact q k x H' k4 (s1.trans (mk_same nx ndx kk)) hJ'
        · rw [k3] at hw
          cases hw
    · refine ⟨_, rfl, _, rfl, .inr ⟨ni, _, rfl, iteT ?_⟩⟩
      exact ⟨_, rfl, _, rfl, fun d hd => q d _ (sameAt (Same.refl H) hd) upd_same⟩
end
end Ash

set_option Elab.async false
set_option linter.all false
set_option maxRecDepth 100000
set_option maxHeartbeats 4000000
namespace Ash
open PySem PySem.Spec PyProof.Rows L2
/-! ### equality by identity, item by item -/
def SameV (x y : V) : Prop := (flatV x = true ∧ flatV y = true ∧ eqV x y = true) ∨ (x = y ∧ ∃ a, x = .ref a)
def SeqS (K : PySem.W.Frag) (H : Hp) (x y : V) : Prop := ∃ a b xs ys, x = .ref a ∧ y = .ref b ∧ SqT K H a xs ∧ SqT K H b ys ∧ xs.length = ys.length ∧ ∀ (i : Nat) u v, xs[i]? = some u → ys[i]? = some v → SameV u v
section
variable {X : Cx}
theorem same_at {A : Around} {s : Shared} {x y : V} {u v : Value} (h : SameV x y) (rx : RelV x u) (ry : RelV y v) : SeqAt.EqAt A s u v true := by
  rcases h with ⟨fx, fy, e⟩ | ⟨rfl, a, rfl⟩
  · have q := eqAt_V (A := A) (s := s) rx ry fx fy
    rw [e] at q
    exact q
  · cases (show u = Value.ref a from rx)
    cases (show v = Value.ref a from ry)
    exact SeqAt.EqAt.same _
theorem op_neS (hu : X.A.units < cLine) : OpR X (compareOp .NotEq) (fun x y H Q => SeqS X.K H x y ∧ Q (.bl false) H) := by
  intro pins s σ H x y v u Q I rx ry ⟨h, q⟩
  obtain ⟨a, b, xs, ys, rfl, rfl, ha, hb, hl, hi⟩ := h
  cases (show v = Value.ref a from rx)
  cases (show u = Value.ref b from ry)
  obtain ⟨i1, r1, t1, z1⟩ := I.tuple ha
  obtain ⟨i2, r2, t2, z2⟩ := I.tuple hb
  have l1 := r1.length
  have l2 := r2.length
  have e : (!((List.range (min i1.toArray.size i2.toArray.size)).all (fun _ => true) && i1.toArray.size == i2.toArray.size)) = false := by
    have : i1.toArray.size = i2.toArray.size := by simp; omega
    simp [this]
  have key := SeqAt.RcNeAt.tuples (A := X.A) (s := s) (e := fun _ => true) (show s.heap.IsTuple a i1.toArray from t1) (show s.heap.IsTuple b i2.toArray from t2) hu fun j h1 h2 => by
    have h1' : j < i1.length := by simpa using h1
    have h2' : j < i2.length := by simpa using h2
    have x1 : xs[j]? = some xs[j] := List.getElem?_eq_getElem (by omega)
    have y1 : ys[j]? = some ys[j] := List.getElem?_eq_getElem (by omega)
    obtain ⟨u1, e1, q1⟩ := r1.get x1
    obtain ⟨u2, e2, q2⟩ := r2.get y1
    have e1' : i1.toArray[j] = u1 := by
      rw [List.getElem?_eq_getElem h1'] at e1
      simpa using Option.some.inj e1
    have e2' : i2.toArray[j] = u2 := by
      rw [List.getElem?_eq_getElem h2'] at e2
      simpa using Option.some.inj e2
    rw [e1', e2']
    exact same_at (hi j _ _ x1 y1) q1 q2
  rw [e] at key
  exact key X.prog X.w X.xe _ ⟨.bl false, H, I, rfl, q⟩
end
/-! ### entries as data -/
def Ent.data : Ent → PyData
  | .row id s k m a r => .tuple [.str "row", .int id, .str s, .str k, .int m, .int a, .int r]
  | .fix id m a r => .tuple [.str "fix", .int id, .int m, .int a, .int r]
  | .gone id r => .tuple [.str "gone", .int id, .int r]
theorem ent_dp {K : PySem.W.Frag} {H : Hp} {e : Addr} {x : Ent} (h : EntAt H e x) : Dp K H (.ref e) x.data := by
  cases x with
  | row id s k m a r => exact .tup (SqT.of h) (.cons (.str _) (.cons (.int _) (.cons (.str _) (.cons (.str _) (.cons (.int _) (.cons (.int _) (.cons (.int _) .nil)))))))
  | fix id m a r => exact .tup (SqT.of h) (.cons (.str _) (.cons (.int _) (.cons (.int _) (.cons (.int _) (.cons (.int _) .nil)))))
  | gone id r => exact .tup (SqT.of h) (.cons (.str _) (.cons (.int _) (.cons (.int _) .nil)))
theorem ent_lay {x : Ent} (h : x.ok) : x.data.canLay0 = true ∧ x.data.depth ≤ 2 := by
  have key : ∀ ds : List PyData, ds.all flatD = true → (PyData.tuple ds).canLay0 = true ∧ (PyData.tuple ds).depth ≤ 2 := fun ds hd => by
    obtain ⟨h1, h2⟩ := flat_lay hd
    simp [PyData.canLay0, PyData.depth, h1]
    omega
  cases x with
  | row id s k m a r =>
    obtain ⟨h1, h2⟩ := h.2 _ _ _ _ _ _ rfl
    have hr : PyData.strOk "row" = true := by decide +kernel
    exact key _ (by simp [flatD, nm_ok h1, nm_ok h2, hr])
  | fix id m a r =>
    have hr : PyData.strOk "fix" = true := by decide +kernel
    exact key _ (by simp [flatD, hr])
  | gone id r =>
    have hr : PyData.strOk "gone" = true := by decide +kernel
    exact key _ (by simp [flatD, hr])
theorem ents_lay : ∀ {xs : List Ent}, (∀ x ∈ xs, x.ok) → PyData.canLayAll0 (xs.map Ent.data) = true ∧ PyData.depthAll (xs.map Ent.data) ≤ 2
  | [], _ => by simp [PyData.canLayAll0, PyData.depthAll]
  | x :: xs, h => by
    obtain ⟨h1, h2⟩ := ents_lay fun y hy => h y (List.mem_cons_of_mem _ hy)
    obtain ⟨h3, h4⟩ := ent_lay (h x List.mem_cons_self)
    rw [List.map_cons]
    simp only [PyData.canLayAll0, PyData.depthAll, h1, h3, Bool.and_self, true_and]
    exact Nat.max_le.mpr ⟨h4, h2⟩
/-- us are the entries xs -/
def Ents (H : Hp) (us : List V) (xs : List Ent) : Prop := us.length = xs.length ∧ ∀ (i : Nat) v x, us[i]? = some v → xs[i]? = some x → ∃ e, v = .ref e ∧ EntAt H e x ∧ x.ok
theorem Ents.same {H H' : Hp} {us : List V} {xs : List Ent} (h : Ents H us xs) (s : Same H H') : Ents H' us xs := ⟨h.1, fun i v x a b => by
  obtain ⟨e, h1, h2, h3⟩ := h.2 i v x a b
  exact ⟨e, h1, s _ _ h2, h3⟩⟩
theorem Ents.dp {K : PySem.W.Frag} {H : Hp} : ∀ {us : List V} {xs : List Ent}, Ents H us xs → DpAll K H us (xs.map Ent.data)
  | [], [], _ => .nil
  | [], _ :: _, h => by have := h.1; simp at this
  | _ :: _, [], h => by have := h.1; simp at this
  | v :: us, x :: xs, h => by
    obtain ⟨e, rfl, h2, _⟩ := h.2 0 v x rfl rfl
    exact .cons (ent_dp h2) (Ents.dp ⟨by have := h.1; simpa using this, fun i v x a b => h.2 (i + 1) v x a b⟩)
theorem Ents.ok {H : Hp} {us : List V} {xs : List Ent} (h : Ents H us xs) : ∀ x ∈ xs, x.ok := fun x hx => by
  obtain ⟨i, hi, e⟩ := List.getElem_of_mem hx
  have hu : i < us.length := by rw [h.1]; exact hi
  obtain ⟨_, _, _, h3⟩ := h.2 i us[i] x (List.getElem?_eq_getElem hu) (by rw [List.getElem?_eq_getElem hi, e])
  exact h3
theorem told_shaped {xs : List Ent} {w : Str} (hw : PyData.strOk w = true) (h : ∀ x ∈ xs, x.ok) : SeqAt.shaped (.tuple [.str w, .list (xs.map Ent.data)]) = true := by
  obtain ⟨h1, h2⟩ := ents_lay h
  unfold SeqAt.shaped
  simp [PyData.canLay0, PyData.canLayAll0, PyData.depth, PyData.depthAll, h1, hw]
  omega
theorem list_shaped {xs : List Ent} (h : ∀ x ∈ xs, x.ok) : SeqAt.shaped (.list (xs.map Ent.data)) = true := by
  obtain ⟨h1, h2⟩ := ents_lay h
  unfold SeqAt.shaped
  simp [PyData.canLay0, PyData.depth, h1]
  omega
end Ash

set_option Elab.async false
set_option linter.all false
set_option maxRecDepth 100000
set_option maxHeartbeats 4000000
namespace Ash
open PySem PySem.Spec PyProof.Rows L2
open C8 (pss_cut)
/-! ### the law's own draws -/
def spInt : Sp := fun vs H Q _ => ∃ (p s : Addr), vs = [.ref p] ∧ PoolAt H p s ∧ ∀ (n : Int) H', Pl H H' p s → Q (.int n) H'
def SV (H : Hp) : Option V → Option RowSt → Prop
  | none, none => True
  | some v, some .tb => v = .non
  | some v, some (.at_ s k m a) => ∃ t, v = .ref t ∧ H t = some (.tup [.str s, .str k, .int m, .int a])
  | _, _ => False
theorem SV.but {H H' : Hp} {v : Option V} {o : Option RowSt} (h : SV H v o) (s : ∀ t xs, H t = some (.tup xs) → H' t = some (.tup xs)) : SV H' v o := by
  cases v with
  | none => cases o <;> exact h
  | some v =>
    cases o with
    | none => exact h
    | some o =>
      cases o with
      | tb => exact h
      | at_ z k m a =>
        obtain ⟨t, e, h⟩ := h
        exact ⟨t, e, s _ _ h⟩
/-- the law's states: a dict from ids to None or what is known -/
def StAt (H : Hp) (d : Addr) (S : Kn) (n : Nat) : Prop := ∃ kvs : List (Key × V), H d = some (.dK kvs) ∧ kvs.length ≤ n ∧ (∀ kv ∈ kvs, ∃ id, kv.1 = Sum.inl id) ∧ ∀ id, SV H (valV kvs (Sum.inl id)) (S id)
theorem StAt.same {H H' : Hp} {d : Addr} {S : Kn} {n : Nat} (h : StAt H d S n) (s : Same H H') : StAt H' d S n := by
  obtain ⟨kvs, h1, h2, h3, h4⟩ := h
  exact ⟨kvs, s _ _ h1, h2, h3, fun id => (h4 id).but fun t xs e => s _ _ e⟩
theorem StAt.pl {H H' : Hp} {d p s : Addr} {S : Kn} {n : Nat} (h : StAt H d S n) (P0 : PoolAt H p s) (P : Pl H H' p s) : StAt H' d S n := by
  obtain ⟨kvs, h1, h2, h3, h4⟩ := h
  obtain ⟨ns, i, c, k, m, hp, _⟩ := P0
  exact ⟨kvs, P.keep h1 (ne_of h1 hp (by intro z; cases z)), h2, h3, fun id => (h4 id).but fun t xs e => P.keep e (ne_of e hp (by intro z; cases z))⟩
theorem Pl.dk {H H' : Hp} {p s d : Addr} {kvs : List (Key × V)} (P : Pl H H' p s) (P0 : PoolAt H p s) (h : H d = some (.dK kvs)) : H' d = some (.dK kvs) := by
  obtain ⟨ns, i, c, k, m, hp, _⟩ := P0
  exact P.keep h (ne_of h hp (by intro z; cases z))
theorem Pl.tp {H H' : Hp} {p s d : Addr} {xs : List V} (P : Pl H H' p s) (P0 : PoolAt H p s) (h : H d = some (.tup xs)) : H' d = some (.tup xs) := by
  obtain ⟨ns, i, c, k, m, hp, _⟩ := P0
  exact P.keep h (ne_of h hp (by intro z; cases z))
theorem strs_ne {ns : List Int} {r : Addr} {a b c d : Int} {ks : List Str} : (HO.lst (ks.map V.str)) ≠ .lst [.ref r, .int a, .int b, .int c, .int d] := fun z => by
  injection z with z
  cases ks with
  | nil => cases z
  | cons k ks => injection z with z1 _; cases z1
theorem Pl.sl {H H' : Hp} {p s d : Addr} {ks : List Str} (P : Pl H H' p s) (P0 : PoolAt H p s) (h : H d = some (.lst (ks.map V.str))) : H' d = some (.lst (ks.map V.str)) := by
  obtain ⟨ns, i, c, k, m, hp, _⟩ := P0
  exact P.keep h (ne_of h hp (strs_ne (ns := ns)))
theorem mem_val {kvs : List (Key × V)} {kv : Key × V} (h : kv ∈ kvs) : ∃ v, valV kvs kv.1 = some v := by
  have q : (kvs.any fun x => decide (x.1 = kv.1)) = true := List.any_eq_true.mpr ⟨kv, h, decide_eq_true rfl⟩
  rw [valV_any] at q
  exact Option.isSome_iff_exists.mp q
/-- what the entry is drawn from -/
structure Draw (H : Hp) (p s dl dk ds : Addr) (L : List (Str × Int)) (ks : List Str) (S : Kn) : Prop where
  pool : PoolAt H p s
  dl : H dl = some (.dK (LK L))
  LL : Lates L
  dk : H dk = some (.lst (ks.map V.str))
  k1 : 1 ≤ ks.length
  k2 : ks.length ≤ 30
  kn : ∀ z ∈ ks, IsNm z
  st : StAt H ds S 500
  ok : KnOk L S
  pos : ∀ id, S id ≠ none → 0 ≤ id
def spEntry : Sp := fun vs H Q _ => ∃ (p s dl dk ds : Addr) (L : List (Str × Int)) (ks : List Str) (S : Kn) (number arrival : Int), vs = [.ref p, .ref dl, .ref dk, .ref ds, .int number, .int arrival] ∧ Draw H p s dl dk ds L ks S ∧ 0 ≤ number ∧ S number = none ∧
  ∀ e x y H', EntAt H' e x → x.ok → x.arr = arrival → behind L x (S x.id) = some y → (x.id = number ∨ S x.id ≠ none) → Pl H H' p s → Q (.ref e) H'
section
variable {P : Program} {w : World} {K : PySem.W.Frag} {mg : Str → Option Value} {base : Heap}
abbrev s_l_amount : Stmt := topS 36
theorem sc_l_amount : FnScope ["pool"] ["pool"] (defScope s_l_amount) := ⟨rfl, rfl, rfl, by decide +kernel, rfl, by decide +kernel, by decide +kernel⟩
theorem ok_amount {f : Addr} {fd : FuncData} (F : Fun K "_law_amount" "_law_amount" s_l_amount f fd) (B : Blt mg) (G : G2 P w K mg base) : FnOk P w K mg base CX0 2 f fd ["pool"] spInt := by
  refine F.ok sc_l_amount (fun vs H Q E h => ?_) (fun cdv A outer s H vs Q E hr h => ?_)
  · obtain ⟨p, s, rfl, _⟩ := h
    rfl
  · obtain ⟨p, s0, rfl, hP, q⟩ := h
    refine ⟨_, (pss_cons (ps_if (pt_cmpR op_eq (pe_cal G.law_draw (hr.mono (by decide)) pass0 (pa_cons (pv 0) (pa_cons pe_int pa_nil))) pe_int (nomark _))
      (pss_one (ps_ret (pe_op op_sub (pe_cal G.law_draw (hr.mono (by decide)) pass0 (pa_cons (pv 0) (pa_cons (pe_op op_mul pe_int (pe_op op_pow pe_int pe_int)) pa_nil))) (pe_op op_pow pe_int pe_int))))
      pss_nil)
    (pss_one (ps_ret (pe_op op_sub (pe_cal G.law_draw (hr.mono (by decide)) pass0 (pa_cons (pv 0) (pa_cons pe_int pa_nil))) pe_int)))), ?_⟩
    refine ⟨_, rfl, p, s0, 6, rfl, hP, (by decide), (by decide), fun x H1 x0 x6 P1 => ⟨rfl, _, rfl, ?_⟩⟩
    refine ite2 (fun c => ?_) (fun c => ?_)
    · exact ⟨_, rfl, _, _, rfl, rfl, ⟨by decide, by decide, by decide⟩, _, _, rfl, rfl, .inl ⟨by decide, by decide⟩, p, s0, _, rfl, P1.now, (by decide), (by decide), fun y H2 y0 y6 P2 => ⟨_, _, rfl, rfl, ⟨by decide, by decide, by decide⟩, _, _, rfl, rfl, q _ H2 (P1.trans P2)⟩⟩
    · exact ⟨_, rfl, p, s0, 21, rfl, P1.now, (by decide), (by decide), fun y H2 y0 y6 P2 => ⟨_, _, rfl, rfl, q _ H2 (P1.trans P2)⟩⟩
abbrev s_l_begin : Stmt := topS 40
theorem sc_l_begin : FnScope ["pool"] ["pool"] (defScope s_l_begin) := ⟨rfl, rfl, rfl, by decide +kernel, rfl, by decide +kernel, by decide +kernel⟩
theorem ok_begin {f : Addr} {fd : FuncData} (F : Fun K "_law_begin" "_law_begin" s_l_begin f fd) (B : Blt mg) (G : G2 P w K mg base) : FnOk P w K mg base CX0 2 f fd ["pool"] spInt := by
  refine F.ok sc_l_begin (fun vs H Q E h => ?_) (fun cdv A outer s H vs Q E hr h => ?_)
  · obtain ⟨p, s, rfl, _⟩ := h
    rfl
  · obtain ⟨p, s0, rfl, hP, q⟩ := h
    refine ⟨_, (pss_cons (ps_if (pt_cmpR op_eq (pe_cal G.law_draw (hr.mono (by decide)) pass0 (pa_cons (pv 0) (pa_cons pe_int pa_nil))) pe_int (nomark _))
      (pss_one (ps_ret (pe_op op_sub (pe_cal G.law_draw (hr.mono (by decide)) pass0 (pa_cons (pv 0) (pa_cons (pe_op op_mul pe_int (pe_op op_pow pe_int pe_int)) pa_nil))) (pe_op op_pow pe_int pe_int))))
      pss_nil)
    (pss_one (ps_ret (pe_op op_sub (pe_cal G.law_draw (hr.mono (by decide)) pass0 (pa_cons (pv 0) (pa_cons pe_int pa_nil))) pe_int)))), ?_⟩
    refine ⟨_, rfl, p, s0, 3, rfl, hP, (by decide), (by decide), fun x H1 x0 x6 P1 => ⟨rfl, _, rfl, ?_⟩⟩
    refine ite2 (fun c => ?_) (fun c => ?_)
    · exact ⟨_, rfl, _, _, rfl, rfl, ⟨by decide, by decide, by decide⟩, _, _, rfl, rfl, .inl ⟨by decide, by decide⟩, p, s0, _, rfl, P1.now, (by decide), (by decide), fun y H2 y0 y6 P2 => ⟨_, _, rfl, rfl, ⟨by decide, by decide, by decide⟩, _, _, rfl, rfl, q _ H2 (P1.trans P2)⟩⟩
    · exact ⟨_, rfl, p, s0, 21, rfl, P1.now, (by decide), (by decide), fun y H2 y0 y6 P2 => ⟨_, _, rfl, rfl, q _ H2 (P1.trans P2)⟩⟩
structure G3 (P : Program) (w : World) (K : PySem.W.Frag) (mg : Str → Option Value) (base : Heap) : Prop extends G2 P w K mg base where
  law_lates : Cal P w K mg base CX0 "_law_lates" 3 ["pool"] spLates
  law_amount : Cal P w K mg base CX0 "_law_amount" 2 ["pool"] spInt
  law_begin : Cal P w K mg base CX0 "_law_begin" 2 ["pool"] spInt
abbrev s_l_entry : Stmt := topS 37
theorem sc_l_entry : FnScope ["pool", "lates", "keys", "states", "number", "arrival", "open_ones", "other", "kind", "stream", "moment"] ["pool", "lates", "keys", "states", "number", "arrival"] (defScope s_l_entry) := ⟨rfl, rfl, rfl, by decide +kernel, rfl, by decide +kernel, by decide +kernel⟩
theorem ok_entry {f : Addr} {fd : FuncData} (F : Fun K "_law_entry" "_law_entry" s_l_entry f fd) (B : Blt mg) (G : G3 P w K mg base) : FnOk P w K mg base CX0 3 f fd ["pool", "lates", "keys", "states", "number", "arrival"] spEntry := by
  refine F.ok sc_l_entry (fun vs H Q E h => ?_) (fun cdv A outer s H vs Q E hr h => ?_)
  · obtain ⟨p, s, dl, dk, ds, L, ks, S, number, arrival, rfl, _⟩ := h
    rfl
  · obtain ⟨p, s0, dl, dk, ds, L, ks, S, number, arrival, rfl, D, hn, hSn, q⟩ := h
    have hu := hu_of hr
    refine ⟨_, (pss_cons (ps_set (i := 6) sc_l_entry.nd rfl (Or.inl rfl) (pe_lst pa_nil))
    (pss_cut (ps_for PassesOwn.never rfl (pi_list (pe_callTy (call_listD (by rfl)) (by rfl) B.list (by decide +kernel) (pa_cons (pv 3) pa_nil))) (pg_name (i := 7) sc_l_entry.nd rfl (Or.inl rfl))
      (pss_one (ps_if (PW.pt (pw_and (pt_cmpR op_notN (pe_dget hu (pv 3) (pv 7) (fun _ _ => rfl)) pe_non (nomark _)) (pw_and1 (pt_cmpR op_le (pv 5) (pe_op op_add (pe_ix ix_tup (pe_dget hu (pv 3) (pv 7) (fun _ _ => rfl)) pe_int (fun _ _ => rfl)) (pe_dget hu (pv 1) (pe_ix ix_tup (pe_dget hu (pv 3) (pv 7) (fun _ _ => rfl)) pe_int (fun _ _ => rfl)) (fun _ _ => rfl))) (nomark _)))))
        (pss_one (ps_expr (pe_bm PySem.F.plainAttrs_list PySem.F.slot_list_append PySem.F.type_list_append mt_append (pv 6) (pa_cons (pv 7) pa_nil))))
        pss_nil)))
    (pss_cons (ps_set (i := 8) sc_l_entry.nd rfl (Or.inl rfl) (pe_cal G.law_draw (hr.mono (by decide)) pass0 (pa_cons (pv 0) (pa_cons pe_int pa_nil))))
    (pss_cons (ps_if (PW.pt (pw_or (pt_cmpR op_lt (pv 8) pe_int (nomark _)) (pw_or1 (pt_cmpR op_eq (pe_callB call_len_seq (by rfl) B.len (by decide +kernel) (pa_cons (pv 6) pa_nil)) pe_int (nomark _)))))
      (pss_cons (ps_set (i := 9) sc_l_entry.nd rfl (Or.inl rfl) (pe_ix ix_list (pe_callTy (call_listD (by rfl)) (by rfl) B.list (by decide +kernel) (pa_cons (pv 1) pa_nil)) (pe_cal G.law_draw (hr.mono (by decide)) pass0 (pa_cons (pv 0) (pa_cons (pe_callB call_lenD (by rfl) B.len (by decide +kernel) (pa_cons (pv 1) pa_nil)) pa_nil))) (fun _ _ => rfl)))
      (pss_cons (ps_set (i := 10) sc_l_entry.nd rfl (Or.inl rfl) (pe_op op_sub (pv 5) (pe_cal G.law_draw (hr.mono (by decide)) pass0 (pa_cons (pv 0) (pa_cons (pe_op op_add (pe_dget hu (pv 1) (pv 9) (fun _ _ => rfl)) pe_int) pa_nil)))))
      (pss_one (ps_ret (pe_tup (pa_cons pe_str (pa_cons (pv 4) (pa_cons (pv 9) (pa_cons (pe_ix ix_list (pv 2) (pe_cal G.law_draw (hr.mono (by decide)) pass0 (pa_cons (pv 0) (pa_cons (pe_callB call_len_seq (by rfl) B.len (by decide +kernel) (pa_cons (pv 2) pa_nil)) pa_nil))) (fun _ _ => rfl)) (pa_cons (pv 10) (pa_cons (pe_cal G.law_amount (hr.mono (by decide)) pass0 (pa_cons (pv 0) pa_nil)) (pa_cons (pv 5) pa_nil))))))))))))
      pss_nil)
    (pss_cons (ps_set (i := 7) sc_l_entry.nd rfl (Or.inl rfl) (pe_ix ix_list (pv 6) (pe_cal G.law_draw (hr.mono (by decide)) pass0 (pa_cons (pv 0) (pa_cons (pe_callB call_len_seq (by rfl) B.len (by decide +kernel) (pa_cons (pv 6) pa_nil)) pa_nil))) (fun _ _ => rfl)))
    (pss_cons (ps_if (pt_cmpR op_eq (pv 8) pe_int (nomark _))
      (pss_cons (ps_set (i := 10) sc_l_entry.nd rfl (Or.inl rfl) (pe_op op_sub (pv 5) (pe_cal G.law_draw (hr.mono (by decide)) pass0 (pa_cons (pv 0) (pa_cons (pe_op op_add (pe_dget hu (pv 1) (pe_ix ix_tup (pe_dget hu (pv 3) (pv 7) (fun _ _ => rfl)) pe_int (fun _ _ => rfl)) (fun _ _ => rfl)) pe_int) pa_nil)))))
      (pss_one (ps_ret (pe_tup (pa_cons pe_str (pa_cons (pv 7) (pa_cons (pv 10) (pa_cons (pe_cal G.law_amount (hr.mono (by decide)) pass0 (pa_cons (pv 0) pa_nil)) (pa_cons (pv 5) pa_nil)))))))))
      pss_nil)
    (pss_one (ps_ret (pe_tup (pa_cons pe_str (pa_cons (pv 7) (pa_cons (pv 5) pa_nil)))))))))))), ?_⟩
    refine ⟨(by show 0 ≤ sizeLine; decide), fun q0 hq0 => ?_⟩
    obtain ⟨kvs, hst, hst1, hst2, hst3⟩ := D.st
    have s0' := sameAt (Same.refl H) hq0 (o := .lst [])
    -- open_ones
    refine ⟨fun σ H1 => (∃ a b c d, ∃ ids : List Int, σ = [some (.ref p), some (.ref dl), some (.ref dk), some (.ref ds), some (.int number), some (.int arrival), some (.ref q0), a, b, c, d] ∧ H1 q0 = some (.lst (ids.map V.int)) ∧ ids.length ≤ 500 ∧
      ∀ id ∈ ids, ∃ z k m a l, S id = some (.at_ z k m a) ∧ L.lookup z = some l ∧ arrival ≤ m + l) ∧ Same H H1, ?_, ?_⟩
    · refine ⟨_, rfl, ds, kvs, rfl, .of (s0' _ _ hst), fun l hl => ⟨l, rfl, ⟨_, SqL.of upd_same⟩, ?_⟩⟩
      have e1 : kvs.map (fun kv => kV kv.1) = kvs.map (fun kv => kV kv.1) := rfl
      have s1 : Same H (upd (upd H q0 (.lst [])) l (.lst (kvs.map fun kv => kV kv.1))) := s0'.trans (sameAt (Same.refl _) hl)
      have hql : q0 ≠ l := fun z => by rw [← z, upd_same] at hl; cases hl
      refine for_list (K := K) (a := l) (xs := kvs.map fun kv => kV kv.1) (fun i σ H1 => (∃ a b c d, ∃ ids : List Int, σ = [some (.ref p), some (.ref dl), some (.ref dk), some (.ref ds), some (.int number), some (.int arrival), some (.ref q0), a, b, c, d] ∧ H1 q0 = some (.lst (ids.map V.int)) ∧ ids.length ≤ i ∧
        ∀ id ∈ ids, ∃ z k m a l, S id = some (.at_ z k m a) ∧ L.lookup z = some l ∧ arrival ≤ m + l) ∧ H1 l = some (.lst (kvs.map fun kv => kV kv.1)) ∧ Same H H1) ?_ (fun i σ H1 _ hv => SqL.of hv.2.1) ?_ ?_
      · exact ⟨⟨_, _, _, _, [], rfl, by rw [upd_ne hql]; exact upd_same, Nat.le_refl _, fun _ h => nomatch h⟩, upd_same, s1⟩
      · rintro i x σ H1 hi ⟨⟨a, b, c, d, ids, rfl, hq1, hlen, hids⟩, hl1, s2⟩
        obtain ⟨kv, hkv, rfl⟩ : ∃ kv, kvs[i]? = some kv ∧ x = kV kv.1 := by
          rw [List.getElem?_map] at hi
          cases e : kvs[i]? with
          | none => rw [e] at hi; cases hi
          | some z => rw [e] at hi; exact ⟨z, rfl, (Option.some.inj hi).symm⟩
        have hil : i < kvs.length := (List.getElem?_eq_some_iff.mp hkv).1
        have hm := List.mem_of_getElem? hkv
        obtain ⟨id, hid⟩ := hst2 _ hm
        obtain ⟨v, hv⟩ := mem_val hm
        rw [hid] at hv ⊢
        have hs1 := s2 _ _ hst
        have hd1 := s2 _ _ D.dl
        have sv := (hst3 id).but (fun t xs e => s2 _ _ e)
        rw [hv] at sv
        have hg := DGet.k (k := Sum.inl id) hs1
        rw [hv] at hg
        cases eS : S id with
        | none => rw [eS] at sv; exact absurd sv (fun z => z)
        | some r =>
          rw [eS] at sv
          cases r with
          | tb =>
            obtain rfl : v = .non := sv
            refine ⟨_, rfl, _, rfl, ds, _, rfl, hg, rfl, _, rfl, iteF ?_⟩
            exact ⟨⟨_, _, _, _, ids, rfl, hq1, by omega, hids⟩, hl1, s2⟩
          | at_ z k m am =>
            obtain ⟨t, rfl, ht⟩ := sv
            obtain ⟨_, _, hz⟩ := D.ok _ _ _ _ _ eS
            obtain ⟨lt, hlt⟩ := Option.isSome_iff_exists.mp hz
            have hgl := DGet.k (k := Sum.inr z) hd1
            rw [LK_val, hlt] at hgl
            refine ⟨_, rfl, _, rfl, ds, _, rfl, hg, rfl, _, rfl, iteT ?_⟩
            refine ⟨_, rfl, _, rfl, _, rfl, ds, _, rfl, hg, _, _, _, _, rfl, rfl, SqT.of ht, rfl, _, rfl, _, rfl, _, rfl, ds, _, rfl, hg, _, _, _, _, rfl, rfl, SqT.of ht, rfl, dl, _, rfl, hgl, _, _, rfl, rfl, _, _, rfl, rfl, _, rfl, ?_⟩
            refine ite2 (fun c1 => ?_) (fun c1 => ?_)
            · have c1 : arrival ≤ m + lt := of_decide_eq_true c1
              refine ⟨_, rfl, .inl ⟨rfl, _, SqL.of hq1⟩, _, rfl, q0, _, _, rfl, rfl, hq1, (by rw [List.length_map]; exact small1000 (by omega)), ?_⟩
              refine ⟨⟨_, _, _, _, ids ++ [id], rfl, ?_, by rw [List.length_append]; show ids.length + 1 ≤ i + 1; omega, fun id' hid' => ?_⟩, ?_, ?_⟩
              · rw [upd_same, List.map_append]
                rfl
              · rcases List.mem_append.mp hid' with h | h
                · exact hids _ h
                · rw [List.mem_singleton.mp h]
                  exact ⟨z, k, m, am, lt, eS, hlt, c1⟩
              · rw [upd_ne (Ne.symm hql)]
                exact hl1
              · exact sameAt s2 hq0
            · exact ⟨⟨_, _, _, _, ids, rfl, hq1, by omega, hids⟩, hl1, s2⟩
      · rintro σ H1 ⟨⟨a, b, c, d, ids, rfl, hq1, hlen, hids⟩, hl1, s2⟩
        rw [List.length_map] at hlen
        exact ⟨⟨_, _, _, _, ids, rfl, hq1, by omega, hids⟩, s2⟩
    rintro σ H1 ⟨⟨a, b, c, d, ids, rfl, hq1, hlen, hids⟩, s1⟩
    have P1 := D.pool.same s1
    refine ⟨_, rfl, p, s0, 4, rfl, P1, (by decide), (by decide), fun kind H2 k0 k4 P2 => ?_⟩
    have PP2 : Pl H H2 p s0 := ⟨P2.now, D.pool.ne.1, D.pool.ne.2, fun b o hb hn => P2.keep (s1 _ _ hb) hn⟩
    have hqp : q0 ≠ p := fun z => D.pool.ne.1 (z ▸ hq0)
    have hq2 : H2 q0 = some (.lst (ids.map V.int)) := P2.keep hq1 hqp
    have hd2 : H2 dl = some (.dK (LK L)) := PP2.dk D.pool D.dl
    have hk2 : H2 dk = some (.lst (ks.map V.str)) := PP2.sl D.pool D.dk
    have l1 := D.LL.some_
    have l8 := D.LL.few
    refine ⟨_, rfl, _, _, rfl, rfl, _, rfl, ?_⟩
    refine ite2 (fun c1 => ?_) (fun c1 => ?_)
    · skip
      refine ⟨_, rfl, dl, _, rfl, .of hd2, fun l hl => ?_⟩
      have e1 : (LK L).map (fun kv => kV kv.1) = (L.map (·.1)).map V.str := by
        unfold LK
        rw [List.map_map, List.map_map]
        rfl
      rw [e1]
      have PP3 : Pl H (upd H2 l (.lst ((L.map (·.1)).map V.str))) p s0 := PP2.new hl
      have hlp : l ≠ p := fun z => P2.now.ne.1 (z ▸ hl)
      refine ⟨_, rfl, _, rfl, dl, _, rfl, PP3.dk D.pool D.dl, p, s0, _, rfl, PP3.now, (by rw [LK_len]; omega), (by rw [LK_len]; omega), fun g H4 g0 g1 P4 => ?_⟩
      rw [LK_len] at g1
      obtain ⟨g, rfl⟩ : ∃ n : Nat, g = (n : Int) := ⟨g.toNat, by omega⟩
      have hg : g < L.length := by omega
      have PP4 := PP3.trans P4
      have hm : L[g] ∈ L := List.getElem_mem hg
      have hlk : L.lookup L[g].1 = some L[g].2 := lookup_mem D.LL.nd hm
      have b0 := D.LL.lo _ hm
      have b1 := D.LL.hi _ hm
      refine ⟨_, _, _, V.str L[g].1, rfl, rfl, SqL.of (P4.keep upd_same hlp), atI_nat (by rw [List.getElem?_map, List.getElem?_map, List.getElem?_eq_getElem hg]; rfl), ?_⟩
      have hgl := DGet.k (k := Sum.inr L[g].1) (PP4.dk D.pool D.dl)
      rw [LK_val, hlk] at hgl
      refine ⟨_, rfl, _, rfl, _, rfl, _, rfl, dl, _, rfl, hgl, _, _, rfl, rfl, p, s0, _, rfl, PP4.now, (by omega), (by omega), fun dd H5 d0 d1 P5 => ⟨_, _, rfl, rfl, ?_⟩⟩
      have PP5 := PP4.trans P5
      have k1 := D.k1
      have k2 := D.k2
      refine ⟨_, rfl, _, rfl, _, rfl, _, rfl, _, rfl, dk, _, rfl, .inl (SqL.of (PP5.sl D.pool D.dk)), p, s0, _, rfl, PP5.now, (by rw [List.length_map]; omega), (by rw [List.length_map]; omega), fun gk H6 gk0 gk1 P6 => ?_⟩
      rw [List.length_map] at gk1
      obtain ⟨gk, rfl⟩ : ∃ n : Nat, gk = (n : Int) := ⟨gk.toNat, by omega⟩
      have hgk : gk < ks.length := by omega
      have PP6 := PP5.trans P6
      refine ⟨_, _, _, V.str ks[gk], rfl, rfl, SqL.of (PP6.sl D.pool D.dk), atI_nat (by rw [List.getElem?_map, List.getElem?_eq_getElem hgk]; rfl), _, rfl, _, rfl, p, s0, rfl, PP6.now, fun am H7 P7 => ⟨_, rfl, (by show 7 ≤ sizeLine; decide), fun e he => ?_⟩⟩
      refine q e (.row number L[g].1 ks[gk] (arrival - dd) am arrival) (.at_ L[g].1 ks[gk] (arrival - dd) am) _ upd_same ⟨hn, fun _ _ _ _ _ _ z => by
        cases z
        exact ⟨D.LL.nm _ hm, D.kn _ (List.getElem_mem hgk)⟩⟩ rfl ?_ (.inl rfl) ((PP6.trans P7).new he)
      show behind L _ (S number) = _
      rw [hSn]
      show (L.lookup L[g].1).bind _ = _
      rw [hlk, Option.bind_some, if_pos ⟨by omega, by omega⟩]
    · refine ⟨_, rfl, q0, _, rfl, .inl (SqL.of hq2), rfl, _, rfl, ?_⟩
      refine ite2 (fun c2 => ?_) (fun c2 => ?_)
      · skip
        refine ⟨_, rfl, dl, _, rfl, .of hd2, fun l hl => ?_⟩
        have e1 : (LK L).map (fun kv => kV kv.1) = (L.map (·.1)).map V.str := by
          unfold LK
          rw [List.map_map, List.map_map]
          rfl
        rw [e1]
        have PP3 : Pl H (upd H2 l (.lst ((L.map (·.1)).map V.str))) p s0 := PP2.new hl
        have hlp : l ≠ p := fun z => P2.now.ne.1 (z ▸ hl)
        refine ⟨_, rfl, _, rfl, dl, _, rfl, PP3.dk D.pool D.dl, p, s0, _, rfl, PP3.now, (by rw [LK_len]; omega), (by rw [LK_len]; omega), fun g H4 g0 g1 P4 => ?_⟩
        rw [LK_len] at g1
        obtain ⟨g, rfl⟩ : ∃ n : Nat, g = (n : Int) := ⟨g.toNat, by omega⟩
        have hg : g < L.length := by omega
        have PP4 := PP3.trans P4
        have hm : L[g] ∈ L := List.getElem_mem hg
        have hlk : L.lookup L[g].1 = some L[g].2 := lookup_mem D.LL.nd hm
        have b0 := D.LL.lo _ hm
        have b1 := D.LL.hi _ hm
        refine ⟨_, _, _, V.str L[g].1, rfl, rfl, SqL.of (P4.keep upd_same hlp), atI_nat (by rw [List.getElem?_map, List.getElem?_map, List.getElem?_eq_getElem hg]; rfl), ?_⟩
        have hgl := DGet.k (k := Sum.inr L[g].1) (PP4.dk D.pool D.dl)
        rw [LK_val, hlk] at hgl
        refine ⟨_, rfl, _, rfl, _, rfl, _, rfl, dl, _, rfl, hgl, _, _, rfl, rfl, p, s0, _, rfl, PP4.now, (by omega), (by omega), fun dd H5 d0 d1 P5 => ⟨_, _, rfl, rfl, ?_⟩⟩
        have PP5 := PP4.trans P5
        have k1 := D.k1
        have k2 := D.k2
        refine ⟨_, rfl, _, rfl, _, rfl, _, rfl, _, rfl, dk, _, rfl, .inl (SqL.of (PP5.sl D.pool D.dk)), p, s0, _, rfl, PP5.now, (by rw [List.length_map]; omega), (by rw [List.length_map]; omega), fun gk H6 gk0 gk1 P6 => ?_⟩
        rw [List.length_map] at gk1
        obtain ⟨gk, rfl⟩ : ∃ n : Nat, gk = (n : Int) := ⟨gk.toNat, by omega⟩
        have hgk : gk < ks.length := by omega
        have PP6 := PP5.trans P6
        refine ⟨_, _, _, V.str ks[gk], rfl, rfl, SqL.of (PP6.sl D.pool D.dk), atI_nat (by rw [List.getElem?_map, List.getElem?_eq_getElem hgk]; rfl), _, rfl, _, rfl, p, s0, rfl, PP6.now, fun am H7 P7 => ⟨_, rfl, (by show 7 ≤ sizeLine; decide), fun e he => ?_⟩⟩
        refine q e (.row number L[g].1 ks[gk] (arrival - dd) am arrival) (.at_ L[g].1 ks[gk] (arrival - dd) am) _ upd_same ⟨hn, fun _ _ _ _ _ _ z => by
          cases z
          exact ⟨D.LL.nm _ hm, D.kn _ (List.getElem_mem hgk)⟩⟩ rfl ?_ (.inl rfl) ((PP6.trans P7).new he)
        show behind L _ (S number) = _
        rw [hSn]
        show (L.lookup L[g].1).bind _ = _
        rw [hlk, Option.bind_some, if_pos ⟨by omega, by omega⟩]
      · have hne : 0 < ids.length := by
          refine Nat.pos_of_ne_zero fun z => c2 (decide_eq_true ?_)
          rw [List.length_map, z]
          rfl
        refine ⟨_, rfl, _, rfl, _, rfl, q0, _, rfl, .inl (SqL.of hq2), p, s0, _, rfl, PP2.now, (by rw [List.length_map]; omega), (by rw [List.length_map]; omega), fun g H3 g0 g1 P3 => ?_⟩
        rw [List.length_map] at g1
        obtain ⟨g, rfl⟩ : ∃ n : Nat, g = (n : Int) := ⟨g.toNat, by omega⟩
        have hg : g < ids.length := by omega
        have PP3 := PP2.trans P3
        obtain ⟨z, k, m, a0, lt, eS, hlt, hend⟩ := hids _ (List.getElem_mem hg)
        obtain ⟨hzn, hkn, _⟩ := D.ok _ _ _ _ _ eS
        have hpos : 0 ≤ ids[g] := D.pos _ (by rw [eS]; exact fun z => nomatch z)
        have hlo : 0 ≤ lt ∧ lt ≤ 1000000 := by
          have hzm : z ∈ L.map (·.1) := by
            by_cases hz : z ∈ L.map (·.1)
            · exact hz
            · rw [lookup_none hz] at hlt
              cases hlt
          obtain ⟨x, hx, rfl⟩ := List.mem_map.mp hzm
          rw [lookup_mem D.LL.nd hx] at hlt
          cases hlt
          exact ⟨D.LL.lo _ hx, D.LL.hi _ hx⟩
        have sv := (hst3 ids[g]).but (fun t xs e => PP3.tp D.pool e)
        rw [eS] at sv
        obtain ⟨v, hv⟩ : ∃ v, valV kvs (Sum.inl ids[g]) = some v := by
          cases e : valV kvs (Sum.inl ids[g] : Key) with
          | none => rw [e] at sv; exact absurd sv (fun z => z)
          | some v => exact ⟨v, rfl⟩
        rw [hv] at sv
        obtain ⟨t, rfl, ht⟩ := sv
        have hgs := DGet.k (k := Sum.inl ids[g]) (PP3.dk D.pool hst)
        rw [hv] at hgs
        have hgl := DGet.k (k := Sum.inr z) (PP3.dk D.pool D.dl)
        rw [LK_val, hlt] at hgl
        refine ⟨_, _, _, V.int ids[g], rfl, rfl, SqL.of (P3.keep hq2 hqp), atI_nat (by rw [List.getElem?_map, List.getElem?_eq_getElem hg]; rfl), _, rfl, rfl, _, rfl, ?_⟩
        refine ite2 (fun c3 => ?_) (fun c3 => ?_)
        · refine ⟨_, rfl, _, rfl, _, rfl, _, rfl, _, rfl, ds, _, rfl, hgs, _, _, _, _, rfl, rfl, SqT.of ht, rfl, dl, _, rfl, hgl, _, _, rfl, rfl, p, s0, _, rfl, PP3.now, (by omega), (by omega), fun dd H4 d0 d1 P4 => ⟨_, _, rfl, rfl, ?_⟩⟩
          have PP4 := PP3.trans P4
          refine ⟨_, rfl, _, rfl, _, rfl, p, s0, rfl, PP4.now, fun am H5 P5 => ⟨_, rfl, (by show 5 ≤ sizeLine; decide), fun e he => ?_⟩⟩
          refine q e (.fix ids[g] (arrival - dd) am arrival) (.at_ z k (arrival - dd) am) _ upd_same ⟨hpos, fun _ _ _ _ _ _ z => by cases z⟩ rfl ?_ (.inr (by show S ids[g] ≠ none; rw [eS]; exact fun z => nomatch z)) ((PP4.trans P5).new he)
          show behind L _ (S ids[g]) = _
          rw [eS]
          show (L.lookup z).bind _ = _
          rw [hlt, Option.bind_some, if_pos ⟨hend, by omega, by omega⟩]
        · refine ⟨_, rfl, _, rfl, (by show 3 ≤ sizeLine; decide), fun e he => ?_⟩
          refine q e (.gone ids[g] arrival) .tb _ upd_same ⟨hpos, fun _ _ _ _ _ _ z => by cases z⟩ rfl ?_ (.inr (by show S ids[g] ≠ none; rw [eS]; exact fun z => nomatch z)) (PP3.new he)
          show behind L _ (S ids[g]) = _
          rw [eS]
          show (L.lookup z).bind _ = _
          rw [hlt, Option.bind_some, if_pos hend]
end
end Ash

set_option Elab.async false
set_option linter.all false
set_option maxRecDepth 100000
set_option maxHeartbeats 4000000
namespace Ash
open PySem PySem.Spec PyProof.Rows L2
open C8 (pss_cut)
/-! ### states that change -/
def TK (H H' : Hp) : Prop := ∀ t xs, H t = some (.tup xs) → H' t = some (.tup xs)
theorem Ents.tk {H H' : Hp} {us : List V} {xs : List Ent} (h : Ents H us xs) (s : TK H H') : Ents H' us xs := ⟨h.1, fun i v x a b => by
  obtain ⟨e, h1, h2, h3⟩ := h.2 i v x a b
  exact ⟨e, h1, s _ _ h2, h3⟩⟩
theorem Pl.tk {H H' : Hp} {p s : Addr} (P : Pl H H' p s) (P0 : PoolAt H p s) : TK H H' := fun t xs h => P.tp P0 h
theorem tk_same {H H' : Hp} (s : Same H H') : TK H H' := fun t xs h => s _ _ h
theorem TK.trans {H H1 H2 : Hp} (a : TK H H1) (b : TK H1 H2) : TK H H2 := fun t xs h => b t xs (a t xs h)
theorem tk_off {H : Hp} {q : Addr} {o u : HO} (h : H q = some u) (hu : ∀ xs, u ≠ .tup xs) : TK H (upd H q o) := fun t xs e => by
  rw [upd_ne (ne_of e h (fun z => hu xs z.symm))]
  exact e
theorem mem_putK {kvs : List (Key × V)} {id : Int} {v : V} (h : ∀ kv ∈ kvs, ∃ id, kv.1 = Sum.inl id) : ∀ kv ∈ putK kvs (Sum.inl id : Key) v, ∃ id, kv.1 = Sum.inl id := by
  intro kv hkv
  unfold putK at hkv
  split at hkv
  · obtain ⟨x, hx, rfl⟩ := List.mem_map.mp hkv
    obtain ⟨j, hj⟩ := h x hx
    split
    · exact ⟨j, hj⟩
    · exact ⟨j, hj⟩
  · rcases List.mem_append.mp hkv with hk | hk
    · exact h kv hk
    · rw [List.mem_singleton.mp hk]
      exact ⟨id, rfl⟩
def setK (S : Kn) (id : Int) (y : RowSt) : Kn := fun j => if j = id then some y else S j
theorem StAt.put {H H1 : Hp} {ds : Addr} {S : Kn} {n : Nat} {kvs : List (Key × V)} {id : Int} {v : V} {y : RowSt} (h1 : H ds = some (.dK kvs)) (h2 : kvs.length ≤ n) (h3 : ∀ kv ∈ kvs, ∃ id, kv.1 = Sum.inl id) (h4 : ∀ id, SV H (valV kvs (Sum.inl id)) (S id))
    (s : Same H H1) (hv : SV H1 (some v) (some y)) : StAt (upd H1 ds (.dK (putK kvs (Sum.inl id) v))) ds (setK S id y) (n + 1) := by
  refine ⟨_, upd_same, Nat.le_trans (pk_len _ _ _) (by omega), mem_putK h3, fun j => ?_⟩
  have tk : TK H1 (upd H1 ds (.dK (putK kvs (Sum.inl id) v))) := tk_off (s _ _ h1) (fun xs z => by cases z)
  rw [valV_put]
  show SV _ _ (if j = id then some y else S j)
  by_cases e : j = id
  · rw [if_pos (by rw [e]), if_pos e]
    exact hv.but tk
  · rw [if_neg (fun q => e (Sum.inl.inj q)), if_neg e]
    exact ((h4 j).but fun t xs z => s _ _ z).but tk
theorem behind_row {L : List (Str × Int)} {id : Int} {s k : Str} {m a r : Int} {o : Option RowSt} {y : RowSt} (h : behind L (.row id s k m a r) o = some y) : y = .at_ s k m a := by
  cases o with
  | some o => cases h
  | none =>
    have h : (L.lookup s).bind _ = _ := h
    cases e : L.lookup s with
    | none => rw [e] at h; cases h
    | some l =>
      rw [e, Option.bind_some] at h
      split at h
      · exact (Option.some.inj h).symm
      · cases h
theorem behind_fix {L : List (Str × Int)} {id m a r : Int} {o : Option RowSt} {y : RowSt} (h : behind L (.fix id m a r) o = some y) : ∃ s k m0 a0, o = some (.at_ s k m0 a0) ∧ y = .at_ s k m a := by
  cases o with
  | none => cases h
  | some o =>
    cases o with
    | tb => cases h
    | at_ s k m0 a0 =>
      have h : (L.lookup s).bind _ = _ := h
      cases e : L.lookup s with
      | none => rw [e] at h; cases h
      | some l =>
        rw [e, Option.bind_some] at h
        split at h
        · exact ⟨s, k, m0, a0, rfl, (Option.some.inj h).symm⟩
        · cases h
theorem behind_gone {L : List (Str × Int)} {id r : Int} {o : Option RowSt} {y : RowSt} (h : behind L (.gone id r) o = some y) : y = .tb := by
  cases o with
  | none => cases h
  | some o =>
    cases o with
    | tb => cases h
    | at_ s k m0 a0 =>
      have h : (L.lookup s).bind _ = _ := h
      cases e : L.lookup s with
      | none => rw [e] at h; cases h
      | some l =>
        rw [e, Option.bind_some] at h
        split at h
        · exact (Option.some.inj h).symm
        · cases h
def spPut : Sp := fun vs H Q _ => ∃ (ds e : Addr) (L : List (Str × Int)) (S : Kn) (n : Nat) (x : Ent) (y : RowSt), vs = [.ref ds, .ref e] ∧ StAt H ds S n ∧ n ≤ 900 ∧ EntAt H e x ∧ behind L x (S x.id) = some y ∧
  ∀ H', StAt H' ds (setK S x.id y) (n + 1) → (∀ c o, H c = some o → c ≠ ds → H' c = some o) → Q .non H'
/-- the latest arrival -/
def lastA : List Ent → Option Int → Option Int
  | [], l => l
  | x :: r, _ => lastA r (some x.arr)
theorem lastA_snoc : ∀ (xs : List Ent) (x : Ent) (l : Option Int), lastA (xs ++ [x]) l = some x.arr
  | [], _, _ => rfl
  | _ :: r, x, _ => lastA_snoc r x _
theorem wk_app {L : List (Str × Int)} {S1 : Kn} (rest : List (Option Ent)) : ∀ {xs : List Ent} {i : Nat} {S : Kn} {l : Option Int}, wk L (xs.map some) i S l = (none, S1) → wk L (xs.map some ++ rest) i S l = wk L rest (i + xs.length) S1 (lastA xs l)
  | [], i, S, l, h => by
    have h : ((none : Option Nat), S) = (none, S1) := h
    cases h
    rfl
  | x :: r, i, S, l, h => by
    have h : wk L (some x :: r.map some) i S l = (none, S1) := h
    show wk L (some x :: (r.map some ++ rest)) i S l = _
    by_cases c : late? l x.arr = true
    · rw [wk_late c] at h
      cases h
    · have c0 : late? l x.arr = false := Bool.eq_false_iff.mpr c
      cases hb : behind L x (S x.id) with
      | none =>
        rw [wk_bad c0 hb] at h
        cases h
      | some z =>
        rw [wk_go c0 hb] at h ⊢
        rw [wk_app rest h]
        show wk L rest (i + 1 + r.length) S1 _ = wk L rest (i + (r.length + 1)) S1 _
        rw [show i + 1 + r.length = i + (r.length + 1) by omega]
        rfl
/-- what is left of the heap when the pool and the states have changed -/
structure Pd (H0 H : Hp) (p s ds : Addr) : Prop where
  now : PoolAt H p s
  op : H0 p ≠ none
  os : H0 s ≠ none
  but : ∀ b o, H0 b = some o → b ≠ p → b ≠ ds → H b = some o
theorem Pd.pl {H0 H H1 : Hp} {p s ds : Addr} (a : Pd H0 H p s ds) (b : Pl H H1 p s) : Pd H0 H1 p s ds := ⟨b.now, a.op, a.os, fun c o h n1 n2 => b.keep (a.but c o h n1 n2) n1⟩
theorem Pd.chg {H0 H H1 : Hp} {p s ds : Addr} {kvs : List (Key × V)} (a : Pd H0 H p s ds) (hd : H ds = some (.dK kvs)) (k : ∀ c o, H c = some o → c ≠ ds → H1 c = some o) : Pd H0 H1 p s ds := by
  refine ⟨?_, a.op, a.os, fun c o h n1 n2 => k _ _ (a.but c o h n1 n2) n2⟩
  obtain ⟨ns, i, c, kk, n, h1, h2, h3, h4⟩ := a.now
  exact ⟨ns, i, c, kk, n, k _ _ h1 (ne_of h1 hd (by intro z; cases z)), k _ _ h2 (ne_of h2 hd (by intro z; cases z)), h3, h4⟩
theorem Pd.at {H0 H : Hp} {p s ds q : Addr} {o : HO} (a : Pd H0 H p s ds) (hq : H0 q = none) : Pd H0 (upd H q o) p s ds :=
  ⟨a.now.off (fun z => a.op (z ▸ hq)) (fun z => a.os (z ▸ hq)), a.op, a.os, fun c o h n1 n2 => by rw [upd_ne (ne_of_none h hq)]; exact a.but c o h n1 n2⟩
theorem Pd.free {H0 H : Hp} {p s ds q : Addr} (a : Pd H0 H p s ds) (hd : H ds ≠ none) (hq : H q = none) : H0 q = none := by
  cases e : H0 q with
  | none => rfl
  | some u =>
    by_cases h1 : q = p
    · exact absurd (h1 ▸ hq) a.now.ne.1
    · by_cases h2 : q = ds
      · exact absurd (h2 ▸ hq) hd
      · rw [a.but q u e h1 h2] at hq
        cases hq
theorem Ents.snoc {H : Hp} {us : List V} {xs : List Ent} {e : Addr} {x : Ent} (h : Ents H us xs) (he : EntAt H e x) (hok : x.ok) : Ents H (us ++ [.ref e]) (xs ++ [x]) := by
  refine ⟨by rw [List.length_append, List.length_append, h.1]; rfl, fun i v y a b => ?_⟩
  by_cases hi : i < us.length
  · rw [List.getElem?_append_left hi] at a
    rw [List.getElem?_append_left (by rw [← h.1]; exact hi)] at b
    exact h.2 i v y a b
  · have hi' : i = us.length := by
      have := (List.getElem?_eq_some_iff.mp a).1
      rw [List.length_append] at this
      have : i < us.length + 1 := this
      omega
    subst hi'
    rw [List.getElem?_append_right (Nat.le_refl _), Nat.sub_self] at a
    rw [h.1, List.getElem?_append_right (Nat.le_refl _), Nat.sub_self] at b
    cases a
    cases b
    exact ⟨e, rfl, he, hok⟩
def spEntries : Sp := fun vs H Q _ => ∃ (p s dl dk ds : Addr) (L : List (Str × Int)) (ks : List Str) (S0 : Kn) (n0 : Nat) (number arrival many : Int), vs = [.ref p, .ref dl, .ref dk, .ref ds, .int number, .int arrival, .int many] ∧ Draw H p s dl dk ds L ks S0 ∧ StAt H ds S0 n0 ∧ 0 ≤ many ∧ many ≤ 100 ∧ (n0 : Int) + many ≤ 500 ∧
  0 ≤ number ∧ (∀ id, S0 id ≠ none → id < number) ∧ ds ≠ dl ∧
  ∀ (q : Addr) us xs S1 H', H q = none → H' q = some (.lst us) → Ents H' us xs → (xs.length : Int) = many → (∀ l, (∀ t, l = some t → t ≤ arrival) → ∀ i, wk L (xs.map some) i S0 l = (none, S1)) → (∀ x ∈ xs, arrival ≤ x.arr) →
    StAt H' ds S1 (n0 + xs.length) → KnOk L S1 → (∀ id, S1 id ≠ none → 0 ≤ id ∧ id < number + 3 * many) → Pd H H' p s ds → Q (.ref q) H'
section
variable {P : Program} {w : World} {K : PySem.W.Frag} {mg : Str → Option Value} {base : Heap}
abbrev s_l_put : Stmt := topS 38
theorem sc_l_put : FnScope ["states", "entry", "old"] ["states", "entry"] (defScope s_l_put) := ⟨rfl, rfl, rfl, by decide +kernel, rfl, by decide +kernel, by decide +kernel⟩
theorem ok_put {f : Addr} {fd : FuncData} (F : Fun K "_law_put" "_law_put" s_l_put f fd) (B : Blt mg) : FnOk P w K mg base CX0 1 f fd ["states", "entry"] spPut := by
  refine F.ok sc_l_put (fun vs H Q E h => ?_) (fun cdv A outer s H vs Q E hr h => ?_)
  · obtain ⟨ds, e, L, S, n, x, y, rfl, _⟩ := h
    rfl
  · obtain ⟨ds, e, L, S, n, x, y, rfl, hst, hn, hx, hb, q⟩ := h
    have hu := hu_of hr
    obtain ⟨kvs, h1, h2, h3, h4⟩ := id hst
    refine ⟨_, (pss_one (ps_if (pt_cmpR op_eq (pe_ix ix_tup (pv 1) pe_int (fun _ _ => rfl)) pe_str (nomark _))
      (pss_one (ps_dput hu (pv 0) (pe_ix ix_tup (pv 1) pe_int (fun _ _ => rfl)) (pe_tup (pa_cons (pe_ix ix_tup (pv 1) pe_int (fun _ _ => rfl)) (pa_cons (pe_ix ix_tup (pv 1) pe_int (fun _ _ => rfl)) (pa_cons (pe_ix ix_tup (pv 1) pe_int (fun _ _ => rfl)) (pa_cons (pe_ix ix_tup (pv 1) pe_int (fun _ _ => rfl)) pa_nil))))) rfl))
      (pss_one (ps_if (pt_cmpR op_eq (pe_ix ix_tup (pv 1) pe_int (fun _ _ => rfl)) pe_str (nomark _))
        (pss_cons (ps_set (i := 2) sc_l_put.nd rfl (Or.inl rfl) (pe_dget hu (pv 0) (pe_ix ix_tup (pv 1) pe_int (fun _ _ => rfl)) (fun _ _ => rfl)))
        (pss_one (ps_dput hu (pv 0) (pe_ix ix_tup (pv 1) pe_int (fun _ _ => rfl)) (pe_tup (pa_cons (pe_ix ix_tup (pv 2) pe_int (fun _ _ => rfl)) (pa_cons (pe_ix ix_tup (pv 2) pe_int (fun _ _ => rfl)) (pa_cons (pe_ix ix_tup (pv 1) pe_int (fun _ _ => rfl)) (pa_cons (pe_ix ix_tup (pv 1) pe_int (fun _ _ => rfl)) pa_nil))))) rfl)))
        (pss_one (ps_dput hu (pv 0) (pe_ix ix_tup (pv 1) pe_int (fun _ _ => rfl)) pe_non rfl)))))), ?_⟩
    cases x with
    | row id z k m a r =>
      obtain rfl := behind_row hb
      refine ⟨_, rfl, _, _, _, _, rfl, rfl, SqT.of hx, rfl, rfl, _, rfl, iteT ?_⟩
      refine ⟨_, rfl, _, _, _, _, rfl, rfl, SqT.of hx, rfl, _, rfl, _, _, _, _, rfl, rfl, SqT.of hx, rfl, _, rfl, _, _, _, _, rfl, rfl, SqT.of hx, rfl, _, rfl, _, _, _, _, rfl, rfl, SqT.of hx, rfl, (by show 4 ≤ sizeLine; decide), fun t ht => ?_⟩
      have s1 := sameAt (Same.refl H) ht (o := .tup [.str z, .str k, .int m, .int a])
      have hx1 : EntAt (upd H t (.tup [.str z, .str k, .int m, .int a])) e (.row id z k m a r) := s1 _ _ hx
      refine ⟨_, rfl, _, rfl, _, _, _, _, rfl, rfl, SqT.of hx1, rfl, ds, _, rfl, DPut.k (k := Sum.inl id) (s1 _ _ h1) (small1000 (by omega)), ?_⟩
      exact q _ (StAt.put h1 h2 h3 h4 s1 ⟨t, rfl, upd_same⟩) fun c o hc hn => by rw [upd_ne hn]; exact s1 _ _ hc
    | fix id m a r =>
      obtain ⟨z, k, m0, a0, eS, rfl⟩ := behind_fix hb
      have sv := h4 id
      have eS : S id = some (.at_ z k m0 a0) := eS
      rw [eS] at sv
      obtain ⟨v, hv⟩ : ∃ v, valV kvs (Sum.inl id) = some v := by
        cases e : valV kvs (Sum.inl id : Key) with
        | none => rw [e] at sv; exact absurd sv (fun z => z)
        | some v => exact ⟨v, rfl⟩
      rw [hv] at sv
      obtain ⟨t0, rfl, ht0⟩ := sv
      have hg := DGet.k (k := Sum.inl id) h1
      rw [hv] at hg
      refine ⟨_, rfl, _, _, _, _, rfl, rfl, SqT.of hx, rfl, rfl, _, rfl, iteF ?_⟩
      refine ⟨_, rfl, _, _, _, _, rfl, rfl, SqT.of hx, rfl, rfl, _, rfl, iteT ?_⟩
      refine ⟨_, rfl, _, rfl, _, _, _, _, rfl, rfl, SqT.of hx, rfl, ds, _, rfl, hg, ?_⟩
      refine ⟨_, rfl, _, _, _, _, rfl, rfl, SqT.of ht0, rfl, _, rfl, _, _, _, _, rfl, rfl, SqT.of ht0, rfl, _, rfl, _, _, _, _, rfl, rfl, SqT.of hx, rfl, _, rfl, _, _, _, _, rfl, rfl, SqT.of hx, rfl, (by show 4 ≤ sizeLine; decide), fun t ht => ?_⟩
      have s1 := sameAt (Same.refl H) ht (o := .tup [.str z, .str k, .int m, .int a])
      have hx1 : EntAt (upd H t (.tup [.str z, .str k, .int m, .int a])) e (.fix id m a r) := s1 _ _ hx
      refine ⟨_, rfl, _, rfl, _, _, _, _, rfl, rfl, SqT.of hx1, rfl, ds, _, rfl, DPut.k (k := Sum.inl id) (s1 _ _ h1) (small1000 (by omega)), ?_⟩
      exact q _ (StAt.put h1 h2 h3 h4 s1 ⟨t, rfl, upd_same⟩) fun c o hc hn => by rw [upd_ne hn]; exact s1 _ _ hc
    | gone id r =>
      obtain rfl := behind_gone hb
      refine ⟨_, rfl, _, _, _, _, rfl, rfl, SqT.of hx, rfl, rfl, _, rfl, iteF ?_⟩
      refine ⟨_, rfl, _, _, _, _, rfl, rfl, SqT.of hx, rfl, rfl, _, rfl, iteF ?_⟩
      refine ⟨_, rfl, _, rfl, _, _, _, _, rfl, rfl, SqT.of hx, rfl, ds, _, rfl, DPut.k (k := Sum.inl id) h1 (small1000 (by omega)), ?_⟩
      exact q _ (StAt.put h1 h2 h3 h4 (Same.refl H) rfl) fun c o hc hn => by rw [upd_ne hn]; exact hc
structure G4 (P : Program) (w : World) (K : PySem.W.Frag) (mg : Str → Option Value) (base : Heap) : Prop extends G3 P w K mg base where
  law_entry : Cal P w K mg base CX0 "_law_entry" 3 ["pool", "lates", "keys", "states", "number", "arrival"] spEntry
  law_put : Cal P w K mg base CX0 "_law_put" 1 ["states", "entry"] spPut
abbrev s_l_entries : Stmt := topS 39
theorem sc_l_entries : FnScope ["pool", "lates", "keys", "states", "number", "arrival", "many", "entries", "k", "entry"] ["pool", "lates", "keys", "states", "number", "arrival", "many"] (defScope s_l_entries) := ⟨rfl, rfl, rfl, by decide +kernel, rfl, by decide +kernel, by decide +kernel⟩
theorem ok_entries {f : Addr} {fd : FuncData} (F : Fun K "_law_entries" "_law_entries" s_l_entries f fd) (B : Blt mg) (G : G4 P w K mg base) : FnOk P w K mg base CX0 4 f fd ["pool", "lates", "keys", "states", "number", "arrival", "many"] spEntries := by
  refine F.ok sc_l_entries (fun vs H Q E h => ?_) (fun cdv A outer s H vs Q E hr h => ?_)
  · obtain ⟨p, s, dl, dk, ds, L, ks, S, n0, number, arrival, many, rfl, _⟩ := h
    rfl
  · obtain ⟨p, s0, dl, dk, ds, L, ks, S0, n0, number, arrival, many, rfl, D, hst, hm0, hm1, hm5, hn0, hids, hdd, q⟩ := h
    refine ⟨_, (pss_cons (ps_set (i := 7) sc_l_entries.nd rfl (Or.inl rfl) (pe_lst pa_nil))
    (pss_cons (ps_for PassesOwn.never rfl (pi_range1 (by rfl) B.range (pa_cons (pv 6) pa_nil)) (pg_name (i := 8) sc_l_entries.nd rfl (Or.inl rfl))
      (pss_cons (ps_set (i := 5) sc_l_entries.nd rfl (Or.inl rfl) (pe_op op_add (pv 5) (pe_ix ix_list (pe_lst (pa_cons pe_int (pa_cons pe_int (pa_cons pe_int (pa_cons pe_int (pa_cons pe_int (pa_cons pe_int (pa_cons pe_int (pa_cons (pe_cal G.law_draw (hr.mono (by decide)) pass0 (pa_cons (pv 0) (pa_cons (pe_op op_pow pe_int pe_int) pa_nil))) pa_nil))))))))) (pe_cal G.law_draw (hr.mono (by decide)) pass0 (pa_cons (pv 0) (pa_cons pe_int pa_nil))) (fun _ _ => rfl))))
      (pss_cons (ps_set (i := 9) sc_l_entries.nd rfl (Or.inl rfl) (pe_cal G.law_entry (hr.mono (by decide)) pass0 (pa_cons (pv 0) (pa_cons (pv 1) (pa_cons (pv 2) (pa_cons (pv 3) (pa_cons (pe_op op_add (pe_op op_add (pv 4) (pe_op op_mul pe_int (pv 8))) (pe_cal G.law_draw (hr.mono (by decide)) pass0 (pa_cons (pv 0) (pa_cons pe_int pa_nil)))) (pa_cons (pv 5) pa_nil))))))))
      (pss_cons (ps_expr (pe_cal G.law_put (hr.mono (by decide)) pass0 (pa_cons (pv 3) (pa_cons (pv 9) pa_nil))))
      (pss_one (ps_expr (pe_bm PySem.F.plainAttrs_list PySem.F.slot_list_append PySem.F.type_list_append mt_append (pv 7) (pa_cons (pv 9) pa_nil))))))))
    (pss_one (ps_ret (pv 7))))), ?_⟩
    refine ⟨(by show 0 ≤ sizeLine; decide), fun q0 hq0 => ?_⟩
    have PD0 : Pd H (upd H q0 (.lst [])) p s0 ds := (⟨D.pool, D.pool.ne.1, D.pool.ne.2, fun b o h _ _ => h⟩ : Pd H H p s0 ds).at hq0
    refine ⟨_, rfl, _, rfl, (by omega), (by omega), for_range (n := many.toNat) (fun k σ H1 => ∃ (us : List V) (xs : List Ent) (S : Kn) (ar : Int), (∃ a b, σ = [some (.ref p), some (.ref dl), some (.ref dk), some (.ref ds), some (.int number), some (.int ar), some (.int many), some (.ref q0), a, b]) ∧ H1 q0 = some (.lst us) ∧ Ents H1 us xs ∧ xs.length = k ∧
      (∀ l, (∀ t, l = some t → t ≤ arrival) → (∀ i, wk L (xs.map some) i S0 l = (none, S)) ∧ ∀ t, lastA xs l = some t → t ≤ ar) ∧ arrival ≤ ar ∧ (∀ x ∈ xs, arrival ≤ x.arr) ∧ StAt H1 ds S (n0 + k) ∧ KnOk L S ∧ (∀ id, S id ≠ none → 0 ≤ id ∧ id < number + 3 * (k : Int)) ∧ Pd H H1 p s0 ds) ?_ ?_ ?_⟩
    · refine ⟨[], [], S0, arrival, ⟨_, _, rfl⟩, upd_same, ⟨rfl, fun i v x a b => by simp at a⟩, rfl, fun l hl => ⟨fun i => rfl, hl⟩, Int.le_refl _, (fun x hx => nomatch hx), hst.same (sameAt (Same.refl H) hq0), D.ok, (fun id h => ⟨D.pos id h, by have := hids id h; omega⟩), PD0⟩
    · rintro k σ H1 hk ⟨us, xs, S, ar, ⟨a, b, rfl⟩, hq1, hE, hlen, hwk, har, harr, hst1, hok, hpos, PD⟩
      have hqp : q0 ≠ p := fun z => D.pool.ne.1 (z ▸ hq0)
      obtain ⟨kvs0, hst0, _⟩ := id hst
      have hqd : q0 ≠ ds := fun z => by rw [z, hst0] at hq0; cases hq0
      obtain ⟨ns, i1, c1, k1, m1, hp1, _⟩ := id D.pool
      have dlp : dl ≠ p := ne_of D.dl hp1 (by intro z; cases z)
      have dkp : dk ≠ p := ne_of D.dk hp1 (strs_ne (ns := ns))
      have dkd : dk ≠ ds := ne_of D.dk hst0 (by intro z; cases z)
      obtain ⟨kvs1, hst1', _⟩ := id hst1
      -- arrival
      refine ⟨_, rfl, _, rfl, _, _, rfl, rfl, ⟨by decide, by decide, by decide⟩, p, s0, _, rfl, PD.now, (by decide), (by decide), fun v H2 v0 v1 P2 => ⟨(by show 8 ≤ sizeLine; decide), fun u hu2 => ?_⟩⟩
      have v1 : v < 1000000 := v1
      have PD2 := PD.pl P2
      have hd2 := P2.dk PD.now hst1'
      have hu0 : H u = none := PD2.free (by rw [hd2]; exact fun z => nomatch z) hu2
      have PD3 : Pd H (upd H2 u (.lst [V.int 0, V.int 0, V.int 1, V.int 1, V.int 2, V.int 3, V.int 7, V.int v])) p s0 ds := PD2.at hu0
      have hup : u ≠ p := fun z => D.pool.ne.1 (z ▸ hu0)
      have hud : u ≠ ds := fun z => by rw [z, hst0] at hu0; cases hu0
      refine ⟨_, rfl, p, s0, 8, rfl, PD3.now, (by decide), (by decide), fun g H4 g0 g1 P4 => ?_⟩
      obtain ⟨inc, hinc, inc0⟩ : ∃ inc : Int, atI ([V.int 0, V.int 0, V.int 1, V.int 1, V.int 2, V.int 3, V.int 7, V.int v]) g = some (V.int inc) ∧ 0 ≤ inc := by
        have : g = 0 ∨ g = 1 ∨ g = 2 ∨ g = 3 ∨ g = 4 ∨ g = 5 ∨ g = 6 ∨ g = 7 := by omega
        rcases this with rfl | rfl | rfl | rfl | rfl | rfl | rfl | rfl
        · exact ⟨0, rfl, by omega⟩
        · exact ⟨0, rfl, by omega⟩
        · exact ⟨1, rfl, by omega⟩
        · exact ⟨1, rfl, by omega⟩
        · exact ⟨2, rfl, by omega⟩
        · exact ⟨3, rfl, by omega⟩
        · exact ⟨7, rfl, by omega⟩
        · exact ⟨v, rfl, v0⟩
      have PD4 := PD3.pl P4
      refine ⟨_, _, _, V.int inc, rfl, rfl, SqL.of (P4.keep upd_same hup), hinc, _, _, rfl, rfl, ?_⟩
      -- entry
      refine ⟨_, rfl, _, rfl, _, rfl, _, rfl, _, rfl, _, rfl, _, _, rfl, rfl, .inl ⟨by decide, by decide⟩, _, _, rfl, rfl, _, rfl, p, s0, 3, rfl, PD4.now, (by decide), (by decide), fun g3 H5 g30 g33 P5 => ⟨_, _, rfl, rfl, _, rfl, ?_⟩⟩
      have PD5 := PD4.pl P5
      have tk15 : TK H1 H5 := (((P2.tk PD.now).trans (tk_same (sameAt (Same.refl H2) hu2))).trans (P4.tk PD3.now)).trans (P5.tk PD4.now)
      have st5 : StAt H5 ds S (n0 + k) := ((((hst1.pl PD.now P2).same (sameAt (Same.refl H2) hu2)).pl PD3.now P4).pl PD4.now P5)
      have D5 : Draw H5 p s0 dl dk ds L ks S := ⟨PD5.now, PD5.but _ _ D.dl dlp (Ne.symm hdd), D.LL, PD5.but _ _ D.dk dkp dkd, D.k1, D.k2, D.kn, by
        obtain ⟨kk, a1, a2, a3, a4⟩ := st5
        exact ⟨kk, a1, by omega, a3, a4⟩, hok, fun id h => (hpos id h).1⟩
      refine ⟨p, s0, dl, dk, ds, L, ks, S, _, _, rfl, D5, (by omega), ?_, fun e x y H6 he hxok hxarr hbh hid P6 => ?_⟩
      · cases eS : S (number + 3 * (0 + (k : Int)) + g3) with
        | none => rfl
        | some r =>
          have := (hpos _ (by rw [eS]; exact fun z => nomatch z)).2
          omega
      have PD6 := PD5.pl P6
      have st6 := st5.pl PD5.now P6
      obtain ⟨kvs6, hd6, _⟩ := id st6
      refine ⟨_, rfl, _, rfl, ds, e, L, S, n0 + k, x, y, rfl, st6, (by omega), he, hbh, fun H7 st7 k7 => ?_⟩
      have PD7 := PD6.chg hd6 k7
      have tk67 : TK H6 H7 := fun t zs h => k7 _ _ h (ne_of h hd6 (by intro z; cases z))
      have keepq : H7 q0 = some (.lst us) := by
        have a2 := P2.keep hq1 hqp
        have a3 : (upd H2 u (.lst [V.int 0, V.int 0, V.int 1, V.int 1, V.int 2, V.int 3, V.int 7, V.int v])) q0 = some (.lst us) := by rw [upd_ne (ne_of_none a2 hu2)]; exact a2
        exact k7 _ _ (P6.keep (P5.keep (P4.keep a3 hqp) hqp) hqp) hqd
      refine ⟨_, rfl, .inl ⟨rfl, _, SqL.of keepq⟩, _, rfl, q0, us, _, rfl, rfl, keepq, (by rw [hE.1]; exact small1000 (by omega)), ?_⟩
      have tk78 : TK H7 (upd H7 q0 (.lst (us ++ [.ref e]))) := tk_off keepq (fun xs z => by cases z)
      have tkAll := ((tk15.trans (P6.tk PD5.now)).trans tk67).trans tk78
      refine ⟨us ++ [.ref e], xs ++ [x], setK S x.id y, ar + inc, ⟨_, _, rfl⟩, upd_same, (hE.tk tkAll).snoc ((tk67.trans tk78) _ _ he) hxok, by rw [List.length_append, hlen]; rfl, fun l hl => ⟨fun i => ?_, fun t ht => ?_⟩, by omega, fun z hz => ?_, ?_, ?_, fun id hid' => ?_, PD7.at hq0⟩
      · rw [List.map_append]
        show wk L (xs.map some ++ [some x]) i S0 l = _
        rw [wk_app [some x] ((hwk l hl).1 i)]
        have hlt : late? (lastA xs l) x.arr = false := by
          cases e : lastA xs l with
          | none => rfl
          | some t =>
            have := (hwk l hl).2 t e
            exact decide_eq_false (by omega)
        rw [wk_go hlt hbh]
        rfl
      · rw [lastA_snoc] at ht
        cases ht
        omega
      · rcases List.mem_append.mp hz with hz | hz
        · exact harr z hz
        · rw [List.mem_singleton.mp hz]
          omega
      · obtain ⟨kk, a1, a2, a3, a4⟩ := st7
        exact ⟨kk, by rw [upd_ne (Ne.symm hqd)]; exact a1, by omega, a3, fun id => (a4 id).but tk78⟩
      · intro id z1 kk m a' he'
        have he' : (if id = x.id then some y else S id) = some (.at_ z1 kk m a') := he'
        by_cases ej : id = x.id
        · rw [if_pos ej] at he'
          exact behind_ok hxok (hok x.id) hbh _ _ _ _ (Option.some.inj he')
        · rw [if_neg ej] at he'
          exact hok id _ _ _ _ he'
      · have hid' : (if id = x.id then some y else S id) ≠ none := hid'
        by_cases ej : id = x.id
        · have hx0 : 0 ≤ x.id := hxok.1
          rw [ej]
          refine ⟨hx0, ?_⟩
          rcases hid with h | h
          · omega
          · have := (hpos _ h).2
            omega
        · rw [if_neg ej] at hid'
          have := hpos _ hid'
          omega
    · rintro σ H1 ⟨us, xs, S, ar, ⟨a, b, rfl⟩, hq1, hE, hlen, hwk, har, harr, hst1, hok, hpos, PD⟩
      refine ⟨_, rfl, q q0 us xs S H1 hq0 hq1 hE (by omega) (fun l hl => (hwk l hl).1) harr (by rw [hlen]; exact hst1) hok (fun id h => ⟨(hpos id h).1, by have := (hpos id h).2; omega⟩) PD⟩
end
end Ash

set_option Elab.async false
set_option linter.all false
set_option maxRecDepth 100000
set_option maxHeartbeats 4000000
namespace L2
open PySem PySem.Spec PyProof.Rows
section
variable {X : Cx} {C fI : Addr} {par fl : Str}
/-- n.f in the suite that caught an own error with the one field fl -/
def tByB (fl : Str) (C a : Addr) (cls : Value) (d : Option Addr) (te : TE) : TE := fun σ H Q => te σ H fun x H1 => x = .ref a ∧ cls = .ref C ∧ ∃ (dd : Addr) (v : V), d = some dd ∧ H1 dd = some (.xd [(fl, v)]) ∧ Q v H1
theorem pe_byB {a : Addr} {oe : Obj} {cls : Value} {d : Option Addr} {pn : List (Addr × Obj)} {e : Expr} {te : TE} {pos : Pos} (T : PySem.BadX.Txt X.prog X.K X.mg par fl C fI) (hz : Zc cls d oe) (hf : ∃ vs, oe.data = .fields vs) (he : PE (X.suite a ((a, oe) :: pn)) e te)
    (hb : attributeBase e fl X.env (eval e X.env) = eval e X.env := by rfl) :
    PE (X.suite a ((a, oe) :: pn)) (.Attribute e fl pos) (tByB fl C a cls d te) := by
  refine ⟨fun pins s σ H Q I h => ?_⟩
  refine attr_of hb (thn (he.run pins s σ H _ I h) fun u s1 hh => ?_)
  obtain ⟨x, H1, I1, rx, ex, ec, dd, v, ed, ea, q⟩ := hh
  subst ex
  obtain rfl : u = Value.ref a := rx
  subst ec
  subst ed
  obtain ⟨ha, _⟩ := I1.pin (a, oe) (List.mem_append_left _ List.mem_cons_self)
  obtain ⟨vs, hd⟩ := hf
  have hx : ObjOk X.prog X.w H1 s1.heap dd (.xd [(fl, v)]) := I1.hok dd _ ea
  obtain ⟨mA, hns, hr⟩ := hx
  obtain ⟨od, ho, hl⟩ := lookIn_ns hns
  have l : List.lookup fl [(fl, v)] = some v := by simp [List.lookup]
  obtain ⟨u, hu, ru⟩ := RelO.some_of (v := v) (o := mA fl) (by rw [← l]; exact hr fl)
  have J : PySem.W.InstAt s1.heap a oe C (some od) := ⟨ha, hz.1, by unfold PySem.W.notCls; rw [hd] <;> rfl, by rw [hz.2]; exact ho⟩
  exact HandSPX.exc_get I1.kIn J T.ga T.gg T.exC (PySem.W.findObj_own T.hdC T.noN rfl (by rw [hl, hu])) (handed_of ru) ⟨v, H1, I1.tok _, ru, q⟩
end
end L2
namespace Ash
open PySem PySem.Spec PyProof.Rows L2
open C8 (pss_cut)
theorem none_of {H H' : Hp} {q : Addr} (s : Same H H') (h : H' q = none) : H q = none := by
  cases e : H q with
  | none => rfl
  | some o => rw [s _ _ e] at h; cases h
/-- what is wanted of an exception at any n slots -/
def WEn (n : Nat) (W : WX) : XK := fun cls d H => ∀ σ : L2.St, σ.length = n → W cls d σ H
theorem passN {X : Cx} {W : WX} {n : Nat} (hn : X.N.length = n) (tk : Takes X W) : Passes (L2.CX X.prog X.w) X (WEn n W) := fun _ σ _ _ e s' I c => tk e s' (XE.of_call I (fun cls d H' h => h σ (I.len.trans hn)) c)
section
variable {X : Cx} {CX : CXT} {k : Nat} {ps : List Str} {sp : Sp} {E : XK} {o e : Expr} {es : List Expr} {ta : TE} {t : TA} {C : Addr} {m : Str} {apos pos : Pos}
theorem pe_met {pl : Sem Bool} (c : Cls X.K C) (G : Met X.prog X.w X.K X.mg X.base CX C m k ps sp) (hr : Room k X.A) (hx : Passes CX X E) (ho : PE X o ta) (ha : PA X (e :: es) t) 
    (he : starEach (e :: es) X.env = (false, eval e X.env) :: starEach es X.env := by rfl) (hpl : (backTo pos (starEach es X.env)).any (·.1) = false := by rfl)
    (ht : eval (.Call (.Attribute o m apos) (e :: es) [] pos) X.env = (do
      let ov ← eval o X.env
      standAt apos.atName
      let (f, first) ← holding [ov] (getMethod ov m pl)
      callWith pos f first (backTo pos (starEach (e :: es) X.env)) (backToKw pos (keywordEach [] X.env))) := by rfl) :
    PE X (.Call (.Attribute o m apos) (e :: es) [] pos) (tMeth C m sp [] E ta t) := by
  obtain ⟨f, fd, hm, hb, F⟩ := G.ex
  exact pe_meth ho c hm F hr hb .nil hx ha he hpl ht
end
def rList (K : PySem.W.Frag) : List V → Hp → (V → Hp → Prop) → Prop := fun xs H Q => ∃ p ys, xs = [.ref p] ∧ (SqL K H p ys ∨ SqT K H p ys) ∧ ∀ l, H l = none → Q (.ref l) (upd H l (.lst ys))
def spLThen (K : PySem.W.Frag) (CJ CB : Addr) : Sp := fun vs H Q _ => ∃ (j b : Addr) (L : List (Str × Int)) (us : List V) (xs : List Ent) (v : V) (o : Option Ent), vs = [.ref j, v] ∧ JAt K CJ CB H j b L us xs ∧ us.length < 400 ∧ ThAt K H v o ∧
  (∀ (t l : Addr) H' x, o = some x → (wk L ((xs ++ [x]).map some) 0 (fun _ => none) none).1 = none → Same H H' → H' t = some (.tup [.str "told", .ref l]) → H' l = some (.lst (us ++ [v])) → Q (.ref t) H') ∧
  (∀ (t : Addr) i H', (wk L (xs.map some ++ [o]) 0 (fun _ => none) none).1 = some i → Same H H' → H' t = some (.tup [.str "refused", .int (i : Int)]) → Q (.ref t) H')
def spLHeard (K : PySem.W.Frag) (CJ CB : Addr) : Sp := fun vs H Q _ => ∃ (j b : Addr) (L : List (Str × Int)) (us : List V) (xs : List Ent) (v : V), vs = [.ref j, v] ∧ JAt K CJ CB H j b L us xs ∧ us.length ≤ 400 ∧
  ((∃ n, v = .int n ∧ ∀ k (t l : Addr) H', xs.filter (fun x => decide (x.arr ≤ n)) = xs.take k → Same H H' → H' t = some (.tup [.str "told", .ref l]) → H' l = some (.lst (us.take k)) → Q (.ref t) H') ∨
   (NotInt K H v ∧ ∀ (t : Addr) H', Same H H' → H' t = some (.tup [.str "refused", v]) → Q (.ref t) H'))
structure J9 (P : Program) (w : World) (K : PySem.W.Frag) (mg : Str → Option Value) (base : Heap) (CJ CB CE CM : Addr) : Prop where
  then_ : Met P w K mg base (L2.CX P w) CJ "then" 9 ["self", "entry"] (spThen K CJ CB CE)
  heard : Met P w K mg base (L2.CX P w) CJ "heard" 9 ["self", "h"] (spHeard K CJ CB CM)
section
variable {P : Program} {w : World} {K : PySem.W.Frag} {mg : Str → Option Value} {base : Heap}
abbrev s_l_then : Stmt := topS 41
theorem sc_l_then : FnScope ["journal", "entry", "e"] ["journal", "entry"] (defScope s_l_then) := ⟨rfl, rfl, rfl, by decide +kernel, rfl, by decide +kernel, by decide +kernel⟩
theorem ok_lthen {f CJ CB CE fE CM : Addr} {fd : FuncData} (F : Fun K "_law_then" "_law_then" s_l_then f fd) (B : Blt mg) (T : Cj P K mg CJ CB) (TE : PySem.BadX.Txt P K mg "at" "at" CE fE) (c_BadEntry : mg "BadEntry" = some (.ref CE)) (G : J9 P w K mg base CJ CB CE CM) : FnOk P w K mg base CX0 11 f fd ["journal", "entry"] (spLThen K CJ CB) := by
  refine F.ok sc_l_then (fun vs H Q E h => ?_) (fun cdv A outer s H vs Q E hr h => ?_)
  · obtain ⟨j, b, L, us, xs, v, o, rfl, _⟩ := h
    rfl
  · obtain ⟨j, b, L, us, xs, v, o, rfl, hJ, h4, hT, qg, qb⟩ := h
    refine ⟨_, (pss_one (ps_try_as (i := 2) (tb := fun W => tRet (tTup (tCons (tC (.str "told")) (tCons (tCB (rList K) (tCons (tFld K (tMeth CJ "then" (spThen K CJ CB CE) [] (WEn 3 W) (tVar 0) (tCons (tVar 1) tNil)) "entries") tNil)) tNil)))) (ts := fun a cls d => tRet (tTup (tCons (tC (.str "refused")) (tCons (tByB "at" CE a cls d (tVar 2)) tNil)))) (Wout := fun _ _ _ _ => False) rfl rfl sc_l_then.nd rfl rfl ⟨rfl, by decide, .inl c_BadEntry⟩ takes0 (fun W pn xe tk _ =>
      (pss_one (ps_ret (pe_tup (pa_cons pe_str (pa_cons (pe_callTy call_list_of (by rfl) B.list (by decide +kernel) (pa_cons (pe_fld (pe_met T.cl G.then_ (hr.mono (by decide)) (passN (n := 3) rfl tk) (pv 0) (pa_cons (pv 1) pa_nil)) rfl) pa_nil)) pa_nil))))))
      (fun a oe cls d pn hz hf => (pss_one (ps_ret (pe_tup (pa_cons pe_str (pa_cons (pe_byB TE hz hf (pv 2)) pa_nil)))))))), ?_⟩
    obtain ⟨dx, t0, kd, h1, h2, h3, hl, h5, h6⟩ := id hJ
    refine ⟨_, rfl, j, dx, _, rfl, h1, jf_no _ _ _ (by decide +kernel) (by decide +kernel) (by decide +kernel), _, rfl, j, b, L, us, xs, v, o, rfl, hJ, h4, hT, fun j' H1 x ho hw s1 hJ1 => ?_, fun i d H1 hw s1 hx σ hσ => ?_⟩
    · obtain ⟨dx1, t1, kd1, g1, g2, g3, _⟩ := hJ1
      refine ⟨_, _, _, _, _, rfl, g1, T.cl, T.nE, jf_e _ _ _, t1, _, rfl, .inr g3, fun l hl1 => ⟨(by show 2 ≤ sizeLine; decide), fun t ht => ?_⟩⟩
      have htl : l ≠ t := fun z => by rw [← z, upd_same] at ht; cases ht
      refine qg t l _ x ho hw (sameAt (s1.trans (sameAt (Same.refl _) hl1)) ?_) upd_same (by rw [upd_ne htl, upd_same])
      exact none_of (s1.trans (sameAt (Same.refl _) hl1)) ht
    · refine ⟨true, TE.te, fun _ a ha => ?_, fun q => Bool.noConfusion q⟩
      match σ, hσ with
      | [_, _, _], _ => exact ⟨_, rfl, rfl, rfl, d, _, rfl, hx, (by show 2 ≤ sizeLine; decide), fun t ht => qb t i _ hw (sameAt s1 (none_of s1 ht)) upd_same⟩
abbrev s_l_heard : Stmt := topS 42
theorem sc_l_heard : FnScope ["journal", "h", "e"] ["journal", "h"] (defScope s_l_heard) := ⟨rfl, rfl, rfl, by decide +kernel, rfl, by decide +kernel, by decide +kernel⟩
theorem ok_lheard {f CJ CB CE fM CM : Addr} {fd : FuncData} (F : Fun K "_law_heard" "_law_heard" s_l_heard f fd) (B : Blt mg) (T : Cj P K mg CJ CB) (TM : PySem.BadX.Txt P K mg "value" "value" CM fM) (c_BadMoment : mg "BadMoment" = some (.ref CM)) (G : J9 P w K mg base CJ CB CE CM) : FnOk P w K mg base CX0 11 f fd ["journal", "h"] (spLHeard K CJ CB) := by
  refine F.ok sc_l_heard (fun vs H Q E h => ?_) (fun cdv A outer s H vs Q E hr h => ?_)
  · obtain ⟨j, b, L, us, xs, v, rfl, _⟩ := h
    rfl
  · obtain ⟨j, b, L, us, xs, v, rfl, hJ, h4, hv⟩ := h
    refine ⟨_, (pss_one (ps_try_as (i := 2) (tb := fun W => tRet (tTup (tCons (tC (.str "told")) (tCons (tCB (rList K) (tCons (tFld K (tMeth CJ "heard" (spHeard K CJ CB CM) [] (WEn 3 W) (tVar 0) (tCons (tVar 1) tNil)) "entries") tNil)) tNil)))) (ts := fun a cls d => tRet (tTup (tCons (tC (.str "refused")) (tCons (tByB "value" CM a cls d (tVar 2)) tNil)))) (Wout := fun _ _ _ _ => False) rfl rfl sc_l_heard.nd rfl rfl ⟨rfl, by decide, .inl c_BadMoment⟩ takes0 (fun W pn xe tk _ =>
      (pss_one (ps_ret (pe_tup (pa_cons pe_str (pa_cons (pe_callTy call_list_of (by rfl) B.list (by decide +kernel) (pa_cons (pe_fld (pe_met T.cl G.heard (hr.mono (by decide)) (passN (n := 3) rfl tk) (pv 0) (pa_cons (pv 1) pa_nil)) rfl) pa_nil)) pa_nil))))))
      (fun a oe cls d pn hz hf => (pss_one (ps_ret (pe_tup (pa_cons pe_str (pa_cons (pe_byB TM hz hf (pv 2)) pa_nil)))))))), ?_⟩
    obtain ⟨dx, t0, kd, h1, h2, h3, hl, h5, h6⟩ := id hJ
    refine ⟨_, rfl, j, dx, _, rfl, h1, jf_no _ _ _ (by decide +kernel) (by decide +kernel) (by decide +kernel), _, rfl, j, b, L, us, xs, v, rfl, hJ, h4, ?_⟩
    rcases hv with ⟨n, rfl, q⟩ | ⟨ni, q⟩
    · refine .inl ⟨n, rfl, fun k j' H1 hk s1 hJ1 => ?_⟩
      obtain ⟨dx1, t1, kd1, g1, g2, g3, _⟩ := hJ1
      refine ⟨_, _, _, _, _, rfl, g1, T.cl, T.nE, jf_e _ _ _, t1, _, rfl, .inr g3, fun l hl1 => ⟨(by show 2 ≤ sizeLine; decide), fun t ht => ?_⟩⟩
      have htl : l ≠ t := fun z => by rw [← z, upd_same] at ht; cases ht
      have sT := s1.trans (sameAt (Same.refl _) hl1 (o := .lst (us.take k)))
      exact q k t l _ hk (sameAt sT (none_of sT ht)) upd_same (by rw [upd_ne htl, upd_same])
    · refine .inr ⟨ni, fun d H1 s1 hx σ hσ => ?_⟩
      refine ⟨true, TM.te, fun _ a ha => ?_, fun q => Bool.noConfusion q⟩
      match σ, hσ with
      | [_, _, _], _ => exact ⟨_, rfl, rfl, rfl, d, _, rfl, hx, (by show 2 ≤ sizeLine; decide), fun t ht => q t _ (sameAt s1 (none_of s1 ht)) upd_same⟩
end
end Ash

set_option Elab.async false
set_option linter.all false
set_option maxRecDepth 100000
set_option maxHeartbeats 4000000
namespace Ash
open PySem PySem.Spec PyProof.Rows L2
open C8 (pss_cut)
/-! ### the law's own entries -/
def AllE (R : Ent → Prop) (H : Hp) (us : List V) : Prop := ∀ v ∈ us, ∃ e x, v = .ref e ∧ EntAt H e x ∧ x.ok ∧ R x
theorem AllE.tk {R : Ent → Prop} {H H' : Hp} {us : List V} (h : AllE R H us) (s : TK H H') : AllE R H' us := fun v hv => by
  obtain ⟨e, x, h1, h2, h3⟩ := h v hv
  exact ⟨e, x, h1, s _ _ h2, h3⟩
theorem AllE.app {R : Ent → Prop} {H : Hp} {us vs : List V} (a : AllE R H us) (b : AllE R H vs) : AllE R H (us ++ vs) := fun v hv => by
  rcases List.mem_append.mp hv with h | h
  · exact a v h
  · exact b v h
theorem AllE.nil {R : Ent → Prop} {H : Hp} : AllE R H [] := fun v hv => nomatch hv
theorem AllE.cons {R : Ent → Prop} {H : Hp} {us : List V} {e : Addr} {x : Ent} (h : EntAt H e x) (ok : x.ok) (r : R x) (a : AllE R H us) : AllE R H (.ref e :: us) := fun v hv => by
  rcases List.mem_cons.mp hv with rfl | h'
  · exact ⟨e, x, rfl, h, ok, r⟩
  · exact a v h'
/-- the states and the lateness -/
structure Sts (H : Hp) (dl ds : Addr) (L : List (Str × Int)) (S : Kn) (n : Nat) : Prop where
  dl : H dl = some (.dK (LK L))
  LL : Lates L
  st : StAt H ds S n
  ok : KnOk L S
  pos : ∀ id, S id ≠ none → 0 ≤ id
theorem Sts.same {H H' : Hp} {dl ds : Addr} {L : List (Str × Int)} {S : Kn} {n : Nat} (D : Sts H dl ds L S n) (s : Same H H') : Sts H' dl ds L S n := ⟨s _ _ D.dl, D.LL, D.st.same s, D.ok, D.pos⟩
theorem Sts.pl {H H' : Hp} {p s dl ds : Addr} {L : List (Str × Int)} {S : Kn} {n : Nat} (D : Sts H dl ds L S n) (P0 : PoolAt H p s) (P : Pl H H' p s) : Sts H' dl ds L S n := ⟨P.dk P0 D.dl, D.LL, D.st.pl P0 P, D.ok, D.pos⟩
theorem Lates.val {L : List (Str × Int)} (h : Lates L) {z : Str} {l : Int} (e : L.lookup z = some l) : 0 ≤ l ∧ l ≤ 1000000 ∧ IsNm z := by
  have hzm : z ∈ L.map (·.1) := by
    by_cases hz : z ∈ L.map (·.1)
    · exact hz
    · rw [lookup_none hz] at e
      cases e
  obtain ⟨x, hx, rfl⟩ := List.mem_map.mp hzm
  rw [lookup_mem h.nd hx] at e
  cases e
  exact ⟨h.lo _ hx, h.hi _ hx, h.nm _ hx⟩
/-- a turn over the states' ids -/
theorem st_turn {H : Hp} {L : List (Str × Int)} {S : Kn} {kvs : List (Key × V)} {i : Nat} {x : V} (h3 : ∀ kv ∈ kvs, ∃ id, kv.1 = Sum.inl id) (h4 : ∀ id, SV H (valV kvs (Sum.inl id)) (S id)) (ok : KnOk L S) (hi : (kvs.map fun kv => kV kv.1)[i]? = some x) :
    ∃ id v, x = .int id ∧ valV kvs (Sum.inl id) = some v ∧ ((S id = some .tb ∧ v = .non) ∨ ∃ z k m a t lt, S id = some (.at_ z k m a) ∧ v = .ref t ∧ H t = some (.tup [.str z, .str k, .int m, .int a]) ∧ L.lookup z = some lt) := by
  obtain ⟨kv, hkv, rfl⟩ : ∃ kv, kvs[i]? = some kv ∧ x = kV kv.1 := by
    rw [List.getElem?_map] at hi
    cases e : kvs[i]? with
    | none => rw [e] at hi; cases hi
    | some z => rw [e] at hi; exact ⟨z, rfl, (Option.some.inj hi).symm⟩
  have hm := List.mem_of_getElem? hkv
  obtain ⟨id, hid⟩ := h3 _ hm
  obtain ⟨v, hv⟩ := mem_val hm
  rw [hid] at hv ⊢
  have sv := h4 id
  rw [hv] at sv
  refine ⟨id, v, rfl, hv, ?_⟩
  cases eS : S id with
  | none => rw [eS] at sv; exact absurd sv (fun z => z)
  | some r =>
    rw [eS] at sv
    cases r with
    | tb => exact .inl ⟨rfl, sv⟩
    | at_ z k m a =>
      obtain ⟨t, h1, h2⟩ := sv
      obtain ⟨_, _, hz⟩ := ok _ _ _ _ _ eS
      obtain ⟨lt, hlt⟩ := Option.isSome_iff_exists.mp hz
      exact .inr ⟨z, k, m, a, t, lt, rfl, h1, h2, hlt⟩
def spGood : Sp := fun vs H Q _ => ∃ (dl ds : Addr) (L : List (Str × Int)) (S : Kn) (n : Nat) (now : Int), vs = [.ref ds, .ref dl, .int now] ∧ Sts H dl ds L S n ∧ n ≤ 200 ∧
  ∀ (q : Addr) us H', H q = none → Same H H' → H' q = some (.lst us) → us.length ≤ 3 * n → AllE (fun x => now ≤ x.arr ∧ ∃ y, behind L x (S x.id) = some y) H' us → Q (.ref q) H'
def spBad : Sp := fun vs H Q _ => ∃ (p s dl ds : Addr) (L : List (Str × Int)) (S : Kn) (n : Nat) (number now : Int), vs = [.ref p, .ref dl, .ref ds, .int number, .int now] ∧ PoolAt H p s ∧ Sts H dl ds L S n ∧ n ≤ 200 ∧ 0 ≤ number ∧ S number = none ∧
  ∀ (q : Addr) us H', Pl H H' p s → H' q = some (.lst us) → q ≠ p → 1 ≤ us.length → us.length ≤ 5 + 3 * n → AllE (fun x => x.arr < now ∨ behind L x (S x.id) = none) H' us → Q (.ref q) H'
section
variable {P : Program} {w : World} {K : PySem.W.Frag} {mg : Str → Option Value} {base : Heap}
abbrev s_l_arrival : Stmt := topS 43
theorem sc_l_arrival : FnScope ["entry"] ["entry"] (defScope s_l_arrival) := ⟨rfl, rfl, rfl, by decide +kernel, rfl, by decide +kernel, by decide +kernel⟩
theorem ok_larr {f : Addr} {fd : FuncData} (F : Fun K "_law_arrival" "_law_arrival" s_l_arrival f fd) (B : Blt mg) : FnOk P w K mg base CX0 1 f fd ["entry"] (spArr K) := by
  refine F.ok sc_l_arrival (fun vs H Q E h => ?_) (fun cdv A outer s H vs Q E hr h => ?_)
  · obtain ⟨e, x, rfl, _⟩ := h
    rfl
  · obtain ⟨e, x, rfl, hx, q⟩ := h
    refine ⟨_, (pss_one (ps_ret (pe_ix ix_tup (pv 0) (pe_op op_sub (pe_callB call_len_seq (by rfl) B.len (by decide +kernel) (pa_cons (pv 0) pa_nil)) pe_int) (fun _ _ => rfl)))), ?_⟩
    cases x with
    | row id s k m a r => exact ⟨_, rfl, _, rfl, e, _, rfl, .inr (SqT.of hx), _, _, rfl, rfl, _, _, _, _, rfl, rfl, SqT.of hx, rfl, q⟩
    | fix id m a r => exact ⟨_, rfl, _, rfl, e, _, rfl, .inr (SqT.of hx), _, _, rfl, rfl, _, _, _, _, rfl, rfl, SqT.of hx, rfl, q⟩
    | gone id r => exact ⟨_, rfl, _, rfl, e, _, rfl, .inr (SqT.of hx), _, _, rfl, rfl, _, _, _, _, rfl, rfl, SqT.of hx, rfl, q⟩
abbrev s_l_at_the_end : Stmt := topS 45
theorem sc_l_at_the_end : FnScope ["states", "lates", "now", "found", "other", "end"] ["states", "lates", "now"] (defScope s_l_at_the_end) := ⟨rfl, rfl, rfl, by decide +kernel, rfl, by decide +kernel, by decide +kernel⟩
theorem ok_end {f : Addr} {fd : FuncData} (F : Fun K "_law_at_the_end" "_law_at_the_end" s_l_at_the_end f fd) (B : Blt mg) : FnOk P w K mg base CX0 2 f fd ["states", "lates", "now"] spGood := by
  refine F.ok sc_l_at_the_end (fun vs H Q E h => ?_) (fun cdv A outer s H vs Q E hr h => ?_)
  · obtain ⟨dl, ds, L, S, n, now, rfl, _⟩ := h
    rfl
  · obtain ⟨dl, ds, L, S, n, now, rfl, D, hn, q⟩ := h
    have hu := hu_of hr
    refine ⟨_, (pss_cons (ps_set (i := 3) sc_l_at_the_end.nd rfl (Or.inl rfl) (pe_lst pa_nil))
    (pss_cons (ps_for PassesOwn.never rfl (pi_list (pe_callTy (call_listD (by rfl)) (by rfl) B.list (by decide +kernel) (pa_cons (pv 0) pa_nil))) (pg_name (i := 4) sc_l_at_the_end.nd rfl (Or.inl rfl))
      (pss_one (ps_if (pt_cmpR op_notN (pe_dget hu (pv 0) (pv 4) (fun _ _ => rfl)) pe_non (nomark _))
        (pss_cons (ps_set (i := 5) sc_l_at_the_end.nd rfl (Or.inl rfl) (pe_op op_add (pe_ix ix_tup (pe_dget hu (pv 0) (pv 4) (fun _ _ => rfl)) pe_int (fun _ _ => rfl)) (pe_dget hu (pv 1) (pe_ix ix_tup (pe_dget hu (pv 0) (pv 4) (fun _ _ => rfl)) pe_int (fun _ _ => rfl)) (fun _ _ => rfl))))
        (pss_one (ps_if (pt_cmpR op_ge (pv 5) (pv 2) (nomark _))
          (pss_cons (ps_set (i := 3) sc_l_at_the_end.nd rfl (Or.inl rfl) (pe_op op_cat (pv 3) (pe_lst (pa_cons (pe_tup (pa_cons pe_str (pa_cons (pv 4) (pa_cons (pv 5) (pa_cons pe_int (pa_cons (pv 5) pa_nil)))))) (pa_cons (pe_tup (pa_cons pe_str (pa_cons (pv 4) (pa_cons (pv 5) pa_nil)))) pa_nil)))))
          (pss_one (ps_expr (pe_bm PySem.F.plainAttrs_list PySem.F.slot_list_append PySem.F.type_list_append mt_append (pv 3) (pa_cons (pe_tup (pa_cons pe_str (pa_cons (pv 4) (pa_cons (pe_op op_sub (pv 5) (pe_dget hu (pv 1) (pe_ix ix_tup (pe_dget hu (pv 0) (pv 4) (fun _ _ => rfl)) pe_int (fun _ _ => rfl)) (fun _ _ => rfl))) (pa_cons pe_int (pa_cons (pv 5) pa_nil)))))) pa_nil)))))
          pss_nil)))
        pss_nil)))
    (pss_one (ps_ret (pv 3))))), ?_⟩
    obtain ⟨kvs, h1, h2, h3, h4⟩ := id D.st
    refine ⟨(by show 0 ≤ sizeLine; decide), fun q0 hq0 => ?_⟩
    have s0 := sameAt (Same.refl H) hq0 (o := .lst [])
    refine ⟨_, rfl, ds, kvs, rfl, .of (s0 _ _ h1), fun l hl => ⟨l, rfl, ⟨_, SqL.of upd_same⟩, ?_⟩⟩
    have s1 : Same H (upd (upd H q0 (.lst [])) l (.lst (kvs.map fun kv => kV kv.1))) := s0.trans (sameAt (Same.refl _) hl)
    have hql : q0 ≠ l := fun z => by rw [← z, upd_same] at hl; cases hl
    refine for_list (K := K) (a := l) (xs := kvs.map fun kv => kV kv.1) (fun i σ H1 => ∃ (q1 : Addr) (us : List V), (∃ a b, σ = [some (.ref ds), some (.ref dl), some (.int now), some (.ref q1), a, b]) ∧ H1 q1 = some (.lst us) ∧ H q1 = none ∧ q1 ≠ l ∧ us.length ≤ 3 * i ∧ AllE (fun x => now ≤ x.arr ∧ ∃ y, behind L x (S x.id) = some y) H1 us ∧ H1 l = some (.lst (kvs.map fun kv => kV kv.1)) ∧ Same H H1) ?_ (fun i σ H1 _ ⟨_, _, hv⟩ => SqL.of hv.2.2.2.2.2.2.1) ?_ ?_
    · exact ⟨q0, [], ⟨_, _, rfl⟩, by rw [upd_ne hql]; exact upd_same, hq0, hql, Nat.le_refl _, AllE.nil, upd_same, s1⟩
    · rintro i x σ H1 hi ⟨q1, us, ⟨a, b, rfl⟩, g1, g2, g3, g4, g5, g6, s2⟩
      obtain ⟨id, v, rfl, hv, hc⟩ := st_turn (fun kv h => h3 kv h) (fun id => (h4 id).but fun t xs e => s2 _ _ e) D.ok hi
      have hil : i < kvs.length := by
        have := (List.getElem?_eq_some_iff.mp hi).1
        rwa [List.length_map] at this
      have hg := DGet.k (k := Sum.inl id) (s2 _ _ h1)
      rw [hv] at hg
      rcases hc with ⟨eS, rfl⟩ | ⟨z, k, m, am, t, lt, eS, rfl, ht, hlt⟩
      · refine ⟨_, rfl, _, rfl, ds, _, rfl, hg, rfl, _, rfl, iteF ?_⟩
        exact ⟨q1, us, ⟨_, _, rfl⟩, g1, g2, g3, by omega, g5, g6, s2⟩
      · obtain ⟨lo, hi', hz⟩ := D.LL.val hlt
        have hid0 : 0 ≤ id := D.pos id (by rw [eS]; exact fun z => nomatch z)
        have hgl := DGet.k (k := Sum.inr z) (s2 _ _ D.dl)
        rw [LK_val, hlt] at hgl
        refine ⟨_, rfl, _, rfl, ds, _, rfl, hg, rfl, _, rfl, iteT ?_⟩
        refine ⟨_, rfl, _, rfl, ds, _, rfl, hg, _, _, _, _, rfl, rfl, SqT.of ht, rfl, _, rfl, _, rfl, _, rfl, ds, _, rfl, hg, _, _, _, _, rfl, rfl, SqT.of ht, rfl, dl, _, rfl, hgl, _, _, rfl, rfl, _, rfl, _, rfl, _, _, rfl, rfl, _, rfl, ?_⟩
        refine ite2 (fun c => ?_) (fun c => ?_)
        · have c : now ≤ m + lt := of_decide_eq_true c
          refine ⟨_, rfl, _, rfl, _, rfl, _, rfl, (by show 5 ≤ sizeLine; decide), fun e1 he1 => ⟨_, rfl, _, rfl, (by show 3 ≤ sizeLine; decide), fun e2 he2 => ⟨(by show 2 ≤ sizeLine; decide), fun l2 hl2 => ?_⟩⟩⟩
          have t1 : Same H1 (upd H1 e1 (.tup (Ent.fix id (m + lt) 1 (m + lt)).vs)) := sameAt (Same.refl _) he1
          have t2 : Same _ (upd (upd H1 e1 (.tup (Ent.fix id (m + lt) 1 (m + lt)).vs)) e2 (.tup (Ent.gone id (m + lt)).vs)) := sameAt (Same.refl _) he2
          have t3 : Same _ (upd (upd (upd H1 e1 (.tup (Ent.fix id (m + lt) 1 (m + lt)).vs)) e2 (.tup (Ent.gone id (m + lt)).vs)) l2 (.lst [V.ref e1, V.ref e2])) := sameAt (Same.refl _) hl2
          have x1 : EntAt _ e1 _ := (t2.trans t3) _ _ upd_same
          have x2 : EntAt _ e2 _ := t3 _ _ upd_same
          have t13 := (t1.trans t2).trans t3
          refine ⟨q1, l2, us, _, rfl, rfl, t13 _ _ g1, upd_same, ?_, fun q2 hq2 => ?_⟩
          · show us.length + 2 ≤ sizeLine
            exact Nat.le_of_lt (small1000 (by omega))
          have t4 : Same _ (upd (upd (upd (upd H1 e1 (.tup (Ent.fix id (m + lt) 1 (m + lt)).vs)) e2 (.tup (Ent.gone id (m + lt)).vs)) l2 (.lst [V.ref e1, V.ref e2])) q2 (.lst (us ++ [V.ref e1, V.ref e2]))) := sameAt (Same.refl _) hq2
          have t14 := t13.trans t4
          have hq2H : H q2 = none := none_of (s2.trans t13) hq2
          have s24 := s2.trans t14
          have hg4 := DGet.k (k := Sum.inl id) (s24 _ _ h1)
          rw [hv] at hg4
          have hgl4 := DGet.k (k := Sum.inr z) (s24 _ _ D.dl)
          rw [LK_val, hlt] at hgl4
          refine ⟨_, rfl, .inl ⟨rfl, _, SqL.of upd_same⟩, _, rfl, _, rfl, _, rfl, _, rfl, _, rfl, ds, _, rfl, hg4, _, _, _, _, rfl, rfl, SqT.of (t14 _ _ ht), rfl, dl, _, rfl, hgl4, _, _, rfl, rfl, _, rfl, (by show 5 ≤ sizeLine; decide), fun e3 he3 => ?_⟩
          have t5 : Same _ (upd (upd (upd (upd (upd H1 e1 (.tup (Ent.fix id (m + lt) 1 (m + lt)).vs)) e2 (.tup (Ent.gone id (m + lt)).vs)) l2 (.lst [V.ref e1, V.ref e2])) q2 (.lst (us ++ [V.ref e1, V.ref e2]))) e3 (.tup (Ent.fix id (m + lt - lt) 1 (m + lt)).vs)) := sameAt (Same.refl _) he3
          refine ⟨q2, us ++ [V.ref e1, V.ref e2], _, rfl, rfl, t5 _ _ upd_same, ?_, ?_⟩
          · rw [List.length_append]
            exact small1000 (by show us.length + 2 ≤ 1000; omega)
          have t15 := t14.trans t5
          have hq2' := t5 _ _ (upd_same (H := upd (upd (upd H1 e1 (.tup (Ent.fix id (m + lt) 1 (m + lt)).vs)) e2 (.tup (Ent.gone id (m + lt)).vs)) l2 (.lst [V.ref e1, V.ref e2])) (a := q2) (o := .lst (us ++ [V.ref e1, V.ref e2])))
          have tk6 := tk_off (o := .lst (us ++ [V.ref e1, V.ref e2] ++ [V.ref e3])) hq2' (fun xs z => by cases z)
          refine ⟨q2, us ++ [V.ref e1, V.ref e2] ++ [V.ref e3], ⟨_, _, rfl⟩, upd_same, hq2H, ?_, ?_, ?_, ?_, sameAt (s2.trans t15) hq2H⟩
          · exact Ne.symm (ne_of_none (t13 _ _ g6) hq2)
          · rw [List.length_append, List.length_append]
            show us.length + 2 + 1 ≤ 3 * (i + 1)
            omega
          · refine (((g5.tk (tk_same t15)).app (.cons (x := .fix id (m + lt) 1 (m + lt)) ((t4.trans t5) _ _ x1) ⟨hid0, fun _ _ _ _ _ _ z => by cases z⟩ ⟨c, ?_⟩ (.cons (x := .gone id (m + lt)) ((t4.trans t5) _ _ x2) ⟨hid0, fun _ _ _ _ _ _ z => by cases z⟩ ⟨c, ?_⟩ .nil))).app (.cons (x := .fix id (m + lt - lt) 1 (m + lt)) upd_same ⟨hid0, fun _ _ _ _ _ _ z => by cases z⟩ ⟨c, ?_⟩ .nil)).tk tk6
            · refine ⟨.at_ z k (m + lt) 1, ?_⟩
              show behind L _ (S id) = _
              rw [eS]
              show (L.lookup z).bind _ = _
              rw [hlt, Option.bind_some, if_pos ⟨by omega, by omega, by omega⟩]
            · refine ⟨.tb, ?_⟩
              show behind L _ (S id) = _
              rw [eS]
              show (L.lookup z).bind _ = _
              rw [hlt, Option.bind_some, if_pos (by omega)]
            · refine ⟨.at_ z k (m + lt - lt) 1, ?_⟩
              show behind L _ (S id) = _
              rw [eS]
              show (L.lookup z).bind _ = _
              rw [hlt, Option.bind_some, if_pos ⟨by omega, by omega, by omega⟩]
          · rw [upd_ne (ne_of_none (t13 _ _ g6) hq2)]
            exact t15 _ _ g6
        · exact ⟨q1, us, ⟨_, _, rfl⟩, g1, g2, g3, by omega, g5, g6, s2⟩
    · rintro σ H1 ⟨q1, us, ⟨a, b, rfl⟩, g1, g2, g3, g4, g5, g6, s2⟩
      rw [List.length_map] at g4
      exact ⟨_, rfl, q q1 us H1 g2 s2 g1 (by omega) g5⟩
abbrev s_l_bad : Stmt := topS 44
theorem sc_l_bad : FnScope ["pool", "lates", "states", "number", "now", "stream", "late", "found", "other", "end"] ["pool", "lates", "states", "number", "now"] (defScope s_l_bad) := ⟨rfl, rfl, rfl, by decide +kernel, rfl, by decide +kernel, by decide +kernel⟩
theorem ok_bad {f : Addr} {fd : FuncData} (F : Fun K "_law_bad" "_law_bad" s_l_bad f fd) (B : Blt mg) (G : G4 P w K mg base) : FnOk P w K mg base CX0 2 f fd ["pool", "lates", "states", "number", "now"] spBad := by
  refine F.ok sc_l_bad (fun vs H Q E h => ?_) (fun cdv A outer s H vs Q E hr h => ?_)
  · obtain ⟨p, s, dl, ds, L, S, n, number, now, rfl, _⟩ := h
    rfl
  · obtain ⟨p, s0, dl, ds, L, S, n, number, now, rfl, hP, D, hn, hnum, hSn, q⟩ := h
    have hu := hu_of hr
    refine ⟨_, (pss_cons (ps_set (i := 5) sc_l_bad.nd rfl (Or.inl rfl) (pe_ix ix_list (pe_callTy (call_listD (by rfl)) (by rfl) B.list (by decide +kernel) (pa_cons (pv 1) pa_nil)) (pe_cal G.law_draw (hr.mono (by decide)) pass0 (pa_cons (pv 0) (pa_cons (pe_callB call_lenD (by rfl) B.len (by decide +kernel) (pa_cons (pv 1) pa_nil)) pa_nil))) (fun _ _ => rfl)))
    (pss_cons (ps_set (i := 6) sc_l_bad.nd rfl (Or.inl rfl) (pe_dget hu (pv 1) (pv 5) (fun _ _ => rfl)))
    (pss_cut (ps_set (i := 7) sc_l_bad.nd rfl (Or.inl rfl) (pe_lst (pa_cons (pe_tup (pa_cons pe_str (pa_cons (pv 3) (pa_cons (pv 5) (pa_cons pe_str (pa_cons (pe_op op_add (pv 4) pe_int) (pa_cons pe_int (pa_cons (pv 4) pa_nil)))))))) (pa_cons (pe_tup (pa_cons pe_str (pa_cons (pv 3) (pa_cons (pv 5) (pa_cons pe_str (pa_cons (pe_op op_sub (pe_op op_sub (pv 4) (pv 6)) pe_int) (pa_cons pe_int (pa_cons (pv 4) pa_nil)))))))) pa_nil))))
    (pss_cut (ps_set (i := 7) sc_l_bad.nd rfl (Or.inl rfl) (pe_op op_cat (pv 7) (pe_lst (pa_cons (pe_tup (pa_cons pe_str (pa_cons (pv 3) (pa_cons (pv 4) (pa_cons pe_int (pa_cons (pv 4) pa_nil)))))) (pa_cons (pe_tup (pa_cons pe_str (pa_cons (pv 3) (pa_cons (pv 4) pa_nil)))) (pa_cons (pe_tup (pa_cons pe_str (pa_cons (pv 3) (pa_cons (pv 5) (pa_cons pe_str (pa_cons (pv 4) (pa_cons pe_int (pa_cons (pe_op op_sub (pv 4) pe_int) pa_nil)))))))) pa_nil))))))
    (pss_cons (ps_for PassesOwn.never rfl (pi_list (pe_callTy (call_listD (by rfl)) (by rfl) B.list (by decide +kernel) (pa_cons (pv 2) pa_nil))) (pg_name (i := 8) sc_l_bad.nd rfl (Or.inl rfl))
      (pss_cut (ps_expr (pe_bm PySem.F.plainAttrs_list PySem.F.slot_list_append PySem.F.type_list_append mt_append (pv 7) (pa_cons (pe_tup (pa_cons pe_str (pa_cons (pv 8) (pa_cons (pv 5) (pa_cons pe_str (pa_cons (pv 4) (pa_cons pe_int (pa_cons (pv 4) pa_nil)))))))) pa_nil)))
      (pss_one (ps_if (pt_cmpR op_isN (pe_dget hu (pv 2) (pv 8) (fun _ _ => rfl)) pe_non (nomark _))
        (pss_one (ps_set (i := 7) sc_l_bad.nd rfl (Or.inl rfl) (pe_op op_cat (pv 7) (pe_lst (pa_cons (pe_tup (pa_cons pe_str (pa_cons (pv 8) (pa_cons (pv 4) (pa_cons pe_int (pa_cons (pv 4) pa_nil)))))) (pa_cons (pe_tup (pa_cons pe_str (pa_cons (pv 8) (pa_cons (pv 4) pa_nil)))) pa_nil))))))
        (pss_cons (ps_set (i := 9) sc_l_bad.nd rfl (Or.inl rfl) (pe_op op_add (pe_ix ix_tup (pe_dget hu (pv 2) (pv 8) (fun _ _ => rfl)) pe_int (fun _ _ => rfl)) (pe_dget hu (pv 1) (pe_ix ix_tup (pe_dget hu (pv 2) (pv 8) (fun _ _ => rfl)) pe_int (fun _ _ => rfl)) (fun _ _ => rfl))))
        (pss_one (ps_if (pt_cmpR op_ge (pe_op op_add (pv 9) pe_int) (pv 4) (nomark _))
          (pss_one (ps_set (i := 7) sc_l_bad.nd rfl (Or.inl rfl) (pe_op op_cat (pv 7) (pe_lst (pa_cons (pe_tup (pa_cons pe_str (pa_cons (pv 8) (pa_cons (pe_op op_add (pv 9) pe_int) (pa_cons pe_int (pa_cons (pe_op op_add (pv 9) pe_int) pa_nil)))))) (pa_cons (pe_tup (pa_cons pe_str (pa_cons (pv 8) (pa_cons (pe_op op_add (pv 9) pe_int) pa_nil)))) pa_nil))))))
          pss_nil)))))))
    (pss_one (ps_ret (pv 7)))))))), ?_⟩
    have l1 := D.LL.some_
    have l8 := D.LL.few
    have n_a : IsNm "a" := by
      have e : (PySem.Str.ofString "a") = ⟨#[97]⟩ := by decide +kernel
      show IsNm (PySem.Str.ofString "a")
      rw [e]
      exact one_nm (by decide +kernel)
    refine ⟨_, rfl, dl, _, rfl, .of D.dl, fun l hl => ?_⟩
    have e1 : (LK L).map (fun kv => kV kv.1) = (L.map (·.1)).map V.str := by
      unfold LK
      rw [List.map_map, List.map_map]
      rfl
    rw [e1]
    have PP3 : Pl H (upd H l (.lst ((L.map (·.1)).map V.str))) p s0 := (Pl.refl hP).new hl
    have hlp : l ≠ p := fun z => hP.ne.1 (z ▸ hl)
    refine ⟨_, rfl, _, rfl, dl, _, rfl, PP3.dk hP D.dl, p, s0, _, rfl, PP3.now, (by rw [LK_len]; omega), (by rw [LK_len]; omega), fun g H4 g0 g1 P4 => ?_⟩
    rw [LK_len] at g1
    obtain ⟨g, rfl⟩ : ∃ n : Nat, g = (n : Int) := ⟨g.toNat, by omega⟩
    have hg : g < L.length := by omega
    have PP4 := PP3.trans P4
    have hm : L[g] ∈ L := List.getElem_mem hg
    have hlk : L.lookup L[g].1 = some L[g].2 := lookup_mem D.LL.nd hm
    have b0 := D.LL.lo _ hm
    have b1 := D.LL.hi _ hm
    have hzn := D.LL.nm _ hm
    refine ⟨_, _, _, V.str L[g].1, rfl, rfl, SqL.of (P4.keep upd_same hlp), atI_nat (by rw [List.getElem?_map, List.getElem?_map, List.getElem?_eq_getElem hg]; rfl), ?_⟩
    have D4 := D.pl hP PP4
    have hgl := DGet.k (k := Sum.inr L[g].1) D4.dl
    rw [LK_val, hlk] at hgl
    refine ⟨_, rfl, _, rfl, dl, _, rfl, hgl, ?_⟩
    clear hgl hm e1
    generalize L[g].1 = z at hlk hzn ⊢
    generalize L[g].2 = lt at hlk b0 b1 ⊢
    have okR : ∀ id m a r, 0 ≤ id → (Ent.row id z "a" m a r).ok := fun id m a r h => ⟨h, fun _ _ _ _ _ _ e => by cases e; exact ⟨hzn, n_a⟩⟩
    have okF : ∀ id m a r, 0 ≤ id → (Ent.fix id m a r).ok := fun id m a r h => ⟨h, fun _ _ _ _ _ _ e => by cases e⟩
    have okG : ∀ id r, 0 ≤ id → (Ent.gone id r).ok := fun id r h => ⟨h, fun _ _ _ _ _ _ e => by cases e⟩
    have PS : ∀ {H5 : Hp}, Same H4 H5 → Pl H H5 p s0 := fun s => PP4.same s
    -- found
    obtain ⟨R, hR⟩ : ∃ R : Ent → Prop, R = fun x => x.arr < now ∨ behind L x (S x.id) = none := ⟨_, rfl⟩
    rw [← hR] at q
    have rA : ∀ x : Ent, x.arr < now → R x := fun x h => by rw [hR]; exact .inl h
    have rB : ∀ x : Ent, behind L x (S x.id) = none → R x := fun x h => by rw [hR]; exact .inr h
    have hq4 : ∀ {a : Addr}, H4 a = none → a ≠ p := fun h z => PP4.now.ne.1 (z ▸ h)
    refine ⟨fun σ H5 => ∃ (q0 : Addr) (us : List V), (∃ a b, σ = [some (.ref p), some (.ref dl), some (.ref ds), some (.int number), some (.int now), some (.str z), some (.int lt), some (.ref q0), a, b]) ∧ H4 q0 = none ∧ H5 q0 = some (.lst us) ∧ us.length = 2 ∧ AllE R H5 us ∧ Same H4 H5, ?_, ?_⟩
    · refine ⟨_, rfl, _, rfl, _, rfl, _, _, rfl, rfl, _, rfl, (by show 7 ≤ sizeLine; decide), fun e1 he1 => ⟨_, rfl, _, rfl, _, rfl, _, rfl, _, _, rfl, rfl, _, _, rfl, rfl, _, rfl, (by show 7 ≤ sizeLine; decide), fun e2 he2 => ⟨(by show 2 ≤ sizeLine; decide), fun q0 hq0 => ?_⟩⟩⟩
      have u1 : Same _ (upd H4 e1 (.tup (Ent.row number z "a" (now + 1) 0 now).vs)) := sameAt (Same.refl _) he1
      have u2 : Same _ (upd (upd H4 e1 (.tup (Ent.row number z "a" (now + 1) 0 now).vs)) e2 (.tup (Ent.row number z "a" (now - lt - 1) 0 now).vs)) := sameAt (Same.refl _) he2
      have u3 : Same _ (upd (upd (upd H4 e1 (.tup (Ent.row number z "a" (now + 1) 0 now).vs)) e2 (.tup (Ent.row number z "a" (now - lt - 1) 0 now).vs)) q0 (.lst [V.ref e1, V.ref e2])) := sameAt (Same.refl _) hq0
      refine ⟨q0, _, ⟨_, _, rfl⟩, none_of (u1.trans u2) hq0, upd_same, rfl, .cons ((u2.trans u3) _ _ upd_same) (okR _ _ _ _ hnum) (rB _ ?_) (.cons (u3 _ _ upd_same) (okR _ _ _ _ hnum) (rB _ ?_) .nil), (u1.trans u2).trans u3⟩
      · show behind L _ (S number) = none
        rw [hSn]
        show (L.lookup z).bind _ = _
        rw [hlk, Option.bind_some, if_neg (by omega)]
      · show behind L _ (S number) = none
        rw [hSn]
        show (L.lookup z).bind _ = _
        rw [hlk, Option.bind_some, if_neg (by omega)]
    rintro σ H5 ⟨q0, us, ⟨a0, a1, rfl⟩, f0, f1, f2, f3, f4⟩
    refine ⟨fun σ H5 => ∃ (q0 : Addr) (us : List V), (∃ a b, σ = [some (.ref p), some (.ref dl), some (.ref ds), some (.int number), some (.int now), some (.str z), some (.int lt), some (.ref q0), a, b]) ∧ H4 q0 = none ∧ H5 q0 = some (.lst us) ∧ us.length = 5 ∧ AllE R H5 us ∧ Same H4 H5, ?_, ?_⟩
    · refine ⟨_, rfl, _, rfl, _, rfl, _, rfl, (by show 5 ≤ sizeLine; decide), fun e1 he1 => ⟨_, rfl, _, rfl, (by show 3 ≤ sizeLine; decide), fun e2 he2 => ⟨_, rfl, _, rfl, _, rfl, _, rfl, _, _, rfl, rfl, (by show 7 ≤ sizeLine; decide), fun e3 he3 => ⟨(by show 3 ≤ sizeLine; decide), fun l2 hl2 => ?_⟩⟩⟩⟩
      have u1 : Same _ (upd H5 e1 (.tup (Ent.fix number now 0 now).vs)) := sameAt (Same.refl _) he1
      have u2 : Same _ (upd (upd H5 e1 (.tup (Ent.fix number now 0 now).vs)) e2 (.tup (Ent.gone number now).vs)) := sameAt (Same.refl _) he2
      have u3 : Same _ (upd (upd (upd H5 e1 (.tup (Ent.fix number now 0 now).vs)) e2 (.tup (Ent.gone number now).vs)) e3 (.tup (Ent.row number z "a" now 0 (now - 1)).vs)) := sameAt (Same.refl _) he3
      have u4 : Same _ (upd (upd (upd (upd H5 e1 (.tup (Ent.fix number now 0 now).vs)) e2 (.tup (Ent.gone number now).vs)) e3 (.tup (Ent.row number z "a" now 0 (now - 1)).vs)) l2 (.lst [V.ref e1, V.ref e2, V.ref e3])) := sameAt (Same.refl _) hl2
      have u14 := ((u1.trans u2).trans u3).trans u4
      refine ⟨q0, l2, us, _, rfl, rfl, u14 _ _ f1, upd_same, ?_, fun q1 hq1 => ?_⟩
      · show us.length + 3 ≤ sizeLine
        exact Nat.le_of_lt (small1000 (by omega))
      have u5 := sameAt (Same.refl _) hq1 (o := .lst (us ++ [V.ref e1, V.ref e2, V.ref e3]))
      refine ⟨q1, _, ⟨_, _, rfl⟩, none_of (f4.trans u14) hq1, upd_same, ?_, (f3.tk (tk_same (u14.trans u5))).app (.cons (x := .fix number now 0 now) ((((u2.trans u3).trans u4).trans u5) _ _ upd_same) (okF _ _ _ _ hnum) (rB _ ?_) (.cons (x := .gone number now) (((u3.trans u4).trans u5) _ _ upd_same) (okG _ _ hnum) (rB _ ?_) (.cons (x := .row number z "a" now 0 (now - 1)) ((u4.trans u5) _ _ upd_same) (okR _ _ _ _ hnum) (rA _ ?_) .nil))), (f4.trans u14).trans u5⟩
      · rw [List.length_append, f2]
        rfl
      · show behind L _ (S number) = none
        rw [hSn]
        rfl
      · show behind L _ (S number) = none
        rw [hSn]
        rfl
      · show now - 1 < now
        omega
    clear f0 f1 f2 f3 f4 a0 a1 q0 us H5
    rintro σ H5 ⟨q0, us, ⟨a0, a1, rfl⟩, f0, f1, f2, f3, f4⟩
    obtain ⟨kvs, h1, h2, h3, h4⟩ := id D4.st
    refine ⟨_, rfl, ds, kvs, rfl, .of (f4 _ _ h1), fun l hl => ⟨l, rfl, ⟨_, SqL.of upd_same⟩, ?_⟩⟩
    have s1 : Same H4 (upd H5 l (.lst (kvs.map fun kv => kV kv.1))) := f4.trans (sameAt (Same.refl _) hl)
    have hql : q0 ≠ l := ne_of_none f1 hl
    refine for_list (K := K) (a := l) (xs := kvs.map fun kv => kV kv.1) (fun i σ H1 => ∃ (q1 : Addr) (us : List V), (∃ a b, σ = [some (.ref p), some (.ref dl), some (.ref ds), some (.int number), some (.int now), some (.str z), some (.int lt), some (.ref q1), a, b]) ∧ H1 q1 = some (.lst us) ∧ H4 q1 = none ∧ q1 ≠ l ∧ (5 ≤ us.length ∧ us.length ≤ 5 + 3 * i) ∧ AllE R H1 us ∧ H1 l = some (.lst (kvs.map fun kv => kV kv.1)) ∧ Same H4 H1) ?_ (fun i σ H1 _ ⟨_, _, hv⟩ => SqL.of hv.2.2.2.2.2.2.1) ?_ ?_
    · exact ⟨q0, us, ⟨_, _, rfl⟩, by rw [upd_ne hql]; exact f1, f0, hql, ⟨by omega, by omega⟩, f3.tk (tk_same (sameAt (Same.refl _) hl)), upd_same, s1⟩
    · rintro i x σ H1 hi ⟨q1, us, ⟨a, b, rfl⟩, g1, g2, g3, g4, g5, g6, s2⟩
      obtain ⟨id, v, rfl, hv, hc⟩ := st_turn (fun kv h => h3 kv h) (fun id => (h4 id).but fun t xs e => s2 _ _ e) D.ok hi
      have hil : i < kvs.length := by
        have := (List.getElem?_eq_some_iff.mp hi).1
        rwa [List.length_map] at this
      have hid0 : 0 ≤ id := D.pos id (by rcases hc with ⟨eS, _⟩ | ⟨_, _, _, _, _, _, eS, _⟩ <;> (rw [eS]; exact fun z => nomatch z))
      refine ⟨fun σ HX => ∃ e0, σ = [some (.ref p), some (.ref dl), some (.ref ds), some (.int number), some (.int now), some (.str z), some (.int lt), some (.ref q1), some (.int id), b] ∧ HX q1 = some (.lst (us ++ [V.ref e0])) ∧ AllE R HX (us ++ [V.ref e0]) ∧ HX l = some (.lst (kvs.map fun kv => kV kv.1)) ∧ Same H4 HX ∧ (∀ t xs, H1 t = some (.tup xs) → HX t = some (.tup xs)), ?_, ?_⟩
      · refine ⟨_, rfl, .inl ⟨rfl, _, SqL.of g1⟩, _, rfl, _, rfl, _, rfl, _, rfl, (by show 7 ≤ sizeLine; decide), fun e0 he0 => ?_⟩
        have t1 : Same H1 (upd H1 e0 (.tup (Ent.row id z "a" now 0 now).vs)) := sameAt (Same.refl _) he0
        refine ⟨q1, us, _, rfl, rfl, t1 _ _ g1, small1000 (by omega), ?_⟩
        have tk2 := tk_off (o := .lst (us ++ [V.ref e0])) (t1 _ _ g1) (fun xs z => by cases z)
        have E2 : AllE R _ (us ++ [V.ref e0]) := ((g5.tk (tk_same t1)).app (.cons (x := .row id z "a" now 0 now) upd_same (okR _ _ _ _ hid0) (rB _ (by
          show behind L _ (S id) = none
          rcases hc with ⟨eS, _⟩ | ⟨_, _, _, _, _, _, eS, _⟩ <;> (rw [eS]; rfl))) .nil)).tk tk2
        exact ⟨e0, rfl, upd_same, E2, by rw [upd_ne (Ne.symm g3)]; exact t1 _ _ g6, sameAt (s2.trans t1) g2, fun t xs h => tk2 _ _ (t1 _ _ h)⟩
      rintro σ HX ⟨e0, rfl, g1', E2, g6', s3, tt⟩
      have ul : (us ++ [V.ref e0]).length = us.length + 1 := by rw [List.length_append]; rfl
      have hg := DGet.k (k := Sum.inl id) (s3 _ _ h1)
      rw [hv] at hg
      rcases hc with ⟨eS, rfl⟩ | ⟨z1, k, m, am, t, lt1, eS, rfl, ht, hlt⟩
      · refine ⟨_, rfl, _, rfl, ds, _, rfl, hg, rfl, _, rfl, iteT ?_⟩
        refine ⟨_, rfl, _, rfl, _, rfl, _, rfl, (by show 5 ≤ sizeLine; decide), fun e1 he1 => ⟨_, rfl, _, rfl, (by show 3 ≤ sizeLine; decide), fun e2 he2 => ⟨(by show 2 ≤ sizeLine; decide), fun l2 hl2 => ?_⟩⟩⟩
        have t1 : Same HX (upd HX e1 (.tup (Ent.fix id now 0 now).vs)) := sameAt (Same.refl _) he1
        have t2 : Same _ (upd (upd HX e1 (.tup (Ent.fix id now 0 now).vs)) e2 (.tup (Ent.gone id now).vs)) := sameAt (Same.refl _) he2
        have t3 : Same _ (upd (upd (upd HX e1 (.tup (Ent.fix id now 0 now).vs)) e2 (.tup (Ent.gone id now).vs)) l2 (.lst [V.ref e1, V.ref e2])) := sameAt (Same.refl _) hl2
        have t13 := (t1.trans t2).trans t3
        refine ⟨q1, l2, _, _, rfl, rfl, t13 _ _ g1', upd_same, ?_, fun q2 hq2 => ?_⟩
        · rw [ul]
          show us.length + 1 + 2 ≤ sizeLine
          exact Nat.le_of_lt (small1000 (by omega))
        have t4 := sameAt (Same.refl _) hq2 (o := .lst (us ++ [V.ref e0] ++ [V.ref e1, V.ref e2]))
        refine ⟨q2, _, ⟨_, _, rfl⟩, upd_same, none_of (s3.trans t13) hq2, Ne.symm (ne_of_none (t13 _ _ g6') hq2), ⟨?_, ?_⟩, (E2.tk (tk_same (t13.trans t4))).app (.cons (x := .fix id now 0 now) (((t2.trans t3).trans t4) _ _ upd_same) (okF _ _ _ _ hid0) (rB _ ?_) (.cons (x := .gone id now) ((t3.trans t4) _ _ upd_same) (okG _ _ hid0) (rB _ ?_) .nil)), (t13.trans t4) _ _ g6', (s3.trans t13).trans t4⟩
        · rw [List.length_append, ul]
          show 5 ≤ us.length + 1 + 2
          omega
        · rw [List.length_append, ul]
          show us.length + 1 + 2 ≤ _
          omega
        · show behind L _ (S id) = none
          rw [eS]
          rfl
        · show behind L _ (S id) = none
          rw [eS]
          rfl
      · obtain ⟨lo, hi', hz⟩ := D.LL.val hlt
        have hgl := DGet.k (k := Sum.inr z1) (s3 _ _ D4.dl)
        rw [LK_val, hlt] at hgl
        have ht := tt _ _ ht
        refine ⟨_, rfl, _, rfl, ds, _, rfl, hg, rfl, _, rfl, iteF ?_⟩
        refine ⟨_, rfl, _, rfl, ds, _, rfl, hg, _, _, _, _, rfl, rfl, SqT.of ht, rfl, _, rfl, _, rfl, _, rfl, ds, _, rfl, hg, _, _, _, _, rfl, rfl, SqT.of ht, rfl, dl, _, rfl, hgl, _, _, rfl, rfl, _, rfl, _, _, rfl, rfl, _, rfl, _, _, rfl, rfl, _, rfl, ?_⟩
        refine ite2 (fun c => ?_) (fun c => ?_)
        · refine ⟨_, rfl, _, rfl, _, rfl, _, _, rfl, rfl, _, rfl, _, _, rfl, rfl, (by show 5 ≤ sizeLine; decide), fun e1 he1 => ⟨_, rfl, _, rfl, _, _, rfl, rfl, (by show 3 ≤ sizeLine; decide), fun e2 he2 => ⟨(by show 2 ≤ sizeLine; decide), fun l2 hl2 => ?_⟩⟩⟩
          have t1 : Same HX (upd HX e1 (.tup (Ent.fix id (m + lt1 + 1) 0 (m + lt1 + 1)).vs)) := sameAt (Same.refl _) he1
          have t2 : Same _ (upd (upd HX e1 (.tup (Ent.fix id (m + lt1 + 1) 0 (m + lt1 + 1)).vs)) e2 (.tup (Ent.gone id (m + lt1 + 1)).vs)) := sameAt (Same.refl _) he2
          have t3 : Same _ (upd (upd (upd HX e1 (.tup (Ent.fix id (m + lt1 + 1) 0 (m + lt1 + 1)).vs)) e2 (.tup (Ent.gone id (m + lt1 + 1)).vs)) l2 (.lst [V.ref e1, V.ref e2])) := sameAt (Same.refl _) hl2
          have t13 := (t1.trans t2).trans t3
          refine ⟨q1, l2, _, _, rfl, rfl, t13 _ _ g1', upd_same, ?_, fun q2 hq2 => ?_⟩
          · rw [ul]
            show us.length + 1 + 2 ≤ sizeLine
            exact Nat.le_of_lt (small1000 (by omega))
          have t4 := sameAt (Same.refl _) hq2 (o := .lst (us ++ [V.ref e0] ++ [V.ref e1, V.ref e2]))
          refine ⟨q2, _, ⟨_, _, rfl⟩, upd_same, none_of (s3.trans t13) hq2, Ne.symm (ne_of_none (t13 _ _ g6') hq2), ⟨?_, ?_⟩, (E2.tk (tk_same (t13.trans t4))).app (.cons (x := .fix id (m + lt1 + 1) 0 (m + lt1 + 1)) (((t2.trans t3).trans t4) _ _ upd_same) (okF _ _ _ _ hid0) (rB _ ?_) (.cons (x := .gone id (m + lt1 + 1)) ((t3.trans t4) _ _ upd_same) (okG _ _ hid0) (rB _ ?_) .nil)), (t13.trans t4) _ _ g6', (s3.trans t13).trans t4⟩
          · rw [List.length_append, ul]
            show 5 ≤ us.length + 1 + 2
            omega
          · rw [List.length_append, ul]
            show us.length + 1 + 2 ≤ _
            omega
          · show behind L _ (S id) = none
            rw [eS]
            show (L.lookup z1).bind _ = _
            rw [hlt, Option.bind_some, if_neg (by omega)]
          · show behind L _ (S id) = none
            rw [eS]
            show (L.lookup z1).bind _ = _
            rw [hlt, Option.bind_some, if_neg (by omega)]
        · exact ⟨q1, _, ⟨_, _, rfl⟩, g1', g2, g3, ⟨by omega, by omega⟩, E2, g6', s3⟩
    · rintro σ H1 ⟨q1, us, ⟨a, b, rfl⟩, g1, g2, g3, g4, g5, g6, s2⟩
      rw [List.length_map] at g4
      exact ⟨_, rfl, q q1 us H1 (PS s2) g1 (hq4 g2) (by omega) (by omega) g5⟩
end
end Ash

set_option Elab.async false
set_option linter.all false
set_option maxRecDepth 100000
set_option maxHeartbeats 4000000
namespace Ash
open PySem PySem.Spec PyProof.Rows L2
open C8 (pss_cut)
/-- a class by its name, made with the last argument left out -/
structure MakD (P : Program) (w : World) (K : PySem.W.Frag) (mg : Str → Option Value) (base : Heap) (CX : CXT) (x : Str) (C : Addr) (k : Nat) (ps : List Str) (dv : V) (sp : Sp) : Prop where
  ex : ∃ f fd u, Mk K C f ∧ mg x = some (.ref C) ∧ Binds K fd ps [u] ∧ RelV dv u ∧ FnOk P w K mg base CX k f fd ps sp
section
variable {X : Cx} {CX : CXT} {k j : Nat} {ps : List Str} {sp : Sp} {E : XK} {x : Str} {p pos : Pos} {e : Expr} {es : List Expr} {t : TA}
theorem pe_makD {C : Addr} {dv : V} (G : MakD X.prog X.w X.K X.mg X.base CX x C k ps dv sp) (hr : Room (k + 1) X.A) (hx : Passes CX X E) (ha : PA X (e :: es) t) (hg : Gl X x := by rfl)
    (hdb : (x == ("__debug__" : Str)) = false := by decide) (he : starEach (e :: es) X.env = (false, eval e X.env) :: starEach es X.env := by rfl) (hpl : (backTo pos (starEach es X.env)).any (·.1) = false := by rfl) :
    PE X (.Call (.Name x p) (e :: es) [] pos) (tMake C sp [dv] E t) := by
  obtain ⟨f, fd, u, M, hm, hb, hv, F⟩ := G.ex
  exact pe_make M F hr hg hm hb (.cons hv .nil) hx ha hdb he hpl
end
/-- all but lists and dicts stands -/
def TI (H H' : Hp) : Prop := ∀ c o, H c = some o → (∀ kvs, o ≠ .dK kvs) → (∀ l, o ≠ .lst l) → H' c = some o
theorem TI.trans {H H1 H2 : Hp} (a : TI H H1) (b : TI H1 H2) : TI H H2 := fun c o h n1 n2 => b c o (a c o h n1 n2) n1 n2
theorem ti_same {H H' : Hp} (s : Same H H') : TI H H' := fun c o h _ _ => s _ _ h
theorem Pl.ti {H H' : Hp} {p s : Addr} (P : Pl H H' p s) (P0 : PoolAt H p s) : TI H H' := fun c o h _ n => by
  obtain ⟨ns, i, a, k, m, hp, _⟩ := P0
  exact P.keep h fun z => by
    rw [z, hp] at h
    exact n _ (Option.some.inj h).symm
theorem ti_off {H H' : Hp} {ds : Addr} {kvs : List (Key × V)} (hd : H ds = some (.dK kvs)) (k : ∀ c o, H c = some o → c ≠ ds → H' c = some o) : TI H H' := fun c o h n _ => k c o h fun z => by
  rw [z, hd] at h
  exact n _ (Option.some.inj h).symm
theorem TI.tk {H H' : Hp} (s : TI H H') : TK H H' := fun t xs h => s _ _ h (fun _ z => nomatch z) (fun _ z => nomatch z)
theorem JAt.ti {K : PySem.W.Frag} {CJ CB : Addr} {H H' : Hp} {j b : Addr} {L : List (Str × Int)} {us : List V} {xs : List Ent} (h : JAt K CJ CB H j b L us xs) (hb : BookAt CB H' b L) (s : TI H H') : JAt K CJ CB H' j b L us xs := by
  obtain ⟨dx, t, kd, h1, _, h3, h4, h5, h6⟩ := h
  refine ⟨dx, t, kd, s _ _ h1 (fun _ z => nomatch z) (fun _ z => nomatch z), hb, ?_, h4, fun i v x a b => ?_, h6⟩
  · rcases h3 with (h | ⟨o, h⟩) | h
    · exact .inl (.inl (s _ _ h (fun _ z => nomatch z) (fun _ z => nomatch z)))
    · exact .inl (.inr ⟨o, s _ _ h (fun _ z => nomatch z) (fun _ z => nomatch z)⟩)
    · exact .inr h
  · obtain ⟨e, h1, h2, h3⟩ := h5 i v x a b
    exact ⟨e, h1, s.tk _ _ h2, h3⟩
theorem BookAt.but {CB p : Addr} {H H' : Hp} {b : Addr} {L : List (Str × Int)} (h : BookAt CB H b L) (hp : ∃ l, H p = some (.lst l)) (k : ∀ c o, H c = some o → c ≠ p → H' c = some o) : BookAt CB H' b L := by
  obtain ⟨dx, d, L', h1, h2, h3⟩ := h
  obtain ⟨l, hp⟩ := hp
  exact ⟨dx, d, L', k _ _ h1 (ne_of h1 hp (by intro z; cases z)), k _ _ h2 (ne_of h2 hp (by intro z; cases z)), h3⟩
theorem PoolAt.lst {H : Hp} {p s : Addr} (h : PoolAt H p s) : ∃ l, H p = some (.lst l) := by
  obtain ⟨ns, i, c, k, n, h1, _⟩ := h
  exact ⟨_, h1⟩
theorem Pd.same {H0 H H1 : Hp} {p s ds : Addr} (a : Pd H0 H p s ds) (e : Same H H1) : Pd H0 H1 p s ds := a.pl ((Pl.refl a.now).same e)
/-- states that are known stay known -/
theorem wk_mono {L : List (Str × Int)} {S1 : Kn} : ∀ {xs : List Ent} {i : Nat} {S : Kn} {l : Option Int}, wk L (xs.map some) i S l = (none, S1) → ∀ id, S id ≠ none → S1 id ≠ none
  | [], i, S, l, h, id, hi => by
    have h : ((none : Option Nat), S) = (none, S1) := h
    cases h
    exact hi
  | x :: r, i, S, l, h, id, hi => by
    have h : wk L (some x :: r.map some) i S l = (none, S1) := h
    by_cases c : late? l x.arr = true
    · rw [wk_late c] at h
      cases h
    · have c0 : late? l x.arr = false := Bool.eq_false_iff.mpr c
      cases hb : behind L x (S x.id) with
      | none =>
        rw [wk_bad c0 hb] at h
        cases h
      | some z =>
        rw [wk_go c0 hb] at h
        refine wk_mono h id ?_
        show (if id = x.id then some z else S id) ≠ none
        by_cases e : id = x.id
        · rw [if_pos e]
          exact fun z => nomatch z
        · rw [if_neg e]
          exact hi
/-- one entry more of a good row -/
theorem wk_one {L : List (Str × Int)} {S S1 : Kn} {x : Ent} {r : List Ent} {i : Nat} {l : Option Int} (h : wk L ((x :: r).map some) i S l = (none, S1)) : late? l x.arr = false ∧ ∃ y, behind L x (S x.id) = some y ∧ wk L (r.map some) (i + 1) (setK S x.id y) (some x.arr) = (none, S1) ∧ S1 x.id ≠ none := by
  have h : wk L (some x :: r.map some) i S l = (none, S1) := h
  by_cases c : late? l x.arr = true
  · rw [wk_late c] at h
    cases h
  · have c0 : late? l x.arr = false := Bool.eq_false_iff.mpr c
    cases hb : behind L x (S x.id) with
    | none =>
      rw [wk_bad c0 hb] at h
      cases h
    | some z =>
      rw [wk_go c0 hb] at h
      refine ⟨c0, z, rfl, h, wk_mono h x.id ?_⟩
      show (if x.id = x.id then some z else S x.id) ≠ none
      rw [if_pos rfl]
      exact fun z => nomatch z
theorem Ents.take {H : Hp} {us : List V} {xs : List Ent} (h : Ents H us xs) (k : Nat) : Ents H (us.take k) (xs.take k) := ⟨by rw [List.length_take, List.length_take, h.1], fun i v x a b => by
  have hik : i < k := by
    have := (List.getElem?_eq_some_iff.mp a).1
    rw [List.length_take] at this
    omega
  rw [List.getElem?_take_of_lt hik] at a b
  exact h.2 i v x a b⟩
theorem wk_snoc {L : List (Str × Int)} {xs : List Ent} {S : Kn} (h : wk L (xs.map some) 0 (fun _ => none) none = (none, S)) (o : Option Ent) : wk L (xs.map some ++ [o]) 0 (fun _ => none) none = wk L [o] xs.length S (lastA xs none) := by
  rw [wk_app [o] h, Nat.zero_add]
structure G5 (P : Program) (w : World) (K : PySem.W.Frag) (mg : Str → Option Value) (base : Heap) (CB CJ CE aE : Addr) : Prop extends G4 P w K mg base where
  law_pool : Cal P w K mg base CX0 "_law_pool" 1 ["script"] (spPool K)
  law_entries : Cal P w K mg base CX0 "_law_entries" 4 ["pool", "lates", "keys", "states", "number", "arrival", "many"] spEntries
  law_then : Cal P w K mg base CX0 "_law_then" 11 ["journal", "entry"] (spLThen K CJ CB)
  law_heard : Cal P w K mg base CX0 "_law_heard" 11 ["journal", "h"] (spLHeard K CJ CB)
  law_arrival : Cal P w K mg base CX0 "_law_arrival" 1 ["entry"] (spArr K)
  law_bad : Cal P w K mg base CX0 "_law_bad" 2 ["pool", "lates", "states", "number", "now"] spBad
  law_at_the_end : Cal P w K mg base CX0 "_law_at_the_end" 2 ["states", "lates", "now"] spGood
  Book : Mak P w K mg base CX0 "Book" CB 4 ["self", "lates"] (spBookInit CB)
  JournalD : MakD P w K mg base (L2.CX P w) "Journal" CJ 7 ["self", "book", "entries"] (.ref aE) (spJInit K CJ CB CE)
theorem cutV_take {us : List V} {k : Nat} (h : k ≤ us.length) : cutV us none (some (k : Int)) = us.take k := by
  unfold cutV
  have e0 : HT.sIx us.length 0 none = 0 := rfl
  have e1 : HT.sIx us.length us.length (some (k : Int)) = k := by
    rw [HT.sIx_nat]
    omega
  rw [e0, e1]
  rfl
/-- what the walk says of one entry more -/
theorem bad_wk {L : List (Str × Int)} {xs : List Ent} {S : Kn} {now : Int} (h : wk L (xs.map some) 0 (fun _ => none) none = (none, S)) (hl : lastA xs none = some now) {x : Ent} (hx : x.arr < now ∨ behind L x (S x.id) = none) : (wk L (xs.map some ++ [some x]) 0 (fun _ => none) none).1 = some xs.length := by
  rw [wk_snoc h, hl]
  by_cases c : late? (some now) x.arr = true
  · rw [wk_late c]
  · have c0 : late? (some now) x.arr = false := Bool.eq_false_iff.mpr c
    rcases hx with hx | hx
    · exact absurd (decide_eq_true hx) c
    · rw [wk_bad c0 hx]
theorem good_wk {L : List (Str × Int)} {xs : List Ent} {S : Kn} {now : Int} (h : wk L (xs.map some) 0 (fun _ => none) none = (none, S)) (hl : lastA xs none = some now) {x : Ent} (hx : now ≤ x.arr ∧ ∃ y, behind L x (S x.id) = some y) : (wk L (xs.map some ++ [some x]) 0 (fun _ => none) none).1 = none := by
  obtain ⟨h1, y, hy⟩ := hx
  rw [wk_snoc h, hl, wk_go (show late? (some now) x.arr = false from decide_eq_false (by omega)) hy]
  rfl
theorem lastA_take {xs : List Ent} {m : Nat} {x : Ent} (h : xs[m]? = some x) : lastA (xs.take (m + 1)) none = some x.arr := by
  rw [list_take h, lastA_snoc]
theorem ents_th {K : PySem.W.Frag} {H : Hp} {us : List V} {xs : List Ent} (h : Ents H us xs) : ∀ (i : Nat) v x, us[i]? = some v → xs[i]? = some x → ThAt K H v (some x) := h.2
theorem pair_same {K : PySem.W.Frag} {H : Hp} {t1 t2 : Addr} {w1 w2 v1 v2 : V} (h1 : H t1 = some (.tup [w1, v1])) (h2 : H t2 = some (.tup [w2, v2])) (a : SameV w1 w2) (b : SameV v1 v2) : SeqS K H (.ref t1) (.ref t2) := by
  refine ⟨t1, t2, _, _, rfl, rfl, SqT.of h1, SqT.of h2, rfl, fun i u v hu hv => ?_⟩
  match i with
  | 0 =>
    cases Option.some.inj hu
    cases Option.some.inj hv
    exact a
  | 1 =>
    cases Option.some.inj hu
    cases Option.some.inj hv
    exact b
  | n + 2 => exact absurd hu (by simp)
theorem same_str (z : Str) : SameV (.str z) (.str z) := .inl ⟨rfl, rfl, by simp [eqV]⟩
theorem same_int {i j : Int} (h : i = j) : SameV (.int i) (.int j) := .inl ⟨rfl, rfl, by simp [eqV, h]⟩
/-- data are as themselves -/
theorem eqv_self {d : PyData} (h : SeqAt.shaped d = true) : PyData.eqv d d = true := SeqAt.eqv_refl d (SeqAt.canLay_of_shaped h)
end Ash

set_option Elab.async false
set_option linter.all false
set_option maxRecDepth 100000
set_option maxHeartbeats 4000000
namespace Ash
open PySem PySem.Spec PyProof.Rows L2
open C8 (pss_cut)
def spLaw (K : PySem.W.Frag) : Sp := fun vs H Q _ => ∃ (a : Addr) (ns : List Int), vs = [.ref a] ∧ SqL K H a (ns.map V.int) ∧ ns.length ≤ 63 ∧ ∀ H', Q (.bl true) H'
/-- what the law's loops work on -/
structure Ctx (CB : Addr) (HJ : Hp) (p s0 dl b q : Addr) (L : List (Str × Int)) (us : List V) (xs : List Ent) (number : Int) (S1 : Kn) : Prop where
  pool : PoolAt HJ p s0
  LL : Lates L
  dl : HJ dl = some (.dK (LK L))
  bk : BookAt CB HJ b L
  hq : HJ q = some (.lst us)
  E : Ents HJ us xs
  qp : q ≠ p
  l1 : 1 ≤ xs.length
  l2 : xs.length ≤ 12
  n0 : 0 ≤ number
  wk1 : wk L (xs.map some) 0 (fun _ => none) none = (none, S1)
  pos : ∀ id, S1 id ≠ none → 0 ≤ id ∧ id < number + 3 * (xs.length : Int)
/-- what Book's kind is not -/
structure Odd (K : PySem.W.Frag) (CB : Addr) : Prop where
  i : PySem.W.kitOne K (.ref CB) (.type "int") = some false
  b : ∃ bb, PySem.W.kitOne K (.ref CB) (.type "bool") = some bb
  t : PySem.W.kitOne K (.ref CB) (.type "tuple") = some false
section
variable {P : Program} {w : World} {K : PySem.W.Frag} {mg : Str → Option Value} {base : Heap}
abbrev s_law : Stmt := topS 46
theorem sc_law : FnScope ["script", "pool", "lates", "keys", "number", "begin", "states", "entries", "journal", "k", "now", "bad", "good", "entry", "longer", "arrivals", "h", "due", "odd"] ["script"] (defScope s_law) := ⟨rfl, rfl, rfl, by decide +kernel, rfl, by decide +kernel, by decide +kernel⟩
theorem ok_law {f CB CJ CE CM aE : Addr} {fd : FuncData} (F : Fun K "law" "law" s_law f fd) (B : Blt mg) (T : Cj P K mg CJ CB) (TB : Cb K mg CB) (bk : ∀ H b dx fs, H b = some (.ins CB dx fs) → TyX K H (.ref b) (.ref CB)) (od : Odd K CB) (sqE : ∀ H, SqT K H aE []) (J : J9 P w K mg base CJ CB CE CM) (G : G5 P w K mg base CB CJ CE aE) : FnOk P w K mg base CX0 12 f fd ["script"] (spLaw K) := by
  refine F.ok sc_law (fun vs H Q E h => ?_) (fun cdv A outer s H vs Q E hr h => ?_)
  · obtain ⟨a, ns, rfl, _⟩ := h
    rfl
  · obtain ⟨a, ns, rfl, hS, hns, q⟩ := h
    have hu := hu_of hr
    have hu0 : (A.deeper (envOfC "law" (defScope s_law) s.heap.objs.size f cdv)).units < cLine := by omega
    refine ⟨_, (pss_cons (ps_set (i := 1) sc_law.nd rfl (Or.inl rfl) (pe_cal G.law_pool (hr.mono (by decide)) pass0 (pa_cons (pv 0) pa_nil)))
    (pss_cons (ps_set (i := 2) sc_law.nd rfl (Or.inl rfl) (pe_cal G.law_lates (hr.mono (by decide)) pass0 (pa_cons (pv 1) pa_nil)))
    (pss_cons (ps_set (i := 3) sc_law.nd rfl (Or.inl rfl) (pe_cal G.law_names (hr.mono (by decide)) pass0 (pa_cons (pv 1) (pa_cons (pe_op op_add pe_int (pe_cal G.law_draw (hr.mono (by decide)) pass0 (pa_cons (pv 1) (pa_cons pe_int pa_nil)))) pa_nil))))
    (pss_cons (ps_set (i := 4) sc_law.nd rfl (Or.inl rfl) (pe_cal G.law_draw (hr.mono (by decide)) pass0 (pa_cons (pv 1) (pa_cons (pe_op op_pow pe_int pe_int) pa_nil))))
    (pss_cons (ps_set (i := 5) sc_law.nd rfl (Or.inl rfl) (pe_cal G.law_begin (hr.mono (by decide)) pass0 (pa_cons (pv 1) pa_nil)))
    (pss_cons (ps_set (i := 6) sc_law.nd rfl (Or.inl rfl) pe_dnewK)
    (pss_cons (ps_set (i := 7) sc_law.nd rfl (Or.inl rfl) (pe_cal G.law_entries (hr.mono (by decide)) pass0 (pa_cons (pv 1) (pa_cons (pv 2) (pa_cons (pv 3) (pa_cons (pv 6) (pa_cons (pv 4) (pa_cons (pv 5) (pa_cons (pe_callB (call_min2 rfl) (by rfl) B.min (by decide +kernel) (pa_cons pe_int (pa_cons (pe_callB (call_max2 rfl) (by rfl) B.max (by decide +kernel) (pa_cons (pe_op op_add pe_int (pe_cal G.law_draw (hr.mono (by decide)) pass0 (pa_cons (pv 1) (pa_cons pe_int pa_nil)))) (pa_cons (pe_callB call_len_seq (by rfl) B.len (by decide +kernel) (pa_cons (pv 0) pa_nil)) pa_nil))) pa_nil))) pa_nil)))))))))
    (pss_cons (ps_set (i := 8) sc_law.nd rfl (Or.inl rfl) (pe_makD G.JournalD (hr.mono (by decide)) (passE takes0) (pa_cons (pe_mak G.Book (hr.mono (by decide)) pass0 (pa_cons (pv 2) pa_nil)) pa_nil)))
    (pss_cons (ps_set (i := 6) sc_law.nd rfl (Or.inl rfl) pe_dnewK)
    (pss_cut (ps_for PassesOwn.never rfl (pi_range1 (by rfl) B.range (pa_cons (pe_callB call_len_seq (by rfl) B.len (by decide +kernel) (pa_cons (pv 7) pa_nil)) pa_nil)) (pg_name (i := 9) sc_law.nd rfl (Or.inl rfl))
      (pss_cons (ps_set (i := 10) sc_law.nd rfl (Or.inl rfl) (pe_cal G.law_arrival (hr.mono (by decide)) pass0 (pa_cons (pe_ix ix_list (pv 7) (pv 9) (fun _ _ => rfl)) pa_nil)))
      (pss_cut (ps_if (pt_cmpR op_gt (pv 9) pe_int (nomark _))
        (pss_cons (ps_set (i := 10) sc_law.nd rfl (Or.inl rfl) (pe_cal G.law_arrival (hr.mono (by decide)) pass0 (pa_cons (pe_ix ix_list (pv 7) (pe_op op_sub (pv 9) pe_int) (fun _ _ => rfl)) pa_nil)))
        (pss_cons (ps_set (i := 11) sc_law.nd rfl (Or.inl rfl) (pe_cal G.law_bad (hr.mono (by decide)) pass0 (pa_cons (pv 1) (pa_cons (pv 2) (pa_cons (pv 6) (pa_cons (pe_op op_add (pe_op op_add (pv 4) (pe_op op_mul pe_int (pe_callB call_len_seq (by rfl) B.len (by decide +kernel) (pa_cons (pv 7) pa_nil)))) pe_int) (pa_cons (pv 10) pa_nil)))))))
        (pss_cons (ps_if (pt_cmpR (op_neS hu0) (pe_cal G.law_then (hr.mono (by decide)) pass0 (pa_cons (pv 8) (pa_cons (pe_ix ix_list (pv 11) (pe_cal G.law_draw (hr.mono (by decide)) pass0 (pa_cons (pv 1) (pa_cons (pe_callB call_len_seq (by rfl) B.len (by decide +kernel) (pa_cons (pv 11) pa_nil)) pa_nil))) (fun _ _ => rfl)) pa_nil))) (pe_tup (pa_cons pe_str (pa_cons (pv 9) pa_nil))) (nomark _))
          (pss_one (ps_ret pe_bl))
          pss_nil)
        (pss_cons (ps_set (i := 12) sc_law.nd rfl (Or.inl rfl) (pe_cal G.law_at_the_end (hr.mono (by decide)) pass0 (pa_cons (pv 6) (pa_cons (pv 2) (pa_cons (pv 10) pa_nil)))))
        (pss_one (ps_if (pt_cmpR op_gt (pe_callB call_len_seq (by rfl) B.len (by decide +kernel) (pa_cons (pv 12) pa_nil)) pe_int (nomark _))
          (pss_cons (ps_set (i := 13) sc_law.nd rfl (Or.inl rfl) (pe_ix ix_list (pv 12) (pe_cal G.law_draw (hr.mono (by decide)) pass0 (pa_cons (pv 1) (pa_cons (pe_callB call_len_seq (by rfl) B.len (by decide +kernel) (pa_cons (pv 12) pa_nil)) pa_nil))) (fun _ _ => rfl)))
          (pss_one (ps_if (pt_cmpR (op_neD hr.units) (pe_cal G.law_then (hr.mono (by decide)) pass0 (pa_cons (pv 8) (pa_cons (pv 13) pa_nil))) (pe_tup (pa_cons pe_str (pa_cons (pe_op op_cat (pe_slice sl_list (pv 7) po_none (po_some (pv 9))) (pe_lst (pa_cons (pv 13) pa_nil))) pa_nil))) (nomark _))
            (pss_one (ps_ret pe_bl))
            pss_nil)))
          pss_nil))))))
        pss_nil)
      (pss_cons (ps_set (i := 14) sc_law.nd rfl (Or.inl rfl) (pe_met T.cl J.then_ (hr.mono (by decide)) (passE takes0) (pv 8) (pa_cons (pe_ix ix_list (pv 7) (pv 9) (fun _ _ => rfl)) pa_nil)))
      (pss_cons (ps_if (PW.pt (pw_or (pt_cmpR (op_neD hr.units) (pe_callTy call_list_of (by rfl) B.list (by decide +kernel) (pa_cons (pe_fld (pv 8) rfl) pa_nil)) (pe_slice sl_list (pv 7) po_none (po_some (pv 9))) (nomark _)) (pw_or1 (pt_cmpR (op_neD hr.units) (pe_callTy call_list_of (by rfl) B.list (by decide +kernel) (pa_cons (pe_fld (pv 14) rfl) pa_nil)) (pe_slice sl_list (pv 7) po_none (po_some (pe_op op_add (pv 9) pe_int))) (nomark _)))))
        (pss_one (ps_ret pe_bl))
        pss_nil)
      (pss_cons (ps_set (i := 8) sc_law.nd rfl (Or.inl rfl) (pv 14))
      (pss_one (ps_expr (pe_cal G.law_put (hr.mono (by decide)) pass0 (pa_cons (pv 6) (pa_cons (pe_ix ix_list (pv 7) (pv 9) (fun _ _ => rfl)) pa_nil)))))))))))
    (pss_cons (ps_setLc (i := 15) (own := [("entry", 13)]) (g := gName 13) (tt := tYes) (by rfl) sc_law.nd rfl rfl (sw_true rfl rfl rfl (by decide +kernel)) (pi_list (pv 7)) (blkOk_by (own := [("entry", 13)]) (N := ["script", "pool", "lates", "keys", "number", "begin", "states", "entries", "journal", "k", "now", "bad", "good", "entry", "longer", "arrivals", "h", "due", "odd"]) (sc := defScope s_law) (by decide +kernel)) (fun _ _ _ _ _ => (pg_name (i := 13) sc_law.nd rfl (Or.inl rfl))) (fun _ _ _ _ _ => pts_nil) (fun _ _ _ _ _ => (pe_cal G.law_arrival (hr.mono (by decide)) pass0 (pa_cons (pv 13) pa_nil))))
    (pss_cut (ps_for PassesOwn.never rfl (pi_list (pe_lst (pa_cons (pe_op op_sub (pe_ix ix_list (pv 15) (pe_cal G.law_draw (hr.mono (by decide)) pass0 (pa_cons (pv 1) (pa_cons (pe_callB call_len_seq (by rfl) B.len (by decide +kernel) (pa_cons (pv 15) pa_nil)) pa_nil))) (fun _ _ => rfl)) (pe_cal G.law_draw (hr.mono (by decide)) pass0 (pa_cons (pv 1) (pa_cons pe_int pa_nil)))) (pa_cons (pe_op op_sub (pe_callB (cr_min rfl) (by rfl) B.min (by decide +kernel) (pa_cons (pv 15) pa_nil)) pe_int) (pa_cons (pe_callB (cr_max rfl) (by rfl) B.max (by decide +kernel) (pa_cons (pv 15) pa_nil)) pa_nil))))) (pg_name (i := 16) sc_law.nd rfl (Or.inr rfl))
      (pss_cons (ps_setLc (i := 17) (own := [("entry", 13)]) (g := gName 13) (by rfl) sc_law.nd rfl rfl (sw_true rfl rfl rfl (by decide +kernel)) (pi_list (pv 7)) (blkOk_by (own := [("entry", 13)]) (N := ["script", "pool", "lates", "keys", "number", "begin", "states", "entries", "journal", "k", "now", "bad", "good", "entry", "longer", "arrivals", "h", "due", "odd"]) (sc := defScope s_law) (by decide +kernel)) (fun _ _ _ _ _ => (pg_name (i := 13) sc_law.nd rfl (Or.inl rfl))) (fun _ _ _ _ _ => pts_one (pt_cmpR op_le (pe_cal G.law_arrival (hr.mono (by decide)) pass0 (pa_cons (pv 13) pa_nil)) (pv 16) (nomark _))) (fun _ _ _ _ _ => (pv 13)))
      (pss_one (ps_if (PW.pt (pw_or (pt_cmpR (op_neD hr.units) (pe_cal G.law_heard (hr.mono (by decide)) pass0 (pa_cons (pv 8) (pa_cons (pv 16) pa_nil))) (pe_tup (pa_cons pe_str (pa_cons (pv 17) pa_nil))) (nomark _)) (pw_or1 (pt_cmpR (op_neD hr.units) (pe_cal G.law_heard (hr.mono (by decide)) pass0 (pa_cons (pv 8) (pa_cons (pv 16) pa_nil))) (pe_tup (pa_cons pe_str (pa_cons (pv 17) pa_nil))) (nomark _)))))
        (pss_one (ps_ret pe_bl))
        pss_nil))))
    (pss_cons (ps_set (i := 18) sc_law.nd rfl (Or.inl rfl) (pe_ix ix_list (pe_lst (pa_cons pe_non (pa_cons pe_bl (pa_cons pe_bl (pa_cons pe_str (pa_cons pe_str (pa_cons (pe_tup pa_nil) (pa_cons (pe_tup (pa_cons pe_int pa_nil)) (pa_cons (pe_lst (pa_cons pe_int pa_nil)) (pa_cons pe_dnewK (pa_cons (pe_mak G.Book (hr.mono (by decide)) pass0 (pa_cons (pv 2) pa_nil)) pa_nil))))))))))) (pe_cal G.law_draw (hr.mono (by decide)) pass0 (pa_cons (pv 1) (pa_cons pe_int pa_nil))) (fun _ _ => rfl)))
    (pss_cons (ps_if (PW.pt (pw_or (pt_cmpR (op_neS hu0) (pe_cal G.law_heard (hr.mono (by decide)) pass0 (pa_cons (pv 8) (pa_cons (pv 18) pa_nil))) (pe_tup (pa_cons pe_str (pa_cons (pv 18) pa_nil))) (nomark _)) (pw_or1 (pt_cmpR (op_neS hu0) (pe_cal G.law_then (hr.mono (by decide)) pass0 (pa_cons (pv 8) (pa_cons (pv 18) pa_nil))) (pe_tup (pa_cons pe_str (pa_cons (pe_callB call_len_seq (by rfl) B.len (by decide +kernel) (pa_cons (pv 7) pa_nil)) pa_nil))) (nomark _)))))
      (pss_one (ps_ret pe_bl))
      pss_nil)
    (pss_one (ps_ret (pe_cmpR (op_eqD hr.units) (pe_callTy call_list_of (by rfl) B.list (by decide +kernel) (pa_cons (pe_fld (pv 8) rfl) pa_nil)) (pv 7) (nomark _)))))))))))))))))), ?_⟩
    -- set-up
    refine ⟨_, rfl, a, ns, rfl, hS, fun p s0 H1 hp hP1 s1 => ?_⟩
    refine ⟨_, rfl, p, s0, rfl, hP1, fun dl L H2 hdl0 hdl LL P2 => ?_⟩
    refine ⟨_, rfl, _, rfl, p, s0, 2, rfl, P2.now, (by decide), (by decide), fun d H3 d0 d1 P3 => ⟨_, _, rfl, rfl, p, s0, _, rfl, P3.now, (by omega), (by omega), fun dk ks H4 hdk0 hdk hkl knd knm P4 => ?_⟩⟩
    refine ⟨_, rfl, _, _, rfl, rfl, ⟨by decide, by decide, by decide⟩, p, s0, _, rfl, P4.now, (by decide), (by decide), fun number H5 n0 n1 P5 => ?_⟩
    refine ⟨_, rfl, p, s0, rfl, P5.now, fun begin_ H6 P6 => ?_⟩
    refine fun ds hds => ?_
    have P16 : Pl H1 H6 p s0 := (((P2.trans P3).trans P4).trans P5).trans P6
    have P26 : Pl H2 H6 p s0 := ((P3.trans P4).trans P5).trans P6
    have P46 : Pl H4 H6 p s0 := P5.trans P6
    have P7 : Pl H6 (upd H6 ds (.dK [])) p s0 := (Pl.refl P6.now).new hds
    have hdl6 : H6 dl = some (.dK (LK L)) := P26.dk P2.now hdl
    have hdk6 : H6 dk = some (.lst (ks.map V.str)) := P46.sl P4.now hdk
    refine ⟨_, rfl, _, rfl, _, rfl, _, rfl, _, rfl, _, rfl, _, rfl, p, s0, 6, rfl, P7.now, (by decide), (by decide), fun g H8 g0 g1 P8 => ?_⟩
    have P68 := P7.trans P8
    have P18 := P16.trans P68
    have hS8 : SqL K H8 a (ns.map V.int) := by
      rcases hS with (h | ⟨o, h⟩) | h
      · exact .inl (.inl (P18.keep (s1 _ _ h) (ne_of_none h hp)))
      · exact .inl (.inr ⟨o, P18.keep (s1 _ _ h) (ne_of_none h hp)⟩)
      · exact .inr h
    refine ⟨_, _, rfl, rfl, _, rfl, a, _, rfl, .inl hS8, _, _, rfl, _, _, rfl, ?_⟩
    obtain ⟨many, hmany, m1, m12⟩ : ∃ many : Int, (if (if ((ns.map V.int).length : Int) > 1 + g then ((ns.map V.int).length : Int) else 1 + g) < 12 then (if ((ns.map V.int).length : Int) > 1 + g then ((ns.map V.int).length : Int) else 1 + g) else 12) = many ∧ 1 ≤ many ∧ many ≤ 12 := by
      refine ⟨_, rfl, ?_, ?_⟩ <;> (repeat' split) <;> omega
    have hdl8 : H8 dl = some (.dK (LK L)) := P68.dk P6.now hdl6
    have hdk8 : H8 dk = some (.lst (ks.map V.str)) := P68.sl P6.now hdk6
    have hds8 : H8 ds = some (.dK []) := P8.dk P7.now upd_same
    have hdd : ds ≠ dl := Ne.symm (ne_of_none hdl6 hds)
    have st8 : StAt H8 ds (fun _ => none) 0 := ⟨[], hds8, Nat.le_refl _, (fun kv h => nomatch h), fun id => trivial⟩
    have D8 : Draw H8 p s0 dl dk ds L ks (fun _ => none) := ⟨P8.now, hdl8, LL, hdk8, by omega, by omega, knm, ⟨[], hds8, Nat.zero_le _, (fun kv h => nomatch h), fun id => trivial⟩, (fun _ _ _ _ _ h => nomatch h), (fun _ h => absurd rfl h)⟩
    refine ⟨p, s0, dl, dk, ds, L, ks, fun _ => none, 0, number, begin_, many, by rw [← hmany]; rfl, D8, st8, by omega, by omega, by omega, n0, (fun _ h => absurd rfl h), hdd, fun q1 us xs S1 H9 hq10 hq1 hE hxl hwk harr st9 ok9 pos9 PD9 => ?_⟩
    -- the first journal
    have hdl9 : H9 dl = some (.dK (LK L)) := PD9.but _ _ hdl8 (fun z => by
      obtain ⟨l, hl⟩ := P8.now.lst
      rw [z, hl] at hdl8
      cases hdl8) (Ne.symm hdd)
    refine ⟨_, rfl, fun b dxb nb ndb neb => ⟨b, dxb, dl, L, rfl, upd_same, ?_, LL, fun H10 hB kB => ⟨rfl, ?_⟩⟩⟩
    · exact (mk_same nb ndb (fun c o h n => h)) _ _ hdl9
    have s910 : Same H9 H10 := mk_same nb ndb kB
    refine fun j dxj nj ndj nej => ⟨j, dxj, b, aE, L, [], [], rfl, upd_same, hB.same (mk_same nj ndj (fun c o h n => h)), .inr (sqE _), (by show 0 ≤ 400; decide), rfl, (fun i v o h => by simp at h), fun HJ xs' hxs hw hJ kJ => ⟨rfl, ?_⟩, fun i d H' hw => nomatch hw⟩
    have hxs0 : xs' = [] := by
      cases xs' with
      | nil => rfl
      | cons x r => cases hxs
    subst hxs0
    have s10J : Same H10 HJ := mk_same nj ndj kJ
    have s9J : Same H9 HJ := s910.trans s10J
    have PDJ := PD9.same s9J
    have hp9 : q1 ≠ p := fun z => PD9.op (z ▸ hq10)
    have C : Ctx CB HJ p s0 dl b q1 L us xs number S1 := ⟨PDJ.now, LL, s9J _ _ hdl9, hB.same s10J, s9J _ _ hq1, hE.same s9J, hp9, by omega, by omega, n0, hwk none (fun t h => nomatch h) 0, fun id h => by have := pos9 id h; exact ⟨this.1, by omega⟩⟩
    refine fun ds2 hds2 => ?_
    clear hwk harr st9 ok9 pos9 PD9 hdl9 nb ndb neb hB kB s910 nj ndj nej kJ s10J s9J PDJ hE hq1 hq10 D8 st8 hds8 hdk8 hdl8 hdd hS8 P8 P68 P18 hdl6 hdk6 P7 P46 P26 P16 hds hxs hw
    refine ⟨fun σ H' => ∃ (jj : Addr), (∃ c0 c1 c2 c3 c4 c5 c6 c7 c8 c9 : Option V, σ = [some (.ref a), some (.ref p), some (.ref dl), some (.ref dk), some (.int number), some (.int begin_), some (.ref ds2), some (.ref q1), some (.ref jj), c0, c1, c2, c3, c4, c5, c6, c7, c8, c9]) ∧ JAt K CJ CB H' jj b L us xs ∧ PoolAt H' p s0 ∧ (∀ c o, HJ c = some o → c ≠ p → H' c = some o), ?_, ?_⟩
    · have ulen := C.E.1
      have xl1 := C.l1
      have xl2 := C.l2
      have sD : Same HJ (upd HJ ds2 (.dK [])) := sameAt (Same.refl _) hds2
      have PD0 : Pd HJ (upd HJ ds2 (.dK [])) p s0 ds2 := (⟨C.pool, C.pool.ne.1, C.pool.ne.2, fun b o h _ _ => h⟩ : Pd HJ HJ p s0 ds2).at hds2
      refine ⟨_, rfl, q1, us, rfl, .inl (SqL.of (sD _ _ C.hq)), _, rfl, (by omega), (by omega), for_range (n := us.length) (fun k σ H1 => ∃ (jj : Addr) (S : Kn), (∃ c0 c1 c2 c3 c4 c5 c6 c7 c8 c9 : Option V, σ = [some (.ref a), some (.ref p), some (.ref dl), some (.ref dk), some (.int number), some (.int begin_), some (.ref ds2), some (.ref q1), some (.ref jj), c0, c1, c2, c3, c4, c5, c6, c7, c8, c9]) ∧ JAt K CJ CB H1 jj b L (us.take k) (xs.take k) ∧ StAt H1 ds2 S k ∧ KnOk L S ∧ (∀ id, S id ≠ none → 0 ≤ id) ∧
        wk L ((xs.take k).map some) 0 (fun _ => none) none = (none, S) ∧ wk L ((xs.drop k).map some) k S (lastA (xs.take k) none) = (none, S1) ∧ Pd HJ H1 p s0 ds2) ?_ ?_ ?_⟩
      · exact ⟨j, fun _ => none, ⟨_, _, _, _, _, _, _, _, _, _, rfl⟩, hJ.same sD, ⟨[], upd_same, Nat.le_refl _, (fun kv h => nomatch h), fun id => trivial⟩, (fun _ _ _ _ _ h => nomatch h), (fun _ h => absurd rfl h), rfl, by rw [List.drop_zero]; exact C.wk1, PD0⟩
      · rintro k σ H1 hk ⟨jj, S, ⟨c0, c1, c2, c3, c4, c5, c6, c7, c8, c9, rfl⟩, hJ1, hst, hok, hpos, hw1, hw2, PD⟩
        have hkx : k < xs.length := by omega
        obtain ⟨x, hx⟩ : ∃ x, xs[k]? = some x := ⟨_, List.getElem?_eq_getElem hkx⟩
        obtain ⟨u, hu1⟩ : ∃ u, us[k]? = some u := ⟨_, List.getElem?_eq_getElem hk⟩
        obtain ⟨e, rfl, he0, hxok⟩ := C.E.2 k u x hu1 hx
        have hdrop : xs.drop k = x :: xs.drop (k + 1) := by
          rw [List.drop_eq_getElem_cons hkx]
          congr 1
          rw [List.getElem?_eq_getElem hkx] at hx
          exact Option.some.inj hx
        rw [hdrop] at hw2
        obtain ⟨hlate, y, hbh, hw3, hSx⟩ := wk_one hw2
        -- facts at any heap of the turn
        have fq : ∀ {H' : Hp}, Pd HJ H' p s0 ds2 → H' q1 = some (.lst us) := fun D => D.but _ _ C.hq C.qp (fun z => by have := C.hq; rw [z, hds2] at this; cases this)
        have fdl : ∀ {H' : Hp}, Pd HJ H' p s0 ds2 → H' dl = some (.dK (LK L)) := fun D => D.but _ _ C.dl (fun z => by
          obtain ⟨l, hl⟩ := C.pool.lst
          have := C.dl
          rw [z, hl] at this
          cases this) (fun z => by have := C.dl; rw [z, hds2] at this; cases this)
        have ftk : ∀ {H' : Hp}, Pd HJ H' p s0 ds2 → TK HJ H' := fun D t xs h => D.but _ _ h (fun z => by
          obtain ⟨l, hl⟩ := C.pool.lst
          rw [z, hl] at h
          cases h) (fun z => by rw [z, hds2] at h; cases h)
        have fbk : ∀ {H' : Hp}, Pd HJ H' p s0 ds2 → BookAt CB H' b L := fun D => C.bk.but C.pool.lst (fun c o h n => D.but c o h n (fun z => by rw [z, hds2] at h; cases h))
        have fE : ∀ {H' : Hp}, Pd HJ H' p s0 ds2 → Ents H' us xs := fun D => C.E.tk (ftk D)
        have hkI : atI us (0 + (k : Int)) = some (.ref e) := by
          rw [Int.zero_add]
          exact atI_nat hu1
        refine ⟨_, rfl, _, rfl, _, _, _, V.ref e, rfl, rfl, SqL.of (fq PD), hkI, e, x, rfl, ftk PD _ _ he0, ?_⟩
        refine ⟨fun σ H' => (∃ c1 c2 c3 c4 c5 c6 c7 c8 c9 : Option V, σ = [some (.ref a), some (.ref p), some (.ref dl), some (.ref dk), some (.int number), some (.int begin_), some (.ref ds2), some (.ref q1), some (.ref jj), some (.int (0 + (k : Int))), c1, c2, c3, c4, c5, c6, c7, c8, c9]) ∧ JAt K CJ CB H' jj b L (us.take k) (xs.take k) ∧ StAt H' ds2 S k ∧ Pd HJ H' p s0 ds2, ?_, ?_⟩
        · refine ⟨_, rfl, _, _, rfl, rfl, _, rfl, ?_⟩
          refine ite2 (fun c => ?_) (fun c => ?_)
          · have c : 0 + (k : Int) > 0 := of_decide_eq_true c
            obtain ⟨m, rfl⟩ : ∃ m, k = m + 1 := ⟨k - 1, by omega⟩
            obtain ⟨x', hx'⟩ : ∃ x', xs[m]? = some x' := ⟨_, List.getElem?_eq_getElem (by omega)⟩
            obtain ⟨u', hu'⟩ : ∃ u', us[m]? = some u' := ⟨_, List.getElem?_eq_getElem (by omega)⟩
            obtain ⟨e', rfl, he', hxok'⟩ := C.E.2 m u' x' hu' hx'
            have hl' : lastA (xs.take (m + 1)) none = some x'.arr := lastA_take hx'
            have hkI' : atI us (0 + ((m + 1 : Nat) : Int) - 1) = some (.ref e') := by
              rw [show (0 + ((m + 1 : Nat) : Int) - 1) = (m : Int) by omega]
              exact atI_nat hu'
            have xlen : (xs.take (m + 1)).length = m + 1 := by rw [List.length_take]; omega
            have ulen1 : (us.take (m + 1)).length = m + 1 := by rw [List.length_take]; omega
            have ST : ∀ {H' : Hp}, Pd HJ H' p s0 ds2 → StAt H' ds2 S (m + 1) → Sts H' dl ds2 L S (m + 1) := fun D st => ⟨fdl D, C.LL, st, hok, hpos⟩
            refine ⟨_, rfl, _, rfl, _, _, rfl, rfl, _, _, _, V.ref e', rfl, rfl, SqL.of (fq PD), hkI', e', x', rfl, ftk PD _ _ he', ?_⟩
            have n00 := C.n0
            refine ⟨_, rfl, _, rfl, _, rfl, _, rfl, _, rfl, q1, us, rfl, .inl (SqL.of (fq PD)), _, _, rfl, rfl, .inl ⟨by decide, by decide⟩, _, _, rfl, rfl, _, _, rfl, rfl, _, rfl, p, s0, dl, ds2, L, S, m + 1, _, _, rfl, PD.now, ST PD hst, by omega, by omega, ?_, fun qb ub H2 P2 hqb hqbp lb1 lb2 hAll => ?_⟩
            · cases eS : S (number + 3 * (us.length : Int) + 9) with
              | none => rfl
              | some r =>
                have := (C.pos _ (wk_mono hw2 _ (by rw [eS]; exact fun z => nomatch z))).2
                omega
            have PD2 := PD.pl P2
            have hJ2 := hJ1.ti (fbk PD2) (P2.ti PD.now)
            have hst2 := hst.pl PD.now P2
            refine ⟨_, rfl, _, rfl, _, rfl, _, rfl, qb, ub, rfl, .inl (SqL.of hqb), p, s0, _, rfl, P2.now, (by omega), (by omega), fun g H3 g0 g1 P3 => ?_⟩
            obtain ⟨g, rfl⟩ : ∃ n : Nat, g = (n : Int) := ⟨g.toNat, by omega⟩
            have hg : g < ub.length := by omega
            have PD3 := PD2.pl P3
            obtain ⟨eb, xb, hvb, heb, hokb, hRb⟩ := hAll ub[g] (List.getElem_mem hg)
            have hJ3 := hJ2.ti (fbk PD3) (P3.ti P2.now)
            have hst3 := hst2.pl P2.now P3
            have hbw := bad_wk hw1 hl' hRb
            refine ⟨_, _, _, V.ref eb, rfl, rfl, SqL.of (P3.keep hqb hqbp), atI_nat (by rw [List.getElem?_eq_getElem hg, hvb]), jj, b, L, us.take (m + 1), xs.take (m + 1), .ref eb, some xb, rfl, hJ3, by omega, ⟨eb, rfl, P3.tp P2.now heb, hokb⟩, fun t l H4 x2 hx2 hw4 s4 ht hl4 => ?_, fun t i H4 hw4 s4 ht => ?_⟩
            · cases Option.some.inj hx2
              rw [List.map_append] at hw4
              rw [show ((xs.take (m + 1)).map some ++ [xb].map some) = (xs.take (m + 1)).map some ++ [some xb] from rfl, hbw] at hw4
              cases hw4
            rw [hbw, xlen] at hw4
            cases Option.some.inj hw4
            refine ⟨_, rfl, (by show 2 ≤ sizeLine; decide), fun t2 ht2 => ?_⟩
            have s5 : Same H4 (upd H4 t2 (.tup [.str "refused", .int (0 + ((m + 1 : Nat) : Int))])) := sameAt (Same.refl _) ht2
            refine ⟨pair_same (s5 _ _ ht) upd_same (same_str _) (same_int (by omega)), _, rfl, iteF ?_⟩
            -- just at the lateness
            have PD5 := (PD3.same s4).same s5
            have hJ5 := (hJ3.same s4).same s5
            have hst5 := (hst3.same s4).same s5
            refine ⟨_, rfl, _, rfl, _, rfl, dl, ds2, L, S, m + 1, _, rfl, ST PD5 hst5, by omega, fun qg ug H6 hqg0 s6 hqg lg hAg => ?_⟩
            have PD6 := PD5.same s6
            have hJ6 := hJ5.same s6
            have hst6 := hst5.same s6
            refine ⟨_, rfl, qg, ug, rfl, .inl (SqL.of hqg), _, _, rfl, rfl, _, rfl, ?_⟩
            refine ite2 (fun cg => ?_) (fun cg => ?_)
            · have cg : (ug.length : Int) > 0 := of_decide_eq_true cg
              refine ⟨_, rfl, _, rfl, _, rfl, qg, ug, rfl, .inl (SqL.of hqg), p, s0, _, rfl, PD6.now, (by omega), (by omega), fun g2 H7 g20 g21 P7 => ?_⟩
              obtain ⟨g2, rfl⟩ : ∃ n : Nat, g2 = (n : Int) := ⟨g2.toNat, by omega⟩
              have hg2 : g2 < ug.length := by omega
              have PD7 := PD6.pl P7
              obtain ⟨eg, xg, hvg, heg, hokg, hRg⟩ := hAg ug[g2] (List.getElem_mem hg2)
              have hJ7 := hJ6.ti (fbk PD7) (P7.ti PD6.now)
              have hst7 := hst6.pl PD6.now P7
              have hgw := good_wk hw1 hl' hRg
              have hqgp : qg ≠ p := fun z => PD5.now.ne.1 (z ▸ hqg0)
              refine ⟨_, _, _, V.ref eg, rfl, rfl, SqL.of (P7.keep hqg hqgp), atI_nat (by rw [List.getElem?_eq_getElem hg2, hvg]), ?_⟩
              refine ⟨_, rfl, _, rfl, jj, b, L, us.take (m + 1), xs.take (m + 1), .ref eg, some xg, rfl, hJ7, by omega, ⟨eg, rfl, P7.tp PD6.now heg, hokg⟩, fun t l H8 x2 hx2 hw8 s8 ht8 hl8 => ?_, fun t i H8 hw8 s8 ht8 => ?_⟩
              · cases Option.some.inj hx2
                have PD8 := PD7.same s8
                refine ⟨_, rfl, _, rfl, _, rfl, q1, us, rfl, SqL.of (fq PD8), fun p1 hp1 => ?_⟩
                have hcut : cutV us none (some (0 + ((m + 1 : Nat) : Int))) = us.take (m + 1) := by
                  rw [Int.zero_add]
                  exact cutV_take (by omega)
                rw [hcut]
                have v1 : Same H8 (upd H8 p1 (.lst (us.take (m + 1)))) := sameAt (Same.refl _) hp1
                refine ⟨_, rfl, (by show 1 ≤ sizeLine; decide), fun l2 hl2 => ?_⟩
                have v2 : Same _ (upd (upd H8 p1 (.lst (us.take (m + 1)))) l2 (.lst [V.ref eg])) := sameAt (Same.refl _) hl2
                refine ⟨p1, l2, _, _, rfl, rfl, v2 _ _ upd_same, upd_same, ?_, fun q3 hq3 => ⟨(by show 2 ≤ sizeLine; decide), fun t2 ht2 => ?_⟩⟩
                · rw [ulen1]
                  show m + 1 + 1 ≤ sizeLine
                  exact Nat.le_of_lt (small1000 (by omega))
                have v3 : Same _ (upd (upd (upd H8 p1 (.lst (us.take (m + 1)))) l2 (.lst [V.ref eg])) q3 (.lst (us.take (m + 1) ++ [V.ref eg]))) := sameAt (Same.refl _) hq3
                have v4 : Same _ (upd (upd (upd (upd H8 p1 (.lst (us.take (m + 1)))) l2 (.lst [V.ref eg])) q3 (.lst (us.take (m + 1) ++ [V.ref eg]))) t2 (.tup [.str "told", .ref q3])) := sameAt (Same.refl _) ht2
                have v14 := ((v1.trans v2).trans v3).trans v4
                have PD9 := PD8.same v14
                have Eg : Ents _ (us.take (m + 1) ++ [V.ref eg]) (xs.take (m + 1) ++ [xg]) := ((fE PD9).take (m + 1)).snoc (v14 _ _ (s8 _ _ (P7.tp PD6.now heg))) hokg
                have dE := Eg.dp (K := K)
                have shp := told_shaped (w := "told") (by decide +kernel) Eg.ok
                refine ⟨_, _, .tup (SqT.of (v14 _ _ ht8)) (.cons (.str _) (.cons (.lst (SqL.of (v14 _ _ hl8)) dE) .nil)), .tup (SqT.of upd_same) (.cons (.str _) (.cons (.lst (SqL.of (v4 _ _ upd_same)) dE) .nil)), shp, shp, _, rfl, ?_⟩
                rw [eqv_self shp]
                exact iteF ⟨⟨_, _, _, _, _, _, _, _, _, rfl⟩, (hJ7.same s8).same v14, (hst7.same s8).same v14, PD9⟩
              · rw [hgw] at hw8
                cases hw8
            · exact ⟨⟨_, _, _, _, _, _, _, _, _, rfl⟩, hJ6, hst6, PD6⟩
          · exact ⟨⟨_, _, _, _, _, _, _, _, _, rfl⟩, hJ1, hst, PD⟩
        rintro σ H2 ⟨⟨c1', c2', c3', c4', c5', c6', c7', c8', c9', rfl⟩, hJ2, hst2, PD2⟩
        have ulen1 : (us.take k).length = k := by rw [List.length_take]; omega
        have xsnoc : xs.take (k + 1) = xs.take k ++ [x] := list_take hx
        have usnoc : us.take (k + 1) = us.take k ++ [V.ref e] := list_take hu1
        have hw1' : wk L ((xs.take k ++ [x]).map some) 0 (fun _ => none) none = (none, setK S x.id y) := by
          rw [List.map_append]
          show wk L ((xs.take k).map some ++ [some x]) 0 (fun _ => none) none = _
          rw [wk_snoc hw1, wk_go hlate hbh]
          rfl
        obtain ⟨dxj2, tj2, kdj2, g1, g2, g3, gl, g5, g6⟩ := id hJ2
        refine ⟨_, rfl, jj, dxj2, _, rfl, g1, jf_no _ _ _ (by decide +kernel) (by decide +kernel) (by decide +kernel), _, rfl, _, rfl, _, _, _, V.ref e, rfl, rfl, SqL.of (fq PD2), hkI, jj, b, L, us.take k, xs.take k, .ref e, some x, rfl, hJ2, by omega, ⟨e, rfl, ftk PD2 _ _ he0, hxok⟩, fun j3 H3 x3 hx3 hw3' s3 hJ3 => ?_, fun i d H3 hw3' => ?_⟩
        · cases Option.some.inj hx3
          rw [← xsnoc, ← usnoc] at hJ3
          obtain ⟨dxj3, tj3, kdj3, f1, f2, f3, fl, f5, f6⟩ := id hJ3
          have PD3 := PD2.same s3
          have hst3 := hst2.same s3
          have hcut : cutV us none (some (0 + (k : Int))) = us.take k := by
            rw [Int.zero_add]
            exact cutV_take (by omega)
          have hcut1 : cutV us none (some (0 + (k : Int) + 1)) = us.take (k + 1) := by
            rw [show 0 + (k : Int) + 1 = ((k + 1 : Nat) : Int) by omega]
            exact cutV_take (by omega)
          have xok : ∀ {n : Nat}, ∀ z ∈ xs.take n, z.ok := fun z hz => C.E.ok z (List.mem_of_mem_take hz)
          have v1 : ∀ {l : Addr}, H3 l = none → Same H3 (upd H3 l (.lst (us.take k))) := fun h => sameAt (Same.refl _) h
          refine ⟨_, rfl, jj, CJ, dxj2, _, _, rfl, s3 _ _ g1, T.cl, T.nE, jf_e _ _ _, tj2, us.take k, rfl, .inr (seqS g3 s3), fun l hl => ⟨_, rfl, _, rfl, _, rfl, q1, us, rfl, SqL.of (v1 hl _ _ (fq PD3)), fun p1 hp1 => ?_⟩⟩
          rw [hcut]
          have v2 : Same _ (upd (upd H3 l (.lst (us.take k))) p1 (.lst (us.take k))) := sameAt (Same.refl _) hp1
          have v12 := (v1 hl).trans v2
          have PD4 := PD3.same v12
          have dE := ((fE PD4).take k).dp (K := K)
          have shp := list_shaped (xs := xs.take k) xok
          refine ⟨_, _, .lst (SqL.of (v2 _ _ upd_same)) dE, .lst (SqL.of upd_same) dE, shp, shp, _, rfl, ?_⟩
          rw [eqv_self shp]
          refine iteF ?_
          refine ⟨_, rfl, j3, CJ, dxj3, _, _, rfl, v12 _ _ f1, T.cl, T.nE, jf_e _ _ _, tj3, us.take (k + 1), rfl, .inr (seqS f3 v12), fun l' hl' => ⟨_, rfl, _, rfl, _, _, rfl, rfl, _, rfl, q1, us, rfl, ?_, fun p2 hp2 => ?_⟩⟩
          · exact SqL.of (sameAt (Same.refl _) hl' _ _ (fq PD4))
          rw [hcut1]
          have v3 : Same _ (upd (upd (upd H3 l (.lst (us.take k))) p1 (.lst (us.take k))) l' (.lst (us.take (k + 1)))) := sameAt (Same.refl _) hl'
          have v4 : Same _ (upd (upd (upd (upd H3 l (.lst (us.take k))) p1 (.lst (us.take k))) l' (.lst (us.take (k + 1)))) p2 (.lst (us.take (k + 1)))) := sameAt (Same.refl _) hp2
          have v34 := v3.trans v4
          have PD5 := PD4.same v34
          have dE1 := ((fE PD5).take (k + 1)).dp (K := K)
          have shp1 := list_shaped (xs := xs.take (k + 1)) xok
          refine ⟨_, _, .lst (SqL.of (v4 _ _ upd_same)) dE1, .lst (SqL.of upd_same) dE1, shp1, shp1, _, rfl, ?_⟩
          rw [eqv_self shp1]
          refine iteF ?_
          have v14 := v12.trans v34
          refine ⟨_, rfl, _, rfl, _, rfl, _, rfl, _, _, _, V.ref e, rfl, rfl, SqL.of (fq PD5), hkI, ds2, e, L, S, k, x, y, rfl, hst3.same v14, by omega, ftk PD5 _ _ he0, hbh, fun H7 st7 k7 => ?_⟩
          obtain ⟨kvs7, hd7, _⟩ := id (hst3.same v14)
          have PD7 := PD5.chg hd7 k7
          refine ⟨j3, setK S x.id y, ⟨_, _, _, _, _, _, _, _, _, _, rfl⟩, (hJ3.same v14).ti (fbk PD7) (ti_off hd7 k7), st7, ?_, ?_, by rw [xsnoc]; exact hw1', by rw [xsnoc, lastA_snoc]; exact hw3, PD7⟩
          · intro id z1 kk m a' he'
            have he' : (if id = x.id then some y else S id) = some (.at_ z1 kk m a') := he'
            by_cases ej : id = x.id
            · rw [if_pos ej] at he'
              exact behind_ok hxok (hok x.id) hbh _ _ _ _ (Option.some.inj he')
            · rw [if_neg ej] at he'
              exact hok id _ _ _ _ he'
          · intro id hid'
            have hid' : (if id = x.id then some y else S id) ≠ none := hid'
            by_cases ej : id = x.id
            · rw [ej]
              exact hxok.1
            · rw [if_neg ej] at hid'
              exact hpos _ hid'
        · rw [show ((xs.take k).map some ++ [some x]) = (xs.take k ++ [x]).map some from by rw [List.map_append]; rfl, hw1'] at hw3'
          cases hw3'
      · rintro σ H1 ⟨jj, S, hσ, hJ1, hst, hok, hpos, hw1, hw2, PD⟩
        rw [List.take_length] at hJ1
        rw [ulen, List.take_length] at hJ1
        exact ⟨jj, hσ, hJ1, PD.now, fun c o h n => PD.but c o h n (fun z => by rw [z, hds2] at h; cases h)⟩
    rintro σ H2 ⟨jj, ⟨c0, c1, c2, c3, c4, c5, c6, c7, c8, c9, rfl⟩, hJ2, hP2, k2⟩
    have ulen := C.E.1
    have xl1 := C.l1
    have xl2 := C.l2
    have HT0 : ∀ {H' : Hp}, (∀ c o, HJ c = some o → c ≠ p → H' c = some o) → TK HJ H' := fun kk t xs h => kk _ _ h (fun z => by
      obtain ⟨l, hl⟩ := C.pool.lst
      rw [z, hl] at h
      cases h)
    have hE2 : Ents H2 us xs := C.E.tk (HT0 k2)
    have hq2 : H2 q1 = some (.lst us) := k2 _ _ C.hq C.qp
    have xok : ∀ z ∈ xs, z.ok := C.E.ok
    refine ⟨_, rfl, q1, rfl, ⟨_, SqL.of hq2⟩, fun D hD => lc_list (a := q1) (xs := us) (fun i H1 => H1 D = some (.lst ((xs.take i).map fun x => V.int x.arr)) ∧ Same H2 H1) ⟨upd_same, sameAt (Same.refl _) hD⟩ (fun i H1 _ hv => SqL.of (hv.2 _ _ hq2)) ?_ ?_⟩
    · rintro i v H1 hvi ⟨hD1, s1⟩
      have hi : i < us.length := (List.getElem?_eq_some_iff.mp hvi).1
      obtain ⟨x, hx⟩ : ∃ x, xs[i]? = some x := ⟨_, List.getElem?_eq_getElem (by omega)⟩
      obtain ⟨e, rfl, he, hok⟩ := hE2.2 i v x hvi hx
      refine ⟨rfl, _, rfl, e, x, rfl, s1 _ _ he, _, hD1, ?_, ?_, sameAt s1 hD⟩
      · rw [List.length_map, List.length_take]
        exact small1000 (by omega)
      · rw [upd_same, list_take hx, List.map_append]
        rfl
    rintro H3 ⟨hD3, s3⟩
    rw [ulen, List.take_length] at hD3
    have hP3 := hP2.same s3
    have k3 : ∀ c o, HJ c = some o → c ≠ p → H3 c = some o := fun c o h n => s3 _ _ (k2 c o h n)
    have hJ3 := hJ2.same s3
    have Dp_ : D ≠ p := fun z => hP2.ne.1 (z ▸ hD)
    have TIk : ∀ {H' H'' : Hp}, (∀ c o, HJ c = some o → c ≠ p → H' c = some o) → PoolAt H' p s0 → Pl H' H'' p s0 → (∀ c o, HJ c = some o → c ≠ p → H'' c = some o) := fun kk _ P c o h n => P.keep (kk c o h n) n
    have fbk : ∀ {H' : Hp}, (∀ c o, HJ c = some o → c ≠ p → H' c = some o) → BookAt CB H' b L := fun kk => C.bk.but C.pool.lst kk
    refine ⟨fun σ H' => (∃ c0 c1 c2 c3 c4 c5 c6 c7 c8 c9 : Option V, σ = [some (.ref a), some (.ref p), some (.ref dl), some (.ref dk), some (.int number), some (.int begin_), some (.ref ds2), some (.ref q1), some (.ref jj), c0, c1, c2, c3, c4, c5, c6, c7, c8, c9]) ∧ JAt K CJ CB H' jj b L us xs ∧ PoolAt H' p s0 ∧ (∀ c o, HJ c = some o → c ≠ p → H' c = some o), ?_, ?_⟩
    · have eA : (xs.map fun x => V.int x.arr) = (xs.map Ent.arr).map V.int := by rw [List.map_map]; rfl
      have alen : (xs.map fun x => V.int x.arr).length = xs.length := List.length_map _
      refine ⟨_, rfl, _, rfl, _, rfl, D, _, rfl, .inl (SqL.of hD3), p, s0, _, rfl, hP3, (by omega), (by omega), fun g H4 g0 g1 P4 => ?_⟩
      obtain ⟨g, rfl⟩ : ∃ n : Nat, g = (n : Int) := ⟨g.toNat, by omega⟩
      have hg : g < xs.length := by omega
      have hD4 := P4.keep hD3 Dp_
      refine ⟨_, _, _, V.int (xs[g]).arr, rfl, rfl, SqL.of hD4, atI_nat (by rw [List.getElem?_map, List.getElem?_eq_getElem hg]; rfl), _, rfl, p, s0, 2, rfl, P4.now, (by decide), (by decide), fun g2 H5 g20 g21 P5 => ?_⟩
      have hD5 := P5.keep hD4 Dp_
      rw [eA] at hD5
      refine ⟨_, _, rfl, rfl, _, rfl, D, _, rfl, SqL.of hD5, (by rw [List.length_map]; omega), fun mn _ _ => ⟨_, _, rfl, rfl, _, rfl, D, _, rfl, SqL.of hD5, (by rw [List.length_map]; omega), fun mx _ _ => ⟨(by show 3 ≤ sizeLine; decide), fun lh hlh => ?_⟩⟩⟩
      have PP := P4.trans P5
      have k5 := TIk k3 hP3 PP
      have hJ5 := hJ3.ti (fbk k5) (PP.ti hP3)
      refine ⟨lh, rfl, ⟨_, SqL.of upd_same⟩, ?_⟩
      have s6 : Same H5 (upd H5 lh (.lst [V.int ((xs[g]).arr - g2), V.int (mn - 1), V.int mx])) := sameAt (Same.refl _) hlh
      refine for_list (K := K) (a := lh) (xs := [V.int ((xs[g]).arr - g2), V.int (mn - 1), V.int mx]) (fun i σ H' => (∃ c0 c1 c2 c3 c4 c5 c6 c7 c8 c9 : Option V, σ = [some (.ref a), some (.ref p), some (.ref dl), some (.ref dk), some (.int number), some (.int begin_), some (.ref ds2), some (.ref q1), some (.ref jj), c0, c1, c2, c3, c4, c5, c6, c7, c8, c9]) ∧ H' lh = some (.lst [V.int ((xs[g]).arr - g2), V.int (mn - 1), V.int mx]) ∧ Same H5 H') ?_ (fun i σ H1 _ hv => SqL.of hv.2.1) ?_ ?_
      · exact ⟨⟨_, _, _, _, _, _, _, _, _, _, rfl⟩, upd_same, s6⟩
      · rintro i v σ H6 hvi ⟨⟨c0, c1, c2, c3, c4, c5, c6, c7, c8, c9, rfl⟩, hlh6, s56⟩
        obtain ⟨n, rfl⟩ : ∃ n : Int, v = .int n := by
          have := List.mem_of_getElem? hvi
          simp only [List.mem_cons, List.not_mem_nil, or_false] at this
          rcases this with rfl | rfl | rfl
          · exact ⟨_, rfl⟩
          · exact ⟨_, rfl⟩
          · exact ⟨_, rfl⟩
        have kk6 : ∀ c o, HJ c = some o → c ≠ p → H6 c = some o := fun c o h n => s56 _ _ (k5 c o h n)
        have hE6 : Ents H6 us xs := C.E.tk (HT0 kk6)
        have hq6 : H6 q1 = some (.lst us) := kk6 _ _ C.hq C.qp
        have hJ6 := hJ5.same s56
        obtain ⟨kc, kc1, kc2, kc3, kc4⟩ := wk_cut n (xs := xs) (i := 0) (S := fun _ => none) (l := none) (by rw [C.wk1])
        refine ⟨_, rfl, q1, rfl, ⟨_, SqL.of hq6⟩, fun D2 hD2 => lc_list (a := q1) (xs := us) (fun i H1 => H1 D2 = some (.lst (us.take (min i kc))) ∧ Same H6 H1) ⟨by rw [Nat.zero_min]; exact upd_same, sameAt (Same.refl _) hD2⟩ (fun i H1 _ hv => SqL.of (hv.2 _ _ hq6)) ?_ ?_⟩
        · rintro i v H1 hvi ⟨hD1, s1⟩
          have hi : i < us.length := (List.getElem?_eq_some_iff.mp hvi).1
          obtain ⟨x, hx⟩ : ∃ x, xs[i]? = some x := ⟨_, List.getElem?_eq_getElem (by omega)⟩
          obtain ⟨e, rfl, he, hok⟩ := hE6.2 i v x hvi hx
          refine ⟨rfl, _, rfl, e, x, rfl, s1 _ _ he, _, rfl, _, _, rfl, rfl, _, rfl, ?_⟩
          refine ite2 (fun c => ?_) (fun c => ?_)
          · have c : x.arr ≤ n := of_decide_eq_true c
            have ik := (kc2 i x hx).mp c
            refine ⟨_, rfl, _, hD1, (by rw [List.length_take]; exact small1000 (by omega)), ?_, sameAt s1 hD2⟩
            rw [upd_same, Nat.min_eq_left (Nat.le_of_lt ik), Nat.min_eq_left (by omega), list_take hvi]
          · have c : ¬ x.arr ≤ n := fun z => c (decide_eq_true z)
            have ik : kc ≤ i := Nat.le_of_not_lt fun z => c ((kc2 i x hx).mpr z)
            refine ⟨?_, s1⟩
            rw [hD1, Nat.min_eq_right ik, Nat.min_eq_right (by omega)]
        rintro H7 ⟨hD7, s7⟩
        rw [Nat.min_eq_right (by omega)] at hD7
        have hxk : ∀ z ∈ xs.take kc, z.ok := fun z hz => xok z (List.mem_of_mem_take hz)
        have shp := told_shaped (w := "told") (by decide +kernel) hxk
        have s67 := s56.trans s7
        have hJ7 := hJ6.same s7
        refine ⟨_, rfl, _, rfl, jj, b, L, us, xs, _, rfl, hJ7, by omega, .inl ⟨n, rfl, fun k1 t1 l1 H8 hk1 s8 ht1 hl1 => ⟨_, rfl, (by show 2 ≤ sizeLine; decide), fun t2 ht2 => ?_⟩⟩⟩
        have v8 : Same H8 (upd H8 t2 (.tup [.str "told", .ref D2])) := sameAt (Same.refl _) ht2
        have s79 := s8.trans v8
        have ek1 : xs.take k1 = xs.take kc := hk1.symm.trans kc4
        have dE1 := ((hE6.same (s7.trans s79)).take k1).dp (K := K)
        have dE2 := ((hE6.same (s7.trans s79)).take kc).dp (K := K)
        rw [ek1] at dE1
        refine ⟨_, _, .tup (SqT.of (v8 _ _ ht1)) (.cons (.str _) (.cons (.lst (SqL.of (v8 _ _ hl1)) dE1) .nil)), .tup (SqT.of upd_same) (.cons (.str _) (.cons (.lst (SqL.of (s79 _ _ hD7)) dE2) .nil)), shp, shp, _, rfl, ?_⟩
        rw [eqv_self shp]
        refine iteF ?_
        refine ⟨_, rfl, _, rfl, jj, b, L, us, xs, _, rfl, hJ7.same s79, by omega, .inl ⟨n, rfl, fun k3 t3 l3 H9 hk3 s9 ht3 hl3 => ⟨_, rfl, (by show 2 ≤ sizeLine; decide), fun t4 ht4 => ?_⟩⟩⟩
        have v9 : Same H9 (upd H9 t4 (.tup [.str "told", .ref D2])) := sameAt (Same.refl _) ht4
        have s7B := s79.trans (s9.trans v9)
        have ek3 : xs.take k3 = xs.take kc := hk3.symm.trans kc4
        have dE3 := ((hE6.same (s7.trans s7B)).take k3).dp (K := K)
        have dE4 := ((hE6.same (s7.trans s7B)).take kc).dp (K := K)
        rw [ek3] at dE3
        refine ⟨_, _, .tup (SqT.of (v9 _ _ ht3)) (.cons (.str _) (.cons (.lst (SqL.of (v9 _ _ hl3)) dE3) .nil)), .tup (SqT.of upd_same) (.cons (.str _) (.cons (.lst (SqL.of (s7B _ _ hD7)) dE4) .nil)), shp, shp, _, rfl, ?_⟩
        rw [eqv_self shp]
        exact iteF ⟨⟨_, _, _, _, _, _, _, _, _, _, rfl⟩, s7B _ _ (s7 _ _ hlh6), s67.trans s7B⟩
      · rintro σ H6 ⟨hσ, hlh6, s56⟩
        exact ⟨hσ, hJ5.same s56, P5.now.same s56, fun c o h n => s56 _ _ (k5 c o h n)⟩
    rintro σ H4 ⟨⟨c0, c1, c2, c3, c4, c5, c6, c7, c8, c9, rfl⟩, hJ4, hP4, k4⟩
    have hdl4 : H4 dl = some (.dK (LK L)) := k4 _ _ C.dl (fun z => by
      obtain ⟨l, hl⟩ := C.pool.lst
      have := C.dl
      rw [z, hl] at this
      cases this)
    refine ⟨(by show 0 ≤ sizeLine; decide), fun t0 ht0 => ⟨(by show 1 ≤ sizeLine; decide), fun t1 ht1 => ⟨(by show 1 ≤ sizeLine; decide), fun l1 hl1 d0 hd0 => ?_⟩⟩⟩
    have w0 : Same H4 (upd H4 t0 (.tup [])) := sameAt (Same.refl _) ht0
    have w1 : Same _ (upd (upd H4 t0 (.tup [])) t1 (.tup [.int 1])) := sameAt (Same.refl _) ht1
    have w2 : Same _ (upd (upd (upd H4 t0 (.tup [])) t1 (.tup [.int 1])) l1 (.lst [.int 1])) := sameAt (Same.refl _) hl1
    have w3 : Same _ (upd (upd (upd (upd H4 t0 (.tup [])) t1 (.tup [.int 1])) l1 (.lst [.int 1])) d0 (.dK [])) := sameAt (Same.refl _) hd0
    have w03 := ((w0.trans w1).trans w2).trans w3
    refine ⟨_, rfl, fun bo dxo nb ndb neb => ⟨bo, dxo, dl, L, rfl, upd_same, ?_, C.LL, fun H5 hB kB => ⟨rfl, (by show 10 ≤ sizeLine; decide), fun lo hlo => ?_⟩⟩⟩
    · exact (mk_same nb ndb (fun c o h n => h)) _ _ (w03 _ _ hdl4)
    have w5 := mk_same nb ndb kB
    have w6 : Same H5 (upd H5 lo (.lst [.non, .bl true, .bl false, .str "", .str "0", .ref t0, .ref t1, .ref l1, .ref d0, .ref bo])) := sameAt (Same.refl _) hlo
    have w56 := w5.trans w6
    have w46 := w03.trans w56
    have P6 := hP4.same w46
    refine ⟨_, rfl, p, s0, 10, rfl, P6, (by decide), (by decide), fun g H7 g0 g1 P7 => ?_⟩
    have lop : lo ≠ p := fun z => ((hP4.same w03).same w5).ne.1 (z ▸ hlo)
    have k7 : ∀ c o, HJ c = some o → c ≠ p → H7 c = some o := fun c o h n => P7.keep (w46 _ _ (k4 c o h n)) n
    have ti7 : TI _ H7 := P7.ti P6
    have hJ7 := (hJ4.same w46).ti (fbk k7) ti7
    obtain ⟨v, hv, hNI, hTh, hSv⟩ : ∃ v, atI [V.non, V.bl true, V.bl false, V.str "", V.str "0", V.ref t0, V.ref t1, V.ref l1, V.ref d0, V.ref bo] g = some v ∧ NotInt K H7 v ∧ ThAt K H7 v none ∧ SameV v v := by
      have : g = 0 ∨ g = 1 ∨ g = 2 ∨ g = 3 ∨ g = 4 ∨ g = 5 ∨ g = 6 ∨ g = 7 ∨ g = 8 ∨ g = 9 := by omega
      have e0 : H7 t0 = some (.tup []) := ti7 _ _ (w56 _ _ (((w1.trans w2).trans w3) _ _ upd_same)) (fun _ z => nomatch z) (fun _ z => nomatch z)
      have e1 : H7 t1 = some (.tup [.int 1]) := ti7 _ _ (w56 _ _ ((w2.trans w3) _ _ upd_same)) (fun _ z => nomatch z) (fun _ z => nomatch z)
      have pl : ∀ {c o}, (upd H5 lo (.lst [.non, .bl true, .bl false, .str "", .str "0", .ref t0, .ref t1, .ref l1, .ref d0, .ref bo])) c = some o → c ≠ p → H7 c = some o := fun h n => P7.keep h n
      have e2 : H7 l1 = some (.lst [.int 1]) := pl (w56 _ _ (w3 _ _ upd_same)) (fun z => (hP4.same (w0.trans w1)).ne.1 (z ▸ hl1))
      have e3 : H7 d0 = some (.dK []) := pl (w56 _ _ upd_same) (fun z => (hP4.same ((w0.trans w1).trans w2)).ne.1 (z ▸ hd0))
      have e4 : ∃ dx fs, H7 bo = some (.ins CB dx fs) := by
        obtain ⟨dx', d', L', b1, _, _⟩ := hB
        exact ⟨_, _, ti7 _ _ (w6 _ _ b1) (fun _ z => nomatch z) (fun _ z => nomatch z)⟩
      rcases this with rfl | rfl | rfl | rfl | rfl | rfl | rfl | rfl | rfl | rfl
      · exact ⟨_, rfl, ⟨_, false, false, .base .non, kit_ty (by decide +kernel), kit_ty (by decide +kernel), rfl⟩, .inl ⟨_, .base .non, kit_ty (by decide +kernel)⟩, .inl ⟨rfl, rfl, rfl⟩⟩
      · exact ⟨_, rfl, ⟨_, true, true, .base (.bl _), kit_ty (by decide +kernel), kit_ty (by decide +kernel), rfl⟩, .inl ⟨_, .base (.bl _), kit_ty (by decide +kernel)⟩, .inl ⟨rfl, rfl, rfl⟩⟩
      · exact ⟨_, rfl, ⟨_, true, true, .base (.bl _), kit_ty (by decide +kernel), kit_ty (by decide +kernel), rfl⟩, .inl ⟨_, .base (.bl _), kit_ty (by decide +kernel)⟩, .inl ⟨rfl, rfl, rfl⟩⟩
      · exact ⟨_, rfl, ⟨_, false, false, .base (.str _), kit_ty (by decide +kernel), kit_ty (by decide +kernel), rfl⟩, .inl ⟨_, .base (.str _), kit_ty (by decide +kernel)⟩, same_str _⟩
      · exact ⟨_, rfl, ⟨_, false, false, .base (.str _), kit_ty (by decide +kernel), kit_ty (by decide +kernel), rfl⟩, .inl ⟨_, .base (.str _), kit_ty (by decide +kernel)⟩, same_str _⟩
      · exact ⟨_, rfl, ⟨_, false, false, .base (.tup e0), kit_ty (by decide +kernel), kit_ty (by decide +kernel), rfl⟩, .inr ⟨t0, _, rfl, e0, by decide⟩, .inr ⟨rfl, _, rfl⟩⟩
      · exact ⟨_, rfl, ⟨_, false, false, .base (.tup e1), kit_ty (by decide +kernel), kit_ty (by decide +kernel), rfl⟩, .inr ⟨t1, _, rfl, e1, by decide⟩, .inr ⟨rfl, _, rfl⟩⟩
      · exact ⟨_, rfl, ⟨_, false, false, .base (.lst e2), kit_ty (by decide +kernel), kit_ty (by decide +kernel), rfl⟩, .inl ⟨_, .base (.lst e2), kit_ty (by decide +kernel)⟩, .inr ⟨rfl, _, rfl⟩⟩
      · exact ⟨_, rfl, ⟨_, false, false, .base (.dK e3), kit_ty (by decide +kernel), kit_ty (by decide +kernel), rfl⟩, .inl ⟨_, .base (.dK e3), kit_ty (by decide +kernel)⟩, .inr ⟨rfl, _, rfl⟩⟩
      · obtain ⟨dx4, fs, e4⟩ := e4
        obtain ⟨bb, hbb⟩ := od.b
        exact ⟨_, rfl, ⟨_, _, _, bk _ _ _ _ e4, od.i, hbb, rfl⟩, .inl ⟨_, bk _ _ _ _ e4, od.t⟩, .inr ⟨rfl, _, rfl⟩⟩
    refine ⟨_, _, _, v, rfl, rfl, SqL.of (P7.keep upd_same lop), hv, ?_⟩
    refine ⟨_, rfl, _, rfl, jj, b, L, us, xs, v, rfl, hJ7, by omega, .inr ⟨hNI, fun t H8 s8 ht => ⟨_, rfl, (by show 2 ≤ sizeLine; decide), fun t2 ht2 => ?_⟩⟩⟩
    have s9 : Same H8 (upd H8 t2 (.tup [.str "refused", v])) := sameAt (Same.refl _) ht2
    refine ⟨pair_same (s9 _ _ ht) upd_same (same_str _) hSv, _, rfl, iteF ?_⟩
    have s79 := s8.trans s9
    have hJ9 := hJ7.same s79
    refine ⟨_, rfl, _, rfl, jj, b, L, us, xs, v, none, rfl, hJ9, by omega, hTh.same s79, (fun t l H' x hx => nomatch hx), fun t i H10 hw10 s10 ht10 => ?_⟩
    have hq10 : H10 q1 = some (.lst us) := s10 _ _ (s79 _ _ (k7 _ _ C.hq C.qp))
    rw [wk_snoc C.wk1, wk_odd] at hw10
    have ei : i = xs.length := (Option.some.inj hw10).symm
    refine ⟨_, rfl, q1, us, rfl, .inl (SqL.of hq10), (by show 2 ≤ sizeLine; decide), fun t3 ht3 => ?_⟩
    have s11 : Same H10 (upd H10 t3 (.tup [.str "refused", .int (us.length : Int)])) := sameAt (Same.refl _) ht3
    refine ⟨pair_same (s11 _ _ ht10) upd_same (same_str _) (same_int (by omega)), _, rfl, iteF ?_⟩
    have s9B := s10.trans s11
    have hJB := hJ9.same s9B
    obtain ⟨dxB, tB, kdB, f1, f2, f3, fl, f5, f6⟩ := id hJB
    have hkB : ∀ c o, HJ c = some o → c ≠ p → _ := fun c o h n => s9B _ _ (s79 _ _ (k7 c o h n))
    refine ⟨_, rfl, jj, CJ, dxB, _, _, rfl, f1, T.cl, T.nE, jf_e _ _ _, tB, us, rfl, .inr f3, fun l hl => ?_⟩
    have sZ := sameAt (Same.refl _) hl (o := .lst us)
    have dE := (C.E.tk ((HT0 hkB).trans (tk_same sZ))).dp (K := K)
    have shp := list_shaped (xs := xs) xok
    refine ⟨_, rfl, _, _, .lst (SqL.of upd_same) dE, .lst (SqL.of (sZ _ _ (s11 _ _ hq10))) dE, shp, shp, ?_⟩
    rw [eqv_self shp]
    exact q _
end
end Ash

set_option Elab.async false
set_option linter.all false
set_option maxRecDepth 100000
set_option maxHeartbeats 4000000
namespace Ash
open PySem PySem.Spec PyProof.Rows L2
/-! ### what the top has written -/
/-- a def of the top -/
structure D1 (K : PySem.W.Frag) (mg : Str → Option Value) (x : Str) (st : Stmt) : Prop where
  ex : ∃ (f : Addr) (fd : FuncData), mg x = some (.ref f) ∧ Fun K x x st f fd
/-- a method -/
structure DM (K : PySem.W.Frag) (C : Addr) (m qual : Str) (st : Stmt) : Prop where
  ex : ∃ (f : Addr) (fd : FuncData), Meth K C m f ∧ Fun K m qual st f fd
section
variable {K : PySem.W.Frag} {h : Heap} {mg : Str → Option Value} {x qual : Str} {st : Stmt} {f C : Addr} {oc kV dc pm cdv ct : Value} {od an : Option Addr} {sl : Array (Option Value)}
theorem d1 (X : K.In h) (G : h.Ns mainGlobals mg) (a : PySem.W.nsIn K mainGlobals x = some (some (.ref f))) (l : K.lookup f = some ⟨oc, od, .func (PySem.W.fnOf x x (defArgs st) (defBody st) (defScope st) .none kV dc pm an cdv ct), sl⟩) (c : PySem.W.codeIn K cdv x = true) (k : PySem.W.keepIn K (.ref f) = true) : D1 K mg x st :=
  ⟨f, _, PySem.W.mg_of X G a, fun_mk l c k⟩
theorem dm (a : PySem.W.findIn K (.ref C) x = some (some (.ref f))) (i : PySem.W.isFn K (.ref f) = true) (l : K.lookup f = some ⟨oc, od, .func (PySem.W.fnOf x qual (defArgs st) (defBody st) (defScope st) .none kV dc pm an cdv ct), sl⟩) (c : PySem.W.codeIn K cdv qual = true) (k : PySem.W.keepIn K (.ref f) = true) : DM K C x qual st :=
  ⟨f, _, ⟨a, i, k⟩, fun_mk l c k⟩
end
section
variable {P : Program} {w : World} {K : PySem.W.Frag} {mg : Str → Option Value} {base : Heap} {CX : CXT} {x : Str} {st : Stmt} {ps : List Str} {k : Nat} {sp : Sp}
theorem cal_of (D : D1 K mg x st) (hb : ∀ (kV doc pm : Value) (an : Option Addr) (cdv ct : Value) (us : List Value), us.length = ps.length → bindArgs (PySem.W.fnOf x x (defArgs st) (defBody st) (defScope st) .none kV doc pm an cdv ct) ⟨us, []⟩ = pure (ps.zip us))
    (ok : ∀ f fd, Fun K x x st f fd → FnOk P w K mg base CX k f fd ps sp) : Cal P w K mg base CX x k ps sp := by
  obtain ⟨f, fd, hm, F⟩ := D.ex
  exact ⟨f, fd, hm, F.kp, F.binds hb, ok f fd F⟩
end
/-- Book is what its instances are -/
structure BkI (K : PySem.W.Frag) (CB : Addr) : Prop where
  ha : PySem.W.findIn K (.ref CB) "__class__" = some (some (.builtin "object.__class__"))
  hn : PySem.W.specialIn K (.builtin "object.__class__") "__get__" = some (some (.builtin "getset_descriptor.__get__"))
  ht : PySem.W.takesIn K (.builtin "object.__class__") = some true
  hm : PySem.W.mroIn K CB (.type "object") = some true
/-- Journal's __init__, its default and the two ways to call it -/
structure DJ (K : PySem.W.Frag) (CJ aE : Addr) : Prop where
  ex : ∃ (f : Addr) (fd : FuncData), Mk K CJ f ∧ FunD K "__init__" "Journal.__init__" (defArgs s_Journal_init) (defBody s_Journal_init) (defScope s_Journal_init) [.ref aE] [] f fd
theorem dj {K : PySem.W.Frag} {CJ aE f T : Addr} {oc kV dc pm cdv ct oT : Value} {od an dT : Option Addr} {sl slT : Array (Option Value)} {n : Nat} (M : Mk K CJ f)
    (l : K.lookup f = some ⟨oc, od, .func (PySem.W.fnOf "__init__" "Journal.__init__" (defArgs s_Journal_init) (defBody s_Journal_init) (defScope s_Journal_init) (.ref T) kV dc pm an cdv ct), sl⟩) (lT : K.lookup T = some ⟨oT, dT, .seq #[.ref aE] n, slT⟩) (c : PySem.W.codeIn K cdv "Journal.__init__" = true) (k : PySem.W.keepIn K (.ref f) = true) : DJ K CJ aE :=
  ⟨f, _, M, ⟨⟨oc, od, .ref T, kV, dc, pm, an, cdv, ct, sl, rfl, l, c, .inr ⟨by simp, T, _, [.ref aE], n, rfl, lT, rfl, .cons rfl .nil⟩, .inl rfl⟩, k⟩⟩
theorem sq_of {K : PySem.W.Frag} {a : Addr} {d : Option Addr} {n : Nat} {sl : Array (Option Value)} (l : K.lookup a = some ⟨.type "tuple", d, .seq #[] n, sl⟩) (H : Hp) : SqT K H a [] := .inr ⟨_, #[], n, l, rfl, rfl, Nat.zero_le _, .nil⟩
section
variable {P : Program} {w : World} {K : PySem.W.Frag} {mg : Str → Option Value} {base : Heap}
theorem all_ok {CB CJ CE CM fE fM aT aE : Addr} (B : Blt mg) (Cs : Cst mg) (TB : Cb K mg CB) (T : Cj P K mg CJ CB) (Tt : Tb K mg aT) (TE : PySem.BadX.Txt P K mg "at" "at" CE fE) (TM : PySem.BadX.Txt P K mg "value" "value" CM fM) (cE : mg "BadEntry" = some (.ref CE)) (cM : mg "BadMoment" = some (.ref CM)) (bi : BkI K CB) (od : Odd K CB) (sqE : ∀ H, SqT K H aE [])
    (d_is_integer : D1 K mg "is_integer" s_is_integer)
    (d_is_natural : D1 K mg "is_natural" s_is_natural)
    (d_is_name : D1 K mg "is_name" s_is_name)
    (d_are_integers : D1 K mg "are_integers" s_are_integers)
    (d_is_late : D1 K mg "is_late" s_is_late)
    (d_is_lates : D1 K mg "is_lates" s_is_lates)
    (d_is_entry : D1 K mg "is_entry" s_is_entry)
    (d_arrival_of : D1 K mg "arrival_of" s_arrival_of)
    (d_placed : D1 K mg "placed" s_placed)
    (d_row_behind : D1 K mg "row_behind" s_row_behind)
    (d_walked : D1 K mg "walked" s_walked)
    (d_is_row : D1 K mg "is_row" s_is_row)
    (d__law_pool : D1 K mg "_law_pool" s_l_pool)
    (d__law_draw : D1 K mg "_law_draw" s_l_draw)
    (d__law_names : D1 K mg "_law_names" s_l_names)
    (d__law_lates : D1 K mg "_law_lates" s_l_lates)
    (d__law_amount : D1 K mg "_law_amount" s_l_amount)
    (d__law_begin : D1 K mg "_law_begin" s_l_begin)
    (d__law_entry : D1 K mg "_law_entry" s_l_entry)
    (d__law_put : D1 K mg "_law_put" s_l_put)
    (d__law_entries : D1 K mg "_law_entries" s_l_entries)
    (d__law_then : D1 K mg "_law_then" s_l_then)
    (d__law_heard : D1 K mg "_law_heard" s_l_heard)
    (d__law_arrival : D1 K mg "_law_arrival" s_l_arrival)
    (d__law_bad : D1 K mg "_law_bad" s_l_bad)
    (d__law_at_the_end : D1 K mg "_law_at_the_end" s_l_at_the_end)
    (mkB : PySem.W.makesIn K CB = true) (kB : PySem.W.keepIn K (.ref CB) = true) (m_init : DM K CB "__init__" "Book.__init__" s_Book_init) (m_has : DM K CB "has" "Book.has" s_Book_has) (m_late : DM K CB "late" "Book.late" s_Book_late)
    (m_j : DJ K CJ aE) (m_then : DM K CJ "then" "Journal.then" s_Journal_then) (m_heard : DM K CJ "heard" "Journal.heard" s_Journal_heard) {f : Addr} {fd : FuncData} (F_law : Fun K "law" "law" s_law f fd) : FnOk P w K mg base CX0 12 f fd ["script"] (spLaw K) := by
  have bk : ∀ H b dx fs, H b = some (.ins CB dx fs) → TyX K H (.ref b) (.ref CB) := fun H b dx fs h => .base (.ins h TB.cl bi.ha bi.hn bi.ht bi.hm)
  have c_is_integer := cal_of (P := P) (w := w) (base := base) (ps := ["thing"]) d_is_integer (fun _ _ _ _ _ _ us hl => match us, hl with | [_], _ => rfl) fun f fd F => ok_is_integer F B
  have k1 : K1 P w K mg base := ⟨c_is_integer⟩
  have c_is_natural := cal_of (P := P) (w := w) (base := base) (ps := ["thing"]) d_is_natural (fun _ _ _ _ _ _ us hl => match us, hl with | [_], _ => rfl) fun f fd F => ok_is_natural F B k1
  have c_is_name := cal_of (P := P) (w := w) (base := base) (ps := ["thing"]) d_is_name (fun _ _ _ _ _ _ us hl => match us, hl with | [_], _ => rfl) fun f fd F => ok_is_name F B Cs
  have k2 : K2 P w K mg base := ⟨k1, c_is_natural, c_is_name⟩
  have c_are_integers := cal_of (P := P) (w := w) (base := base) (ps := ["things"]) d_are_integers (fun _ _ _ _ _ _ us hl => match us, hl with | [_], _ => rfl) fun f fd F => ok_are_integers F B k2
  have c_is_late := cal_of (P := P) (w := w) (base := base) (ps := ["thing"]) d_is_late (fun _ _ _ _ _ _ us hl => match us, hl with | [_], _ => rfl) fun f fd F => ok_is_late F B Cs k2
  have k3 : K3 P w K mg base := ⟨k2, c_are_integers, c_is_late⟩
  have c_is_lates := cal_of (P := P) (w := w) (base := base) (ps := ["thing"]) d_is_lates (fun _ _ _ _ _ _ us hl => match us, hl with | [_], _ => rfl) fun f fd F => ok_is_lates F B Cs k3
  have k4 : K4 P w K mg base := ⟨k3, c_is_lates⟩
  obtain ⟨fInit, fdInit, mInit, FInit⟩ := m_init.ex
  have bInit : Binds K fdInit ["self", "lates"] [] := FInit.binds (ps := ["self", "lates"]) fun _ _ _ _ _ _ us hl => match us, hl with | [_, _], _ => rfl
  have oInit := ok_book_init (P := P) (w := w) (base := base) FInit B TB k4
  obtain ⟨fHas, fdHas, mHas, FHas⟩ := m_has.ex
  have bHas : Binds K fdHas ["self", "stream"] [] := FHas.binds (ps := ["self", "stream"]) fun _ _ _ _ _ _ us hl => match us, hl with | [_, _], _ => rfl
  have oHas := ok_book_has (P := P) (w := w) (base := base) FHas B TB k4
  obtain ⟨fLate, fdLate, mLate, FLate⟩ := m_late.ex
  have bLate : Binds K fdLate ["self", "stream"] [] := FLate.binds (ps := ["self", "stream"]) fun _ _ _ _ _ _ us hl => match us, hl with | [_, _], _ => rfl
  have oLate := ok_book_late (P := P) (w := w) (base := base) FLate B TB mHas bHas oHas
  have c_is_entry := cal_of (P := P) (w := w) (base := base) (ps := ["thing"]) d_is_entry (fun _ _ _ _ _ _ us hl => match us, hl with | [_], _ => rfl) fun f fd F => ok_is_entry F B k4.toK3
  have c_arrival_of := cal_of (P := P) (w := w) (base := base) (ps := ["entry"]) d_arrival_of (fun _ _ _ _ _ _ us hl => match us, hl with | [_], _ => rfl) fun f fd F => ok_arrival_of F B
  have c_placed := cal_of (P := P) (w := w) (base := base) (ps := ["book", "row", "arrival"]) d_placed (fun _ _ _ _ _ _ us hl => match us, hl with | [_, _, _], _ => rfl) fun f fd F => ok_placed F B TB mLate bLate oLate
  have k5 : K5 P w K mg base CB := ⟨k4, c_is_entry, c_arrival_of, c_placed⟩
  have c_row_behind := cal_of (P := P) (w := w) (base := base) (ps := ["book", "entry", "old"]) d_row_behind (fun _ _ _ _ _ _ us hl => match us, hl with | [_, _, _], _ => rfl) fun f fd F => ok_row_behind F B TB Tt k5 mHas bHas oHas mLate bLate oLate
  have k6 : K6 P w K mg base CB aT := ⟨k5, c_row_behind⟩
  have c_walked := cal_of (P := P) (w := w) (base := base) (ps := ["book", "things"]) d_walked (fun _ _ _ _ _ _ us hl => match us, hl with | [_, _], _ => rfl) fun f fd F => ok_walked F B k6
  have c_is_row := cal_of (P := P) (w := w) (base := base) (ps := ["thing"]) d_is_row (fun _ _ _ _ _ _ us hl => match us, hl with | [_], _ => rfl) fun f fd F => ok_is_row F B
  have k7 : K7 P w K mg base CB aT := ⟨k6, c_walked, c_is_row⟩
  obtain ⟨fJ, fdJ, mJ, FJ⟩ := m_j.ex
  have oJ := ok_j_init (P := P) (w := w) (base := base) FJ B Cs T TB TE cE bk k7
  obtain ⟨ds3, v3, bJ3⟩ := FJ.binds1 (ps := ["self", "book", "entries"]) 3 1 (by simp) rfl fun T kV doc pm an cdv ct us its h1 h2 => match us, its, h1, h2 with | [_, _, _], [_], _, _ => ⟨_, rfl, rfl⟩
  cases v3
  obtain ⟨ds2, v2, bJ2⟩ := FJ.binds1 (ps := ["self", "book", "entries"]) 2 0 (by simp) rfl fun T kV doc pm an cdv ct us its h1 h2 => match us, its, h1, h2 with | [_, _], [_], _, _ => ⟨_, rfl, rfl⟩
  have k8 : K8 P w K mg base CB aT CJ CE := ⟨k7, ⟨fJ, fdJ, mJ, T.c, bJ3, oJ⟩⟩
  obtain ⟨fThen, fdThen, mThen, FThen⟩ := m_then.ex
  have bThen : Binds K fdThen ["self", "entry"] [] := FThen.binds (ps := ["self", "entry"]) fun _ _ _ _ _ _ us hl => match us, hl with | [_, _], _ => rfl
  have oThen := ok_then (P := P) (w := w) (base := base) FThen B Cs T k8
  obtain ⟨fHeard, fdHeard, mHeard, FHeard⟩ := m_heard.ex
  have bHeard : Binds K fdHeard ["self", "h"] [] := FHeard.binds (ps := ["self", "h"]) fun _ _ _ _ _ _ us hl => match us, hl with | [_, _], _ => rfl
  have oHeard := ok_heard (P := P) (w := w) (base := base) FHeard B T TM cM k8
  have j9 : J9 P w K mg base CJ CB CE CM := ⟨⟨fThen, fdThen, mThen, bThen, oThen⟩, ⟨fHeard, fdHeard, mHeard, bHeard, oHeard⟩⟩
  have c__law_pool := cal_of (P := P) (w := w) (base := base) (ps := ["script"]) d__law_pool (fun _ _ _ _ _ _ us hl => match us, hl with | [_], _ => rfl) fun f fd F => ok_pool F B
  have c__law_draw := cal_of (P := P) (w := w) (base := base) (ps := ["pool", "many"]) d__law_draw (fun _ _ _ _ _ _ us hl => match us, hl with | [_, _], _ => rfl) fun f fd F => ok_draw F B
  have g1 : G1 P w K mg base := ⟨c__law_draw⟩
  have c__law_names := cal_of (P := P) (w := w) (base := base) (ps := ["pool", "many"]) d__law_names (fun _ _ _ _ _ _ us hl => match us, hl with | [_, _], _ => rfl) fun f fd F => ok_names F B g1
  have g2 : G2 P w K mg base := ⟨g1, c__law_names⟩
  have c__law_lates := cal_of (P := P) (w := w) (base := base) (ps := ["pool"]) d__law_lates (fun _ _ _ _ _ _ us hl => match us, hl with | [_], _ => rfl) fun f fd F => ok_lates F B g2
  have c__law_amount := cal_of (P := P) (w := w) (base := base) (ps := ["pool"]) d__law_amount (fun _ _ _ _ _ _ us hl => match us, hl with | [_], _ => rfl) fun f fd F => ok_amount F B g2
  have c__law_begin := cal_of (P := P) (w := w) (base := base) (ps := ["pool"]) d__law_begin (fun _ _ _ _ _ _ us hl => match us, hl with | [_], _ => rfl) fun f fd F => ok_begin F B g2
  have g3 : G3 P w K mg base := ⟨g2, c__law_lates, c__law_amount, c__law_begin⟩
  have c__law_entry := cal_of (P := P) (w := w) (base := base) (ps := ["pool", "lates", "keys", "states", "number", "arrival"]) d__law_entry (fun _ _ _ _ _ _ us hl => match us, hl with | [_, _, _, _, _, _], _ => rfl) fun f fd F => ok_entry F B g3
  have c__law_put := cal_of (P := P) (w := w) (base := base) (ps := ["states", "entry"]) d__law_put (fun _ _ _ _ _ _ us hl => match us, hl with | [_, _], _ => rfl) fun f fd F => ok_put F B
  have g4 : G4 P w K mg base := ⟨g3, c__law_entry, c__law_put⟩
  have c__law_entries := cal_of (P := P) (w := w) (base := base) (ps := ["pool", "lates", "keys", "states", "number", "arrival", "many"]) d__law_entries (fun _ _ _ _ _ _ us hl => match us, hl with | [_, _, _, _, _, _, _], _ => rfl) fun f fd F => ok_entries F B g4
  have c__law_then := cal_of (P := P) (w := w) (base := base) (ps := ["journal", "entry"]) d__law_then (fun _ _ _ _ _ _ us hl => match us, hl with | [_, _], _ => rfl) fun f fd F => ok_lthen F B T TE cE j9
  have c__law_heard := cal_of (P := P) (w := w) (base := base) (ps := ["journal", "h"]) d__law_heard (fun _ _ _ _ _ _ us hl => match us, hl with | [_, _], _ => rfl) fun f fd F => ok_lheard F B T TM cM j9
  have c__law_arrival := cal_of (P := P) (w := w) (base := base) (ps := ["entry"]) d__law_arrival (fun _ _ _ _ _ _ us hl => match us, hl with | [_], _ => rfl) fun f fd F => ok_larr F B
  have c__law_bad := cal_of (P := P) (w := w) (base := base) (ps := ["pool", "lates", "states", "number", "now"]) d__law_bad (fun _ _ _ _ _ _ us hl => match us, hl with | [_, _, _, _, _], _ => rfl) fun f fd F => ok_bad F B g4
  have c__law_at_the_end := cal_of (P := P) (w := w) (base := base) (ps := ["states", "lates", "now"]) d__law_at_the_end (fun _ _ _ _ _ _ us hl => match us, hl with | [_, _, _], _ => rfl) fun f fd F => ok_end F B
  have jd : MakD P w K mg base (L2.CX P w) "Journal" CJ 7 ["self", "book", "entries"] (.ref aE) (spJInit K CJ CB CE) := by
    cases v2 with
    | cons r v2 =>
      cases v2
      exact ⟨fJ, fdJ, _, mJ, T.c, bJ2, r, oJ⟩
  have g5 : G5 P w K mg base CB CJ CE aE := ⟨g4, c__law_pool, c__law_entries, c__law_then, c__law_heard, c__law_arrival, c__law_bad, c__law_at_the_end, ⟨fInit, fdInit, ⟨mkB, mInit.at_, mInit.fn, kB⟩, TB.c, bInit, oInit⟩, jd⟩
  exact ok_law F_law B T TB bk od sqE j9 g5
end
end Ash

set_option Elab.async false
set_option linter.all false
set_option maxRecDepth 100000
set_option maxHeartbeats 4000000
namespace Ash
open PySem PySem.Spec PyProof.Rows L2
/-- the four facts that make a class plain -/
theorem all_mk {P : Program} {w : World} {K : PySem.W.Frag} {h : Heap} {mg : Str → Option Value} {fa CB CJ CE CM fE fM aT aE f4 : Addr} {oc4 kV4 dc4 pm4 cd4 ct4 : Value} {od4 an4 : Option Addr} {sl4 : Array (Option Value)} (X : K.In h) (G : h.Ns mainGlobals mg) (hfa : mg "law" = some (.ref fa))
    (aB : PySem.W.nsIn K mainGlobals "Book" = some (some (.ref CB))) (aJ : PySem.W.nsIn K mainGlobals "Journal" = some (some (.ref CJ))) (aBE : PySem.W.nsIn K mainGlobals "BadEntry" = some (some (.ref CE))) (aBM : PySem.W.nsIn K mainGlobals "BadMoment" = some (some (.ref CM))) (aTB : PySem.W.nsIn K mainGlobals "TAKEN_BACK" = some (some (.ref aT)))
    (a4 : PySem.W.nsIn K mainGlobals "law" = some (some (.ref f4))) (l4 : K.lookup f4 = some ⟨oc4, od4, .func (PySem.W.fnOf "law" "law" (defArgs s_law) (defBody s_law) (defScope s_law) .none kV4 dc4 pm4 an4 cd4 ct4), sl4⟩) (c4 : PySem.W.codeIn K cd4 "law" = true) (k4 : PySem.W.keepIn K (.ref f4) = true)
    (B : Blt mg) (Cs : Cst mg) (clB : Cls K CB) (nL : PySem.W.findIn K (.ref CB) "_lates" = some none) (clJ : Cls K CJ) (nB : PySem.W.findIn K (.ref CJ) "book" = some none) (nE : PySem.W.findIn K (.ref CJ) "entries" = some none) (nK : PySem.W.findIn K (.ref CJ) "_known" = some none) (tT : ∃ (o : Obj) (n : Nat), K.lookup aT = some o ∧ o.cls = .type "tuple" ∧ o.data = .seq #[] n)
    (TE : PySem.BadX.Txt P K mg "at" "at" CE fE) (TM : PySem.BadX.Txt P K mg "value" "value" CM fM) (bi : BkI K CB) (od : Odd K CB)
    (d_is_integer : D1 K mg "is_integer" s_is_integer)
    (d_is_natural : D1 K mg "is_natural" s_is_natural)
    (d_is_name : D1 K mg "is_name" s_is_name)
    (d_are_integers : D1 K mg "are_integers" s_are_integers)
    (d_is_late : D1 K mg "is_late" s_is_late)
    (d_is_lates : D1 K mg "is_lates" s_is_lates)
    (d_is_entry : D1 K mg "is_entry" s_is_entry)
    (d_arrival_of : D1 K mg "arrival_of" s_arrival_of)
    (d_placed : D1 K mg "placed" s_placed)
    (d_row_behind : D1 K mg "row_behind" s_row_behind)
    (d_walked : D1 K mg "walked" s_walked)
    (d_is_row : D1 K mg "is_row" s_is_row)
    (d__law_pool : D1 K mg "_law_pool" s_l_pool)
    (d__law_draw : D1 K mg "_law_draw" s_l_draw)
    (d__law_names : D1 K mg "_law_names" s_l_names)
    (d__law_lates : D1 K mg "_law_lates" s_l_lates)
    (d__law_amount : D1 K mg "_law_amount" s_l_amount)
    (d__law_begin : D1 K mg "_law_begin" s_l_begin)
    (d__law_entry : D1 K mg "_law_entry" s_l_entry)
    (d__law_put : D1 K mg "_law_put" s_l_put)
    (d__law_entries : D1 K mg "_law_entries" s_l_entries)
    (d__law_then : D1 K mg "_law_then" s_l_then)
    (d__law_heard : D1 K mg "_law_heard" s_l_heard)
    (d__law_arrival : D1 K mg "_law_arrival" s_l_arrival)
    (d__law_bad : D1 K mg "_law_bad" s_l_bad)
    (d__law_at_the_end : D1 K mg "_law_at_the_end" s_l_at_the_end)
    (mkB : PySem.W.makesIn K CB = true) (kB : PySem.W.keepIn K (.ref CB) = true) (m_init : DM K CB "__init__" "Book.__init__" s_Book_init) (m_has : DM K CB "has" "Book.has" s_Book_has) (m_late : DM K CB "late" "Book.late" s_Book_late)
    (m_j : DJ K CJ aE) (sqE : ∀ H, SqT K H aE []) (m_then : DM K CJ "then" "Journal.then" s_Journal_then) (m_heard : DM K CJ "heard" "Journal.heard" s_Journal_heard) :
    ∃ fd : FuncData, (∀ (s : Shared) (v : Value), BindsTo s fd ⟨[v], []⟩ [("script", v)]) ∧ ∀ base : Heap, K.In base → base.Ns mainGlobals mg → FnOk P w K mg base CX0 12 fa fd ["script"] (spLaw K) := by
  have e := hfa.symm.trans (PySem.W.mg_of X G a4)
  cases e
  exact ⟨PySem.W.fnOf "law" "law" (defArgs s_law) (defBody s_law) (defScope s_law) .none kV4 dc4 pm4 an4 cd4 ct4, fun s v => .of_eq rfl, fun base _ _ => all_ok B Cs ⟨clB, nL, PySem.W.mg_of X G aB⟩ ⟨clJ, nB, nE, nK, PySem.W.mg_of X G aJ⟩ ⟨PySem.W.mg_of X G aTB, tT⟩ TE TM (PySem.W.mg_of X G aBE) (PySem.W.mg_of X G aBM) bi od sqE
    d_is_integer d_is_natural d_is_name d_are_integers d_is_late d_is_lates d_is_entry d_arrival_of d_placed d_row_behind d_walked d_is_row d__law_pool d__law_draw d__law_names d__law_lates d__law_amount d__law_begin d__law_entry d__law_put d__law_entries d__law_then d__law_heard d__law_arrival d__law_bad d__law_at_the_end mkB kB m_init m_has m_late m_j m_then m_heard (fun_mk l4 c4 k4)⟩
theorem walk {l : PySem.W.OpenLaw} {q : Program} {loose : List Str} {XP : (Str → Option Value) → Heap → Prop} {YP : World → Heap → Prop} {d : DefRec} {K : Params → PySem.W.Frag} (hn : l.most = some 63) (hdf : d.params.defaults = [])
    (hY : ∀ (w : World) (h : Heap), YP w h → (K w.params).In h)
    (F : ∀ (w : World) (mg : Str → Option Value) (fa : Addr) (h : Heap), (K w.params).In h → h.Ns mainGlobals mg → mg d.name = some (.ref fa) →
      ∃ fd : FuncData, (∀ (s : Shared) (u : Value), BindsTo s fd ⟨[u], []⟩ [("script", u)]) ∧ ∀ base : Heap, (K w.params).In base → base.Ns mainGlobals mg → FnOk l.prog w (K w.params) mg base CX0 12 fa fd ["script"] (spLaw (K w.params))) :
    PySem.W.WalkO q loose XP YP l.row.toRowW d [] (fun f vs => PySem.call f vs) :=
  L2.walk_of (n := 63) (k := 12) (x := "script") (CX := fun _ => CX0) (sp := fun w => spLaw (K w.params)) hn (by decide) hdf ⟨rfl, by decide, by decide⟩ hY F (fun _ _ a ns hl _ hS => ⟨a, ns, rfl, hS, hl, fun _ => rfl⟩) fun _ _ _ _ _ z => z
theorem cst_mk {K : PySem.W.Frag} {h : Heap} {mg : Str → Option Value} {t1 t2 t3 t4 t5 : Tok} (X : K.In h) (G : h.Ns mainGlobals mg) (a1 : PySem.W.nsIn K mainGlobals "LETTERS" = some (some (.str "abcdefghijklmnopqrstuvwxyz" t1))) (a2 : PySem.W.nsIn K mainGlobals "LONGEST_NAME" = some (some (.int 8 t2))) (a3 : PySem.W.nsIn K mainGlobals "MOST_STREAMS" = some (some (.int 8 t3)))
    (a4 : PySem.W.nsIn K mainGlobals "MOST_LATE" = some (some (.int 1000000 t4))) (a5 : PySem.W.nsIn K mainGlobals "MOST_ENTRIES" = some (some (.int 400 t5))) : Cst mg :=
  ⟨⟨t1, PySem.W.mg_of X G a1⟩, ⟨t2, PySem.W.mg_of X G a2⟩, ⟨t3, PySem.W.mg_of X G a3⟩, ⟨t4, PySem.W.mg_of X G a4⟩, ⟨t5, PySem.W.mg_of X G a5⟩⟩
theorem tt_mk {K : PySem.W.Frag} {a : Addr} {d : Option Addr} {n : Nat} {sl : Array (Option Value)} (l : K.lookup a = some ⟨.type "tuple", d, .seq #[] n, sl⟩) : ∃ (o : Obj) (n : Nat), K.lookup a = some o ∧ o.cls = .type "tuple" ∧ o.data = .seq #[] n := ⟨_, n, l, rfl, rfl⟩
theorem kit_ref {K : PySem.W.Frag} {C : Addr} {T : String} {b : Bool} (hm : PySem.W.kitMeta T = true) (h : PySem.W.subIn K (.ref C) (.type T) = some b) : PySem.W.kitOne K (.ref C) (.type T) = some b := by
  have e : (Value.ref C == Value.type T) = false := rfl
  unfold PySem.W.kitOne PySem.W.kitCls
  rw [e, if_neg Bool.false_ne_true]
  show (if PySem.W.kitMeta T = true then _ else _) = _
  rw [if_pos hm]
  exact h
theorem od_mk {K : PySem.W.Frag} {C : Addr} (h1 : PySem.W.subIn K (.ref C) (.type "int") = some false) (h2 : PySem.W.subIn K (.ref C) (.type "bool") = some false) (h3 : PySem.W.subIn K (.ref C) (.type "tuple") = some false) : Odd K C := ⟨kit_ref (by decide +kernel) h1, ⟨false, kit_ref (by decide +kernel) h2⟩, kit_ref (by decide +kernel) h3⟩
theorem exm_me {K : PySem.W.Frag} {C : Addr} (h1 : PySem.W.subIn K (.ref C) (.type "BaseException") = some true) (h2 : PySem.W.isClsIn K C = true) (h3 : PySem.W.typeIn K (.ref C) = some (.type "type")) (h4 : PySem.W.subIn K (.ref C) (.ref C) = some true) : PySem.W.exmOne K (.ref C) (.ref C) = some true := by
  have h2' : (PySem.W.clsIn K C).isSome = true := h2
  simp [PySem.W.exmOne, PySem.W.kitCls, h1, h2', h3, h4]
open PySem.W PySem.Calls PySem.HandSPX in
/-- the facts of an own error's class -/
theorem txt_mk {P : Program} {K : PySem.W.Frag} {h : Heap} {mg : Str → Option Value} {par fl : Str} {C fI N cda cc : Addr} {nm q qual tx file : Str} {bs bm sub : List Value} {sn : List Str} {ab : Bool} {col : Option Bool} {dd : Option Addr} {m0 m1 m2 m3 m5 : Option Value}
    {oc doc pm ct ccl cl : Value} {od an cdd cld : Option Addr} {osl ccs csl : Array (Option Value)} {vs : Array Value} {pa : Arguments} {p0 p1 p2 p3 p4 p5 p6 p7 p8 p9 : Pos} {j : Nat} {a0 : Arg} {tf : Nat} (X : K.In h) (G : h.Ns mainGlobals mg)
    (cls : K.lookup C = some (excClassObj nm q C N bs bm true sn sub ab col dd m0 m1 m2 m3 m5 "ValueError.__new__")) (ref : PySem.HandSPX.refsVE bm = true)
    (sa : PySem.W.findIn K (.ref C) "__setattr__" = some (some (.builtin "object.__setattr__"))) (ga : PySem.W.findIn K (.ref C) "__getattribute__" = some (some (.builtin "BaseException.__getattribute__"))) (gg : PySem.W.findIn K (.ref C) "__getattr__" = some none) (noN : PySem.W.findIn K (.ref C) fl = some none)
    (iC : PySem.W.findIn K (.ref C) "__init__" = some (some (.ref fI))) (tC : PySem.W.typeIn K (.ref fI) = some (.type "function")) (kC : PySem.W.keepIn K (.ref C) = true) (exC : PySem.W.subIn K (.ref C) (.type "BaseException") = some true) (veC : PySem.W.subIn K (.ref C) (.type "ValueError") = some true)
    (slf : PySem.W.mroIn K C (.ref C) = some true) (tyC : PySem.W.typeIn K (.ref C) = some (.type "type")) (hdC : PySem.W.hasDictIn K C = true) (isC : PySem.W.isClsIn K C = true) (sC : PySem.W.subIn K (.ref C) (.ref C) = some true)
    (along : PySem.W.ks_superIn K C C "__init__" = some (some (.builtin "ValueError.__init__"))) (opq : PySem.W.nsIn K cStatics "thirdparty.any" = some none) (sup : PySem.W.nsIn K mainGlobals "super" = some none) (top : (P.main.scope.names.lookup ("super" : Str)).isSome = false)
    (lf : K.lookup fI = some ⟨oc, od, .func (PySem.W.ksFn "__init__" qual pa (PySem.BadX.shape tx par fl p0 p1 p2 p3 p4 p5 p6 p7 p8 p9 j) (PySem.BadX.sco par) .none .none doc pm an (.ref cda) ct cc), osl⟩) (cd : PySem.W.codeIn K (.ref cda) qual = true) (ha0 : (pa.posonlyargs ++ pa.args).head? = some a0) (ha1 : a0.arg = "self")
    (bd : ∀ (s : Shared) (u v : Value), BindsTo s (PySem.W.ksFn "__init__" qual pa (PySem.BadX.shape tx par fl p0 p1 p2 p3 p4 p5 p6 p7 p8 p9 j) (PySem.BadX.sco par) .none .none doc pm an (.ref cda) ct cc) ⟨[u, v], []⟩ [("self", u), (par, v)])
    (lc : K.lookup cda = some ⟨ccl, cdd, .fields vs, ccs⟩) (hvs : vs[2]? = some (.str file tf)) (hfile : ((P.main.file : Str) == file) = true) (hpe : (p2.endLine == p4.line) = true) (lcc : K.lookup cc = some ⟨cl, cld, .cell (some (.ref C)), csl⟩) : PySem.BadX.Txt P K mg par fl C fI :=
  { cls := ⟨nm, q, N, bs, bm, sn, sub, ab, col, dd, m0, m1, m2, m3, m5, cls, ref⟩, sa := sa, ga := ga, gg := gg, noN := noN, iC := iC, tC := tC, kC := kC, exC := exC, veC := veC, slf := slf, tyC := tyC, hdC := hdC, te := exm_me exC isC tyC sC, along := along, opq := opq, sup := PySem.W.mg_none_of X G sup, top := top,
    fn := ⟨oc, od, qual, tx, doc, pm, an, cda, cc, ct, osl, pa, p0, p1, p2, p3, p4, p5, p6, p7, p8, p9, j, a0, lf, cd, ha0, ha1, bd, ⟨ccl, cdd, vs, ccs, file, tf, lc, hvs, hfile⟩, hpe, ⟨cl, cld, csl, lcc⟩⟩ }
end Ash


set_option Elab.async false
open PySem PySem.W PyProof.Rows
set_option maxRecDepth 100000 in
set_option maxHeartbeats 0 in
theorem PySem.Challenge.cw_asofhall_k03_one_more_entry_holds : PySem.Challenge.rw_asofhall_k03_one_more_entry.Holds := by
  w_on; o_law; k_head; (case hw => w_witness2)
  k_fill
  refine Ash.walk (l := PySem.Challenge.rw_asofhall_k03_one_more_entry) rfl rfl (fun w h Y => PySem.W.kIn_of Y) ?F
  case F =>
    intro w mg fa h KX G hmg
    refine' Ash.all_mk KX G hmg ?aB ?aJ ?aBE ?aBM ?aTB ?a4 ?l4 ?c4 ?k4 ?B ?Cs ?clB ?nL ?clJ ?nB ?nE ?nK ?tT ?TE ?TM ?bi ?od ?d_is_integer ?d_is_natural ?d_is_name ?d_are_integers ?d_is_late ?d_is_lates ?d_is_entry ?d_arrival_of ?d_placed ?d_row_behind ?d_walked ?d_is_row ?d__law_pool ?d__law_draw ?d__law_names ?d__law_lates ?d__law_amount ?d__law_begin ?d__law_entry ?d__law_put ?d__law_entries ?d__law_then ?d__law_heard ?d__law_arrival ?d__law_bad ?d__law_at_the_end ?mkB ?kB ?m_init ?m_has ?m_late ?m_j ?sqE ?m_then ?m_heard
    (case aB => k_is)
    (case aJ => k_is)
    (case aBE => k_is)
    (case aBM => k_is)
    (case aTB => k_is)
    (case a4 => k_is)
    (case l4 => k_is)
    (case c4 => k_is)
    (case k4 => k_is)
    (case B => refine' { len := PySem.W.mg_none_of KX G ?z_len, int := PySem.W.mg_none_of KX G ?z_int, bool := PySem.W.mg_none_of KX G ?z_bool, str := PySem.W.mg_none_of KX G ?z_str, list := PySem.W.mg_none_of KX G ?z_list, tuple := PySem.W.mg_none_of KX G ?z_tuple, dict := PySem.W.mg_none_of KX G ?z_dict, isinstance := PySem.W.mg_none_of KX G ?z_isinstance, all := PySem.W.mg_none_of KX G ?z_all, range := PySem.W.mg_none_of KX G ?z_range, enumerate := PySem.W.mg_none_of KX G ?z_enumerate, sorted := PySem.W.mg_none_of KX G ?z_sorted, min := PySem.W.mg_none_of KX G ?z_min, max := PySem.W.mg_none_of KX G ?z_max }; (case z_len => k_is); (case z_int => k_is); (case z_bool => k_is); (case z_str => k_is); (case z_list => k_is); (case z_tuple => k_is); (case z_dict => k_is); (case z_isinstance => k_is); (case z_all => k_is); (case z_range => k_is); (case z_enumerate => k_is); (case z_sorted => k_is); (case z_min => k_is); (case z_max => k_is))
    (case Cs => refine' Ash.cst_mk KX G ?z1 ?z2 ?z3 ?z4 ?z5; (case z1 => k_is); (case z2 => k_is); (case z3 => k_is); (case z4 => k_is); (case z5 => k_is))
    (case clB => refine' ⟨?p1, ?p2, ?p3, ?p4⟩; (case p1 => k_is); (case p2 => k_is); (case p3 => k_is); (case p4 => k_is))
    (case nL => k_is)
    (case clJ => refine' ⟨?p1, ?p2, ?p3, ?p4⟩; (case p1 => k_is); (case p2 => k_is); (case p3 => k_is); (case p4 => k_is))
    (case nB => k_is)
    (case nE => k_is)
    (case nK => k_is)
    (case tT => refine' Ash.tt_mk ?p1; (case p1 => k_is))
    (case TE => refine' Ash.txt_mk KX G ?x_cls ?x_ref ?x_sa ?x_ga ?x_gg ?x_noN ?x_iC ?x_tC ?x_kC ?x_exC ?x_veC ?x_slf ?x_tyC ?x_hdC ?x_isC ?x_sC ?x_along ?x_opq ?x_sup ?x_top ?x_lf ?x_cd ?x_ha0 ?x_ha1 ?x_bd ?x_lc ?x_hvs ?x_hfile ?x_hpe ?x_lcc; (case x_cls => k_is); (case x_ref => decide +kernel); (case x_sa => k_is); (case x_ga => k_is); (case x_gg => k_is); (case x_noN => k_is); (case x_iC => k_is); (case x_tC => k_is); (case x_kC => k_is); (case x_exC => k_is); (case x_veC => k_is); (case x_slf => k_is); (case x_tyC => k_is); (case x_hdC => k_is); (case x_isC => k_is); (case x_sC => k_is); (case x_along => ks_is); (case x_opq => k_is); (case x_sup => k_is); (case x_top => decide +kernel); (case x_lf => k_is); (case x_cd => k_is); (case x_ha0 => exact rfl); (case x_ha1 => exact rfl); (case x_bd => exact fun s u v => .of_eq rfl); (case x_lc => k_is); (case x_hvs => exact rfl); (case x_hfile => decide +kernel); (case x_hpe => decide +kernel); (case x_lcc => k_is))
    (case TM => refine' Ash.txt_mk KX G ?x_cls ?x_ref ?x_sa ?x_ga ?x_gg ?x_noN ?x_iC ?x_tC ?x_kC ?x_exC ?x_veC ?x_slf ?x_tyC ?x_hdC ?x_isC ?x_sC ?x_along ?x_opq ?x_sup ?x_top ?x_lf ?x_cd ?x_ha0 ?x_ha1 ?x_bd ?x_lc ?x_hvs ?x_hfile ?x_hpe ?x_lcc; (case x_cls => k_is); (case x_ref => decide +kernel); (case x_sa => k_is); (case x_ga => k_is); (case x_gg => k_is); (case x_noN => k_is); (case x_iC => k_is); (case x_tC => k_is); (case x_kC => k_is); (case x_exC => k_is); (case x_veC => k_is); (case x_slf => k_is); (case x_tyC => k_is); (case x_hdC => k_is); (case x_isC => k_is); (case x_sC => k_is); (case x_along => ks_is); (case x_opq => k_is); (case x_sup => k_is); (case x_top => decide +kernel); (case x_lf => k_is); (case x_cd => k_is); (case x_ha0 => exact rfl); (case x_ha1 => exact rfl); (case x_bd => exact fun s u v => .of_eq rfl); (case x_lc => k_is); (case x_hvs => exact rfl); (case x_hfile => decide +kernel); (case x_hpe => decide +kernel); (case x_lcc => k_is))
    (case bi => refine' ⟨?p1, ?p2, ?p3, ?p4⟩; (case p1 => k_is); (case p2 => k_is); (case p3 => k_is); (case p4 => k_is))
    (case od => refine' Ash.od_mk ?p1 ?p2 ?p3; (case p1 => k_is); (case p2 => k_is); (case p3 => k_is))
    (case d_is_integer => refine' Ash.d1 KX G ?a ?l ?c ?k; (case a => k_is); (case l => k_is); (case c => k_is); (case k => k_is))
    (case d_is_natural => refine' Ash.d1 KX G ?a ?l ?c ?k; (case a => k_is); (case l => k_is); (case c => k_is); (case k => k_is))
    (case d_is_name => refine' Ash.d1 KX G ?a ?l ?c ?k; (case a => k_is); (case l => k_is); (case c => k_is); (case k => k_is))
    (case d_are_integers => refine' Ash.d1 KX G ?a ?l ?c ?k; (case a => k_is); (case l => k_is); (case c => k_is); (case k => k_is))
    (case d_is_late => refine' Ash.d1 KX G ?a ?l ?c ?k; (case a => k_is); (case l => k_is); (case c => k_is); (case k => k_is))
    (case d_is_lates => refine' Ash.d1 KX G ?a ?l ?c ?k; (case a => k_is); (case l => k_is); (case c => k_is); (case k => k_is))
    (case d_is_entry => refine' Ash.d1 KX G ?a ?l ?c ?k; (case a => k_is); (case l => k_is); (case c => k_is); (case k => k_is))
    (case d_arrival_of => refine' Ash.d1 KX G ?a ?l ?c ?k; (case a => k_is); (case l => k_is); (case c => k_is); (case k => k_is))
    (case d_placed => refine' Ash.d1 KX G ?a ?l ?c ?k; (case a => k_is); (case l => k_is); (case c => k_is); (case k => k_is))
    (case d_row_behind => refine' Ash.d1 KX G ?a ?l ?c ?k; (case a => k_is); (case l => k_is); (case c => k_is); (case k => k_is))
    (case d_walked => refine' Ash.d1 KX G ?a ?l ?c ?k; (case a => k_is); (case l => k_is); (case c => k_is); (case k => k_is))
    (case d_is_row => refine' Ash.d1 KX G ?a ?l ?c ?k; (case a => k_is); (case l => k_is); (case c => k_is); (case k => k_is))
    (case d__law_pool => refine' Ash.d1 KX G ?a ?l ?c ?k; (case a => k_is); (case l => k_is); (case c => k_is); (case k => k_is))
    (case d__law_draw => refine' Ash.d1 KX G ?a ?l ?c ?k; (case a => k_is); (case l => k_is); (case c => k_is); (case k => k_is))
    (case d__law_names => refine' Ash.d1 KX G ?a ?l ?c ?k; (case a => k_is); (case l => k_is); (case c => k_is); (case k => k_is))
    (case d__law_lates => refine' Ash.d1 KX G ?a ?l ?c ?k; (case a => k_is); (case l => k_is); (case c => k_is); (case k => k_is))
    (case d__law_amount => refine' Ash.d1 KX G ?a ?l ?c ?k; (case a => k_is); (case l => k_is); (case c => k_is); (case k => k_is))
    (case d__law_begin => refine' Ash.d1 KX G ?a ?l ?c ?k; (case a => k_is); (case l => k_is); (case c => k_is); (case k => k_is))
    (case d__law_entry => refine' Ash.d1 KX G ?a ?l ?c ?k; (case a => k_is); (case l => k_is); (case c => k_is); (case k => k_is))
    (case d__law_put => refine' Ash.d1 KX G ?a ?l ?c ?k; (case a => k_is); (case l => k_is); (case c => k_is); (case k => k_is))
    (case d__law_entries => refine' Ash.d1 KX G ?a ?l ?c ?k; (case a => k_is); (case l => k_is); (case c => k_is); (case k => k_is))
    (case d__law_then => refine' Ash.d1 KX G ?a ?l ?c ?k; (case a => k_is); (case l => k_is); (case c => k_is); (case k => k_is))
    (case d__law_heard => refine' Ash.d1 KX G ?a ?l ?c ?k; (case a => k_is); (case l => k_is); (case c => k_is); (case k => k_is))
    (case d__law_arrival => refine' Ash.d1 KX G ?a ?l ?c ?k; (case a => k_is); (case l => k_is); (case c => k_is); (case k => k_is))
    (case d__law_bad => refine' Ash.d1 KX G ?a ?l ?c ?k; (case a => k_is); (case l => k_is); (case c => k_is); (case k => k_is))
    (case d__law_at_the_end => refine' Ash.d1 KX G ?a ?l ?c ?k; (case a => k_is); (case l => k_is); (case c => k_is); (case k => k_is))
    (case mkB => k_is)
    (case kB => k_is)
    (case m_init => refine' Ash.dm ?a ?i ?l ?c ?k; (case a => k_is); (case i => k_is); (case l => k_is); (case c => k_is); (case k => k_is))
    (case m_has => refine' Ash.dm ?a ?i ?l ?c ?k; (case a => k_is); (case i => k_is); (case l => k_is); (case c => k_is); (case k => k_is))
    (case m_late => refine' Ash.dm ?a ?i ?l ?c ?k; (case a => k_is); (case i => k_is); (case l => k_is); (case c => k_is); (case k => k_is))
    (case m_j => refine' Ash.dj ⟨?m1, ?m2, ?m3, ?m4⟩ ?l ?lT ?c ?k; (case m1 => k_is); (case m2 => k_is); (case m3 => k_is); (case m4 => k_is); (case l => k_is); (case lT => k_is); (case c => k_is); (case k => k_is))
    (case sqE => refine' Ash.sq_of ?l; (case l => k_is))
    (case m_then => refine' Ash.dm ?a ?i ?l ?c ?k; (case a => k_is); (case i => k_is); (case l => k_is); (case c => k_is); (case k => k_is))
    (case m_heard => refine' Ash.dm ?a ?i ?l ?c ?k; (case a => k_is); (case i => k_is); (case l => k_is); (case c => k_is); (case k => k_is))

