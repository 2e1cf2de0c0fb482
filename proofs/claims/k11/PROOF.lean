import PyProof.Rows.All
import Wide.All
import OpenK.AllK
import Wide.FinOn
import PyProof.EqAt
import PyProof.EqKinds
import PyProof.TupleCall
import KE.KExcSuper
import HandS.ForMost
import HandS.ForExc
import HandS.ExcInit
import HandS.IsInst
import HandS.Wide
import HandS.Star
import HandS.CallSlots
import HandS.DictComp
import HandS.OwnEq
import HandS.Codes
import HandS.Defaults
import HandS.Walk
import PySem.Challenge.RW_asofhall_k11_amounts_between_moments
import HandS.SortRule
import HandS.More
import HandS.Deep
import PyProof.InstNe
import OpenK.KOwn
import OpenK.KOps
import HandS.Sort
import OpenK.KMeth
import HandS.SlotsOwn
import KE.KOpsOwn
import KE.DatumOrd
import HandS.SortKw
import HandS.TupLe
set_option Elab.async false
set_option linter.all false
set_option maxRecDepth 100000
set_option maxHeartbeats 4000000
namespace PySem
namespace BadX
open PySem.W PySem.Calls PyProof.Rows PySem.HandSPX
/-- super().__init__(text); self.fl = par -/
def shape (tx par fl : Str) (p0 p1 p2 p3 p4 p5 p6 p7 p8 p9 : Pos) (j : Nat) : List Stmt :=
  [.Expr (.Call (.Attribute (.Call (.Name "super" p0) [] [] p1) "__init__" p2) [.Constant (.str tx) j p3] [] p4) p5,
   .Assign [.Attribute (.Name "self" p6) fl p7] (.Name par p8) p9]
def sco (par : Str) : Scope := { kind := .function, names := [(PySem.Str.ofString "self", .local), (par, .local), (PySem.Str.ofString "__class__", .free), (PySem.Str.ofString "super", .globalImplicit)], isGenerator := false, isCoroutine := false, more := [] }
/-- what the written part says of an own error's class at C, its __init__ at fI, whose one field is fl -/
structure Txt (P : Program) (K : Frag) (mg : Str → Option Value) (par fl : Str) (C fI : Addr) : Prop where
  cls : ∃ nm q N bs bm sn sub ab col dd k0 k1 k2 k3 k5, K.lookup C = some (excClassObj nm q C N bs bm true sn sub ab col dd k0 k1 k2 k3 k5 "ValueError.__new__") ∧ refsVE bm = true
  sa : findIn K (.ref C) "__setattr__" = some (some (.builtin "object.__setattr__"))
  ga : findIn K (.ref C) "__getattribute__" = some (some (.builtin "BaseException.__getattribute__"))
  gg : findIn K (.ref C) "__getattr__" = some none
  noN : findIn K (.ref C) fl = some none
  iC : findIn K (.ref C) "__init__" = some (some (.ref fI))
  tC : typeIn K (.ref fI) = some (.type "function")
  kC : keepIn K (.ref C) = true
  exC : subIn K (.ref C) (.type "BaseException") = some true
  veC : subIn K (.ref C) (.type "ValueError") = some true
  slf : mroIn K C (.ref C) = some true
  tyC : typeIn K (.ref C) = some (.type "type")
  hdC : hasDictIn K C = true
  te : exmOne K (.ref C) (.ref C) = some true
  along : ks_superIn K C C "__init__" = some (some (.builtin "ValueError.__init__"))
  opq : nsIn K cStatics "thirdparty.any" = some none
  sup : mg "super" = none
  top : (P.main.scope.names.lookup ("super" : Str)).isSome = false
  fn : ∃ (oc : Value) (od : Option Addr) (qual tx : Str) (doc pm : Value) (an : Option Addr) (cda cc : Addr) (ct : Value) (osl : Array (Option Value)) (pa : Arguments) (p0 p1 p2 p3 p4 p5 p6 p7 p8 p9 : Pos) (j : Nat) (a0 : Arg),
    K.lookup fI = some ⟨oc, od, .func (ksFn "__init__" qual pa (shape tx par fl p0 p1 p2 p3 p4 p5 p6 p7 p8 p9 j) (sco par) .none .none doc pm an (.ref cda) ct cc), osl⟩ ∧ codeIn K (.ref cda) qual = true ∧
    (pa.posonlyargs ++ pa.args).head? = some a0 ∧ a0.arg = "self" ∧
    (∀ (s : Shared) (u v : Value), BindsTo s (ksFn "__init__" qual pa (shape tx par fl p0 p1 p2 p3 p4 p5 p6 p7 p8 p9 j) (sco par) .none .none doc pm an (.ref cda) ct cc) ⟨[u, v], []⟩ [("self", u), (par, v)]) ∧
    (∃ ccl cdd vs ccs file tf, K.lookup cda = some ⟨ccl, cdd, .fields vs, ccs⟩ ∧ vs[2]? = some (.str file tf) ∧ ((P.main.file : Str) == file) = true) ∧
    (p2.endLine == p4.line) = true ∧
    (∃ cl cld csl, K.lookup cc = some ⟨cl, cld, .cell (some (.ref C)), csl⟩)
/-- what __init__ leaves of a fresh exception at x -/
structure Left (fl : Str) (h h' : Heap) (x C dx t1 : Addr) (v : Value) : Prop where
  keep : ∀ b o, b ≠ x → h.get? b = some o → h'.get? b = some o
  obj : h'.get? x = some { cls := .ref C, dict := some dx, data := .fields #[.ref t1, .none, .none, .none, .bool false, .none] }
  dbig : h.objs.size ≤ dx
  dne : dx ≠ x
  ns : h'.Ns1 dx (fun y => if y = fl then some v else none)
section
variable {prog : Program} {w : World} {A : Around} {E : Value → Shared → Prop} {R : Result → Shared → Prop} {s : Shared} {K : Frag} {mg mb : Str → Option Value} {C fI : Addr} {par fl : Str}
/-- the wrapper of ValueError.__init__, bound to x, called -/
theorem call_bound {h : Heap} {g : Array GenState} {d : Drawn} {t : Nat} {os : OsState} {u x t0 : Addr} {rest : List Value} {Q : Value → Shared → Prop} {nm q : Str} {N : Addr} {bs bm : List Value} {sn : List Str} {sub : List Value} {ab : Bool} {col : Option Bool} {dd : Option Addr} {k0 k1 k2 k3 k5 : Option Value}
    (hC : h.get? C = some (excClassObj nm q C N bs bm true sn sub ab col dd k0 k1 k2 k3 k5 "ValueError.__new__")) (hx : h.get? x = some (excO C t0)) (hu : h.get? u = some (kxs_mw "ValueError.__init__" x)) (hr : rest.length ≤ sizeLine)
    (hq : ∀ h', (∀ b o, b ≠ x → h.get? b = some o → h'.get? b = some o) → h'.get? x = some (excO C h.objs.size) → Q .none ⟨h', g, d, t, os⟩) :
    wpAny (model prog w) A (call (.ref u) rest) Q E ⟨h, g, d, t, os⟩ := by
  have FB := F.excBase_ValueError
  refine wpAny_call (codeAny_of_tree ?_)
  show wpAny _ A.in1 (callAny (.ref u) ⟨rest, []⟩) _ _ _
  simp only [callAny]
  refine wpAny_bind (wpAny_load hu ?_)
  have c1 : (Value.type "method-wrapper" == Value.type "method" || Value.type "method-wrapper" == Value.type "builtin_function_or_method" || Value.type "method-wrapper" == Value.type "method-wrapper") = true := by decide
  simp only [kxs_mw, c1, if_true]
  refine KFB.if_so (by decide) (wpAny_bind (check_bound_init FB.toExcCallFacts hC hx rfl (wpAny_bind (wpAny_pure (wpAny_pure ⟨plainId_quiet FB.init.plain _, codeAny_builtin FB.initEntry ?_⟩)))))
  exact exc_init_tree (cls := .ref C) (t0 := t0) (dv := none) (c2 := .none) (c3 := .none) (b4 := .bool false) hx hr fun h' k e' _ => hq h' k e'
theorem init_ok {x t0 : Addr} {v : Value} (T : Txt prog K mg par fl C fI) (X : K.In s.heap) (G : s.heap.Ns mainGlobals mg) (B : s.heap.Ns builtinsNs mb) (hb : mb "super" = some (.type "super")) (hlim : s.heap.NoLimit)
    (hx : s.heap.get? x = some (excO C t0)) (hnx : K.lookup x = none) (hroom : A.depth < recursionLimit) (hp1 : (par == ("__debug__" : Str)) = false) (hp2 : ¬ par = "self")
    (hloc : (sco par).names.lookup par = some .local) (hks : (sco par).names.lookup ("super" : Str) = some .globalImplicit) (hkc : (sco par).names.lookup ("__class__" : Str) = some .free)
    (hq : ∀ h' tk t1 dx, Left fl s.heap h' x C dx t1 v → R (.ok (.ret .none)) { s with heap := h', toks := tk }) :
    codeAny (model prog w) A (.call (.ref fI) ⟨[.ref x, v], []⟩) R s := by
  obtain ⟨oc, od, qual, tx, doc, pm, an, cda, cc, ct, osl, pa, p0, p1, p2, p3, p4, p5, p6, p7, p8, p9, j, a0, ho, hcd, ha0, ha1, hbd, ⟨ccl, cdd, vs, ccs, file, tf, hcode, hvs, hfile⟩, hpe, ⟨cl, cld, csl, hcell⟩⟩ := T.fn
  obtain ⟨nm, q, N, bs, bm, sn, sub, ab, col, dd, k0, k1, k2, k3, k5, hC, hbm⟩ := T.cls
  have hcl : clsIn K C = some { name := nm, bases := bs, mro := .ref C :: bm, ns := N, qualname := q, hasDict := true, slotNames := sn, subclasses := sub, abstract := ab, collection := col, hasDel := false } := by unfold clsIn; rw [hC] <;> rfl
  refine ks_codeAny_call_defAt (binds := [("self", .ref x), (par, v)]) hroom (X _ _ ho) rfl hlim (codeRec_of X hcd) rfl (hbd s (.ref x) v) ?_ ?_ (fun h₁ hns hk₁ => ?_)
  · intro y hy
    have : y ∈ [(PySem.Str.ofString "self", NameKind.local), (par, .local), (PySem.Str.ofString "__class__", .free), (PySem.Str.ofString "super", .globalImplicit)] := hy
    simp only [List.mem_cons, List.not_mem_nil, or_false] at this
    rcases this with rfl | rfl | rfl | rfl <;> (intro z; cases z)
  · intro y hy
    simp only [List.mem_cons, List.not_mem_nil, or_false] at hy
    rcases hy with rfl | rfl
    · exact (by rfl : (sco par).names.lookup ("self" : Str) = some .local)
    · exact hloc
  have hself : ([(("self" : Str), Value.ref x), (par, v)] : List (Str × Value)).reverse.lookup ("self" : Str) = some (Value.ref x) := by
    show List.lookup ("self" : Str) [(par, v), (("self" : Str), Value.ref x)] = _
    have e1 : (("self" : Str) == par) = false := by simpa using fun z => hp2 z.symm
    simp [List.lookup, e1]
  have hpar : ([(("self" : Str), Value.ref x), (par, v)] : List (Str × Value)).reverse.lookup par = some v := by
    show List.lookup par [(par, v), (("self" : Str), Value.ref x)] = _
    simp [List.lookup]
  have X₁ : K.In h₁ := X.keeps hk₁
  have hx₁ := hk₁ _ _ hx
  refine ks_wpAt_execs_cons (ks_wpAt_Expr_any (ks_wpAt_MethodCall (pl := ?pl) ?_ ?he))
  case he =>
    rw [arm_eval_Call]
    unfold methodCall methodCallPos
    rw [hpe]
    with_unfolding_all rfl
  refine ks_wpAt_super_base (hks := hks) (hkc := hkc) (by decide +kernel) rfl (X₁ _ _ ho) rfl ha0 rfl (X₁ _ _ hcode) rfl hvs hfile T.top ?_
  refine ks_loadName_global rfl hks (loadGlobal_builtin (G.keeps hk₁) T.sup (B.keeps hk₁) hb ⟨rfl, ?_⟩)
  refine wpAny_loadName_free rfl hkc rfl ⟨_, X₁ _ _ hcell, rfl⟩ ?_
  rw [ha1]
  refine wpAny_loadName_local rfl rfl hns hself ?_
  refine ks_wpAny_isType_cls (X₁ _ _ hC) rfl ⟨rfl, ?_⟩
  refine ks_wpAny_call_super (X₁ _ _ hC) rfl hx₁ rfl (fun c e => by cases e) (looks_mroIn X₁ T.slf) (fun h₂ e₂ k₂ => ?_)
  have X₂ : K.In h₂ := X₁.keeps k₂
  have hx₂ := k₂ _ _ hx₁
  have I₂ : InstAt h₂ x (excO C t0) C none := ⟨hx₂, rfl, rfl, trivial⟩
  have hal := T.along
  unfold ks_superIn at hal
  rw [hcl] at hal
  refine kxs_getMethod kxs_ValueError e₂ (looks_opaque X₂ T.opq) (l₀ := .ref C :: bm) ?_ rfl X₂ hal (I₂.type.andThen (looks_subIn X₂ T.veC)) (ks_ne X₂ I₂ hcl) (by decide +kernel) ?_
  · exact fun A Q E s k q => wpAny_bind ((looks_clsIn X₂ hcl) A _ E s k (wpAny_pure q))
  have hu : (h₂.push (kxs_mw "ValueError.__init__" x)).get? h₂.objs.size = some (kxs_mw "ValueError.__init__" x) := Heap.get?_push_at rfl rfl
  have k₃ : ∀ b o, h₂.get? b = some o → (h₂.push (kxs_mw "ValueError.__init__" x)).get? b = some o := fun b o e => Heap.get?_push_of_some _ e
  let H₃ := h₂.push (kxs_mw "ValueError.__init__" x)
  refine kxs_callWith1 (i := "ValueError.__init__") (x := x) (u := h₂.objs.size) (h₀ := Att.noObjs H₃) (L := h₂.objs.size + 7) (news := [(h₂.objs.size, kxs_mw "ValueError.__init__" x)]) (fun q hq => ?_) (List.Mem.head _) ?_
  · rcases List.mem_cons.mp hq with rfl | hq
    · exact ⟨hu, by show h₂.objs.size ≠ h₂.objs.size + 7; omega, Att.noObjs_get _ _⟩
    · cases hq
  refine wpAny_items_cons (Constant_str ?_)
  refine wpAny_items_nil ⟨hu, ?_⟩
  have X₃ : K.In (h₂.push (kxs_mw "ValueError.__init__" x)) := X₂.keeps k₃
  refine call_bound (X₃ _ _ hC) (k₃ _ _ hx₂) hu (by rw [sizeLine_eq]; exact (by decide : 1 ≤ 16777216)) fun h₄ k₄ e₄ => ?_
  -- self.fl = par
  have k14 : ∀ b o, b ≠ x → h₁.get? b = some o → h₄.get? b = some o := fun b o hb e => k₄ b o hb (k₃ b o (k₂ b o e))
  have xL : s.heap.objs.size ≠ x := Nat.ne_of_gt (Heap.lt_size hx)
  obtain ⟨oL, es, ep, hL, hr⟩ := hns
  have hns₄ : h₄.Ns s.heap.objs.size (fun y => ([(("self" : Str), Value.ref x), (par, v)] : List (Str × Value)).reverse.lookup y) := ⟨oL, es, ep, k14 _ _ xL hL, hr⟩
  have X₄ : K.In h₄ := fun a o e => k₄ a o (fun z => by rw [z, hnx] at e; cases e) (X₃ a o e)
  refine wpAt_of_wpAny (wpAny_execs_cons (plainObj_wpAny_Assign_Attribute ?_))
  refine wpAny_Name (wpAny_loadName_local rfl hloc hns₄ hpar ?_) hp1
  refine wpAny_Name (wpAny_loadName_local rfl rfl hns₄ hself ?_) (by decide)
  refine set_plain X₄ (ox := excO C h₂.objs.size.succ) (od := none) ⟨?_, rfl, rfl, trivial⟩ T.sa ?_
  · show h₄.get? x = some (excO C h₂.objs.size.succ)
    rw [e₄, Heap.size_push]
  have e₄' : h₄.get? x = some (excO C h₂.objs.size.succ) := by
    rw [e₄, Heap.size_push]
  refine exc_osa X₄ e₄' hcl (show refsVE (.ref C :: bm) = true from hbm) rfl T.noN (fun h₅ tk₅ dx k₅ dn dne hx₅ hn₅ => ?_)
  have z1 : s.heap.objs.size < h₄.objs.size := Heap.lt_size (k14 _ _ xL hL)
  refine wpAny_execs_nil (hq h₅ tk₅ _ dx ⟨fun b o hb e => k₅ b o hb (k14 b o hb (hk₁ b o e)), hx₅, Nat.le_of_lt (Nat.lt_of_lt_of_le z1 dn), dne, hn₅⟩)
theorem one_le (v : Value) : [v].length ≤ sizeLine := by
  rw [sizeLine_eq]
  exact (by decide : 1 ≤ 16777216)
/-- a made error -/
structure Made (fl : Str) (h h' : Heap) (e C d : Addr) (v : Value) : Prop where
  keep : ∀ b o, h.get? b = some o → h'.get? b = some o
  new : h.objs.size ≤ e
  obj : ∃ oe vs, h'.get? e = some oe ∧ oe.cls = .ref C ∧ oe.dict = some d ∧ oe.data = .fields vs ∧ vs[1]? = some .none
  dbig : h.objs.size ≤ d
  dne : d ≠ e
  ns : h'.Ns1 d (fun y => if y = fl then some v else none)
/-- the names of such an __init__ -/
structure Par (par : Str) : Prop where
  p1 : (par == ("__debug__" : Str)) = false
  p2 : ¬ par = "self"
  p3 : (sco par).names.lookup par = some .local
  p4 : (sco par).names.lookup ("super" : Str) = some .globalImplicit
  p5 : (sco par).names.lookup ("__class__" : Str) = some .free
theorem made_ok {v : Value} (T : Txt prog K mg par fl C fI) (p : Par par) (X : K.In s.heap) (G : s.heap.Ns mainGlobals mg) (B : s.heap.Ns builtinsNs mb) (hb : mb "super" = some (.type "super")) (hlim : s.heap.NoLimit) (hroom : A.depth + 1 < recursionLimit)
    (hq : ∀ h' tk e d, Made fl s.heap h' e C d v → R (.ok (.ret (.ref e))) { s with heap := h', toks := tk }) :
    codeAny (model prog w) A (.call (.ref C) ⟨[v], []⟩) R s := by
  obtain ⟨nm, q, N, bs, bm, sn, sub, ab, col, dd, k0, k1, k2, k3, k5, hC, hbm⟩ := T.cls
  obtain ⟨hp, g, dr, tk, os⟩ := s
  let hp2 := (hp.push (kdv_tup [v])).push (excO C hp.objs.size)
  have k : ∀ b o, hp.get? b = some o → hp2.get? b = some o := fun b o e => Heap.get?_push_of_some _ (Heap.get?_push_of_some _ e)
  have hget : hp2.get? (hp.objs.size + 1) = some (excO C hp.objs.size) := by
    show ((hp.push (kdv_tup [v])).push (excO C hp.objs.size)).get? (hp.objs.size + 1) = _
    heap_get
  have hsz : hp2.objs.size = hp.objs.size + 2 := by
    show ((hp.push (kdv_tup [v])).push (excO C hp.objs.size)).objs.size = _
    rw [Heap.size_push, Heap.size_push]
  have hnx : K.lookup (hp.objs.size + 1) = none := by
    cases e : K.lookup (hp.objs.size + 1) with
    | none => rfl
    | some o => exact absurd (Nat.lt_of_succ_lt (Heap.lt_size (show hp.get? _ = some o from X _ _ e))) (Nat.lt_irrefl _)
  refine call_own F.excBase_ValueError (fun Y => refsVE_contains Y bm hbm) (X _ _ hC) (looks_findIn X T.iC) (fun self => bind_fn X self T.tC) (one_le v) ?_
  refine init_ok (s := ⟨hp2, g, dr, tk, os⟩) T (X.keeps k) (G.keeps k) (B.keeps k) hb (hlim.keeps k) hget hnx (show A.depth + 1 < recursionLimit from hroom) p.p1 p.p2 p.p3 p.p4 p.p5 fun h' tk' t1 dx ⟨k', hx, dn, dne, hns⟩ => ?_
  have old : ∀ b o, hp.get? b = some o → h'.get? b = some o := fun b o e => k' b o (Nat.ne_of_lt (Nat.lt_succ_of_lt (Heap.lt_size e))) (k b o e)
  have dn' : hp2.objs.size ≤ dx := dn
  rw [hsz] at dn'
  exact ⟨rfl, hq h' tk' (hp.objs.size + 1) dx ⟨old, Nat.le_succ _, ⟨_, _, hx, rfl, rfl, rfl, rfl⟩, (by show hp.objs.size ≤ dx; omega), dne, hns⟩⟩
end
end BadX
end PySem
namespace L2
open PySem PySem.Spec PyProof.Rows
theorem relO_one {v : V} {v' : Value} (r : RelV v v') (fl f : Str) : RelO (List.lookup f [(fl, v)]) (if f = fl then some v' else none) := by
  by_cases hw : f = fl
  · subst hw
    rw [if_pos rfl]
    have q : List.lookup f [(f, v)] = some v := by simp [List.lookup]
    rw [q]
    exact r
  · rw [if_neg hw]
    have qw : (f == fl) = false := by simpa using hw
    have q2 : List.lookup f [(fl, v)] = none := by simp [List.lookup, qw]
    rw [q2]
    trivial
section
variable {X : Cx} {C fI : Addr}
/-- Cls(e), an own error with the one field fl -/
def tMkB (fl : Str) (C : Addr) (ta : TA) : St → Hp → XK → Prop := fun σ H Q => ta σ H fun vs H1 => ∃ v, vs = [v] ∧ ∀ d, H1 d = none → Q (.ref C) (some d) (upd H1 d (.xd [(fl, v)]))
theorem pmk_bad {x par fl : Str} {a : Expr} {ta : TA} {p pos : Pos} {k : Nat} (T : PySem.BadX.Txt X.prog X.K X.mg par fl C fI) (pr : PySem.BadX.Par par) (hm : X.mg x = some (.ref C)) (hr : Room k X.A) (ha : PA X [a] ta) (hg : Gl X x)
    (hdb : (x == ("__debug__" : Str)) = false := by decide)
    (he : starEach (a :: []) X.env = (false, eval a X.env) :: starEach [] X.env := by rfl) (hpl : (backTo pos (starEach [] X.env)).any (·.1) = false := by rfl) :
    PMk X (.Call (.Name x p) [a] [] pos) (tMkB fl C ta) := by
  intro pins s σ H Q I h
  refine wpAny_Call_Name_kw (ld_glob I hg hm ?_ hdb)
  refine PySem.W.callWith_K (h₀ := X.base) I.ok.mod.kin T.kC (thn (ha.run pos pins s σ H _ I h) fun us s1 hh => ?_) he hpl
  obtain ⟨vs, H1, I1, r1, v, ev, q1⟩ := hh
  subst ev
  refine ⟨I1.kIn, ?_⟩
  cases r1 with
  | cons rv rn =>
    rename_i v' us'
    cases rn
    show wpAny _ _ (call (.ref C) [v']) _ _ _
    have hlim := I1.nolimit
    obtain ⟨mb, hb1, hb2⟩ := I1.mod.blt
    have Gn : s1.heap.Ns mainGlobals X.mg := I1.mod.glob.keeps I1.bk
    have Bn : s1.heap.Ns builtinsNs mb := hb1.keeps I1.bk
    have hbs : mb "super" = some (.type "super") := (hb2 _ (by decide +kernel)).trans (by first | boot_by_name | rfl | kernel_rfl)
    obtain ⟨hp, g, dr, tk, os⟩ := s1
    refine wpAny_call (PySem.BadX.made_ok T pr I1.kIn Gn Bn hbs hlim (by have := hr.dp; omega) fun h' tk' e d M => ?_)
    show MkP X pins σ Q (.ref e) ⟨h', g, dr, tk', os⟩
    obtain ⟨oe, fv, hoe, hc, hd, hdat, h1⟩ := M.obj
    have hns := M.ns
    obtain ⟨G', g1, g2⟩ := restrict h' fun b => decide (b ≠ e)
    have gk : ∀ b, b ≠ e → G'.get? b = h'.get? b := fun b hb => g1 b (decide_eq_true hb)
    have ge : G'.get? e = none := g2 e (by simp)
    have old : ∀ b o, hp.get? b = some o → G'.get? b = some o := fun b o q => (gk b (Nat.ne_of_lt (Nat.lt_of_lt_of_le (Heap.lt_size q) M.new))).trans (M.keep b o q)
    have ob : ObjOk X.prog X.w (upd H1 d (.xd [(fl, v)])) G' d (.xd [(fl, v)]) :=
      ⟨_, hns.at (fun o q => (gk d M.dne).trans q), fun f => relO_one rv fl f⟩
    have J : Inv X pins σ (upd H1 d (.xd [(fl, v)])) ⟨G', g, dr, tk', os⟩ := I1.laid (t' := tk') old M.dbig ob
    refine ⟨e, oe, fv, ⟨G', g, dr, tk', os⟩, _, .ref C, some d, rfl, J, fun b o q => ?_, ge, hoe, ⟨hc, hd⟩, hdat, h1, ?_, rfl, I1.bare, raises_own T.exC T.tyC, q1 d (I1.hok.fresh M.dbig)⟩
    · by_cases hb : b = e
      · have q' : G'.get? b = some o := q
        rw [hb, ge] at q'; cases q'
      · exact (gk b hb).symm.trans q
    · rw [upd_ne (Ne.symm M.dne)]
      exact I1.hok.fresh M.new
/-- raise Cls(e) -/
def tRaiseB (fl : Str) (C : Addr) (W : WX) (ta : TA) : TS := fun _ σ H => tMkB fl C ta σ H fun cls d H' => W cls d σ H'
theorem ps_raiseB {x par fl : Str} {a : Expr} {ta : TA} {W : WX} {p pos pos2 : Pos} {k : Nat} (hc : X.calm = true) (T : PySem.BadX.Txt X.prog X.K X.mg par fl C fI) (pr : PySem.BadX.Par par) (hm : X.mg x = some (.ref C)) (hr : Room k X.A) (tk : Takes X W) (ha : PA X [a] ta) (hg : Gl X x)
    (hdb : (x == ("__debug__" : Str)) = false := by decide)
    (he : starEach (a :: []) X.env = (false, eval a X.env) :: starEach [] X.env := by rfl) (hpl : (backTo pos (starEach [] X.env)).any (·.1) = false := by rfl) :
    PS X (.Raise (some (.Call (.Name x p) [a] [] pos)) none pos2) (tRaiseB fl C W ta) := ps_raise hc tk (pmk_bad T pr hm hr ha hg hdb he hpl)
end
end L2

set_option Elab.async false
set_option linter.all false
set_option maxRecDepth 100000
set_option maxHeartbeats 4000000
namespace Ash
open PySem PySem.Spec PyProof.Rows L2
abbrev topS (i : Nat) : Stmt := PySem.Challenge.pw_asofhall_k11_amounts_between_moments.main.body.getD i (.Pass ⟨0, 0, 0, 0⟩)
/-- a def of the top by its name, with its promise -/
structure Cal (P : Program) (w : World) (K : PySem.W.Frag) (mg : Str → Option Value) (base : Heap) (CX : CXT) (x : Str) (k : Nat) (ps : List Str) (sp : Sp) : Prop where
  ex : ∃ f fd, mg x = some (.ref f) ∧ PySem.W.keepIn K (.ref f) = true ∧ Binds K fd ps [] ∧ FnOk P w K mg base CX k f fd ps sp
section
variable {X : Cx} {CX : CXT} {k j : Nat} {ps : List Str} {sp : Sp} {E : XK} {x : Str} {p pos : Pos} {e : Expr} {es : List Expr} {t : TA}
theorem pe_cal (G : Cal X.prog X.w X.K X.mg X.base CX x k ps sp) (hr : Room k X.A) (hx : Passes CX X E) (ha : PA X (e :: es) t) (hg : Gl X x := by rfl)
    (hdb : (x == ("__debug__" : Str)) = false := by decide) (he : starEach (e :: es) X.env = (false, eval e X.env) :: starEach es X.env := by rfl) (hpl : (backTo pos (starEach es X.env)).any (·.1) = false := by rfl) :
    PE X (.Call (.Name x p) (e :: es) [] pos) (tCall sp [] E t) := by
  obtain ⟨f, fd, hm, hk, hb, F⟩ := G.ex
  exact pe_call F hr hg hm hk hb .nil hx ha hdb he hpl
theorem pe_calS {E : L2.St → XK} (G : Cal X.prog X.w X.K X.mg X.base CX x k ps sp) (hr : Room k X.A) (hx : ∀ σ, PassesAt CX X σ (E σ)) (ha : PA X (e :: es) t) (hg : Gl X x := by rfl)
    (hdb : (x == ("__debug__" : Str)) = false := by decide) (he : starEach (e :: es) X.env = (false, eval e X.env) :: starEach es X.env := by rfl) (hpl : (backTo pos (starEach es X.env)).any (·.1) = false := by rfl) :
    PE X (.Call (.Name x p) (e :: es) [] pos) (tCallSD sp [] E t) := by
  obtain ⟨f, fd, hm, hk, hb, F⟩ := G.ex
  exact pe_callSD F hr hg hm hk hb .nil hx ha hdb he hpl
/-- a class by its name, with its __init__'s promise -/
structure Mak (P : Program) (w : World) (K : PySem.W.Frag) (mg : Str → Option Value) (base : Heap) (CX : CXT) (x : Str) (C : Addr) (k : Nat) (ps : List Str) (sp : Sp) : Prop where
  ex : ∃ f fd, Mk K C f ∧ mg x = some (.ref C) ∧ Binds K fd ps [] ∧ FnOk P w K mg base CX k f fd ps sp
theorem pe_mak {C : Addr} (G : Mak X.prog X.w X.K X.mg X.base CX x C k ps sp) (hr : Room (k + 1) X.A) (hx : Passes CX X E) (ha : PA X (e :: es) t) (hg : Gl X x := by rfl)
    (hdb : (x == ("__debug__" : Str)) = false := by decide) (he : starEach (e :: es) X.env = (false, eval e X.env) :: starEach es X.env := by rfl) (hpl : (backTo pos (starEach es X.env)).any (·.1) = false := by rfl) :
    PE X (.Call (.Name x p) (e :: es) [] pos) (tMake C sp [] E t) := by
  obtain ⟨f, fd, M, hm, hb, F⟩ := G.ex
  exact pe_make M F hr hg hm hb .nil hx ha hdb he hpl
/-- int(n) of an int -/
theorem call_intI : CallR X (.type "int") (fun xs H Q => ∃ i, xs = [.int i] ∧ Q (.int i) H) := by
  intro pins s σ H xs us Q I r h
  exact call_int1 pins s σ H xs us Q I r (.inl h)
end
/-- what is wanted of an exception at any slots of the def -/
def WEl (X : Cx) (W : WX) : XK := fun cls d H => ∀ σ : L2.St, σ.length = X.N.length → W cls d σ H
theorem passW {X : Cx} {W : WX} (tk : Takes X W) : Passes (L2.CX X.prog X.w) X (WEl X W) := fun _ σ _ _ e s' I c => tk e s' (XE.of_call I (fun cls d H' h => h σ I.len) c)
theorem passE {X : Cx} {E : XK} (tk : Takes X (fun cls d _ H => E cls d H)) : Passes (L2.CX X.prog X.w) X E := passes_call tk fun _ _ _ _ h => h
/-- a method of a class, with its promise -/
structure Met (P : Program) (w : World) (K : PySem.W.Frag) (mg : Str → Option Value) (base : Heap) (CX : CXT) (C : Addr) (m : Str) (k : Nat) (ps : List Str) (sp : Sp) : Prop where
  ex : ∃ f fd, Meth K C m f ∧ Binds K fd ps [] ∧ FnOk P w K mg base CX k f fd ps sp
/-- a dict comprehension over a walk: as lc_it -/
theorem dc_it {J : It} {n : Nat} {W0 : Hp → Prop} {Y : Nat → Hp → V → Hp → Prop} (wk : Walk J n W0 Y) {g : TG} {tt : TT} {tk tv : TE} {vs : List Nat} {σ : L2.St} {H1 : Hp} {D : Addr} {Qd : Hp → Prop} (Pv : Nat → Hp → Prop) (h0 : Pv 0 (upd H1 D (.dK []))) (hG : ∀ i H, i ≤ n → Pv i H → W0 H)
    (hs : ∀ i x H H', i < n → Pv i H → Y i H x H' → g x (wipe σ vs) H' fun σ2 H2 => wipe σ2 vs = wipe σ vs ∧ tt σ2 H2 fun b H3 =>
      if b = true then tk σ2 H3 fun y H4 => tv σ2 H4 fun z H5 => ∃ kvs k, y = kV k ∧ H5 D = some (.dK kvs) ∧ kvs.length < sizeLine ∧ Pv (i + 1) (upd H5 D (.dK (putK kvs k z))) else Pv (i + 1) H3) (hd : ∀ H, Pv n H → Qd H) :
    ∃ W : Nat → Nat → Hp → Prop, (∃ m, W 0 m (upd H1 D (.dK []))) ∧ ∀ i m H, W i m H →
      (J.stop i H ∧ Qd H) ∨ (J.go i H ∧ ∃ Nx : Hp → Prop, (∀ H', Nx H' → ∃ m', m' < m ∧ W (i + 1) m' H') ∧ ∀ x H', J.yld i H x H' → g x (wipe σ vs) H' fun σ2 H2 => wipe σ2 vs = wipe σ vs ∧ tt σ2 H2 fun b H3 =>
        if b = true then tk σ2 H3 fun y H4 => tv σ2 H4 fun z H5 => ∃ kvs k, y = kV k ∧ H5 D = some (.dK kvs) ∧ kvs.length < sizeLine ∧ Nx (upd H5 D (.dK (putK kvs k z))) else Nx H3) := by
  refine ⟨fun i m H => (m + i = n) ∧ Pv i H, ⟨n, rfl, h0⟩, ?_⟩
  rintro i m H ⟨hm, pv⟩
  by_cases c : i < n
  · refine .inr ⟨wk.goes i H c (hG i H (by omega) pv), Pv (i + 1), fun H' pv' => ⟨m - 1, by omega, by omega, pv'⟩, fun x H' y => ?_⟩
    exact hs i x H H' c pv (wk.yields i H x H' c (hG i H (by omega) pv) y)
  · have : i = n := by omega
    subst this
    exact .inl ⟨wk.stops H (hG _ H (Nat.le_refl _) pv), hd H pv⟩
/-- the built-in names that the top leaves alone -/
structure Blt (mg : Str → Option Value) : Prop where
  len : mg "len" = none
  int : mg "int" = none
  bool : mg "bool" = none
  str : mg "str" = none
  list : mg "list" = none
  tuple : mg "tuple" = none
  dict : mg "dict" = none
  isinstance : mg "isinstance" = none
  all : mg "all" = none
  range : mg "range" = none
  enumerate : mg "enumerate" = none
  sorted : mg "sorted" = none
  min : mg "min" = none
  max : mg "max" = none
  set : mg "set" = none
  sum : mg "sum" = none
  abs : mg "abs" = none
/-- data without depth -/
def flatD : PyData → Bool
  | .none => true
  | .bool _ => true
  | .int _ => true
  | .str x => PyData.strOk x
  | _ => false
theorem flat_lay : ∀ {ds : List PyData}, ds.all flatD = true → PyData.canLayAll0 ds = true ∧ PyData.depthAll ds ≤ 1
  | [], _ => by simp [PyData.canLayAll0, PyData.depthAll]
  | d :: ds, h => by
    rw [List.all_cons, Bool.and_eq_true] at h
    obtain ⟨h1, h2⟩ := flat_lay h.2
    cases d with
    | none => simp [PyData.canLayAll0, PyData.depthAll, PyData.canLay0, PyData.depth, h1, h2]
    | bool b => simp [PyData.canLayAll0, PyData.depthAll, PyData.canLay0, PyData.depth, h1, h2]
    | int b => simp [PyData.canLayAll0, PyData.depthAll, PyData.canLay0, PyData.depth, h1, h2]
    | str b =>
      have hb : PyData.strOk b = true := h.1
      simp [PyData.canLayAll0, PyData.depthAll, PyData.canLay0, PyData.depth, h1, h2, hb]
    | _ => exact absurd h.1 (by simp [flatD])
theorem shaped_flat {ds : List PyData} (h : ds.all flatD = true) : SeqAt.shaped (.tuple ds) = true := by
  obtain ⟨h1, h2⟩ := flat_lay h
  unfold SeqAt.shaped
  simp [PyData.canLay0, PyData.depth, h1]
  omega
/-- all but p stands -/
def But (p : Addr) (H H' : Hp) : Prop := ∀ b o, H b = some o → b ≠ p → H' b = some o
theorem But.refl (p : Addr) (H : Hp) : But p H H := fun _ _ h _ => h
theorem But.trans {p : Addr} {H H1 H2 : Hp} (a : But p H H1) (b : But p H1 H2) : But p H H2 := fun c o h n => b c o (a c o h n) n
theorem But.upd {p : Addr} {H H' : Hp} {o : HO} (a : But p H H') : But p H (L2.upd H' p o) := fun c u h n => by rw [upd_ne n]; exact a c u h n
theorem But.new {p q : Addr} {H H' : Hp} {o : HO} (a : But p H H') (h : H' q = none) (hp : H q = none ∨ q ≠ p := by first | exact .inl ‹_› | exact .inr ‹_›) : But p H (L2.upd H' q o) := fun c u hc n => by
  rw [upd_ne]
  · exact a c u hc n
  · intro z
    subst z
    rw [a c u hc n] at h
    cases h
theorem But.at {p q : Addr} {H H' : Hp} {o : HO} (a : But p H H') (h : H q = none) : But p H (L2.upd H' q o) := fun c u hc n => by
  rw [upd_ne (ne_of_none hc h)]
  exact a c u hc n
theorem sameAt {q : Addr} {H H' : Hp} {o : HO} (a : Same H H') (h : H q = none) : Same H (L2.upd H' q o) := fun c u hc => by
  rw [upd_ne (ne_of_none hc h)]
  exact a c u hc
theorem But.same {p : Addr} {H H' : Hp} (a : Same H H') : But p H H' := fun c o h _ => a c o h
theorem Same.new {q : Addr} {H H' : Hp} {o : HO} (a : Same H H') (h : H' q = none) : Same H (upd H' q o) := fun c u hc => by
  rw [upd_ne (ne_of_none (a c u hc) h)]
  exact a c u hc
theorem But.seq {K : PySem.W.Frag} {p a : Addr} {H H' : Hp} {xs : List V} (e : But p H H') (hn : ∀ o, H p = some o → ∀ ys, o ≠ .lst ys → True) (h : H a = some (.lst xs)) (n : a ≠ p) : SqL K H' a xs := .of (e _ _ h n)
end Ash

set_option Elab.async false
set_option linter.all false
set_option maxRecDepth 100000
set_option maxHeartbeats 4000000
namespace Ash
open PySem PySem.Spec PyProof.Rows L2
open C8 (pss_cut)
/-- the pool of drawn numbers at p, the script's copy at s -/
def PoolAt (H : Hp) (p s : Addr) : Prop := ∃ (ns : List Int) (i c k n : Int), H p = some (.lst [.ref s, .int i, .int c, .int k, .int n]) ∧ H s = some (.lst (ns.map V.int)) ∧ 0 ≤ i ∧ s ≠ p
theorem PoolAt.same {H H' : Hp} {p s : Addr} (h : PoolAt H p s) (e : Same H H') : PoolAt H' p s := by
  obtain ⟨ns, i, c, k, n, h1, h2, h3, h4⟩ := h
  exact ⟨ns, i, c, k, n, e _ _ h1, e _ _ h2, h3, h4⟩
theorem PoolAt.off {H : Hp} {p s q : Addr} {o : HO} (h : PoolAt H p s) (hp : q ≠ p) (hs : q ≠ s) : PoolAt (L2.upd H q o) p s := by
  obtain ⟨ns, i, c, k, n, h1, h2, h3, h4⟩ := h
  exact ⟨ns, i, c, k, n, by rw [upd_ne hp.symm]; exact h1, by rw [upd_ne hs.symm]; exact h2, h3, h4⟩
/-- from H0 to H nothing that was tracked has changed but the pool -/
structure Pl (H0 H : Hp) (p s : Addr) : Prop where
  now : PoolAt H p s
  op : H0 p ≠ none
  os : H0 s ≠ none
  but : But p H0 H
section
variable {H0 H H1 : Hp} {p s q : Addr} {o : HO}
theorem PoolAt.ne (h : PoolAt H p s) : H p ≠ none ∧ H s ≠ none := by
  obtain ⟨ns, i, c, k, n, h1, h2, h3, h4⟩ := h
  rw [h1, h2]
  exact ⟨Option.some_ne_none _, Option.some_ne_none _⟩
theorem Pl.refl (h : PoolAt H p s) : Pl H H p s := ⟨h, h.ne.1, h.ne.2, But.refl p H⟩
theorem Pl.at (h : Pl H0 H p s) (hq : H0 q = none) : Pl H0 (L2.upd H q o) p s :=
  ⟨h.now.off (fun z => h.op (z ▸ hq)) (fun z => h.os (z ▸ hq)), h.op, h.os, h.but.at hq⟩
theorem Pl.keep (h : Pl H0 H p s) {b : Addr} {u : HO} (e : H0 b = some u) (n : b ≠ p) : H b = some u := h.but b u e n
theorem Pl.free (h : Pl H0 H p s) (hq : H q = none) : H0 q = none := by
  cases e : H0 q with
  | none => rfl
  | some u =>
    by_cases hp : q = p
    · exact absurd (hp ▸ hq) h.now.ne.1
    · rw [h.but q u e hp] at hq
      cases hq
theorem Pl.trans (a : Pl H0 H p s) (b : Pl H H1 p s) : Pl H0 H1 p s := ⟨b.now, a.op, a.os, a.but.trans b.but⟩
/-- a new thing -/
theorem Pl.new (h : Pl H0 H p s) (hq : H q = none) : Pl H0 (L2.upd H q o) p s := h.at (h.free hq)
theorem Pl.same (h : Pl H0 H p s) (e : Same H H1) : Pl H0 H1 p s := ⟨h.now.same e, h.op, h.os, fun b u hb n => e b u (h.but b u hb n)⟩
end
def spPool (K : PySem.W.Frag) : Sp := fun vs H Q _ => ∃ (a : Addr) (ns : List Int), vs = [.ref a] ∧ SqL K H a (ns.map V.int) ∧ ∀ p s H', H p = none → PoolAt H' p s → Same H H' → Q (.ref p) H'
def spDraw : Sp := fun vs H Q _ => ∃ (p s : Addr) (many : Int), vs = [.ref p, .int many] ∧ PoolAt H p s ∧ 0 < many ∧ many < 2 ^ 200 ∧ ∀ (d : Int) H', 0 ≤ d → d < many → Pl H H' p s → Q (.int d) H'
section
variable {P : Program} {w : World} {K : PySem.W.Frag} {mg : Str → Option Value} {base : Heap}
abbrev s_l_pool : Stmt := topS 67
theorem sc_l_pool : FnScope ["script"] ["script"] (defScope s_l_pool) := ⟨rfl, rfl, rfl, by decide +kernel, rfl, by decide +kernel, by decide +kernel⟩
theorem ok_pool {f : Addr} {fd : FuncData} (F : Fun K "_law_pool" "_law_pool" s_l_pool f fd) (B : Blt mg) : FnOk P w K mg base CX0 1 f fd ["script"] (spPool K) := by
  refine F.ok sc_l_pool (fun vs H Q E h => ?_) (fun cdv A outer s H vs Q E hr h => ?_)
  · obtain ⟨a, ns, rfl, _⟩ := h
    rfl
  · obtain ⟨a, ns, rfl, hS, k⟩ := h
    refine ⟨_, (pss_one (ps_ret (pe_lst (pa_cons (pe_callTy call_list_of (by rfl) B.list (by decide +kernel) (pa_cons (pv 0) pa_nil)) (pa_cons pe_int (pa_cons pe_int (pa_cons pe_int (pa_cons pe_int pa_nil)))))))), ?_⟩
    refine ⟨_, rfl, _, _, rfl, .inl hS, fun l hl => ⟨(by show 5 ≤ sizeLine; decide), fun p hp => ?_⟩⟩
    have hpl : l ≠ p := fun z => by rw [z, upd_same] at hp; cases hp
    have hp0 : H p = none := by rw [upd_ne (Ne.symm hpl)] at hp; exact hp
    refine k p l _ hp0 ⟨ns, _, _, _, _, upd_same, (by rw [upd_ne hpl, upd_same]), (by decide), hpl⟩ ?_
    exact Same.new (Same.new (Same.refl H) hl) hp
abbrev s_l_draw : Stmt := topS 68
theorem sc_l_draw : FnScope ["pool", "many", "cell", "digit", "number"] ["pool", "many"] (defScope s_l_draw) := ⟨rfl, rfl, rfl, by decide +kernel, rfl, by decide +kernel, by decide +kernel⟩
theorem ok_draw {f : Addr} {fd : FuncData} (F : Fun K "_law_draw" "_law_draw" s_l_draw f fd) (B : Blt mg) : FnOk P w K mg base CX0 1 f fd ["pool", "many"] spDraw := by
  refine F.ok sc_l_draw (fun vs H Q E h => ?_) (fun cdv A outer s H vs Q E hr h => ?_)
  · obtain ⟨p, _, many, rfl, _⟩ := h
    rfl
  · obtain ⟨p, s, many, rfl, hPP, hm, hm2, kk⟩ := h
    obtain ⟨ns, i, c, k, n, hp, hs, hi, hsp⟩ := id hPP
    refine ⟨_, (pss_cons (ps_asg (pe_op op_add (pe_ix ix_list (pv 0) pe_int (fun _ _ => rfl)) pe_int) (pg_sub (pv 0) pe_int set_list))
    (pss_cut (ps_if (PW.pt (pw_and (pt_cmpR op_eq (pe_ix ix_list (pv 0) pe_int (fun _ _ => rfl)) pe_int (nomark _)) (pw_and1 (pt_cmpR op_lt (pe_ix ix_list (pv 0) pe_int (fun _ _ => rfl)) (pe_callB call_len_seq (by rfl) B.len (by decide +kernel) (pa_cons (pe_ix ix_list (pv 0) pe_int (fun _ _ => rfl)) pa_nil)) (nomark _)))))
      (pss_cons (ps_set (i := 2) sc_l_draw.nd rfl (Or.inl rfl) (pe_callB call_abs (by rfl) B.abs (by decide +kernel) (pa_cons (pe_callTy call_intI (by rfl) B.int (by decide +kernel) (pa_cons (pe_ix ix_list (pe_ix ix_list (pv 0) pe_int (fun _ _ => rfl)) (pe_ix ix_list (pv 0) pe_int (fun _ _ => rfl)) (fun _ _ => rfl)) pa_nil)) pa_nil)))
      (pss_cons (ps_asg (pe_op op_add (pe_ix ix_list (pv 0) pe_int (fun _ _ => rfl)) pe_int) (pg_sub (pv 0) pe_int set_list))
      (pss_one (ps_if (pt_cmpR op_ge (pv 2) (pe_op op_pow pe_int pe_int) (nomark _))
        (pss_one (ps_asg (pv 2) (pg_sub (pv 0) pe_int set_list)))
        (pss_one (ps_asg (pe_op op_mod (pe_callTy call_intI (by rfl) B.int (by decide +kernel) (pa_cons (pe_op op_add (pe_op op_add (pe_op op_mul (pe_ix ix_list (pv 0) pe_int (fun _ _ => rfl)) pe_int) (pv 2)) pe_int) pa_nil)) pe_int) (pg_sub (pv 0) pe_int set_list)))))))
      pss_nil)
    (pss_cons (ps_if (pt_cmpR op_gt (pe_ix ix_list (pv 0) pe_int (fun _ _ => rfl)) pe_int (nomark _))
      (pss_cons (ps_set (i := 3) sc_l_draw.nd rfl (Or.inl rfl) (pe_op op_mod (pe_callTy call_intI (by rfl) B.int (by decide +kernel) (pa_cons (pe_ix ix_list (pv 0) pe_int (fun _ _ => rfl)) pa_nil)) (pv 1)))
      (pss_cons (ps_asg (pe_op op_fdivW (pe_callTy call_intI (by rfl) B.int (by decide +kernel) (pa_cons (pe_ix ix_list (pv 0) pe_int (fun _ _ => rfl)) pa_nil)) (pv 1)) (pg_sub (pv 0) pe_int set_list))
      (pss_one (ps_ret (pv 3)))))
      pss_nil)
    (pss_cons (ps_set (i := 4) sc_l_draw.nd rfl (Or.inl rfl) (pe_op op_mod (pe_op op_mul (pe_callTy call_intI (by rfl) B.int (by decide +kernel) (pa_cons (pe_op op_add (pe_op op_add (pe_ix ix_list (pv 0) pe_int (fun _ _ => rfl)) (pe_op op_mul (pe_ix ix_list (pv 0) pe_int (fun _ _ => rfl)) pe_int)) pe_int) pa_nil)) pe_int) pe_int))
    (pss_cons (ps_set (i := 4) sc_l_draw.nd rfl (Or.inl rfl) (pe_op op_mod (pe_callTy call_intI (by rfl) B.int (by decide +kernel) (pa_cons (pe_op op_mul (pv 4) (pe_op op_add (pe_op op_fdiv (pv 4) pe_int) pe_int)) pa_nil)) pe_int))
    (pss_cons (ps_set (i := 4) sc_l_draw.nd rfl (Or.inl rfl) (pe_op op_mod (pe_callTy call_intI (by rfl) B.int (by decide +kernel) (pa_cons (pe_op op_mul (pv 4) (pe_op op_add (pe_op op_fdiv (pv 4) pe_int) pe_int)) pa_nil)) pe_int))
    (pss_cons (ps_asg (pv 4) (pg_sub (pv 0) pe_int set_list))
    (pss_one (ps_ret (pe_op op_mod (pe_callTy call_intI (by rfl) B.int (by decide +kernel) (pa_cons (pe_op op_fdiv (pv 4) pe_int) pa_nil)) (pv 1))))))))))), ?_⟩
    refine ⟨_, rfl, _, _, _, _, rfl, rfl, SqL.of hp, rfl, _, _, rfl, rfl, _, rfl, _, _, _, _, rfl, rfl, hp, rfl, ?_⟩
    refine ⟨fun σ H1 => (∃ cell, σ = [some (.ref p), some (.int many), cell, none, none]) ∧ ∃ (i c k n : Int), H1 p = some (.lst [.ref s, .int i, .int c, .int k, .int n]) ∧ H1 s = some (.lst (ns.map V.int)) ∧ 0 ≤ i ∧ But p H H1, ?_, ?_⟩
    · generalize eH : upd H p (.lst _) = H1
      have hp1 : H1 p = some (.lst [.ref s, .int i, .int c, .int (k + 1), .int n]) := by rw [← eH]; exact upd_same
      have hs1 : H1 s = some (.lst (ns.map V.int)) := by rw [← eH, upd_ne hsp]; exact hs
      have hb1 : But p H H1 := by rw [← eH]; exact (But.refl p H).upd
      clear eH
      refine ⟨_, rfl, _, _, _, _, rfl, rfl, SqL.of hp1, rfl, rfl, _, rfl, ?_⟩
      refine ite2 (fun c2 => ?_) (fun c2 => ?_)
      · refine ⟨_, rfl, _, _, _, _, rfl, rfl, SqL.of hp1, rfl, _, rfl, _, _, _, _, rfl, rfl, SqL.of hp1, rfl, _, _, rfl, .inl (SqL.of hs1), _, _, rfl, rfl, _, rfl, ?_⟩
        refine ite2 (fun c3 => ?_) (fun c3 => ?_)
        · have c3' : i < (ns.map V.int).length := of_decide_eq_true c3
          obtain ⟨j, rfl⟩ : ∃ j : Nat, i = (j : Int) := ⟨i.toNat, by omega⟩
          have hj : j < ns.length := by rw [List.length_map] at c3'; omega
          refine ⟨_, rfl, _, _, _, _, rfl, rfl, SqL.of hp1, rfl, _, rfl, _, _, _, _, rfl, rfl, SqL.of hp1, rfl, _, _, _, V.int ns[j], rfl, rfl, SqL.of hs1, atI_nat (by rw [List.getElem?_map, List.getElem?_eq_getElem hj]; rfl), _, rfl, _, rfl, ?_⟩
          refine ⟨_, rfl, _, _, _, _, rfl, rfl, SqL.of hp1, rfl, _, _, rfl, rfl, _, rfl, _, _, _, _, rfl, rfl, hp1, rfl, ?_⟩
          refine ⟨_, rfl, _, _, rfl, rfl, ⟨by decide, by decide, by decide⟩, _, _, rfl, rfl, _, rfl, ?_⟩
          refine ite2 (fun c4 => ?_) (fun c4 => ?_)
          · refine ⟨_, rfl, _, rfl, _, _, _, _, rfl, rfl, upd_same, rfl, ⟨_, rfl⟩, _, _, _, _, upd_same, (by rw [upd_ne hsp, upd_ne hsp]; exact hs1), (by omega), hb1.upd.upd⟩
          · refine ⟨_, rfl, _, _, _, _, rfl, rfl, SqL.of upd_same, rfl, _, _, rfl, rfl, .inr ⟨by decide, by decide⟩, _, rfl, _, _, rfl, rfl, _, _, rfl, rfl, _, rfl, _, _, rfl, rfl, (by show (0 : Int) < 2147483647; decide), _, rfl, _, _, _, _, rfl, rfl, upd_same, rfl, ⟨_, rfl⟩, _, _, _, _, upd_same, (by rw [upd_ne hsp, upd_ne hsp]; exact hs1), (by omega), hb1.upd.upd⟩
        · exact ⟨⟨_, rfl⟩, _, _, _, _, hp1, hs1, hi, hb1⟩
      · exact ⟨⟨_, rfl⟩, _, _, _, _, hp1, hs1, hi, hb1⟩
    · rintro σ' H1 ⟨⟨cell, rfl⟩, i, c, k, n, hp1, hs1, hi, hb1⟩
      refine ⟨_, rfl, _, _, _, _, rfl, rfl, SqL.of hp1, rfl, _, _, rfl, rfl, _, rfl, ?_⟩
      refine ite2 (fun c2 => ?_) (fun c2 => ?_)
      · refine ⟨_, rfl, _, _, _, _, rfl, rfl, SqL.of hp1, rfl, _, rfl, _, rfl, _, _, rfl, rfl, hm, _, rfl, _, _, _, _, rfl, rfl, SqL.of hp1, rfl, _, rfl, _, rfl, _, _, rfl, rfl, wide_div (b := 200) hm (by omega) (by decide) (by decide), _, rfl, _, _, _, _, rfl, rfl, hp1, rfl, _, rfl, ?_⟩
        refine kk _ _ (Int.emod_nonneg _ (by omega)) (Int.emod_lt_of_pos _ hm) ⟨⟨ns, _, _, _, _, upd_same, (by rw [upd_ne hsp]; exact hs1), hi, hsp⟩, hPP.ne.1, hPP.ne.2, hb1.upd⟩
      · refine ⟨_, rfl, _, _, _, _, rfl, rfl, SqL.of hp1, rfl, _, rfl, _, _, _, _, rfl, rfl, SqL.of hp1, rfl, _, _, rfl, rfl, .inr ⟨by decide, by decide⟩, _, _, rfl, rfl, _, _, rfl, rfl, _, rfl, _, _, rfl, rfl, .inr ⟨by decide, by decide⟩, _, _, rfl, rfl, (by show (0 : Int) < 2147483647; decide), ?_⟩
        generalize ea : (n + k * 104729 + 1) * 48271 % 2147483647 = a
        have a0 : 0 ≤ a := by rw [← ea]; exact Int.emod_nonneg _ (by decide)
        have a1 : a < 2147483647 := by rw [← ea]; exact Int.emod_lt_of_pos _ (by decide)
        refine ⟨_, rfl, _, rfl, _, _, rfl, rfl, ⟨by decide, by decide⟩, _, _, rfl, rfl, _, _, rfl, rfl, .inl ⟨by omega, by omega⟩, _, rfl, _, _, rfl, rfl, (by show (0 : Int) < 2147483629; decide), ?_⟩
        generalize eb : a * (a / 1009 + 69621) % 2147483629 = b
        have b0 : 0 ≤ b := by rw [← eb]; exact Int.emod_nonneg _ (by decide)
        have b1 : b < 2147483629 := by rw [← eb]; exact Int.emod_lt_of_pos _ (by decide)
        refine ⟨_, rfl, _, rfl, _, _, rfl, rfl, ⟨by decide, by decide⟩, _, _, rfl, rfl, _, _, rfl, rfl, .inl ⟨by omega, by omega⟩, _, rfl, _, _, rfl, rfl, (by show (0 : Int) < 2147483399; decide), ?_⟩
        refine ⟨_, rfl, _, rfl, _, _, _, _, rfl, rfl, hp1, rfl, _, rfl, _, _, rfl, rfl, ⟨by decide, by decide⟩, _, rfl, _, rfl, _, _, rfl, rfl, hm, ?_⟩
        refine kk _ _ (Int.emod_nonneg _ (by omega)) (Int.emod_lt_of_pos _ hm) ⟨⟨ns, _, _, _, _, upd_same, (by rw [upd_ne hsp]; exact hs1), hi, hsp⟩, hPP.ne.1, hPP.ne.2, hb1.upd⟩
end
end Ash

set_option Elab.async false
set_option linter.all false
set_option maxRecDepth 100000
set_option maxHeartbeats 4000000
namespace Ash
open PySem PySem.Spec PyProof.Rows L2
open C8 (pss_cut)
/-! ### names -/
def LET : List Nat := [97, 98, 99, 100, 101, 102, 103, 104, 105, 106, 107, 108, 109, 110, 111, 112, 113, 114, 115, 116, 117, 118, 119, 120, 121, 122]
abbrev abc : Str := "abcdefghijklmnopqrstuvwxyz"
theorem abc_let : abc.cps.toList = LET := by decide +kernel
theorem abc_size : abc.cps.size = 26 := by decide +kernel
/-- a name: 1 to 8 letters -/
def IsNm (z : Str) : Prop := 1 ≤ z.length ∧ z.length ≤ 8 ∧ ∀ c ∈ z.cps.toList, c ∈ LET
theorem let_small : ∀ c ∈ LET, c < 0x110000 := by decide
theorem nm_ok {z : Str} (h : IsNm z) : PyData.strOk z = true := by
  unfold PyData.strOk
  rw [← Array.all_toList, List.all_eq_true]
  exact fun c hc => decide_eq_true (let_small c (h.2.2 c hc))
theorem append_length (a b : Str) : (a ++ b).length = a.length + b.length := by
  show (a.cps ++ b.cps).size = a.cps.size + b.cps.size
  rw [Array.size_append]
theorem append_list (a b : Str) : (a ++ b).cps.toList = a.cps.toList ++ b.cps.toList := by
  show (a.cps ++ b.cps).toList = _
  rw [Array.toList_append]
theorem one_nm {c : Nat} (h : c ∈ LET) : IsNm ⟨#[c]⟩ := ⟨Nat.le_refl 1, (by show 1 ≤ 8; decide), fun d hd => by
  have e : d = c := by simpa using hd
  rw [e]
  exact h⟩
theorem inV_str {z : Str} : ∀ {l : List Str}, inV (.str z) (l.map V.str) = decide (z ∈ l)
  | [] => by simp [inV]
  | a :: l => by
    have ih := inV_str (z := z) (l := l)
    unfold inV at ih ⊢
    rw [List.map_cons, List.any_cons, ih]
    show ((a == z) || decide (z ∈ l)) = decide (z ∈ a :: l)
    by_cases h : a = z
    · subst h
      simp
    · have h' : ¬ z = a := fun q => h q.symm
      by_cases h2 : z ∈ l <;> simp [h, h', h2]
theorem flat_strs (l : List Str) : (l.map V.str).all flatV = true := by
  induction l with
  | nil => rfl
  | cons a l ih =>
    rw [List.map_cons, List.all_cons, ih]
    rfl
theorem sub_len {α : Type} [DecidableEq α] : ∀ {l m : List α}, l.Nodup → (∀ x ∈ l, x ∈ m) → l.length ≤ m.length
  | [], m, _, _ => Nat.zero_le _
  | a :: l, m, hn, h => by
    obtain ⟨h1, h2⟩ := List.nodup_cons.mp hn
    have ha : a ∈ m := h a List.mem_cons_self
    have ih := sub_len (l := l) (m := m.erase a) h2 fun x hx => (List.mem_erase_of_ne (fun z => h1 (by rw [← z]; exact hx))).mpr (h x (List.mem_cons_of_mem _ hx))
    rw [List.length_erase_of_mem ha] at ih
    have : 0 < m.length := List.length_pos_of_mem ha
    rw [List.length_cons]
    omega
theorem atI_natC {α : Type} {xs : List α} {j : Nat} (h : j < xs.length) : atI xs (j : Int) = some xs[j] := by
  unfold atI ixN
  rw [if_pos (by omega), if_pos (by omega), Option.bind_some, Int.toNat_natCast]
  exact List.getElem?_eq_getElem h
theorem let_strs : (LET.map fun c => (⟨#[c]⟩ : Str)).Nodup := by decide +kernel
theorem not_all {l : List Str} (hl : l.length ≤ 25) (h : ∀ c ∈ LET, (⟨#[c]⟩ : Str) ∈ l) : False := by
  have := sub_len let_strs (m := l) fun x hx => by
    obtain ⟨c, hc, rfl⟩ := List.mem_map.mp hx
    exact h c hc
  have e : (LET.map fun c => (⟨#[c]⟩ : Str)).length = 26 := by decide +kernel
  omega
def spNames : Sp := fun vs H Q _ => ∃ (p s : Addr) (many : Int), vs = [.ref p, .int many] ∧ PoolAt H p s ∧ 0 ≤ many ∧ many ≤ 25 ∧
  ∀ (q : Addr) (l : List Str) H', H q = none → H' q = some (.lst (l.map V.str)) → l.length = many.toNat → l.Nodup → (∀ z ∈ l, IsNm z) → Pl H H' p s → Q (.ref q) H'
section
variable {P : Program} {w : World} {K : PySem.W.Frag} {mg : Str → Option Value} {base : Heap}
abbrev CDraw (P : Program) (w : World) (K : PySem.W.Frag) (mg : Str → Option Value) (base : Heap) : Prop := Cal P w K mg base CX0 "_law_draw" 1 ["pool", "many"] spDraw
structure G1 (P : Program) (w : World) (K : PySem.W.Frag) (mg : Str → Option Value) (base : Heap) : Prop where
  law_draw : CDraw P w K mg base
/-- the words of the wordings -/
def WORDS : List Str := ["last", "at", "now", "next", "or", "to", "from", "number"]
theorem words_nm : ∀ z ∈ WORDS, IsNm z := fun z hz => by
  have q : ∀ z ∈ WORDS, (1 ≤ z.length ∧ z.length ≤ 8) ∧ (z.cps.toList.all fun c => decide (c ∈ LET)) = true := by decide +kernel
  obtain ⟨⟨h1, h2⟩, h3⟩ := q z hz
  exact ⟨h1, h2, fun c hc => of_decide_eq_true (List.all_eq_true.mp h3 c hc)⟩
theorem joinL_one : ∀ cs : List Nat, TL.joinL [] (cs.map fun c => [c]) = cs
  | [] => rfl
  | [c] => rfl
  | c :: d :: r => by
    show [c] ++ ([] ++ TL.joinL [] ((d :: r).map fun c => [c])) = _
    rw [joinL_one (d :: r)]
    rfl
theorem join_one (cs : List Nat) : (Txt.join "" (cs.map fun c => (⟨#[c]⟩ : Str))).cps.toList = cs := by
  have e := TL.tl_join "" (cs.map fun c => (⟨#[c]⟩ : Str))
  have e2 : (cs.map fun c => (⟨#[c]⟩ : Str)).map TL.tl = cs.map fun c => [c] := by
    rw [List.map_map]
    rfl
  rw [e2, show TL.tl ("" : Str) = [] from rfl, joinL_one] at e
  exact (congrArg TL.tl (TL.join_eq "" _)).trans e
theorem sum_ones (cs : List Nat) : (((cs.map fun c => (⟨#[c]⟩ : Str)).map (·.length)).sum) = cs.length := by
  induction cs with
  | nil => rfl
  | cons c r ih =>
    rw [List.map_cons, List.map_cons, List.sum_cons, ih, List.length_cons]
    show 1 + r.length = _
    omega
abbrev s_l_names : Stmt := topS 69
theorem sc_l_names : FnScope ["pool", "many", "letters", "words", "names", "k", "name", "letter", "at"] ["pool", "many"] (defScope s_l_names) := ⟨rfl, rfl, rfl, by decide +kernel, rfl, by decide +kernel, by decide +kernel⟩
theorem ok_names {f : Addr} {fd : FuncData} (F : Fun K "_law_names" "_law_names" s_l_names f fd) (B : Blt mg) (G : G1 P w K mg base) : FnOk P w K mg base CX0 2 f fd ["pool", "many"] spNames := by
  refine F.ok sc_l_names (fun vs H Q E h => ?_) (fun cdv A outer s H vs Q E hr h => ?_)
  · obtain ⟨p, _, many, rfl, _⟩ := h
    rfl
  · obtain ⟨p, s0, many, rfl, hP, hm, hm2, kk⟩ := h
    refine ⟨_, (pss_cons (ps_set (i := 2) sc_l_names.nd rfl (Or.inr rfl) pe_str)
    (pss_cons (ps_set (i := 3) sc_l_names.nd rfl (Or.inl rfl) (pe_lst (pa_cons pe_str (pa_cons pe_str (pa_cons pe_str (pa_cons pe_str (pa_cons pe_str (pa_cons pe_str (pa_cons pe_str (pa_cons pe_str pa_nil))))))))))
    (pss_cons (ps_set (i := 4) sc_l_names.nd rfl (Or.inl rfl) (pe_lst pa_nil))
    (pss_cons (ps_for PassesOwn.never rfl (pi_range1 (by rfl) B.range (pa_cons (pv 1) pa_nil)) (pg_name (i := 5) sc_l_names.nd rfl (Or.inl rfl))
      (pss_cons (ps_set (i := 6) sc_l_names.nd rfl (Or.inl rfl) (pe_ix ix_list (pv 3) (pe_cal G.law_draw (hr.mono (by decide)) pass0 (pa_cons (pv 0) (pa_cons pe_int pa_nil))) (fun _ _ => rfl)))
      (pss_cut (ps_if (pt_cmpR op_gt (pe_cal G.law_draw (hr.mono (by decide)) pass0 (pa_cons (pv 0) (pa_cons pe_int pa_nil))) pe_int (nomark _))
        (pss_one (ps_set (i := 6) sc_l_names.nd rfl (Or.inl rfl) (pe_bm PySem.F.plainAttrs_str PySem.F.slot_str_join PySem.F.type_str_join mt_join pe_str (pa_cons (pe_lc (own := [("at", 8)]) (g := gName 8) (tt := tYes) (by rfl) sc_l_names.nd (pi_range1 (by rfl) B.range (pa_cons (pe_op op_add pe_int (pe_cal G.law_draw (hr.mono (by decide)) pass0 (pa_cons (pv 0) (pa_cons pe_int pa_nil)))) pa_nil)) (blkOk_by (own := [("at", 8)]) (N := ["pool", "many", "letters", "words", "names", "k", "name", "letter", "at"]) (sc := defScope s_l_names) (by decide +kernel)) (fun _ _ _ _ _ => (pg_name (i := 8) sc_l_names.nd rfl (Or.inl rfl))) (fun _ _ _ _ _ => pts_nil) (fun _ _ _ _ _ => (pe_ix ix_str (pv 2) (pe_cal G.law_draw (hr.mono (by decide)) pass0 (pa_cons (pv 0) (pa_cons pe_int pa_nil))) (fun _ _ => rfl)))) pa_nil))))
        pss_nil)
      (pss_cut (ps_for PassesOwn.never rfl (pi_str (pv 2)) (pg_name (i := 7) sc_l_names.nd rfl (Or.inl rfl))
        (pss_one (ps_if (PW.pt (pw_and (pt_cmpR op_in_seq (pv 6) (pv 4) rfl) (pw_and1 (pt_cmpR op_notIn_seq (pv 7) (pv 4) rfl))))
          (pss_one (ps_set (i := 6) sc_l_names.nd rfl (Or.inl rfl) (pv 7)))
          pss_nil)))
      (pss_one (ps_expr (pe_bm PySem.F.plainAttrs_list PySem.F.slot_list_append PySem.F.type_list_append mt_append (pv 4) (pa_cons (pv 6) pa_nil))))))))
    (pss_one (ps_ret (pv 4))))))), ?_⟩
    refine ⟨(by show 8 ≤ sizeLine; decide), fun lw hlw => ⟨(by show 0 ≤ sizeLine; decide), fun q hq => ?_⟩⟩
    have PW : Pl H (upd H lw (.lst [.str "last", .str "at", .str "now", .str "next", .str "or", .str "to", .str "from", .str "number"])) p s0 := (Pl.refl hP).at hlw
    have hw0 : (upd H lw (.lst [.str "last", .str "at", .str "now", .str "next", .str "or", .str "to", .str "from", .str "number"])) lw = some (.lst (WORDS.map V.str)) := upd_same
    generalize (upd H lw (.lst [.str "last", .str "at", .str "now", .str "next", .str "or", .str "to", .str "from", .str "number"])) = HW at PW hw0 hq ⊢
    have hqH : H q = none := PW.free hq
    have lwp : lw ≠ p := fun z => hP.ne.1 (z ▸ hlw)
    have lwq : lw ≠ q := ne_of_none hw0 hq
    have hr1 : Room 1 _ := hr.mono (by decide)
    refine ⟨_, rfl, _, rfl, (by omega), (by omega), for_range (n := many.toNat) (fun i σ H1 => (∃ a b c d, σ = [some (.ref p), some (.int many), some (.str abc), some (.ref lw), some (.ref q), a, b, c, d]) ∧ ∃ l : List Str, H1 q = some (.lst (l.map V.str)) ∧ l.length = i ∧ l.Nodup ∧ (∀ z ∈ l, IsNm z) ∧ Pl H H1 p s0 ∧ H1 lw = some (.lst (WORDS.map V.str))) ?_ ?_ ?_⟩
    · exact ⟨⟨_, _, _, _, rfl⟩, [], upd_same, rfl, List.nodup_nil, (fun z hz => nomatch hz), PW.new hq, by rw [upd_ne lwq]; exact hw0⟩
    · rintro i σ H1 hi ⟨⟨a, b, c, d, rfl⟩, l, hl, hlen, hnd, hnm, PL, hw1⟩
      have hqp : q ≠ p := fun z => hP.ne.1 (z ▸ hqH)
      refine ⟨_, rfl, _, rfl, p, s0, 8, rfl, PL.now, (by decide), (by decide), fun x H2 x0 x8 P2 => ?_⟩
      obtain ⟨g, rfl⟩ : ∃ g : Nat, x = (g : Int) := ⟨x.toNat, by omega⟩
      have hg : g < WORDS.length := by show g < 8; omega
      have hw2 := P2.keep hw1 lwp
      refine ⟨_, _, _, .str WORDS[g], rfl, rfl, SqL.of hw2, atI_nat (by rw [List.getElem?_map, List.getElem?_eq_getElem hg]; rfl), ?_⟩
      -- name
      refine ⟨fun σ H3 => (∃ k nm d e, σ = [some (.ref p), some (.int many), some (.str abc), some (.ref lw), some (.ref q), k, some (.str nm), d, e] ∧ IsNm nm) ∧ Pl H1 H3 p s0, ?_, ?_⟩
      · refine ⟨_, rfl, p, s0, 3, rfl, P2.now, (by decide), (by decide), fun y H3 y0 y3 P3 => ⟨_, _, rfl, rfl, _, rfl, ?_⟩⟩
        have P13 := P2.trans P3
        refine ite2 (fun c2 => ?_) (fun c2 => ?_)
        · refine ⟨rfl, _, rfl, p, s0, 8, rfl, P3.now, (by decide), (by decide), fun n H4 n0 n8 P4 => ⟨_, _, rfl, rfl, _, rfl, (by omega), (by omega), fun D hD => ?_⟩⟩
          have P14 := P13.trans P4
          refine lc_range (n := (1 + n).toNat) (fun j H5 => (∃ cs : List Nat, H5 D = some (.lst ((cs.map fun c => (⟨#[c]⟩ : Str)).map V.str)) ∧ cs.length = j ∧ ∀ c ∈ cs, c ∈ LET) ∧ Pl H1 H5 p s0) ⟨⟨[], upd_same, rfl, fun c hc => nomatch hc⟩, P14.new hD⟩ ?_ ?_
          · rintro j H5 hj ⟨⟨cs, hD5, hcs, hcl⟩, P5⟩
            refine ⟨rfl, _, rfl, _, rfl, p, s0, 26, rfl, P5.now, (by decide), (by decide), fun x H6 x0' x26 P6 => ?_⟩
            obtain ⟨g2, rfl⟩ : ∃ g : Nat, x = (g : Int) := ⟨x.toNat, by omega⟩
            have hg2 : g2 < LET.length := by show g2 < 26; omega
            have Dp : D ≠ p := fun z => P14.now.ne.1 (z ▸ hD)
            refine ⟨_, _, LET[g2], rfl, rfl, (by show abc.cps.size ≤ sizeLine; rw [abc_size]; decide), (by rw [abc_let]; exact atI_natC hg2), _, P6.keep hD5 Dp, (by rw [List.length_map, List.length_map]; exact small1000 (by omega)), ⟨cs ++ [LET[g2]], ?_, by rw [List.length_append, hcs]; rfl, fun c hc => ?_⟩, (P5.trans P6).at (P14.free hD)⟩
            · rw [upd_same, List.map_append, List.map_append]
              rfl
            · rcases List.mem_append.mp hc with h | h
              · exact hcl c h
              · rw [List.mem_singleton.mp h]
                exact List.getElem_mem hg2
          · rintro H5 ⟨⟨cs, hD5, hcs, hcl⟩, P5⟩
            have e1 := join_one cs
            refine ⟨_, D, _, rfl, rfl, .inl (SqL.of hD5), ?_, ?_⟩
            · rw [sum_ones, List.length_map]
              show cs.length + cs.length * 0 ≤ _
              omega
            · refine ⟨⟨_, _, _, _, rfl, ?_⟩, P5⟩
              have hz : (Txt.join "" (cs.map fun c => (⟨#[c]⟩ : Str))).length = cs.length := by
                show (Txt.join "" (cs.map fun c => (⟨#[c]⟩ : Str))).cps.size = _
                rw [← Array.length_toList, e1]
              exact ⟨by rw [hz]; omega, by rw [hz]; omega, fun c hc => hcl c (by rw [← e1]; exact hc)⟩
        · exact ⟨⟨_, _, _, _, rfl, words_nm _ (List.getElem_mem hg)⟩, P13⟩
      rintro σ H3 ⟨⟨k, nm, d, e, rfl, hN⟩, P3⟩
      -- another name
      have hq3 : H3 q = some (.lst (l.map V.str)) := P3.keep hl hqp
      refine ⟨fun σ H4 => (∃ k nm d e, σ = [some (.ref p), some (.int many), some (.str abc), some (.ref lw), some (.ref q), k, some (.str nm), d, e] ∧ IsNm nm ∧ nm ∉ l) ∧ H4 = H3, ?_, ?_⟩
      · refine ⟨_, rfl, _, rfl, for_it (walk_str (z := abc)) (fun j σ H4 => (∃ nm d, σ = [some (.ref p), some (.int many), some (.str abc), some (.ref lw), some (.ref q), k, some (.str nm), d, e] ∧ IsNm nm ∧ (nm ∈ l → ∀ (i : Nat) (x : Nat), i < j → LET[i]? = some x → (⟨#[x]⟩ : Str) ∈ l)) ∧ H4 = H3) ?_ (fun _ _ _ _ _ => trivial) ?_ ?_⟩
        · exact ⟨⟨_, _, rfl, hN, fun _ i x hi => by omega⟩, rfl⟩
        · rintro j x σ H4 H5 hj ⟨⟨nm, d, rfl, hN, hall⟩, rfl⟩ ⟨rfl, c, hc, rfl⟩
          have hc' : LET[j]? = some c := by
            rw [← abc_let, Array.getElem?_toList]
            exact hc
          have hcm : c ∈ LET := List.mem_of_getElem? hc'
          refine ⟨_, rfl, _, rfl, _, _, rfl, .inl (SqL.of hq3), rfl, flat_strs l, _, rfl, ?_⟩
          rw [if_neg (by decide), inV_str]
          refine ite2 (fun c2 => ?_) (fun c2 => ?_)
          · have c2 : nm ∈ l := of_decide_eq_true c2
            refine ⟨_, rfl, _, rfl, _, _, rfl, .inl (SqL.of hq3), rfl, flat_strs l, _, rfl, ?_⟩
            rw [if_pos rfl, inV_str]
            refine ite2 (fun c3 => ?_) (fun c3 => ?_)
            · have c3 : ¬ (⟨#[c]⟩ : Str) ∈ l := by simpa using c3
              exact ⟨_, rfl, ⟨_, _, rfl, one_nm hcm, fun z => absurd z c3⟩, rfl⟩
            · have c3 : (⟨#[c]⟩ : Str) ∈ l := by simpa using c3
              refine ⟨⟨_, _, rfl, hN, fun _ i x hi hx => ?_⟩, rfl⟩
              by_cases hij : i < j
              · exact hall c2 i x hij hx
              · have : i = j := by omega
                subst this
                rw [hc'] at hx
                cases hx
                exact c3
          · have c2 : ¬ nm ∈ l := by simpa using c2
            exact ⟨⟨_, _, rfl, hN, fun z => absurd z c2⟩, rfl⟩
        · rintro σ H4 ⟨⟨nm, d, rfl, hN, hall⟩, rfl⟩
          refine ⟨⟨_, _, _, _, rfl, hN, fun hm => ?_⟩, rfl⟩
          have hl25 : l.length ≤ 25 := by omega
          refine not_all hl25 fun c hc => ?_
          obtain ⟨i, hi, e⟩ := List.getElem_of_mem hc
          exact hall hm i c (by show i < abc.cps.size; rw [abc_size]; exact hi) (by rw [List.getElem?_eq_getElem hi, e])
      rintro σ H4 ⟨⟨k, nm, d, e, rfl, hN, hno⟩, rfl⟩
      refine ⟨_, rfl, .inl ⟨rfl, _, SqL.of hq3⟩, _, rfl, q, _, _, rfl, rfl, hq3, (by rw [List.length_map]; exact small1000 (by omega)), ⟨_, _, _, _, rfl⟩, l ++ [nm], ?_, by rw [List.length_append, hlen]; rfl, ?_, fun z hz => ?_, (PL.trans P3).at hqH, ?_⟩
      · rw [upd_same, List.map_append]
        rfl
      · rw [List.nodup_append]
        exact ⟨hnd, by simp, fun a ha b hb z => hno (by rw [← List.mem_singleton.mp hb, ← z]; exact ha)⟩
      · rcases List.mem_append.mp hz with h | h
        · exact hnm z h
        · rw [List.mem_singleton.mp h]
          exact hN
      · rw [upd_ne lwq]
        exact P3.keep hw1 lwp
    · rintro σ H1 ⟨⟨a, b, c, d, rfl⟩, l, hl, hlen, hnd, hnm, PL, hw1⟩
      exact ⟨_, rfl, kk q l H1 hqH hl hlen hnd hnm PL⟩
end
end Ash

set_option Elab.async false
set_option linter.all false
set_option maxRecDepth 100000
set_option maxHeartbeats 4000000
/-! sorted of triples of ints -/
namespace SrtT
open PySem PyProof.Rows Srt SrtO
abbrev T3 := Int × Int × Int
def lex3 (p q : T3) : Bool := if p.1 = q.1 then (if p.2.1 = q.2.1 then decide (p.2.2 < q.2.2) else decide (p.2.1 < q.2.1)) else decide (p.1 < q.1)
theorem lex3_iff {p q : T3} : lex3 p q = true ↔ p.1 < q.1 ∨ (p.1 = q.1 ∧ (p.2.1 < q.2.1 ∨ (p.2.1 = q.2.1 ∧ p.2.2 < q.2.2))) := by
  unfold lex3
  split
  · split <;> (rw [decide_eq_true_eq]; omega)
  · rw [decide_eq_true_eq]; omega
theorem lex3_no {p q : T3} : lex3 p q = false ↔ ¬ (p.1 < q.1 ∨ (p.1 = q.1 ∧ (p.2.1 < q.2.1 ∨ (p.2.1 = q.2.1 ∧ p.2.2 < q.2.2)))) := by
  rw [← lex3_iff]
  cases lex3 p q <;> simp
theorem swo3 {α : Type} (k : α → T3) : Swo fun v u => lex3 (k v) (k u) := by
  constructor
  · intro x y h
    rw [lex3_no]
    rw [lex3_iff] at h
    omega
  · intro x y z h1 h2
    rw [lex3_no] at h1 h2 ⊢
    omega
/-- v is a tuple of three ints in the heap -/
def Is3 (h : Heap) (v : Value) (p : T3) : Prop := ∃ a o t1 t2 t3 n, v = .ref a ∧ h.get? a = some o ∧ o.cls = .type "tuple" ∧ o.data = .seq #[.int p.1 t1, .int p.2.1 t2, .int p.2.2 t3] n
theorem Is3.stay {h h' : Heap} {v : Value} {p : T3} (i : Is3 h v p) (k : ∀ b o, h.get? b = some o → o.cls = .type "tuple" → h'.get? b = some o) : Is3 h' v p := by
  obtain ⟨a, o, t1, t2, t3, n, e1, e2, e3, e4⟩ := i
  exact ⟨a, o, t1, t2, t3, n, e1, k a o e2 e3, e3, e4⟩
section
variable {prog : Program} {w : World} {A : Around} {E : Value → Shared → Prop} {s : Shared}
theorem cmp3 {vs : List Value} {k : Value → T3} (hp : ∀ v ∈ vs, Is3 s.heap v (k v)) : SrtO.Cmp prog w A s (tuples' true) (fun p => p.1 ∈ vs) (lt2 fun v u => lex3 (k v) (k u)) := by
  intro p q mp mq
  have i1 := hp _ mp
  have i2 := hp _ mq
  show wpAny (model prog w) A (keyLt' (tuples' true) p.1 q.1) (fun r s' => s' = s ∧ r = lex3 (k p.1) (k q.1)) (fun _ _ => False) s
  generalize k p.1 = P at i1 ⊢
  generalize k q.1 = R at i2 ⊢
  obtain ⟨x, y, z⟩ := P
  obtain ⟨x', y', z'⟩ := R
  obtain ⟨a, o, t, u, v, n, e, ho, hc, hd⟩ := i1
  obtain ⟨a', o', t', u', v', n', e', ho', hc', hd'⟩ := i2
  rw [e, e']
  show wpAny _ _ _ (fun r s' => s' = s ∧ r = (if x = x' then (if y = y' then decide (z < z') else decide (y < y')) else decide (x < x'))) _ _
  refine PySem.W.kat_lt ho hd ho' hd' ?_
  show PySem.W.KatLex prog w A true (decide (3 < 3)) _ [(.int x t, .int x' t'), (.int y u, .int y' u'), (.int z v, .int z' v')] 0 s
  refine PySem.W.kat_cons (SeqAt.EqAt.int_int x t x' t' prog w _ _ (PySem.W.kat_go (fun c1 => ?_) fun c1 => ?_))
  · have ex : x = x' := by simpa using c1
    rw [if_pos ex]
    refine PySem.W.kat_yes (PySem.W.kat_cons (SeqAt.EqAt.int_int y u y' u' prog w _ _ (PySem.W.kat_go (fun c2 => ?_) fun c2 => ?_)))
    · have ey : y = y' := by simpa using c2
      rw [if_pos ey]
      refine PySem.W.kat_yes (PySem.W.kat_cons (SeqAt.EqAt.int_int z v z' v' prog w _ _ (PySem.W.kat_go (fun c3 => ?_) fun c3 => ?_)))
      · have ez : z = z' := by simpa using c3
        exact PySem.W.kat_yes (PySem.W.kat_nil ⟨rfl, by rw [ez]; exact (decide_eq_false (Int.lt_irrefl z')).symm⟩)
      · refine PySem.W.kat_no (PySem.W.kat_one _ _ (PyProof.Rows.lt_int ?_))
        exact (⟨rfl, rfl⟩ : s = s ∧ decide (z < z') = decide (z < z'))
    · have ey : ¬ y = y' := by simpa using c2
      rw [if_neg ey]
      refine PySem.W.kat_no (PySem.W.kat_one _ _ (PyProof.Rows.lt_int ?_))
      exact (⟨rfl, rfl⟩ : s = s ∧ decide (y < y') = decide (y < y'))
  · have ex : ¬ x = x' := by simpa using c1
    rw [if_neg ex]
    exact PySem.W.kat_no (oneLt_int ⟨rfl, rfl⟩)
theorem firsts3 {h : Heap} {k : Value → T3} : ∀ {vs : List Value}, (∀ v ∈ vs, Is3 h v (k v)) → ∃ fs : List Value, PySem.W.KatTups h vs fs ∧ fs.length = vs.length ∧ ∀ f ∈ fs, ∃ x t, f = Value.int x t
  | [], _ => ⟨[], PySem.W.KatTups.nil, rfl, fun f hf => nomatch hf⟩
  | v :: vs, hp => by
    obtain ⟨fs, g1, g2, g3⟩ := firsts3 (vs := vs) fun z hz => hp z (List.mem_cons_of_mem v hz)
    obtain ⟨a, o, t1, t2, t3, n, rfl, e2, e3, e4⟩ := hp v List.mem_cons_self
    refine ⟨.int (k (.ref a)).1 t1 :: fs, PySem.W.KatTups.cons e2 e3 e4 rfl g1, congrArg Nat.succ g2, fun f hf => ?_⟩
    rcases List.mem_cons.mp hf with rfl | hf
    · exact ⟨_, _, rfl⟩
    · exact g3 f hf
theorem sortable3 {a : Addr} {vs : List Value} {k : Value → T3} (h0 : 0 < vs.length) (hp : ∀ v ∈ vs, Is3 s.heap v (k v)) (ha : ∀ o, s.heap.get? a = some o → o.cls ≠ .type "tuple") : SortableO prog w A s a vs fun v u => lex3 (k v) (k u) := fun h' keep => by
  have st : ∀ v ∈ vs, Is3 h' v (k v) := fun v hv => (hp v hv).stay fun b o g c => keep b o (fun z => ha o (z ▸ g) c) g
  obtain ⟨fs, g1, g2, g3⟩ := firsts3 st
  refine ⟨tuples' true, fun Q E hq => PySem.W.kat_kind (T := .type "int") g1 (by omega) (fun f hf => ?_) (by rfl) ?_, cmp3 st⟩
  · obtain ⟨x, t, rfl⟩ := g3 f hf
    exact PySem.W.Looks.now
  · rw [show (Value.type "int" != Value.type "tuple") = true from by first | decide +kernel | rfl]
    exact hq
/-- sorted(l) of triples of ints -/
theorem sorted3 {l : Addr} {vs : List Value} {k : Value → T3} {Q : Value → Shared → Prop} (hl : s.heap.IsList l vs.toArray) (hz : vs.length ≤ sizeLine) (hp : ∀ v ∈ vs, Is3 s.heap v (k v))
    (h : ∀ (h' : Heap) (d : Addr) (out : List Value), Srtd (fun v u => lex3 (k v) (k u)) out → Stb (fun v u => lex3 (k v) (k u)) out vs → (∀ b o, s.heap.get? b = some o → h'.get? b = some o) → s.heap.objs.size ≤ d → (∃ n, h'.get? d = some (seqObj "list" out.toArray n)) → Q (.ref d) { s with heap := h' }) :
    wpAny (model prog w) A (call (.builtin "sorted") [.ref l]) Q E s := by
  refine sorted_ord (swo3 k) hl hz (fun h2 h₁ a ha kk => sortable3 (s := { s with heap := h₁ }) (by omega) (fun v hv => (hp v hv).stay fun b o g _ => (kk b o g).2) fun o g c => ?_) fun out hs hb => h _ _ out hs hb (fun b o g => sortedAll_old g) (Nat.le_succ _) (sortedAll_at s.heap vs out.toArray)
  have g' : some o = some (seqObj "list" vs.toArray 0) := g.symm.trans ha
  cases g'
  exact absurd (Value.type.inj c) (by decide)
end
end SrtT
namespace L2
open PySem PySem.Spec PyProof.Rows SrtT
/-- sorted(xs), xs a list of triples of ints (k says which): a new list, sorted -/
def rSorted3 (K : PySem.W.Frag) : List V → Hp → VK → Prop := fun vs H Q => ∃ (a : Addr) (xs : List V) (k : V → T3), vs = [V.ref a] ∧ SqL K H a xs ∧ (∀ x ∈ xs, ∃ t, x = V.ref t ∧ H t = some (.tup [.int (k x).1, .int (k x).2.1, .int (k x).2.2])) ∧
  ∀ ys p, SrtO.Srtd (fun x y => lex3 (k x) (k y)) ys → ys.Perm xs → H p = none → Q (.ref p) (upd H p (.lst ys))
theorem cr_sorted3 {X : Cx} : CallR X (.builtin "sorted") (rSorted3 X.K) := by
  intro pins s σ H vs us Q I r h
  obtain ⟨a, xs, k, rfl, hs, hx, q⟩ := h
  obtain ⟨its, rv, hl, hz⟩ := I.list hs
  rw [Vals.ref1 r]
  obtain ⟨e1, e2⟩ := refs_back rv fun x m => (hx x m).imp fun t ht => ht.1
  refine sorted3 (k := fun u => k (backV u)) hl.isList (by rw [← rv.length]; exact hz) (fun v hv => ?_) fun h' d out g1 g2 kp hd hn => ?_
  · obtain ⟨t, rfl⟩ := e2 v hv
    obtain ⟨t', e, ht⟩ := hx (.ref t) (by rw [e1]; exact List.mem_map.mpr ⟨_, hv, rfl⟩)
    cases e
    obtain ⟨_, its2, r2, o, ho, hc, n, hdt⟩ := I.hok _ _ ht
    cases r2 with
    | cons r2a r2 => cases r2 with
      | cons r2b r2 => cases r2 with
        | cons r2c r2 =>
          cases r2
          obtain ⟨ta, rfl⟩ := r2a
          obtain ⟨tb, rfl⟩ := r2b
          obtain ⟨tc, rfl⟩ := r2c
          exact ⟨t, o, ta, tb, tc, n, rfl, ho, hc, hdt⟩
  · obtain ⟨n, hn⟩ := hn
    have back : ∀ u ∈ out, ∃ a, u = Value.ref a := fun u hu => e2 u (g2.perm.mem_iff.mp hu)
    have pm : (out.map backV).Perm xs := by rw [e1]; exact g2.perm.map backV
    refine ⟨.ref d, upd H d (.lst (out.map backV)), I.laid (t' := s.toks) kp hd ⟨?_, out, n, vals_back back, hn⟩, rfl, q _ d (SrtO.srtd_map g1) pm (I.hok.fresh hd)⟩
    rw [pm.length_eq]
    exact hz
end L2

set_option Elab.async false
set_option linter.all false
set_option maxRecDepth 100000
set_option maxHeartbeats 4000000
namespace L2
open PySem PySem.Spec PyProof.Rows
/-! ### an own __eq__ asked by !=, an own __len__, list(d.values()) -/
/-- a name of a written namespace -/
theorem ns_at {K : PySem.W.Frag} {h : Heap} {N : Addr} {mN : Str → Option Value} {n : Str} {v : Value} (X : K.In h) (G : h.Ns N mN) (e : PySem.W.nsIn K N n = some (some v)) : mN n = some v := by
  obtain ⟨o, es, ep, ho, hd, _, hf⟩ := G
  unfold PySem.W.nsIn at e
  split at e
  case h_2 => cases e
  case h_1 c d es' n' sl q =>
    have z := X _ _ q
    rw [ho] at z
    cases z
    cases hd
    split at e
    case h_2 => split at e <;> cases e
    case h_1 en he =>
      cases e
      rw [← hf]
      unfold nsFind findBy
      rw [← Array.find?_toList, he]
      rfl
/-- a plain class with an own __eq__ and no __ne__ -/
structure NeC (K : PySem.W.Frag) (C f : Addr) : Prop where
  ex : ∃ (nm q : Str) (N : Addr) (bs : List Value) (hd : Bool) (sn : List Str) (sub : List Value) (ab : Bool) (col : Option Bool) (dd : Option Addr) (k0 k1 k2 k3 k5 : Option Value) (nid : String) (fo : Obj),
    K.lookup C = some (excClassObj nm q C N bs [.type "object"] hd sn sub ab col dd k0 k1 k2 k3 k5 nid) ∧ PySem.W.nsOkIn K N = true ∧ PySem.W.nsIn K N "__eq__" = some (some (.ref f)) ∧ PySem.W.nsIn K N "__ne__" = some none ∧ K.lookup f = some fo ∧ fo.cls = .type "function"
theorem obj_eq : ∃ y, typeLookup (.type "object") "__eq__" = pure y := ⟨_, PySem.F.cmp_object.eq.lookup⟩
section
variable {X : Cx} {n : Nat} {CX : CXT} {C f : Addr} {fd : FuncData} {ps : List Str} {R : Addr → Addr → Hp → Prop} {E : XK}
theorem op_neG (F : FnOk X.prog X.w X.K X.mg X.base CX n f fd ps (spEq R)) (Z : NeC X.K C f) (hb : Binds X.K fd ps []) (hx : Passes CX X E) (hr : Room (n + 2) X.A) :
    OpR X (compareOp .NotEq) (fun x y H Q => DIns C R x y H ∧ ∀ H', Ext H H' → Q (.bl false) H') := by
  intro pins s σ H x y v u Q I rx ry hq
  obtain ⟨⟨a, b, dx, dy, fs, gs, rfl, rfl, ha, hb', hR⟩, q⟩ := hq
  cases rx
  cases ry
  obtain ⟨mA, J, _⟩ := ins_get I.hok ha
  obtain ⟨mB, J', _⟩ := ins_get I.hok hb'
  obtain ⟨od, J, _⟩ := J.look
  obtain ⟨od', J', _⟩ := J'.look
  obtain ⟨nm, qn, N, bs, hd, sn, sub, ab, col, dd, k0, k1, k2, k3, k5, nid, fo, z1, z2, z3, z4, z5, z6⟩ := Z.ex
  have XK := I.kIn
  have Gn := Heap.Ns.of_isNs (PySem.W.isNs_of_in XK z2)
  obtain ⟨y0, hy0⟩ := obj_eq
  have Y : s.heap.OwnEqNoNe a C f "object" [.type "object"] := ⟨_, fo, nm, qn, N, bs, hd, sn, sub, ab, col, dd, k0, k1, k2, k3, k5, nid, _, y0, J.at_, J.cls, XK _ _ z1, Gn, ns_at XK Gn z3, XK _ _ z5, z6, PySem.F.mro_object, hy0, PySem.W.ns_none_of XK Gn z4⟩
  obtain ⟨hp, gg, dw, tk, os⟩ := s
  refine compareOp_ne_ownEq PySem.F.cmp_object Y J'.at_ J'.cls hr.in1.units0 ?_
  have hsp : spEq R [.ref a, .ref b] H (fun v H' => v = .bl true ∧ Ext H H') E := ⟨a, b, rfl, hR, fun H' e => ⟨rfl, e⟩⟩
  have e0 : Env0 X.prog X.w X.K X.mg X.base X.A.in1 X.stack ⟨hp, gg, dw, tk, os⟩ H := by
    have e := I.env0
    exact ⟨e.frames, e.mod, e.bs, e.bsz, e.funs, e.frf, e.hok, e.bare⟩
  have hl := F.len _ _ _ _ hsp
  have r2 : Vals [V.ref a, V.ref b] [Value.ref a, Value.ref b] := .cons rfl (.cons rfl .nil)
  refine wpAny_call (codeAny_mono (F.run X.A.in1 X.stack _ H ⟨[.ref a, .ref b], []⟩ [.ref a, .ref b] [.ref a, .ref b] _ E (hr.in1.mono (by omega)) e0 (by
    have := hb ⟨hp, gg, dw, tk, os⟩ [.ref a, .ref b] I.kIn (by simpa using hl)
    simpa using this) r2 hsp) fun r s' hq => ?_)
  cases r with
  | error e => exact hx pins σ H _ e s' I hq
  | ok fl =>
    cases fl with
    | ret w =>
      obtain ⟨z, H', I', rz, ez, ex⟩ := I.after hq
      subst ez
      cases rz
      exact ⟨true, rfl, .bl false, H', I', rfl, q H' ex⟩
    | next => exact False.elim hq
    | brk => exact False.elim hq
    | cont => exact False.elim hq
/-- len(o) by an own __len__ -/
theorem call_lenI {sp : Sp} (F : FnOk X.prog X.w X.K X.mg X.base CX n f fd ["self"] sp) (hs : PySem.W.findIn X.K (.ref C) "__len__" = some (some (.ref f))) (hf : PySem.W.isFn X.K (.ref f) = true) (hb : Binds X.K fd ["self"] []) (hx : Passes CX X E) (hr : Room (n + 1) X.A) :
    CallR X (.builtin "len") (fun xs H Q => ∃ a dx fs, xs = [.ref a] ∧ H a = some (.ins C dx fs) ∧ sp [.ref a] H (fun v H' => ∃ m : Nat, v = .int m ∧ m < 2 ^ 62 ∧ Q (.int m) H') E) := by
  intro pins s σ H xs us Q I r h
  obtain ⟨a, dx, fs, rfl, ha, h⟩ := h
  rw [Vals.ref1 r]
  obtain ⟨mA, J, _⟩ := ins_get I.hok ha
  obtain ⟨od, J, _⟩ := J.look
  obtain ⟨m, hF⟩ := I.fr
  refine PySem.W.len_K hF I.ok.mod.kin J hs hf ?_
  have e0 : Env0 X.prog X.w X.K X.mg X.base X.A.in1 X.stack s H := by
    have e := I.env0
    exact ⟨e.frames, e.mod, e.bs, e.bsz, e.funs, e.frf, e.hok, e.bare⟩
  have hl := F.len _ _ _ _ h
  refine wpAny_call (codeAny_mono (F.run X.A.in1 X.stack _ H ⟨[.ref a], []⟩ [.ref a] [.ref a] _ E (hr.in1.mono (by omega)) e0 (by
    have := hb s [.ref a] I.kIn (by simpa using hl)
    simpa using this) (.cons rfl .nil) h) fun r s' hq => ?_)
  cases r with
  | error e => exact hx pins σ H _ e s' I hq
  | ok fl =>
    cases fl with
    | ret w =>
      obtain ⟨z, H', I', rz, m, ez, hm, q⟩ := I.after hq
      subst ez
      obtain ⟨t, rfl⟩ := rz
      exact ⟨⟨Int.natCast_nonneg m, by omega⟩, .int m, H', I'.tok _, ⟨_, rfl⟩, q⟩
    | next => exact False.elim hq
    | brk => exact False.elim hq
    | cont => exact False.elim hq
/-- the same object -/
def DOne : Eqv := fun x y _ => x = y ∧ ∃ a, x = .ref a
theorem mon_one : Mon DOne := fun _ _ _ _ _ d => d
theorem eqG_one : EqG X 0 DOne := by
  intro A pins s σ H x y u v sb I rx ry d
  obtain ⟨rfl, a, rfl⟩ := d
  cases rx
  cases ry
  exact SeqAt.EqAt.same (A := A) (s := s) (.ref a) X.prog X.w X.xe _ ⟨rfl, H, I, Ext.rfl'⟩
end
section
variable {X : Cx} {o : Expr} {p pos apos mpos : Pos} {td : TE}
/-- list(o.values()) of a dict -/
def tListVals (td : TE) : TE := fun σ H Q => td σ H fun x H1 => ∃ a kvs, x = V.ref a ∧ H1 a = some (.dK kvs) ∧ ∀ l, H1 l = none → Q (.ref l) (upd H1 l (.lst (kvs.map (·.2))))
theorem vals_vals {kvs : List (Key × V)} {vs : List (Key × Value)} (r : KV kvs vs) {us : List Value} (hn : us.length = vs.length) (hu : ∀ (j : Nat) v, us[j]? = some v → ∃ k, vs[j]? = some (k, v)) : Vals (kvs.map (·.2)) us := by
  have e : us = vs.map (·.2) := PySem.W.kdl_vals_eq us hn hu
  subst e
  unfold KV at r
  clear hn hu
  induction r with
  | nil => exact .nil
  | cons h t ih => exact .cons h.2 ih
theorem pe_listVals (hcalm : X.calm = true) (hg : Gl X "list") (hm : X.mg "list" = none) (hd : PE X o td) (hbase : attributeBase o "values" X.env (eval o X.env) = eval o X.env := by rfl) (hline : (apos.endLine == mpos.line) = true := by rfl)
    (hse : starEach [Expr.Call (.Attribute o "values" apos) [] [] mpos] X.env = [(false, eval (Expr.Call (.Attribute o "values" apos) [] [] mpos) X.env)] := by rfl) :
    PE X (.Call (.Name "list" p) [.Call (.Attribute o "values" apos) [] [] mpos] [] pos) (tListVals td) := by
  refine ⟨fun pins s σ H Q I h => ?_⟩
  refine wpAny_Call_Name_kw (ld_blt I hg hm (u := .type "list") (by first | rfl | decide +kernel) ?_ (by first | decide +kernel | decide) (by first | decide +kernel | decide))
  rw [hse]
  refine PySem.callWith_type1 (wpAny_Call_method0_late hbase hline (thn (hd.run pins s σ H _ I h) fun v s1 ⟨x, H1, I1, r1, a, kvs, ex, ha, q⟩ => ?_))
  subst ex
  obtain rfl : v = Value.ref a := r1
  obtain ⟨hz, hsys, vs, rel, dof⟩ := dk_of I1.hok ha
  obtain ⟨ep, dat⟩ := dof.dictAt
  obtain ⟨ob, es, ho, ex, _⟩ := id dat
  refine ⟨"dict", "dict.values", F.plainAttrs_dict, F.slot_dict_values, F.type_dict_values, ⟨ob, ho, ex.1⟩, fun b e => ?_, Calls.callWith_builtin rfl (PySem.evalArgs_none ?_)⟩
  · cases e
    exact ⟨ob, ho, ex.2.1⟩
  refine call_meetsIn F.slot_dict_values ⟨ob, ho, ex.1⟩ F.entry_dict_values (F.args_dict_values_1 _) (meets_dict_values (mixKind X.prog X.w) a hsys) ⟨⟨vs, dof⟩, ?_⟩
  have up : ∀ b u, s1.heap.get? b = some u → (s1.heap.push { cls := .type "dict_values", data := .fields #[.ref a] }).get? b = some u := fun b u e => Heap.get?_push_of_some _ e
  have hlen : vs.length = kvs.length := (KV.length rel).symm
  refine PySem.W.kdl_call (PySem.W.kdl_values (knd := mixKind X.prog X.w) (kvs := vs) (ep := ep)) (I1.ok.hd hcalm) ⟨⟨_, Heap.get?_push_size _ rfl, rfl, rfl⟩, dat.keep up⟩ (by rw [hlen]; exact hz) fun h' tk acc c' hk hD hacc => ?_
  have hv : Vals (kvs.map (·.2)) acc.toList := vals_vals rel (by rw [Array.length_toList]; exact hacc.1) fun j v e => hacc.2 j v (by rw [← Array.getElem?_toList]; exact e)
  refine ⟨.ref _, upd H1 _ (.lst (kvs.map (·.2))), I1.laid (t' := tk) (fun b u e => hk b u (up b u e)) (Nat.le_of_lt (Nat.lt_of_lt_of_le (Nat.lt_succ_self _) (by rw [Heap.size_push]; exact Nat.le_refl _)))
    (show ObjOk X.prog X.w _ _ _ (.lst (kvs.map (·.2))) from ⟨by rw [List.length_map]; exact hz, acc.toList, c', hv, by rw [Array.toArray_toList]; exact hD⟩), rfl, q _ (I1.hok.fresh (Nat.le_of_lt (Nat.lt_of_lt_of_le (Nat.lt_succ_self _) (by rw [Heap.size_push]; exact Nat.le_refl _))))⟩
end
end L2

set_option Elab.async false
set_option linter.all false
set_option maxRecDepth 100000
set_option maxHeartbeats 4000000
namespace L2
open PySem PySem.Spec PyProof.Rows
section
variable {X : Cx} {n : Nat} {CX : CXT} {C f : Addr} {fd : FuncData} {ps : List Str} {sp : Sp} {E : XK}
/-- x op y of two instances of one class, with an own method for it -/
def rOwnOp (C : Addr) (sp : Sp) (E : XK) : R2 := fun x y H Q => ∃ a b dx dy fs gs, x = .ref a ∧ y = .ref b ∧ H a = some (.ins C dx fs) ∧ H b = some (.ins C dy gs) ∧ sp [x, y] H Q E
theorem op_own {op : Operator} (hc : PySem.W.selfFirst X.K C = true) (hs : PySem.W.findIn X.K (.ref C) (PySem.dunder op.info.2) = some (some (.ref f))) (hf : PySem.W.isFn X.K (.ref f) = true)
    (F : FnOk X.prog X.w X.K X.mg X.base CX n f fd ps sp) (hb : Binds X.K fd ps []) (hx : Passes CX X E) (hr : Room n X.A) : OpR X (binaryOp op) (rOwnOp C sp E) := by
  intro pins s σ H x y v u Q I rx ry hq
  obtain ⟨a, b, dx, dy, fs, gs, rfl, rfl, ha, hb', hsp⟩ := hq
  cases rx
  cases ry
  obtain ⟨mA, J, _⟩ := ins_get I.hok ha
  obtain ⟨mB, J', _⟩ := ins_get I.hok hb'
  obtain ⟨od, J, _⟩ := J.look
  obtain ⟨od', J', _⟩ := J'.look
  obtain ⟨m, Fm⟩ := I.fr
  refine PySem.W.binop_K Fm I.ok.mod.kin J J'.type hc hs hf (wpAny_mono (run_fn (us := [.ref a, .ref b]) (vs := [.ref a, .ref b]) F hr hb .nil hx I (.cons rfl (.cons rfl .nil)) hsp) (fun z s' hz => ?_) fun _ _ e => e)
  obtain ⟨zv, H', I', rz, q⟩ := hz
  exact SlX.cmpback rz ⟨zv, H', I', rz, q⟩
end
end L2

set_option Elab.async false
set_option linter.all false
set_option maxRecDepth 100000
set_option maxHeartbeats 4000000
namespace L2
open PySem PySem.Spec PyProof.Rows
/-! ### o.f as a target among others -/
section
variable {X : Cx} {o : Expr} {ta : TE} {f : Str} {pos : Pos}
def gFld (K : PySem.W.Frag) (ta : TE) (f : Str) : TG := fun v σ H Q => ta σ H fun x H1 => ∃ a C dx fs, x = .ref a ∧ H1 a = some (.ins C dx fs) ∧ Cls K C ∧ NoAttr K C f ∧ fs.length < 1000 ∧ Q σ (upd H1 a (.ins C dx (putF f v fs)))
theorem pg_fld (ha : PE X o ta) : PG X (.Attribute o f pos) (gFld X.K ta f) := by
  refine ⟨fun pins s σ H v u Q I r h => ?_⟩
  rw [assign_Attribute]
  refine wpAny_bind (wpAny_holding (thn (ha.run pins s σ H _ I h) fun ov s1 ⟨x, H1, I1, rx, a, C, dx, fs, ex, ea, c, n, l, q⟩ => ?_))
  subst ex
  obtain rfl : ov = Value.ref a := rx
  refine wpAny_bind (wpAny_standAt ?_)
  refine wpAny_bind (wpAny_holding (setattr_ok I1 ea c n l r fun s3 I3 => ?_))
  exact wpAny_release ⟨σ, _, I3, q⟩
end
/-! ### operators of instances of a family of classes -/
section
variable {prog : Program} {w : World} {A : Around} {E : Value → Shared → Prop} {s : Shared} {K : PySem.W.Frag} {x C D L f : Addr} {h₀ : Heap} {m : Str → Option Value} {ox : Obj} {od : Option Obj}
open PySem.W PySem.Calls in
/-- x op y of instances of two classes, none of which is beneath the other -/
theorem binO {op : Operator} {b : Value} {rc rd : Option Value} {g : Addr} {Q : Value → Shared → Prop} (F : Fr h₀ L s.heap m) (X₀ : K.In h₀) (I : InstAt s.heap x ox C od) (hb : Looks (model prog w) s.heap (typeOf b) (.ref D)) (hne : C ≠ D) (hc : selfFirst K C = true) (hd : selfFirst K D = true)
    (hs : findIn K (.ref C) (PySem.dunder op.info.2) = some (some (.ref f))) (hf : isFn K (.ref f) = true) (hr : findIn K (.ref C) (dunderR op.info.2) = some rc) (hp : rc = none ∨ ∃ g : Addr, rc = some (.ref g))
    (gs : findIn K (.ref D) (PySem.dunder op.info.2) = some (some (.ref g))) (gr : findIn K (.ref D) (dunderR op.info.2) = some rd) (gp : rd = none ∨ ∃ g : Addr, rd = some (.ref g)) (hsub : subIn K (.ref D) (.ref C) = some false)
    (h : wpAny (model prog w) A (call (.ref f) [.ref x, b]) (PySem.W.CmpBack Q) E s) : wpAny (model prog w) A (binaryOp op (.ref x) b) Q E s := by
  have X := X₀.keeps F.keep
  obtain ⟨cd, rest, hcd, hm⟩ := ksp_first hc
  obtain ⟨dd, rest', hdd, hm'⟩ := ksp_first hd
  rcases hi : op.info with ⟨sym, nm'⟩
  rw [hi] at hs hr gs gr
  dsimp only at hs hr gs gr
  have one := ksp_try X I hs hf h
  obtain ⟨hh, gg, d, tt, os⟩ := s
  have L1 : Looks (model prog w) hh (typeOf (.ref x)) (.ref C) := I.type
  have L3 : Looks (model prog w) hh (fillsNumberSlot (.ref C) nm') true := fills_K X hcd hm hs
  have L4 : Looks (model prog w) hh (fillsNumberSlot (.ref D) nm') true := fills_K X hdd hm' gs
  have L5 : Looks (model prog w) hh (isSubtype (.ref D) (.ref C)) false := looks_subIn X hsub
  have L6 : Looks (model prog w) hh (numberSlotInPython (.ref C) nm') true := ksp_inPy X hs hr hp
  have L7 : Looks (model prog w) hh (numberSlotInPython (.ref D) nm') true := ksp_inPy X gs gr gp
  have hne' : (Value.ref C == Value.ref D) = false := Bool.eq_false_iff.mpr fun q => by
    have := beq_iff_eq.mp q
    cases this
    exact hne rfl
  simp only [binaryOp, hi]
  refine wpAny_holding (wpAny_bind ?_)
  unfold binaryOp1
  refine wpAny_bind (L1.at (wpAny_bind (hb.at (wpAny_bind (L3.at ?_)))))
  simp only [hne', Bool.false_eq_true, if_false]
  ksp_lk
  refine wpAny_mono one (fun r s' hr' => ?_) fun _ _ e => e
  obtain ⟨v, rfl, hq⟩ := hr'
  ksp_lk
  exact hq
end
/-- what the top says of an operator of a family of classes -/
structure OpF (K : PySem.W.Frag) (S : Addr → Prop) (op : Operator) (f : Addr) : Prop where
  sf : ∀ C, S C → PySem.W.selfFirst K C = true
  at_ : ∀ C, S C → PySem.W.findIn K (.ref C) (PySem.dunder op.info.2) = some (some (.ref f))
  rt : ∀ C, S C → PySem.W.findIn K (.ref C) (dunderR op.info.2) = some none
  fn : PySem.W.isFn K (.ref f) = true
  sub : ∀ C D, S C → S D → C ≠ D → PySem.W.subIn K (.ref D) (.ref C) = some false
section
variable {X : Cx} {n : Nat} {CX : CXT} {f : Addr} {fd : FuncData} {ps : List Str} {sp : Sp} {E : XK} {S : Addr → Prop} {op : Operator}
def rOpF (S : Addr → Prop) (sp : Sp) (E : XK) : R2 := fun x y H Q => ∃ a b C D dx dy fs gs, x = .ref a ∧ y = .ref b ∧ H a = some (.ins C dx fs) ∧ S C ∧ H b = some (.ins D dy gs) ∧ S D ∧ sp [x, y] H Q E
theorem op_fam (O : OpF X.K S op f) (F : FnOk X.prog X.w X.K X.mg X.base CX n f fd ps sp) (hb : Binds X.K fd ps []) (hx : Passes CX X E) (hr : Room n X.A) : OpR X (binaryOp op) (rOpF S sp E) := by
  intro pins s σ H x y v u Q I rx ry hq
  obtain ⟨a, b, C, D, dx, dy, fs, gs, rfl, rfl, ha, sC, hb', sD, hsp⟩ := hq
  cases rx
  cases ry
  obtain ⟨mA, J, _⟩ := ins_get I.hok ha
  obtain ⟨mB, J', _⟩ := ins_get I.hok hb'
  obtain ⟨od, J, _⟩ := J.look
  obtain ⟨od', J', _⟩ := J'.look
  obtain ⟨m, Fm⟩ := I.fr
  have body : wpAny (model X.prog X.w) X.A (call (.ref f) [.ref a, .ref b]) (PySem.W.CmpBack (EP X pins σ Q)) X.xe s := wpAny_mono (run_fn (us := [.ref a, .ref b]) (vs := [.ref a, .ref b]) F hr hb .nil hx I (.cons rfl (.cons rfl .nil)) hsp) (fun z s' hz => by
    obtain ⟨zv, H', I', rz, q⟩ := hz
    exact SlX.cmpback rz ⟨zv, H', I', rz, q⟩) fun _ _ e => e
  by_cases e : C = D
  · subst e
    exact PySem.W.binop_K Fm I.ok.mod.kin J J'.type (O.sf C sC) (O.at_ C sC) O.fn body
  · exact binO Fm I.ok.mod.kin J J'.type e (O.sf C sC) (O.sf D sD) (O.at_ C sC) O.fn (O.rt C sC) (.inl rfl) (O.at_ D sD) (O.rt D sD) (.inl rfl) (O.sub C D sC sD e) body
/-- with an int -/
structure OpI (K : PySem.W.Frag) (S : Addr → Prop) (op : Operator) (f : Addr) : Prop where
  sf : ∀ C, S C → PySem.W.selfFirst K C = true
  at_ : ∀ C, S C → PySem.W.findIn K (.ref C) (PySem.dunder op.info.2) = some (some (.ref f))
  rt : ∀ C, S C → PySem.W.findIn K (.ref C) (dunderR op.info.2) = some none
  fn : PySem.W.isFn K (.ref f) = true
  sub : ∀ C, S C → PySem.W.subIn K (.type "int") (.ref C) = some false
  i1 : ∃ fo, PySem.W.findIn K (.type "int") (PySem.dunder op.info.2) = some fo
  i2 : ∃ ro, PySem.W.findIn K (.type "int") (dunderR op.info.2) = some ro
def rOpI (S : Addr → Prop) (sp : Sp) (E : XK) : R2 := fun x y H Q => ∃ a C dx fs i, x = .ref a ∧ y = .int i ∧ H a = some (.ins C dx fs) ∧ S C ∧ sp [x, y] H Q E
theorem op_int (O : OpI X.K S op f) (F : FnOk X.prog X.w X.K X.mg X.base CX n f fd ps sp) (hb : Binds X.K fd ps []) (hx : Passes CX X E) (hr : Room n X.A) : OpR X (binaryOp op) (rOpI S sp E) := by
  intro pins s σ H x y v u Q I rx ry hq
  obtain ⟨a, C, dx, fs, i, rfl, rfl, ha, sC, hsp⟩ := hq
  cases rx
  obtain ⟨t, rfl⟩ := (show ∃ t, u = Value.int i t from ry)
  obtain ⟨mA, J, _⟩ := ins_get I.hok ha
  obtain ⟨od, J, _⟩ := J.look
  obtain ⟨m, Fm⟩ := I.fr
  obtain ⟨fo, h1⟩ := O.i1
  obtain ⟨ro, h2⟩ := O.i2
  refine PySem.W.ksp_binT (T := "int") Fm I.ok.mod.kin J rfl (O.sf C sC) (O.at_ C sC) O.fn (O.rt C sC) (.inl rfl) h1 h2 (O.sub C sC) (wpAny_mono (run_fn (us := [.ref a, .int i t]) (vs := [.ref a, .int i]) F hr hb .nil hx I (.cons rfl (.cons ⟨t, rfl⟩ .nil)) hsp) (fun z s' hz => ?_) fun _ _ e => e)
  obtain ⟨zv, H', I', rz, q⟩ := hz
  exact SlX.cmpback rz ⟨zv, H', I', rz, q⟩
end
/-! ### methods of a family of classes -/
/-- a method that all of the classes have from one place -/
structure MethF (K : PySem.W.Frag) (S : Addr → Prop) (m : Str) (f : Addr) : Prop where
  at_ : ∀ C, S C → Cls K C ∧ PySem.W.findIn K (.ref C) m = some (some (.ref f))
  fn : PySem.W.isFn K (.ref f) = true
  kp : PySem.W.keepIn K (.ref f) = true
section
variable {X : Cx} {k : Nat} {CX : CXT} {f : Addr} {fd : FuncData} {ps : List Str} {sp : Sp} {E : XK} {S : Addr → Prop} {o e : Expr} {es : List Expr} {m : Str} {ta : TE} {t : TA} {apos pos : Pos}
def tMethF (S : Addr → Prop) (m : Str) (sp : Sp) (E : XK) (ta : TE) (t : TA) : TE := fun σ H Q => ta σ H fun x H1 => ∃ a C dx fs, x = .ref a ∧ H1 a = some (.ins C dx fs) ∧ S C ∧ fs.lookup m = none ∧
  t σ H1 fun vs H2 => sp (x :: vs) H2 Q E
theorem pe_methF {pl : Sem Bool} (he : PE X o ta) (M : MethF X.K S m f) (F : FnOk X.prog X.w X.K X.mg X.base CX k f fd ps sp) (hr : Room k X.A) (hb : Binds X.K fd ps []) (hx : Passes CX X E) (ha : PA X (e :: es) t)
    (hst : starEach (e :: es) X.env = (false, eval e X.env) :: starEach es X.env := by rfl) (hpl : (backTo pos (starEach es X.env)).any (·.1) = false := by rfl)
    (ht : eval (.Call (.Attribute o m apos) (e :: es) [] pos) X.env = (do
      let ov ← eval o X.env
      standAt apos.atName
      let (f, first) ← holding [ov] (getMethod ov m pl)
      callWith pos f first (backTo pos (starEach (e :: es) X.env)) (backToKw pos (keywordEach [] X.env))) := by rfl) :
    PE X (.Call (.Attribute o m apos) (e :: es) [] pos) (tMethF S m sp E ta t) := by
  refine ⟨fun pins s σ H Q I h => ?_⟩
  refine PySem.W.methodCall_KW (pl := pl) (thn (he.run pins s σ H _ I h) fun u s1 ⟨x, H1, I1, rx, a, C, dx, fs, ex, ea, sC, l, q⟩ => ?_) ht
  subst ex
  obtain rfl : u = Value.ref a := rx
  obtain ⟨c, at_⟩ := M.at_ C sC
  have hm : Meth X.K C m f := ⟨at_, M.fn, M.kp⟩
  refine getmeth_ok I1 ea c hm l ?_
  refine PySem.W.callWith_K (first := [.ref a]) (h₀ := X.base) I.ok.mod.kin hm.kp (thn (ha.run pos pins s1 σ H1 _ I1 q) fun us s2 ⟨vs, H2, I2, r, q2⟩ => ⟨I2.kIn, ?_⟩) hst hpl
  exact run_fn (us := .ref a :: us) (vs := .ref a :: vs) F hr hb .nil hx I2 (.cons rfl r) (by simpa using q2)
theorem pe_methF0 {pl : Sem Bool} (he : PE X o ta) (M : MethF X.K S m f) (F : FnOk X.prog X.w X.K X.mg X.base CX k f fd ps sp) (hr : Room k X.A) (hb : Binds X.K fd ps []) (hx : Passes CX X E)
    (ht : eval (.Call (.Attribute o m apos) [] [] pos) X.env = (do
      let ov ← eval o X.env
      standAt apos.atName
      let (f, first) ← holding [ov] (getMethod ov m pl)
      callWith pos f first (backTo pos (starEach [] X.env)) (backToKw pos (keywordEach [] X.env))) := by rfl) :
    PE X (.Call (.Attribute o m apos) [] [] pos) (tMethF S m sp E ta tNil) := by
  refine ⟨fun pins s σ H Q I h => ?_⟩
  refine PySem.W.methodCall_KW (pl := pl) (thn (he.run pins s σ H _ I h) fun u s1 ⟨x, H1, I1, rx, a, C, dx, fs, ex, ea, sC, l, q⟩ => ?_) ht
  subst ex
  obtain rfl : u = Value.ref a := rx
  obtain ⟨c, at_⟩ := M.at_ C sC
  have hm : Meth X.K C m f := ⟨at_, M.fn, M.kp⟩
  refine getmeth_ok I1 ea c hm l ?_
  exact PySem.W.callWith_K0 (first := [.ref a]) I1.kIn hm.kp (run_fn (us := [.ref a]) (vs := [.ref a]) F hr hb .nil hx I1 (.cons rfl .nil) q)
end
/-! ### max(xs, default=d) -/
def mxD : List Int → Int → Int
  | [], d => d
  | y :: ys, _ => PySem.W.maxOf y ys
section
variable {X : Cx}
def rMaxD (K : PySem.W.Frag) : List V → List V → Hp → VK → Prop := fun vs zs H Q => ∃ (a : Addr) (ns : List Int) (d : Int), vs = [V.ref a] ∧ zs = [V.int d] ∧ SqL K H a (ns.map V.int) ∧ Q (.int (mxD ns d)) H
theorem cr_maxD (hc : X.calm = true) (hu : X.A.units + 9 < cLine) : CallRK X (.builtin "max") [Str.ofString "default"] (rMaxD X.K) := by
  intro pins s σ H vs zs us ws Q I r rz h
  obtain ⟨a, ns, d, rfl, rfl, hs, q⟩ := h
  obtain rfl := Vals.ref1 r
  obtain ⟨w1, rfl, e1⟩ := vals1 rz
  obtain ⟨t, rfl⟩ := (show ∃ t, w1 = Value.int d t from e1)
  obtain ⟨its, rv, hL, hz⟩ := I.list hs
  have hH : PySem.W.HoldAll s.heap its.toArray.toList ns := PySem.W.HoldAll.of_ints (by simpa using rv.ints)
  refine PySem.W.max_list_datum_default (I.ok.hd hc) hL.isList hH ?_ (fun e h' tk hk => ?_) fun y ys i v h' tk e hi hv hk => ?_
  · have : PySem.W.Datum.depth Int = 0 := rfl
    omega
  · subst e
    exact ⟨.int d, H, I.kept hk, ⟨_, rfl⟩, q⟩
  · subst e
    obtain ⟨t', rfl⟩ := PySem.W.int_of_holds hv
    exact ⟨.int _, H, I.kept hk, ⟨_, rfl⟩, q⟩
end
end L2

set_option Elab.async false
set_option linter.all false
set_option maxRecDepth 100000
set_option maxHeartbeats 4000000
namespace Ash
open PySem PySem.Spec PyProof.Rows L2
/-! ### moment terms -/
inductive Tm where
  | now
  | last (s : Str) (t : Tm)
  | next (s : Str) (t : Tm)
  | shift (n : Int) (t : Tm)
  | either (a b : Tm)
  | later (a b : Tm)
  | earlier (a b : Tm)
  deriving DecidableEq
namespace Tm
def mx (a b : Int) : Int := if a < b then b else a
def dep : Tm → Int
  | .now => 1
  | .last _ t => 1 + dep t
  | .next _ t => 1 + dep t
  | .shift _ t => 1 + dep t
  | .either a b => 1 + mx (dep a) (dep b)
  | .later a b => 1 + mx (dep a) (dep b)
  | .earlier a b => 1 + mx (dep a) (dep b)
def par : Tm → Int
  | .now => 1
  | .last _ t => 1 + par t
  | .next _ t => 1 + par t
  | .shift _ t => 1 + par t
  | .either a b => 1 + (par a + par b)
  | .later a b => 1 + (par a + par b)
  | .earlier a b => 1 + (par a + par b)
def lok : Tm → Int
  | .now => 0
  | .last _ t => 1 + lok t
  | .next _ t => 1 + lok t
  | .shift _ t => 0 + lok t
  | .either a b => 0 + (lok a + lok b)
  | .later a b => 0 + (lok a + lok b)
  | .earlier a b => 0 + (lok a + lok b)
def cho : Tm → Int
  | .now => 0
  | .last _ t => 1 + cho t
  | .next _ t => 1 + cho t
  | .shift _ t => 0 + cho t
  | .either a b => 0 + (cho a + cho b)
  | .later a b => 1 + (cho a + cho b)
  | .earlier a b => 1 + (cho a + cho b)
def spell : Tm → List V
  | .now => [.str "now"]
  | .last s t => .str "last" :: .str s :: spell t
  | .next s t => .str "next" :: .str s :: spell t
  | .shift n t => .str "shift" :: .int n :: spell t
  | .either a b => .str "either" :: (spell a ++ spell b)
  | .later a b => .str "later" :: (spell a ++ spell b)
  | .earlier a b => .str "earlier" :: (spell a ++ spell b)
/-- not too large -/
def Fit (t : Tm) : Prop := t.dep ≤ 12 ∧ t.par ≤ 40 ∧ t.lok ≤ 12
theorem mx_l (a b : Int) : a ≤ mx a b := by unfold mx; split <;> omega
theorem mx_r (a b : Int) : b ≤ mx a b := by unfold mx; split <;> omega
theorem par_pos : ∀ t : Tm, 1 ≤ t.par
  | .now => by simp [par]
  | .last _ t => by have := par_pos t; simp [par]; omega
  | .next _ t => by have := par_pos t; simp [par]; omega
  | .shift _ t => by have := par_pos t; simp [par]; omega
  | .either a b => by have := par_pos a; have := par_pos b; simp [par]; omega
  | .later a b => by have := par_pos a; have := par_pos b; simp [par]; omega
  | .earlier a b => by have := par_pos a; have := par_pos b; simp [par]; omega
theorem lok_nn : ∀ t : Tm, 0 ≤ t.lok
  | .now => by simp [lok]
  | .last _ t => by have := lok_nn t; simp [lok]; omega
  | .next _ t => by have := lok_nn t; simp [lok]; omega
  | .shift _ t => by have := lok_nn t; simp [lok]; omega
  | .either a b => by have := lok_nn a; have := lok_nn b; simp [lok]; omega
  | .later a b => by have := lok_nn a; have := lok_nn b; simp [lok]; omega
  | .earlier a b => by have := lok_nn a; have := lok_nn b; simp [lok]; omega
theorem dep_pos : ∀ t : Tm, 1 ≤ t.dep
  | .now => by simp [dep]
  | .last _ t => by have := dep_pos t; simp [dep]; omega
  | .next _ t => by have := dep_pos t; simp [dep]; omega
  | .shift _ t => by have := dep_pos t; simp [dep]; omega
  | .either a b => by have := dep_pos a; have := mx_l a.dep b.dep; simp [dep]; omega
  | .later a b => by have := dep_pos a; have := mx_l a.dep b.dep; simp [dep]; omega
  | .earlier a b => by have := dep_pos a; have := mx_l a.dep b.dep; simp [dep]; omega
/-- a spelling is no longer than three times its parts -/
theorem spell_len : ∀ t : Tm, ((spell t).length : Int) ≤ 3 * t.par
  | .now => by simp [spell, par]
  | .last _ t => by have := spell_len t; simp [spell, par]; omega
  | .next _ t => by have := spell_len t; simp [spell, par]; omega
  | .shift _ t => by have := spell_len t; simp [spell, par]; omega
  | .either a b => by have := spell_len a; have := spell_len b; simp [spell, par]; omega
  | .later a b => by have := spell_len a; have := spell_len b; simp [spell, par]; omega
  | .earlier a b => by have := spell_len a; have := spell_len b; simp [spell, par]; omega
/-- all streams are names -/
def Nm : Tm → Prop
  | .now => True
  | .last s t => (1 ≤ s.length ∧ s.length ≤ 8) ∧ Nm t
  | .next s t => (1 ≤ s.length ∧ s.length ≤ 8) ∧ Nm t
  | .shift _ t => Nm t
  | .either a b => Nm a ∧ Nm b
  | .later a b => Nm a ∧ Nm b
  | .earlier a b => Nm a ∧ Nm b
end Tm
/-- the classes of terms -/
structure TC where
  now : Addr
  last : Addr
  next : Addr
  shift : Addr
  either : Addr
  later : Addr
  earlier : Addr
def TC.of (C : TC) : Tm → Addr
  | .now => C.now
  | .last _ _ => C.last
  | .next _ _ => C.next
  | .shift _ _ => C.shift
  | .either _ _ => C.either
  | .later _ _ => C.later
  | .earlier _ _ => C.earlier
/-- one of the classes -/
def TC.Is (C : TC) (a : Addr) : Prop := a = C.now ∨ a = C.last ∨ a = C.next ∨ a = C.shift ∨ a = C.either ∨ a = C.later ∨ a = C.earlier
theorem TC.is_of (C : TC) (t : Tm) : C.Is (C.of t) := by
  cases t
  · exact .inl rfl
  · exact .inr (.inl rfl)
  · exact .inr (.inr (.inl rfl))
  · exact .inr (.inr (.inr (.inl rfl)))
  · exact .inr (.inr (.inr (.inr (.inl rfl))))
  · exact .inr (.inr (.inr (.inr (.inr (.inl rfl)))))
  · exact .inr (.inr (.inr (.inr (.inr (.inr rfl)))))
/-- what stands in each term -/
def fCom (sp : Addr) (t : Tm) : List (Str × V) := [("spelling", .ref sp), ("depth", .int t.dep), ("parts", .int t.par), ("looks", .int t.lok), ("choices", .int t.cho)]
/-- the term t at a -/
def TmAt (C : TC) (H : Hp) : Addr → Tm → Prop
  | a, .now => ∃ dx sp, H a = some (.ins C.now dx (fCom sp .now)) ∧ H sp = some (.tup (Tm.spell .now))
  | a, .last s t => ∃ dx b sp, H a = some (.ins C.last dx (("stream", .str s) :: ("term", .ref b) :: fCom sp (.last s t))) ∧ H sp = some (.tup (Tm.spell (.last s t))) ∧ TmAt C H b t
  | a, .next s t => ∃ dx b sp, H a = some (.ins C.next dx (("stream", .str s) :: ("term", .ref b) :: fCom sp (.next s t))) ∧ H sp = some (.tup (Tm.spell (.next s t))) ∧ TmAt C H b t
  | a, .shift n t => ∃ dx b sp, H a = some (.ins C.shift dx (("term", .ref b) :: ("amount", .int n) :: fCom sp (.shift n t))) ∧ H sp = some (.tup (Tm.spell (.shift n t))) ∧ TmAt C H b t
  | a, .either s t => ∃ dx b c sp, H a = some (.ins C.either dx (("first", .ref b) :: ("second", .ref c) :: fCom sp (.either s t))) ∧ H sp = some (.tup (Tm.spell (.either s t))) ∧ TmAt C H b s ∧ TmAt C H c t
  | a, .later s t => ∃ dx b c sp, H a = some (.ins C.later dx (("first", .ref b) :: ("second", .ref c) :: fCom sp (.later s t))) ∧ H sp = some (.tup (Tm.spell (.later s t))) ∧ TmAt C H b s ∧ TmAt C H c t
  | a, .earlier s t => ∃ dx b c sp, H a = some (.ins C.earlier dx (("first", .ref b) :: ("second", .ref c) :: fCom sp (.earlier s t))) ∧ H sp = some (.tup (Tm.spell (.earlier s t))) ∧ TmAt C H b s ∧ TmAt C H c t
/-- all but lists stands -/
def NL (H H' : Hp) : Prop := ∀ c o, H c = some o → (∀ xs, o ≠ .lst xs) → H' c = some o
theorem NL.trans {H H1 H2 : Hp} (a : NL H H1) (b : NL H1 H2) : NL H H2 := fun c o h n => b c o (a c o h n) n
theorem nl_same {H H' : Hp} (s : Same H H') : NL H H' := fun c o h _ => s c o h
theorem TmAt.nl {C : TC} {H H' : Hp} (n : NL H H') : ∀ {t : Tm} {a : Addr}, TmAt C H a t → TmAt C H' a t
  | .now, a, ⟨dx, sp, h1, h2⟩ => ⟨dx, sp, n _ _ h1 (fun _ z => nomatch z), n _ _ h2 (fun _ z => nomatch z)⟩
  | .last s t, a, ⟨dx, b, sp, h1, h2, h3⟩ => ⟨dx, b, sp, n _ _ h1 (fun _ z => nomatch z), n _ _ h2 (fun _ z => nomatch z), TmAt.nl n h3⟩
  | .next s t, a, ⟨dx, b, sp, h1, h2, h3⟩ => ⟨dx, b, sp, n _ _ h1 (fun _ z => nomatch z), n _ _ h2 (fun _ z => nomatch z), TmAt.nl n h3⟩
  | .shift s t, a, ⟨dx, b, sp, h1, h2, h3⟩ => ⟨dx, b, sp, n _ _ h1 (fun _ z => nomatch z), n _ _ h2 (fun _ z => nomatch z), TmAt.nl n h3⟩
  | .either s t, a, ⟨dx, b, c, sp, h1, h2, h3, h4⟩ => ⟨dx, b, c, sp, n _ _ h1 (fun _ z => nomatch z), n _ _ h2 (fun _ z => nomatch z), TmAt.nl n h3, TmAt.nl n h4⟩
  | .later s t, a, ⟨dx, b, c, sp, h1, h2, h3, h4⟩ => ⟨dx, b, c, sp, n _ _ h1 (fun _ z => nomatch z), n _ _ h2 (fun _ z => nomatch z), TmAt.nl n h3, TmAt.nl n h4⟩
  | .earlier s t, a, ⟨dx, b, c, sp, h1, h2, h3, h4⟩ => ⟨dx, b, c, sp, n _ _ h1 (fun _ z => nomatch z), n _ _ h2 (fun _ z => nomatch z), TmAt.nl n h3, TmAt.nl n h4⟩
theorem TmAt.same {C : TC} {H H' : Hp} {t : Tm} {a : Addr} (h : TmAt C H a t) (s : Same H H') : TmAt C H' a t := h.nl (nl_same s)
/-- what all terms have -/
theorem TmAt.ins {C : TC} {H : Hp} : ∀ {t : Tm} {a : Addr}, TmAt C H a t → ∃ dx fs sp, H a = some (.ins (C.of t) dx fs) ∧ H sp = some (.tup t.spell) ∧ ∃ x y : Str × V, (fs = fCom sp t ∨ fs = x :: y :: fCom sp t ∧ x.1 ∈ [("stream" : Str), "term", "first"] ∧ y.1 ∈ [("term" : Str), "amount", "second"])
  | .now, a, ⟨dx, sp, h1, h2⟩ => ⟨dx, _, sp, h1, h2, ("", .non), ("", .non), .inl rfl⟩
  | .last s t, a, ⟨dx, b, sp, h1, h2, h3⟩ => ⟨dx, _, sp, h1, h2, _, _, .inr ⟨rfl, by simp, by simp⟩⟩
  | .next s t, a, ⟨dx, b, sp, h1, h2, h3⟩ => ⟨dx, _, sp, h1, h2, _, _, .inr ⟨rfl, by simp, by simp⟩⟩
  | .shift s t, a, ⟨dx, b, sp, h1, h2, h3⟩ => ⟨dx, _, sp, h1, h2, _, _, .inr ⟨rfl, by simp, by simp⟩⟩
  | .either s t, a, ⟨dx, b, c, sp, h1, h2, h3, h4⟩ => ⟨dx, _, sp, h1, h2, _, _, .inr ⟨rfl, by simp, by simp⟩⟩
  | .later s t, a, ⟨dx, b, c, sp, h1, h2, h3, h4⟩ => ⟨dx, _, sp, h1, h2, _, _, .inr ⟨rfl, by simp, by simp⟩⟩
  | .earlier s t, a, ⟨dx, b, c, sp, h1, h2, h3, h4⟩ => ⟨dx, _, sp, h1, h2, _, _, .inr ⟨rfl, by simp, by simp⟩⟩
theorem skip2 {x y : Str × V} {l : List (Str × V)} {f : Str} (hx : x.1 ∈ [("stream" : Str), "term", "first"]) (hy : y.1 ∈ [("term" : Str), "amount", "second"]) (hf : f ∉ [("stream" : Str), "term", "first", "amount", "second"]) : List.lookup f (x :: y :: l) = List.lookup f l := by
  obtain ⟨x1, x2⟩ := x
  obtain ⟨y1, y2⟩ := y
  have e1 : (f == x1) = false := by
    refine beq_eq_false_iff_ne.mpr fun z => hf ?_
    subst z
    simp only [List.mem_cons, List.not_mem_nil, or_false] at hx ⊢
    rcases hx with h | h | h <;> simp [h]
  have e2 : (f == y1) = false := by
    refine beq_eq_false_iff_ne.mpr fun z => hf ?_
    subst z
    simp only [List.mem_cons, List.not_mem_nil, or_false] at hy ⊢
    rcases hy with h | h | h <;> simp [h]
  simp only [List.lookup, e1, e2]
/-- the attributes that all terms have -/
structure TmIn (C : TC) (H : Hp) (a : Addr) (t : Tm) (dx : Addr) (fs : List (Str × V)) (sp : Addr) : Prop where
  at_ : H a = some (.ins (C.of t) dx fs)
  spl : H sp = some (.tup t.spell)
  spelling : fs.lookup ("spelling" : Str) = some (.ref sp)
  depth : fs.lookup ("depth" : Str) = some (.int t.dep)
  parts : fs.lookup ("parts" : Str) = some (.int t.par)
  looks : fs.lookup ("looks" : Str) = some (.int t.lok)
  choices : fs.lookup ("choices" : Str) = some (.int t.cho)
  no : ∀ f : Str, f ∉ [("stream" : Str), "term", "first", "amount", "second"] → f ∉ [("spelling" : Str), "depth", "parts", "looks", "choices"] → fs.lookup f = none
theorem fCom_no {sp : Addr} {t : Tm} {f : Str} (h : f ∉ [("spelling" : Str), "depth", "parts", "looks", "choices"]) : (fCom sp t).lookup f = none := by
  simp only [List.mem_cons, List.not_mem_nil, or_false, not_or] at h
  obtain ⟨h1, h2, h3, h4, h5⟩ := h
  simp [fCom, List.lookup, beq_eq_false_iff_ne.mpr h1, beq_eq_false_iff_ne.mpr h2, beq_eq_false_iff_ne.mpr h3, beq_eq_false_iff_ne.mpr h4, beq_eq_false_iff_ne.mpr h5]
theorem TmAt.in_ {C : TC} {H : Hp} {t : Tm} {a : Addr} (h : TmAt C H a t) : ∃ dx fs sp, TmIn C H a t dx fs sp := by
  obtain ⟨dx, fs, sp, h1, h2, x, y, e⟩ := h.ins
  refine ⟨dx, fs, sp, h1, h2, ?_, ?_, ?_, ?_, ?_, fun f n1 n2 => ?_⟩
  · rcases e with rfl | ⟨rfl, ex, ey⟩
    · rfl
    · rw [skip2 ex ey (by decide +kernel)]; rfl
  · rcases e with rfl | ⟨rfl, ex, ey⟩
    · rfl
    · rw [skip2 ex ey (by decide +kernel)]; rfl
  · rcases e with rfl | ⟨rfl, ex, ey⟩
    · rfl
    · rw [skip2 ex ey (by decide +kernel)]; rfl
  · rcases e with rfl | ⟨rfl, ex, ey⟩
    · rfl
    · rw [skip2 ex ey (by decide +kernel)]; rfl
  · rcases e with rfl | ⟨rfl, ex, ey⟩
    · rfl
    · rw [skip2 ex ey (by decide +kernel)]; rfl
  · rcases e with rfl | ⟨rfl, ex, ey⟩
    · exact fCom_no n2
    · rw [skip2 ex ey n1]; exact fCom_no n2
end Ash

set_option Elab.async false
set_option linter.all false
set_option maxRecDepth 100000
set_option maxHeartbeats 4000000
namespace L2
open PySem PySem.Spec PyProof.Rows
def rGtT (K : PySem.W.Frag) : R2 := fun x y H Q => ∃ (a b : Addr) (i j k l : Int), x = .ref a ∧ y = .ref b ∧ SqT K H a [.int i, .int j] ∧ SqT K H b [.int k, .int l] ∧
  Q (.bl (if i = k then (if j = l then false else decide (l < j)) else decide (k < i))) H
/-- (i, j) > (k, l) -/
theorem op_gtT {X : Cx} (hu : X.A.units < cLine) : OpR X (compareOp .Gt) (rGtT X.K) := by
  intro pins s σ H x y v u Q I rx ry h
  obtain ⟨a, b, i0, j0, k0, l0, rfl, rfl, ha, hb, q⟩ := h
  cases rx
  cases ry
  obtain ⟨its, r1, p1, _⟩ := I.tuple ha
  obtain ⟨its2, r2, p2, _⟩ := I.tuple hb
  obtain ⟨ns, hns⟩ : ∃ ns : List Int, ns = [i0, j0] := ⟨_, rfl⟩
  obtain ⟨ms, hms⟩ : ∃ ms : List Int, ms = [k0, l0] := ⟨_, rfl⟩
  have i1 : IntsAre its ns := Vals.ints (by rw [hns]; exact r1)
  have i2 : IntsAre its2 ms := Vals.ints (by rw [hms]; exact r2)
  have e1 : its.toArray.size = ns.length := by rw [List.size_toArray]; exact i1.length
  have e2 : its2.toArray.size = ms.length := by rw [List.size_toArray]; exact i2.length
  have at1 : ∀ j (h1 : j < its.toArray.size), ∃ t, its.toArray[j] = .int (ns.getD j 0) t := fun j h1 => PyProof.Rows.IntsAre.int_at i1 _ _ (by simp at h1; simp [h1])
  have at2 : ∀ j (h1 : j < its2.toArray.size), ∃ t, its2.toArray[j] = .int (ms.getD j 0) t := fun j h1 => PyProof.Rows.IntsAre.int_at i2 _ _ (by simp at h1; simp [h1])
  have R := Ob.RcOp.tuples_gt (A := X.A) (s := s) (e := fun j => decide (ns.getD j 0 = ms.getD j 0)) (r := fun j => decide (ms.getD j 0 < ns.getD j 0)) p1 p2 hu (fun j h1 h2 => by
    obtain ⟨t, et⟩ := at1 j h1
    obtain ⟨t', et'⟩ := at2 j h2
    rw [et, et']
    have z : (ns.getD j 0 == ms.getD j 0) = decide (ns.getD j 0 = ms.getD j 0) := by
      by_cases q : ns.getD j 0 = ms.getD j 0
      · rw [decide_eq_true q]; exact beq_iff_eq.mpr q
      · rw [decide_eq_false q]; exact beq_eq_false_iff_ne.mpr q
    rw [← z]
    exact SeqAt.EqAt.int_int _ _ _ _) (fun j h1 h2 _ => by
    obtain ⟨t, et⟩ := at1 j h1
    obtain ⟨t', et'⟩ := at2 j h2
    rw [et, et']
    exact Ob.RcOp.gt_int _ _ _ _)
  rw [e1, e2, hns, hms] at R
  have z : wpAny (model X.prog X.w) X.A (compareOp .Gt (.ref a) (.ref b)) (EP X pins σ Q) X.xe s := by
    refine R X.prog X.w X.xe (EP X pins σ Q) ⟨.bl _, H, I, rfl, ?_⟩
    have ee : Ob.lexAt (fun j => decide (([i0, j0] : List Int).getD j 0 = ([k0, l0] : List Int).getD j 0)) (fun j => decide (([k0, l0] : List Int).getD j 0 < ([i0, j0] : List Int).getD j 0)) (decide (([i0, j0] : List Int).length > ([k0, l0] : List Int).length)) 0 (min ([i0, j0] : List Int).length ([k0, l0] : List Int).length) = (if i0 = k0 then (if j0 = l0 then false else decide (l0 < j0)) else decide (k0 < i0)) := by
      show Ob.lexAt _ _ _ 0 2 = _
      rw [Ob.lexAt_succ, Ob.lexAt_succ, Ob.lexAt_zero]
      show (if decide (i0 = k0) = true then (if decide (j0 = l0) = true then decide (2 > 2) else decide (l0 < j0)) else decide (k0 < i0)) = _
      by_cases c1 : i0 = k0 <;> by_cases c2 : j0 = l0 <;> simp [c1, c2]
    rw [← ee] at q
    exact q
  exact z
end L2
namespace Ash
open PySem PySem.Spec PyProof.Rows L2 SrtT
open C8 (pss_cut)
/-! ### rows by streams, as data -/
theorem none_of {H H' : Hp} {q : Addr} (s : Same H H') (h : H' q = none) : H q = none := by
  cases e : H q with
  | none => rfl
  | some o => rw [s _ _ e] at h; cases h
theorem list_take {α : Type} {l : List α} {i : Nat} {x : α} (h : l[i]? = some x) : l.take (i + 1) = l.take i ++ [x] := by
  rw [List.take_add_one, h]
  rfl
def tv (t : T3) : List V := [.int t.1, .int t.2.1, .int t.2.2]
/-- ys are tuples of the triples ts -/
def TrAt (H : Hp) (ys : List V) (ts : List T3) : Prop := ys.length = ts.length ∧ ∀ (i : Nat) v t, ys[i]? = some v → ts[i]? = some t → ∃ e, v = .ref e ∧ H e = some (.tup (tv t))
theorem TrAt.tk {H H' : Hp} {ys : List V} {ts : List T3} (h : TrAt H ys ts) (s : ∀ t xs, H t = some (.tup xs) → H' t = some (.tup xs)) : TrAt H' ys ts := ⟨h.1, fun i v t a b => by
  obtain ⟨e, h1, h2⟩ := h.2 i v t a b
  exact ⟨e, h1, s _ _ h2⟩⟩
theorem TrAt.snoc {H : Hp} {ys : List V} {ts : List T3} {e : Addr} {t : T3} (h : TrAt H ys ts) (he : H e = some (.tup (tv t))) : TrAt H (ys ++ [.ref e]) (ts ++ [t]) := by
  refine ⟨by rw [List.length_append, List.length_append, h.1]; rfl, fun i v u a b => ?_⟩
  by_cases hi : i < ys.length
  · rw [List.getElem?_append_left hi] at a
    rw [List.getElem?_append_left (by rw [← h.1]; exact hi)] at b
    exact h.2 i v u a b
  · have hi' : i = ys.length := by
      have := (List.getElem?_eq_some_iff.mp a).1
      rw [List.length_append] at this
      have : i < ys.length + 1 := this
      omega
    subst hi'
    rw [List.getElem?_append_right (Nat.le_refl _), Nat.sub_self] at a
    rw [h.1, List.getElem?_append_right (Nat.le_refl _), Nat.sub_self] at b
    cases a
    cases b
    exact ⟨e, rfl, he⟩
/-- the triple of a tuple -/
def triOf (H : Hp) : V → T3
  | .ref e => match H e with
    | some (.tup [.int a, .int b, .int c]) => (a, b, c)
    | _ => (0, 0, 0)
  | _ => (0, 0, 0)
theorem triOf_at {H : Hp} {e : Addr} {t : T3} (h : H e = some (.tup (tv t))) : triOf H (.ref e) = t := by
  show (match H e with
    | some (.tup [.int a, .int b, .int c]) => (a, b, c)
    | _ => (0, 0, 0)) = t
  rw [h]
  rfl
theorem TrAt.map {H : Hp} {ys : List V} {ts : List T3} (h : TrAt H ys ts) : ys.map (triOf H) = ts := by
  apply List.ext_getElem?
  intro i
  rw [List.getElem?_map]
  by_cases hi : i < ys.length
  · have hj : i < ts.length := by rw [← h.1]; exact hi
    obtain ⟨e, h1, h2⟩ := h.2 i _ _ (List.getElem?_eq_getElem hi) (List.getElem?_eq_getElem hj)
    rw [List.getElem?_eq_getElem hi, List.getElem?_eq_getElem hj, h1, Option.map_some, triOf_at h2]
  · rw [List.getElem?_eq_none (by omega), List.getElem?_eq_none (by rw [← h.1]; omega)]
    rfl
theorem TrAt.get {H : Hp} {ys : List V} {ts : List T3} (h : TrAt H ys ts) {i : Nat} {t : T3} (e : ts[i]? = some t) : ∃ a, ys[i]? = some (.ref a) ∧ H a = some (.tup (tv t)) := by
  have hi : i < ys.length := by rw [h.1]; exact (List.getElem?_eq_some_iff.mp e).1
  obtain ⟨a, h1, h2⟩ := h.2 i _ _ (List.getElem?_eq_getElem hi) e
  exact ⟨a, by rw [List.getElem?_eq_getElem hi, h1], h2⟩
abbrev Tr := Str → List T3
def idsOf (names : List Str) (T : Tr) : List Int := names.flatMap fun z => (T z).map (·.2.1)
def addT (T : Tr) (z : Str) (t : T3) : Tr := fun y => if y = z then T z ++ [t] else T y
theorem addT_at {T : Tr} {z : Str} {t : T3} : addT T z t z = T z ++ [t] := if_pos rfl
theorem addT_no {T : Tr} {z y : Str} {t : T3} (h : ¬ y = z) : addT T z t y = T y := if_neg h
theorem ids_skip {T : Tr} {z : Str} {t : T3} : ∀ {names : List Str}, z ∉ names → idsOf names (addT T z t) = idsOf names T
  | [], _ => rfl
  | a :: r, h => by
    have h1 : ¬ a = z := fun q => h (by rw [q]; exact List.mem_cons_self)
    show (addT T z t a).map (·.2.1) ++ idsOf r (addT T z t) = (T a).map (·.2.1) ++ idsOf r T
    rw [addT_no h1, ids_skip (fun q => h (List.mem_cons_of_mem _ q))]
theorem ids_add {T : Tr} {z : Str} {t : T3} : ∀ {names : List Str}, names.Nodup → z ∈ names → (idsOf names (addT T z t)).Perm (idsOf names T ++ [t.2.1])
  | [], _, h => nomatch h
  | a :: r, hn, h => by
    obtain ⟨h1, h2⟩ := List.nodup_cons.mp hn
    show ((addT T z t a).map (·.2.1) ++ idsOf r (addT T z t)).Perm ((T a).map (·.2.1) ++ idsOf r T ++ [t.2.1])
    by_cases e : a = z
    · subst e
      rw [ids_skip h1, addT_at, List.map_append, List.append_assoc, List.append_assoc]
      exact List.Perm.append_left _ (List.perm_append_comm)
    · rw [addT_no e, List.append_assoc]
      exact List.Perm.append_left _ (ids_add h2 ((List.mem_cons.mp h).resolve_left fun q => e q.symm))
theorem mem_ids {names : List Str} {T : Tr} {i : Int} : i ∈ idsOf names T ↔ ∃ z ∈ names, ∃ t ∈ T z, t.2.1 = i := by
  unfold idsOf
  simp only [List.mem_flatMap, List.mem_map]
theorem ids_sub {names : List Str} {T : Tr} {z : Str} : z ∈ names → ((T z).map (·.2.1)).Sublist (idsOf names T) := fun h => by
  unfold idsOf
  induction names with
  | nil => cases h
  | cons a r ih =>
    rw [List.flatMap_cons]
    rcases List.mem_cons.mp h with rfl | h
    · exact List.sublist_append_left _ _
    · exact (ih h).trans (List.sublist_append_right _ _)
/-- rows whose ids are told apart -/
structure GoodT (names : List Str) (T : Tr) (n : Nat) : Prop where
  len : (idsOf names T).length = n
  nd : (idsOf names T).Nodup
  lo : ∀ i ∈ idsOf names T, 0 ≤ i
theorem GoodT.few {names : List Str} {T : Tr} {n : Nat} {z : Str} (g : GoodT names T n) (h : z ∈ names) : (T z).length ≤ n := by
  have := (ids_sub (T := T) h).length_le
  rw [List.length_map, g.len] at this
  exact this
theorem GoodT.apart {names : List Str} {T : Tr} {n : Nat} {z : Str} (g : GoodT names T n) (h : z ∈ names) : ((T z).map (·.2.1)).Nodup := g.nd.sublist (ids_sub h)
/-- the rows of each stream, in the lists of a dict -/
structure RwAt (H : Hp) (d : Addr) (names : List Str) (A : Str → Addr) (T : Tr) : Prop where
  at_ : H d = some (.dK (names.map fun z => (Sum.inr z, V.ref (A z))))
  row : ∀ z ∈ names, ∃ ys, H (A z) = some (.lst ys) ∧ TrAt H ys (T z)
  inj : ∀ z ∈ names, ∀ y ∈ names, A z = A y → z = y
theorem RwAt.same {H H' : Hp} {d : Addr} {names : List Str} {A : Str → Addr} {T : Tr} (h : RwAt H d names A T) (s : Same H H') : RwAt H' d names A T :=
  ⟨s _ _ h.at_, fun z hz => by
    obtain ⟨ys, h1, h2⟩ := h.row z hz
    exact ⟨ys, s _ _ h1, h2.tk fun t xs q => s _ _ q⟩, h.inj⟩
theorem RwAt.pl {H H' : Hp} {p s d : Addr} {names : List Str} {A : Str → Addr} {T : Tr} (h : RwAt H d names A T) (P0 : PoolAt H p s) (n : ∀ z ∈ names, A z ≠ p) (P : Pl H H' p s) : RwAt H' d names A T := by
  obtain ⟨ns, i, c, k, m, hp, _⟩ := id P0
  exact ⟨P.keep h.at_ (ne_of h.at_ hp (by intro z; cases z)), fun z hz => by
    obtain ⟨ys, h1, h2⟩ := h.row z hz
    exact ⟨ys, P.keep h1 (n z hz), h2.tk fun t xs q => P.keep q (ne_of q hp (by intro z; cases z))⟩, h.inj⟩
theorem valV_nm {A : Str → V} {z : Str} : ∀ {names : List Str}, valV (names.map fun z => ((Sum.inr z : Key), A z)) (Sum.inr z : Key) = if z ∈ names then some (A z) else none
  | [] => rfl
  | a :: r => by
    rw [List.map_cons]
    by_cases e : a = z
    · subst e
      rw [valV_pos rfl, if_pos List.mem_cons_self]
    · rw [valV_neg (fun q => e (Sum.inr.inj q)), valV_nm]
      by_cases h : z ∈ r
      · rw [if_pos h, if_pos (List.mem_cons_of_mem _ h)]
      · rw [if_neg h, if_neg (fun q => (List.mem_cons.mp q).elim (fun q => e q.symm) h)]
/-- one more row -/
theorem RwAt.add {H1 : Hp} {d e : Addr} {names : List Str} {A : Str → Addr} {T : Tr} {z : Str} {t : T3} {ys : List V} (h : RwAt H1 d names A T) (hz : z ∈ names) (hy : H1 (A z) = some (.lst ys)) (hT : TrAt H1 ys (T z)) (he : H1 e = some (.tup (tv t))) :
    RwAt (upd H1 (A z) (.lst (ys ++ [.ref e]))) d names A (addT T z t) := by
  have tk : ∀ t xs, H1 t = some (.tup xs) → (upd H1 (A z) (.lst (ys ++ [.ref e]))) t = some (.tup xs) := fun t xs q => by rw [upd_ne (ne_of q hy (by intro z; cases z))]; exact q
  refine ⟨by rw [upd_ne (ne_of h.at_ hy (by intro z; cases z))]; exact h.at_, fun y hy2 => ?_, h.inj⟩
  by_cases c : y = z
  · subst c
    rw [addT_at]
    exact ⟨_, upd_same, (hT.tk tk).snoc (tk _ _ he)⟩
  · rw [addT_no c]
    obtain ⟨us, h1, h2⟩ := h.row y hy2
    exact ⟨us, by rw [upd_ne (fun q => c (h.inj y hy2 z hz q))]; exact h1, h2.tk tk⟩
def spMoment : Sp := fun vs H Q _ => ∃ (p s : Addr), vs = [.ref p] ∧ PoolAt H p s ∧ ∀ (m : Int) H', Pl H H' p s → Q (.int m) H'
def spLWRows : Sp := fun vs H Q _ => ∃ (p s l : Addr) (names : List Str) (many : Int), vs = [.ref p, .ref l, .int many] ∧ PoolAt H p s ∧ l ≠ p ∧ H l = some (.lst (names.map V.str)) ∧ 1 ≤ names.length ∧ names.length ≤ 25 ∧ names.Nodup ∧ 0 ≤ many ∧ many ≤ 100 ∧
  ∀ (d : Addr) (A : Str → Addr) (T : Tr) H', H d = none → (∀ z ∈ names, H (A z) = none) → RwAt H' d names A T → GoodT names T many.toNat → Pl H H' p s → Q (.ref d) H'
section
variable {P : Program} {w : World} {K : PySem.W.Frag} {mg : Str → Option Value} {base : Heap}
abbrev s_l_moment : Stmt := topS 70
theorem sc_l_moment : FnScope ["pool"] ["pool"] (defScope s_l_moment) := ⟨rfl, rfl, rfl, by decide +kernel, rfl, by decide +kernel, by decide +kernel⟩
theorem ok_moment {f : Addr} {fd : FuncData} (F : Fun K "_law_moment" "_law_moment" s_l_moment f fd) (B : Blt mg) (G : G1 P w K mg base) : FnOk P w K mg base CX0 2 f fd ["pool"] spMoment := by
  refine F.ok sc_l_moment (fun vs H Q E h => ?_) (fun cdv A outer s H vs Q E hr h => ?_)
  · obtain ⟨p, _, rfl, _⟩ := h
    rfl
  · obtain ⟨p, s0, rfl, hP, kk⟩ := h
    refine ⟨_, (pss_cons (ps_if (pt_cmpR op_eq (pe_cal G.law_draw (hr.mono (by decide)) pass0 (pa_cons (pv 0) (pa_cons pe_int pa_nil))) pe_int (nomark _))
      (pss_one (ps_ret (pe_op op_add (pe_op op_mul (pe_op op_sub (pe_cal G.law_draw (hr.mono (by decide)) pass0 (pa_cons (pv 0) (pa_cons pe_int pa_nil))) pe_int) (pe_op op_pow pe_int pe_int)) (pe_cal G.law_draw (hr.mono (by decide)) pass0 (pa_cons (pv 0) (pa_cons pe_int pa_nil))))))
      pss_nil)
    (pss_one (ps_ret (pe_op op_sub (pe_cal G.law_draw (hr.mono (by decide)) pass0 (pa_cons (pv 0) (pa_cons pe_int pa_nil))) pe_int)))), ?_⟩
    refine ⟨_, rfl, p, s0, 8, rfl, hP, (by decide), (by decide), fun x H1 x0 x8 P1 => ⟨rfl, _, rfl, ?_⟩⟩
    refine ite2 (fun c => ?_) (fun c => ?_)
    · refine ⟨_, rfl, p, s0, 2000001, rfl, P1.now, (by decide), (by decide), fun y H2 y0 y8 P2 => ?_⟩
      refine ⟨_, _, rfl, rfl, _, _, rfl, rfl, ⟨by decide, by decide, by decide⟩, _, _, rfl, rfl, .inl ⟨by omega, by omega⟩, _, rfl, p, s0, 5, rfl, P2.now, (by decide), (by decide), fun u H3 u0 u8 P3 => ⟨_, _, rfl, rfl, kk _ H3 ((P1.trans P2).trans P3)⟩⟩
    · refine ⟨_, rfl, p, s0, 15, rfl, P1.now, (by decide), (by decide), fun y H2 y0 y8 P2 => ⟨_, _, rfl, rfl, kk _ H2 (P1.trans P2)⟩⟩
structure G2w (P : Program) (w : World) (K : PySem.W.Frag) (mg : Str → Option Value) (base : Heap) : Prop extends G1 P w K mg base where
  law_moment : Cal P w K mg base CX0 "_law_moment" 2 ["pool"] spMoment
abbrev s_l_rows : Stmt := topS 71
theorem sc_l_rows : FnScope ["pool", "streams", "many", "rows", "stream", "k"] ["pool", "streams", "many"] (defScope s_l_rows) := ⟨rfl, rfl, rfl, by decide +kernel, rfl, by decide +kernel, by decide +kernel⟩
theorem ok_wrows {f : Addr} {fd : FuncData} (F : Fun K "_law_rows" "_law_rows" s_l_rows f fd) (B : Blt mg) (G : G2w P w K mg base) : FnOk P w K mg base CX0 3 f fd ["pool", "streams", "many"] spLWRows := by
  refine F.ok sc_l_rows (fun vs H Q E h => ?_) (fun cdv A outer s H vs Q E hr h => ?_)
  · obtain ⟨p, _, l, names, many, rfl, _⟩ := h
    rfl
  · obtain ⟨p, s0, l, names, many, rfl, hP, hlp, hl, n1, n25, hnd, m0, m100, kk⟩ := h
    have hu := hu_of hr
    refine ⟨_, (pss_cons (ps_set (i := 3) sc_l_rows.nd rfl (Or.inl rfl) pe_dnewK)
    (pss_cons (ps_for PassesOwn.never rfl (pi_list (pv 1)) (pg_name (i := 4) sc_l_rows.nd rfl (Or.inl rfl))
      (pss_one (ps_dput hu (pv 3) (pv 4) (pe_lst pa_nil) rfl)))
    (pss_cons (ps_for PassesOwn.never rfl (pi_range1 (by rfl) B.range (pa_cons (pv 2) pa_nil)) (pg_name (i := 5) sc_l_rows.nd rfl (Or.inl rfl))
      (pss_cons (ps_set (i := 4) sc_l_rows.nd rfl (Or.inl rfl) (pe_ix ix_list (pv 1) (pe_cal G.law_draw (hr.mono (by decide)) pass0 (pa_cons (pv 0) (pa_cons (pe_callB call_len (by rfl) B.len (by decide +kernel) (pa_cons (pv 1) pa_nil)) pa_nil))) (fun _ _ => rfl)))
      (pss_one (ps_expr (pe_bm PySem.F.plainAttrs_list PySem.F.slot_list_append PySem.F.type_list_append mt_append (pe_dget hu (pv 3) (pv 4) (fun _ _ => rfl)) (pa_cons (pe_tup (pa_cons (pe_cal G.law_moment (hr.mono (by decide)) pass0 (pa_cons (pv 0) pa_nil)) (pa_cons (pe_op op_add (pe_op op_mul pe_int (pv 5)) (pe_cal G.law_draw (hr.mono (by decide)) pass0 (pa_cons (pv 0) (pa_cons pe_int pa_nil)))) (pa_cons (pe_cal G.law_moment (hr.mono (by decide)) pass0 (pa_cons (pv 0) pa_nil)) pa_nil)))) pa_nil))))))
    (pss_one (ps_ret (pv 3)))))), ?_⟩
    intro d hd
    have dp : d ≠ p := fun z => hP.ne.1 (z ▸ hd)
    have ds : d ≠ s0 := fun z => hP.ne.2 (z ▸ hd)
    have dl : l ≠ d := fun z => by rw [← z, hl] at hd; cases hd
    refine ⟨_, rfl, l, rfl, ⟨_, SqL.of (by rw [upd_ne dl]; exact hl)⟩, for_list (K := K) (a := l) (xs := names.map V.str) (fun i σ H1 => (∃ a b, σ = [some (.ref p), some (.ref l), some (.int many), some (.ref d), a, b]) ∧ Same H H1 ∧ ∃ A : Str → Addr, (H1 d = some (.dK ((names.take i).map fun z => (Sum.inr z, V.ref (A z))))) ∧ (∀ z ∈ names.take i, H1 (A z) = some (.lst []) ∧ H (A z) = none ∧ A z ≠ d) ∧ ∀ z ∈ names.take i, ∀ y ∈ names.take i, A z = A y → z = y) ?_ (fun i σ H1 _ hv => SqL.of (hv.2.1 _ _ hl)) ?_ ?_⟩
    · exact ⟨⟨_, _, rfl⟩, sameAt (Same.refl H) hd, fun _ => d, upd_same, (fun z hz => nomatch hz), (fun z hz => nomatch hz)⟩
    · rintro i y σ H1 hi ⟨⟨a, b, rfl⟩, s1, A, h1, h2, h3⟩
      obtain ⟨z, hz, rfl⟩ : ∃ z, names[i]? = some z ∧ y = V.str z := by
        rw [List.getElem?_map] at hi
        cases e : names[i]? with
        | none => rw [e] at hi; cases hi
        | some z => rw [e] at hi; exact ⟨z, rfl, (Option.some.inj hi).symm⟩
      have hzt : z ∉ names.take i := fun hm => by
        obtain ⟨j, hj, e⟩ := List.getElem_of_mem hm
        rw [List.length_take] at hj
        rw [List.getElem_take] at e
        have := nd_ix hnd (List.getElem?_eq_some_iff.mpr ⟨by omega, e⟩) hz
        omega
      have tl : (names.take i).length ≤ 25 := by rw [List.length_take]; omega
      refine ⟨(by show 0 ≤ sizeLine; decide), fun e he => ?_⟩
      have e0 : H e = none := none_of s1 he
      have ed : e ≠ d := fun q => by rw [q, h1] at he; cases he
      refine ⟨_, rfl, _, rfl, d, _, rfl, DPut.k (k := Sum.inr z) (by rw [upd_ne (Ne.symm ed)]; exact h1) (by rw [List.length_map]; exact small1000 (by omega)), ⟨_, _, rfl⟩, ?_, fun y => if y = z then e else A y, ?_, ?_, ?_⟩
      · exact fun c o hc => by rw [upd_ne (ne_of_none hc hd), upd_ne (ne_of_none hc e0)]; exact s1 _ _ hc
      · rw [upd_same, putK_new _ (by rw [valV_nm, if_neg hzt]), list_take hz, List.map_append]
        show some (HO.dK (_ ++ [(Sum.inr z, V.ref e)])) = some (HO.dK (_ ++ [(Sum.inr z, V.ref (if z = z then e else A z))]))
        rw [if_pos rfl]
        refine congrArg (fun q => some (HO.dK (q ++ [((Sum.inr z : Key), V.ref e)]))) (List.map_congr_left fun y hy => ?_)
        show (Sum.inr y, V.ref (A y)) = ((Sum.inr y : Key), V.ref (if y = z then e else A y))
        rw [if_neg (fun q : y = z => hzt (by rw [← q]; exact hy))]
      · intro y hy
        rw [list_take hz] at hy
        show upd _ _ _ (if y = z then e else A y) = _ ∧ H (if y = z then e else A y) = none ∧ (if y = z then e else A y) ≠ d
        rcases List.mem_append.mp hy with hy | hy
        · have hn : ¬ y = z := fun q => hzt (by rw [← q]; exact hy)
          obtain ⟨q1, q2, q3⟩ := h2 y hy
          have qe : A y ≠ e := fun q => by rw [q, he] at q1; cases q1
          rw [if_neg hn]
          exact ⟨by rw [upd_ne q3, upd_ne qe]; exact q1, q2, q3⟩
        · rw [List.mem_singleton.mp hy, if_pos rfl]
          exact ⟨by rw [upd_ne ed, upd_same], e0, ed⟩
      · intro y hy x hx
        rw [list_take hz] at hy hx
        show (if y = z then e else A y) = (if x = z then e else A x) → _
        have nz : ∀ u ∈ names.take i, ¬ u = z := fun u hu q => hzt (by rw [← q]; exact hu)
        have ne : ∀ u ∈ names.take i, A u ≠ e := fun u hu q => by
          have := (h2 u hu).1
          rw [q, he] at this
          cases this
        rcases List.mem_append.mp hy with hy | hy <;> rcases List.mem_append.mp hx with hx | hx
        · rw [if_neg (nz y hy), if_neg (nz x hx)]
          exact h3 y hy x hx
        · rw [List.mem_singleton.mp hx, if_neg (nz y hy), if_pos rfl]
          exact fun q => absurd q (ne y hy)
        · rw [List.mem_singleton.mp hy, if_neg (nz x hx), if_pos rfl]
          exact fun q => absurd q.symm (ne x hx)
        · rw [List.mem_singleton.mp hx, List.mem_singleton.mp hy]
          exact fun _ => rfl
    · rintro σ H1 ⟨⟨a, b, rfl⟩, s1, A, h1, h2, h3⟩
      rw [List.length_map, List.take_length] at h1 h2 h3
      have hAp : ∀ z ∈ names, A z ≠ p := fun z hz q => hP.ne.1 (q ▸ (h2 z hz).2.1)
      refine ⟨_, rfl, _, rfl, (by omega), (by omega), for_range (n := many.toNat) (fun k σ H2 => (∃ a b, σ = [some (.ref p), some (.ref l), some (.int many), some (.ref d), a, b]) ∧ ∃ T : Tr, RwAt H2 d names A T ∧ GoodT names T k ∧ (∀ i ∈ idsOf names T, i < 11 * (k : Int)) ∧ Pl H H2 p s0 ∧ H2 l = some (.lst (names.map V.str))) ?_ ?_ ?_⟩
      · refine ⟨⟨_, _, rfl⟩, fun _ => [], ⟨h1, fun z hz => ⟨[], (h2 z hz).1, rfl, fun i v t a b => by simp at a⟩, h3⟩, ?_, ?_, (Pl.refl hP).same s1, s1 _ _ hl⟩
        · have e : idsOf names (fun _ => []) = [] := by
            unfold idsOf
            induction names with
            | nil => rfl
            | cons a r ih => simp
          exact ⟨by rw [e]; rfl, by rw [e]; exact List.nodup_nil, by rw [e]; exact fun i hi => nomatch hi⟩
        · intro i hi
          obtain ⟨z, _, t, ht, _⟩ := mem_ids.mp hi
          cases ht
      · rintro k σ H2 hk ⟨⟨a, b, rfl⟩, T, R, G2, up, P2, hl2⟩
        refine ⟨_, rfl, _, rfl, _, rfl, _, _, rfl, .inl ⟨_, SqL.of hl2, rfl⟩, p, s0, _, rfl, P2.now, (by rw [List.length_map]; omega), Int.lt_of_le_of_lt (show ((names.map V.str).length : Int) ≤ 25 by rw [List.length_map]; omega) (by decide), fun g H3 g0 g1 P3 => ?_⟩
        rw [List.length_map] at g1
        obtain ⟨j, rfl⟩ : ∃ j : Nat, g = (j : Int) := ⟨g.toNat, by omega⟩
        have hj : j < names.length := by omega
        have hz : names[j] ∈ names := List.getElem_mem hj
        generalize hzz : names[j] = z at hz
        refine ⟨_, _, _, .str z, rfl, rfl, SqL.of (P3.keep hl2 hlp), atI_nat (by rw [List.getElem?_map, List.getElem?_eq_getElem hj, hzz]; rfl), ?_⟩
        have R3 := R.pl P2.now hAp P3
        have P13 := P2.trans P3
        have hg := DGet.k (k := Sum.inr z) R3.at_
        rw [valV_nm, if_pos hz] at hg
        obtain ⟨ys3, hy3, _⟩ := R3.row z hz
        refine ⟨_, rfl, _, rfl, d, _, rfl, hg, .inl ⟨rfl, _, SqL.of hy3⟩, ?_⟩
        -- the moment
        refine ⟨_, rfl, p, s0, rfl, P3.now, fun m1 H4 P4 => ?_⟩
        have R4 := R3.pl P3.now hAp P4
        refine ⟨_, rfl, _, _, rfl, rfl, .inl ⟨by decide, by decide⟩, _, rfl, p, s0, 11, rfl, P4.now, (by decide), (by decide), fun u H5 u0 u11 P5 => ⟨_, _, rfl, rfl, ?_⟩⟩
        have R5 := R4.pl P4.now hAp P5
        refine ⟨_, rfl, p, s0, rfl, P5.now, fun m2 H6 P6 => ?_⟩
        have R6 := R5.pl P5.now hAp P6
        have P16 := (((P13.trans P4).trans P5).trans P6)
        refine ⟨(by show 3 ≤ sizeLine; decide), fun e he => ?_⟩
        have R7 : RwAt (upd H6 e (.tup (tv (m1, 11 * (0 + (k : Int)) + u, m2)))) d names A T := R6.same (sameAt (Same.refl H6) he)
        obtain ⟨ys, hy, hT⟩ := R7.row z hz
        have G2z := G2.few hz
        have yl := hT.1
        have P17 : Pl H (upd H6 e (.tup (tv (m1, 11 * (0 + (k : Int)) + u, m2)))) p s0 := P16.new he
        refine ⟨A z, ys, _, rfl, rfl, hy, (by rw [yl]; exact small1000 (by omega)), ⟨_, _, rfl⟩, addT T z (m1, 11 * (0 + (k : Int)) + u, m2), R7.add hz hy hT upd_same, ?_, ?_, P17.at (h2 z hz).2.1, ?_⟩
        · have pm := ids_add (T := T) (t := (m1, 11 * (0 + (k : Int)) + u, m2)) hnd hz
          refine ⟨by rw [pm.length_eq, List.length_append, G2.len]; rfl, ?_, fun i hi => ?_⟩
          · rw [pm.nodup_iff, List.nodup_append]
            refine ⟨G2.nd, by simp, fun x hx y hy q => ?_⟩
            have := up x hx
            rw [List.mem_singleton.mp hy] at q
            have q : x = 11 * (0 + (k : Int)) + u := q
            omega
          · rcases List.mem_append.mp (pm.mem_iff.mp hi) with hi | hi
            · exact G2.lo i hi
            · rw [List.mem_singleton.mp hi]
              show 0 ≤ 11 * (0 + (k : Int)) + u
              omega
        · intro i hi
          have pm := ids_add (T := T) (t := (m1, 11 * (0 + (k : Int)) + u, m2)) hnd hz
          rcases List.mem_append.mp (pm.mem_iff.mp hi) with hi | hi
          · have := up i hi
            omega
          · rw [List.mem_singleton.mp hi]
            show 11 * (0 + (k : Int)) + u < _
            omega
        · have hl6 := P6.keep (P5.keep (P4.keep (P3.keep hl2 hlp) hlp) hlp) hlp
          rw [upd_ne (fun q => by rw [q] at hl; rw [(h2 z hz).2.1] at hl; cases hl), upd_ne (ne_of_none hl6 he)]
          exact hl6
      · rintro σ H2 ⟨⟨a, b, rfl⟩, T, R, G2, up, P2, hl2⟩
        exact ⟨_, rfl, kk d A T H2 hd (fun z hz => (h2 z hz).2.1) R G2 P2⟩
end
end Ash

set_option Elab.async false
set_option linter.all false
set_option maxRecDepth 100000
set_option maxHeartbeats 4000000
namespace Ash
open PySem PySem.Spec PyProof.Rows L2
open C8 (pss_cut)
/-! ### kinds of values -/
def NotInt (K : PySem.W.Frag) (H : Hp) (v : V) : Prop := ∃ t bi bb, TyX K H v t ∧ PySem.W.kitOne K t (.type "int") = some bi ∧ PySem.W.kitOne K t (.type "bool") = some bb ∧ (bi && !bb) = false
def NotStr (K : PySem.W.Frag) (H : Hp) (v : V) : Prop := ∃ t, TyX K H v t ∧ PySem.W.kitOne K t (.type "str") = some false
def NotTup (K : PySem.W.Frag) (H : Hp) (v : V) : Prop := ∃ t, TyX K H v t ∧ PySem.W.kitOne K t (.type "tuple") = some false
def spIsInt (K : PySem.W.Frag) : Sp := fun vs H Q _ => ∃ v, vs = [v] ∧ ((∃ n, v = .int n ∧ Q (.bl true) H) ∨ (NotInt K H v ∧ Q (.bl false) H))
def spIsNat (K : PySem.W.Frag) : Sp := fun vs H Q _ => ∃ v, vs = [v] ∧ ((∃ n, v = .int n ∧ Q (.bl (decide (0 ≤ n))) H) ∨ (NotInt K H v ∧ Q (.bl false) H))
/-- the test of names -/
def nmB (z : Str) : Bool := decide (1 ≤ z.length ∧ z.length ≤ 8) && z.cps.toList.all fun c => decide (c ∈ LET)
theorem nmB_iff (z : Str) : nmB z = true ↔ IsNm z := by
  unfold nmB IsNm
  simp only [Bool.and_eq_true, decide_eq_true_eq, List.all_eq_true]
  exact ⟨fun ⟨⟨a, b⟩, c⟩ => ⟨a, b, c⟩, fun ⟨a, b, c⟩ => ⟨⟨a, b⟩, c⟩⟩
def spIsName (K : PySem.W.Frag) : Sp := fun vs H Q _ => ∃ v, vs = [v] ∧ ((∃ z, v = .str z ∧ z.length ≤ sizeLine ∧ ∀ H', Same H H' → Q (.bl (nmB z)) H') ∨ (NotStr K H v ∧ Q (.bl false) H))
def spAreInts (K : PySem.W.Frag) : Sp := fun vs H Q _ => ∃ (a : Addr) (ns : List Int), vs = [.ref a] ∧ SqT K H a (ns.map V.int) ∧ ns.length ≤ 100 ∧ ∀ H', Same H H' → Q (.bl true) H'
def spIsRow (K : PySem.W.Frag) : Sp := fun vs H Q _ => ∃ (a : Addr) (us : List V), vs = [.ref a] ∧ (H a = some (.lst us) ∨ SqT K H a us) ∧ ∀ H', Same H H' → Q (.bl true) H'
theorem list_lit (l : List Nat) : ∀ i x, l[i]? = some x → l.take (i + 1) = l.take i ++ [x] := fun i x h => by
  rw [List.take_add_one, h]
  rfl
structure Cst (mg : Str → Option Value) : Prop where
  k_LETTERS : ∃ t, mg "LETTERS" = some (.str abc t)
  k_LONGEST_NAME : ∃ t, mg "LONGEST_NAME" = some (.int 8 t)
  k_MOST_DEPTH : ∃ t, mg "MOST_DEPTH" = some (.int 12 t)
  k_MOST_PARTS : ∃ t, mg "MOST_PARTS" = some (.int 40 t)
  k_MOST_LOOKS : ∃ t, mg "MOST_LOOKS" = some (.int 12 t)
  k_MOST_ROWS : ∃ t, mg "MOST_ROWS" = some (.int 400 t)
  k_MOMENT : ∃ t, mg "MOMENT" = some (.int 0 t)
  k_AMOUNT : ∃ t, mg "AMOUNT" = some (.int 2 t)
section
variable {P : Program} {w : World} {K : PySem.W.Frag} {mg : Str → Option Value} {base : Heap}
structure K1 (P : Program) (w : World) (K : PySem.W.Frag) (mg : Str → Option Value) (base : Heap) : Prop where
  is_integer : Cal P w K mg base CX0 "is_integer" 1 ["thing"] (spIsInt K)
abbrev s_is_integer : Stmt := topS 12
theorem sc_is_integer : FnScope ["thing"] ["thing"] (defScope s_is_integer) := ⟨rfl, rfl, rfl, by decide +kernel, rfl, by decide +kernel, by decide +kernel⟩
theorem ok_is_integer {f : Addr} {fd : FuncData} (F : Fun K "is_integer" "is_integer" s_is_integer f fd) (B : Blt mg) : FnOk P w K mg base CX0 1 f fd ["thing"] (spIsInt K) := by
  refine F.ok sc_is_integer (fun vs H Q E h => ?_) (fun cdv A outer s H vs Q E hr h => ?_)
  · obtain ⟨v, rfl, _⟩ := h
    rfl
  · obtain ⟨v, rfl, hv⟩ := h
    refine ⟨_, (pss_one (ps_ret (pe_and (pe_callB call_isi (by rfl) B.isinstance (by decide +kernel) (pa_cons (pv 0) (pa_cons (pe_bltn (v := .ty "int") (by rfl) B.int (by decide +kernel) rfl) pa_nil))) (pe_one (pe_not (pe_callB call_isi (by rfl) B.isinstance (by decide +kernel) (pa_cons (pv 0) (pa_cons (pe_bltn (v := .ty "bool") (by rfl) B.bool (by decide +kernel) rfl) pa_nil)))))))), ?_⟩
    rcases hv with ⟨n, rfl, q⟩ | ⟨⟨t, bi, bb, ty, e1, e2, e3⟩, q⟩
    · refine ⟨_, rfl, _, _, _, _, true, rfl, ClsV.ty _, .base (.int n), kit_ty (by decide +kernel), _, rfl, iteT ?_⟩
      refine ⟨_, rfl, _, _, _, _, false, rfl, ClsV.ty _, .base (.int n), kit_ty (by decide +kernel), _, rfl, q⟩
    · refine ⟨_, rfl, _, _, _, _, bi, rfl, ClsV.ty _, ty, e1, _, rfl, ?_⟩
      cases bi with
      | false => exact iteF q
      | true =>
        refine iteT ⟨_, rfl, _, _, _, _, bb, rfl, ClsV.ty _, ty, e2, _, rfl, ?_⟩
        have e3 : (!bb) = false := e3
        rw [e3]
        exact q
abbrev s_is_natural : Stmt := topS 13
theorem sc_is_natural : FnScope ["thing"] ["thing"] (defScope s_is_natural) := ⟨rfl, rfl, rfl, by decide +kernel, rfl, by decide +kernel, by decide +kernel⟩
theorem ok_is_natural {f : Addr} {fd : FuncData} (F : Fun K "is_natural" "is_natural" s_is_natural f fd) (B : Blt mg) (G : K1 P w K mg base) : FnOk P w K mg base CX0 2 f fd ["thing"] (spIsNat K) := by
  refine F.ok sc_is_natural (fun vs H Q E h => ?_) (fun cdv A outer s H vs Q E hr h => ?_)
  · obtain ⟨v, rfl, _⟩ := h
    rfl
  · obtain ⟨v, rfl, hv⟩ := h
    refine ⟨_, (pss_one (ps_ret (pe_and (pe_cal G.is_integer (hr.mono (by decide)) pass0 (pa_cons (pv 0) pa_nil)) (pe_one (pe_cmpR op_ge (pv 0) pe_int (nomark _)))))), ?_⟩
    rcases hv with ⟨n, rfl, q⟩ | ⟨ni, q⟩
    · exact ⟨_, rfl, _, rfl, .inl ⟨n, rfl, _, rfl, iteT ⟨_, rfl, _, _, rfl, rfl, q⟩⟩⟩
    · exact ⟨_, rfl, _, rfl, .inr ⟨ni, _, rfl, iteF q⟩⟩
abbrev s_is_name : Stmt := topS 14
theorem sc_is_name : FnScope ["thing", "letter"] ["thing"] (defScope s_is_name) := ⟨rfl, rfl, rfl, by decide +kernel, rfl, by decide +kernel, by decide +kernel⟩
theorem ok_is_name {f : Addr} {fd : FuncData} (F : Fun K "is_name" "is_name" s_is_name f fd) (B : Blt mg) (Cs : Cst mg) : FnOk P w K mg base CX0 1 f fd ["thing"] (spIsName K) := by
  obtain ⟨t1, g_LETTERS⟩ := Cs.k_LETTERS
  obtain ⟨t2, g_LONGEST_NAME⟩ := Cs.k_LONGEST_NAME
  refine F.ok sc_is_name (fun vs H Q E h => ?_) (fun cdv A outer s H vs Q E hr h => ?_)
  · obtain ⟨v, rfl, _⟩ := h
    rfl
  · obtain ⟨v, rfl, hv⟩ := h
    refine ⟨_, (pss_cons (ps_if (PW.pt (pw_or (pt_not (pt_val (pe_callB call_isi (by rfl) B.isinstance (by decide +kernel) (pa_cons (pv 0) (pa_cons (pe_bltn (v := .ty "str") (by rfl) B.str (by decide +kernel) rfl) pa_nil))))) (pw_or1 (pt_not (pt_chain op_le op_le pe_int (pe_callB call_len_str (by rfl) B.len (by decide +kernel) (pa_cons (pv 0) pa_nil)) (pe_glob (v := .int 8) (by rfl) g_LONGEST_NAME ⟨_, rfl⟩))))))
      (pss_one (ps_ret pe_bl))
      pss_nil)
    (pss_one (ps_ret (pe_callB (cr_all rfl) (by rfl) B.all (by decide +kernel) (pa_cons (pe_lc (own := [("letter", 1)]) (g := gName 1) (tt := tYes) (by rfl) sc_is_name.nd (pi_str (pv 0)) (blkOk_by (own := [("letter", 1)]) (N := ["thing", "letter"]) (sc := defScope s_is_name) (by decide +kernel)) (fun _ _ _ _ _ => (pg_name (i := 1) sc_is_name.nd rfl (Or.inl rfl))) (fun _ _ _ _ _ => pts_nil) (fun _ _ _ _ _ => (pe_cmpR op_in_sign (pv 1) (pe_glob (v := .str "abcdefghijklmnopqrstuvwxyz") (by rfl) g_LETTERS ⟨_, rfl⟩) rfl))) pa_nil))))), ?_⟩
    rcases hv with ⟨z, rfl, hz, q⟩ | ⟨⟨t, ty, e1⟩, q⟩
    · refine ⟨_, rfl, _, _, _, _, true, rfl, ClsV.ty _, .base (.str z), kit_ty (by decide +kernel), _, rfl, iteF ?_⟩
      refine ⟨_, rfl, _, rfl, hz, _, _, rfl, rfl, _, rfl, ?_⟩
      refine ite2 (fun c1 => ?_) (fun c1 => ?_)
      · have c1 : (1 : Int) ≤ z.length := of_decide_eq_true c1
        refine ⟨_, _, rfl, rfl, _, rfl, ?_⟩
        by_cases c8 : (z.length : Int) ≤ 8
        · refine iteNS c8 ?_
          refine ⟨_, rfl, z, rfl, fun D hD => lc_it (walk_str (z := z)) (fun i H1 => H1 D = some (.lst (((z.cps.toList.take i).map fun c => decide (c ∈ LET)).map V.bl)) ∧ Same H H1) ⟨upd_same, sameAt (Same.refl H) hD⟩ (fun _ _ _ _ => trivial) ?_ ?_⟩
          · rintro i x H1 H2 hi ⟨hD1, hs⟩ ⟨rfl, c, hc, rfl⟩
            have hc' : z.cps.toList[i]? = some c := by rw [Array.getElem?_toList]; exact hc
            have hlen : (z.cps.toList.take i).length ≤ 8 := by
              have : i < z.length := hi
              rw [List.length_take]
              omega
            refine ⟨rfl, _, rfl, c, abc, rfl, rfl, _, hD1, (by rw [List.length_map, List.length_map]; exact small1000 (by omega)), ?_, sameAt hs hD⟩
            rw [upd_same, list_lit _ _ _ hc', abc_let, List.map_append, List.map_append]
            rfl
          · rintro H1 ⟨hD1, hs⟩
            have e : z.cps.toList.take z.cps.size = z.cps.toList := by rw [← Array.length_toList, List.take_length]
            rw [e] at hD1
            refine ⟨D, _, rfl, SqL.of hD1, ?_⟩
            have e2 : ((z.cps.toList.map fun c => decide (c ∈ LET)).all id) = nmB z := by
              unfold nmB
              rw [decide_eq_true (show 1 ≤ z.length ∧ z.length ≤ 8 by omega), Bool.true_and, List.all_map]
              rfl
            rw [e2]
            exact q _ hs
        · rw [decide_eq_false c8]
          refine iteT ?_
          have e2 : nmB z = false := by
            unfold nmB
            rw [decide_eq_false (show ¬ (1 ≤ z.length ∧ z.length ≤ 8) by omega), Bool.false_and]
          have := q H (Same.refl H)
          rw [e2] at this
          exact this
      · have c1 : ¬ (1 : Int) ≤ z.length := by simpa using c1
        refine ⟨_, rfl, iteT ?_⟩
        have e2 : nmB z = false := by
          unfold nmB
          rw [decide_eq_false (show ¬ (1 ≤ z.length ∧ z.length ≤ 8) by omega), Bool.false_and]
        have := q H (Same.refl H)
        rw [e2] at this
        exact this
    · refine ⟨_, rfl, _, _, _, _, false, rfl, ClsV.ty _, ty, e1, _, rfl, iteT q⟩
structure K2 (P : Program) (w : World) (K : PySem.W.Frag) (mg : Str → Option Value) (base : Heap) : Prop extends K1 P w K mg base where
  is_natural : Cal P w K mg base CX0 "is_natural" 2 ["thing"] (spIsNat K)
  is_name : Cal P w K mg base CX0 "is_name" 1 ["thing"] (spIsName K)
abbrev s_are_integers : Stmt := topS 16
theorem sc_are_integers : FnScope ["things", "thing"] ["things"] (defScope s_are_integers) := ⟨rfl, rfl, rfl, by decide +kernel, rfl, by decide +kernel, by decide +kernel⟩
theorem ok_are_integers {f : Addr} {fd : FuncData} (F : Fun K "are_integers" "are_integers" s_are_integers f fd) (B : Blt mg) (G : K2 P w K mg base) : FnOk P w K mg base CX0 2 f fd ["things"] (spAreInts K) := by
  refine F.ok sc_are_integers (fun vs H Q E h => ?_) (fun cdv A outer s H vs Q E hr h => ?_)
  · obtain ⟨a, ns, rfl, _⟩ := h
    rfl
  · obtain ⟨a, ns, rfl, hS, hn, q⟩ := h
    refine ⟨_, (pss_one (ps_ret (pe_callB (cr_all rfl) (by rfl) B.all (by decide +kernel) (pa_cons (pe_lc (own := [("thing", 1)]) (g := gName 1) (tt := tYes) (by rfl) sc_are_integers.nd (pi_tup (pv 0)) (blkOk_by (own := [("thing", 1)]) (N := ["things", "thing"]) (sc := defScope s_are_integers) (by decide +kernel)) (fun _ _ _ _ _ => (pg_name (i := 1) sc_are_integers.nd rfl (Or.inl rfl))) (fun _ _ _ _ _ => pts_nil) (fun _ _ _ _ _ => (pe_cal G.is_integer (hr.mono (by decide)) pass0 (pa_cons (pv 1) pa_nil)))) pa_nil)))), ?_⟩
    refine ⟨_, rfl, a, rfl, ⟨_, hS⟩, fun D hD => lc_it (walk_tup (xs := ns.map V.int)) (fun i H1 => H1 D = some (.lst ((List.replicate i true).map V.bl)) ∧ Same H H1) ⟨upd_same, sameAt (Same.refl H) hD⟩ (fun i H1 _ hv => ?_) ?_ ?_⟩
    · rcases hS with (h | ⟨o, h⟩) | h
      · exact .inl (.inl (hv.2 _ _ h))
      · exact .inl (.inr ⟨o, hv.2 _ _ h⟩)
      · exact .inr h
    · rintro i x H1 H2 hi ⟨hD1, hs⟩ ⟨rfl, hx⟩
      obtain ⟨z, rfl⟩ : ∃ z, x = V.int z := by
        rw [List.getElem?_map] at hx
        cases e : ns[i]? with
        | none => rw [e] at hx; cases hx
        | some z => rw [e] at hx; exact ⟨z, (Option.some.inj hx).symm⟩
      rw [List.length_map] at hi
      refine ⟨rfl, _, rfl, _, rfl, .inl ⟨z, rfl, _, hD1, (by rw [List.length_map, List.length_replicate]; exact small1000 (by omega)), ?_, sameAt hs hD⟩⟩
      rw [upd_same, List.replicate_succ', List.map_append]
      rfl
    · rintro H1 ⟨hD1, hs⟩
      refine ⟨D, _, rfl, SqL.of hD1, ?_⟩
      rw [List.length_map] at hD1 ⊢
      have e2 : ((List.replicate ns.length true).all id) = true := by simp
      rw [e2]
      exact q _ hs
abbrev s_is_row : Stmt := topS 15
theorem sc_is_row : FnScope ["thing"] ["thing"] (defScope s_is_row) := ⟨rfl, rfl, rfl, by decide +kernel, rfl, by decide +kernel, by decide +kernel⟩
theorem ok_is_row {f : Addr} {fd : FuncData} (F : Fun K "is_row" "is_row" s_is_row f fd) (B : Blt mg) : FnOk P w K mg base CX0 1 f fd ["thing"] (spIsRow K) := by
  refine F.ok sc_is_row (fun vs H Q E h => ?_) (fun cdv A outer s H vs Q E hr h => ?_)
  · obtain ⟨a, us, rfl, _⟩ := h
    rfl
  · obtain ⟨a, us, rfl, hS, q⟩ := h
    refine ⟨_, (pss_one (ps_ret (pe_callB call_isiT (by rfl) B.isinstance (by decide +kernel) (pa_cons (pv 0) (pa_cons (pe_tup (pa_cons (pe_bltn (v := .ty "list") (by rfl) B.list (by decide +kernel) rfl) (pa_cons (pe_bltn (v := .ty "tuple") (by rfl) B.tuple (by decide +kernel) rfl) pa_nil))) pa_nil))))), ?_⟩
    refine ⟨_, rfl, (by show 2 ≤ sizeLine; decide), fun p hp => ?_⟩
    rcases hS with hS | hS
    · refine ⟨_, p, _, .type "list", [.type "list", .type "tuple"], true, rfl, upd_same, .cons (ClsV.ty _) (.cons (ClsV.ty _) .nil), .base (.lst (by rw [upd_ne (ne_of_none hS hp)]; exact hS)), kitAny_cons (b := true) (kit_ty (by decide +kernel)) (fun z => by cases z) (fun _ => rfl), q _ (sameAt (Same.refl H) hp)⟩
    · have ty : TyX K (upd H p (.tup [.ty "list", .ty "tuple"])) (.ref a) (.type "tuple") := by
        rcases hS with (h | ⟨o, h⟩) | ⟨o, its, n, h1, h2, h3⟩
        · exact .base (.tup (by rw [upd_ne (ne_of_none h hp)]; exact h))
        · exact .fTuple (by rw [upd_ne (ne_of_none h hp)]; exact h)
        · exact .kTuple h1 h2
      refine ⟨_, p, _, .type "tuple", [.type "list", .type "tuple"], true, rfl, upd_same, .cons (ClsV.ty _) (.cons (ClsV.ty _) .nil), ty, kitAny_cons (b := false) (kit_ty (by decide +kernel)) (fun _ => kitAny_cons (b := true) (kit_ty (by decide +kernel)) (fun z => by cases z) (fun _ => rfl)) (fun z => by cases z), q _ (sameAt (Same.refl H) hp)⟩
structure K3 (P : Program) (w : World) (K : PySem.W.Frag) (mg : Str → Option Value) (base : Heap) : Prop extends K2 P w K mg base where
  are_integers : Cal P w K mg base CX0 "are_integers" 2 ["things"] (spAreInts K)
  is_row : Cal P w K mg base CX0 "is_row" 1 ["thing"] (spIsRow K)
end
end Ash

set_option Elab.async false
set_option linter.all false
set_option maxRecDepth 100000
set_option maxHeartbeats 4000000
namespace L2
open PySem PySem.Spec PyProof.Rows
/-- a walk, whatever is done in a turn -/
theorem w_it {J : It} {n : Nat} {G : Hp → Prop} {Y : Nat → Hp → V → Hp → Prop} (w : Walk J n G Y) {Nx : Hp → Prop} {Bd : V → Hp → (Hp → Prop) → Prop} {H1 : Hp} (Pv : Nat → Hp → Prop) (h0 : Pv 0 H1) (hG : ∀ i H, i ≤ n → Pv i H → G H)
    (hs : ∀ i x H H', i < n → Pv i H → Y i H x H' → Bd x H' (Pv (i + 1))) (hd : ∀ H, Pv n H → Nx H) :
    ∃ W : Nat → Nat → Hp → Prop, (∃ m, W 0 m H1) ∧ ∀ i m H, W i m H →
      (J.stop i H ∧ Nx H) ∨ (J.go i H ∧ ∃ N : Hp → Prop, (∀ H', N H' → ∃ m', m' < m ∧ W (i + 1) m' H') ∧ ∀ x H', J.yld i H x H' → Bd x H' N) := by
  refine ⟨fun i m H => m = n - i ∧ i ≤ n ∧ Pv i H, ⟨n, by simp, Nat.zero_le _, h0⟩, ?_⟩
  rintro i m H ⟨rfl, hi, p⟩
  have q := hG i H hi p
  by_cases hlt : i < n
  · refine .inr ⟨w.goes i H hlt q, Pv (i + 1), fun H' p' => ⟨n - (i + 1), by omega, rfl, hlt, p'⟩, fun x H' y => hs i x H H' hlt p (w.yields i H x H' hlt q y)⟩
  · have e : i = n := by omega
    subst e
    exact .inl ⟨w.stops H q, hd H p⟩
def tTru (K : PySem.W.Frag) (ta : TE) : TT := fun σ H Q => ta σ H fun x H' => ∃ k, TruV K x H' k ∧ Q k H'
def rTupS (K : PySem.W.Frag) : List V → Hp → VK → Prop := fun xs H Q => ∃ p ys, xs = [.ref p] ∧ ((SqL K H p ys ∧ ∀ l, H l = none → Q (.ref l) (upd H l (.tup ys))) ∨ (SqT K H p ys ∧ Q (.ref p) H))
end L2
namespace Ash
open PySem PySem.Spec PyProof.Rows L2 SrtT
open C8 (pss_cut)
/-! ### worlds -/
/-- the rows of the streams, sorted -/
def RowsW (names : List Str) (T W : Tr) : Prop := (∀ z ∈ names, (W z).Perm (T z) ∧ (W z).Pairwise fun a b => lex3 a b = true) ∧ ∀ z, z ∉ names → W z = []
/-- the world of the rows W at a -/
def WAt (CW : Addr) (H : Hp) (a : Addr) (W : Tr) : Prop := ∃ dx d t kvs ids, H a = some (.ins CW dx [("_rows", .ref d), ("_ids", .ref t)]) ∧ H d = some (.dK kvs) ∧ H t = some (.tup ids) ∧
  ∀ z, (W z).length ≤ 400 ∧ ((valV kvs (Sum.inr z : Key) = none ∧ W z = []) ∨ ∃ e ys, valV kvs (Sum.inr z : Key) = some (.ref e) ∧ H e = some (.tup ys) ∧ TrAt H ys (W z))
theorem WAt.nl {CW : Addr} {H H' : Hp} {a : Addr} {W : Tr} (h : WAt CW H a W) (n : NL H H') : WAt CW H' a W := by
  obtain ⟨dx, d, t, kvs, ids, h1, h2, h3, h4⟩ := h
  refine ⟨dx, d, t, kvs, ids, n _ _ h1 (fun _ z => nomatch z), n _ _ h2 (fun _ z => nomatch z), n _ _ h3 (fun _ z => nomatch z), fun z => ⟨(h4 z).1, (h4 z).2.imp id ?_⟩⟩
  rintro ⟨e, ys, a1, a2, a3⟩
  exact ⟨e, ys, a1, n _ _ a2 (fun _ z => nomatch z), a3.tk fun t xs q => n _ _ q (fun _ z => nomatch z)⟩
theorem WAt.same {CW : Addr} {H H' : Hp} {a : Addr} {W : Tr} (h : WAt CW H a W) (s : Same H H') : WAt CW H' a W := h.nl (nl_same s)
theorem pk_len {κ : Type} [DecidableEq κ] (c : List (κ × V)) (k : κ) (x : V) : (putK c k x).length ≤ c.length + 1 := by
  unfold putK
  split
  · rw [List.length_map]
    omega
  · rw [List.length_append]
    exact Nat.le_refl _
theorem TrAt.tri {H : Hp} {ys : List V} {ts : List T3} (h : TrAt H ys ts) : ∀ x ∈ ys, ∃ t, x = .ref t ∧ H t = some (.tup (tv (triOf H x))) := fun x hx => by
  obtain ⟨i, hi, e⟩ := List.getElem_of_mem hx
  have hx' := List.getElem?_eq_getElem hi
  rw [e] at hx'
  obtain ⟨a, h1, h2⟩ := h.2 i _ _ hx' (List.getElem?_eq_getElem (by rw [← h.1]; exact hi))
  subst h1
  exact ⟨a, rfl, by rw [triOf_at h2]; exact h2⟩
theorem TrAt.of_tri {H : Hp} {zs : List V} (h : ∀ x ∈ zs, ∃ t, x = .ref t ∧ H t = some (.tup (tv (triOf H x)))) : TrAt H zs (zs.map (triOf H)) := by
  refine ⟨by rw [List.length_map], fun i v t a b => ?_⟩
  rw [List.getElem?_map, a, Option.map_some] at b
  cases b
  obtain ⟨e, h1, h2⟩ := h v (List.mem_of_getElem? a)
  exact ⟨e, h1, h2⟩
theorem asc_of {ts : List T3} (hs : ts.Pairwise fun a b => lex3 b a = false) (hn : (ts.map (·.2.1)).Nodup) : ts.Pairwise fun a b => lex3 a b = true := by
  have hn' : ts.Pairwise fun a b => a.2.1 ≠ b.2.1 := List.pairwise_map.mp hn
  refine (hs.and hn').imp fun {a b} ⟨h1, h2⟩ => ?_
  rw [lex3_no] at h1
  rw [lex3_iff]
  omega
theorem unlock {H1 Hx : Hp} {d : Addr} {od : Obj} {u : HO} (s : Same (upd H1 d (.frz od u)) Hx) (hd : H1 d = some u) : Same H1 (upd Hx d u) := fun b o hb => by
  by_cases e : b = d
  · rw [e] at hb ⊢
    rw [hd] at hb
    rw [← hb, upd_same]
  · rw [upd_ne e]
    exact s _ _ (by rw [upd_ne e]; exact hb)
structure Cw (K : PySem.W.Frag) (mg : Str → Option Value) (CW : Addr) : Prop where
  cl : Cls K CW
  nR : NoAttr K CW "_rows"
  nI : NoAttr K CW "_ids"
  c : mg "World" = some (.ref CW)
def spAreRows (K : PySem.W.Frag) : Sp := fun vs H Q _ => ∃ (a : Addr) (ys : List V) (ts : List T3), vs = [.ref a] ∧ H a = some (.lst ys) ∧ TrAt H ys ts ∧ ts.length ≤ 400 ∧ (∀ t ∈ ts, 0 ≤ t.2.1) ∧ ∀ H', Same H H' → Q (.bl true) H'
def spTwice (K : PySem.W.Frag) : Sp := fun vs H Q _ => ∃ (a : Addr) (ns : List Int), vs = [.ref a] ∧ SqL K H a (ns.map V.int) ∧ ns.length ≤ 400 ∧ ns.Nodup ∧ Q .non H
def spIsRows : Sp := fun vs H Q _ => ∃ (d : Addr) (names : List Str) (A : Str → Addr) (T : Tr), vs = [.ref d] ∧ RwAt H d names A T ∧ names.length ≤ 100 ∧ (∀ z ∈ names, IsNm z ∧ (T z).length ≤ 400 ∧ ∀ t ∈ T z, 0 ≤ t.2.1) ∧ ∀ H', Same H H' → Q (.bl true) H'
def spWorldInit (CW : Addr) : Sp := fun vs H Q _ => ∃ (b dx d : Addr) (names : List Str) (A : Str → Addr) (T : Tr) (n : Nat), vs = [.ref b, .ref d] ∧ H b = some (.ins CW dx []) ∧ RwAt H d names A T ∧ names.length ≤ 100 ∧ names.Nodup ∧ (∀ z ∈ names, IsNm z) ∧ GoodT names T n ∧ n ≤ 400 ∧
  ∀ H' W, WAt CW H' b W → RowsW names T W → (∀ c o, H c = some o → c ≠ b → H' c = some o) → Q .non H'
def spWorldRows (CW : Addr) : Sp := fun vs H Q _ => ∃ (a : Addr) (W : Tr) (z : Str), vs = [.ref a, .str z] ∧ WAt CW H a W ∧ IsNm z ∧ ∀ (p : Addr) ys H', Same H H' → H p = none → H' p = some (.lst ys) → TrAt H' ys (W z) → Q (.ref p) H'
section
variable {P : Program} {w : World} {K : PySem.W.Frag} {mg : Str → Option Value} {base : Heap}
abbrev s_are_rows : Stmt := topS 50
theorem sc_are_rows : FnScope ["things", "thing"] ["things"] (defScope s_are_rows) := ⟨rfl, rfl, rfl, by decide +kernel, rfl, by decide +kernel, by decide +kernel⟩
theorem ok_are_rows {f : Addr} {fd : FuncData} (F : Fun K "are_rows" "are_rows" s_are_rows f fd) (B : Blt mg) (G : K3 P w K mg base) : FnOk P w K mg base CX0 3 f fd ["things"] (spAreRows K) := by
  refine F.ok sc_are_rows (fun vs H Q E h => ?_) (fun cdv A outer s H vs Q E hr h => ?_)
  · obtain ⟨a, ys, ts, rfl, _⟩ := h
    rfl
  · obtain ⟨a, ys, ts, rfl, ha, hT, hl, h0, q⟩ := h
    refine ⟨_, (pss_cons (ps_for PassesOwn.never rfl (pi_list (pv 0)) (pg_name (i := 1) sc_are_rows.nd rfl (Or.inl rfl))
      (pss_cons (ps_if (PW.pt (pw_or (pt_not (pt_val (pe_callB call_isi (by rfl) B.isinstance (by decide +kernel) (pa_cons (pv 1) (pa_cons (pe_bltn (v := .ty "tuple") (by rfl) B.tuple (by decide +kernel) rfl) pa_nil))))) (pw_or1 (pt_cmpR op_ne (pe_callB call_len_seq (by rfl) B.len (by decide +kernel) (pa_cons (pv 1) pa_nil)) pe_int (nomark _)))))
        (pss_one (ps_ret pe_bl))
        pss_nil)
      (pss_one (ps_if (PW.pt (pw_or (pt_not (pt_val (pe_cal G.are_integers (hr.mono (by decide)) pass0 (pa_cons (pv 1) pa_nil)))) (pw_or1 (pt_not (pt_val (pe_cal G.is_natural (hr.mono (by decide)) pass0 (pa_cons (pe_ix ix_tup (pv 1) pe_int (fun _ _ => rfl)) pa_nil)))))))
        (pss_one (ps_ret pe_bl))
        pss_nil))))
    (pss_one (ps_ret pe_bl))), ?_⟩
    have yl := hT.1
    refine ⟨_, rfl, a, rfl, ⟨_, SqL.of ha⟩, for_list (K := K) (a := a) (xs := ys) (fun i σ H1 => (∃ b, σ = [some (.ref a), b]) ∧ Same H H1) ⟨⟨_, rfl⟩, Same.refl H⟩ (fun i σ H1 _ hv => SqL.of (hv.2 _ _ ha)) ?_ ?_⟩
    · rintro i y σ H1 hi ⟨⟨b, rfl⟩, s1⟩
      have hil : i < ts.length := by rw [← yl]; exact (List.getElem?_eq_some_iff.mp hi).1
      obtain ⟨t, ht⟩ : ∃ t, ts[i]? = some t := ⟨_, List.getElem?_eq_getElem hil⟩
      obtain ⟨e, rfl, he⟩ := hT.2 i y t hi ht
      have he1 := s1 _ _ he
      refine ⟨_, rfl, _, _, _, _, true, rfl, ClsV.ty _, .base (.tup he1), kit_ty (by decide +kernel), _, rfl, iteF ?_⟩
      refine ⟨_, rfl, _, _, rfl, .inr (SqT.of he1), rfl, _, rfl, iteF ?_⟩
      refine ⟨_, rfl, e, [t.1, t.2.1, t.2.2], rfl, SqT.of he1, (by show 3 ≤ 100; decide), fun H2 s2 => ⟨_, rfl, iteF ?_⟩⟩
      have he2 := s2 _ _ he1
      refine ⟨_, rfl, _, _, _, _, rfl, rfl, SqT.of he2, rfl, _, rfl, .inl ⟨t.2.1, rfl, ?_⟩⟩
      rw [decide_eq_true (h0 t (List.mem_of_getElem? ht))]
      exact ⟨_, rfl, iteF ⟨⟨_, rfl⟩, s1.trans s2⟩⟩
    · rintro σ H1 ⟨⟨b, rfl⟩, s1⟩
      exact q H1 s1
abbrev s_first_twice : Stmt := topS 51
theorem sc_first_twice : FnScope ["numbers", "at"] ["numbers"] (defScope s_first_twice) := ⟨rfl, rfl, rfl, by decide +kernel, rfl, by decide +kernel, by decide +kernel⟩
theorem ok_twice {f : Addr} {fd : FuncData} (F : Fun K "first_twice" "first_twice" s_first_twice f fd) (B : Blt mg) : FnOk P w K mg base CX0 1 f fd ["numbers"] (spTwice K) := by
  refine F.ok sc_first_twice (fun vs H Q E h => ?_) (fun cdv A outer s H vs Q E hr h => ?_)
  · obtain ⟨a, ns, rfl, _⟩ := h
    rfl
  · obtain ⟨a, ns, rfl, ha, hl, hn, q⟩ := h
    refine ⟨_, (pss_cons (ps_for PassesOwn.never rfl (pi_range2 (by rfl) B.range (pa_cons pe_int (pa_cons (pe_callB call_len_seq (by rfl) B.len (by decide +kernel) (pa_cons (pv 0) pa_nil)) pa_nil))) (pg_name (i := 1) sc_first_twice.nd rfl (Or.inl rfl))
      (pss_one (ps_if (pt_cmpR op_eq (pe_ix ix_list (pv 0) (pe_op op_sub (pv 1) pe_int) (fun _ _ => rfl)) (pe_ix ix_list (pv 0) (pv 1) (fun _ _ => rfl)) (nomark _))
        (pss_one (ps_ret (pe_ix ix_list (pv 0) (pv 1) (fun _ _ => rfl))))
        pss_nil)))
    (pss_one (ps_ret pe_non))), ?_⟩
    refine ⟨_, rfl, _, _, rfl, .inl ha, _, _, rfl, (by rw [List.length_map]; omega), for_range (n := (((ns.map V.int).length : Int) - 1).toNat) (fun i σ H1 => (∃ b, σ = [some (.ref a), b]) ∧ H1 = H) ⟨⟨_, rfl⟩, rfl⟩ ?_ ?_⟩
    · rintro i σ H1 hi ⟨⟨b, rfl⟩, rfl⟩
      rw [List.length_map] at hi
      have h1 : i < ns.length := by omega
      have h2 : i + 1 < ns.length := by omega
      have e1 : atI (ns.map V.int) (1 + (i : Int) - 1) = some (V.int ns[i]) := by
        rw [show (1 : Int) + i - 1 = (i : Nat) by omega, atI_nat (by rw [List.getElem?_map, List.getElem?_eq_getElem h1]; rfl)]
      have e2 : atI (ns.map V.int) (1 + (i : Int)) = some (V.int ns[i + 1]) := by
        rw [show (1 : Int) + i = (i + 1 : Nat) by omega, atI_nat (by rw [List.getElem?_map, List.getElem?_eq_getElem h2]; rfl)]
      refine ⟨_, rfl, _, rfl, _, _, rfl, rfl, _, _, _, _, rfl, rfl, ha, e1, _, rfl, _, rfl, _, _, _, _, rfl, rfl, ha, e2, rfl, _, rfl, ?_⟩
      have ne : ns[i] ≠ ns[i + 1] := fun z => by
        have := nd_ix hn (List.getElem?_eq_getElem h1) (by rw [List.getElem?_eq_getElem h2, z])
        omega
      rw [show decide (V.int ns[i] = V.int ns[i + 1]) = false from decide_eq_false fun z => ne (V.int.inj z)]
      exact iteF ⟨⟨_, rfl⟩, rfl⟩
    · rintro σ H1 ⟨⟨b, rfl⟩, rfl⟩
      exact q
structure W1 (P : Program) (w : World) (K : PySem.W.Frag) (mg : Str → Option Value) (base : Heap) : Prop extends K3 P w K mg base where
  are_rows : Cal P w K mg base CX0 "are_rows" 3 ["things"] (spAreRows K)
  first_twice : Cal P w K mg base CX0 "first_twice" 1 ["numbers"] (spTwice K)
abbrev s_is_rows : Stmt := topS 49
theorem sc_is_rows : FnScope ["thing", "stream", "rows"] ["thing"] (defScope s_is_rows) := ⟨rfl, rfl, rfl, by decide +kernel, rfl, by decide +kernel, by decide +kernel⟩
theorem ok_is_rows {f : Addr} {fd : FuncData} (F : Fun K "is_rows" "is_rows" s_is_rows f fd) (B : Blt mg) (G : W1 P w K mg base) : FnOk P w K mg base CX0 4 f fd ["thing"] spIsRows := by
  refine F.ok sc_is_rows (fun vs H Q E h => ?_) (fun cdv A outer s H vs Q E hr h => ?_)
  · obtain ⟨d, names, A, T, rfl, _⟩ := h
    rfl
  · obtain ⟨d, names, A, T, rfl, R, nl, hz, q⟩ := h
    refine ⟨_, (pss_cons (ps_if (pt_not (pt_val (pe_callB call_isi (by rfl) B.isinstance (by decide +kernel) (pa_cons (pv 0) (pa_cons (pe_bltn (v := .ty "dict") (by rfl) B.dict (by decide +kernel) rfl) pa_nil)))))
      (pss_one (ps_ret pe_bl))
      pss_nil)
    (pss_one (ps_ret (pe_callB (cr_all rfl) (by rfl) B.all (by decide +kernel) (pa_cons (pe_lock (pe_lc (own := [("stream", 1), ("rows", 2)]) (g := gTup K 2 (gCons (gName 1) (gCons (gName 2) gNil))) (tt := tYes) (by rfl) sc_is_rows.nd (pi_items (pv 0)) (blkOk_by (own := [("stream", 1), ("rows", 2)]) (N := ["thing", "stream", "rows"]) (sc := defScope s_is_rows) (by decide +kernel)) (fun _ _ _ _ _ => (pg_tup (by rfl) (pgs_cons (pg_name (i := 1) sc_is_rows.nd rfl (Or.inl rfl)) (pgs_cons (pg_name (i := 2) sc_is_rows.nd rfl (Or.inl rfl)) pgs_nil)))) (fun _ _ _ _ _ => pts_nil) (fun _ _ _ _ _ => (pe_and (pe_cal G.is_name (hr.mono (by decide)) pass0 (pa_cons (pv 1) pa_nil)) (pe_and (pe_cal G.is_row (hr.mono (by decide)) pass0 (pa_cons (pv 2) pa_nil)) (pe_one (pe_cal G.are_rows (hr.mono (by decide)) pass0 (pa_cons (pv 2) pa_nil)))))))) pa_nil))))), ?_⟩
    have hd := R.at_
    refine ⟨_, rfl, _, _, _, _, true, rfl, ClsV.ty _, .base (.dK hd), kit_ty (by decide +kernel), _, rfl, iteF ?_⟩
    refine ⟨d, _, hd, trivial, fun od => ?_⟩
    have hDd : ∀ {D : Addr}, (upd H d (.frz od (.dK (names.map fun z => (Sum.inr z, V.ref (A z)))))) D = none → D ≠ d := fun h z => by rw [z, upd_same] at h; cases h
    refine ⟨_, rfl, d, od, _, rfl, upd_same, fun D hD => lc_it (walk_items (kvs := names.map fun z => ((Sum.inr z : Key), V.ref (A z)))) (fun i H1 => H1 D = some (.lst ((List.replicate i true).map V.bl)) ∧ Same (upd H d (.frz od (.dK (names.map fun z => (Sum.inr z, V.ref (A z)))))) H1) ⟨upd_same, sameAt (Same.refl _) hD⟩ (fun i H1 _ hv => hv.2 _ _ upd_same) ?_ ?_⟩
    · rintro i x H1 H2 hi ⟨hD1, hs⟩ ⟨T', x1, x2, rfl, hT', rfl, h1, h2⟩
      rw [List.length_map] at hi
      have hx : (names.map fun z => ((Sum.inr z : Key), V.ref (A z)))[i]? = some (Sum.inr names[i], V.ref (A names[i])) := by
        rw [List.getElem?_map, List.getElem?_eq_getElem hi]
        rfl
      simp only [hx, Option.map_some] at h1 h2
      cases h1
      cases h2
      have hm : names[i] ∈ names := List.getElem_mem hi
      generalize names[i] = z at hm
      obtain ⟨hN, hT4, hT0⟩ := hz z hm
      have hDT : D ≠ T' := fun z => by rw [← z, hD1] at hT'; cases hT'
      obtain ⟨ys, hy, hTr⟩ := R.row z hm
      have nAd : A z ≠ d := fun q => by rw [q, hd] at hy; cases hy
      have sT : Same (upd H d (.frz od (.dK (names.map fun z => (Sum.inr z, V.ref (A z)))))) (upd H1 T' (.tup [V.str z, .ref (A z)])) := hs.trans (sameAt (Same.refl H1) hT')
      have tkd : ∀ t xs, H t = some (.tup xs) → upd H d (.frz od (.dK (names.map fun z => (Sum.inr z, V.ref (A z))))) t = some (.tup xs) := fun t xs q => by rw [upd_ne (ne_of q hd (by intro z; cases z))]; exact q
      have hy1 : upd H d (.frz od (.dK (names.map fun z => (Sum.inr z, V.ref (A z))))) (A z) = some (.lst ys) := by rw [upd_ne nAd]; exact hy
      refine ⟨T', _, rfl, SqT.of upd_same, rfl, _, _, rfl, _, _, rfl, rfl, rfl, ?_⟩
      refine ⟨_, rfl, _, rfl, .inl ⟨z, rfl, (by have := hN.2.1; rw [sizeLine_eq]; omega), fun H3 s3 => ⟨_, rfl, ?_⟩⟩⟩
      rw [(nmB_iff z).mpr hN]
      refine iteT ⟨_, rfl, _, _, rfl, .inl (s3 _ _ (sT _ _ hy1)), fun H4 s4 => ⟨_, rfl, iteT ?_⟩⟩
      refine ⟨_, rfl, A z, ys, T z, rfl, s4 _ _ (s3 _ _ (sT _ _ hy1)), (((hTr.tk tkd).tk fun t xs q => sT _ _ q).tk fun t xs q => s3 _ _ q).tk (fun t xs q => s4 _ _ q), hT4, hT0, fun H5 s5 => ?_⟩
      have s15 : Same (upd H1 T' (.tup [V.str z, .ref (A z)])) H5 := (s3.trans s4).trans s5
      refine ⟨_, s15 _ _ (by rw [upd_ne hDT]; exact hD1), (by rw [List.length_map, List.length_replicate]; exact small1000 (by omega)), ?_, fun b o hb => ?_⟩
      · rw [upd_same, List.replicate_succ', List.map_append]
        rfl
      · rw [upd_ne (ne_of_none hb hD)]
        refine s15 _ _ ?_
        rw [upd_ne (ne_of_none (hs _ _ hb) hT')]
        exact hs _ _ hb
    · rintro H1 ⟨hD1, hs⟩
      refine ⟨hs _ _ upd_same, D, _, rfl, SqL.of (by rw [upd_ne (hDd hD)]; exact hD1), ?_⟩
      have e2 : ((List.replicate (names.map fun z => ((Sum.inr z : Key), V.ref (A z))).length true).all id) = true := by simp
      rw [e2]
      refine q _ fun b o hb => ?_
      by_cases e : b = d
      · rw [e, hd] at hb
        cases hb
        rw [e, upd_same]
      · rw [upd_ne e]
        exact hs _ _ (by rw [upd_ne e]; exact hb)
structure W2 (P : Program) (w : World) (K : PySem.W.Frag) (mg : Str → Option Value) (base : Heap) : Prop extends W1 P w K mg base where
  is_rows : Cal P w K mg base CX0 "is_rows" 4 ["thing"] spIsRows
abbrev s_World_init : Stmt := inClass (topS 48) 0
theorem sc_World_init : FnScope ["self", "rows", "ids", "twice", "stream", "row"] ["self", "rows"] (defScope s_World_init) := ⟨rfl, rfl, rfl, by decide +kernel, rfl, by decide +kernel, by decide +kernel⟩
theorem ok_world_init {f CW : Addr} {fd : FuncData} (F : Fun K "__init__" "World.__init__" s_World_init f fd) (B : Blt mg) (Cs : Cst mg) (T0 : Cw K mg CW) (G : W2 P w K mg base) : FnOk P w K mg base CX0 5 f fd ["self", "rows"] (spWorldInit CW) := by
  obtain ⟨t1, g_MOST_ROWS⟩ := Cs.k_MOST_ROWS
  refine F.ok sc_World_init (fun vs H Q E h => ?_) (fun cdv A outer s H vs Q E hr h => ?_)
  · obtain ⟨b, dx, d, names, A, T, n, rfl, _⟩ := h
    rfl
  · obtain ⟨b, dx, d, names, A0, T, n, rfl, hb, R, nl, nd, nm, G0, n4, q⟩ := h
    have hu := hu_of hr
    refine ⟨_, (pss_cons (ps_if (pt_not (pt_val (pe_cal G.is_rows (hr.mono (by decide)) pass0 (pa_cons (pv 1) pa_nil))))
      (pss_one ps_never)
      pss_nil)
    (pss_cons (ps_set (i := 2) sc_World_init.nd rfl (Or.inl rfl) (pe_callB cr_sortedI (by rfl) B.sorted (by decide +kernel) (pa_cons (pe_lock (pe_lc2 (own := [("stream", 4), ("row", 5)]) (vs1 := [5]) (g := gName 4) (g1 := gName 5) (tt := tYes) (tt1 := tYes) (by rfl) sc_World_init.nd (pi_keys (pv 1)) (blkOk_by (own := [("stream", 4), ("row", 5)]) (N := ["self", "rows", "ids", "twice", "stream", "row"]) (sc := defScope s_World_init) (by decide +kernel)) (by decide) (fun _ _ _ _ _ => (pg_name (i := 4) sc_World_init.nd rfl (Or.inl rfl))) (fun _ _ _ _ _ => pts_nil) (fun _ _ _ _ _ => (show PI _ _ _ (iList K _) from (pi_list (pe_dget hu (pv 1) (pv 4) (fun _ _ => rfl))))) (fun _ _ _ _ _ => (pg_name (i := 5) sc_World_init.nd rfl (Or.inl rfl))) (fun _ _ _ _ _ => pts_nil) (fun _ _ _ _ _ => (pe_ix (show IxR _ (rIxT K) from ix_tup) (pv 5) pe_int (fun _ _ => rfl))))) pa_nil)))
    (pss_cons (ps_set (i := 3) sc_World_init.nd rfl (Or.inl rfl) (pe_cal G.first_twice (hr.mono (by decide)) pass0 (pa_cons (pv 2) pa_nil)))
    (pss_cons (ps_if (pt_cmpR op_notN (pv 3) pe_non (nomark _))
      (pss_one ps_never)
      pss_nil)
    (pss_cons (ps_if (pt_cmpR op_gt (pe_callB call_len_seq (by rfl) B.len (by decide +kernel) (pa_cons (pv 2) pa_nil)) (pe_glob (v := .int 400) (by rfl) g_MOST_ROWS ⟨_, rfl⟩) (nomark _))
      (pss_one ps_never)
      pss_nil)
    (pss_cons (ps_fld (pv 0) (pe_lock (pe_dc (own := [("stream", 4)]) (g := gName 4) (by rfl) sc_World_init.nd (pi_keys (pv 1)) (blkOk_by (own := [("stream", 4)]) (N := ["self", "rows", "ids", "twice", "stream", "row"]) (sc := defScope s_World_init) (by decide +kernel)) (fun _ _ _ _ _ => (pg_name (i := 4) sc_World_init.nd rfl (Or.inl rfl))) (fun _ _ _ _ _ => pts_one (show PT _ _ (tTru K _) from pt_truth (pe_dget hu (pv 1) (pv 4) (fun _ _ => rfl)) (fun _ => rfl))) (fun _ _ _ _ _ => (pv 4)) (fun _ _ _ _ _ => (pe_callTy (show CallR _ _ (rTupS K) from call_tuple_of) (by rfl) B.tuple (by decide +kernel) (pa_cons (pe_callB (show CallR _ _ (rSorted3 K) from cr_sorted3) (by rfl) B.sorted (by decide +kernel) (pa_cons (pe_dget hu (pv 1) (pv 4) (fun _ _ => rfl)) pa_nil)) pa_nil))))) rfl)
    (pss_one (ps_fld (pv 0) (pe_callTy call_tuple_of (by rfl) B.tuple (by decide +kernel) (pa_cons (pv 2) pa_nil)) rfl)))))))), ?_⟩
    have hd := R.at_
    refine ⟨_, rfl, d, names, A0, T, rfl, R, nl, fun z hz => ⟨nm z hz, Nat.le_trans (G0.few hz) n4, fun t ht => G0.lo _ (mem_ids.mpr ⟨z, hz, t, ht, rfl⟩)⟩, fun H1 s1 => ⟨_, rfl, iteF ?_⟩⟩
    have R1 := R.same s1
    have hd1 := R1.at_
    -- in the locked heap
    have dg : ∀ {Hb od Hx}, Same (upd Hb d (.frz od (.dK (names.map fun z => (Sum.inr z, V.ref (A0 z)))))) Hx → ∀ z ∈ names, DGet Hx d (.str z) (some (.ref (A0 z))) := fun {Hb od Hx} sx z hz => by
      have this : DGet Hx d (kV (Sum.inr z)) (valV (names.map fun z => ((Sum.inr z : Key), V.ref (A0 z))) (Sum.inr z : Key)) := .inl ⟨_, Sum.inr z, .inr ⟨od, sx _ _ upd_same⟩, rfl, rfl⟩
      rw [valV_nm, if_pos hz] at this
      exact this
    have dl : ∀ {Hb u}, RwAt Hb d names A0 T → ∀ z ∈ names, ∃ ys, upd Hb d u (A0 z) = some (.lst ys) ∧ TrAt (upd Hb d u) ys (T z) := fun {Hb u} R1 z hz => by
      obtain ⟨ys, hy, hT⟩ := R1.row z hz
      have nAd : A0 z ≠ d := fun q => by rw [q, R1.at_] at hy; cases hy
      exact ⟨ys, by rw [upd_ne nAd]; exact hy, hT.tk fun t xs q => by rw [upd_ne (ne_of q R1.at_ (by intro z; cases z))]; exact q⟩
    refine ⟨d, _, hd1, trivial, fun od => ⟨_, rfl, d, od, rfl, .inl ⟨_, upd_same, fun D hD => w_it (walk_keys (kvs := names.map fun z => ((Sum.inr z : Key), V.ref (A0 z)))) (fun i Hx => Hx D = some (.lst ((idsOf (names.take i) T).map V.int)) ∧ Same (upd H1 d (.frz od (.dK (names.map fun z => (Sum.inr z, V.ref (A0 z)))))) Hx) ⟨upd_same, sameAt (Same.refl _) hD⟩ (fun i Hx _ hv => hv.2 _ _ upd_same) ?_ ?_⟩⟩⟩
    · rintro i x Hx Hy hi ⟨hDx, sx⟩ ⟨rfl, k, v, hkv, rfl⟩
      rw [List.length_map] at hi
      rw [List.getElem?_map, List.getElem?_eq_getElem hi, Option.map_some] at hkv
      cases hkv
      have hm : names[i] ∈ names := List.getElem_mem hi
      have tk1 : names.take (i + 1) = names.take i ++ [names[i]] := list_take (List.getElem?_eq_getElem hi)
      generalize names[i] = z at hm tk1
      have hg := dg sx z hm
      obtain ⟨ys, hy, hT⟩ := dl (u := .frz od (.dK (names.map fun z => (Sum.inr z, V.ref (A0 z))))) R1 z hm
      have e1 : idsOf (names.take (i + 1)) T = idsOf (names.take i) T ++ (T z).map (·.2.1) := by
        rw [tk1]
        unfold idsOf
        rw [List.flatMap_append]
        simp
      have fewI : (idsOf (names.take (i + 1)) T).length ≤ 400 := by
        have sl : (idsOf (names.take (i + 1)) T).Sublist (idsOf names T) := by
          have e : idsOf names T = idsOf (names.take (i + 1)) T ++ idsOf (names.drop (i + 1)) T := by
            show names.flatMap _ = _
            unfold idsOf
            rw [← List.flatMap_append, List.take_append_drop]
          rw [e]
          exact List.sublist_append_left _ _
        exact Nat.le_trans sl.length_le (by rw [G0.len]; exact n4)
      refine ⟨rfl, _, rfl, _, rfl, d, _, rfl, hg, A0 z, rfl, ⟨_, SqL.of (sx _ _ hy)⟩, w_it (walk_list (xs := ys)) (fun j Hz => Hz D = some (.lst ((idsOf (names.take i) T ++ ((T z).take j).map (·.2.1)).map V.int)) ∧ Same (upd H1 d (.frz od (.dK (names.map fun z => (Sum.inr z, V.ref (A0 z)))))) Hz) ?_ (fun j Hz _ hv => SqL.of (hv.2 _ _ hy)) ?_ ?_⟩
      · refine ⟨?_, sx⟩
        rw [hDx]
        simp
      · rintro j x Hz Hw hj ⟨hDz, sz⟩ ⟨rfl, hxj⟩
        have hj2 : j < (T z).length := by rw [← hT.1]; exact hj
        obtain ⟨t, ht⟩ : ∃ t, (T z)[j]? = some t := ⟨_, List.getElem?_eq_getElem hj2⟩
        obtain ⟨e, rfl, he⟩ := hT.2 j x t hxj ht
        have he1 := sz _ _ he
        refine ⟨rfl, _, rfl, _, _, _, _, rfl, rfl, SqT.of he1, rfl, _, hDz, ?_, ?_, sameAt sz hD⟩
        · refine small1000 ?_
          rw [e1] at fewI
          rw [List.length_append, List.length_map] at fewI
          rw [List.length_map, List.length_append, List.length_map, List.length_take]
          omega
        · rw [upd_same, list_take ht, List.map_append, List.map_append (l₁ := (T z).take j), List.map_append, List.map_append, List.append_assoc]
          rfl
      · rintro Hz ⟨hDz, sz⟩
        refine ⟨?_, sz⟩
        rw [e1, hDz, hT.1, List.take_length]
    · rintro Hx ⟨hDx, sx⟩
      rw [List.length_map, List.take_length] at hDx
      have Dd : D ≠ d := fun z => by rw [z, upd_same] at hD; cases hD
      have s2 := unlock sx hd1
      have il : (idsOf names T).length ≤ 400 := by rw [G0.len]; exact n4
      refine ⟨sx _ _ upd_same, D, idsOf names T, rfl, SqL.of (by rw [upd_ne Dd]; exact hDx), fun ns' p hperm hsort hp => ?_⟩
      have s3 := s2.trans (sameAt (Same.refl _) hp (o := .lst (ns'.map V.int)))
      have nl' : ns'.length ≤ 400 := by rw [hperm.length_eq]; exact il
      refine ⟨_, rfl, p, ns', rfl, SqL.of upd_same, nl', hperm.symm.nodup G0.nd, ?_⟩
      refine ⟨_, rfl, rfl, _, rfl, iteF ?_⟩
      have d4 : decide ((400 : Int) < ((ns'.map V.int).length : Int)) = false := decide_eq_false (by rw [List.length_map]; omega)
      refine ⟨_, rfl, _, _, rfl, .inl (SqL.of upd_same), _, _, rfl, rfl, _, rfl, ?_⟩
      rw [d4]
      refine iteF ?_
      have hp3 : (upd (upd Hx d (.dK (names.map fun z => (Sum.inr z, V.ref (A0 z))))) p (.lst (ns'.map V.int))) p = some (.lst (ns'.map V.int)) := upd_same
      generalize upd (upd Hx d (.dK (names.map fun z => (Sum.inr z, V.ref (A0 z))))) p (.lst (ns'.map V.int)) = H3 at s3 hp3 ⊢
      have R3 := R1.same s3
      refine ⟨d, _, R3.at_, trivial, fun od2 => ⟨_, rfl, d, od2, rfl, .inl ⟨_, upd_same, fun D2 hD2 => dc_it (walk_keys (kvs := names.map fun z => ((Sum.inr z : Key), V.ref (A0 z)))) (fun i Hy => ∃ kvs, Hy D2 = some (.dK kvs) ∧ kvs.length ≤ i ∧ Same (upd H3 d (.frz od2 (.dK (names.map fun z => (Sum.inr z, V.ref (A0 z)))))) Hy ∧
        ∀ z, (z ∉ names.take i → valV kvs (Sum.inr z : Key) = none) ∧ (z ∈ names.take i → (valV kvs (Sum.inr z : Key) = none ∧ T z = []) ∨ ∃ e ys ws, valV kvs (Sum.inr z : Key) = some (.ref e) ∧ Hy e = some (.tup ys) ∧ TrAt Hy ys ws ∧ ws.Perm (T z) ∧ ws.Pairwise fun a b => lex3 a b = true)) ?_ (fun i Hy _ hv => by
          obtain ⟨kvs, _, _, sx, _⟩ := hv
          exact sx _ _ upd_same) ?_ ?_⟩⟩⟩
      · exact ⟨[], upd_same, Nat.le_refl _, sameAt (Same.refl _) hD2, fun z => ⟨fun _ => rfl, fun h => nomatch h⟩⟩
      · rintro i x Hy Hz hi ⟨kvs, hDy, hl, sx, hv⟩ ⟨rfl, k, v, hkv, rfl⟩
        rw [List.length_map] at hi
        rw [List.getElem?_map, List.getElem?_eq_getElem hi, Option.map_some] at hkv
        cases hkv
        have hm : names[i] ∈ names := List.getElem_mem hi
        have tk1 : names.take (i + 1) = names.take i ++ [names[i]] := list_take (List.getElem?_eq_getElem hi)
        have hnt : names[i] ∉ names.take i := fun hm => by
          obtain ⟨j, hj, e⟩ := List.getElem_of_mem hm
          rw [List.length_take] at hj
          rw [List.getElem_take] at e
          have := nd_ix nd (List.getElem?_eq_some_iff.mpr ⟨by omega, e⟩) (List.getElem?_eq_getElem hi)
          omega
        generalize names[i] = z at hm tk1 hnt
        have hg := dg sx z hm
        obtain ⟨ys, hy, hT⟩ := dl (u := .frz od2 (.dK (names.map fun z => (Sum.inr z, V.ref (A0 z))))) R3 z hm
        refine ⟨rfl, _, rfl, _, rfl, d, _, rfl, hg, _, .inl ⟨ys, SqL.of (sx _ _ hy), rfl⟩, ?_⟩
        cases ys with
        | nil =>
          refine ⟨kvs, hDy, by omega, sx, fun y => ?_⟩
          have T0 : T z = [] := List.length_eq_zero_iff.mp hT.1.symm
          rw [tk1]
          refine ⟨fun h => (hv y).1 fun q => h (List.mem_append_left _ q), fun h => ?_⟩
          rcases List.mem_append.mp h with h | h
          · exact (hv y).2 h
          · rw [List.mem_singleton.mp h]
            exact .inl ⟨(hv z).1 hnt, T0⟩
        | cons y0 yr =>
          refine iteT ⟨_, rfl, _, rfl, _, rfl, d, _, rfl, hg, A0 z, y0 :: yr, triOf Hz, rfl, SqL.of (sx _ _ hy), (hT.tk fun t xs q => sx _ _ q).tri, fun zs p2 hsrt hpm hp2 => ⟨p2, zs, rfl, .inl ⟨SqL.of upd_same, fun l hl => ?_⟩⟩⟩
          have hT' := hT.tk fun t xs q => sx _ _ q
          have p2D : p2 ≠ D2 := fun q => by rw [q, hDy] at hp2; cases hp2
          have hl0 : Hz l = none := none_of (sameAt (Same.refl Hz) hp2) hl
          have lD : l ≠ D2 := fun q => by rw [q, hDy] at hl0; cases hl0
          have lp : l ≠ p2 := fun q => by rw [q, upd_same] at hl; cases hl
          have sF : ∀ {u}, Same (upd H3 d (.frz od2 (.dK (names.map fun z => (Sum.inr z, V.ref (A0 z)))))) (upd (upd (upd Hz p2 (.lst zs)) l (.tup zs)) D2 u) := fun {u} => sameAt ((sx.trans (sameAt (Same.refl _) hp2)).trans (sameAt (Same.refl _) hl)) hD2
          have tkF : ∀ {u} t xs, Hz t = some (.tup xs) → (upd (upd (upd Hz p2 (.lst zs)) l (.tup zs)) D2 u) t = some (.tup xs) := fun {u} t xs q => by
            rw [upd_ne (ne_of q hDy (by intro z; cases z)), upd_ne (ne_of_none q hl0), upd_ne (ne_of_none q hp2)]
            exact q
          refine ⟨kvs, Sum.inr z, rfl, by rw [upd_ne (Ne.symm lD), upd_ne (Ne.symm p2D)]; exact hDy, small1000 (by omega), _, upd_same, Nat.le_trans (pk_len _ _ _) (by omega), sF, fun y => ?_⟩
          rw [tk1, valV_put]
          refine ⟨fun h => ?_, fun h => ?_⟩
          · rw [if_neg (fun q => h (by rw [Sum.inr.inj q]; simp))]
            exact (hv y).1 fun q => h (List.mem_append_left _ q)
          · by_cases ez : y = z
            · subst ez
              rw [if_pos rfl]
              have tz : TrAt Hz zs (zs.map (triOf Hz)) := TrAt.of_tri fun x hx => hT'.tri x (hpm.mem_iff.mp hx)
              have pz : (zs.map (triOf Hz)).Perm (T y) := by
                have := hpm.map (triOf Hz)
                rw [hT'.map] at this
                exact this
              refine .inr ⟨l, zs, zs.map (triOf Hz), rfl, by rw [upd_ne lD, upd_same], tz.tk tkF, pz, asc_of (List.pairwise_map.mpr hsrt) ((pz.map (·.2.1)).symm.nodup (G0.apart hm))⟩
            · rw [if_neg (fun q => ez (Sum.inr.inj q))]
              rcases List.mem_append.mp h with h | h
              · rcases (hv y).2 h with h1 | ⟨e, ys', ws, g1, g2, g3, g4⟩
                · exact .inl h1
                · exact .inr ⟨e, ys', ws, g1, tkF _ _ g2, g3.tk tkF, g4⟩
              · exact absurd (List.mem_singleton.mp h) ez
      · rintro Hy ⟨kvs, hDy, hl, sx, hv⟩
        rw [List.length_map, List.take_length] at hv
        have s5 := unlock sx R3.at_
        have hdy := sx _ _ upd_same
        have hb3 := s3 _ _ (s1 _ _ hb)
        have hbF := s5 _ _ hb3
        have hpF := s5 _ _ hp3
        have pb : p ≠ b := ne_of hp3 hb3 (by intro z; cases z)
        have bd : b ≠ d := fun q => by rw [q] at hb3; rw [R3.at_] at hb3; cases hb3
        have hbY : Hy b = some (.ins CW dx []) := by rw [upd_ne bd] at hbF; exact hbF
        have D2b : D2 ≠ b := fun q => by rw [q, hbY] at hDy; cases hDy
        have D2d : D2 ≠ d := fun q => by rw [q, hdy] at hDy; cases hDy
        refine ⟨hdy, _, rfl, b, CW, dx, [], rfl, hbF, T0.cl, T0.nR, (by show 0 < 1000; decide), ?_⟩
        refine ⟨_, rfl, p, _, rfl, .inl ⟨SqL.of (by rw [upd_ne pb]; exact hpF), fun t ht => ?_⟩⟩
        have tb : t ≠ b := fun q => by rw [q, upd_same] at ht; cases ht
        have ht0 : upd Hy d (.dK (names.map fun z => (Sum.inr z, V.ref (A0 z)))) t = none := by rw [upd_ne tb] at ht; exact ht
        have td : t ≠ d := fun q => by rw [q, upd_same] at ht0; cases ht0
        have htY : Hy t = none := by rw [upd_ne td] at ht0; exact ht0
        refine ⟨_, rfl, b, CW, dx, _, rfl, by rw [upd_ne (Ne.symm tb), upd_same], T0.cl, T0.nI, (by show 1 < 1000; decide), ?_⟩
        have ex : ∀ z, ∃ ws : List T3, (z ∈ names → ws.Perm (T z) ∧ ws.Pairwise fun a b => lex3 a b = true) ∧ (z ∉ names → ws = []) ∧ ws.length ≤ 400 ∧ ((valV kvs (Sum.inr z : Key) = none ∧ ws = []) ∨ ∃ e ys, valV kvs (Sum.inr z : Key) = some (.ref e) ∧ Hy e = some (.tup ys) ∧ TrAt Hy ys ws) := fun z => by
          by_cases hz : z ∈ names
          · rcases (hv z).2 hz with ⟨h1, h2⟩ | ⟨e, ys, ws, g1, g2, g3, g4, g5⟩
            · exact ⟨[], fun _ => ⟨by rw [h2], List.Pairwise.nil⟩, fun _ => rfl, by simp, .inl ⟨h1, rfl⟩⟩
            · exact ⟨ws, fun _ => ⟨g4, g5⟩, fun h => absurd hz h, by rw [g4.length_eq]; exact Nat.le_trans (G0.few hz) n4, .inr ⟨e, ys, g1, g2, g3⟩⟩
          · exact ⟨[], fun h => absurd h hz, fun _ => rfl, by simp, .inl ⟨(hv z).1 hz, rfl⟩⟩
        obtain ⟨W, hW⟩ := Classical.axiomOfChoice ex
        have kp : ∀ {u1 u2 u3} c o, Hy c = some o → c ≠ b → c ≠ d → upd (upd (upd (upd Hy d u1) b u2) t u3) b (.ins CW dx (putF "_ids" (.ref t) [("_rows", .ref D2)])) c = some o := fun {u1 u2 u3} c o hc n1 n2 => by
          rw [upd_ne n1, upd_ne (ne_of_none hc htY), upd_ne n1, upd_ne n2]
          exact hc
        refine q _ W ⟨dx, D2, t, kvs, _, upd_same, kp _ _ hDy D2b D2d, by rw [upd_ne tb, upd_same], fun z => ⟨(hW z).2.2.1, ?_⟩⟩ ⟨fun z hz => (hW z).1 hz, fun z hz => (hW z).2.1 hz⟩ fun c o hc hn => ?_
        · have tkF : ∀ {u1 u2 u3} t' xs, Hy t' = some (.tup xs) → upd (upd (upd (upd Hy d u1) b u2) t u3) b (.ins CW dx (putF "_ids" (.ref t) [("_rows", .ref D2)])) t' = some (.tup xs) := fun {u1 u2 u3} t' xs q => kp _ _ q (ne_of q hbY (by intro z; cases z)) (ne_of q hdy (by intro z; cases z))
          rcases (hW z).2.2.2 with h | ⟨e, ys, g1, g2, g3⟩
          · exact .inl h
          · exact .inr ⟨e, ys, g1, tkF _ _ g2, g3.tk tkF⟩
        · have hc5 := s5 _ _ (s3 _ _ (s1 _ _ hc))
          rw [upd_ne hn, upd_ne (ne_of_none hc5 ht0), upd_ne hn]
          exact hc5
abbrev s_World_rows : Stmt := inClass (topS 48) 3
theorem sc_World_rows : FnScope ["self", "stream"] ["self", "stream"] (defScope s_World_rows) := ⟨rfl, rfl, rfl, by decide +kernel, rfl, by decide +kernel, by decide +kernel⟩
theorem ok_world_rows {f CW : Addr} {fd : FuncData} (F : Fun K "rows" "World.rows" s_World_rows f fd) (B : Blt mg) (T0 : Cw K mg CW) (G : K2 P w K mg base) : FnOk P w K mg base CX0 2 f fd ["self", "stream"] (spWorldRows CW) := by
  refine F.ok sc_World_rows (fun vs H Q E h => ?_) (fun cdv A outer s H vs Q E hr h => ?_)
  · obtain ⟨a, W, z, rfl, _⟩ := h
    rfl
  · obtain ⟨a, W, z, rfl, hW, hz, q⟩ := h
    have hu := hu_of hr
    refine ⟨_, (pss_cons (ps_if (pt_not (pt_val (pe_cal G.is_name (hr.mono (by decide)) pass0 (pa_cons (pv 1) pa_nil))))
      (pss_one ps_never)
      pss_nil)
    (pss_one (ps_ret (pe_callTy call_list_of (by rfl) B.list (by decide +kernel) (pa_cons (pe_dget2 hu (pe_fld (pv 0) rfl) (pv 1) (pe_tup pa_nil) ⟨rfl, rfl, rfl, rfl⟩) pa_nil))))), ?_⟩
    obtain ⟨dx, d, t, kvs, ids, h1, h2, h3, h4⟩ := id hW
    refine ⟨_, rfl, _, rfl, .inl ⟨z, rfl, (by have := hz.2.1; rw [sizeLine_eq]; omega), fun H1 s1 => ⟨_, rfl, ?_⟩⟩⟩
    rw [(nmB_iff z).mpr hz]
    refine iteF ?_
    refine ⟨_, rfl, a, CW, dx, _, _, rfl, s1 _ _ h1, T0.cl, T0.nR, rfl, d, rfl, .inl ⟨_, .inl (s1 _ _ h2)⟩, _, rfl, (by show 0 ≤ sizeLine; decide), fun e he => ⟨_, DGet.k (k := Sum.inr z) (sameAt (Same.refl H1) he _ _ (s1 _ _ h2)), ?_⟩⟩
    have s2 : Same H (upd H1 e (.tup [])) := s1.trans (sameAt (Same.refl H1) he)
    rcases (h4 z).2 with ⟨hv, hw⟩ | ⟨t', ys, hv, ht, hT⟩
    · rw [hv]
      refine ⟨e, [], rfl, .inr (SqT.of upd_same), fun l hl => ?_⟩
      refine q l [] _ (s2.trans (sameAt (Same.refl _) hl)) (none_of s2 hl) upd_same ?_
      rw [hw]
      exact ⟨rfl, fun i v t a b => by simp at a⟩
    · rw [hv]
      refine ⟨t', ys, rfl, .inr (SqT.of (s2 _ _ ht)), fun l hl => ?_⟩
      exact q l ys _ (s2.trans (sameAt (Same.refl _) hl)) (none_of s2 hl) upd_same (hT.tk fun t xs q => sameAt (Same.refl _) hl _ _ (s2 _ _ q))
end
end Ash

set_option Elab.async false
set_option linter.all false
set_option maxRecDepth 100000
set_option maxHeartbeats 4000000
namespace Ash
open PySem PySem.Spec PyProof.Rows L2
open C8 (pss_cut)
/-! ### terms: classes, sizes -/
abbrev ATTRS : List Str := ["stream", "term", "first", "second", "amount", "spelling", "depth", "parts", "looks", "choices"]
/-- the facts of the classes of terms -/
structure TF (K : PySem.W.Frag) (mg : Str → Option Value) (C : TC) : Prop where
  cl : ∀ a, C.Is a → Cls K a
  no : ∀ a, C.Is a → ∀ f ∈ ATTRS, NoAttr K a f
  ty : ∀ a, C.Is a → PySem.W.findIn K (.ref a) "__class__" = some (some (.builtin "object.__class__")) ∧ PySem.W.specialIn K (.builtin "object.__class__") "__get__" = some (some (.builtin "getset_descriptor.__get__")) ∧ PySem.W.takesIn K (.builtin "object.__class__") = some true ∧ PySem.W.mroIn K a (.type "object") = some true
  one : ∀ a b, C.Is a → C.Is b → PySem.W.kitOne K (.ref a) (.ref b) = some (decide (a = b))
  Now : mg "Now" = some (.ref C.now)
  Last : mg "Last" = some (.ref C.last)
  Next : mg "Next" = some (.ref C.next)
  Shift : mg "Shift" = some (.ref C.shift)
  Either : mg "Either" = some (.ref C.either)
  Later : mg "Later" = some (.ref C.later)
  Earlier : mg "Earlier" = some (.ref C.earlier)
theorem TF.tyx {K : PySem.W.Frag} {mg : Str → Option Value} {C : TC} (T : TF K mg C) {H : Hp} {a : Addr} {t : Tm} (h : TmAt C H a t) : TyX K H (.ref a) (.ref (C.of t)) := by
  obtain ⟨dx, fs, sp, i⟩ := h.in_
  obtain ⟨h1, h2, h3, h4⟩ := T.ty _ (C.is_of t)
  exact .base (.ins i.at_ (T.cl _ (C.is_of t)) h1 h2 h3 h4)
theorem TmAt.off {C : TC} {H H' : Hp} {b D dx : Addr} (hb : H b = some (.ins D dx [])) (k : ∀ c o, H c = some o → c ≠ b → H' c = some o) : ∀ {t : Tm} {a : Addr}, TmAt C H a t → TmAt C H' a t
  | .now, a, ⟨dx, sp, h1, h2⟩ => ⟨dx, sp, k _ _ h1 (ne_of h1 hb (by intro z; cases z)), k _ _ h2 (ne_of h2 hb (by intro z; cases z))⟩
  | .last s t, a, ⟨dx, c, sp, h1, h2, h3⟩ => ⟨dx, c, sp, k _ _ h1 (ne_of h1 hb (by intro z; cases z)), k _ _ h2 (ne_of h2 hb (by intro z; cases z)), TmAt.off hb k h3⟩
  | .next s t, a, ⟨dx, c, sp, h1, h2, h3⟩ => ⟨dx, c, sp, k _ _ h1 (ne_of h1 hb (by intro z; cases z)), k _ _ h2 (ne_of h2 hb (by intro z; cases z)), TmAt.off hb k h3⟩
  | .shift s t, a, ⟨dx, c, sp, h1, h2, h3⟩ => ⟨dx, c, sp, k _ _ h1 (ne_of h1 hb (by intro z; cases z)), k _ _ h2 (ne_of h2 hb (by intro z; cases z)), TmAt.off hb k h3⟩
  | .either s t, a, ⟨dx, c, d, sp, h1, h2, h3, h4⟩ => ⟨dx, c, d, sp, k _ _ h1 (ne_of h1 hb (by intro z; cases z)), k _ _ h2 (ne_of h2 hb (by intro z; cases z)), TmAt.off hb k h3, TmAt.off hb k h4⟩
  | .later s t, a, ⟨dx, c, d, sp, h1, h2, h3, h4⟩ => ⟨dx, c, d, sp, k _ _ h1 (ne_of h1 hb (by intro z; cases z)), k _ _ h2 (ne_of h2 hb (by intro z; cases z)), TmAt.off hb k h3, TmAt.off hb k h4⟩
  | .earlier s t, a, ⟨dx, c, d, sp, h1, h2, h3, h4⟩ => ⟨dx, c, d, sp, k _ _ h1 (ne_of h1 hb (by intro z; cases z)), k _ _ h2 (ne_of h2 hb (by intro z; cases z)), TmAt.off hb k h3, TmAt.off hb k h4⟩
def Tm.isLook : Tm → Bool
  | .last _ _ => true
  | .next _ _ => true
  | _ => false
theorem tyx_same {K : PySem.W.Frag} {H H' : Hp} {v : V} {t : Value} (h : TyX K H v t) (s : Same H H') : TyX K H' v t := by
  cases h with
  | base b =>
    refine .base ?_
    cases b with
    | non => exact .non
    | bl x => exact .bl x
    | int x => exact .int x
    | str x => exact .str x
    | flt x => exact .flt x
    | lst e => exact .lst (s _ _ e)
    | frz e => exact .frz (s _ _ e)
    | tup e => exact .tup (s _ _ e)
    | dK e => exact .dK (s _ _ e)
    | dT e => exact .dT (s _ _ e)
    | ins e c a b d f => exact .ins (s _ _ e) c a b d f
  | byt b => exact .byt b
  | set e => exact .set (s _ _ e)
  | kList e c => exact .kList e c
  | kTuple e c => exact .kTuple e c
  | kDict e c => exact .kDict e c
  | fTuple e => exact .fTuple (s _ _ e)
  | fDict e => exact .fDict (s _ _ e)
/-- the classes are apart -/
structure TD (C : TC) : Prop where
  nd : [C.now, C.last, C.next, C.shift, C.either, C.later, C.earlier].Nodup
theorem TD.look {C : TC} (D : TD C) (t : Tm) : decide (C.of t ∈ [C.last, C.next]) = t.isLook := by
  have h := D.nd
  simp only [List.nodup_cons, List.mem_cons, List.not_mem_nil, or_false, not_or] at h
  obtain ⟨⟨a1, a2, a3, a4, a5, a6⟩, ⟨b1, b2, b3, b4, b5⟩, ⟨c1, c2, c3, c4⟩, _⟩ := h
  cases t <;> simp [TC.of, Tm.isLook, a1, a2, Ne.symm b2, Ne.symm b3, Ne.symm b4, Ne.symm b5, Ne.symm c1, Ne.symm c2, Ne.symm c3, Ne.symm c4, Ne.symm b1]
/-- no term -/
def NotTm (K : PySem.W.Frag) (C : TC) (H : Hp) (v : V) : Prop := ∃ t, TyX K H v t ∧ ∀ a, C.Is a → PySem.W.kitOne K t (.ref a) = some false
def spIsTerm (K : PySem.W.Frag) (C : TC) : Sp := fun vs H Q _ => ∃ v, vs = [v] ∧ ((∃ a t, v = .ref a ∧ TmAt C H a t ∧ ∀ H', Same H H' → Q (.bl true) H') ∨ (NotTm K C H v ∧ ∀ H', Same H H' → Q (.bl false) H'))
def spIsLook (C : TC) : Sp := fun vs H Q _ => ∃ a t, vs = [.ref a] ∧ TmAt C H a t ∧ ∀ H', Same H H' → Q (.bl t.isLook) H'
def spCStream : Sp := fun vs H Q _ => ∃ z, vs = [.str z] ∧ IsNm z ∧ ∀ H', Same H H' → Q (.str z) H'
def spCTerm (C : TC) : Sp := fun vs H Q _ => ∃ a t, vs = [.ref a] ∧ TmAt C H a t ∧ ∀ H', Same H H' → Q (.ref a) H'
def szD (ts : List Tm) : Int := 1 + mxD (ts.map Tm.dep) 0
def szP (ts : List Tm) : Int := 1 + (ts.map Tm.par).sum
def szL (ts : List Tm) : Int := (ts.map Tm.lok).sum
def szC (ts : List Tm) : Int := (ts.map Tm.cho).sum
def spSizes (C : TC) : Sp := fun vs H Q _ => ∃ (tp : Addr) (as : List Addr) (ts : List Tm) (l0 c0 : Int), vs = [.ref tp, .int l0, .int c0] ∧ H tp = some (.tup (as.map V.ref)) ∧ as.length = ts.length ∧ as.length ≤ 2 ∧ (∀ (i : Nat) a t, as[i]? = some a → ts[i]? = some t → TmAt C H a t) ∧
  szD ts ≤ 12 ∧ szP ts ≤ 40 ∧ l0 + szL ts ≤ 12 ∧ ∀ (q : Addr) H', Same H H' → H q = none → H' q = some (.tup [.int (szD ts), .int (szP ts), .int (l0 + szL ts), .int (c0 + szC ts)]) → Q (.ref q) H'
/-- one more attribute -/
def Keep (b : Addr) (H H' : Hp) : Prop := ∀ c o, H c = some o → c ≠ b → H' c = some o
def spInit0 (C : TC) : Sp := fun vs H Q _ => ∃ (b dx : Addr), vs = [.ref b] ∧ H b = some (.ins C.now dx []) ∧ ∀ H', TmAt C H' b .now → Keep b H H' → Q .non H'
def spInitL (C : TC) (D : Addr) (mk : Str → Tm → Tm) : Sp := fun vs H Q _ => ∃ (b dx a : Addr) (z : Str) (t : Tm), vs = [.ref b, .str z, .ref a] ∧ H b = some (.ins D dx []) ∧ IsNm z ∧ TmAt C H a t ∧ (mk z t).Fit ∧ ∀ H', TmAt C H' b (mk z t) → Keep b H H' → Q .non H'
def spInitS (C : TC) : Sp := fun vs H Q _ => ∃ (b dx a : Addr) (n : Int) (t : Tm), vs = [.ref b, .ref a, .int n] ∧ H b = some (.ins C.shift dx []) ∧ TmAt C H a t ∧ (Tm.shift n t).Fit ∧ ∀ H', TmAt C H' b (.shift n t) → Keep b H H' → Q .non H'
def spInitP (C : TC) (D : Addr) (mk : Tm → Tm → Tm) : Sp := fun vs H Q _ => ∃ (b dx a c : Addr) (t u : Tm), vs = [.ref b, .ref a, .ref c] ∧ H b = some (.ins D dx []) ∧ TmAt C H a t ∧ TmAt C H c u ∧ (mk t u).Fit ∧ ∀ H', TmAt C H' b (mk t u) → Keep b H H' → Q .non H'
section
variable {P : Program} {w : World} {K : PySem.W.Frag} {mg : Str → Option Value} {base : Heap} {C : TC}
theorem TF.any (T : TF K mg C) {a : Addr} (ha : C.Is a) : ∀ {bs : List Addr}, (∀ b ∈ bs, C.Is b) → PySem.W.kitAny K (.ref a) (bs.map Value.ref) = some (decide (a ∈ bs))
  | [], _ => rfl
  | b :: r, h => by
    have ih := T.any ha (bs := r) fun b hb => h b (List.mem_cons_of_mem _ hb)
    refine kitAny_cons (b := decide (a = b)) (T.one a b ha (h b List.mem_cons_self)) (fun e => ?_) (fun e => ?_)
    · rw [ih]
      have : ¬ a = b := of_decide_eq_false e
      simp [this]
    · have : a = b := of_decide_eq_true e
      simp [this]
abbrev s_is_term : Stmt := topS 29
theorem sc_is_term : FnScope ["thing"] ["thing"] (defScope s_is_term) := ⟨rfl, rfl, rfl, by decide +kernel, rfl, by decide +kernel, by decide +kernel⟩
theorem ok_is_term {f : Addr} {fd : FuncData} (F : Fun K "is_term" "is_term" s_is_term f fd) (B : Blt mg) (T : TF K mg C) : FnOk P w K mg base CX0 1 f fd ["thing"] (spIsTerm K C) := by
  obtain ⟨t_cl, t_no, t_ty, t_one, c_Now, c_Last, c_Next, c_Shift, c_Either, c_Later, c_Earlier⟩ := id T
  refine F.ok sc_is_term (fun vs H Q E h => ?_) (fun cdv A outer s H vs Q E hr h => ?_)
  · obtain ⟨v, rfl, _⟩ := h
    rfl
  · obtain ⟨v, rfl, hv⟩ := h
    refine ⟨_, (pss_one (ps_ret (pe_callB call_isiT (by rfl) B.isinstance (by decide +kernel) (pa_cons (pv 0) (pa_cons (pe_tup (pa_cons (pe_glob (v := .ref C.now) (by rfl) c_Now rfl) (pa_cons (pe_glob (v := .ref C.last) (by rfl) c_Last rfl) (pa_cons (pe_glob (v := .ref C.next) (by rfl) c_Next rfl) (pa_cons (pe_glob (v := .ref C.shift) (by rfl) c_Shift rfl) (pa_cons (pe_glob (v := .ref C.either) (by rfl) c_Either rfl) (pa_cons (pe_glob (v := .ref C.later) (by rfl) c_Later rfl) (pa_cons (pe_glob (v := .ref C.earlier) (by rfl) c_Earlier rfl) pa_nil)))))))) pa_nil))))), ?_⟩
    refine ⟨_, rfl, (by show 7 ≤ sizeLine; decide), fun p hp => ?_⟩
    have s1 : ∀ {o}, Same H (upd H p o) := fun {o} => sameAt (Same.refl H) hp
    have cs : ∀ b ∈ [C.now, C.last, C.next, C.shift, C.either, C.later, C.earlier], C.Is b := fun b hb => by
      simp only [List.mem_cons, List.not_mem_nil, or_false] at hb
      exact hb
    rcases hv with ⟨a, t, rfl, h, q⟩ | ⟨⟨t, h, hn⟩, q⟩
    · have k := T.any (C.is_of t) cs
      have e : decide (C.of t ∈ [C.now, C.last, C.next, C.shift, C.either, C.later, C.earlier]) = true := by
        have := C.is_of t
        simp only [List.mem_cons, List.not_mem_nil, or_false, decide_eq_true_eq]
        exact this
      rw [e] at k
      exact ⟨_, p, _, _, _, true, rfl, upd_same, .cons (.own _) (.cons (.own _) (.cons (.own _) (.cons (.own _) (.cons (.own _) (.cons (.own _) (.cons (.own _) .nil)))))), T.tyx (h.same s1), k, q _ s1⟩
    · have k : PySem.W.kitAny K t ([C.now, C.last, C.next, C.shift, C.either, C.later, C.earlier].map Value.ref) = some false := by
        have : ∀ bs : List Addr, (∀ b ∈ bs, C.Is b) → PySem.W.kitAny K t (bs.map Value.ref) = some false := fun bs => by
          induction bs with
          | nil => exact fun _ => rfl
          | cons b r ih => exact fun hb => kitAny_cons (hn b (hb b List.mem_cons_self)) (fun _ => ih fun b hb' => hb b (List.mem_cons_of_mem _ hb')) (fun z => nomatch z)
        exact this _ cs
      exact ⟨_, p, _, _, _, false, rfl, upd_same, .cons (.own _) (.cons (.own _) (.cons (.own _) (.cons (.own _) (.cons (.own _) (.cons (.own _) (.cons (.own _) .nil)))))), tyx_same h s1, k, q _ s1⟩
abbrev s_is_look : Stmt := topS 30
theorem sc_is_look : FnScope ["thing"] ["thing"] (defScope s_is_look) := ⟨rfl, rfl, rfl, by decide +kernel, rfl, by decide +kernel, by decide +kernel⟩
theorem ok_is_look {f : Addr} {fd : FuncData} (F : Fun K "is_look" "is_look" s_is_look f fd) (B : Blt mg) (T : TF K mg C) (D : TD C) : FnOk P w K mg base CX0 1 f fd ["thing"] (spIsLook C) := by
  obtain ⟨t_cl, t_no, t_ty, t_one, c_Now, c_Last, c_Next, c_Shift, c_Either, c_Later, c_Earlier⟩ := id T
  refine F.ok sc_is_look (fun vs H Q E h => ?_) (fun cdv A outer s H vs Q E hr h => ?_)
  · obtain ⟨a, t, rfl, _⟩ := h
    rfl
  · obtain ⟨a, t, rfl, h, q⟩ := h
    refine ⟨_, (pss_one (ps_ret (pe_callB call_isiT (by rfl) B.isinstance (by decide +kernel) (pa_cons (pv 0) (pa_cons (pe_tup (pa_cons (pe_glob (v := .ref C.last) (by rfl) c_Last rfl) (pa_cons (pe_glob (v := .ref C.next) (by rfl) c_Next rfl) pa_nil))) pa_nil))))), ?_⟩
    refine ⟨_, rfl, (by show 2 ≤ sizeLine; decide), fun p hp => ?_⟩
    have s1 : ∀ {o}, Same H (upd H p o) := fun {o} => sameAt (Same.refl H) hp
    have cs : ∀ b ∈ [C.last, C.next], C.Is b := fun b hb => by
      simp only [List.mem_cons, List.not_mem_nil, or_false] at hb
      exact .inr (hb.elim .inl fun z => .inr (.inl z))
    have k := T.any (C.is_of t) cs
    refine ⟨_, p, _, _, _, _, rfl, upd_same, .cons (.own _) (.cons (.own _) .nil), T.tyx (h.same s1), k, ?_⟩
    have e : decide (C.of t ∈ [C.last, C.next]) = t.isLook := D.look t
    rw [e]
    exact q _ s1
structure T1 (P : Program) (w : World) (K : PySem.W.Frag) (mg : Str → Option Value) (base : Heap) (C : TC) : Prop extends W2 P w K mg base where
  is_term : Cal P w K mg base CX0 "is_term" 1 ["thing"] (spIsTerm K C)
  is_look : Cal P w K mg base CX0 "is_look" 1 ["thing"] (spIsLook C)
abbrev s_checked_stream : Stmt := topS 31
theorem sc_checked_stream : FnScope ["stream"] ["stream"] (defScope s_checked_stream) := ⟨rfl, rfl, rfl, by decide +kernel, rfl, by decide +kernel, by decide +kernel⟩
theorem ok_cstream {f : Addr} {fd : FuncData} (F : Fun K "checked_stream" "checked_stream" s_checked_stream f fd) (B : Blt mg) (G : T1 P w K mg base C) : FnOk P w K mg base CX0 2 f fd ["stream"] spCStream := by
  refine F.ok sc_checked_stream (fun vs H Q E h => ?_) (fun cdv A outer s H vs Q E hr h => ?_)
  · obtain ⟨z, rfl, _⟩ := h
    rfl
  · obtain ⟨z, rfl, hz, q⟩ := h
    refine ⟨_, (pss_cons (ps_if (pt_not (pt_val (pe_cal G.is_name (hr.mono (by decide)) pass0 (pa_cons (pv 0) pa_nil))))
      (pss_one ps_never)
      pss_nil)
    (pss_one (ps_ret (pv 0)))), ?_⟩
    refine ⟨_, rfl, _, rfl, .inl ⟨z, rfl, (by have := hz.2.1; rw [sizeLine_eq]; omega), fun H1 s1 => ⟨_, rfl, ?_⟩⟩⟩
    rw [(nmB_iff z).mpr hz]
    exact iteF ⟨_, rfl, q H1 s1⟩
abbrev s_checked_term : Stmt := topS 32
theorem sc_checked_term : FnScope ["term"] ["term"] (defScope s_checked_term) := ⟨rfl, rfl, rfl, by decide +kernel, rfl, by decide +kernel, by decide +kernel⟩
theorem ok_cterm {f : Addr} {fd : FuncData} (F : Fun K "checked_term" "checked_term" s_checked_term f fd) (B : Blt mg) (G : T1 P w K mg base C) : FnOk P w K mg base CX0 2 f fd ["term"] (spCTerm C) := by
  refine F.ok sc_checked_term (fun vs H Q E h => ?_) (fun cdv A outer s H vs Q E hr h => ?_)
  · obtain ⟨a, t, rfl, _⟩ := h
    rfl
  · obtain ⟨a, t, rfl, h, q⟩ := h
    refine ⟨_, (pss_cons (ps_if (pt_not (pt_val (pe_cal G.is_term (hr.mono (by decide)) pass0 (pa_cons (pv 0) pa_nil))))
      (pss_one ps_never)
      pss_nil)
    (pss_one (ps_ret (pv 0)))), ?_⟩
    exact ⟨_, rfl, _, rfl, .inl ⟨a, t, rfl, h, fun H1 s1 => ⟨_, rfl, iteF ⟨_, rfl, q H1 s1⟩⟩⟩⟩
abbrev s_sizes : Stmt := topS 33
theorem sc_sizes : FnScope ["children", "looks", "choices", "depth", "parts", "child"] ["children", "looks", "choices"] (defScope s_sizes) := ⟨rfl, rfl, rfl, by decide +kernel, rfl, by decide +kernel, by decide +kernel⟩
theorem ok_sizes {f : Addr} {fd : FuncData} (F : Fun K "sizes" "sizes" s_sizes f fd) (B : Blt mg) (Cs : Cst mg) (T : TF K mg C) : FnOk P w K mg base CX0 1 f fd ["children", "looks", "choices"] (spSizes C) := by
  obtain ⟨t1, g_MOST_DEPTH⟩ := Cs.k_MOST_DEPTH
  obtain ⟨t2, g_MOST_PARTS⟩ := Cs.k_MOST_PARTS
  obtain ⟨t3, g_MOST_LOOKS⟩ := Cs.k_MOST_LOOKS
  refine F.ok sc_sizes (fun vs H Q E h => ?_) (fun cdv A outer s H vs Q E hr h => ?_)
  · obtain ⟨tp, as, ts, l0, c0, rfl, _⟩ := h
    rfl
  · obtain ⟨tp, as, ts, l0, c0, rfl, ht, hl, h2, hT, hd, hp, hk, q⟩ := h
    have hu9 : (A.deeper (envOfC "sizes" (defScope s_sizes) s.heap.objs.size f cdv)).units + 9 < cLine := by
      have := hr.units
      omega
    have comp : ∀ (nm : Str) (F : Tm → Int) (hF : ∀ {H2 a t dx fs sp}, TmIn C H2 a t dx fs sp → fs.lookup nm = some (.int (F t))) (hA : nm ∈ ATTRS) (H1 : Hp) (s1 : Same H H1) (D : Addr) (hD : H1 D = none) (x1 x2 x3 x4 x5 : Option V) (Qd : Hp → Prop), (∀ H2, Same H H2 → H2 D = some (.lst ((ts.map F).map V.int)) → Qd H2) →
        ∃ W : Nat → Nat → Hp → Prop, (∃ m, W 0 m (upd H1 D (.lst []))) ∧ ∀ i m H, W i m H →
          ((Itt K tp).stop i H ∧ Qd H) ∨ ((Itt K tp).go i H ∧ ∃ Nx : Hp → Prop, (∀ H', Nx H' → ∃ m', m' < m ∧ W (i + 1) m' H') ∧ ∀ x H', (Itt K tp).yld i H x H' → gName 5 x (wipe [some (.ref tp), x1, x2, x3, x4, x5] [5]) H' fun σ2 H2 => wipe σ2 [5] = wipe [some (.ref tp), x1, x2, x3, x4, x5] [5] ∧ tYes σ2 H2 fun b H3 =>
            if b = true then tFld K (tVar 5) nm σ2 H3 fun y H4 => ∃ acc, H4 D = some (.lst acc) ∧ acc.length < sizeLine ∧ Nx (upd H4 D (.lst (acc ++ [y]))) else Nx H3) := fun nm F hF hA H1 s1 D hD x1 x2 x3 x4 x5 Qd q2 => by
      refine lc_it (walk_tup (xs := as.map V.ref)) (fun i H3 => H3 D = some (.lst (((ts.take i).map F).map V.int)) ∧ Same H1 H3) ⟨upd_same, sameAt (Same.refl H1) hD⟩ (fun i H3 _ hv => SqT.of (hv.2 _ _ (s1 _ _ ht))) ?_ ?_
      · rintro i x H3 H4 hi ⟨hD3, s3⟩ ⟨rfl, hx⟩
        rw [List.length_map] at hi
        rw [List.getElem?_map, List.getElem?_eq_getElem hi, Option.map_some] at hx
        cases hx
        have hi2 : i < ts.length := by rw [← hl]; exact hi
        have ht2 := List.getElem?_eq_getElem hi2
        have hm := (hT i _ _ (List.getElem?_eq_getElem hi) ht2).same (s1.trans s3)
        obtain ⟨dx, fs, sp, In⟩ := hm.in_
        refine ⟨rfl, _, rfl, _, _, dx, fs, _, rfl, In.at_, T.cl _ (C.is_of _), T.no _ (C.is_of _) _ hA, hF In, _, hD3, ?_, ?_, sameAt s3 hD⟩
        · rw [List.length_map, List.length_map, List.length_take]
          exact small1000 (by omega)
        · rw [upd_same, list_take ht2, List.map_append, List.map_append]
          rfl
      · rintro H3 ⟨hD3, s3⟩
        rw [List.length_map, hl, List.take_length] at hD3
        exact q2 H3 (s1.trans s3) hD3
    refine ⟨_, (pss_cons (ps_set (i := 3) sc_sizes.nd rfl (Or.inl rfl) (pe_op op_add pe_int (pe_callBK (cr_maxD rfl hu9) (by rfl) B.max (by decide +kernel) (pa_cons (pe_lc (own := [("child", 5)]) (g := gName 5) (tt := tYes) (by rfl) sc_sizes.nd (pi_tup (pv 0)) (blkOk_by (own := [("child", 5)]) (N := ["children", "looks", "choices", "depth", "parts", "child"]) (sc := defScope s_sizes) (by decide +kernel)) (fun _ _ _ _ _ => (pg_name (i := 5) sc_sizes.nd rfl (Or.inl rfl))) (fun _ _ _ _ _ => pts_nil) (fun _ _ _ _ _ => (show PE _ _ (tFld K _ _) from pe_fld (pv 5) rfl))) pa_nil) (pk_cons pe_int pk_nil))))
    (pss_cons (ps_set (i := 4) sc_sizes.nd rfl (Or.inl rfl) (pe_op op_add pe_int (pe_callB (cr_sum rfl) (by rfl) B.sum (by decide +kernel) (pa_cons (pe_lc (own := [("child", 5)]) (g := gName 5) (tt := tYes) (by rfl) sc_sizes.nd (pi_tup (pv 0)) (blkOk_by (own := [("child", 5)]) (N := ["children", "looks", "choices", "depth", "parts", "child"]) (sc := defScope s_sizes) (by decide +kernel)) (fun _ _ _ _ _ => (pg_name (i := 5) sc_sizes.nd rfl (Or.inl rfl))) (fun _ _ _ _ _ => pts_nil) (fun _ _ _ _ _ => (show PE _ _ (tFld K _ _) from pe_fld (pv 5) rfl))) pa_nil))))
    (pss_cons (ps_set (i := 1) sc_sizes.nd rfl (Or.inl rfl) (pe_op op_add (pv 1) (pe_callB (cr_sum rfl) (by rfl) B.sum (by decide +kernel) (pa_cons (pe_lc (own := [("child", 5)]) (g := gName 5) (tt := tYes) (by rfl) sc_sizes.nd (pi_tup (pv 0)) (blkOk_by (own := [("child", 5)]) (N := ["children", "looks", "choices", "depth", "parts", "child"]) (sc := defScope s_sizes) (by decide +kernel)) (fun _ _ _ _ _ => (pg_name (i := 5) sc_sizes.nd rfl (Or.inl rfl))) (fun _ _ _ _ _ => pts_nil) (fun _ _ _ _ _ => (show PE _ _ (tFld K _ _) from pe_fld (pv 5) rfl))) pa_nil))))
    (pss_cons (ps_set (i := 2) sc_sizes.nd rfl (Or.inl rfl) (pe_op op_add (pv 2) (pe_callB (cr_sum rfl) (by rfl) B.sum (by decide +kernel) (pa_cons (pe_lc (own := [("child", 5)]) (g := gName 5) (tt := tYes) (by rfl) sc_sizes.nd (pi_tup (pv 0)) (blkOk_by (own := [("child", 5)]) (N := ["children", "looks", "choices", "depth", "parts", "child"]) (sc := defScope s_sizes) (by decide +kernel)) (fun _ _ _ _ _ => (pg_name (i := 5) sc_sizes.nd rfl (Or.inl rfl))) (fun _ _ _ _ _ => pts_nil) (fun _ _ _ _ _ => (show PE _ _ (tFld K _ _) from pe_fld (pv 5) rfl))) pa_nil))))
    (pss_cons (ps_if (PW.pt (pw_or (pt_cmpR op_gt (pv 3) (pe_glob (v := .int 12) (by rfl) g_MOST_DEPTH ⟨_, rfl⟩) (nomark _)) (pw_or (pt_cmpR op_gt (pv 4) (pe_glob (v := .int 40) (by rfl) g_MOST_PARTS ⟨_, rfl⟩) (nomark _)) (pw_or1 (pt_cmpR op_gt (pv 1) (pe_glob (v := .int 12) (by rfl) g_MOST_LOOKS ⟨_, rfl⟩) (nomark _))))))
      (pss_one ps_never)
      pss_nil)
    (pss_one (ps_ret (pe_tup (pa_cons (pv 3) (pa_cons (pv 4) (pa_cons (pv 1) (pa_cons (pv 2) pa_nil)))))))))))), ?_⟩
    refine ⟨_, rfl, tp, rfl, ⟨_, SqT.of ht⟩, fun D1 hD1 => comp "depth" Tm.dep (fun i => i.depth) (by decide +kernel) H (Same.refl H) D1 hD1 _ _ _ _ _ _ fun H1 s1 h1 => ?_⟩
    refine ⟨D1, ts.map Tm.dep, 0, rfl, rfl, SqL.of h1, _, _, rfl, rfl, ?_⟩
    refine ⟨_, rfl, tp, rfl, ⟨_, SqT.of (s1 _ _ ht)⟩, fun D2 hD2 => comp "parts" Tm.par (fun i => i.parts) (by decide +kernel) H1 s1 D2 hD2 _ _ _ _ _ _ fun H2 s2 h2' => ?_⟩
    refine ⟨D2, ts.map Tm.par, rfl, SqL.of h2', _, _, rfl, rfl, _, rfl, ?_⟩
    refine ⟨_, rfl, tp, rfl, ⟨_, SqT.of (s2 _ _ ht)⟩, fun D3 hD3 => comp "looks" Tm.lok (fun i => i.looks) (by decide +kernel) H2 s2 D3 hD3 _ _ _ _ _ _ fun H3 s3 h3 => ?_⟩
    refine ⟨D3, ts.map Tm.lok, rfl, SqL.of h3, _, _, rfl, rfl, _, rfl, ?_⟩
    refine ⟨_, rfl, tp, rfl, ⟨_, SqT.of (s3 _ _ ht)⟩, fun D4 hD4 => comp "choices" Tm.cho (fun i => i.choices) (by decide +kernel) H3 s3 D4 hD4 _ _ _ _ _ _ fun H4 s4 h4 => ?_⟩
    refine ⟨D4, ts.map Tm.cho, rfl, SqL.of h4, _, _, rfl, rfl, ?_⟩
    have e1 : decide ((12 : Int) < 1 + mxD (ts.map Tm.dep) 0) = false := decide_eq_false (by have h : 1 + mxD (ts.map Tm.dep) 0 ≤ 12 := hd; omega)
    have e2 : decide ((40 : Int) < 1 + (ts.map Tm.par).sum) = false := decide_eq_false (by have h : 1 + (ts.map Tm.par).sum ≤ 40 := hp; omega)
    have e3 : decide ((12 : Int) < l0 + (ts.map Tm.lok).sum) = false := decide_eq_false (by have h : l0 + (ts.map Tm.lok).sum ≤ 12 := hk; omega)
    refine ⟨_, rfl, _, _, rfl, rfl, _, rfl, ?_⟩
    rw [e1]
    refine iteF ⟨_, rfl, _, _, rfl, rfl, _, rfl, ?_⟩
    rw [e2]
    refine iteF ⟨_, rfl, _, _, rfl, rfl, _, rfl, ?_⟩
    rw [e3]
    refine iteF ⟨_, rfl, _, rfl, _, rfl, _, rfl, (by show 4 ≤ sizeLine; decide), fun t ht2 => ?_⟩
    exact q t _ (s4.trans (sameAt (Same.refl H4) ht2)) (none_of s4 ht2) upd_same
structure T2 (P : Program) (w : World) (K : PySem.W.Frag) (mg : Str → Option Value) (base : Heap) (C : TC) : Prop extends T1 P w K mg base C where
  checked_stream : Cal P w K mg base CX0 "checked_stream" 2 ["stream"] spCStream
  checked_term : Cal P w K mg base CX0 "checked_term" 2 ["term"] (spCTerm C)
  sizes : Cal P w K mg base CX0 "sizes" 1 ["children", "looks", "choices"] (spSizes C)
theorem putF_no {f : Str} {v : V} : ∀ {fs : List (Str × V)}, fs.lookup f = none → putF f v fs = fs ++ [(f, v)]
  | [], _ => rfl
  | (g, x) :: r, h => by
    by_cases e : g = f
    · subst e
      simp [List.lookup] at h
    · have h' : (f == g) = false := beq_eq_false_iff_ne.mpr fun z => e z.symm
      simp only [List.lookup, h'] at h
      show (if g = f then (g, v) :: r else (g, x) :: putF f v r) = _
      rw [if_neg e, putF_no h]
      rfl
theorem pl {f : Str} {v : V} {n : Nat} {fs : List (Str × V)} (h : fs.length ≤ n) : (putF f v fs).length ≤ n + 1 := by
  induction fs generalizing n with
  | nil => exact Nat.succ_le_succ (Nat.zero_le n)
  | cons x r ih =>
    obtain ⟨g, x⟩ := x
    show (if g = f then (g, v) :: r else (g, x) :: putF f v r).length ≤ n + 1
    have h : r.length + 1 ≤ n := h
    split
    · show r.length + 1 ≤ n + 1
      omega
    · show (putF f v r).length + 1 ≤ n + 1
      have := ih (n := n - 1) (by omega)
      omega
theorem lk_app {f : Str} : ∀ {fs gs : List (Str × V)}, fs.lookup f = none → gs.lookup f = none → (fs ++ gs).lookup f = none
  | [], _, _, h => h
  | (g, x) :: r, gs, h1, h2 => by
    by_cases e : f = g
    · subst e
      simp [List.lookup] at h1
    · have h' : (f == g) = false := beq_eq_false_iff_ne.mpr e
      simp only [List.lookup, h'] at h1
      show List.lookup f ((g, x) :: (r ++ gs)) = none
      simp only [List.lookup, h']
      exact lk_app h1 h2
theorem fend {pre : List (Str × V)} {s d p l c : V} (h1 : pre.lookup ("spelling" : Str) = none) (h2 : pre.lookup ("depth" : Str) = none) (h3 : pre.lookup ("parts" : Str) = none) (h4 : pre.lookup ("looks" : Str) = none) (h5 : pre.lookup ("choices" : Str) = none) :
    putF "choices" c (putF "looks" l (putF "parts" p (putF "depth" d (putF "spelling" s pre)))) = pre ++ [(("spelling" : Str), s), ("depth", d), ("parts", p), ("looks", l), ("choices", c)] := by
  rw [putF_no h1, putF_no (lk_app h2 (by rfl)), putF_no (lk_app (lk_app h3 (by rfl)) (by rfl)), putF_no (lk_app (lk_app (lk_app h4 (by rfl)) (by rfl)) (by rfl)), putF_no (lk_app (lk_app (lk_app (lk_app h5 (by rfl)) (by rfl)) (by rfl)) (by rfl))]
  simp
theorem Keep.same {b : Addr} {H H1 H2 : Hp} (k : Keep b H H1) (s : Same H1 H2) : Keep b H H2 := fun c o hc hn => s _ _ (k c o hc hn)
theorem Keep.upd {b : Addr} {H H1 : Hp} {u : HO} (k : Keep b H H1) : Keep b H (upd H1 b u) := fun c o hc hn => by rw [upd_ne hn]; exact k c o hc hn
theorem Keep.refl {b : Addr} {H : Hp} : Keep b H H := fun _ _ h _ => h
theorem Keep.at {b q : Addr} {H H1 : Hp} {u : HO} (k : Keep b H H1) (hq : H1 q = none) : Keep b H (L2.upd H1 q u) := k.same (sameAt (Same.refl H1) hq)
abbrev s_Now_init : Stmt := inClass (topS 22) 0
theorem sc_Now_init : FnScope ["self"] ["self"] (defScope s_Now_init) := ⟨rfl, rfl, rfl, by decide +kernel, rfl, by decide +kernel, by decide +kernel⟩
theorem ok_now {f : Addr} {fd : FuncData} (F : Fun K "__init__" "Now.__init__" s_Now_init f fd) (B : Blt mg) (T : TF K mg C) (G : T2 P w K mg base C) : FnOk P w K mg base CX0 2 f fd ["self"] (spInit0 C) := by
  refine F.ok sc_Now_init (fun vs H Q E h => ?_) (fun cdv A outer s H vs Q E hr h => ?_)
  · obtain ⟨b, dx, rfl, _⟩ := h
    rfl
  · obtain ⟨b, dx, rfl, hb, q⟩ := h
    have Is : C.Is C.now := C.is_of .now
    refine ⟨_, (pss_cons (ps_fld (pv 0) (pe_tup (pa_cons pe_str pa_nil)) rfl)
    (pss_one (ps_asg (pe_cal G.sizes (hr.mono (by decide)) pass0 (pa_cons (pe_tup pa_nil) (pa_cons pe_int (pa_cons pe_int pa_nil)))) (pg_tup (by rfl) (pgs_cons (pg_fld (pv 0)) (pgs_cons (pg_fld (pv 0)) (pgs_cons (pg_fld (pv 0)) (pgs_cons (pg_fld (pv 0)) pgs_nil)))))))), ?_⟩
    refine ⟨(by show 1 ≤ sizeLine; decide), fun sp hsp => ⟨_, rfl, b, C.now, dx, [], rfl, (sameAt (Same.refl H) hsp) _ _ hb, T.cl _ Is, T.no _ Is _ (by decide +kernel), (by show 0 < 1000; decide), ?_⟩⟩
    have sb : sp ≠ b := fun z => by rw [z, hb] at hsp; cases hsp
    have K1 : Keep b H (upd (upd H sp (.tup [.str "now"])) b (.ins C.now dx (putF "spelling" (.ref sp) []))) := (Keep.refl.at hsp).upd
    refine ⟨(by show 0 ≤ sizeLine; decide), fun tp htp => ⟨tp, [], [], 0, 0, rfl, upd_same, rfl, by decide, (fun i a t h => by simp at h), by decide, by decide, by decide, fun q1 H5 s5 hq1 hq5 => ?_⟩⟩
    have K5 := (K1.at htp (u := .tup [])).same s5
    have HB : H5 b = some (.ins C.now dx (putF "spelling" (.ref sp) [])) := s5 _ _ (sameAt (Same.refl _) htp _ _ upd_same)
    have hs5 : H5 sp = some (.tup [.str "now"]) := s5 _ _ (sameAt (Same.refl _) htp _ _ (by rw [upd_ne sb, upd_same]))
    have h0 : (putF "spelling" (.ref sp) []).length ≤ 1 := Nat.le_refl 1
    obtain ⟨D, hD⟩ : ∃ D, D = C.now := ⟨_, rfl⟩
    obtain ⟨fs0, hf⟩ : ∃ fs0, fs0 = putF "spelling" (.ref sp) [] := ⟨_, rfl⟩
    rw [← hD] at Is
    rw [← hD, ← hf] at HB
    rw [← hf] at h0
    refine ⟨q1, _, rfl, SqT.of hq5, rfl, _, _, rfl, _, rfl, b, D, dx, fs0, rfl, HB, T.cl _ Is, T.no _ Is _ (by decide +kernel), Nat.lt_of_le_of_lt h0 (by decide), _, _, rfl, _, rfl, b, D, dx, _, rfl, upd_same, T.cl _ Is, T.no _ Is _ (by decide +kernel), Nat.lt_of_le_of_lt (pl h0) (by decide), _, _, rfl, _, rfl, b, D, dx, _, rfl, upd_same, T.cl _ Is, T.no _ Is _ (by decide +kernel), Nat.lt_of_le_of_lt (pl (pl h0)) (by decide), _, _, rfl, _, rfl, b, D, dx, _, rfl, upd_same, T.cl _ Is, T.no _ Is _ (by decide +kernel), Nat.lt_of_le_of_lt (pl (pl (pl h0))) (by decide), rfl, ?_⟩
    refine q _ ⟨dx, sp, ?_, ?_⟩ K5.upd.upd.upd.upd
    · rw [upd_same, hf, fend (by rfl) (by rfl) (by rfl) (by rfl) (by rfl), hD]
      rfl
    · rw [upd_ne sb, upd_ne sb, upd_ne sb, upd_ne sb]
      exact hs5
end
end Ash

set_option Elab.async false
set_option linter.all false
set_option maxRecDepth 100000
set_option maxHeartbeats 4000000
namespace Ash
open PySem PySem.Spec PyProof.Rows L2
open C8 (pss_cut)
/-! ### the other terms are made -/
theorem szD1 (t : Tm) : szD [t] = 1 + t.dep := rfl
theorem szP1 (t : Tm) : szP [t] = 1 + t.par := by simp [szP]
theorem szL1 (t : Tm) : szL [t] = t.lok := by simp [szL]
theorem szC1 (t : Tm) : szC [t] = t.cho := by simp [szC]
theorem szD2 (t u : Tm) : szD [t, u] = 1 + Tm.mx t.dep u.dep := by
  show 1 + (if decide (t.dep < u.dep) = true then u.dep else t.dep) = 1 + (if t.dep < u.dep then u.dep else t.dep)
  by_cases c : t.dep < u.dep
  · rw [if_pos c, if_pos (decide_eq_true c)]
  · rw [if_neg c, if_neg (fun z => c (of_decide_eq_true z))]
theorem szP2 (t u : Tm) : szP [t, u] = 1 + (t.par + u.par) := by simp [szP]
theorem szL2 (t u : Tm) : szL [t, u] = t.lok + u.lok := by simp [szL]
theorem szC2 (t u : Tm) : szC [t, u] = t.cho + u.cho := by simp [szC]
theorem pre2 {x y : Str} {v1 v2 : V} (h : x ≠ y) : putF y v2 (putF x v1 []) = [(x, v1), (y, v2)] := by
  show (if x = y then (x, v2) :: [] else (x, v1) :: putF y v2 []) = _
  rw [if_neg h]
  rfl
section
variable {P : Program} {w : World} {K : PySem.W.Frag} {mg : Str → Option Value} {base : Heap} {C : TC}
abbrev s_Last_init : Stmt := inClass (topS 23) 0
theorem sc_Last_init : FnScope ["self", "stream", "term"] ["self", "stream", "term"] (defScope s_Last_init) := ⟨rfl, rfl, rfl, by decide +kernel, rfl, by decide +kernel, by decide +kernel⟩
theorem ok_last {f : Addr} {fd : FuncData} (F : Fun K "__init__" "Last.__init__" s_Last_init f fd) (B : Blt mg) (T : TF K mg C) (G : T2 P w K mg base C) : FnOk P w K mg base CX0 3 f fd ["self", "stream", "term"] (spInitL C C.last Tm.last) := by
  refine F.ok sc_Last_init (fun vs H Q E h => ?_) (fun cdv A outer s H vs Q E hr h => ?_)
  · obtain ⟨b, dx, a, z, t, rfl, _⟩ := h
    rfl
  · obtain ⟨b, dx, a, z, t, rfl, hb, hz, hT, hF, q⟩ := h
    refine ⟨_, (pss_cons (ps_fld (pv 0) (pe_cal G.checked_stream (hr.mono (by decide)) pass0 (pa_cons (pv 1) pa_nil)) rfl)
    (pss_cons (ps_fld (pv 0) (pe_cal G.checked_term (hr.mono (by decide)) pass0 (pa_cons (pv 2) pa_nil)) rfl)
    (pss_cons (ps_fld (pv 0) (pe_tup (pa_cons pe_str (pa_cons (pv 1) (StX.pa_star (pe_fld (pv 2) rfl) pa_nil)))) rfl)
    (pss_one (ps_asg (pe_cal G.sizes (hr.mono (by decide)) pass0 (pa_cons (pe_tup (pa_cons (pv 2) pa_nil)) (pa_cons pe_int (pa_cons pe_int pa_nil)))) (pg_tup (by rfl) (pgs_cons (pg_fld (pv 0)) (pgs_cons (pg_fld (pv 0)) (pgs_cons (pg_fld (pv 0)) (pgs_cons (pg_fld (pv 0)) pgs_nil)))))))))), ?_⟩
    obtain ⟨D, hD⟩ : ∃ D, D = C.last := ⟨_, rfl⟩
    have Is : C.Is D := by rw [hD]; exact C.is_of (.last z t)
    rw [← hD] at hb
    refine ⟨_, rfl, z, rfl, hz, fun H1 s1 => ⟨_, rfl, b, D, dx, [], rfl, s1 _ _ hb, T.cl _ Is, T.no _ Is _ (by decide +kernel), (by show 0 < 1000; decide), ?_⟩⟩
    have K1 : Keep b H (upd H1 b (.ins D dx (putF "stream" (.str z) []))) := (Keep.refl.same s1).upd
    refine ⟨_, rfl, a, t, rfl, hT.off hb K1, fun H2 s2 => ⟨_, rfl, b, D, dx, _, rfl, s2 _ _ upd_same, T.cl _ Is, T.no _ Is _ (by decide +kernel), (by show 1 < 1000; decide), ?_⟩⟩
    have K2 : Keep b H (upd H2 b (.ins D dx (putF "term" (.ref a) (putF "stream" (.str z) [])))) := (K1.same s2).upd
    obtain ⟨dx1, fs1, sp1, In⟩ := (hT.off hb K2).in_
    have sl := Tm.spell_len t
    have hF2 : t.par ≤ 39 := by
      have h : 1 + t.par ≤ 40 := hF.2.1
      omega
    refine ⟨_, rfl, _, rfl, _, _, dx1, fs1, _, rfl, In.at_, T.cl _ (C.is_of _), T.no _ (C.is_of _) _ (by decide +kernel), In.spelling, sp1, _, rfl, .inl (SqT.of In.spl), ?_, fun sp hsp => ⟨_, rfl, b, D, dx, _, rfl, sameAt (Same.refl _) hsp _ _ upd_same, T.cl _ Is, T.no _ Is _ (by decide +kernel), (by show 2 < 1000; decide), ?_⟩⟩
    · show (t.spell ++ []).length + 1 + 1 ≤ sizeLine
      rw [sizeLine_eq, List.append_nil]
      omega
    have sb : sp ≠ b := fun z => by rw [z, upd_same] at hsp; cases hsp
    have K3 := (K2.at hsp (u := .tup (.str "last" :: .str z :: (t.spell ++ [])))).upd (u := .ins D dx (putF "spelling" (.ref sp) (putF "term" (.ref a) (putF "stream" (.str z) []))))
    refine ⟨_, rfl, (by show 1 ≤ sizeLine; decide), fun tp htp => ?_⟩
    have K4 := K3.at htp (u := .tup ([a].map V.ref))
    refine ⟨tp, [a], [t], 1, 1, rfl, upd_same, rfl, (by show 1 ≤ 2; decide), (fun i a' t' h1 h2 => ?_), ?_, ?_, ?_, fun q1 H5 s5 hq1 hq5 => ?_⟩
    · 
      match i, h1, h2 with
      | 0, h1, h2 =>
        cases h1
        cases h2
        exact hT.off hb K4
      | i + 1, h1, h2 => simp at h1
    · rw [szD1]; exact hF.1
    · rw [szP1]; exact hF.2.1
    · rw [szL1]; exact hF.2.2
    have K5 := K4.same s5
    obtain ⟨fs0, hf⟩ : ∃ fs0, fs0 = putF "spelling" (.ref sp) (putF "term" (.ref a) (putF "stream" (.str z) [])) := ⟨_, rfl⟩
    have HB : H5 b = some (.ins D dx fs0) := by rw [hf]; exact s5 _ _ (sameAt (Same.refl _) htp _ _ upd_same)
    have hs5 : H5 sp = some (.tup (.str "last" :: .str z :: (t.spell ++ []))) := s5 _ _ (sameAt (Same.refl _) htp _ _ (by rw [upd_ne sb, upd_same]))
    have h0 : fs0.length ≤ 3 := by rw [hf]; exact pl (pl (pl (Nat.le_refl 0)))
    refine ⟨q1, _, rfl, SqT.of hq5, rfl, _, _, rfl, _, rfl, b, D, dx, fs0, rfl, HB, T.cl _ Is, T.no _ Is _ (by decide +kernel), Nat.lt_of_le_of_lt h0 (by decide), _, _, rfl, _, rfl, b, D, dx, _, rfl, upd_same, T.cl _ Is, T.no _ Is _ (by decide +kernel), Nat.lt_of_le_of_lt (pl h0) (by decide), _, _, rfl, _, rfl, b, D, dx, _, rfl, upd_same, T.cl _ Is, T.no _ Is _ (by decide +kernel), Nat.lt_of_le_of_lt (pl (pl h0)) (by decide), _, _, rfl, _, rfl, b, D, dx, _, rfl, upd_same, T.cl _ Is, T.no _ Is _ (by decide +kernel), Nat.lt_of_le_of_lt (pl (pl (pl h0))) (by decide), rfl, ?_⟩
    have K9 := (((K5.upd (u := .ins D dx (putF "depth" (.int (szD [t])) fs0))).upd (u := .ins D dx (putF "parts" (.int (szP [t])) (putF "depth" (.int (szD [t])) fs0)))).upd (u := .ins D dx (putF "looks" (.int (1 + szL [t])) (putF "parts" (.int (szP [t])) (putF "depth" (.int (szD [t])) fs0))))).upd (u := .ins D dx (putF "choices" (.int (1 + szC [t])) (putF "looks" (.int (1 + szL [t])) (putF "parts" (.int (szP [t])) (putF "depth" (.int (szD [t])) fs0)))))
    refine q _ ⟨dx, a, sp, ?_, ?_, hT.off hb K9⟩ K9
    · rw [upd_same, hf, pre2 (by decide +kernel), fend (by rfl) (by rfl) (by rfl) (by rfl) (by rfl), hD, szD1, szP1, szL1, szC1]
      rfl
    · rw [upd_ne sb, upd_ne sb, upd_ne sb, upd_ne sb, hs5]
      simp [Tm.spell]
abbrev s_Next_init : Stmt := inClass (topS 24) 0
theorem sc_Next_init : FnScope ["self", "stream", "term"] ["self", "stream", "term"] (defScope s_Next_init) := ⟨rfl, rfl, rfl, by decide +kernel, rfl, by decide +kernel, by decide +kernel⟩
theorem ok_next {f : Addr} {fd : FuncData} (F : Fun K "__init__" "Next.__init__" s_Next_init f fd) (B : Blt mg) (T : TF K mg C) (G : T2 P w K mg base C) : FnOk P w K mg base CX0 3 f fd ["self", "stream", "term"] (spInitL C C.next Tm.next) := by
  refine F.ok sc_Next_init (fun vs H Q E h => ?_) (fun cdv A outer s H vs Q E hr h => ?_)
  · obtain ⟨b, dx, a, z, t, rfl, _⟩ := h
    rfl
  · obtain ⟨b, dx, a, z, t, rfl, hb, hz, hT, hF, q⟩ := h
    refine ⟨_, (pss_cons (ps_fld (pv 0) (pe_cal G.checked_stream (hr.mono (by decide)) pass0 (pa_cons (pv 1) pa_nil)) rfl)
    (pss_cons (ps_fld (pv 0) (pe_cal G.checked_term (hr.mono (by decide)) pass0 (pa_cons (pv 2) pa_nil)) rfl)
    (pss_cons (ps_fld (pv 0) (pe_tup (pa_cons pe_str (pa_cons (pv 1) (StX.pa_star (pe_fld (pv 2) rfl) pa_nil)))) rfl)
    (pss_one (ps_asg (pe_cal G.sizes (hr.mono (by decide)) pass0 (pa_cons (pe_tup (pa_cons (pv 2) pa_nil)) (pa_cons pe_int (pa_cons pe_int pa_nil)))) (pg_tup (by rfl) (pgs_cons (pg_fld (pv 0)) (pgs_cons (pg_fld (pv 0)) (pgs_cons (pg_fld (pv 0)) (pgs_cons (pg_fld (pv 0)) pgs_nil)))))))))), ?_⟩
    obtain ⟨D, hD⟩ : ∃ D, D = C.next := ⟨_, rfl⟩
    have Is : C.Is D := by rw [hD]; exact C.is_of (.next z t)
    rw [← hD] at hb
    refine ⟨_, rfl, z, rfl, hz, fun H1 s1 => ⟨_, rfl, b, D, dx, [], rfl, s1 _ _ hb, T.cl _ Is, T.no _ Is _ (by decide +kernel), (by show 0 < 1000; decide), ?_⟩⟩
    have K1 : Keep b H (upd H1 b (.ins D dx (putF "stream" (.str z) []))) := (Keep.refl.same s1).upd
    refine ⟨_, rfl, a, t, rfl, hT.off hb K1, fun H2 s2 => ⟨_, rfl, b, D, dx, _, rfl, s2 _ _ upd_same, T.cl _ Is, T.no _ Is _ (by decide +kernel), (by show 1 < 1000; decide), ?_⟩⟩
    have K2 : Keep b H (upd H2 b (.ins D dx (putF "term" (.ref a) (putF "stream" (.str z) [])))) := (K1.same s2).upd
    obtain ⟨dx1, fs1, sp1, In⟩ := (hT.off hb K2).in_
    have sl := Tm.spell_len t
    have hF2 : t.par ≤ 39 := by
      have h : 1 + t.par ≤ 40 := hF.2.1
      omega
    refine ⟨_, rfl, _, rfl, _, _, dx1, fs1, _, rfl, In.at_, T.cl _ (C.is_of _), T.no _ (C.is_of _) _ (by decide +kernel), In.spelling, sp1, _, rfl, .inl (SqT.of In.spl), ?_, fun sp hsp => ⟨_, rfl, b, D, dx, _, rfl, sameAt (Same.refl _) hsp _ _ upd_same, T.cl _ Is, T.no _ Is _ (by decide +kernel), (by show 2 < 1000; decide), ?_⟩⟩
    · show (t.spell ++ []).length + 1 + 1 ≤ sizeLine
      rw [sizeLine_eq, List.append_nil]
      omega
    have sb : sp ≠ b := fun z => by rw [z, upd_same] at hsp; cases hsp
    have K3 := (K2.at hsp (u := .tup (.str "next" :: .str z :: (t.spell ++ [])))).upd (u := .ins D dx (putF "spelling" (.ref sp) (putF "term" (.ref a) (putF "stream" (.str z) []))))
    refine ⟨_, rfl, (by show 1 ≤ sizeLine; decide), fun tp htp => ?_⟩
    have K4 := K3.at htp (u := .tup ([a].map V.ref))
    refine ⟨tp, [a], [t], 1, 1, rfl, upd_same, rfl, (by show 1 ≤ 2; decide), (fun i a' t' h1 h2 => ?_), ?_, ?_, ?_, fun q1 H5 s5 hq1 hq5 => ?_⟩
    · 
      match i, h1, h2 with
      | 0, h1, h2 =>
        cases h1
        cases h2
        exact hT.off hb K4
      | i + 1, h1, h2 => simp at h1
    · rw [szD1]; exact hF.1
    · rw [szP1]; exact hF.2.1
    · rw [szL1]; exact hF.2.2
    have K5 := K4.same s5
    obtain ⟨fs0, hf⟩ : ∃ fs0, fs0 = putF "spelling" (.ref sp) (putF "term" (.ref a) (putF "stream" (.str z) [])) := ⟨_, rfl⟩
    have HB : H5 b = some (.ins D dx fs0) := by rw [hf]; exact s5 _ _ (sameAt (Same.refl _) htp _ _ upd_same)
    have hs5 : H5 sp = some (.tup (.str "next" :: .str z :: (t.spell ++ []))) := s5 _ _ (sameAt (Same.refl _) htp _ _ (by rw [upd_ne sb, upd_same]))
    have h0 : fs0.length ≤ 3 := by rw [hf]; exact pl (pl (pl (Nat.le_refl 0)))
    refine ⟨q1, _, rfl, SqT.of hq5, rfl, _, _, rfl, _, rfl, b, D, dx, fs0, rfl, HB, T.cl _ Is, T.no _ Is _ (by decide +kernel), Nat.lt_of_le_of_lt h0 (by decide), _, _, rfl, _, rfl, b, D, dx, _, rfl, upd_same, T.cl _ Is, T.no _ Is _ (by decide +kernel), Nat.lt_of_le_of_lt (pl h0) (by decide), _, _, rfl, _, rfl, b, D, dx, _, rfl, upd_same, T.cl _ Is, T.no _ Is _ (by decide +kernel), Nat.lt_of_le_of_lt (pl (pl h0)) (by decide), _, _, rfl, _, rfl, b, D, dx, _, rfl, upd_same, T.cl _ Is, T.no _ Is _ (by decide +kernel), Nat.lt_of_le_of_lt (pl (pl (pl h0))) (by decide), rfl, ?_⟩
    have K9 := (((K5.upd (u := .ins D dx (putF "depth" (.int (szD [t])) fs0))).upd (u := .ins D dx (putF "parts" (.int (szP [t])) (putF "depth" (.int (szD [t])) fs0)))).upd (u := .ins D dx (putF "looks" (.int (1 + szL [t])) (putF "parts" (.int (szP [t])) (putF "depth" (.int (szD [t])) fs0))))).upd (u := .ins D dx (putF "choices" (.int (1 + szC [t])) (putF "looks" (.int (1 + szL [t])) (putF "parts" (.int (szP [t])) (putF "depth" (.int (szD [t])) fs0)))))
    refine q _ ⟨dx, a, sp, ?_, ?_, hT.off hb K9⟩ K9
    · rw [upd_same, hf, pre2 (by decide +kernel), fend (by rfl) (by rfl) (by rfl) (by rfl) (by rfl), hD, szD1, szP1, szL1, szC1]
      rfl
    · rw [upd_ne sb, upd_ne sb, upd_ne sb, upd_ne sb, hs5]
      simp [Tm.spell]
abbrev s_Shift_init : Stmt := inClass (topS 25) 0
theorem sc_Shift_init : FnScope ["self", "term", "amount"] ["self", "term", "amount"] (defScope s_Shift_init) := ⟨rfl, rfl, rfl, by decide +kernel, rfl, by decide +kernel, by decide +kernel⟩
theorem ok_shift {f : Addr} {fd : FuncData} (F : Fun K "__init__" "Shift.__init__" s_Shift_init f fd) (B : Blt mg) (T : TF K mg C) (G : T2 P w K mg base C) : FnOk P w K mg base CX0 2 f fd ["self", "term", "amount"] (spInitS C) := by
  refine F.ok sc_Shift_init (fun vs H Q E h => ?_) (fun cdv A outer s H vs Q E hr h => ?_)
  · obtain ⟨b, dx, a, n, t, rfl, _⟩ := h
    rfl
  · obtain ⟨b, dx, a, n, t, rfl, hb, hT, hF, q⟩ := h
    refine ⟨_, (pss_cons (ps_fld (pv 0) (pv 1) rfl)
    (pss_cons (ps_fld (pv 0) (pv 2) rfl)
    (pss_cons (ps_fld (pv 0) (pe_tup (pa_cons pe_str (pa_cons (pv 2) (StX.pa_star (pe_fld (pv 1) rfl) pa_nil)))) rfl)
    (pss_one (ps_asg (pe_cal G.sizes (hr.mono (by decide)) pass0 (pa_cons (pe_tup (pa_cons (pv 1) pa_nil)) (pa_cons pe_int (pa_cons pe_int pa_nil)))) (pg_tup (by rfl) (pgs_cons (pg_fld (pv 0)) (pgs_cons (pg_fld (pv 0)) (pgs_cons (pg_fld (pv 0)) (pgs_cons (pg_fld (pv 0)) pgs_nil)))))))))), ?_⟩
    obtain ⟨D, hD⟩ : ∃ D, D = C.shift := ⟨_, rfl⟩
    have Is : C.Is D := by rw [hD]; exact C.is_of (.shift n t)
    rw [← hD] at hb
    refine ⟨_, rfl, _, rfl, b, D, dx, [], rfl, hb, T.cl _ Is, T.no _ Is _ (by decide +kernel), (by show 0 < 1000; decide), ?_⟩
    have K1 : Keep b H (upd H b (.ins D dx (putF "term" (.ref a) []))) := Keep.refl.upd
    refine ⟨_, rfl, _, rfl, b, D, dx, _, rfl, upd_same, T.cl _ Is, T.no _ Is _ (by decide +kernel), (by show 1 < 1000; decide), ?_⟩
    have K2 : Keep b H (upd _ b (.ins D dx (putF "amount" (.int n) (putF "term" (.ref a) [])))) := K1.upd
    obtain ⟨dx1, fs1, sp1, In⟩ := (hT.off hb K2).in_
    have sl := Tm.spell_len t
    have hF2 : t.par ≤ 39 := by
      have h : 1 + t.par ≤ 40 := hF.2.1
      omega
    refine ⟨_, rfl, _, rfl, _, _, dx1, fs1, _, rfl, In.at_, T.cl _ (C.is_of _), T.no _ (C.is_of _) _ (by decide +kernel), In.spelling, sp1, _, rfl, .inl (SqT.of In.spl), ?_, fun sp hsp => ⟨_, rfl, b, D, dx, _, rfl, sameAt (Same.refl _) hsp _ _ upd_same, T.cl _ Is, T.no _ Is _ (by decide +kernel), (by show 2 < 1000; decide), ?_⟩⟩
    · show (t.spell ++ []).length + 1 + 1 ≤ sizeLine
      rw [sizeLine_eq, List.append_nil]
      omega
    have sb : sp ≠ b := fun z => by rw [z, upd_same] at hsp; cases hsp
    have K3 := (K2.at hsp (u := .tup (.str "shift" :: .int n :: (t.spell ++ [])))).upd (u := .ins D dx (putF "spelling" (.ref sp) (putF "amount" (.int n) (putF "term" (.ref a) []))))
    refine ⟨_, rfl, (by show 1 ≤ sizeLine; decide), fun tp htp => ?_⟩
    have K4 := K3.at htp (u := .tup ([a].map V.ref))
    refine ⟨tp, [a], [t], 0, 0, rfl, upd_same, rfl, (by show 1 ≤ 2; decide), (fun i a' t' h1 h2 => ?_), ?_, ?_, ?_, fun q1 H5 s5 hq1 hq5 => ?_⟩
    · 
      match i, h1, h2 with
      | 0, h1, h2 =>
        cases h1
        cases h2
        exact hT.off hb K4
      | i + 1, h1, h2 => simp at h1
    · rw [szD1]; exact hF.1
    · rw [szP1]; exact hF.2.1
    · rw [szL1]; exact hF.2.2
    have K5 := K4.same s5
    obtain ⟨fs0, hf⟩ : ∃ fs0, fs0 = putF "spelling" (.ref sp) (putF "amount" (.int n) (putF "term" (.ref a) [])) := ⟨_, rfl⟩
    have HB : H5 b = some (.ins D dx fs0) := by rw [hf]; exact s5 _ _ (sameAt (Same.refl _) htp _ _ upd_same)
    have hs5 : H5 sp = some (.tup (.str "shift" :: .int n :: (t.spell ++ []))) := s5 _ _ (sameAt (Same.refl _) htp _ _ (by rw [upd_ne sb, upd_same]))
    have h0 : fs0.length ≤ 3 := by rw [hf]; exact pl (pl (pl (Nat.le_refl 0)))
    refine ⟨q1, _, rfl, SqT.of hq5, rfl, _, _, rfl, _, rfl, b, D, dx, fs0, rfl, HB, T.cl _ Is, T.no _ Is _ (by decide +kernel), Nat.lt_of_le_of_lt h0 (by decide), _, _, rfl, _, rfl, b, D, dx, _, rfl, upd_same, T.cl _ Is, T.no _ Is _ (by decide +kernel), Nat.lt_of_le_of_lt (pl h0) (by decide), _, _, rfl, _, rfl, b, D, dx, _, rfl, upd_same, T.cl _ Is, T.no _ Is _ (by decide +kernel), Nat.lt_of_le_of_lt (pl (pl h0)) (by decide), _, _, rfl, _, rfl, b, D, dx, _, rfl, upd_same, T.cl _ Is, T.no _ Is _ (by decide +kernel), Nat.lt_of_le_of_lt (pl (pl (pl h0))) (by decide), rfl, ?_⟩
    have K9 := (((K5.upd (u := .ins D dx (putF "depth" (.int (szD [t])) fs0))).upd (u := .ins D dx (putF "parts" (.int (szP [t])) (putF "depth" (.int (szD [t])) fs0)))).upd (u := .ins D dx (putF "looks" (.int (0 + szL [t])) (putF "parts" (.int (szP [t])) (putF "depth" (.int (szD [t])) fs0))))).upd (u := .ins D dx (putF "choices" (.int (0 + szC [t])) (putF "looks" (.int (0 + szL [t])) (putF "parts" (.int (szP [t])) (putF "depth" (.int (szD [t])) fs0)))))
    refine q _ ⟨dx, a, sp, ?_, ?_, hT.off hb K9⟩ K9
    · rw [upd_same, hf, pre2 (by decide +kernel), fend (by rfl) (by rfl) (by rfl) (by rfl) (by rfl), hD, szD1, szP1, szL1, szC1]
      rfl
    · rw [upd_ne sb, upd_ne sb, upd_ne sb, upd_ne sb, hs5]
      simp [Tm.spell]
abbrev s_Either_init : Stmt := inClass (topS 26) 0
theorem sc_Either_init : FnScope ["self", "first", "second"] ["self", "first", "second"] (defScope s_Either_init) := ⟨rfl, rfl, rfl, by decide +kernel, rfl, by decide +kernel, by decide +kernel⟩
theorem ok_either {f : Addr} {fd : FuncData} (F : Fun K "__init__" "Either.__init__" s_Either_init f fd) (B : Blt mg) (T : TF K mg C) (G : T2 P w K mg base C) : FnOk P w K mg base CX0 2 f fd ["self", "first", "second"] (spInitP C C.either Tm.either) := by
  refine F.ok sc_Either_init (fun vs H Q E h => ?_) (fun cdv A outer s H vs Q E hr h => ?_)
  · obtain ⟨b, dx, a, c, t, u, rfl, _⟩ := h
    rfl
  · obtain ⟨b, dx, a, c, t, u, rfl, hb, hT, hU, hF, q⟩ := h
    refine ⟨_, (pss_cons (ps_fld (pv 0) (pv 1) rfl)
    (pss_cons (ps_fld (pv 0) (pv 2) rfl)
    (pss_cons (ps_fld (pv 0) (pe_tup (pa_cons pe_str (StX.pa_star (pe_fld (pv 1) rfl) (StX.pa_star (pe_fld (pv 2) rfl) pa_nil)))) rfl)
    (pss_one (ps_asg (pe_cal G.sizes (hr.mono (by decide)) pass0 (pa_cons (pe_tup (pa_cons (pv 1) (pa_cons (pv 2) pa_nil))) (pa_cons pe_int (pa_cons pe_int pa_nil)))) (pg_tup (by rfl) (pgs_cons (pg_fld (pv 0)) (pgs_cons (pg_fld (pv 0)) (pgs_cons (pg_fld (pv 0)) (pgs_cons (pg_fld (pv 0)) pgs_nil)))))))))), ?_⟩
    obtain ⟨D, hD⟩ : ∃ D, D = C.either := ⟨_, rfl⟩
    have Is : C.Is D := by rw [hD]; exact C.is_of (.either t u)
    rw [← hD] at hb
    refine ⟨_, rfl, _, rfl, b, D, dx, [], rfl, hb, T.cl _ Is, T.no _ Is _ (by decide +kernel), (by show 0 < 1000; decide), ?_⟩
    have K1 : Keep b H (upd H b (.ins D dx (putF "first" (.ref a) []))) := Keep.refl.upd
    refine ⟨_, rfl, _, rfl, b, D, dx, _, rfl, upd_same, T.cl _ Is, T.no _ Is _ (by decide +kernel), (by show 1 < 1000; decide), ?_⟩
    have K2 : Keep b H (upd _ b (.ins D dx (putF "second" (.ref c) (putF "first" (.ref a) [])))) := K1.upd
    obtain ⟨dx1, fs1, sp1, In⟩ := (hT.off hb K2).in_
    have sl := Tm.spell_len t
    obtain ⟨dx2, fs2, sp2, In2⟩ := (hU.off hb K2).in_
    have sl2 := Tm.spell_len u
    have hF2 : t.par + u.par ≤ 39 := by
      have h : 1 + (t.par + u.par) ≤ 40 := hF.2.1
      omega
    refine ⟨_, rfl, _, _, dx1, fs1, _, rfl, In.at_, T.cl _ (C.is_of _), T.no _ (C.is_of _) _ (by decide +kernel), In.spelling, sp1, _, rfl, .inl (SqT.of In.spl), _, rfl, _, _, dx2, fs2, _, rfl, In2.at_, T.cl _ (C.is_of _), T.no _ (C.is_of _) _ (by decide +kernel), In2.spelling, sp2, _, rfl, .inl (SqT.of In2.spl), ?_, fun sp hsp => ⟨_, rfl, b, D, dx, _, rfl, sameAt (Same.refl _) hsp _ _ upd_same, T.cl _ Is, T.no _ Is _ (by decide +kernel), (by show 2 < 1000; decide), ?_⟩⟩
    · show (t.spell ++ (u.spell ++ [])).length + 1 ≤ sizeLine
      rw [sizeLine_eq, List.length_append, List.append_nil]
      omega
    have sb : sp ≠ b := fun z => by rw [z, upd_same] at hsp; cases hsp
    have K3 := (K2.at hsp (u := .tup (.str "either" :: (t.spell ++ (u.spell ++ []))))).upd (u := .ins D dx (putF "spelling" (.ref sp) (putF "second" (.ref c) (putF "first" (.ref a) []))))
    refine ⟨_, rfl, _, rfl, (by show 2 ≤ sizeLine; decide), fun tp htp => ?_⟩
    have K4 := K3.at htp (u := .tup ([a, c].map V.ref))
    refine ⟨tp, [a, c], [t, u], 0, 0, rfl, upd_same, rfl, (by show 2 ≤ 2; decide), (fun i a' t' h1 h2 => ?_), ?_, ?_, ?_, fun q1 H5 s5 hq1 hq5 => ?_⟩
    · 
      match i, h1, h2 with
      | 0, h1, h2 =>
        cases h1
        cases h2
        exact hT.off hb K4
      | 1, h1, h2 =>
        cases h1
        cases h2
        exact hU.off hb K4
      | i + 2, h1, h2 => simp at h1
    · rw [szD2]; exact hF.1
    · rw [szP2]; exact hF.2.1
    · rw [szL2]; exact hF.2.2
    have K5 := K4.same s5
    obtain ⟨fs0, hf⟩ : ∃ fs0, fs0 = putF "spelling" (.ref sp) (putF "second" (.ref c) (putF "first" (.ref a) [])) := ⟨_, rfl⟩
    have HB : H5 b = some (.ins D dx fs0) := by rw [hf]; exact s5 _ _ (sameAt (Same.refl _) htp _ _ upd_same)
    have hs5 : H5 sp = some (.tup (.str "either" :: (t.spell ++ (u.spell ++ [])))) := s5 _ _ (sameAt (Same.refl _) htp _ _ (by rw [upd_ne sb, upd_same]))
    have h0 : fs0.length ≤ 3 := by rw [hf]; exact pl (pl (pl (Nat.le_refl 0)))
    refine ⟨q1, _, rfl, SqT.of hq5, rfl, _, _, rfl, _, rfl, b, D, dx, fs0, rfl, HB, T.cl _ Is, T.no _ Is _ (by decide +kernel), Nat.lt_of_le_of_lt h0 (by decide), _, _, rfl, _, rfl, b, D, dx, _, rfl, upd_same, T.cl _ Is, T.no _ Is _ (by decide +kernel), Nat.lt_of_le_of_lt (pl h0) (by decide), _, _, rfl, _, rfl, b, D, dx, _, rfl, upd_same, T.cl _ Is, T.no _ Is _ (by decide +kernel), Nat.lt_of_le_of_lt (pl (pl h0)) (by decide), _, _, rfl, _, rfl, b, D, dx, _, rfl, upd_same, T.cl _ Is, T.no _ Is _ (by decide +kernel), Nat.lt_of_le_of_lt (pl (pl (pl h0))) (by decide), rfl, ?_⟩
    have K9 := (((K5.upd (u := .ins D dx (putF "depth" (.int (szD [t, u])) fs0))).upd (u := .ins D dx (putF "parts" (.int (szP [t, u])) (putF "depth" (.int (szD [t, u])) fs0)))).upd (u := .ins D dx (putF "looks" (.int (0 + szL [t, u])) (putF "parts" (.int (szP [t, u])) (putF "depth" (.int (szD [t, u])) fs0))))).upd (u := .ins D dx (putF "choices" (.int (0 + szC [t, u])) (putF "looks" (.int (0 + szL [t, u])) (putF "parts" (.int (szP [t, u])) (putF "depth" (.int (szD [t, u])) fs0)))))
    refine q _ ⟨dx, a, c, sp, ?_, ?_, hT.off hb K9, hU.off hb K9⟩ K9
    · rw [upd_same, hf, pre2 (by decide +kernel), fend (by rfl) (by rfl) (by rfl) (by rfl) (by rfl), hD, szD2, szP2, szL2, szC2]
      rfl
    · rw [upd_ne sb, upd_ne sb, upd_ne sb, upd_ne sb, hs5]
      simp [Tm.spell]
abbrev s_Later_init : Stmt := inClass (topS 27) 0
theorem sc_Later_init : FnScope ["self", "first", "second"] ["self", "first", "second"] (defScope s_Later_init) := ⟨rfl, rfl, rfl, by decide +kernel, rfl, by decide +kernel, by decide +kernel⟩
theorem ok_later {f : Addr} {fd : FuncData} (F : Fun K "__init__" "Later.__init__" s_Later_init f fd) (B : Blt mg) (T : TF K mg C) (G : T2 P w K mg base C) : FnOk P w K mg base CX0 2 f fd ["self", "first", "second"] (spInitP C C.later Tm.later) := by
  refine F.ok sc_Later_init (fun vs H Q E h => ?_) (fun cdv A outer s H vs Q E hr h => ?_)
  · obtain ⟨b, dx, a, c, t, u, rfl, _⟩ := h
    rfl
  · obtain ⟨b, dx, a, c, t, u, rfl, hb, hT, hU, hF, q⟩ := h
    refine ⟨_, (pss_cons (ps_fld (pv 0) (pv 1) rfl)
    (pss_cons (ps_fld (pv 0) (pv 2) rfl)
    (pss_cons (ps_fld (pv 0) (pe_tup (pa_cons pe_str (StX.pa_star (pe_fld (pv 1) rfl) (StX.pa_star (pe_fld (pv 2) rfl) pa_nil)))) rfl)
    (pss_one (ps_asg (pe_cal G.sizes (hr.mono (by decide)) pass0 (pa_cons (pe_tup (pa_cons (pv 1) (pa_cons (pv 2) pa_nil))) (pa_cons pe_int (pa_cons pe_int pa_nil)))) (pg_tup (by rfl) (pgs_cons (pg_fld (pv 0)) (pgs_cons (pg_fld (pv 0)) (pgs_cons (pg_fld (pv 0)) (pgs_cons (pg_fld (pv 0)) pgs_nil)))))))))), ?_⟩
    obtain ⟨D, hD⟩ : ∃ D, D = C.later := ⟨_, rfl⟩
    have Is : C.Is D := by rw [hD]; exact C.is_of (.later t u)
    rw [← hD] at hb
    refine ⟨_, rfl, _, rfl, b, D, dx, [], rfl, hb, T.cl _ Is, T.no _ Is _ (by decide +kernel), (by show 0 < 1000; decide), ?_⟩
    have K1 : Keep b H (upd H b (.ins D dx (putF "first" (.ref a) []))) := Keep.refl.upd
    refine ⟨_, rfl, _, rfl, b, D, dx, _, rfl, upd_same, T.cl _ Is, T.no _ Is _ (by decide +kernel), (by show 1 < 1000; decide), ?_⟩
    have K2 : Keep b H (upd _ b (.ins D dx (putF "second" (.ref c) (putF "first" (.ref a) [])))) := K1.upd
    obtain ⟨dx1, fs1, sp1, In⟩ := (hT.off hb K2).in_
    have sl := Tm.spell_len t
    obtain ⟨dx2, fs2, sp2, In2⟩ := (hU.off hb K2).in_
    have sl2 := Tm.spell_len u
    have hF2 : t.par + u.par ≤ 39 := by
      have h : 1 + (t.par + u.par) ≤ 40 := hF.2.1
      omega
    refine ⟨_, rfl, _, _, dx1, fs1, _, rfl, In.at_, T.cl _ (C.is_of _), T.no _ (C.is_of _) _ (by decide +kernel), In.spelling, sp1, _, rfl, .inl (SqT.of In.spl), _, rfl, _, _, dx2, fs2, _, rfl, In2.at_, T.cl _ (C.is_of _), T.no _ (C.is_of _) _ (by decide +kernel), In2.spelling, sp2, _, rfl, .inl (SqT.of In2.spl), ?_, fun sp hsp => ⟨_, rfl, b, D, dx, _, rfl, sameAt (Same.refl _) hsp _ _ upd_same, T.cl _ Is, T.no _ Is _ (by decide +kernel), (by show 2 < 1000; decide), ?_⟩⟩
    · show (t.spell ++ (u.spell ++ [])).length + 1 ≤ sizeLine
      rw [sizeLine_eq, List.length_append, List.append_nil]
      omega
    have sb : sp ≠ b := fun z => by rw [z, upd_same] at hsp; cases hsp
    have K3 := (K2.at hsp (u := .tup (.str "later" :: (t.spell ++ (u.spell ++ []))))).upd (u := .ins D dx (putF "spelling" (.ref sp) (putF "second" (.ref c) (putF "first" (.ref a) []))))
    refine ⟨_, rfl, _, rfl, (by show 2 ≤ sizeLine; decide), fun tp htp => ?_⟩
    have K4 := K3.at htp (u := .tup ([a, c].map V.ref))
    refine ⟨tp, [a, c], [t, u], 0, 1, rfl, upd_same, rfl, (by show 2 ≤ 2; decide), (fun i a' t' h1 h2 => ?_), ?_, ?_, ?_, fun q1 H5 s5 hq1 hq5 => ?_⟩
    · 
      match i, h1, h2 with
      | 0, h1, h2 =>
        cases h1
        cases h2
        exact hT.off hb K4
      | 1, h1, h2 =>
        cases h1
        cases h2
        exact hU.off hb K4
      | i + 2, h1, h2 => simp at h1
    · rw [szD2]; exact hF.1
    · rw [szP2]; exact hF.2.1
    · rw [szL2]; exact hF.2.2
    have K5 := K4.same s5
    obtain ⟨fs0, hf⟩ : ∃ fs0, fs0 = putF "spelling" (.ref sp) (putF "second" (.ref c) (putF "first" (.ref a) [])) := ⟨_, rfl⟩
    have HB : H5 b = some (.ins D dx fs0) := by rw [hf]; exact s5 _ _ (sameAt (Same.refl _) htp _ _ upd_same)
    have hs5 : H5 sp = some (.tup (.str "later" :: (t.spell ++ (u.spell ++ [])))) := s5 _ _ (sameAt (Same.refl _) htp _ _ (by rw [upd_ne sb, upd_same]))
    have h0 : fs0.length ≤ 3 := by rw [hf]; exact pl (pl (pl (Nat.le_refl 0)))
    refine ⟨q1, _, rfl, SqT.of hq5, rfl, _, _, rfl, _, rfl, b, D, dx, fs0, rfl, HB, T.cl _ Is, T.no _ Is _ (by decide +kernel), Nat.lt_of_le_of_lt h0 (by decide), _, _, rfl, _, rfl, b, D, dx, _, rfl, upd_same, T.cl _ Is, T.no _ Is _ (by decide +kernel), Nat.lt_of_le_of_lt (pl h0) (by decide), _, _, rfl, _, rfl, b, D, dx, _, rfl, upd_same, T.cl _ Is, T.no _ Is _ (by decide +kernel), Nat.lt_of_le_of_lt (pl (pl h0)) (by decide), _, _, rfl, _, rfl, b, D, dx, _, rfl, upd_same, T.cl _ Is, T.no _ Is _ (by decide +kernel), Nat.lt_of_le_of_lt (pl (pl (pl h0))) (by decide), rfl, ?_⟩
    have K9 := (((K5.upd (u := .ins D dx (putF "depth" (.int (szD [t, u])) fs0))).upd (u := .ins D dx (putF "parts" (.int (szP [t, u])) (putF "depth" (.int (szD [t, u])) fs0)))).upd (u := .ins D dx (putF "looks" (.int (0 + szL [t, u])) (putF "parts" (.int (szP [t, u])) (putF "depth" (.int (szD [t, u])) fs0))))).upd (u := .ins D dx (putF "choices" (.int (1 + szC [t, u])) (putF "looks" (.int (0 + szL [t, u])) (putF "parts" (.int (szP [t, u])) (putF "depth" (.int (szD [t, u])) fs0)))))
    refine q _ ⟨dx, a, c, sp, ?_, ?_, hT.off hb K9, hU.off hb K9⟩ K9
    · rw [upd_same, hf, pre2 (by decide +kernel), fend (by rfl) (by rfl) (by rfl) (by rfl) (by rfl), hD, szD2, szP2, szL2, szC2]
      rfl
    · rw [upd_ne sb, upd_ne sb, upd_ne sb, upd_ne sb, hs5]
      simp [Tm.spell]
abbrev s_Earlier_init : Stmt := inClass (topS 28) 0
theorem sc_Earlier_init : FnScope ["self", "first", "second"] ["self", "first", "second"] (defScope s_Earlier_init) := ⟨rfl, rfl, rfl, by decide +kernel, rfl, by decide +kernel, by decide +kernel⟩
theorem ok_earlier {f : Addr} {fd : FuncData} (F : Fun K "__init__" "Earlier.__init__" s_Earlier_init f fd) (B : Blt mg) (T : TF K mg C) (G : T2 P w K mg base C) : FnOk P w K mg base CX0 2 f fd ["self", "first", "second"] (spInitP C C.earlier Tm.earlier) := by
  refine F.ok sc_Earlier_init (fun vs H Q E h => ?_) (fun cdv A outer s H vs Q E hr h => ?_)
  · obtain ⟨b, dx, a, c, t, u, rfl, _⟩ := h
    rfl
  · obtain ⟨b, dx, a, c, t, u, rfl, hb, hT, hU, hF, q⟩ := h
    refine ⟨_, (pss_cons (ps_fld (pv 0) (pv 1) rfl)
    (pss_cons (ps_fld (pv 0) (pv 2) rfl)
    (pss_cons (ps_fld (pv 0) (pe_tup (pa_cons pe_str (StX.pa_star (pe_fld (pv 1) rfl) (StX.pa_star (pe_fld (pv 2) rfl) pa_nil)))) rfl)
    (pss_one (ps_asg (pe_cal G.sizes (hr.mono (by decide)) pass0 (pa_cons (pe_tup (pa_cons (pv 1) (pa_cons (pv 2) pa_nil))) (pa_cons pe_int (pa_cons pe_int pa_nil)))) (pg_tup (by rfl) (pgs_cons (pg_fld (pv 0)) (pgs_cons (pg_fld (pv 0)) (pgs_cons (pg_fld (pv 0)) (pgs_cons (pg_fld (pv 0)) pgs_nil)))))))))), ?_⟩
    obtain ⟨D, hD⟩ : ∃ D, D = C.earlier := ⟨_, rfl⟩
    have Is : C.Is D := by rw [hD]; exact C.is_of (.earlier t u)
    rw [← hD] at hb
    refine ⟨_, rfl, _, rfl, b, D, dx, [], rfl, hb, T.cl _ Is, T.no _ Is _ (by decide +kernel), (by show 0 < 1000; decide), ?_⟩
    have K1 : Keep b H (upd H b (.ins D dx (putF "first" (.ref a) []))) := Keep.refl.upd
    refine ⟨_, rfl, _, rfl, b, D, dx, _, rfl, upd_same, T.cl _ Is, T.no _ Is _ (by decide +kernel), (by show 1 < 1000; decide), ?_⟩
    have K2 : Keep b H (upd _ b (.ins D dx (putF "second" (.ref c) (putF "first" (.ref a) [])))) := K1.upd
    obtain ⟨dx1, fs1, sp1, In⟩ := (hT.off hb K2).in_
    have sl := Tm.spell_len t
    obtain ⟨dx2, fs2, sp2, In2⟩ := (hU.off hb K2).in_
    have sl2 := Tm.spell_len u
    have hF2 : t.par + u.par ≤ 39 := by
      have h : 1 + (t.par + u.par) ≤ 40 := hF.2.1
      omega
    refine ⟨_, rfl, _, _, dx1, fs1, _, rfl, In.at_, T.cl _ (C.is_of _), T.no _ (C.is_of _) _ (by decide +kernel), In.spelling, sp1, _, rfl, .inl (SqT.of In.spl), _, rfl, _, _, dx2, fs2, _, rfl, In2.at_, T.cl _ (C.is_of _), T.no _ (C.is_of _) _ (by decide +kernel), In2.spelling, sp2, _, rfl, .inl (SqT.of In2.spl), ?_, fun sp hsp => ⟨_, rfl, b, D, dx, _, rfl, sameAt (Same.refl _) hsp _ _ upd_same, T.cl _ Is, T.no _ Is _ (by decide +kernel), (by show 2 < 1000; decide), ?_⟩⟩
    · show (t.spell ++ (u.spell ++ [])).length + 1 ≤ sizeLine
      rw [sizeLine_eq, List.length_append, List.append_nil]
      omega
    have sb : sp ≠ b := fun z => by rw [z, upd_same] at hsp; cases hsp
    have K3 := (K2.at hsp (u := .tup (.str "earlier" :: (t.spell ++ (u.spell ++ []))))).upd (u := .ins D dx (putF "spelling" (.ref sp) (putF "second" (.ref c) (putF "first" (.ref a) []))))
    refine ⟨_, rfl, _, rfl, (by show 2 ≤ sizeLine; decide), fun tp htp => ?_⟩
    have K4 := K3.at htp (u := .tup ([a, c].map V.ref))
    refine ⟨tp, [a, c], [t, u], 0, 1, rfl, upd_same, rfl, (by show 2 ≤ 2; decide), (fun i a' t' h1 h2 => ?_), ?_, ?_, ?_, fun q1 H5 s5 hq1 hq5 => ?_⟩
    · 
      match i, h1, h2 with
      | 0, h1, h2 =>
        cases h1
        cases h2
        exact hT.off hb K4
      | 1, h1, h2 =>
        cases h1
        cases h2
        exact hU.off hb K4
      | i + 2, h1, h2 => simp at h1
    · rw [szD2]; exact hF.1
    · rw [szP2]; exact hF.2.1
    · rw [szL2]; exact hF.2.2
    have K5 := K4.same s5
    obtain ⟨fs0, hf⟩ : ∃ fs0, fs0 = putF "spelling" (.ref sp) (putF "second" (.ref c) (putF "first" (.ref a) [])) := ⟨_, rfl⟩
    have HB : H5 b = some (.ins D dx fs0) := by rw [hf]; exact s5 _ _ (sameAt (Same.refl _) htp _ _ upd_same)
    have hs5 : H5 sp = some (.tup (.str "earlier" :: (t.spell ++ (u.spell ++ [])))) := s5 _ _ (sameAt (Same.refl _) htp _ _ (by rw [upd_ne sb, upd_same]))
    have h0 : fs0.length ≤ 3 := by rw [hf]; exact pl (pl (pl (Nat.le_refl 0)))
    refine ⟨q1, _, rfl, SqT.of hq5, rfl, _, _, rfl, _, rfl, b, D, dx, fs0, rfl, HB, T.cl _ Is, T.no _ Is _ (by decide +kernel), Nat.lt_of_le_of_lt h0 (by decide), _, _, rfl, _, rfl, b, D, dx, _, rfl, upd_same, T.cl _ Is, T.no _ Is _ (by decide +kernel), Nat.lt_of_le_of_lt (pl h0) (by decide), _, _, rfl, _, rfl, b, D, dx, _, rfl, upd_same, T.cl _ Is, T.no _ Is _ (by decide +kernel), Nat.lt_of_le_of_lt (pl (pl h0)) (by decide), _, _, rfl, _, rfl, b, D, dx, _, rfl, upd_same, T.cl _ Is, T.no _ Is _ (by decide +kernel), Nat.lt_of_le_of_lt (pl (pl (pl h0))) (by decide), rfl, ?_⟩
    have K9 := (((K5.upd (u := .ins D dx (putF "depth" (.int (szD [t, u])) fs0))).upd (u := .ins D dx (putF "parts" (.int (szP [t, u])) (putF "depth" (.int (szD [t, u])) fs0)))).upd (u := .ins D dx (putF "looks" (.int (0 + szL [t, u])) (putF "parts" (.int (szP [t, u])) (putF "depth" (.int (szD [t, u])) fs0))))).upd (u := .ins D dx (putF "choices" (.int (1 + szC [t, u])) (putF "looks" (.int (0 + szL [t, u])) (putF "parts" (.int (szP [t, u])) (putF "depth" (.int (szD [t, u])) fs0)))))
    refine q _ ⟨dx, a, c, sp, ?_, ?_, hT.off hb K9, hU.off hb K9⟩ K9
    · rw [upd_same, hf, pre2 (by decide +kernel), fend (by rfl) (by rfl) (by rfl) (by rfl) (by rfl), hD, szD2, szP2, szL2, szC2]
      rfl
    · rw [upd_ne sb, upd_ne sb, upd_ne sb, upd_ne sb, hs5]
      simp [Tm.spell]
end
end Ash

set_option Elab.async false
set_option linter.all false
set_option maxRecDepth 100000
set_option maxHeartbeats 4000000
namespace Ash
open PySem PySem.Spec PyProof.Rows L2 SrtT
open C8 (pss_cut)
section
variable {X : Cx} {CX : CXT} {k : Nat} {ps : List Str} {sp : Sp} {E : XK} {o e : Expr} {es : List Expr} {ta : TE} {t : TA} {C : Addr} {m : Str} {apos pos : Pos}
theorem pe_met {pl : Sem Bool} (c : Cls X.K C) (G : Met X.prog X.w X.K X.mg X.base CX C m k ps sp) (hr : Room k X.A) (hx : Passes CX X E) (ho : PE X o ta) (ha : PA X (e :: es) t) 
    (he : starEach (e :: es) X.env = (false, eval e X.env) :: starEach es X.env := by rfl) (hpl : (backTo pos (starEach es X.env)).any (·.1) = false := by rfl)
    (ht : eval (.Call (.Attribute o m apos) (e :: es) [] pos) X.env = (do
      let ov ← eval o X.env
      standAt apos.atName
      let (f, first) ← holding [ov] (getMethod ov m pl)
      callWith pos f first (backTo pos (starEach (e :: es) X.env)) (backToKw pos (keywordEach [] X.env))) := by rfl) :
    PE X (.Call (.Attribute o m apos) (e :: es) [] pos) (tMeth C m sp [] E ta t) := by
  obtain ⟨f, fd, hm, hb, F⟩ := G.ex
  exact pe_meth ho c hm F hr hb .nil hx ha he hpl ht
end
/-! ### what a term answers -/
def lastR (rs : List T3) (m : Int) : Option T3 := (rs.filter fun t => decide (t.1 ≤ m)).getLast?
def nextR (rs : List T3) (m : Int) : Option T3 := (rs.filter fun t => decide (m ≤ t.1)).head?
abbrev Rs := Option Int × List Int
def lookR (r : Rs) (f : Int → Option T3) : Rs := match r.1 with
  | none => (none, r.2)
  | some m => match f m with
    | none => (none, r.2)
    | some t => (some t.1, r.2 ++ [t.2.1])
def moveR (r : Rs) (n : Int) : Rs := match r.1 with
  | none => (none, r.2)
  | some m => (some (m + n), r.2)
def eithR (r s : Rs) : Rs := match r.1 with
  | some m => (some m, r.2)
  | none => (s.1, r.2 ++ s.2)
def bothR (f : Int → Int → Int) (r s : Rs) : Rs := match r.1 with
  | none => (none, r.2)
  | some m => match s.1 with
    | none => (none, r.2 ++ s.2)
    | some k => (some (f m k), r.2 ++ s.2)
def mxI (i j : Int) : Int := if j > i then j else i
def mnI (i j : Int) : Int := if j < i then j else i
def ev (W : Tr) (now : Int) : Tm → Rs
  | .now => (some now, [])
  | .last s t => lookR (ev W now t) (lastR (W s))
  | .next s t => lookR (ev W now t) (nextR (W s))
  | .shift n t => moveR (ev W now t) n
  | .either a b => eithR (ev W now a) (ev W now b)
  | .later a b => bothR mxI (ev W now a) (ev W now b)
  | .earlier a b => bothR mnI (ev W now a) (ev W now b)
theorem lookR_len {r : Rs} {f : Int → Option T3} : (lookR r f).2.length ≤ 1 + r.2.length := by
  unfold lookR
  split
  · show r.2.length ≤ _; omega
  · split
    · show r.2.length ≤ _; omega
    · show (r.2 ++ [_]).length ≤ _
      rw [List.length_append]
      show r.2.length + 1 ≤ _
      omega
theorem moveR_len {r : Rs} {n : Int} : (moveR r n).2.length = r.2.length := by
  unfold moveR
  split <;> rfl
theorem eithR_len {r s : Rs} : (eithR r s).2.length ≤ r.2.length + s.2.length := by
  unfold eithR
  split
  · show r.2.length ≤ _; omega
  · show (r.2 ++ s.2).length ≤ _
    rw [List.length_append]
    omega
theorem bothR_len {g : Int → Int → Int} {r s : Rs} : (bothR g r s).2.length ≤ r.2.length + s.2.length := by
  unfold bothR
  split
  · show r.2.length ≤ _; omega
  · split
    · show (r.2 ++ s.2).length ≤ _
      rw [List.length_append]
      omega
    · show (r.2 ++ s.2).length ≤ _
      rw [List.length_append]
      omega
theorem ev_len {W : Tr} {now : Int} : ∀ t : Tm, ((ev W now t).2.length : Int) ≤ t.lok
  | .now => by show ((0 : Nat) : Int) ≤ 0; omega
  | .last s t => by
    have := ev_len (W := W) (now := now) t
    have h := lookR_len (r := ev W now t) (f := lastR (W s))
    show ((lookR (ev W now t) (lastR (W s))).2.length : Int) ≤ 1 + t.lok
    omega
  | .next s t => by
    have := ev_len (W := W) (now := now) t
    have h := lookR_len (r := ev W now t) (f := nextR (W s))
    show ((lookR (ev W now t) (nextR (W s))).2.length : Int) ≤ 1 + t.lok
    omega
  | .shift n t => by
    have := ev_len (W := W) (now := now) t
    have h := moveR_len (r := ev W now t) (n := n)
    show ((moveR (ev W now t) n).2.length : Int) ≤ 0 + t.lok
    omega
  | .either a b => by
    have h1 := ev_len (W := W) (now := now) a
    have h2 := ev_len (W := W) (now := now) b
    have h := eithR_len (r := ev W now a) (s := ev W now b)
    show ((eithR (ev W now a) (ev W now b)).2.length : Int) ≤ 0 + (a.lok + b.lok)
    omega
  | .later a b => by
    have h1 := ev_len (W := W) (now := now) a
    have h2 := ev_len (W := W) (now := now) b
    have h := bothR_len (g := mxI) (r := ev W now a) (s := ev W now b)
    show ((bothR mxI (ev W now a) (ev W now b)).2.length : Int) ≤ 0 + (a.lok + b.lok)
    omega
  | .earlier a b => by
    have h1 := ev_len (W := W) (now := now) a
    have h2 := ev_len (W := W) (now := now) b
    have h := bothR_len (g := mnI) (r := ev W now a) (s := ev W now b)
    show ((bothR mnI (ev W now a) (ev W now b)).2.length : Int) ≤ 0 + (a.lok + b.lok)
    omega
/-- all its streams are names -/
def Tm.NmS : Tm → Prop
  | .now => True
  | .last s t => IsNm s ∧ t.NmS
  | .next s t => IsNm s ∧ t.NmS
  | .shift _ t => t.NmS
  | .either a b => a.NmS ∧ b.NmS
  | .later a b => a.NmS ∧ b.NmS
  | .earlier a b => a.NmS ∧ b.NmS
/-- t + n -/
def Tm.plus (t : Tm) (n : Int) : Tm := if n = 0 then t else match t with
  | .shift m u => if m + n = 0 then u else .shift (m + n) u
  | t => .shift n t
def oV : Option Int → V
  | none => .non
  | some i => .int i
def RowV (H : Hp) (v : V) : Option T3 → Prop
  | none => v = .non
  | some t => ∃ e, v = .ref e ∧ H e = some (.tup (tv t))
/-- a pair of an answer and what was seen -/
def Ans (H : Hp) (Q : VK) (r : Rs) : Prop := ∀ (q l : Addr) H', Same H H' → H' q = some (.tup [oV r.1, .ref l]) → H' l = some (.lst (r.2.map V.int)) → Q (.ref q) H'
def spShifted (C : TC) : Sp := fun vs H Q _ => ∃ (a : Addr) (t : Tm) (n : Int), vs = [.ref a, .int n] ∧ TmAt C H a t ∧ (t.plus n).Fit ∧ ∀ a' H', TmAt C H' a' (t.plus n) → Same H H' → Q (.ref a') H'
def spLastRow (CW : Addr) (g : List T3 → Int → Option T3) : Sp := fun vs H Q _ => ∃ (a : Addr) (W : Tr) (z : Str) (m : Int), vs = [.ref a, .str z, .int m] ∧ WAt CW H a W ∧ IsNm z ∧ ∀ v H', Same H H' → RowV H' v (g (W z) m) → Q v H'
def spFol (C : TC) (CW : Addr) (d : Nat) : Sp := fun vs H Q _ => ∃ (a b : Addr) (t : Tm) (W : Tr) (now : Int), vs = [.ref a, .ref b, .int now] ∧ TmAt C H a t ∧ WAt CW H b W ∧ t.NmS ∧ t.Fit ∧ t.dep ≤ (d : Int) ∧ Ans H Q (ev W now t)
def spMoved (C : TC) (CW : Addr) (d : Nat) : Sp := fun vs H Q _ => ∃ (a b : Addr) (t : Tm) (W : Tr) (now n : Int), vs = [.ref a, .ref b, .int now] ∧ TmAt C H a (.shift n t) ∧ WAt CW H b W ∧ t.NmS ∧ t.Fit ∧ t.dep ≤ (d : Int) ∧ Ans H Q (ev W now (.shift n t))
def spLooked (C : TC) (CW : Addr) (d : Nat) : Sp := fun vs H Q _ => ∃ (a b : Addr) (t u : Tm) (s : Str) (W : Tr) (now : Int), vs = [.ref a, .ref b, .int now, .int 0] ∧ TmAt C H a u ∧ (u = .last s t ∨ u = .next s t) ∧ WAt CW H b W ∧ IsNm s ∧ t.NmS ∧ t.Fit ∧ t.dep ≤ (d : Int) ∧ Ans H Q (ev W now u)
def spEith (C : TC) (CW : Addr) (d : Nat) : Sp := fun vs H Q _ => ∃ (a b : Addr) (t u : Tm) (W : Tr) (now : Int), vs = [.ref a, .ref b, .int now] ∧ TmAt C H a (.either t u) ∧ WAt CW H b W ∧ t.NmS ∧ u.NmS ∧ t.Fit ∧ u.Fit ∧ t.dep ≤ (d : Int) ∧ u.dep ≤ (d : Int) ∧ Ans H Q (ev W now (.either t u))
def spBoth (C : TC) (CW : Addr) (d : Nat) : Sp := fun vs H Q _ => ∃ (a b : Addr) (t u x : Tm) (W : Tr) (now : Int), vs = [.ref a, .ref b, .int now] ∧ TmAt C H a x ∧ (x = .later t u ∨ x = .earlier t u) ∧ WAt CW H b W ∧ t.NmS ∧ u.NmS ∧ t.Fit ∧ u.Fit ∧ t.dep ≤ (d : Int) ∧ u.dep ≤ (d : Int) ∧ Ans H Q (ev W now x)
theorem keep_make {H H' : Hp} {x dx : Addr} {o1 o2 : HO} (k : Keep x (upd (upd H dx o1) x o2) H') (hx : H x = none) (hd : H dx = none) : Same H H' := fun c o hc => k c o (by rw [upd_ne (ne_of_none hc hx), upd_ne (ne_of_none hc hd)]; exact hc) (ne_of_none hc hx)
def Tm.isShift : Tm → Bool
  | .shift _ _ => true
  | _ => false
theorem TD.shift {C : TC} (D : TD C) (t : Tm) : decide (C.of t = C.shift) = t.isShift := by
  have h := D.nd
  simp only [List.nodup_cons, List.mem_cons, List.not_mem_nil, or_false, not_or] at h
  obtain ⟨⟨a1, a2, a3, a4, a5, a6⟩, ⟨b1, b2, b3, b4, b5⟩, ⟨c1, c2, c3, c4⟩, ⟨d1, d2, d3⟩, _⟩ := h
  cases t <;> simp [TC.of, Tm.isShift, a1, a2, a3, b2, c1, Ne.symm d1, Ne.symm d2, Ne.symm d3]
theorem plus_no {t : Tm} {n : Int} (h : t.isShift = false) (n0 : ¬ n = 0) : t.plus n = .shift n t := by
  unfold Tm.plus
  rw [if_neg n0]
  cases t <;> first | rfl | exact absurd h (by simp [Tm.isShift])
section
variable {P : Program} {w : World} {K : PySem.W.Frag} {mg : Str → Option Value} {base : Heap} {C : TC} {CW : Addr}
structure T3s (P : Program) (w : World) (K : PySem.W.Frag) (mg : Str → Option Value) (base : Heap) (C : TC) (CW : Addr) : Prop extends T2 P w K mg base C where
  Shift : Mak P w K mg base CX0 "Shift" C.shift 2 ["self", "term", "amount"] (spInitS C)
  rows : Met P w K mg base CX0 CW "rows" 2 ["self", "stream"] (spWorldRows CW)
abbrev s_shifted : Stmt := topS 34
theorem sc_shifted : FnScope ["term", "amount", "inner", "total"] ["term", "amount"] (defScope s_shifted) := ⟨rfl, rfl, rfl, by decide +kernel, rfl, by decide +kernel, by decide +kernel⟩
theorem ok_shifted {f : Addr} {fd : FuncData} (F : Fun K "shifted" "shifted" s_shifted f fd) (B : Blt mg) (T : TF K mg C) (D : TD C) (G : T3s P w K mg base C CW) : FnOk P w K mg base CX0 4 f fd ["term", "amount"] (spShifted C) := by
  obtain ⟨t_cl, t_no, t_ty, t_one, c_Now, c_Last, c_Next, c_Shift, c_Either, c_Later, c_Earlier⟩ := id T
  refine F.ok sc_shifted (fun vs H Q E h => ?_) (fun cdv A outer s H vs Q E hr h => ?_)
  · obtain ⟨a, t, n, rfl, _⟩ := h
    rfl
  · obtain ⟨a, t, n, rfl, hT, hF, q⟩ := h
    refine ⟨_, (pss_cons (ps_if (pt_cmpR op_eq (pv 1) pe_int (nomark _))
      (pss_one (ps_ret (pv 0)))
      pss_nil)
    (pss_cons (ps_par (i := 2) (j := 3) (by rfl) sc_shifted.nd rfl rfl (by decide) rfl rfl (pa_cons (pv 0) (pa_cons (pv 1) pa_nil)) (by rfl))
    (pss_cons (ps_if (pt_val (pe_callB call_isi (by rfl) B.isinstance (by decide +kernel) (pa_cons (pv 0) (pa_cons (pe_glob (v := .ref C.shift) (by rfl) c_Shift rfl) pa_nil))))
      (pss_one (ps_par (i := 2) (j := 3) (by rfl) sc_shifted.nd rfl rfl (by decide) rfl rfl (pa_cons (pe_fld (pv 0) rfl) (pa_cons (pe_op op_add (pe_fld (pv 0) rfl) (pv 1)) pa_nil)) (by rfl)))
      pss_nil)
    (pss_cons (ps_if (pt_cmpR op_eq (pv 3) pe_int (nomark _))
      (pss_one (ps_ret (pv 2)))
      pss_nil)
    (pss_one (ps_ret (pe_mak G.Shift (hr.mono (by decide)) pass0 (pa_cons (pv 2) (pa_cons (pv 3) pa_nil))))))))), ?_⟩
    refine ⟨_, rfl, rfl, _, rfl, ?_⟩
    refine ite2 (fun c => ?_) (fun c => ?_)
    · have n0 : n = 0 := V.int.inj (of_decide_eq_true c)
      subst n0
      have q : ∀ a' H', TmAt C H' a' t → Same H H' → Q (.ref a') H' := q
      exact ⟨_, rfl, q a H hT (Same.refl H)⟩
    · have n0 : ¬ n = 0 := fun z => by rw [z] at c; simp at c
      have tx := T.tyx hT
      have k := T.one (C.of t) C.shift (C.is_of t) (C.is_of (.shift 0 .now))
      rw [D.shift] at k
      refine ⟨_, rfl, _, rfl, _, _, rfl, _, rfl, _, _, _, _, _, rfl, .own _, tx, k, _, rfl, ?_⟩
      cases hs : t.isShift with
      | false =>
        rw [plus_no hs n0] at hF q
        refine iteF ⟨_, rfl, rfl, _, rfl, ?_⟩
        rw [show decide (V.int n = V.int 0) = false from decide_eq_false fun z => n0 (V.int.inj z)]
        refine iteF ⟨_, rfl, _, rfl, fun x dx hx hdx hne => ⟨x, dx, a, n, t, rfl, upd_same, hT.same (sameAt (sameAt (Same.refl H) hdx) hx), hF, fun H' hT' hK => ⟨rfl, q x H' hT' (keep_make hK hx hdx)⟩⟩⟩
      | true =>
        cases t with
        | shift m u =>
          have e : (Tm.shift m u).plus n = if m + n = 0 then u else .shift (m + n) u := by
            show (if n = 0 then _ else _) = _
            rw [if_neg n0]
          rw [e] at hF q
          obtain ⟨dx, b, sp, h1, h2, h3⟩ := id hT
          have Is : C.Is C.shift := C.is_of (.shift 0 .now)
          refine iteT ⟨_, rfl, a, C.shift, dx, _, _, rfl, h1, T.cl _ Is, T.no _ Is _ (by decide +kernel), rfl, _, rfl, a, C.shift, dx, _, _, rfl, h1, T.cl _ Is, T.no _ Is _ (by decide +kernel), rfl, _, rfl, _, _, rfl, rfl, _, _, rfl, ?_⟩
          refine ⟨_, rfl, rfl, _, rfl, ?_⟩
          refine ite2 (fun c2 => ?_) (fun c2 => ?_)
          · have z : m + n = 0 := V.int.inj (of_decide_eq_true c2)
            rw [if_pos z] at q
            exact ⟨_, rfl, q b H h3 (Same.refl H)⟩
          · have z : ¬ m + n = 0 := fun z => c2 (decide_eq_true (by show V.int (m + n) = V.int 0; rw [z]))
            rw [if_neg z] at q hF
            exact ⟨_, rfl, _, rfl, fun x dx hx hdx hne => ⟨x, dx, b, m + n, u, rfl, upd_same, h3.same (sameAt (sameAt (Same.refl H) hdx) hx), hF, fun H' hT' hK => ⟨rfl, q x H' hT' (keep_make hK hx hdx)⟩⟩⟩
        | _ => exact absurd hs (by simp [Tm.isShift])
abbrev s_last_row : Stmt := topS 64
theorem sc_last_row : FnScope ["world", "stream", "moment", "rows", "row"] ["world", "stream", "moment"] (defScope s_last_row) := ⟨rfl, rfl, rfl, by decide +kernel, rfl, by decide +kernel, by decide +kernel⟩
theorem ok_lastrow {f : Addr} {fd : FuncData} (F : Fun K "last_row" "last_row" s_last_row f fd) (B : Blt mg) (T0 : Cw K mg CW) (G : T3s P w K mg base C CW) : FnOk P w K mg base CX0 3 f fd ["world", "stream", "moment"] (spLastRow CW lastR) := by
  refine F.ok sc_last_row (fun vs H Q E h => ?_) (fun cdv A outer s H vs Q E hr h => ?_)
  · obtain ⟨a, W, z, m, rfl, _⟩ := h
    rfl
  · obtain ⟨a, W, z, m, rfl, hW, hz, q⟩ := h
    refine ⟨_, (pss_cons (ps_setLc (i := 3) (own := [("row", 4)]) (g := gName 4) (by rfl) sc_last_row.nd rfl rfl (sw_true rfl rfl rfl (by decide +kernel)) (pi_list (pe_met T0.cl G.rows (hr.mono (by decide)) pass0 (pv 0) (pa_cons (pv 1) pa_nil))) (blkOk_by (own := [("row", 4)]) (N := ["world", "stream", "moment", "rows", "row"]) (sc := defScope s_last_row) (by decide +kernel)) (fun _ _ _ _ _ => (pg_name (i := 4) sc_last_row.nd rfl (Or.inl rfl))) (fun _ _ _ _ _ => pts_one (pt_cmpR op_le (pe_ix (show IxR _ (rIxT K) from ix_tup) (pv 4) pe_int (fun _ _ => rfl)) (pv 2) (nomark _))) (fun _ _ _ _ _ => (pv 4)))
    (pss_cons (ps_if (pt_cmpR op_eq (pe_callB call_len_seq (by rfl) B.len (by decide +kernel) (pa_cons (pv 3) pa_nil)) pe_int (nomark _))
      (pss_one (ps_ret pe_non))
      pss_nil)
    (pss_one (ps_ret (pe_ix ix_list (pv 3) (pe_un un_neg pe_int) (fun _ _ => rfl)))))), ?_⟩
    obtain ⟨dx, d, t, kvs, ids, h1, h2, h3, h4⟩ := id hW
    have l4 := (h4 z).1
    refine ⟨_, rfl, a, dx, _, rfl, h1, rfl, _, rfl, a, W, z, rfl, hW, hz, fun p ys H1 s1 hp hys hTr => ?_⟩
    refine ⟨p, rfl, ⟨_, SqL.of hys⟩, fun D hD => lc_it (walk_list (xs := ys)) (fun i H2 => (∃ zs, H2 D = some (.lst zs) ∧ TrAt H2 zs (((W z).take i).filter (fun t : T3 => decide (t.1 ≤ m)))) ∧ Same H1 H2) ⟨⟨[], upd_same, rfl, fun i v t a b => by simp at a⟩, sameAt (Same.refl H1) hD⟩ (fun i H2 _ hv => SqL.of (hv.2 _ _ hys)) ?_ ?_⟩
    · rintro i x H2 H3 hi ⟨⟨zs, hD2, hT2⟩, s2⟩ ⟨rfl, hx⟩
      have hi2 : i < (W z).length := by rw [← hTr.1]; exact hi
      obtain ⟨t, ht⟩ : ∃ t, (W z)[i]? = some t := ⟨_, List.getElem?_eq_getElem hi2⟩
      obtain ⟨e, rfl, he⟩ := hTr.2 i x t hx ht
      have he1 := s2 _ _ he
      have tk : ∀ {u} t xs, H3 t = some (.tup xs) → upd H3 D (.lst u) t = some (.tup xs) := fun {u} t xs q => by rw [upd_ne (ne_of q hD2 (by intro z; cases z))]; exact q
      refine ⟨rfl, _, rfl, _, _, _, _, rfl, rfl, SqT.of he1, rfl, _, rfl, _, _, rfl, rfl, _, rfl, ?_⟩
      rw [list_take ht, List.filter_append]
      have lz : zs.length ≤ 400 := by
        rw [hT2.1]
        refine Nat.le_trans (List.length_filter_le _ _) ?_
        rw [List.length_take]
        omega
      refine ite2 (fun c => ?_) (fun c => ?_)
      · refine ⟨_, rfl, zs, hD2, small1000 (by omega), ⟨_, upd_same, ?_⟩, sameAt s2 hD⟩
        rw [show List.filter (fun t : T3 => decide (t.1 ≤ m)) [t] = [t] by rw [List.filter_cons, if_pos c]; rfl]
        exact (hT2.tk tk).snoc (tk _ _ he1)
      · refine ⟨⟨zs, hD2, ?_⟩, s2⟩
        rw [show List.filter (fun t : T3 => decide (t.1 ≤ m)) [t] = [] by rw [List.filter_cons, if_neg c]; rfl, List.append_nil]
        exact hT2
    · rintro H2 ⟨⟨zs, hD2, hT2⟩, s2⟩
      rw [hTr.1, List.take_length] at hT2
      have s12 := s1.trans s2
      refine ⟨_, rfl, _, _, rfl, .inl (SqL.of hD2), rfl, _, rfl, ?_⟩
      cases zs with
      | nil =>
        have e : (W z).filter (fun t : T3 => decide (t.1 ≤ m)) = [] := List.length_eq_zero_iff.mp hT2.1.symm
        refine iteT (q .non H2 s12 ?_)
        rw [show lastR (W z) m = ((W z).filter (fun t : T3 => decide (t.1 ≤ m))).getLast? from rfl, e]
        rfl
      | cons y yr =>
        rw [show decide (V.int (((y :: yr).length : Nat) : Int) = V.int 0) = false from decide_eq_false fun z => by
          have := V.int.inj z
          rw [List.length_cons] at this
          omega]
        refine iteF ?_
        obtain ⟨t, ht⟩ : ∃ t, ((W z).filter (fun t : T3 => decide (t.1 ≤ m)))[yr.length]? = some t := ⟨_, List.getElem?_eq_getElem (by rw [← hT2.1, List.length_cons]; omega)⟩
        obtain ⟨e, he, het⟩ := hT2.get ht
        refine ⟨_, rfl, _, rfl, D, y :: yr, -1, .ref e, rfl, rfl, SqL.of hD2, ?_, q _ H2 s12 ?_⟩
        · unfold atI ixN
          rw [if_neg (by decide), if_pos (by rw [List.length_cons]; omega), Option.bind_some, show ((-1 : Int) + (((y :: yr).length : Nat) : Int)).toNat = yr.length by rw [List.length_cons]; omega]
          exact he
        · show RowV H2 (.ref e) (((W z).filter (fun t : T3 => decide (t.1 ≤ m))).getLast?)
          rw [List.getLast?_eq_getElem?, ← hT2.1, List.length_cons, Nat.add_sub_cancel, ht]
          exact ⟨e, rfl, het⟩
abbrev s_next_row : Stmt := topS 65
theorem sc_next_row : FnScope ["world", "stream", "moment", "rows", "row"] ["world", "stream", "moment"] (defScope s_next_row) := ⟨rfl, rfl, rfl, by decide +kernel, rfl, by decide +kernel, by decide +kernel⟩
theorem ok_nextrow {f : Addr} {fd : FuncData} (F : Fun K "next_row" "next_row" s_next_row f fd) (B : Blt mg) (T0 : Cw K mg CW) (G : T3s P w K mg base C CW) : FnOk P w K mg base CX0 3 f fd ["world", "stream", "moment"] (spLastRow CW nextR) := by
  refine F.ok sc_next_row (fun vs H Q E h => ?_) (fun cdv A outer s H vs Q E hr h => ?_)
  · obtain ⟨a, W, z, m, rfl, _⟩ := h
    rfl
  · obtain ⟨a, W, z, m, rfl, hW, hz, q⟩ := h
    refine ⟨_, (pss_cons (ps_setLc (i := 3) (own := [("row", 4)]) (g := gName 4) (by rfl) sc_next_row.nd rfl rfl (sw_true rfl rfl rfl (by decide +kernel)) (pi_list (pe_met T0.cl G.rows (hr.mono (by decide)) pass0 (pv 0) (pa_cons (pv 1) pa_nil))) (blkOk_by (own := [("row", 4)]) (N := ["world", "stream", "moment", "rows", "row"]) (sc := defScope s_next_row) (by decide +kernel)) (fun _ _ _ _ _ => (pg_name (i := 4) sc_next_row.nd rfl (Or.inl rfl))) (fun _ _ _ _ _ => pts_one (pt_cmpR op_ge (pe_ix (show IxR _ (rIxT K) from ix_tup) (pv 4) pe_int (fun _ _ => rfl)) (pv 2) (nomark _))) (fun _ _ _ _ _ => (pv 4)))
    (pss_cons (ps_if (pt_cmpR op_eq (pe_callB call_len_seq (by rfl) B.len (by decide +kernel) (pa_cons (pv 3) pa_nil)) pe_int (nomark _))
      (pss_one (ps_ret pe_non))
      pss_nil)
    (pss_one (ps_ret (pe_ix ix_list (pv 3) pe_int (fun _ _ => rfl)))))), ?_⟩
    obtain ⟨dx, d, t, kvs, ids, h1, h2, h3, h4⟩ := id hW
    have l4 := (h4 z).1
    refine ⟨_, rfl, a, dx, _, rfl, h1, rfl, _, rfl, a, W, z, rfl, hW, hz, fun p ys H1 s1 hp hys hTr => ?_⟩
    refine ⟨p, rfl, ⟨_, SqL.of hys⟩, fun D hD => lc_it (walk_list (xs := ys)) (fun i H2 => (∃ zs, H2 D = some (.lst zs) ∧ TrAt H2 zs (((W z).take i).filter (fun t : T3 => decide (m ≤ t.1)))) ∧ Same H1 H2) ⟨⟨[], upd_same, rfl, fun i v t a b => by simp at a⟩, sameAt (Same.refl H1) hD⟩ (fun i H2 _ hv => SqL.of (hv.2 _ _ hys)) ?_ ?_⟩
    · rintro i x H2 H3 hi ⟨⟨zs, hD2, hT2⟩, s2⟩ ⟨rfl, hx⟩
      have hi2 : i < (W z).length := by rw [← hTr.1]; exact hi
      obtain ⟨t, ht⟩ : ∃ t, (W z)[i]? = some t := ⟨_, List.getElem?_eq_getElem hi2⟩
      obtain ⟨e, rfl, he⟩ := hTr.2 i x t hx ht
      have he1 := s2 _ _ he
      have tk : ∀ {u} t xs, H3 t = some (.tup xs) → upd H3 D (.lst u) t = some (.tup xs) := fun {u} t xs q => by rw [upd_ne (ne_of q hD2 (by intro z; cases z))]; exact q
      refine ⟨rfl, _, rfl, _, _, _, _, rfl, rfl, SqT.of he1, rfl, _, rfl, _, _, rfl, rfl, _, rfl, ?_⟩
      rw [list_take ht, List.filter_append]
      have lz : zs.length ≤ 400 := by
        rw [hT2.1]
        refine Nat.le_trans (List.length_filter_le _ _) ?_
        rw [List.length_take]
        omega
      refine ite2 (fun c => ?_) (fun c => ?_)
      · refine ⟨_, rfl, zs, hD2, small1000 (by omega), ⟨_, upd_same, ?_⟩, sameAt s2 hD⟩
        rw [show List.filter (fun t : T3 => decide (m ≤ t.1)) [t] = [t] by rw [List.filter_cons, if_pos c]; rfl]
        exact (hT2.tk tk).snoc (tk _ _ he1)
      · refine ⟨⟨zs, hD2, ?_⟩, s2⟩
        rw [show List.filter (fun t : T3 => decide (m ≤ t.1)) [t] = [] by rw [List.filter_cons, if_neg c]; rfl, List.append_nil]
        exact hT2
    · rintro H2 ⟨⟨zs, hD2, hT2⟩, s2⟩
      rw [hTr.1, List.take_length] at hT2
      have s12 := s1.trans s2
      refine ⟨_, rfl, _, _, rfl, .inl (SqL.of hD2), rfl, _, rfl, ?_⟩
      cases zs with
      | nil =>
        have e : (W z).filter (fun t : T3 => decide (m ≤ t.1)) = [] := List.length_eq_zero_iff.mp hT2.1.symm
        refine iteT (q .non H2 s12 ?_)
        rw [show nextR (W z) m = ((W z).filter (fun t : T3 => decide (m ≤ t.1))).head? from rfl, e]
        rfl
      | cons y yr =>
        rw [show decide (V.int (((y :: yr).length : Nat) : Int) = V.int 0) = false from decide_eq_false fun z => by
          have := V.int.inj z
          rw [List.length_cons] at this
          omega]
        refine iteF ?_
        obtain ⟨t, ht⟩ : ∃ t, ((W z).filter (fun t : T3 => decide (m ≤ t.1)))[0]? = some t := ⟨_, List.getElem?_eq_getElem (by rw [← hT2.1, List.length_cons]; omega)⟩
        obtain ⟨e, he, het⟩ := hT2.get ht
        refine ⟨_, rfl, D, y :: yr, 0, .ref e, rfl, rfl, SqL.of hD2, atI_nat (j := 0) he, q _ H2 s12 ?_⟩
        show RowV H2 (.ref e) (((W z).filter (fun t : T3 => decide (m ≤ t.1))).head?)
        rw [List.head?_eq_getElem?, ht]
        exact ⟨e, rfl, het⟩
end
end Ash

set_option Elab.async false
set_option linter.all false
set_option maxRecDepth 100000
set_option maxHeartbeats 4000000
namespace Ash
open PySem PySem.Spec PyProof.Rows L2 SrtT
open C8 (pss_cut)
section
variable {P : Program} {w : World} {K : PySem.W.Frag} {mg : Str → Option Value} {base : Heap} {C : TC} {CW : Addr}
theorem Tm.Fit.ofL {s : Str} {t : Tm} (h : (Tm.last s t).Fit) : t.Fit := by
  obtain ⟨h1, h2, h3⟩ := h
  have h1 : 1 + t.dep ≤ 12 := h1
  have h2 : 1 + t.par ≤ 40 := h2
  have h3 : 1 + t.lok ≤ 12 := h3
  exact ⟨by omega, by omega, by omega⟩
theorem Tm.Fit.ofN {s : Str} {t : Tm} (h : (Tm.next s t).Fit) : t.Fit := Tm.Fit.ofL (s := s) h
theorem Tm.Fit.ofS {n : Int} {t : Tm} (h : (Tm.shift n t).Fit) : t.Fit := by
  obtain ⟨h1, h2, h3⟩ := h
  have h1 : 1 + t.dep ≤ 12 := h1
  have h2 : 1 + t.par ≤ 40 := h2
  have h3 : 0 + t.lok ≤ 12 := h3
  exact ⟨by omega, by omega, by omega⟩
theorem Tm.Fit.ofE {t u : Tm} (h : (Tm.either t u).Fit) : t.Fit ∧ u.Fit := by
  obtain ⟨h1, h2, h3⟩ := h
  have h1 : 1 + Tm.mx t.dep u.dep ≤ 12 := h1
  have h2 : 1 + (t.par + u.par) ≤ 40 := h2
  have h3 : 0 + (t.lok + u.lok) ≤ 12 := h3
  have := Tm.mx_l t.dep u.dep
  have := Tm.mx_r t.dep u.dep
  have := t.par_pos
  have := u.par_pos
  have := t.lok_nn
  have := u.lok_nn
  exact ⟨⟨by omega, by omega, by omega⟩, ⟨by omega, by omega, by omega⟩⟩
def Tm.isNow : Tm → Bool
  | .now => true
  | _ => false
def Tm.isEith : Tm → Bool
  | .either _ _ => true
  | _ => false
theorem TD.now_ (D : TD C) (t : Tm) : decide (C.of t = C.now) = t.isNow := by
  have h := D.nd
  simp only [List.nodup_cons, List.mem_cons, List.not_mem_nil, or_false, not_or] at h
  obtain ⟨⟨a1, a2, a3, a4, a5, a6⟩, _⟩ := h
  cases t <;> simp [TC.of, Tm.isNow, Ne.symm a1, Ne.symm a2, Ne.symm a3, Ne.symm a4, Ne.symm a5, Ne.symm a6]
theorem TD.eith (D : TD C) (t : Tm) : decide (C.of t = C.either) = t.isEith := by
  have h := D.nd
  simp only [List.nodup_cons, List.mem_cons, List.not_mem_nil, or_false, not_or] at h
  obtain ⟨⟨a1, a2, a3, a4, a5, a6⟩, ⟨b1, b2, b3, b4, b5⟩, ⟨c1, c2, c3, c4⟩, ⟨d1, d2, d3⟩, ⟨e1, e2⟩, _⟩ := h
  cases t <;> simp [TC.of, Tm.isEith, a4, b3, c2, d1, Ne.symm e1, Ne.symm e2]
theorem Ans.same {H H1 : Hp} {Q : VK} {r : Rs} (h : Ans H Q r) (s : Same H H1) : Ans H1 Q r := fun q l H' s2 => h q l H' (s.trans s2)
theorem oV_none {o : Option Int} : decide (oV o = V.non) = o.isNone := by
  cases o with
  | none => rfl
  | some i => exact decide_eq_false fun z => nomatch z
/-- what stands of a term with an inner one -/
theorem TmAt.inner {H : Hp} {a : Addr} {s : Str} {t u : Tm} (h : TmAt C H a u) (e : u = .last s t ∨ u = .next s t) : ∃ dx b sp, H a = some (.ins (C.of u) dx (("stream", .str s) :: ("term", .ref b) :: fCom sp u)) ∧ TmAt C H b t := by
  rcases e with rfl | rfl
  · obtain ⟨dx, b, sp, h1, h2, h3⟩ := h
    exact ⟨dx, b, sp, h1, h3⟩
  · obtain ⟨dx, b, sp, h1, h2, h3⟩ := h
    exact ⟨dx, b, sp, h1, h3⟩
theorem TmAt.two {H : Hp} {a : Addr} {t u x : Tm} (h : TmAt C H a x) (e : x = .either t u ∨ x = .later t u ∨ x = .earlier t u) : ∃ dx b c sp, H a = some (.ins (C.of x) dx (("first", .ref b) :: ("second", .ref c) :: fCom sp x)) ∧ TmAt C H b t ∧ TmAt C H c u := by
  rcases e with rfl | rfl | rfl
  · obtain ⟨dx, b, c, sp, h1, h2, h3, h4⟩ := h
    exact ⟨dx, b, c, sp, h1, h3, h4⟩
  · obtain ⟨dx, b, c, sp, h1, h2, h3, h4⟩ := h
    exact ⟨dx, b, c, sp, h1, h3, h4⟩
  · obtain ⟨dx, b, c, sp, h1, h2, h3, h4⟩ := h
    exact ⟨dx, b, c, sp, h1, h3, h4⟩
structure A1 (P : Program) (w : World) (K : PySem.W.Frag) (mg : Str → Option Value) (base : Heap) (C : TC) (CW : Addr) : Prop extends T3s P w K mg base C CW where
  last_row : Cal P w K mg base CX0 "last_row" 3 ["world", "stream", "moment"] (spLastRow CW lastR)
  next_row : Cal P w K mg base CX0 "next_row" 3 ["world", "stream", "moment"] (spLastRow CW nextR)
structure A2 (P : Program) (w : World) (K : PySem.W.Frag) (mg : Str → Option Value) (base : Heap) (C : TC) (CW : Addr) (d : Nat) : Prop extends A1 P w K mg base C CW where
  followed : Cal P w K mg base CX0 "followed" (2 * d + 4) ["term", "world", "now"] (spFol C CW d)
abbrev s_moved : Stmt := topS 59
theorem sc_moved : FnScope ["shift", "world", "now", "answer", "seen"] ["shift", "world", "now"] (defScope s_moved) := ⟨rfl, rfl, rfl, by decide +kernel, rfl, by decide +kernel, by decide +kernel⟩
theorem ok_moved {f : Addr} {fd : FuncData} {d : Nat} (F : Fun K "moved" "moved" s_moved f fd) (B : Blt mg) (T : TF K mg C) (G : A2 P w K mg base C CW d) : FnOk P w K mg base CX0 (2 * d + 5) f fd ["shift", "world", "now"] (spMoved C CW d) := by
  refine F.ok sc_moved (fun vs H Q E h => ?_) (fun cdv A outer s H vs Q E hr h => ?_)
  · obtain ⟨a, b, t, W, now, n, rfl, _⟩ := h
    rfl
  · obtain ⟨a, b, t, W, now, n, rfl, hT, hW, hN, hF, hd, q⟩ := h
    refine ⟨_, (pss_cons (ps_asg (pe_cal G.followed (hr.mono (by omega)) pass0 (pa_cons (pe_fld (pv 0) rfl) (pa_cons (pv 1) (pa_cons (pv 2) pa_nil)))) (pg_tup (by rfl) (pgs_cons (pg_name (i := 3) sc_moved.nd rfl (Or.inl rfl)) (pgs_cons (pg_name (i := 4) sc_moved.nd rfl (Or.inl rfl)) pgs_nil))))
    (pss_cons (ps_if (pt_cmpR op_isN (pv 3) pe_non (nomark _))
      (pss_one (ps_ret (pe_tup (pa_cons pe_non (pa_cons (pv 4) pa_nil)))))
      pss_nil)
    (pss_one (ps_ret (pe_tup (pa_cons (pe_op op_add (pv 3) (pe_fld (pv 0) rfl)) (pa_cons (pv 4) pa_nil))))))), ?_⟩
    obtain ⟨dx, c, sp, h1, h2, h3⟩ := id hT
    have Is : C.Is C.shift := C.is_of (.shift 0 .now)
    refine ⟨_, rfl, a, C.shift, dx, _, _, rfl, h1, T.cl _ Is, T.no _ Is _ (by decide +kernel), rfl, _, rfl, _, rfl, c, b, t, W, now, rfl, h3, hW, hN, hF, hd, fun q1 l H1 s1 hq1 hl => ?_⟩
    have q : Ans H Q (moveR (ev W now t) n) := q
    generalize ev W now t = r at q hq1 hl
    obtain ⟨r1, r2⟩ := r
    refine ⟨q1, _, rfl, SqT.of hq1, rfl, _, _, rfl, _, _, rfl, rfl, ?_⟩
    refine ⟨_, rfl, rfl, _, rfl, ?_⟩
    cases r1 with
    | none =>
      refine ite2 (fun _ => ?_) (fun c => absurd rfl c)
      exact ⟨_, rfl, (by show 2 ≤ sizeLine; decide), fun t2 ht2 => q t2 l _ (s1.trans (sameAt (Same.refl H1) ht2)) upd_same (sameAt (Same.refl H1) ht2 _ _ hl)⟩
    | some m =>
      refine ite2 (fun c => absurd (of_decide_eq_true c) (fun z => nomatch z)) (fun _ => ?_)
      exact ⟨_, rfl, _, rfl, a, C.shift, dx, _, _, rfl, s1 _ _ h1, T.cl _ Is, T.no _ Is _ (by decide +kernel), rfl, _, _, rfl, rfl, _, rfl, (by show 2 ≤ sizeLine; decide), fun t2 ht2 => q t2 l _ (s1.trans (sameAt (Same.refl H1) ht2)) upd_same (sameAt (Same.refl H1) ht2 _ _ hl)⟩
abbrev s_looked : Stmt := topS 60
theorem sc_looked : FnScope ["question", "world", "now", "place", "answer", "seen", "row"] ["question", "world", "now", "place"] (defScope s_looked) := ⟨rfl, rfl, rfl, by decide +kernel, rfl, by decide +kernel, by decide +kernel⟩
theorem ok_looked {f : Addr} {fd : FuncData} {d : Nat} (F : Fun K "looked" "looked" s_looked f fd) (B : Blt mg) (T : TF K mg C) (D : TD C) (G : A2 P w K mg base C CW d) : FnOk P w K mg base CX0 (2 * d + 5) f fd ["question", "world", "now", "place"] (spLooked C CW d) := by
  obtain ⟨t_cl, t_no, t_ty, t_one, c_Now, c_Last, c_Next, c_Shift, c_Either, c_Later, c_Earlier⟩ := id T
  refine F.ok sc_looked (fun vs H Q E h => ?_) (fun cdv A outer s H vs Q E hr h => ?_)
  · obtain ⟨a, b, t, u, z, W, now, rfl, _⟩ := h
    rfl
  · obtain ⟨a, b, t, u, z, W, now, rfl, hT, hu, hW, hz, hN, hF, hd, q⟩ := h
    refine ⟨_, (pss_cons (ps_asg (pe_cal G.followed (hr.mono (by omega)) pass0 (pa_cons (pe_fld (pv 0) rfl) (pa_cons (pv 1) (pa_cons (pv 2) pa_nil)))) (pg_tup (by rfl) (pgs_cons (pg_name (i := 4) sc_looked.nd rfl (Or.inl rfl)) (pgs_cons (pg_name (i := 5) sc_looked.nd rfl (Or.inl rfl)) pgs_nil))))
    (pss_cons (ps_if (pt_cmpR op_isN (pv 4) pe_non (nomark _))
      (pss_one (ps_ret (pe_tup (pa_cons pe_non (pa_cons (pv 5) pa_nil)))))
      pss_nil)
    (pss_cons (ps_if (pt_val (pe_callB call_isi (by rfl) B.isinstance (by decide +kernel) (pa_cons (pv 0) (pa_cons (pe_glob (v := .ref C.next) (by rfl) c_Next rfl) pa_nil))))
      (pss_one (ps_set (i := 6) sc_looked.nd rfl (Or.inl rfl) (pe_cal G.next_row (hr.mono (by omega)) pass0 (pa_cons (pv 1) (pa_cons (pe_fld (pv 0) rfl) (pa_cons (pv 4) pa_nil))))))
      (pss_one (ps_set (i := 6) sc_looked.nd rfl (Or.inl rfl) (pe_cal G.last_row (hr.mono (by omega)) pass0 (pa_cons (pv 1) (pa_cons (pe_fld (pv 0) rfl) (pa_cons (pv 4) pa_nil)))))))
    (pss_cons (ps_if (pt_cmpR op_isN (pv 6) pe_non (nomark _))
      (pss_one (ps_ret (pe_tup (pa_cons pe_non (pa_cons (pv 5) pa_nil)))))
      pss_nil)
    (pss_one (ps_ret (pe_tup (pa_cons (pe_ix ix_tup (pv 6) (pv 3) (fun _ _ => rfl)) (pa_cons (pe_lst (StX.pa_star (pv 5) (pa_cons (pe_ix ix_tup (pv 6) pe_int (fun _ _ => rfl)) pa_nil))) pa_nil))))))))), ?_⟩
    obtain ⟨dx, c, sp, h1, h3⟩ := hT.inner hu
    refine ⟨_, rfl, a, _, dx, _, _, rfl, h1, T.cl _ (C.is_of _), T.no _ (C.is_of _) _ (by decide +kernel), rfl, _, rfl, _, rfl, c, b, t, W, now, rfl, h3, hW, hN, hF, hd, fun q1 l H1 s1 hq1 hl => ?_⟩
    have ln := ev_len (W := W) (now := now) t
    have l12 := hF.2.2
    have q : Ans H Q (lookR (ev W now t) (if C.of u = C.next then nextR (W z) else lastR (W z))) := by
      have h := D.nd
      simp only [List.nodup_cons, List.mem_cons, List.not_mem_nil, or_false, not_or] at h
      rcases hu with rfl | rfl
      · rw [if_neg (show ¬ C.of (Tm.last z t) = C.next from h.2.1.1)]
        exact q
      · rw [if_pos (show C.of (Tm.next z t) = C.next from rfl)]
        exact q
    generalize ev W now t = r at q hq1 hl ln
    obtain ⟨r1, r2⟩ := r
    have ln : (r2.length : Int) ≤ t.lok := ln
    have k := T.one (C.of u) C.next (C.is_of u) (C.is_of (.next z .now))
    refine ⟨q1, _, rfl, SqT.of hq1, rfl, _, _, rfl, _, _, rfl, rfl, ?_⟩
    refine ⟨_, rfl, rfl, _, rfl, ?_⟩
    cases r1 with
    | none =>
      refine ite2 (fun _ => ?_) (fun c => absurd rfl c)
      exact ⟨_, rfl, (by show 2 ≤ sizeLine; decide), fun t2 ht2 => q t2 l _ (s1.trans (sameAt (Same.refl H1) ht2)) upd_same (sameAt (Same.refl H1) ht2 _ _ hl)⟩
    | some m =>
      refine ite2 (fun c => absurd (of_decide_eq_true c) (fun z => nomatch z)) (fun _ => ?_)
      refine ⟨_, rfl, _, _, _, _, _, rfl, .own _, T.tyx (hT.same s1), k, _, rfl, ?_⟩
      refine ite2 (fun cn => ?_) (fun cn => ?_)
      · rw [if_pos (of_decide_eq_true cn)] at q
        refine ⟨_, rfl, _, rfl, a, _, dx, _, _, rfl, s1 _ _ h1, T.cl _ (C.is_of _), T.no _ (C.is_of _) _ (by decide +kernel), rfl, _, rfl, b, W, z, m, rfl, hW.same s1, hz, fun v H2 s2 hv => ?_⟩
        have hl2 := s2 _ _ hl
        have s12 := s1.trans s2
        refine ⟨_, rfl, rfl, _, rfl, ?_⟩
        cases hrow : nextR (W z) m with
        | none =>
          rw [hrow] at hv
          have hv : v = .non := hv
          subst hv
          have q : Ans H Q (none, r2) := by
            have q : Ans H Q (lookR (some m, r2) (nextR (W z))) := q
            rw [show lookR (some m, r2) (nextR (W z)) = (none, r2) by show (match nextR (W z) m with | none => _ | some t => _) = _; rw [hrow]] at q
            exact q
          refine ite2 (fun _ => ?_) (fun c => absurd rfl c)
          exact ⟨_, rfl, (by show 2 ≤ sizeLine; decide), fun t2 ht2 => q t2 l _ (s12.trans (sameAt (Same.refl H2) ht2)) upd_same (sameAt (Same.refl H2) ht2 _ _ hl2)⟩
        | some t3 =>
          rw [hrow] at hv
          obtain ⟨e, rfl, he⟩ := hv
          have q : Ans H Q (some t3.1, r2 ++ [t3.2.1]) := by
            have q : Ans H Q (lookR (some m, r2) (nextR (W z))) := q
            rw [show lookR (some m, r2) (nextR (W z)) = (some t3.1, r2 ++ [t3.2.1]) by show (match nextR (W z) m with | none => _ | some t => _) = _; rw [hrow]] at q
            exact q
          refine ite2 (fun c => absurd (of_decide_eq_true c) (fun z => nomatch z)) (fun _ => ?_)
          refine ⟨_, rfl, _, rfl, _, _, _, _, rfl, rfl, SqT.of he, rfl, _, rfl, l, _, rfl, .inr (SqL.of hl2), _, rfl, _, _, _, _, rfl, rfl, SqT.of he, rfl, ?_, fun l2 hl3 => ⟨(by show 2 ≤ sizeLine; decide), fun t2 ht2 => ?_⟩⟩
          · show (r2.map V.int ++ [_]).length ≤ sizeLine
            rw [List.length_append, List.length_map, sizeLine_eq]
            show r2.length + 1 ≤ _
            omega
          · have s3 := s12.trans (sameAt (Same.refl H2) hl3 (o := .lst (r2.map V.int ++ [.int t3.2.1])))
            have hl4 : upd H2 l2 (.lst (r2.map V.int ++ [.int t3.2.1])) l2 = some (.lst ((r2 ++ [t3.2.1]).map V.int)) := by
              rw [upd_same, List.map_append]
              rfl
            exact q t2 l2 _ (s3.trans (sameAt (Same.refl _) ht2)) upd_same (sameAt (Same.refl _) ht2 _ _ hl4)
      · rw [if_neg (fun z => cn (decide_eq_true z))] at q
        refine ⟨_, rfl, _, rfl, a, _, dx, _, _, rfl, s1 _ _ h1, T.cl _ (C.is_of _), T.no _ (C.is_of _) _ (by decide +kernel), rfl, _, rfl, b, W, z, m, rfl, hW.same s1, hz, fun v H2 s2 hv => ?_⟩
        have hl2 := s2 _ _ hl
        have s12 := s1.trans s2
        refine ⟨_, rfl, rfl, _, rfl, ?_⟩
        cases hrow : lastR (W z) m with
        | none =>
          rw [hrow] at hv
          have hv : v = .non := hv
          subst hv
          have q : Ans H Q (none, r2) := by
            have q : Ans H Q (lookR (some m, r2) (lastR (W z))) := q
            rw [show lookR (some m, r2) (lastR (W z)) = (none, r2) by show (match lastR (W z) m with | none => _ | some t => _) = _; rw [hrow]] at q
            exact q
          refine ite2 (fun _ => ?_) (fun c => absurd rfl c)
          exact ⟨_, rfl, (by show 2 ≤ sizeLine; decide), fun t2 ht2 => q t2 l _ (s12.trans (sameAt (Same.refl H2) ht2)) upd_same (sameAt (Same.refl H2) ht2 _ _ hl2)⟩
        | some t3 =>
          rw [hrow] at hv
          obtain ⟨e, rfl, he⟩ := hv
          have q : Ans H Q (some t3.1, r2 ++ [t3.2.1]) := by
            have q : Ans H Q (lookR (some m, r2) (lastR (W z))) := q
            rw [show lookR (some m, r2) (lastR (W z)) = (some t3.1, r2 ++ [t3.2.1]) by show (match lastR (W z) m with | none => _ | some t => _) = _; rw [hrow]] at q
            exact q
          refine ite2 (fun c => absurd (of_decide_eq_true c) (fun z => nomatch z)) (fun _ => ?_)
          refine ⟨_, rfl, _, rfl, _, _, _, _, rfl, rfl, SqT.of he, rfl, _, rfl, l, _, rfl, .inr (SqL.of hl2), _, rfl, _, _, _, _, rfl, rfl, SqT.of he, rfl, ?_, fun l2 hl3 => ⟨(by show 2 ≤ sizeLine; decide), fun t2 ht2 => ?_⟩⟩
          · show (r2.map V.int ++ [_]).length ≤ sizeLine
            rw [List.length_append, List.length_map, sizeLine_eq]
            show r2.length + 1 ≤ _
            omega
          · have s3 := s12.trans (sameAt (Same.refl H2) hl3 (o := .lst (r2.map V.int ++ [.int t3.2.1])))
            have hl4 : upd H2 l2 (.lst (r2.map V.int ++ [.int t3.2.1])) l2 = some (.lst ((r2 ++ [t3.2.1]).map V.int)) := by
              rw [upd_same, List.map_append]
              rfl
            exact q t2 l2 _ (s3.trans (sameAt (Same.refl _) ht2)) upd_same (sameAt (Same.refl _) ht2 _ _ hl4)
abbrev s_followed_either : Stmt := topS 61
theorem sc_followed_either : FnScope ["term", "world", "now", "first", "seen", "second", "more"] ["term", "world", "now"] (defScope s_followed_either) := ⟨rfl, rfl, rfl, by decide +kernel, rfl, by decide +kernel, by decide +kernel⟩
theorem ok_feither {f : Addr} {fd : FuncData} {d : Nat} (F : Fun K "followed_either" "followed_either" s_followed_either f fd) (B : Blt mg) (T : TF K mg C) (G : A2 P w K mg base C CW d) : FnOk P w K mg base CX0 (2 * d + 5) f fd ["term", "world", "now"] (spEith C CW d) := by
  refine F.ok sc_followed_either (fun vs H Q E h => ?_) (fun cdv A outer s H vs Q E hr h => ?_)
  · obtain ⟨a, b, t, u, W, now, rfl, _⟩ := h
    rfl
  · obtain ⟨a, b, t, u, W, now, rfl, hT, hW, hN, hN2, hF, hF2, hd, hd2, q⟩ := h
    refine ⟨_, (pss_cons (ps_asg (pe_cal G.followed (hr.mono (by omega)) pass0 (pa_cons (pe_fld (pv 0) rfl) (pa_cons (pv 1) (pa_cons (pv 2) pa_nil)))) (pg_tup (by rfl) (pgs_cons (pg_name (i := 3) sc_followed_either.nd rfl (Or.inl rfl)) (pgs_cons (pg_name (i := 4) sc_followed_either.nd rfl (Or.inl rfl)) pgs_nil))))
    (pss_cons (ps_if (pt_cmpR op_notN (pv 3) pe_non (nomark _))
      (pss_one (ps_ret (pe_tup (pa_cons (pv 3) (pa_cons (pv 4) pa_nil)))))
      pss_nil)
    (pss_cons (ps_asg (pe_cal G.followed (hr.mono (by omega)) pass0 (pa_cons (pe_fld (pv 0) rfl) (pa_cons (pv 1) (pa_cons (pv 2) pa_nil)))) (pg_tup (by rfl) (pgs_cons (pg_name (i := 5) sc_followed_either.nd rfl (Or.inl rfl)) (pgs_cons (pg_name (i := 6) sc_followed_either.nd rfl (Or.inl rfl)) pgs_nil))))
    (pss_one (ps_ret (pe_tup (pa_cons (pv 5) (pa_cons (pe_lst (StX.pa_star (pv 4) (StX.pa_star (pv 6) pa_nil))) pa_nil)))))))), ?_⟩
    obtain ⟨dx, c1, c2, sp, h1, h3, h4⟩ := hT.two (.inl rfl)
    refine ⟨_, rfl, a, _, dx, _, _, rfl, h1, T.cl _ (C.is_of _), T.no _ (C.is_of _) _ (by decide +kernel), rfl, _, rfl, _, rfl, c1, b, t, W, now, rfl, h3, hW, hN, hF, hd, fun q1 l H1 s1 hq1 hl => ?_⟩
    have ln := ev_len (W := W) (now := now) t
    have ln2 := ev_len (W := W) (now := now) u
    have l12 := hF.2.2
    have l13 := hF2.2.2
    have q : Ans H Q (eithR (ev W now t) (ev W now u)) := q
    generalize ev W now t = r at q hq1 hl ln
    obtain ⟨r1, r2⟩ := r
    have ln : (r2.length : Int) ≤ t.lok := ln
    refine ⟨q1, _, rfl, SqT.of hq1, rfl, _, _, rfl, _, _, rfl, rfl, ?_⟩
    refine ⟨_, rfl, rfl, _, rfl, ?_⟩
    cases r1 with
    | some m =>
      refine ite2 (fun _ => ?_) (fun c => absurd rfl c)
      exact ⟨_, rfl, _, rfl, (by show 2 ≤ sizeLine; decide), fun t2 ht2 => q t2 l _ (s1.trans (sameAt (Same.refl H1) ht2)) upd_same (sameAt (Same.refl H1) ht2 _ _ hl)⟩
    | none =>
      refine ite2 (fun c => absurd (show (!decide (V.non = V.non)) = true from c) (by decide)) (fun _ => ?_)
      refine ⟨_, rfl, a, _, dx, _, _, rfl, s1 _ _ h1, T.cl _ (C.is_of _), T.no _ (C.is_of _) _ (by decide +kernel), rfl, _, rfl, _, rfl, c2, b, u, W, now, rfl, h4.same s1, hW.same s1, hN2, hF2, hd2, fun q2 l2 H2 s2 hq2 hl2 => ?_⟩
      have q : Ans H Q ((ev W now u).1, r2 ++ (ev W now u).2) := q
      generalize ev W now u = r' at q hq2 hl2 ln2
      obtain ⟨x1, x2⟩ := r'
      have ln2 : (x2.length : Int) ≤ u.lok := ln2
      have s12 := s1.trans s2
      refine ⟨q2, _, rfl, SqT.of hq2, rfl, _, _, rfl, _, _, rfl, rfl, ?_⟩
      refine ⟨_, rfl, _, rfl, l, _, rfl, .inr (SqL.of (s2 _ _ hl)), _, rfl, l2, _, rfl, .inr (SqL.of hl2), ?_, fun l3 hl3 => ⟨(by show 2 ≤ sizeLine; decide), fun t2 ht2 => ?_⟩⟩
      · show (r2.map V.int ++ (x2.map V.int ++ [])).length ≤ sizeLine
        rw [List.length_append, List.length_append, List.length_map, List.length_map, sizeLine_eq]
        show r2.length + (x2.length + 0) ≤ _
        omega
      · have s3 := s12.trans (sameAt (Same.refl H2) hl3 (o := .lst (r2.map V.int ++ (x2.map V.int ++ []))))
        have hl4 : upd H2 l3 (.lst (r2.map V.int ++ (x2.map V.int ++ []))) l3 = some (.lst ((r2 ++ x2).map V.int)) := by
          rw [upd_same, List.map_append, List.append_nil]
        exact q t2 l3 _ (s3.trans (sameAt (Same.refl _) ht2)) upd_same (sameAt (Same.refl _) ht2 _ _ hl4)
abbrev s_followed_both : Stmt := topS 62
theorem sc_followed_both : FnScope ["term", "world", "now", "first", "seen", "second", "more"] ["term", "world", "now"] (defScope s_followed_both) := ⟨rfl, rfl, rfl, by decide +kernel, rfl, by decide +kernel, by decide +kernel⟩
theorem ok_fboth {f : Addr} {fd : FuncData} {d : Nat} (F : Fun K "followed_both" "followed_both" s_followed_both f fd) (B : Blt mg) (T : TF K mg C) (D : TD C) (G : A2 P w K mg base C CW d) : FnOk P w K mg base CX0 (2 * d + 5) f fd ["term", "world", "now"] (spBoth C CW d) := by
  obtain ⟨t_cl, t_no, t_ty, t_one, c_Now, c_Last, c_Next, c_Shift, c_Either, c_Later, c_Earlier⟩ := id T
  refine F.ok sc_followed_both (fun vs H Q E h => ?_) (fun cdv A outer s H vs Q E hr h => ?_)
  · obtain ⟨a, b, t, u, x, W, now, rfl, _⟩ := h
    rfl
  · obtain ⟨a, b, t, u, x, W, now, rfl, hT, hx, hW, hN, hN2, hF, hF2, hd, hd2, q⟩ := h
    refine ⟨_, (pss_cons (ps_asg (pe_cal G.followed (hr.mono (by omega)) pass0 (pa_cons (pe_fld (pv 0) rfl) (pa_cons (pv 1) (pa_cons (pv 2) pa_nil)))) (pg_tup (by rfl) (pgs_cons (pg_name (i := 3) sc_followed_both.nd rfl (Or.inl rfl)) (pgs_cons (pg_name (i := 4) sc_followed_both.nd rfl (Or.inl rfl)) pgs_nil))))
    (pss_cons (ps_if (pt_cmpR op_isN (pv 3) pe_non (nomark _))
      (pss_one (ps_ret (pe_tup (pa_cons pe_non (pa_cons (pv 4) pa_nil)))))
      pss_nil)
    (pss_cons (ps_asg (pe_cal G.followed (hr.mono (by omega)) pass0 (pa_cons (pe_fld (pv 0) rfl) (pa_cons (pv 1) (pa_cons (pv 2) pa_nil)))) (pg_tup (by rfl) (pgs_cons (pg_name (i := 5) sc_followed_both.nd rfl (Or.inl rfl)) (pgs_cons (pg_name (i := 6) sc_followed_both.nd rfl (Or.inl rfl)) pgs_nil))))
    (pss_cons (ps_set (i := 4) sc_followed_both.nd rfl (Or.inl rfl) (pe_lst (StX.pa_star (pv 4) (StX.pa_star (pv 6) pa_nil))))
    (pss_cons (ps_if (pt_cmpR op_isN (pv 5) pe_non (nomark _))
      (pss_one (ps_ret (pe_tup (pa_cons pe_non (pa_cons (pv 4) pa_nil)))))
      pss_nil)
    (pss_cons (ps_if (pt_val (pe_callB call_isi (by rfl) B.isinstance (by decide +kernel) (pa_cons (pv 0) (pa_cons (pe_glob (v := .ref C.later) (by rfl) c_Later rfl) pa_nil))))
      (pss_one (ps_ret (pe_tup (pa_cons (pe_callB (call_max2 rfl) (by rfl) B.max (by decide +kernel) (pa_cons (pv 3) (pa_cons (pv 5) pa_nil))) (pa_cons (pv 4) pa_nil)))))
      pss_nil)
    (pss_one (ps_ret (pe_tup (pa_cons (pe_callB (call_min2 rfl) (by rfl) B.min (by decide +kernel) (pa_cons (pv 3) (pa_cons (pv 5) pa_nil))) (pa_cons (pv 4) pa_nil))))))))))), ?_⟩
    obtain ⟨dx, c1, c2, sp, h1, h3, h4⟩ := hT.two (.inr hx)
    refine ⟨_, rfl, a, _, dx, _, _, rfl, h1, T.cl _ (C.is_of _), T.no _ (C.is_of _) _ (by decide +kernel), rfl, _, rfl, _, rfl, c1, b, t, W, now, rfl, h3, hW, hN, hF, hd, fun q1 l H1 s1 hq1 hl => ?_⟩
    have ln := ev_len (W := W) (now := now) t
    have ln2 := ev_len (W := W) (now := now) u
    have l12 := hF.2.2
    have l13 := hF2.2.2
    have q : Ans H Q (bothR (if C.of x = C.later then mxI else mnI) (ev W now t) (ev W now u)) := by
      have h := D.nd
      simp only [List.nodup_cons, List.mem_cons, List.not_mem_nil, or_false, not_or] at h
      rcases hx with rfl | rfl
      · rw [if_pos (show C.of (Tm.later t u) = C.later from rfl)]
        exact q
      · rw [if_neg (show ¬ C.of (Tm.earlier t u) = C.later from fun z => h.2.2.2.2.2.1 z.symm)]
        exact q
    have k := T.one (C.of x) C.later (C.is_of x) (C.is_of (.later t u))
    generalize ev W now t = r at q hq1 hl ln
    obtain ⟨r1, r2⟩ := r
    have ln : (r2.length : Int) ≤ t.lok := ln
    refine ⟨q1, _, rfl, SqT.of hq1, rfl, _, _, rfl, _, _, rfl, rfl, ?_⟩
    refine ⟨_, rfl, rfl, _, rfl, ?_⟩
    cases r1 with
    | none =>
      refine ite2 (fun _ => ?_) (fun c => absurd rfl c)
      exact ⟨_, rfl, (by show 2 ≤ sizeLine; decide), fun t2 ht2 => q t2 l _ (s1.trans (sameAt (Same.refl H1) ht2)) upd_same (sameAt (Same.refl H1) ht2 _ _ hl)⟩
    | some m =>
      refine ite2 (fun c => absurd (of_decide_eq_true c) (fun z => nomatch z)) (fun _ => ?_)
      refine ⟨_, rfl, a, _, dx, _, _, rfl, s1 _ _ h1, T.cl _ (C.is_of _), T.no _ (C.is_of _) _ (by decide +kernel), rfl, _, rfl, _, rfl, c2, b, u, W, now, rfl, h4.same s1, hW.same s1, hN2, hF2, hd2, fun q2 l2 H2 s2 hq2 hl2 => ?_⟩
      generalize ev W now u = r' at q hq2 hl2 ln2
      obtain ⟨x1, x2⟩ := r'
      have ln2 : (x2.length : Int) ≤ u.lok := ln2
      have s12 := s1.trans s2
      refine ⟨q2, _, rfl, SqT.of hq2, rfl, _, _, rfl, _, _, rfl, rfl, ?_⟩
      refine ⟨_, rfl, l, _, rfl, .inr (SqL.of (s2 _ _ hl)), _, rfl, l2, _, rfl, .inr (SqL.of hl2), ?_, fun l3 hl3 => ?_⟩
      · show (r2.map V.int ++ (x2.map V.int ++ [])).length ≤ sizeLine
        rw [List.length_append, List.length_append, List.length_map, List.length_map, sizeLine_eq]
        show r2.length + (x2.length + 0) ≤ _
        omega
      have s3 := s12.trans (sameAt (Same.refl H2) hl3 (o := .lst (r2.map V.int ++ (x2.map V.int ++ []))))
      have hl4 : upd H2 l3 (.lst (r2.map V.int ++ (x2.map V.int ++ []))) l3 = some (.lst ((r2 ++ x2).map V.int)) := by
        rw [upd_same, List.map_append, List.append_nil]
      refine ⟨_, rfl, rfl, _, rfl, ?_⟩
      cases x1 with
      | none =>
        refine ite2 (fun _ => ?_) (fun c => absurd rfl c)
        exact ⟨_, rfl, (by show 2 ≤ sizeLine; decide), fun t2 ht2 => q t2 l3 _ (s3.trans (sameAt (Same.refl _) ht2)) upd_same (sameAt (Same.refl _) ht2 _ _ hl4)⟩
      | some m2 =>
        refine ite2 (fun c => absurd (of_decide_eq_true c) (fun z => nomatch z)) (fun _ => ?_)
        refine ⟨_, rfl, _, _, _, _, _, rfl, .own _, T.tyx (hT.same s3), k, _, rfl, ?_⟩
        refine ite2 (fun cn => ?_) (fun cn => ?_)
        · rw [if_pos (of_decide_eq_true cn)] at q
          exact ⟨_, rfl, _, rfl, _, _, rfl, _, rfl, (by show 2 ≤ sizeLine; decide), fun t2 ht2 => q t2 l3 _ (s3.trans (sameAt (Same.refl _) ht2)) upd_same (sameAt (Same.refl _) ht2 _ _ hl4)⟩
        · rw [if_neg (fun z => cn (decide_eq_true z))] at q
          exact ⟨_, rfl, _, rfl, _, _, rfl, _, rfl, (by show 2 ≤ sizeLine; decide), fun t2 ht2 => q t2 l3 _ (s3.trans (sameAt (Same.refl _) ht2)) upd_same (sameAt (Same.refl _) ht2 _ _ hl4)⟩
structure A3 (P : Program) (w : World) (K : PySem.W.Frag) (mg : Str → Option Value) (base : Heap) (C : TC) (CW : Addr) (d : Nat) : Prop extends A2 P w K mg base C CW d where
  moved : Cal P w K mg base CX0 "moved" (2 * d + 5) ["shift", "world", "now"] (spMoved C CW d)
  looked : Cal P w K mg base CX0 "looked" (2 * d + 5) ["question", "world", "now", "place"] (spLooked C CW d)
  followed_either : Cal P w K mg base CX0 "followed_either" (2 * d + 5) ["term", "world", "now"] (spEith C CW d)
  followed_both : Cal P w K mg base CX0 "followed_both" (2 * d + 5) ["term", "world", "now"] (spBoth C CW d)
abbrev s_followed : Stmt := topS 58
theorem sc_followed : FnScope ["term", "world", "now"] ["term", "world", "now"] (defScope s_followed) := ⟨rfl, rfl, rfl, by decide +kernel, rfl, by decide +kernel, by decide +kernel⟩
theorem ok_followed {f : Addr} {fd : FuncData} {d : Nat} (F : Fun K "followed" "followed" s_followed f fd) (B : Blt mg) (Cs : Cst mg) (T : TF K mg C) (D : TD C) (G : A3 P w K mg base C CW d) : FnOk P w K mg base CX0 (2 * (d + 1) + 4) f fd ["term", "world", "now"] (spFol C CW (d + 1)) := by
  obtain ⟨t_cl, t_no, t_ty, t_one, c_Now, c_Last, c_Next, c_Shift, c_Either, c_Later, c_Earlier⟩ := id T
  obtain ⟨t1, g_MOMENT⟩ := Cs.k_MOMENT
  refine F.ok sc_followed (fun vs H Q E h => ?_) (fun cdv A outer s H vs Q E hr h => ?_)
  · obtain ⟨a, b, t, W, now, rfl, _⟩ := h
    rfl
  · obtain ⟨a, b, t, W, now, rfl, hT, hW, hN, hF, hd, q⟩ := h
    refine ⟨_, (pss_cons (ps_if (pt_val (pe_callB call_isi (by rfl) B.isinstance (by decide +kernel) (pa_cons (pv 0) (pa_cons (pe_glob (v := .ref C.now) (by rfl) c_Now rfl) pa_nil))))
      (pss_one (ps_ret (pe_tup (pa_cons (pv 2) (pa_cons (pe_lst pa_nil) pa_nil)))))
      pss_nil)
    (pss_cons (ps_if (pt_val (pe_cal G.is_look (hr.mono (by omega)) pass0 (pa_cons (pv 0) pa_nil)))
      (pss_one (ps_ret (pe_cal G.looked (hr.mono (by omega)) pass0 (pa_cons (pv 0) (pa_cons (pv 1) (pa_cons (pv 2) (pa_cons (pe_glob (v := .int 0) (by rfl) g_MOMENT ⟨_, rfl⟩) pa_nil)))))))
      pss_nil)
    (pss_cons (ps_if (pt_val (pe_callB call_isi (by rfl) B.isinstance (by decide +kernel) (pa_cons (pv 0) (pa_cons (pe_glob (v := .ref C.shift) (by rfl) c_Shift rfl) pa_nil))))
      (pss_one (ps_ret (pe_cal G.moved (hr.mono (by omega)) pass0 (pa_cons (pv 0) (pa_cons (pv 1) (pa_cons (pv 2) pa_nil))))))
      pss_nil)
    (pss_cons (ps_if (pt_val (pe_callB call_isi (by rfl) B.isinstance (by decide +kernel) (pa_cons (pv 0) (pa_cons (pe_glob (v := .ref C.either) (by rfl) c_Either rfl) pa_nil))))
      (pss_one (ps_ret (pe_cal G.followed_either (hr.mono (by omega)) pass0 (pa_cons (pv 0) (pa_cons (pv 1) (pa_cons (pv 2) pa_nil))))))
      pss_nil)
    (pss_one (ps_ret (pe_cal G.followed_both (hr.mono (by omega)) pass0 (pa_cons (pv 0) (pa_cons (pv 1) (pa_cons (pv 2) pa_nil)))))))))), ?_⟩
    have tx := T.tyx hT
    have k0 := T.one (C.of t) C.now (C.is_of t) (C.is_of .now)
    have k1 := fun n u => T.one (C.of t) C.shift (C.is_of t) (C.is_of (.shift n u))
    have k2 := fun x y => T.one (C.of t) C.either (C.is_of t) (C.is_of (.either x y))
    rw [D.now_ t] at k0
    have k1 := k1 0 .now
    have k2 := k2 .now .now
    rw [D.shift t] at k1
    rw [D.eith t] at k2
    refine ⟨_, rfl, _, _, _, _, _, rfl, .own _, tx, k0, _, rfl, ?_⟩
    cases t with
    | now =>
      exact iteT ⟨_, rfl, (by show 0 ≤ sizeLine; decide), fun l hl => ⟨(by show 2 ≤ sizeLine; decide), fun t2 ht2 => q t2 l _ ((sameAt (Same.refl H) hl).trans (sameAt (Same.refl _) ht2)) upd_same (sameAt (Same.refl _) ht2 _ _ upd_same)⟩⟩
    | last z u =>
      have hd : 1 + u.dep ≤ ((d + 1 : Nat) : Int) := hd
      exact iteF ⟨_, rfl, a, _, rfl, hT, fun H1 s1 => ⟨_, rfl, iteT ⟨_, rfl, _, rfl, _, rfl, a, b, u, .last z u, z, W, now, rfl, hT.same s1, .inl rfl, hW.same s1, hN.1, hN.2, hF.ofL, by omega, q.same s1⟩⟩⟩
    | next z u =>
      have hd : 1 + u.dep ≤ ((d + 1 : Nat) : Int) := hd
      exact iteF ⟨_, rfl, a, _, rfl, hT, fun H1 s1 => ⟨_, rfl, iteT ⟨_, rfl, _, rfl, _, rfl, a, b, u, .next z u, z, W, now, rfl, hT.same s1, .inr rfl, hW.same s1, hN.1, hN.2, hF.ofN, by omega, q.same s1⟩⟩⟩
    | shift n u =>
      have hd : 1 + u.dep ≤ ((d + 1 : Nat) : Int) := hd
      exact iteF ⟨_, rfl, a, _, rfl, hT, fun H1 s1 => ⟨_, rfl, iteF ⟨_, rfl, _, _, _, _, _, rfl, .own _, T.tyx (hT.same s1), k1, _, rfl, iteT ⟨_, rfl, _, rfl, _, rfl, a, b, u, W, now, n, rfl, hT.same s1, hW.same s1, hN, hF.ofS, by omega, q.same s1⟩⟩⟩⟩
    | either x y =>
      have hd : 1 + Tm.mx x.dep y.dep ≤ ((d + 1 : Nat) : Int) := hd
      have := Tm.mx_l x.dep y.dep
      have := Tm.mx_r x.dep y.dep
      exact iteF ⟨_, rfl, a, _, rfl, hT, fun H1 s1 => ⟨_, rfl, iteF ⟨_, rfl, _, _, _, _, _, rfl, .own _, T.tyx (hT.same s1), k1, _, rfl, iteF ⟨_, rfl, _, _, _, _, _, rfl, .own _, T.tyx (hT.same s1), k2, _, rfl, iteT ⟨_, rfl, _, rfl, _, rfl, a, b, x, y, W, now, rfl, hT.same s1, hW.same s1, hN.1, hN.2, hF.ofE.1, hF.ofE.2, by omega, by omega, q.same s1⟩⟩⟩⟩⟩
    | later x y =>
      have hd : 1 + Tm.mx x.dep y.dep ≤ ((d + 1 : Nat) : Int) := hd
      have := Tm.mx_l x.dep y.dep
      have := Tm.mx_r x.dep y.dep
      have hF' : (Tm.either x y).Fit := hF
      exact iteF ⟨_, rfl, a, _, rfl, hT, fun H1 s1 => ⟨_, rfl, iteF ⟨_, rfl, _, _, _, _, _, rfl, .own _, T.tyx (hT.same s1), k1, _, rfl, iteF ⟨_, rfl, _, _, _, _, _, rfl, .own _, T.tyx (hT.same s1), k2, _, rfl, iteF ⟨_, rfl, _, rfl, _, rfl, a, b, x, y, _, W, now, rfl, hT.same s1, .inl rfl, hW.same s1, hN.1, hN.2, hF'.ofE.1, hF'.ofE.2, by omega, by omega, q.same s1⟩⟩⟩⟩⟩
    | earlier x y =>
      have hd : 1 + Tm.mx x.dep y.dep ≤ ((d + 1 : Nat) : Int) := hd
      have := Tm.mx_l x.dep y.dep
      have := Tm.mx_r x.dep y.dep
      have hF' : (Tm.either x y).Fit := hF
      exact iteF ⟨_, rfl, a, _, rfl, hT, fun H1 s1 => ⟨_, rfl, iteF ⟨_, rfl, _, _, _, _, _, rfl, .own _, T.tyx (hT.same s1), k1, _, rfl, iteF ⟨_, rfl, _, _, _, _, _, rfl, .own _, T.tyx (hT.same s1), k2, _, rfl, iteF ⟨_, rfl, _, rfl, _, rfl, a, b, x, y, _, W, now, rfl, hT.same s1, .inr rfl, hW.same s1, hN.1, hN.2, hF'.ofE.1, hF'.ofE.2, by omega, by omega, q.same s1⟩⟩⟩⟩⟩
end
end Ash

set_option Elab.async false
set_option linter.all false
set_option maxRecDepth 100000
set_option maxHeartbeats 4000000
namespace Ash
open PySem PySem.Spec PyProof.Rows L2
/-! ### what the top has written -/
/-- a def of the top -/
structure D1 (K : PySem.W.Frag) (mg : Str → Option Value) (x : Str) (st : Stmt) : Prop where
  ex : ∃ (f : Addr) (fd : FuncData), mg x = some (.ref f) ∧ Fun K x x st f fd
/-- a method -/
structure DM (K : PySem.W.Frag) (C : Addr) (m qual : Str) (st : Stmt) : Prop where
  ex : ∃ (f : Addr) (fd : FuncData), Meth K C m f ∧ Fun K m qual st f fd
/-- a method at a known place -/
structure DQ (K : PySem.W.Frag) (C f : Addr) (m qual : Str) (st : Stmt) : Prop where
  ex : ∃ fd : FuncData, Meth K C m f ∧ Fun K m qual st f fd
/-- an __init__ with one default -/
structure DD (K : PySem.W.Frag) (C a : Addr) (qual : Str) (st : Stmt) : Prop where
  ex : ∃ (f : Addr) (fd : FuncData), Mk K C f ∧ FunD K "__init__" qual (defArgs st) (defBody st) (defScope st) [.ref a] [] f fd
section
variable {K : PySem.W.Frag} {h : Heap} {mg : Str → Option Value} {x qual : Str} {st : Stmt} {f C : Addr} {oc kV dc pm cdv ct : Value} {od an : Option Addr} {sl : Array (Option Value)}
theorem d1 (X : K.In h) (G : h.Ns mainGlobals mg) (a : PySem.W.nsIn K mainGlobals x = some (some (.ref f))) (l : K.lookup f = some ⟨oc, od, .func (PySem.W.fnOf x x (defArgs st) (defBody st) (defScope st) .none kV dc pm an cdv ct), sl⟩) (c : PySem.W.codeIn K cdv x = true) (k : PySem.W.keepIn K (.ref f) = true) : D1 K mg x st :=
  ⟨f, _, PySem.W.mg_of X G a, fun_mk l c k⟩
theorem dm (a : PySem.W.findIn K (.ref C) x = some (some (.ref f))) (i : PySem.W.isFn K (.ref f) = true) (l : K.lookup f = some ⟨oc, od, .func (PySem.W.fnOf x qual (defArgs st) (defBody st) (defScope st) .none kV dc pm an cdv ct), sl⟩) (c : PySem.W.codeIn K cdv qual = true) (k : PySem.W.keepIn K (.ref f) = true) : DM K C x qual st :=
  ⟨f, _, ⟨a, i, k⟩, fun_mk l c k⟩
theorem dq (a : PySem.W.findIn K (.ref C) x = some (some (.ref f))) (i : PySem.W.isFn K (.ref f) = true) (l : K.lookup f = some ⟨oc, od, .func (PySem.W.fnOf x qual (defArgs st) (defBody st) (defScope st) .none kV dc pm an cdv ct), sl⟩) (c : PySem.W.codeIn K cdv qual = true) (k : PySem.W.keepIn K (.ref f) = true) : DQ K C f x qual st :=
  ⟨_, ⟨a, i, k⟩, fun_mk l c k⟩
theorem dd {a T : Addr} {oT : Value} {dT : Option Addr} {slT : Array (Option Value)} {n : Nat} (m1 : PySem.W.makesIn K C = true) (m2 : PySem.W.findIn K (.ref C) "__init__" = some (some (.ref f))) (m3 : PySem.W.isFn K (.ref f) = true) (m4 : PySem.W.keepIn K (.ref C) = true)
    (l : K.lookup f = some ⟨oc, od, .func (PySem.W.fnOf "__init__" qual (defArgs st) (defBody st) (defScope st) (.ref T) kV dc pm an cdv ct), sl⟩) (lT : K.lookup T = some ⟨oT, dT, .seq #[.ref a] n, slT⟩) (c : PySem.W.codeIn K cdv qual = true) (k : PySem.W.keepIn K (.ref f) = true) : DD K C a qual st :=
  ⟨f, _, ⟨m1, m2, m3, m4⟩, ⟨⟨oc, od, .ref T, kV, dc, pm, an, cdv, ct, sl, rfl, l, c, .inr ⟨by simp, T, _, [.ref a], n, rfl, lT, rfl, .cons rfl .nil⟩, .inl rfl⟩, k⟩⟩
theorem sq_of {a : Addr} {d : Option Addr} {n : Nat} (l : K.lookup a = some ⟨.type "tuple", d, .seq #[] n, sl⟩) (H : Hp) : SqT K H a [] := .inr ⟨_, #[], n, l, rfl, rfl, Nat.zero_le _, .nil⟩
theorem tt_mk {a : Addr} {d : Option Addr} {n : Nat} (l : K.lookup a = some ⟨.type "tuple", d, .seq #[] n, sl⟩) : ∃ (o : Obj) (n : Nat), K.lookup a = some o ∧ o.cls = .type "tuple" ∧ o.data = .seq #[] n := ⟨_, n, l, rfl, rfl⟩
end
section
variable {P : Program} {w : World} {K : PySem.W.Frag} {mg : Str → Option Value} {base : Heap} {CX : CXT} {x : Str} {st : Stmt} {ps : List Str} {k : Nat} {sp : Sp}
theorem cal_of (D : D1 K mg x st) (hb : ∀ (kV doc pm : Value) (an : Option Addr) (cdv ct : Value) (us : List Value), us.length = ps.length → bindArgs (PySem.W.fnOf x x (defArgs st) (defBody st) (defScope st) .none kV doc pm an cdv ct) ⟨us, []⟩ = pure (ps.zip us))
    (ok : ∀ f fd, Fun K x x st f fd → FnOk P w K mg base CX k f fd ps sp) : Cal P w K mg base CX x k ps sp := by
  obtain ⟨f, fd, hm, F⟩ := D.ex
  exact ⟨f, fd, hm, F.kp, F.binds hb, ok f fd F⟩
end
/-- a class is what its instances are -/
structure BkI (K : PySem.W.Frag) (CB : Addr) : Prop where
  ha : PySem.W.findIn K (.ref CB) "__class__" = some (some (.builtin "object.__class__"))
  hn : PySem.W.specialIn K (.builtin "object.__class__") "__get__" = some (some (.builtin "getset_descriptor.__get__"))
  ht : PySem.W.takesIn K (.builtin "object.__class__") = some true
  hm : PySem.W.mroIn K CB (.type "object") = some true
theorem ne_mk {K : PySem.W.Frag} {C f N : Addr} {nm q : Str} {bs : List Value} {hd ab : Bool} {sn : List Str} {sub : List Value} {col : Option Bool} {dd : Option Addr} {k0 k1 k2 k3 k5 : Option Value} {nid : String} {fo : Obj} (h1 : K.lookup C = some (excClassObj nm q C N bs [.type "object"] hd sn sub ab col dd k0 k1 k2 k3 k5 nid)) {oN : Value} {dN : Option Addr} {es : Array DictEntry} {nn : Nat} {slN : Array (Option Value)} (h2 : K.lookup N = some ⟨oN, dN, .dict es nn, slN⟩) (h7 : (es.toList.all fun e => match e.key with | .str _ _ => true | _ => false) = true) (h3 : PySem.W.nsIn K N "__eq__" = some (some (.ref f))) (h4 : PySem.W.nsIn K N "__ne__" = some none) (h5 : K.lookup f = some fo) (h6 : fo.cls = .type "function") : NeC K C f :=
  ⟨⟨nm, q, N, bs, hd, sn, sub, ab, col, dd, k0, k1, k2, k3, k5, nid, fo, h1, by unfold PySem.W.nsOkIn; rw [h2]; exact (Array.all_toList ..).symm.trans h7, h3, h4, h5, h6⟩⟩
theorem kit_ref {K : PySem.W.Frag} {C : Addr} {T : String} {b : Bool} (hm : PySem.W.kitMeta T = true) (h : PySem.W.subIn K (.ref C) (.type T) = some b) : PySem.W.kitOne K (.ref C) (.type T) = some b := by
  have e : (Value.ref C == Value.type T) = false := rfl
  unfold PySem.W.kitOne PySem.W.kitCls
  rw [e, if_neg Bool.false_ne_true]
  show (if PySem.W.kitMeta T = true then _ else _) = _
  rw [if_pos hm]
  exact h
theorem exm_me {K : PySem.W.Frag} {C : Addr} (h1 : PySem.W.subIn K (.ref C) (.type "BaseException") = some true) (h2 : PySem.W.isClsIn K C = true) (h3 : PySem.W.typeIn K (.ref C) = some (.type "type")) (h4 : PySem.W.subIn K (.ref C) (.ref C) = some true) : PySem.W.exmOne K (.ref C) (.ref C) = some true := by
  have h2' : (PySem.W.clsIn K C).isSome = true := h2
  simp [PySem.W.exmOne, PySem.W.kitCls, h1, h2', h3, h4]
theorem exm_no {K : PySem.W.Frag} {C D : Addr} (h1 : PySem.W.subIn K (.ref D) (.type "BaseException") = some true) (h2 : PySem.W.isClsIn K D = true) (h3 : PySem.W.typeIn K (.ref D) = some (.type "type")) (h4 : PySem.W.subIn K (.ref C) (.ref D) = some false) : PySem.W.exmOne K (.ref C) (.ref D) = some false := by
  have h2' : (PySem.W.clsIn K D).isSome = true := h2
  simp [PySem.W.exmOne, PySem.W.kitCls, h1, h2', h3, h4]
open PySem.W PySem.Calls PySem.HandSPX in
/-- the facts of an own error's class -/
theorem txt_mk {P : Program} {K : PySem.W.Frag} {h : Heap} {mg : Str → Option Value} {par fl : Str} {C fI N cda cc : Addr} {nm q qual tx file : Str} {bs bm sub : List Value} {sn : List Str} {ab : Bool} {col : Option Bool} {dd : Option Addr} {m0 m1 m2 m3 m5 : Option Value}
    {oc doc pm ct ccl cl : Value} {od an cdd cld : Option Addr} {osl ccs csl : Array (Option Value)} {vs : Array Value} {pa : Arguments} {p0 p1 p2 p3 p4 p5 p6 p7 p8 p9 : Pos} {j : Nat} {a0 : Arg} {tf : Nat} (X : K.In h) (G : h.Ns mainGlobals mg)
    (cls : K.lookup C = some (excClassObj nm q C N bs bm true sn sub ab col dd m0 m1 m2 m3 m5 "ValueError.__new__")) (ref : PySem.HandSPX.refsVE bm = true)
    (sa : PySem.W.findIn K (.ref C) "__setattr__" = some (some (.builtin "object.__setattr__"))) (ga : PySem.W.findIn K (.ref C) "__getattribute__" = some (some (.builtin "BaseException.__getattribute__"))) (gg : PySem.W.findIn K (.ref C) "__getattr__" = some none) (noN : PySem.W.findIn K (.ref C) fl = some none)
    (iC : PySem.W.findIn K (.ref C) "__init__" = some (some (.ref fI))) (tC : PySem.W.typeIn K (.ref fI) = some (.type "function")) (kC : PySem.W.keepIn K (.ref C) = true) (exC : PySem.W.subIn K (.ref C) (.type "BaseException") = some true) (veC : PySem.W.subIn K (.ref C) (.type "ValueError") = some true)
    (slf : PySem.W.mroIn K C (.ref C) = some true) (tyC : PySem.W.typeIn K (.ref C) = some (.type "type")) (hdC : PySem.W.hasDictIn K C = true) (isC : PySem.W.isClsIn K C = true) (sC : PySem.W.subIn K (.ref C) (.ref C) = some true)
    (along : PySem.W.ks_superIn K C C "__init__" = some (some (.builtin "ValueError.__init__"))) (opq : PySem.W.nsIn K cStatics "thirdparty.any" = some none) (sup : PySem.W.nsIn K mainGlobals "super" = some none) (top : (P.main.scope.names.lookup ("super" : Str)).isSome = false)
    (lf : K.lookup fI = some ⟨oc, od, .func (PySem.W.ksFn "__init__" qual pa (PySem.BadX.shape tx par fl p0 p1 p2 p3 p4 p5 p6 p7 p8 p9 j) (PySem.BadX.sco par) .none .none doc pm an (.ref cda) ct cc), osl⟩) (cd : PySem.W.codeIn K (.ref cda) qual = true) (ha0 : (pa.posonlyargs ++ pa.args).head? = some a0) (ha1 : a0.arg = "self")
    (bd : ∀ (s : Shared) (u v : Value), BindsTo s (PySem.W.ksFn "__init__" qual pa (PySem.BadX.shape tx par fl p0 p1 p2 p3 p4 p5 p6 p7 p8 p9 j) (PySem.BadX.sco par) .none .none doc pm an (.ref cda) ct cc) ⟨[u, v], []⟩ [("self", u), (par, v)])
    (lc : K.lookup cda = some ⟨ccl, cdd, .fields vs, ccs⟩) (hvs : vs[2]? = some (.str file tf)) (hfile : ((P.main.file : Str) == file) = true) (hpe : (p2.endLine == p4.line) = true) (lcc : K.lookup cc = some ⟨cl, cld, .cell (some (.ref C)), csl⟩) : PySem.BadX.Txt P K mg par fl C fI :=
  { cls := ⟨nm, q, N, bs, bm, sn, sub, ab, col, dd, m0, m1, m2, m3, m5, cls, ref⟩, sa := sa, ga := ga, gg := gg, noN := noN, iC := iC, tC := tC, kC := kC, exC := exC, veC := veC, slf := slf, tyC := tyC, hdC := hdC, te := exm_me exC isC tyC sC, along := along, opq := opq, sup := PySem.W.mg_none_of X G sup, top := top,
    fn := ⟨oc, od, qual, tx, doc, pm, an, cda, cc, ct, osl, pa, p0, p1, p2, p3, p4, p5, p6, p7, p8, p9, j, a0, lf, cd, ha0, ha1, bd, ⟨ccl, cdd, vs, ccs, file, tf, lc, hvs, hfile⟩, hpe, ⟨cl, cld, csl, lcc⟩⟩ }
theorem ex_int {K : PySem.W.Frag} {h : Heap} {mg : Str → Option Value} {x : Str} {n : Int} {t : Tok} (X : K.In h) (G : h.Ns mainGlobals mg) (a : PySem.W.nsIn K mainGlobals x = some (some (.int n t))) : ∃ t, mg x = some (.int n t) := ⟨_, PySem.W.mg_of X G a⟩
theorem ex_str {K : PySem.W.Frag} {h : Heap} {mg : Str → Option Value} {x z : Str} {t : Tok} (X : K.In h) (G : h.Ns mainGlobals mg) (a : PySem.W.nsIn K mainGlobals x = some (some (.str z t))) : ∃ t, mg x = some (.str z t) := ⟨_, PySem.W.mg_of X G a⟩
end Ash

set_option Elab.async false
set_option linter.all false
set_option maxRecDepth 100000
set_option maxHeartbeats 4000000
namespace Ash
open PySem PySem.Spec PyProof.Rows L2 SrtT
open C8 (pss_cut)
section
variable {P : Program} {w : World} {K : PySem.W.Frag} {mg : Str → Option Value} {base : Heap} {C : TC} {CW : Addr}
theorem ok_fol0 {f : Addr} {fd : FuncData} (F : Fun K "followed" "followed" s_followed f fd) : FnOk P w K mg base CX0 (2 * 0 + 4) f fd ["term", "world", "now"] (spFol C CW 0) := by
  refine F.ok sc_followed (fun vs H Q E h => ?_) (fun cdv A outer s H vs Q E hr h => ?_)
  · obtain ⟨a, b, t, W, now, rfl, _⟩ := h
    rfl
  · obtain ⟨a, b, t, W, now, rfl, _, _, _, _, hd, _⟩ := h
    have := t.dep_pos
    have hd : t.dep ≤ 0 := hd
    omega
theorem fol_all (B : Blt mg) (Cs : Cst mg) (T : TF K mg C) (D : TD C) (G : A1 P w K mg base C CW) (d1 : D1 K mg "moved" s_moved) (d2 : D1 K mg "looked" s_looked) (d3 : D1 K mg "followed_either" s_followed_either) (d4 : D1 K mg "followed_both" s_followed_both) (d5 : D1 K mg "followed" s_followed) : ∀ d, A2 P w K mg base C CW d
  | 0 => { G with followed := cal_of d5 (fun _ _ _ _ _ _ us hl => match us, hl with | [_, _, _], _ => rfl) fun f fd F => ok_fol0 F }
  | d + 1 => by
    have g := fol_all B Cs T D G d1 d2 d3 d4 d5 d
    have c1 := cal_of (P := P) (w := w) (base := base) (ps := ["shift", "world", "now"]) d1 (fun _ _ _ _ _ _ us hl => match us, hl with | [_, _, _], _ => rfl) fun f fd F => ok_moved F B T g
    have c2 := cal_of (P := P) (w := w) (base := base) (ps := ["question", "world", "now", "place"]) d2 (fun _ _ _ _ _ _ us hl => match us, hl with | [_, _, _, _], _ => rfl) fun f fd F => ok_looked F B T D g
    have c3 := cal_of (P := P) (w := w) (base := base) (ps := ["term", "world", "now"]) d3 (fun _ _ _ _ _ _ us hl => match us, hl with | [_, _, _], _ => rfl) fun f fd F => ok_feither F B T g
    have c4 := cal_of (P := P) (w := w) (base := base) (ps := ["term", "world", "now"]) d4 (fun _ _ _ _ _ _ us hl => match us, hl with | [_, _, _], _ => rfl) fun f fd F => ok_fboth F B T D g
    have g3 : A3 P w K mg base C CW d := { g with moved := c1, looked := c2, followed_either := c3, followed_both := c4 }
    exact { G with followed := cal_of d5 (fun _ _ _ _ _ _ us hl => match us, hl with | [_, _, _], _ => rfl) fun f fd F => ok_followed F B Cs T D g3 }
abbrev s_Term_add : Stmt := inClass (topS 21) 1
theorem sc_Term_add : FnScope ["self", "other"] ["self", "other"] (defScope s_Term_add) := ⟨rfl, rfl, rfl, by decide +kernel, rfl, by decide +kernel, by decide +kernel⟩
structure V3 (P : Program) (w : World) (K : PySem.W.Frag) (mg : Str → Option Value) (base : Heap) (C : TC) (CW : Addr) : Prop extends A2 P w K mg base C CW 12 where
  shifted : Cal P w K mg base CX0 "shifted" 4 ["term", "amount"] (spShifted C)
theorem ok_tadd {f : Addr} {fd : FuncData} (F : Fun K "__add__" "Term.__add__" s_Term_add f fd) (B : Blt mg) (G : V3 P w K mg base C CW) : FnOk P w K mg base CX0 5 f fd ["self", "other"] (spShifted C) := by
  refine F.ok sc_Term_add (fun vs H Q E h => ?_) (fun cdv A outer s H vs Q E hr h => ?_)
  · obtain ⟨a, t, n, rfl, _⟩ := h
    rfl
  · obtain ⟨a, t, n, rfl, hT, hF, q⟩ := h
    refine ⟨_, (pss_cons (ps_if (pt_not (pt_val (pe_cal G.is_integer (hr.mono (by decide)) pass0 (pa_cons (pv 1) pa_nil))))
      (pss_one ps_never)
      pss_nil)
    (pss_one (ps_ret (pe_cal G.shifted (hr.mono (by decide)) pass0 (pa_cons (pv 0) (pa_cons (pv 1) pa_nil)))))), ?_⟩
    exact ⟨_, rfl, _, rfl, .inl ⟨n, rfl, _, rfl, iteF ⟨_, rfl, _, rfl, a, t, n, rfl, hT, hF, q⟩⟩⟩
abbrev s_l_same : Stmt := topS 75
theorem sc_l_same : FnScope ["told", "due"] ["told", "due"] (defScope s_l_same) := ⟨rfl, rfl, rfl, by decide +kernel, rfl, by decide +kernel, by decide +kernel⟩
def spSame : Sp := fun vs H Q _ => ∃ o o' : Option Int, vs = [oV o, oV o'] ∧ Q (.bl (decide (o = o'))) H
theorem ok_same {f : Addr} {fd : FuncData} (F : Fun K "_law_same" "_law_same" s_l_same f fd) (B : Blt mg) : FnOk P w K mg base CX0 1 f fd ["told", "due"] spSame := by
  refine F.ok sc_l_same (fun vs H Q E h => ?_) (fun cdv A outer s H vs Q E hr h => ?_)
  · obtain ⟨o, o', rfl, _⟩ := h
    rfl
  · obtain ⟨o, o', rfl, q⟩ := h
    refine ⟨_, (pss_cons (ps_if (pt_cmpR op_isN (pv 1) pe_non (nomark _))
      (pss_one (ps_ret (pe_cmpR op_isN (pv 0) pe_non (nomark _))))
      pss_nil)
    (pss_one (ps_ret (pe_and (pe_callB call_isi (by rfl) B.isinstance (by decide +kernel) (pa_cons (pv 0) (pa_cons (pe_bltn (v := .ty "int") (by rfl) B.int (by decide +kernel) rfl) pa_nil))) (pe_and (pe_not (pe_callB call_isi (by rfl) B.isinstance (by decide +kernel) (pa_cons (pv 0) (pa_cons (pe_bltn (v := .ty "bool") (by rfl) B.bool (by decide +kernel) rfl) pa_nil)))) (pe_one (pe_cmpR op_eq (pv 0) (pv 1) (nomark _)))))))), ?_⟩
    refine ⟨_, rfl, rfl, _, rfl, ?_⟩
    cases o' with
    | none =>
      refine ite2 (fun _ => ?_) (fun c => absurd rfl c)
      refine ⟨_, rfl, rfl, ?_⟩
      have e : decide (oV o = V.non) = decide (o = none) := by
        rw [oV_none]
        cases o <;> rfl
      rw [e]
      exact q
    | some i =>
      refine ite2 (fun c => absurd (of_decide_eq_true c) (fun z => nomatch z)) (fun _ => ?_)
      cases o with
      | none =>
        refine ⟨_, rfl, _, _, _, _, false, rfl, ClsV.ty _, .base .non, kit_ty (by decide +kernel), _, rfl, iteF ?_⟩
        rw [show decide ((none : Option Int) = some i) = false from decide_eq_false fun z => nomatch z] at q
        exact q
      | some j =>
        refine ⟨_, rfl, _, _, _, _, true, rfl, ClsV.ty _, .base (.int j), kit_ty (by decide +kernel), _, rfl, iteT ?_⟩
        refine ⟨_, rfl, _, _, _, _, false, rfl, ClsV.ty _, .base (.int j), kit_ty (by decide +kernel), _, rfl, _, rfl, iteT ?_⟩
        refine ⟨_, rfl, _, rfl, rfl, ?_⟩
        rw [show decide (oV (some j) = oV (some i)) = decide (some j = some i) by
          by_cases z : j = i
          · subst z; simp
          · rw [decide_eq_false (fun e : oV (some j) = oV (some i) => z (V.int.inj e)), decide_eq_false (fun e : some j = some i => z (Option.some.inj e))]]
        exact q
end
end Ash

set_option Elab.async false
set_option linter.all false
set_option maxRecDepth 100000
set_option maxHeartbeats 4000000
namespace Ash
open PySem PySem.Spec PyProof.Rows L2 SrtT
open C8 (pss_cut)
/-! ### amounts -/
inductive Am where
  | number (s : Str) (t : Tm)
  | count (s : Str) (t u : Tm)
  | total (s : Str) (t u : Tm)
  | gap (t u : Tm)
structure AC where
  number : Addr
  count : Addr
  total : Addr
  gap : Addr
def AC.of (A : AC) : Am → Addr
  | .number _ _ => A.number
  | .count _ _ _ => A.count
  | .total _ _ _ => A.total
  | .gap _ _ => A.gap
def AC.Is (A : AC) (a : Addr) : Prop := a = A.number ∨ a = A.count ∨ a = A.total ∨ a = A.gap
theorem AC.is_of (A : AC) (q : Am) : A.Is (A.of q) := by
  cases q
  · exact .inl rfl
  · exact .inr (.inl rfl)
  · exact .inr (.inr (.inl rfl))
  · exact .inr (.inr (.inr rfl))
def Am.spell : Am → List V
  | .number s t => .str "number" :: .str s :: t.spell
  | .count s t u => .str "count" :: .str s :: (t.spell ++ u.spell)
  | .total s t u => .str "total" :: .str s :: (t.spell ++ u.spell)
  | .gap t u => .str "gap" :: (t.spell ++ u.spell)
/-- the amount question q at a -/
def AmAt (A : AC) (C : TC) (H : Hp) (a : Addr) : Am → Prop
  | .number s t => ∃ dx b sp, H a = some (.ins A.number dx [("stream", .str s), ("term", .ref b), ("spelling", .ref sp)]) ∧ H sp = some (.tup (Am.spell (.number s t))) ∧ TmAt C H b t
  | .count s t u => ∃ dx b c sp, H a = some (.ins A.count dx [("stream", .str s), ("first", .ref b), ("last", .ref c), ("spelling", .ref sp)]) ∧ H sp = some (.tup (Am.spell (.count s t u))) ∧ TmAt C H b t ∧ TmAt C H c u
  | .total s t u => ∃ dx b c sp, H a = some (.ins A.total dx [("stream", .str s), ("first", .ref b), ("last", .ref c), ("spelling", .ref sp)]) ∧ H sp = some (.tup (Am.spell (.total s t u))) ∧ TmAt C H b t ∧ TmAt C H c u
  | .gap t u => ∃ dx b c sp, H a = some (.ins A.gap dx [("first", .ref b), ("last", .ref c), ("spelling", .ref sp)]) ∧ H sp = some (.tup (Am.spell (.gap t u))) ∧ TmAt C H b t ∧ TmAt C H c u
theorem AmAt.nl {A : AC} {C : TC} {H H' : Hp} (n : NL H H') {a : Addr} : ∀ {q : Am}, AmAt A C H a q → AmAt A C H' a q
  | .number _ _, ⟨dx, b, sp, h1, h2, h3⟩ => ⟨dx, b, sp, n _ _ h1 (fun _ z => nomatch z), n _ _ h2 (fun _ z => nomatch z), h3.nl n⟩
  | .count _ _ _, ⟨dx, b, c, sp, h1, h2, h3, h4⟩ => ⟨dx, b, c, sp, n _ _ h1 (fun _ z => nomatch z), n _ _ h2 (fun _ z => nomatch z), h3.nl n, h4.nl n⟩
  | .total _ _ _, ⟨dx, b, c, sp, h1, h2, h3, h4⟩ => ⟨dx, b, c, sp, n _ _ h1 (fun _ z => nomatch z), n _ _ h2 (fun _ z => nomatch z), h3.nl n, h4.nl n⟩
  | .gap _ _, ⟨dx, b, c, sp, h1, h2, h3, h4⟩ => ⟨dx, b, c, sp, n _ _ h1 (fun _ z => nomatch z), n _ _ h2 (fun _ z => nomatch z), h3.nl n, h4.nl n⟩
theorem AmAt.same {A : AC} {C : TC} {H H' : Hp} {a : Addr} {q : Am} (h : AmAt A C H a q) (s : Same H H') : AmAt A C H' a q := h.nl (nl_same s)
abbrev AATTRS : List Str := ["stream", "term", "first", "last", "spelling"]
/-- the facts of the classes of amounts -/
structure AF (K : PySem.W.Frag) (mg : Str → Option Value) (A : AC) (C : TC) : Prop where
  cl : ∀ a, A.Is a → Cls K a
  no : ∀ a, A.Is a → ∀ f ∈ AATTRS, NoAttr K a f
  ty : ∀ a, A.Is a → PySem.W.findIn K (.ref a) "__class__" = some (some (.builtin "object.__class__")) ∧ PySem.W.specialIn K (.builtin "object.__class__") "__get__" = some (some (.builtin "getset_descriptor.__get__")) ∧ PySem.W.takesIn K (.builtin "object.__class__") = some true ∧ PySem.W.mroIn K a (.type "object") = some true
  one : ∀ a b, A.Is a → A.Is b → PySem.W.kitOne K (.ref a) (.ref b) = some (decide (a = b))
  noT : ∀ a b, A.Is a → C.Is b → PySem.W.kitOne K (.ref a) (.ref b) = some false
  Number : mg "Number" = some (.ref A.number)
  Count : mg "Count" = some (.ref A.count)
  Total : mg "Total" = some (.ref A.total)
  Gap : mg "Gap" = some (.ref A.gap)
  nd : [A.number, A.count, A.total, A.gap].Nodup
theorem AmAt.ins {A : AC} {C : TC} {H : Hp} {a : Addr} : ∀ {q : Am}, AmAt A C H a q → ∃ dx fs, H a = some (.ins (A.of q) dx fs)
  | .number _ _, ⟨dx, b, sp, h1, _⟩ => ⟨dx, _, h1⟩
  | .count _ _ _, ⟨dx, b, c, sp, h1, _⟩ => ⟨dx, _, h1⟩
  | .total _ _ _, ⟨dx, b, c, sp, h1, _⟩ => ⟨dx, _, h1⟩
  | .gap _ _, ⟨dx, b, c, sp, h1, _⟩ => ⟨dx, _, h1⟩
theorem AF.tyx {K : PySem.W.Frag} {mg : Str → Option Value} {A : AC} {C : TC} (T : AF K mg A C) {H : Hp} {a : Addr} {q : Am} (h : AmAt A C H a q) : TyX K H (.ref a) (.ref (A.of q)) := by
  obtain ⟨dx, fs, i⟩ := h.ins
  obtain ⟨h1, h2, h3, h4⟩ := T.ty _ (A.is_of q)
  exact .base (.ins i (T.cl _ (A.is_of q)) h1 h2 h3 h4)
/-- an amount question is no term -/
theorem AF.noTm {K : PySem.W.Frag} {mg : Str → Option Value} {A : AC} {C : TC} (T : AF K mg A C) {H : Hp} {a : Addr} {q : Am} (h : AmAt A C H a q) : NotTm K C H (.ref a) := ⟨_, T.tyx h, fun b hb => T.noT _ _ (A.is_of q) hb⟩
/-! ### what an amount question answers -/
def lookA (r : Rs) (f : Int → Option T3) : Rs := match r.1 with
  | none => (none, r.2)
  | some m => match f m with
    | none => (none, r.2)
    | some t => (some t.2.2, r.2 ++ [t.2.1])
def betweenR (rs : List T3) (lo hi : Int) : List T3 := rs.filter fun t => decide (lo < t.1 ∧ t.1 ≤ hi)
def tellR (r s : Rs) (g : Int → Int → Rs) : Rs := match r.1 with
  | none => (none, r.2)
  | some m => match s.1 with
    | none => (none, r.2 ++ s.2)
    | some k => ((g m k).1, r.2 ++ s.2 ++ (g m k).2)
def evA (W : Tr) (now : Int) : Am → Rs
  | .number s t => lookA (ev W now t) (lastR (W s))
  | .count s t u => tellR (ev W now t) (ev W now u) fun m k => (some ((betweenR (W s) m k).length : Int), (betweenR (W s) m k).map (·.2.1))
  | .total s t u => tellR (ev W now t) (ev W now u) fun m k => (some ((betweenR (W s) m k).map (·.2.2)).sum, (betweenR (W s) m k).map (·.2.1))
  | .gap t u => tellR (ev W now t) (ev W now u) fun m k => (some (k - m), [])
def Am.NmS : Am → Prop
  | .number s t => IsNm s ∧ t.NmS
  | .count s t u => IsNm s ∧ t.NmS ∧ u.NmS
  | .total s t u => IsNm s ∧ t.NmS ∧ u.NmS
  | .gap t u => t.NmS ∧ u.NmS
def Am.Fit : Am → Prop
  | .number _ t => t.Fit
  | .count _ t u => t.Fit ∧ u.Fit
  | .total _ t u => t.Fit ∧ u.Fit
  | .gap t u => t.Fit ∧ u.Fit
def spInitN (A : AC) (C : TC) : Sp := fun vs H Q _ => ∃ (b dx a : Addr) (z : Str) (t : Tm), vs = [.ref b, .str z, .ref a] ∧ H b = some (.ins A.number dx []) ∧ IsNm z ∧ TmAt C H a t ∧ t.Fit ∧ ∀ H', AmAt A C H' b (.number z t) → Keep b H H' → Q .non H'
def spInitC (A : AC) (C : TC) (D : Addr) (mk : Str → Tm → Tm → Am) : Sp := fun vs H Q _ => ∃ (b dx a c : Addr) (z : Str) (t u : Tm), vs = [.ref b, .str z, .ref a, .ref c] ∧ H b = some (.ins D dx []) ∧ IsNm z ∧ TmAt C H a t ∧ TmAt C H c u ∧ t.Fit ∧ u.Fit ∧ ∀ H', AmAt A C H' b (mk z t u) → Keep b H H' → Q .non H'
def spInitG (A : AC) (C : TC) : Sp := fun vs H Q _ => ∃ (b dx a c : Addr) (t u : Tm), vs = [.ref b, .ref a, .ref c] ∧ H b = some (.ins A.gap dx []) ∧ TmAt C H a t ∧ TmAt C H c u ∧ t.Fit ∧ u.Fit ∧ ∀ H', AmAt A C H' b (.gap t u) → Keep b H H' → Q .non H'
def spIsAmount (A : AC) (C : TC) : Sp := fun vs H Q _ => ∃ a q, vs = [.ref a] ∧ AmAt A C H a q ∧ ∀ H', Same H H' → Q (.bl true) H'
section
variable {P : Program} {w : World} {K : PySem.W.Frag} {mg : Str → Option Value} {base : Heap} {C : TC} {CW : Addr} {A0 : AC}
theorem len3 {a b : V} {f g h : Str} {x y z : V} : putF h z (putF g y (putF f x [])) = [(f, x), (g, y), (h, z)] ∨ True := .inr trivial
abbrev s_Number_init : Stmt := inClass (topS 39) 0
theorem sc_Number_init : FnScope ["self", "stream", "term"] ["self", "stream", "term"] (defScope s_Number_init) := ⟨rfl, rfl, rfl, by decide +kernel, rfl, by decide +kernel, by decide +kernel⟩
theorem ok_number {f : Addr} {fd : FuncData} (F : Fun K "__init__" "Number.__init__" s_Number_init f fd) (B : Blt mg) (T : TF K mg C) (AT : AF K mg A0 C) (G : T2 P w K mg base C) : FnOk P w K mg base CX0 3 f fd ["self", "stream", "term"] (spInitN A0 C) := by
  refine F.ok sc_Number_init (fun vs H Q E h => ?_) (fun cdv A outer s H vs Q E hr h => ?_)
  · obtain ⟨b, dx, a, z, t, rfl, _⟩ := h
    rfl
  · obtain ⟨b, dx, a, z, t, rfl, hb, hz, hT, hF, q⟩ := h
    refine ⟨_, (pss_cons (ps_fld (pv 0) (pe_cal G.checked_stream (hr.mono (by decide)) pass0 (pa_cons (pv 1) pa_nil)) rfl)
    (pss_cons (ps_fld (pv 0) (pe_cal G.checked_term (hr.mono (by decide)) pass0 (pa_cons (pv 2) pa_nil)) rfl)
    (pss_one (ps_fld (pv 0) (pe_tup (pa_cons pe_str (pa_cons (pv 1) (StX.pa_star (pe_fld (pv 2) rfl) pa_nil)))) rfl)))), ?_⟩
    obtain ⟨D, hD⟩ : ∃ D, D = A0.number := ⟨_, rfl⟩
    have Is : A0.Is D := .inl hD
    rw [← hD] at hb
    refine ⟨_, rfl, z, rfl, hz, fun H1 s1 => ⟨_, rfl, b, D, dx, [], rfl, s1 _ _ hb, AT.cl _ Is, AT.no _ Is _ (by decide +kernel), (by show 0 < 1000; decide), ?_⟩⟩
    have K1 : Keep b H (upd H1 b (.ins D dx (putF "stream" (.str z) []))) := (Keep.refl.same s1).upd
    refine ⟨_, rfl, a, t, rfl, hT.off hb K1, fun H2 s2 => ⟨_, rfl, b, D, dx, _, rfl, s2 _ _ upd_same, AT.cl _ Is, AT.no _ Is _ (by decide +kernel), (by show 1 < 1000; decide), ?_⟩⟩
    have K2 : Keep b H (upd H2 b (.ins D dx (putF "term" (.ref a) (putF "stream" (.str z) [])))) := (K1.same s2).upd
    obtain ⟨dx1, fs1, sp1, In⟩ := (hT.off hb K2).in_
    have sl := Tm.spell_len t
    have hF2 : t.par ≤ 40 := hF.2.1
    refine ⟨_, rfl, _, rfl, _, _, dx1, fs1, _, rfl, In.at_, T.cl _ (C.is_of _), T.no _ (C.is_of _) _ (by decide +kernel), In.spelling, sp1, _, rfl, .inl (SqT.of In.spl), ?_, fun sp hsp => ⟨_, rfl, b, D, dx, _, rfl, sameAt (Same.refl _) hsp _ _ upd_same, AT.cl _ Is, AT.no _ Is _ (by decide +kernel), (by show 2 < 1000; decide), ?_⟩⟩
    · show (t.spell ++ []).length + 1 + 1 ≤ sizeLine
      rw [sizeLine_eq, List.append_nil]
      omega
    have sb : sp ≠ b := fun z => by rw [z, upd_same] at hsp; cases hsp
    have K3 := (K2.at hsp (u := .tup (.str "number" :: .str z :: (t.spell ++ [])))).upd (u := .ins D dx (putF "spelling" (.ref sp) (putF "term" (.ref a) (putF "stream" (.str z) []))))
    refine q _ ⟨dx, a, sp, ?_, ?_, hT.off hb K3⟩ K3
    · rw [upd_same, putF_no (fs := putF "term" (.ref a) (putF "stream" (.str z) [])) (by rw [pre2 (by decide +kernel)]; rfl), pre2 (by decide +kernel), hD]
      rfl
    · rw [upd_ne sb, upd_same]
      simp [Am.spell]
abbrev s_Count_init : Stmt := inClass (topS 40) 0
theorem sc_Count_init : FnScope ["self", "stream", "first", "last"] ["self", "stream", "first", "last"] (defScope s_Count_init) := ⟨rfl, rfl, rfl, by decide +kernel, rfl, by decide +kernel, by decide +kernel⟩
theorem ok_count {f : Addr} {fd : FuncData} (F : Fun K "__init__" "Count.__init__" s_Count_init f fd) (B : Blt mg) (T : TF K mg C) (AT : AF K mg A0 C) (G : T2 P w K mg base C) : FnOk P w K mg base CX0 3 f fd ["self", "stream", "first", "last"] (spInitC A0 C A0.count Am.count) := by
  refine F.ok sc_Count_init (fun vs H Q E h => ?_) (fun cdv A outer s H vs Q E hr h => ?_)
  · obtain ⟨b, dx, a, c, z, t, u, rfl, _⟩ := h
    rfl
  · obtain ⟨b, dx, a, c, z, t, u, rfl, hb, hz, hT, hU, hF, hG, q⟩ := h
    refine ⟨_, (pss_cons (ps_fld (pv 0) (pe_cal G.checked_stream (hr.mono (by decide)) pass0 (pa_cons (pv 1) pa_nil)) rfl)
    (pss_cons (ps_fld (pv 0) (pe_cal G.checked_term (hr.mono (by decide)) pass0 (pa_cons (pv 2) pa_nil)) rfl)
    (pss_cons (ps_fld (pv 0) (pe_cal G.checked_term (hr.mono (by decide)) pass0 (pa_cons (pv 3) pa_nil)) rfl)
    (pss_one (ps_fld (pv 0) (pe_tup (pa_cons pe_str (pa_cons (pv 1) (StX.pa_star (pe_fld (pv 2) rfl) (StX.pa_star (pe_fld (pv 3) rfl) pa_nil))))) rfl))))), ?_⟩
    obtain ⟨D, hD⟩ : ∃ D, D = A0.count := ⟨_, rfl⟩
    have Is : A0.Is D := .inr (.inl hD)
    rw [← hD] at hb
    refine ⟨_, rfl, z, rfl, hz, fun Hz sz => ⟨_, rfl, b, D, dx, [], rfl, sz _ _ hb, AT.cl _ Is, AT.no _ Is _ (by decide +kernel), (by show 0 < 1000; decide), ?_⟩⟩
    have K0 : Keep b H (upd Hz b (.ins D dx (putF "stream" (.str z) []))) := (Keep.refl.same sz).upd
    have hb0 : (upd Hz b (.ins D dx (putF "stream" (.str z) []))) b = some (.ins D dx (putF "stream" (.str z) [])) := upd_same
    refine ⟨_, rfl, a, t, rfl, hT.off hb K0, fun H1 s1 => ⟨_, rfl, b, D, dx, _, rfl, s1 _ _ hb0, AT.cl _ Is, AT.no _ Is _ (by decide +kernel), (by show 1 < 1000; decide), ?_⟩⟩
    have K1 : Keep b H (upd H1 b (.ins D dx (putF "first" (.ref a) (putF "stream" (.str z) [])))) := (K0.same s1).upd
    refine ⟨_, rfl, c, u, rfl, hU.off hb K1, fun H2 s2 => ⟨_, rfl, b, D, dx, _, rfl, s2 _ _ upd_same, AT.cl _ Is, AT.no _ Is _ (by decide +kernel), (by show 2 < 1000; decide), ?_⟩⟩
    have K2 : Keep b H (upd H2 b (.ins D dx (putF "last" (.ref c) (putF "first" (.ref a) (putF "stream" (.str z) []))))) := (K1.same s2).upd
    obtain ⟨dx1, fs1, sp1, In⟩ := (hT.off hb K2).in_
    obtain ⟨dx2, fs2, sp2, In2⟩ := (hU.off hb K2).in_
    have sl := Tm.spell_len t
    have sl2 := Tm.spell_len u
    have hF2 : t.par ≤ 40 := hF.2.1
    have hG2 : u.par ≤ 40 := hG.2.1
    refine ⟨_, rfl, _, rfl, _, _, dx1, fs1, _, rfl, In.at_, T.cl _ (C.is_of _), T.no _ (C.is_of _) _ (by decide +kernel), In.spelling, sp1, _, rfl, .inl (SqT.of In.spl), _, rfl, _, _, dx2, fs2, _, rfl, In2.at_, T.cl _ (C.is_of _), T.no _ (C.is_of _) _ (by decide +kernel), In2.spelling, sp2, _, rfl, .inl (SqT.of In2.spl), ?_, fun sp hsp => ⟨_, rfl, b, D, dx, _, rfl, sameAt (Same.refl _) hsp _ _ upd_same, AT.cl _ Is, AT.no _ Is _ (by decide +kernel), (by show 3 < 1000; decide), ?_⟩⟩
    · show (t.spell ++ (u.spell ++ [])).length + 1 + 1 ≤ sizeLine
      rw [sizeLine_eq, List.length_append, List.append_nil]
      omega
    have sb : sp ≠ b := fun z => by rw [z, upd_same] at hsp; cases hsp
    have K3 := (K2.at hsp (u := .tup (.str "count" :: .str z :: (t.spell ++ (u.spell ++ []))))).upd (u := .ins D dx (putF "spelling" (.ref sp) (putF "last" (.ref c) (putF "first" (.ref a) (putF "stream" (.str z) [])))))
    refine q _ ⟨dx, a, c, sp, ?_, ?_, hT.off hb K3, hU.off hb K3⟩ K3
    · rw [upd_same, pre2 (by decide +kernel), putF_no (f := "last") (by rfl), putF_no (f := "spelling") (by rfl), hD]
      rfl
    · rw [upd_ne sb, upd_same]
      simp [Am.spell]
abbrev s_Total_init : Stmt := inClass (topS 41) 0
theorem sc_Total_init : FnScope ["self", "stream", "first", "last"] ["self", "stream", "first", "last"] (defScope s_Total_init) := ⟨rfl, rfl, rfl, by decide +kernel, rfl, by decide +kernel, by decide +kernel⟩
theorem ok_total {f : Addr} {fd : FuncData} (F : Fun K "__init__" "Total.__init__" s_Total_init f fd) (B : Blt mg) (T : TF K mg C) (AT : AF K mg A0 C) (G : T2 P w K mg base C) : FnOk P w K mg base CX0 3 f fd ["self", "stream", "first", "last"] (spInitC A0 C A0.total Am.total) := by
  refine F.ok sc_Total_init (fun vs H Q E h => ?_) (fun cdv A outer s H vs Q E hr h => ?_)
  · obtain ⟨b, dx, a, c, z, t, u, rfl, _⟩ := h
    rfl
  · obtain ⟨b, dx, a, c, z, t, u, rfl, hb, hz, hT, hU, hF, hG, q⟩ := h
    refine ⟨_, (pss_cons (ps_fld (pv 0) (pe_cal G.checked_stream (hr.mono (by decide)) pass0 (pa_cons (pv 1) pa_nil)) rfl)
    (pss_cons (ps_fld (pv 0) (pe_cal G.checked_term (hr.mono (by decide)) pass0 (pa_cons (pv 2) pa_nil)) rfl)
    (pss_cons (ps_fld (pv 0) (pe_cal G.checked_term (hr.mono (by decide)) pass0 (pa_cons (pv 3) pa_nil)) rfl)
    (pss_one (ps_fld (pv 0) (pe_tup (pa_cons pe_str (pa_cons (pv 1) (StX.pa_star (pe_fld (pv 2) rfl) (StX.pa_star (pe_fld (pv 3) rfl) pa_nil))))) rfl))))), ?_⟩
    obtain ⟨D, hD⟩ : ∃ D, D = A0.total := ⟨_, rfl⟩
    have Is : A0.Is D := .inr (.inr (.inl hD))
    rw [← hD] at hb
    refine ⟨_, rfl, z, rfl, hz, fun Hz sz => ⟨_, rfl, b, D, dx, [], rfl, sz _ _ hb, AT.cl _ Is, AT.no _ Is _ (by decide +kernel), (by show 0 < 1000; decide), ?_⟩⟩
    have K0 : Keep b H (upd Hz b (.ins D dx (putF "stream" (.str z) []))) := (Keep.refl.same sz).upd
    have hb0 : (upd Hz b (.ins D dx (putF "stream" (.str z) []))) b = some (.ins D dx (putF "stream" (.str z) [])) := upd_same
    refine ⟨_, rfl, a, t, rfl, hT.off hb K0, fun H1 s1 => ⟨_, rfl, b, D, dx, _, rfl, s1 _ _ hb0, AT.cl _ Is, AT.no _ Is _ (by decide +kernel), (by show 1 < 1000; decide), ?_⟩⟩
    have K1 : Keep b H (upd H1 b (.ins D dx (putF "first" (.ref a) (putF "stream" (.str z) [])))) := (K0.same s1).upd
    refine ⟨_, rfl, c, u, rfl, hU.off hb K1, fun H2 s2 => ⟨_, rfl, b, D, dx, _, rfl, s2 _ _ upd_same, AT.cl _ Is, AT.no _ Is _ (by decide +kernel), (by show 2 < 1000; decide), ?_⟩⟩
    have K2 : Keep b H (upd H2 b (.ins D dx (putF "last" (.ref c) (putF "first" (.ref a) (putF "stream" (.str z) []))))) := (K1.same s2).upd
    obtain ⟨dx1, fs1, sp1, In⟩ := (hT.off hb K2).in_
    obtain ⟨dx2, fs2, sp2, In2⟩ := (hU.off hb K2).in_
    have sl := Tm.spell_len t
    have sl2 := Tm.spell_len u
    have hF2 : t.par ≤ 40 := hF.2.1
    have hG2 : u.par ≤ 40 := hG.2.1
    refine ⟨_, rfl, _, rfl, _, _, dx1, fs1, _, rfl, In.at_, T.cl _ (C.is_of _), T.no _ (C.is_of _) _ (by decide +kernel), In.spelling, sp1, _, rfl, .inl (SqT.of In.spl), _, rfl, _, _, dx2, fs2, _, rfl, In2.at_, T.cl _ (C.is_of _), T.no _ (C.is_of _) _ (by decide +kernel), In2.spelling, sp2, _, rfl, .inl (SqT.of In2.spl), ?_, fun sp hsp => ⟨_, rfl, b, D, dx, _, rfl, sameAt (Same.refl _) hsp _ _ upd_same, AT.cl _ Is, AT.no _ Is _ (by decide +kernel), (by show 3 < 1000; decide), ?_⟩⟩
    · show (t.spell ++ (u.spell ++ [])).length + 1 + 1 ≤ sizeLine
      rw [sizeLine_eq, List.length_append, List.append_nil]
      omega
    have sb : sp ≠ b := fun z => by rw [z, upd_same] at hsp; cases hsp
    have K3 := (K2.at hsp (u := .tup (.str "total" :: .str z :: (t.spell ++ (u.spell ++ []))))).upd (u := .ins D dx (putF "spelling" (.ref sp) (putF "last" (.ref c) (putF "first" (.ref a) (putF "stream" (.str z) [])))))
    refine q _ ⟨dx, a, c, sp, ?_, ?_, hT.off hb K3, hU.off hb K3⟩ K3
    · rw [upd_same, pre2 (by decide +kernel), putF_no (f := "last") (by rfl), putF_no (f := "spelling") (by rfl), hD]
      rfl
    · rw [upd_ne sb, upd_same]
      simp [Am.spell]
abbrev s_Gap_init : Stmt := inClass (topS 42) 0
theorem sc_Gap_init : FnScope ["self", "first", "last"] ["self", "first", "last"] (defScope s_Gap_init) := ⟨rfl, rfl, rfl, by decide +kernel, rfl, by decide +kernel, by decide +kernel⟩
theorem ok_gap {f : Addr} {fd : FuncData} (F : Fun K "__init__" "Gap.__init__" s_Gap_init f fd) (B : Blt mg) (T : TF K mg C) (AT : AF K mg A0 C) (G : T2 P w K mg base C) : FnOk P w K mg base CX0 3 f fd ["self", "first", "last"] (spInitG A0 C) := by
  refine F.ok sc_Gap_init (fun vs H Q E h => ?_) (fun cdv A outer s H vs Q E hr h => ?_)
  · obtain ⟨b, dx, a, c, t, u, rfl, _⟩ := h
    rfl
  · obtain ⟨b, dx, a, c, t, u, rfl, hb, hT, hU, hF, hG, q⟩ := h
    refine ⟨_, (pss_cons (ps_fld (pv 0) (pe_cal G.checked_term (hr.mono (by decide)) pass0 (pa_cons (pv 1) pa_nil)) rfl)
    (pss_cons (ps_fld (pv 0) (pe_cal G.checked_term (hr.mono (by decide)) pass0 (pa_cons (pv 2) pa_nil)) rfl)
    (pss_one (ps_fld (pv 0) (pe_tup (pa_cons pe_str (StX.pa_star (pe_fld (pv 1) rfl) (StX.pa_star (pe_fld (pv 2) rfl) pa_nil)))) rfl)))), ?_⟩
    obtain ⟨D, hD⟩ : ∃ D, D = A0.gap := ⟨_, rfl⟩
    have Is : A0.Is D := .inr (.inr (.inr hD))
    rw [← hD] at hb
    have s0 : Same H H := Same.refl H
    have K0 : Keep b H H := Keep.refl
    have hb0 : H b = some (.ins D dx ([])) := hb
    refine ⟨_, rfl, a, t, rfl, hT.off hb K0, fun H1 s1 => ⟨_, rfl, b, D, dx, _, rfl, s1 _ _ hb0, AT.cl _ Is, AT.no _ Is _ (by decide +kernel), (by show 0 < 1000; decide), ?_⟩⟩
    have K1 : Keep b H (upd H1 b (.ins D dx (putF "first" (.ref a) ([])))) := (K0.same s1).upd
    refine ⟨_, rfl, c, u, rfl, hU.off hb K1, fun H2 s2 => ⟨_, rfl, b, D, dx, _, rfl, s2 _ _ upd_same, AT.cl _ Is, AT.no _ Is _ (by decide +kernel), (by show 1 < 1000; decide), ?_⟩⟩
    have K2 : Keep b H (upd H2 b (.ins D dx (putF "last" (.ref c) (putF "first" (.ref a) ([]))))) := (K1.same s2).upd
    obtain ⟨dx1, fs1, sp1, In⟩ := (hT.off hb K2).in_
    obtain ⟨dx2, fs2, sp2, In2⟩ := (hU.off hb K2).in_
    have sl := Tm.spell_len t
    have sl2 := Tm.spell_len u
    have hF2 : t.par ≤ 40 := hF.2.1
    have hG2 : u.par ≤ 40 := hG.2.1
    refine ⟨_, rfl, _, _, dx1, fs1, _, rfl, In.at_, T.cl _ (C.is_of _), T.no _ (C.is_of _) _ (by decide +kernel), In.spelling, sp1, _, rfl, .inl (SqT.of In.spl), _, rfl, _, _, dx2, fs2, _, rfl, In2.at_, T.cl _ (C.is_of _), T.no _ (C.is_of _) _ (by decide +kernel), In2.spelling, sp2, _, rfl, .inl (SqT.of In2.spl), ?_, fun sp hsp => ⟨_, rfl, b, D, dx, _, rfl, sameAt (Same.refl _) hsp _ _ upd_same, AT.cl _ Is, AT.no _ Is _ (by decide +kernel), (by show 2 < 1000; decide), ?_⟩⟩
    · show (t.spell ++ (u.spell ++ [])).length + 1 ≤ sizeLine
      rw [sizeLine_eq, List.length_append, List.append_nil]
      omega
    have sb : sp ≠ b := fun z => by rw [z, upd_same] at hsp; cases hsp
    have K3 := (K2.at hsp (u := .tup (.str "gap" :: (t.spell ++ (u.spell ++ []))))).upd (u := .ins D dx (putF "spelling" (.ref sp) (putF "last" (.ref c) (putF "first" (.ref a) ([])))))
    refine q _ ⟨dx, a, c, sp, ?_, ?_, hT.off hb K3, hU.off hb K3⟩ K3
    · rw [upd_same, pre2 (by decide +kernel), putF_no (by rfl), hD]
      rfl
    · rw [upd_ne sb, upd_same]
      simp [Am.spell]
abbrev s_is_amount : Stmt := topS 43
theorem sc_is_amount : FnScope ["thing"] ["thing"] (defScope s_is_amount) := ⟨rfl, rfl, rfl, by decide +kernel, rfl, by decide +kernel, by decide +kernel⟩
theorem ok_isam {f : Addr} {fd : FuncData} (F : Fun K "is_amount" "is_amount" s_is_amount f fd) (B : Blt mg) (AT : AF K mg A0 C) : FnOk P w K mg base CX0 1 f fd ["thing"] (spIsAmount A0 C) := by
  have c_Number := AT.Number
  have c_Count := AT.Count
  have c_Total := AT.Total
  have c_Gap := AT.Gap
  refine F.ok sc_is_amount (fun vs H Q E h => ?_) (fun cdv A outer s H vs Q E hr h => ?_)
  · obtain ⟨a, q, rfl, _⟩ := h
    rfl
  · obtain ⟨a, am, rfl, h, q⟩ := h
    refine ⟨_, (pss_one (ps_ret (pe_callB call_isiT (by rfl) B.isinstance (by decide +kernel) (pa_cons (pv 0) (pa_cons (pe_tup (pa_cons (pe_glob (v := .ref A0.number) (by rfl) c_Number rfl) (pa_cons (pe_glob (v := .ref A0.count) (by rfl) c_Count rfl) (pa_cons (pe_glob (v := .ref A0.total) (by rfl) c_Total rfl) (pa_cons (pe_glob (v := .ref A0.gap) (by rfl) c_Gap rfl) pa_nil))))) pa_nil))))), ?_⟩
    refine ⟨_, rfl, (by show 4 ≤ sizeLine; decide), fun p hp => ?_⟩
    have s1 : ∀ {o}, Same H (upd H p o) := fun {o} => sameAt (Same.refl H) hp
    have k : PySem.W.kitAny K (.ref (A0.of am)) ([A0.number, A0.count, A0.total, A0.gap].map Value.ref) = some true := by
      have any : ∀ bs : List Addr, (∀ b ∈ bs, A0.Is b) → A0.of am ∈ bs → PySem.W.kitAny K (.ref (A0.of am)) (bs.map Value.ref) = some true := fun bs => by
        induction bs with
        | nil => exact fun _ h => nomatch h
        | cons b r ih =>
          intro hb hm
          refine kitAny_cons (AT.one _ b (A0.is_of am) (hb b List.mem_cons_self)) (fun e => ?_) (fun _ => rfl)
          exact ih (fun c hc => hb c (List.mem_cons_of_mem _ hc)) ((List.mem_cons.mp hm).resolve_left (of_decide_eq_false e))
      refine any _ (fun b hb => ?_) ?_
      · simp only [List.mem_cons, List.not_mem_nil, or_false] at hb
        exact hb
      · have := A0.is_of am
        simp only [List.mem_cons, List.not_mem_nil, or_false]
        exact this
    exact ⟨_, p, _, _, _, true, rfl, upd_same, .cons (.own _) (.cons (.own _) (.cons (.own _) (.cons (.own _) .nil))), AT.tyx (h.same s1), k, q _ s1⟩
end
end Ash

set_option Elab.async false
set_option linter.all false
set_option maxRecDepth 100000
set_option maxHeartbeats 4000000
namespace Ash
open PySem PySem.Spec PyProof.Rows L2 SrtT
open C8 (pss_cut)
/-- the number of a row, seen from a term's answer -/
def spLookedA (A : AC) (C : TC) (CW : Addr) (d : Nat) : Sp := fun vs H Q _ => ∃ (a b : Addr) (t : Tm) (s : Str) (W : Tr) (now : Int), vs = [.ref a, .ref b, .int now, .int 2] ∧ AmAt A C H a (.number s t) ∧ WAt CW H b W ∧ IsNm s ∧ t.NmS ∧ t.Fit ∧ t.dep ≤ (d : Int) ∧ Ans H Q (evA W now (.number s t))
def Am.isNumber : Am → Bool
  | .number _ _ => true
  | _ => false
def spTold (A : AC) (C : TC) (CW : Addr) (d : Nat) : Sp := fun vs H Q _ => ∃ (a b : Addr) (am : Am) (W : Tr) (now : Int), vs = [.ref a, .ref b, .int now] ∧ AmAt A C H a am ∧ am.isNumber = false ∧ WAt CW H b W ∧ am.NmS ∧ am.Fit ∧ Ans H Q (evA W now am)
section
variable {P : Program} {w : World} {K : PySem.W.Frag} {mg : Str → Option Value} {base : Heap} {C : TC} {CW : Addr} {A0 : AC}
theorem ok_lookedA {f : Addr} {fd : FuncData} {d : Nat} (F : Fun K "looked" "looked" s_looked f fd) (B : Blt mg) (T : TF K mg C) (AT : AF K mg A0 C) (G : A2 P w K mg base C CW d) : FnOk P w K mg base CX0 (2 * d + 5) f fd ["question", "world", "now", "place"] (spLookedA A0 C CW d) := by
  obtain ⟨t_cl, t_no, t_ty, t_one, c_Now, c_Last, c_Next, c_Shift, c_Either, c_Later, c_Earlier⟩ := id T
  refine F.ok sc_looked (fun vs H Q E h => ?_) (fun cdv A outer s H vs Q E hr h => ?_)
  · obtain ⟨a, b, t, z, W, now, rfl, _⟩ := h
    rfl
  · obtain ⟨a, b, t, z, W, now, rfl, hT, hW, hz, hN, hF, hd, q⟩ := h
    refine ⟨_, (pss_cons (ps_asg (pe_cal G.followed (hr.mono (by omega)) pass0 (pa_cons (pe_fld (pv 0) rfl) (pa_cons (pv 1) (pa_cons (pv 2) pa_nil)))) (pg_tup (by rfl) (pgs_cons (pg_name (i := 4) sc_looked.nd rfl (Or.inl rfl)) (pgs_cons (pg_name (i := 5) sc_looked.nd rfl (Or.inl rfl)) pgs_nil))))
    (pss_cons (ps_if (pt_cmpR op_isN (pv 4) pe_non (nomark _))
      (pss_one (ps_ret (pe_tup (pa_cons pe_non (pa_cons (pv 5) pa_nil)))))
      pss_nil)
    (pss_cons (ps_if (pt_val (pe_callB call_isi (by rfl) B.isinstance (by decide +kernel) (pa_cons (pv 0) (pa_cons (pe_glob (v := .ref C.next) (by rfl) c_Next rfl) pa_nil))))
      (pss_one (ps_set (i := 6) sc_looked.nd rfl (Or.inl rfl) (pe_cal G.next_row (hr.mono (by omega)) pass0 (pa_cons (pv 1) (pa_cons (pe_fld (pv 0) rfl) (pa_cons (pv 4) pa_nil))))))
      (pss_one (ps_set (i := 6) sc_looked.nd rfl (Or.inl rfl) (pe_cal G.last_row (hr.mono (by omega)) pass0 (pa_cons (pv 1) (pa_cons (pe_fld (pv 0) rfl) (pa_cons (pv 4) pa_nil)))))))
    (pss_cons (ps_if (pt_cmpR op_isN (pv 6) pe_non (nomark _))
      (pss_one (ps_ret (pe_tup (pa_cons pe_non (pa_cons (pv 5) pa_nil)))))
      pss_nil)
    (pss_one (ps_ret (pe_tup (pa_cons (pe_ix ix_tup (pv 6) (pv 3) (fun _ _ => rfl)) (pa_cons (pe_lst (StX.pa_star (pv 5) (pa_cons (pe_ix ix_tup (pv 6) pe_int (fun _ _ => rfl)) pa_nil))) pa_nil))))))))), ?_⟩
    obtain ⟨dx, c, sp, h1, h2, h3⟩ := id hT
    have Is : A0.Is A0.number := .inl rfl
    refine ⟨_, rfl, a, _, dx, _, _, rfl, h1, AT.cl _ Is, AT.no _ Is _ (by decide +kernel), rfl, _, rfl, _, rfl, c, b, t, W, now, rfl, h3, hW, hN, hF, hd, fun q1 l H1 s1 hq1 hl => ?_⟩
    have ln := ev_len (W := W) (now := now) t
    have l12 := hF.2.2
    have q : Ans H Q (lookA (ev W now t) (lastR (W z))) := q
    generalize ev W now t = r at q hq1 hl ln
    obtain ⟨r1, r2⟩ := r
    have ln : (r2.length : Int) ≤ t.lok := ln
    have k := AT.noT A0.number C.next Is (C.is_of (.next z .now))
    refine ⟨q1, _, rfl, SqT.of hq1, rfl, _, _, rfl, _, _, rfl, rfl, ?_⟩
    refine ⟨_, rfl, rfl, _, rfl, ?_⟩
    cases r1 with
    | none =>
      refine ite2 (fun _ => ?_) (fun c => absurd rfl c)
      exact ⟨_, rfl, (by show 2 ≤ sizeLine; decide), fun t2 ht2 => q t2 l _ (s1.trans (sameAt (Same.refl H1) ht2)) upd_same (sameAt (Same.refl H1) ht2 _ _ hl)⟩
    | some m =>
      refine ite2 (fun c => absurd (of_decide_eq_true c) (fun z => nomatch z)) (fun _ => ?_)
      refine ⟨_, rfl, _, _, _, _, _, rfl, .own _, AT.tyx (hT.same s1), k, _, rfl, iteF ?_⟩
      refine ⟨_, rfl, _, rfl, a, _, dx, _, _, rfl, s1 _ _ h1, AT.cl _ Is, AT.no _ Is _ (by decide +kernel), rfl, _, rfl, b, W, z, m, rfl, hW.same s1, hz, fun v H2 s2 hv => ?_⟩
      have hl2 := s2 _ _ hl
      have s12 := s1.trans s2
      refine ⟨_, rfl, rfl, _, rfl, ?_⟩
      cases hrow : lastR (W z) m with
      | none =>
        rw [hrow] at hv
        have hv : v = .non := hv
        subst hv
        have q : Ans H Q (none, r2) := by
          have q : Ans H Q (lookA (some m, r2) (lastR (W z))) := q
          rw [show lookA (some m, r2) (lastR (W z)) = (none, r2) by show (match lastR (W z) m with | none => _ | some t => _) = _; rw [hrow]] at q
          exact q
        refine ite2 (fun _ => ?_) (fun c => absurd rfl c)
        exact ⟨_, rfl, (by show 2 ≤ sizeLine; decide), fun t2 ht2 => q t2 l _ (s12.trans (sameAt (Same.refl H2) ht2)) upd_same (sameAt (Same.refl H2) ht2 _ _ hl2)⟩
      | some t3 =>
        rw [hrow] at hv
        obtain ⟨e, rfl, he⟩ := hv
        have q : Ans H Q (some t3.2.2, r2 ++ [t3.2.1]) := by
          have q : Ans H Q (lookA (some m, r2) (lastR (W z))) := q
          rw [show lookA (some m, r2) (lastR (W z)) = (some t3.2.2, r2 ++ [t3.2.1]) by show (match lastR (W z) m with | none => _ | some t => _) = _; rw [hrow]] at q
          exact q
        refine ite2 (fun c => absurd (of_decide_eq_true c) (fun z => nomatch z)) (fun _ => ?_)
        refine ⟨_, rfl, _, rfl, _, _, _, _, rfl, rfl, SqT.of he, rfl, _, rfl, l, _, rfl, .inr (SqL.of hl2), _, rfl, _, _, _, _, rfl, rfl, SqT.of he, rfl, ?_, fun l2 hl3 => ⟨(by show 2 ≤ sizeLine; decide), fun t2 ht2 => ?_⟩⟩
        · show (r2.map V.int ++ [_]).length ≤ sizeLine
          rw [List.length_append, List.length_map, sizeLine_eq]
          show r2.length + 1 ≤ _
          omega
        · have s3 := s12.trans (sameAt (Same.refl H2) hl3 (o := .lst (r2.map V.int ++ [.int t3.2.1])))
          have hl4 : upd H2 l2 (.lst (r2.map V.int ++ [.int t3.2.1])) l2 = some (.lst ((r2 ++ [t3.2.1]).map V.int)) := by
            rw [upd_same, List.map_append]
            rfl
          exact q t2 l2 _ (s3.trans (sameAt (Same.refl _) ht2)) upd_same (sameAt (Same.refl _) ht2 _ _ hl4)
/-- what is told of two moments -/
def amG (W : Tr) : Am → Int → Int → Rs
  | .number _ _ => fun _ _ => (none, [])
  | .count s _ _ => fun m k => (some ((betweenR (W s) m k).length : Int), (betweenR (W s) m k).map (·.2.1))
  | .total s _ _ => fun m k => (some ((betweenR (W s) m k).map (·.2.2)).sum, (betweenR (W s) m k).map (·.2.1))
  | .gap _ _ => fun m k => (some (k - m), [])
theorem AmAt.two {H : Hp} {a : Addr} {am : Am} (h : AmAt A0 C H a am) (hn : am.isNumber = false) (hN : am.NmS) (hF : am.Fit) : ∃ dx fs c1 c2 t u, H a = some (.ins (A0.of am) dx fs) ∧ fs.lookup ("first" : Str) = some (.ref c1) ∧ fs.lookup ("last" : Str) = some (.ref c2) ∧ TmAt C H c1 t ∧ TmAt C H c2 u ∧ (t.NmS ∧ u.NmS) ∧ (t.Fit ∧ u.Fit) ∧
    (∀ z, (∃ t u, am = .count z t u ∨ am = .total z t u) → fs.lookup ("stream" : Str) = some (.str z) ∧ IsNm z) ∧ ∀ W now, evA W now am = tellR (ev W now t) (ev W now u) (amG W am) := by
  cases am with
  | number _ _ => cases hn
  | count s t u =>
    obtain ⟨dx, b, c, sp, h1, h2, h3, h4⟩ := h
    refine ⟨dx, _, b, c, t, u, h1, rfl, rfl, h3, h4, hN.2, hF, fun z hz => ?_, fun _ _ => rfl⟩
    obtain ⟨_, _, e | e⟩ := hz <;> cases e
    exact ⟨rfl, hN.1⟩
  | total s t u =>
    obtain ⟨dx, b, c, sp, h1, h2, h3, h4⟩ := h
    refine ⟨dx, _, b, c, t, u, h1, rfl, rfl, h3, h4, hN.2, hF, fun z hz => ?_, fun _ _ => rfl⟩
    obtain ⟨_, _, e | e⟩ := hz <;> cases e
    exact ⟨rfl, hN.1⟩
  | gap t u =>
    obtain ⟨dx, b, c, sp, h1, h2, h3, h4⟩ := h
    refine ⟨dx, _, b, c, t, u, h1, rfl, rfl, h3, h4, hN, hF, fun z hz => ?_, fun _ _ => rfl⟩
    obtain ⟨_, _, e | e⟩ := hz <;> cases e
abbrev s_told_between : Stmt := topS 63
theorem sc_told_between : FnScope ["question", "world", "now", "first", "seen", "last", "more", "rows", "counted", "row"] ["question", "world", "now"] (defScope s_told_between) := ⟨rfl, rfl, rfl, by decide +kernel, rfl, by decide +kernel, by decide +kernel⟩
theorem ok_told {f : Addr} {fd : FuncData} (F : Fun K "told_between" "told_between" s_told_between f fd) (B : Blt mg) (T : TF K mg C) (AT : AF K mg A0 C) (TW : Cw K mg CW) (G : A2 P w K mg base C CW 12) : FnOk P w K mg base CX0 29 f fd ["question", "world", "now"] (spTold A0 C CW 12) := by
  have c_Number := AT.Number
  have c_Count := AT.Count
  have c_Total := AT.Total
  have c_Gap := AT.Gap
  refine F.ok sc_told_between (fun vs H Q E h => ?_) (fun cdv A outer s H vs Q E hr h => ?_)
  · obtain ⟨a, b, am, W, now, rfl, _⟩ := h
    rfl
  · obtain ⟨a, b, am, W, now, rfl, hA, hn, hW, hN, hF, q⟩ := h
    refine ⟨_, (pss_cons (ps_asg (pe_cal G.followed (hr.mono (by decide)) pass0 (pa_cons (pe_fld (pv 0) rfl) (pa_cons (pv 1) (pa_cons (pv 2) pa_nil)))) (pg_tup (by rfl) (pgs_cons (pg_name (i := 3) sc_told_between.nd rfl (Or.inr rfl)) (pgs_cons (pg_name (i := 4) sc_told_between.nd rfl (Or.inl rfl)) pgs_nil))))
    (pss_cons (ps_if (pt_cmpR op_isN (pv 3) pe_non (nomark _))
      (pss_one (ps_ret (pe_tup (pa_cons pe_non (pa_cons (pv 4) pa_nil)))))
      pss_nil)
    (pss_cons (ps_asg (pe_cal G.followed (hr.mono (by decide)) pass0 (pa_cons (pe_fld (pv 0) rfl) (pa_cons (pv 1) (pa_cons (pv 2) pa_nil)))) (pg_tup (by rfl) (pgs_cons (pg_name (i := 5) sc_told_between.nd rfl (Or.inr rfl)) (pgs_cons (pg_name (i := 6) sc_told_between.nd rfl (Or.inl rfl)) pgs_nil))))
    (pss_cons (ps_set (i := 4) sc_told_between.nd rfl (Or.inl rfl) (pe_lst (StX.pa_star (pv 4) (StX.pa_star (pv 6) pa_nil))))
    (pss_cons (ps_if (pt_cmpR op_isN (pv 5) pe_non (nomark _))
      (pss_one (ps_ret (pe_tup (pa_cons pe_non (pa_cons (pv 4) pa_nil)))))
      pss_nil)
    (pss_cons (ps_if (pt_val (pe_callB call_isi (by rfl) B.isinstance (by decide +kernel) (pa_cons (pv 0) (pa_cons (pe_glob (v := .ref A0.gap) (by rfl) c_Gap rfl) pa_nil))))
      (pss_one (ps_ret (pe_tup (pa_cons (pe_op op_sub (pv 5) (pv 3)) (pa_cons (pv 4) pa_nil)))))
      pss_nil)
    (pss_cons (ps_setLc (i := 7) (own := [("row", 9)]) (g := gName 9) (by rfl) sc_told_between.nd rfl rfl (sw_true rfl rfl rfl (by decide +kernel)) (pi_list (pe_met TW.cl G.rows (hr.mono (by decide)) pass0 (pv 1) (pa_cons (pe_fld (pv 0) rfl) pa_nil))) (blkOk_by (own := [("row", 9)]) (N := ["question", "world", "now", "first", "seen", "last", "more", "rows", "counted", "row"]) (sc := defScope s_told_between) (by decide +kernel)) (fun _ _ _ _ _ => (pg_name (i := 9) sc_told_between.nd rfl (Or.inl rfl))) (fun _ _ _ _ _ => pts_one (pt_chain op_lt op_le (pv 3) (pe_ix (show IxR _ (rIxT K) from ix_tup) (pv 9) pe_int (fun _ _ => rfl)) (pv 5))) (fun _ _ _ _ _ => (pv 9)))
    (pss_cons (ps_setLc (i := 8) (own := [("row", 9)]) (g := gName 9) (tt := tYes) (by rfl) sc_told_between.nd rfl rfl (sw_true rfl rfl rfl (by decide +kernel)) (pi_list (pv 7)) (blkOk_by (own := [("row", 9)]) (N := ["question", "world", "now", "first", "seen", "last", "more", "rows", "counted", "row"]) (sc := defScope s_told_between) (by decide +kernel)) (fun _ _ _ _ _ => (pg_name (i := 9) sc_told_between.nd rfl (Or.inl rfl))) (fun _ _ _ _ _ => pts_nil) (fun _ _ _ _ _ => (pe_ix (show IxR _ (rIxT K) from ix_tup) (pv 9) pe_int (fun _ _ => rfl))))
    (pss_cons (ps_set (i := 4) sc_told_between.nd rfl (Or.inl rfl) (pe_lst (StX.pa_star (pv 4) (StX.pa_star (pv 8) pa_nil))))
    (pss_cons (ps_if (pt_val (pe_callB call_isi (by rfl) B.isinstance (by decide +kernel) (pa_cons (pv 0) (pa_cons (pe_glob (v := .ref A0.count) (by rfl) c_Count rfl) pa_nil))))
      (pss_one (ps_ret (pe_tup (pa_cons (pe_callB call_len_seq (by rfl) B.len (by decide +kernel) (pa_cons (pv 7) pa_nil)) (pa_cons (pv 4) pa_nil)))))
      pss_nil)
    (pss_one (ps_ret (pe_tup (pa_cons (pe_callB (cr_sum rfl) (by rfl) B.sum (by decide +kernel) (pa_cons (pe_lc (own := [("row", 9)]) (g := gName 9) (tt := tYes) (by rfl) sc_told_between.nd (pi_list (pv 7)) (blkOk_by (own := [("row", 9)]) (N := ["question", "world", "now", "first", "seen", "last", "more", "rows", "counted", "row"]) (sc := defScope s_told_between) (by decide +kernel)) (fun _ _ _ _ _ => (pg_name (i := 9) sc_told_between.nd rfl (Or.inl rfl))) (fun _ _ _ _ _ => pts_nil) (fun _ _ _ _ _ => (pe_ix (show IxR _ (rIxT K) from ix_tup) (pv 9) pe_int (fun _ _ => rfl)))) pa_nil)) (pa_cons (pv 4) pa_nil))))))))))))))), ?_⟩
    obtain ⟨dx, fs, c1, c2, t, u, h1, i1, i2, hT, hU, ⟨hN1, hN2⟩, ⟨hF1, hF2⟩, hst, hev⟩ := hA.two hn hN hF
    have Is := A0.is_of am
    refine ⟨_, rfl, a, _, dx, _, _, rfl, h1, AT.cl _ Is, AT.no _ Is _ (by decide +kernel), i1, _, rfl, _, rfl, c1, b, t, W, now, rfl, hT, hW, hN1, hF1, hF1.1, fun q1 l H1 s1 hq1 hl => ?_⟩
    have ln := ev_len (W := W) (now := now) t
    have ln2 := ev_len (W := W) (now := now) u
    have l12 := hF1.2.2
    have l13 := hF2.2.2
    rw [hev] at q
    generalize ev W now t = r at q hq1 hl ln
    obtain ⟨r1, r2⟩ := r
    have ln : (r2.length : Int) ≤ t.lok := ln
    refine ⟨q1, _, rfl, SqT.of hq1, rfl, _, _, rfl, _, _, rfl, rfl, ?_⟩
    refine ⟨_, rfl, rfl, _, rfl, ?_⟩
    cases r1 with
    | none =>
      refine ite2 (fun _ => ?_) (fun c => absurd rfl c)
      exact ⟨_, rfl, (by show 2 ≤ sizeLine; decide), fun t2 ht2 => q t2 l _ (s1.trans (sameAt (Same.refl H1) ht2)) upd_same (sameAt (Same.refl H1) ht2 _ _ hl)⟩
    | some m =>
      refine ite2 (fun c => absurd (of_decide_eq_true c) (fun z => nomatch z)) (fun _ => ?_)
      refine ⟨_, rfl, a, _, dx, _, _, rfl, s1 _ _ h1, AT.cl _ Is, AT.no _ Is _ (by decide +kernel), i2, _, rfl, _, rfl, c2, b, u, W, now, rfl, hU.same s1, hW.same s1, hN2, hF2, hF2.1, fun q2 l2 H2 s2 hq2 hl2 => ?_⟩
      generalize ev W now u = r' at q hq2 hl2 ln2
      obtain ⟨x1, x2⟩ := r'
      have ln2 : (x2.length : Int) ≤ u.lok := ln2
      have s12 := s1.trans s2
      refine ⟨q2, _, rfl, SqT.of hq2, rfl, _, _, rfl, _, _, rfl, rfl, ?_⟩
      refine ⟨_, rfl, l, _, rfl, .inr (SqL.of (s2 _ _ hl)), _, rfl, l2, _, rfl, .inr (SqL.of hl2), ?_, fun l3 hl3 => ?_⟩
      · show (r2.map V.int ++ (x2.map V.int ++ [])).length ≤ sizeLine
        rw [List.length_append, List.length_append, List.length_map, List.length_map, sizeLine_eq]
        show r2.length + (x2.length + 0) ≤ _
        omega
      have s3 := s12.trans (sameAt (Same.refl H2) hl3 (o := .lst (r2.map V.int ++ (x2.map V.int ++ []))))
      have hl4 : upd H2 l3 (.lst (r2.map V.int ++ (x2.map V.int ++ []))) l3 = some (.lst ((r2 ++ x2).map V.int)) := by
        rw [upd_same, List.map_append, List.append_nil]
      refine ⟨_, rfl, rfl, _, rfl, ?_⟩
      cases x1 with
      | none =>
        refine ite2 (fun _ => ?_) (fun c => absurd rfl c)
        exact ⟨_, rfl, (by show 2 ≤ sizeLine; decide), fun t2 ht2 => q t2 l3 _ (s3.trans (sameAt (Same.refl _) ht2)) upd_same (sameAt (Same.refl _) ht2 _ _ hl4)⟩
      | some m2 =>
        refine ite2 (fun c => absurd (of_decide_eq_true c) (fun z => nomatch z)) (fun _ => ?_)
        have k := AT.one (A0.of am) A0.gap Is (.inr (.inr (.inr rfl)))
        refine ⟨_, rfl, _, _, _, _, _, rfl, .own _, AT.tyx (hA.same s3), k, _, rfl, ?_⟩
        have nd := AT.nd
        simp only [List.nodup_cons, List.mem_cons, List.not_mem_nil, or_false, not_or] at nd
        cases am with
        | number _ _ => cases hn
        | gap t' u' =>
          rw [show decide (A0.of (.gap t' u') = A0.gap) = true from decide_eq_true rfl]
          have q : Ans H Q (some (m2 - m), r2 ++ x2 ++ []) := q
          rw [List.append_nil] at q
          exact iteT ⟨_, rfl, _, rfl, _, _, rfl, rfl, _, rfl, (by show 2 ≤ sizeLine; decide), fun t2 ht2 => q t2 l3 _ (s3.trans (sameAt (Same.refl _) ht2)) upd_same (sameAt (Same.refl _) ht2 _ _ hl4)⟩
        | count z t' u' =>
          rw [show decide (A0.of (.count z t' u') = A0.gap) = false from decide_eq_false nd.2.1.2]
          refine iteF ?_
          obtain ⟨hs1, hz⟩ := hst z ⟨t', u', .inl rfl⟩
          have hW3 := hW.same s3
          obtain ⟨dxw, dw, tw, kw, iw, w1, w2, w3, w4⟩ := id hW3
          have l4 := (w4 z).1
          refine ⟨_, rfl, b, dxw, _, rfl, w1, rfl, _, rfl, a, _, dx, _, _, rfl, s3 _ _ h1, AT.cl _ Is, AT.no _ Is _ (by decide +kernel), hs1, b, W, z, rfl, hW3, hz, fun p ys H4 s4 hp hys hTr => ?_⟩
          refine ⟨p, rfl, ⟨_, SqL.of hys⟩, fun D hD => lc_it (walk_list (xs := ys)) (fun i H5 => (∃ zs, H5 D = some (.lst zs) ∧ TrAt H5 zs (betweenR ((W z).take i) m m2)) ∧ Same H4 H5) ⟨⟨[], upd_same, rfl, fun i v t a b => by simp at a⟩, sameAt (Same.refl H4) hD⟩ (fun i H5 _ hv => SqL.of (hv.2 _ _ hys)) ?_ ?_⟩
          · rintro i x H5 H6 hi ⟨⟨zs, hD5, hT5⟩, s5⟩ ⟨rfl, hx⟩
            have hi2 : i < (W z).length := by rw [← hTr.1]; exact hi
            obtain ⟨t3, ht⟩ : ∃ t3, (W z)[i]? = some t3 := ⟨_, List.getElem?_eq_getElem hi2⟩
            obtain ⟨e, rfl, he⟩ := hTr.2 i x t3 hx ht
            have he1 := s5 _ _ he
            have tk : ∀ {u} t xs, H6 t = some (.tup xs) → upd H6 D (.lst u) t = some (.tup xs) := fun {u} t xs q => by rw [upd_ne (ne_of q hD5 (by intro z; cases z))]; exact q
            have lz : zs.length ≤ 400 := by
              rw [hT5.1]
              refine Nat.le_trans (List.length_filter_le _ _) ?_
              rw [List.length_take]
              omega
            have st : betweenR ((W z).take (i + 1)) m m2 = betweenR ((W z).take i) m m2 ++ (if m < t3.1 ∧ t3.1 ≤ m2 then [t3] else []) := by
              unfold betweenR
              rw [list_take ht, List.filter_append, List.filter_cons]
              by_cases c : m < t3.1 ∧ t3.1 ≤ m2
              · rw [if_pos (decide_eq_true c), if_pos c]; rfl
              · rw [if_neg (fun z => c (of_decide_eq_true z)), if_neg c]; rfl
            refine ⟨rfl, _, rfl, _, rfl, _, _, _, _, rfl, rfl, SqT.of he1, rfl, _, _, rfl, rfl, _, rfl, ?_⟩
            rw [st]
            refine ite2 (fun ca => ?_) (fun ca => ?_)
            · have ca : m < t3.1 := of_decide_eq_true ca
              refine ⟨_, rfl, _, _, rfl, rfl, _, rfl, ?_⟩
              refine ite2 (fun cb => ?_) (fun cb => ?_)
              · rw [if_pos ⟨ca, of_decide_eq_true cb⟩]
                exact ⟨_, rfl, zs, hD5, small1000 (by omega), ⟨_, upd_same, (hT5.tk tk).snoc (tk _ _ he1)⟩, sameAt s5 hD⟩
              · rw [if_neg (fun z => cb (decide_eq_true z.2)), List.append_nil]
                exact ⟨⟨zs, hD5, hT5⟩, s5⟩
            · rw [if_neg (fun z => ca (decide_eq_true z.1)), List.append_nil]
              exact ⟨_, rfl, iteF ⟨⟨zs, hD5, hT5⟩, s5⟩⟩
          · rintro H5 ⟨⟨zs, hD5, hT5⟩, s5⟩
            rw [hTr.1, List.take_length] at hT5
            have s35 := (s3.trans s4).trans s5
            have lb : (betweenR (W z) m m2).length ≤ 400 := Nat.le_trans (List.length_filter_le _ _) l4
            refine ⟨_, rfl, D, rfl, ⟨_, SqL.of hD5⟩, fun D2 hD2 => lc_it (walk_list (xs := zs)) (fun i H6 => H6 D2 = some (.lst ((((betweenR (W z) m m2).take i).map (fun x : T3 => x.2.1)).map V.int)) ∧ Same H5 H6) ⟨upd_same, sameAt (Same.refl H5) hD2⟩ (fun i H6 _ hv => SqL.of (hv.2 _ _ hD5)) ?_ ?_⟩
            · rintro i x H6 H7 hi ⟨hD6, s6⟩ ⟨rfl, hx⟩
              have hi2 : i < (betweenR (W z) m m2).length := by rw [← hT5.1]; exact hi
              obtain ⟨t3, ht⟩ : ∃ t3, (betweenR (W z) m m2)[i]? = some t3 := ⟨_, List.getElem?_eq_getElem hi2⟩
              obtain ⟨e, rfl, he⟩ := hT5.2 i x t3 hx ht
              have he1 := s6 _ _ he
              refine ⟨rfl, _, rfl, _, _, _, _, rfl, rfl, SqT.of he1, rfl, _, hD6, ?_, ?_, sameAt s6 hD2⟩
              · rw [List.length_map, List.length_map, List.length_take]
                exact small1000 (by omega)
              · rw [upd_same, list_take ht, List.map_append, List.map_append]
                rfl
            · rintro H6 ⟨hD6, s6⟩
              rw [hT5.1, List.take_length] at hD6
              have s36 := s35.trans s6
              have hl6 := ((s4.trans s5).trans s6) _ _ hl4
              refine ⟨_, rfl, l3, _, rfl, .inr (SqL.of hl6), _, rfl, D2, _, rfl, .inr (SqL.of hD6), ?_, fun l5 hl5 => ?_⟩
              · show ((r2 ++ x2).map V.int ++ (((betweenR (W z) m m2).map (fun x : T3 => x.2.1)).map V.int ++ [])).length ≤ sizeLine
                rw [List.length_append, List.length_append, List.length_map, List.length_append, List.length_map, List.length_map, sizeLine_eq]
                show r2.length + x2.length + ((betweenR (W z) m m2).length + 0) ≤ _
                omega
              have s7 := s36.trans (sameAt (Same.refl H6) hl5 (o := .lst ((r2 ++ x2).map V.int ++ (((betweenR (W z) m m2).map (fun x : T3 => x.2.1)).map V.int ++ []))))
              have hl7 : upd H6 l5 (.lst ((r2 ++ x2).map V.int ++ (((betweenR (W z) m m2).map (fun x : T3 => x.2.1)).map V.int ++ []))) l5 = some (.lst ((r2 ++ x2 ++ (betweenR (W z) m m2).map (fun x : T3 => x.2.1)).map V.int)) := by
                rw [upd_same, List.map_append (l₁ := r2 ++ x2), List.append_nil]
              have hD7 := sameAt (Same.refl H6) hl5 (o := .lst ((r2 ++ x2).map V.int ++ (((betweenR (W z) m m2).map (fun x : T3 => x.2.1)).map V.int ++ []))) _ _ (s6 _ _ hD5)
              generalize upd H6 l5 (.lst ((r2 ++ x2).map V.int ++ (((betweenR (W z) m m2).map (fun x : T3 => x.2.1)).map V.int ++ []))) = H7 at s7 hl7 hD7 ⊢
              have k2 := AT.one (A0.of (.count z t' u')) A0.count Is (.inr (.inl rfl))
              refine ⟨_, rfl, _, _, _, _, _, rfl, .own _, AT.tyx (hA.same s7), k2, _, rfl, ?_⟩
              rw [show decide (A0.of (.count z t' u') = A0.count) = true from decide_eq_true rfl]
              have q : Ans H Q (some ((betweenR (W z) m m2).length : Int), r2 ++ x2 ++ (betweenR (W z) m m2).map (fun x : T3 => x.2.1)) := q
              rw [← hT5.1] at q
              exact iteT ⟨_, rfl, _, _, rfl, .inl (SqL.of hD7), _, rfl, (by show 2 ≤ sizeLine; decide), fun t2 ht2 => q t2 l5 _ (s7.trans (sameAt (Same.refl _) ht2)) upd_same (sameAt (Same.refl _) ht2 _ _ hl7)⟩
        | total z t' u' =>
          rw [show decide (A0.of (.total z t' u') = A0.gap) = false from decide_eq_false nd.2.2.1]
          refine iteF ?_
          obtain ⟨hs1, hz⟩ := hst z ⟨t', u', .inr rfl⟩
          have hW3 := hW.same s3
          obtain ⟨dxw, dw, tw, kw, iw, w1, w2, w3, w4⟩ := id hW3
          have l4 := (w4 z).1
          refine ⟨_, rfl, b, dxw, _, rfl, w1, rfl, _, rfl, a, _, dx, _, _, rfl, s3 _ _ h1, AT.cl _ Is, AT.no _ Is _ (by decide +kernel), hs1, b, W, z, rfl, hW3, hz, fun p ys H4 s4 hp hys hTr => ?_⟩
          refine ⟨p, rfl, ⟨_, SqL.of hys⟩, fun D hD => lc_it (walk_list (xs := ys)) (fun i H5 => (∃ zs, H5 D = some (.lst zs) ∧ TrAt H5 zs (betweenR ((W z).take i) m m2)) ∧ Same H4 H5) ⟨⟨[], upd_same, rfl, fun i v t a b => by simp at a⟩, sameAt (Same.refl H4) hD⟩ (fun i H5 _ hv => SqL.of (hv.2 _ _ hys)) ?_ ?_⟩
          · rintro i x H5 H6 hi ⟨⟨zs, hD5, hT5⟩, s5⟩ ⟨rfl, hx⟩
            have hi2 : i < (W z).length := by rw [← hTr.1]; exact hi
            obtain ⟨t3, ht⟩ : ∃ t3, (W z)[i]? = some t3 := ⟨_, List.getElem?_eq_getElem hi2⟩
            obtain ⟨e, rfl, he⟩ := hTr.2 i x t3 hx ht
            have he1 := s5 _ _ he
            have tk : ∀ {u} t xs, H6 t = some (.tup xs) → upd H6 D (.lst u) t = some (.tup xs) := fun {u} t xs q => by rw [upd_ne (ne_of q hD5 (by intro z; cases z))]; exact q
            have lz : zs.length ≤ 400 := by
              rw [hT5.1]
              refine Nat.le_trans (List.length_filter_le _ _) ?_
              rw [List.length_take]
              omega
            have st : betweenR ((W z).take (i + 1)) m m2 = betweenR ((W z).take i) m m2 ++ (if m < t3.1 ∧ t3.1 ≤ m2 then [t3] else []) := by
              unfold betweenR
              rw [list_take ht, List.filter_append, List.filter_cons]
              by_cases c : m < t3.1 ∧ t3.1 ≤ m2
              · rw [if_pos (decide_eq_true c), if_pos c]; rfl
              · rw [if_neg (fun z => c (of_decide_eq_true z)), if_neg c]; rfl
            refine ⟨rfl, _, rfl, _, rfl, _, _, _, _, rfl, rfl, SqT.of he1, rfl, _, _, rfl, rfl, _, rfl, ?_⟩
            rw [st]
            refine ite2 (fun ca => ?_) (fun ca => ?_)
            · have ca : m < t3.1 := of_decide_eq_true ca
              refine ⟨_, rfl, _, _, rfl, rfl, _, rfl, ?_⟩
              refine ite2 (fun cb => ?_) (fun cb => ?_)
              · rw [if_pos ⟨ca, of_decide_eq_true cb⟩]
                exact ⟨_, rfl, zs, hD5, small1000 (by omega), ⟨_, upd_same, (hT5.tk tk).snoc (tk _ _ he1)⟩, sameAt s5 hD⟩
              · rw [if_neg (fun z => cb (decide_eq_true z.2)), List.append_nil]
                exact ⟨⟨zs, hD5, hT5⟩, s5⟩
            · rw [if_neg (fun z => ca (decide_eq_true z.1)), List.append_nil]
              exact ⟨_, rfl, iteF ⟨⟨zs, hD5, hT5⟩, s5⟩⟩
          · rintro H5 ⟨⟨zs, hD5, hT5⟩, s5⟩
            rw [hTr.1, List.take_length] at hT5
            have s35 := (s3.trans s4).trans s5
            have lb : (betweenR (W z) m m2).length ≤ 400 := Nat.le_trans (List.length_filter_le _ _) l4
            refine ⟨_, rfl, D, rfl, ⟨_, SqL.of hD5⟩, fun D2 hD2 => lc_it (walk_list (xs := zs)) (fun i H6 => H6 D2 = some (.lst ((((betweenR (W z) m m2).take i).map (fun x : T3 => x.2.1)).map V.int)) ∧ Same H5 H6) ⟨upd_same, sameAt (Same.refl H5) hD2⟩ (fun i H6 _ hv => SqL.of (hv.2 _ _ hD5)) ?_ ?_⟩
            · rintro i x H6 H7 hi ⟨hD6, s6⟩ ⟨rfl, hx⟩
              have hi2 : i < (betweenR (W z) m m2).length := by rw [← hT5.1]; exact hi
              obtain ⟨t3, ht⟩ : ∃ t3, (betweenR (W z) m m2)[i]? = some t3 := ⟨_, List.getElem?_eq_getElem hi2⟩
              obtain ⟨e, rfl, he⟩ := hT5.2 i x t3 hx ht
              have he1 := s6 _ _ he
              refine ⟨rfl, _, rfl, _, _, _, _, rfl, rfl, SqT.of he1, rfl, _, hD6, ?_, ?_, sameAt s6 hD2⟩
              · rw [List.length_map, List.length_map, List.length_take]
                exact small1000 (by omega)
              · rw [upd_same, list_take ht, List.map_append, List.map_append]
                rfl
            · rintro H6 ⟨hD6, s6⟩
              rw [hT5.1, List.take_length] at hD6
              have s36 := s35.trans s6
              have hl6 := ((s4.trans s5).trans s6) _ _ hl4
              refine ⟨_, rfl, l3, _, rfl, .inr (SqL.of hl6), _, rfl, D2, _, rfl, .inr (SqL.of hD6), ?_, fun l5 hl5 => ?_⟩
              · show ((r2 ++ x2).map V.int ++ (((betweenR (W z) m m2).map (fun x : T3 => x.2.1)).map V.int ++ [])).length ≤ sizeLine
                rw [List.length_append, List.length_append, List.length_map, List.length_append, List.length_map, List.length_map, sizeLine_eq]
                show r2.length + x2.length + ((betweenR (W z) m m2).length + 0) ≤ _
                omega
              have s7 := s36.trans (sameAt (Same.refl H6) hl5 (o := .lst ((r2 ++ x2).map V.int ++ (((betweenR (W z) m m2).map (fun x : T3 => x.2.1)).map V.int ++ []))))
              have hl7 : upd H6 l5 (.lst ((r2 ++ x2).map V.int ++ (((betweenR (W z) m m2).map (fun x : T3 => x.2.1)).map V.int ++ []))) l5 = some (.lst ((r2 ++ x2 ++ (betweenR (W z) m m2).map (fun x : T3 => x.2.1)).map V.int)) := by
                rw [upd_same, List.map_append (l₁ := r2 ++ x2), List.append_nil]
              have hD7 := sameAt (Same.refl H6) hl5 (o := .lst ((r2 ++ x2).map V.int ++ (((betweenR (W z) m m2).map (fun x : T3 => x.2.1)).map V.int ++ []))) _ _ (s6 _ _ hD5)
              have hTr7 := (hT5.tk fun t xs q => s6 _ _ q).tk fun t xs q => sameAt (Same.refl H6) hl5 (o := .lst ((r2 ++ x2).map V.int ++ (((betweenR (W z) m m2).map (fun x : T3 => x.2.1)).map V.int ++ []))) _ _ q
              generalize upd H6 l5 (.lst ((r2 ++ x2).map V.int ++ (((betweenR (W z) m m2).map (fun x : T3 => x.2.1)).map V.int ++ []))) = H7 at s7 hl7 hD7 hTr7 ⊢
              have k2 := AT.one (A0.of (.total z t' u')) A0.count Is (.inr (.inl rfl))
              refine ⟨_, rfl, _, _, _, _, _, rfl, .own _, AT.tyx (hA.same s7), k2, _, rfl, ?_⟩
              rw [show decide (A0.of (.total z t' u') = A0.count) = false from decide_eq_false fun e => nd.2.1.1 e.symm]
              refine iteF ?_
              have q : Ans H Q (some ((betweenR (W z) m m2).map (fun x : T3 => x.2.2)).sum, r2 ++ x2 ++ (betweenR (W z) m m2).map (fun x : T3 => x.2.1)) := q
              refine ⟨_, rfl, D, rfl, ⟨_, SqL.of hD7⟩, fun D3 hD3 => lc_it (walk_list (xs := zs)) (fun i H8 => H8 D3 = some (.lst ((((betweenR (W z) m m2).take i).map (fun x : T3 => x.2.2)).map V.int)) ∧ Same H7 H8) ⟨upd_same, sameAt (Same.refl H7) hD3⟩ (fun i H8 _ hv => SqL.of (hv.2 _ _ hD7)) ?_ ?_⟩
              · rintro i x H8 H9 hi ⟨hD8, s8⟩ ⟨rfl, hx⟩
                have hi2 : i < (betweenR (W z) m m2).length := by rw [← hT5.1]; exact hi
                obtain ⟨t3, ht⟩ : ∃ t3, (betweenR (W z) m m2)[i]? = some t3 := ⟨_, List.getElem?_eq_getElem hi2⟩
                obtain ⟨e, rfl, he⟩ := hTr7.2 i x t3 hx ht
                have he1 := s8 _ _ he
                refine ⟨rfl, _, rfl, _, _, _, _, rfl, rfl, SqT.of he1, rfl, _, hD8, ?_, ?_, sameAt s8 hD3⟩
                · rw [List.length_map, List.length_map, List.length_take]
                  exact small1000 (by omega)
                · rw [upd_same, list_take ht, List.map_append, List.map_append]
                  rfl
              · rintro H8 ⟨hD8, s8⟩
                rw [hT5.1, List.take_length] at hD8
                exact ⟨D3, _, rfl, SqL.of hD8, _, rfl, (by show 2 ≤ sizeLine; decide), fun t2 ht2 => q t2 l5 _ ((s7.trans s8).trans (sameAt (Same.refl _) ht2)) upd_same (sameAt (Same.refl _) ht2 _ _ (s8 _ _ hl7))⟩
end
end Ash

set_option Elab.async false
set_option linter.all false
set_option maxRecDepth 100000
set_option maxHeartbeats 4000000
namespace Ash
open PySem PySem.Spec PyProof.Rows L2 SrtT
open C8 (pss_cut)
/-! ### questions: terms and amounts -/
inductive Qn where
  | tm (t : Tm)
  | am (q : Am)
def QAt (A : AC) (C : TC) (H : Hp) (a : Addr) : Qn → Prop
  | .tm t => TmAt C H a t
  | .am q => AmAt A C H a q
def evQ (W : Tr) (now : Int) : Qn → Rs
  | .tm t => ev W now t
  | .am q => evA W now q
def Qn.NmS : Qn → Prop
  | .tm t => t.NmS
  | .am q => q.NmS
def Qn.Fit : Qn → Prop
  | .tm t => t.Fit
  | .am q => q.Fit
theorem QAt.nl {A : AC} {C : TC} {H H' : Hp} (n : NL H H') {a : Addr} : ∀ {q : Qn}, QAt A C H a q → QAt A C H' a q
  | .tm _, h => TmAt.nl n h
  | .am _, h => AmAt.nl n h
theorem QAt.same {A : AC} {C : TC} {H H' : Hp} {a : Addr} {q : Qn} (h : QAt A C H a q) (s : Same H H') : QAt A C H' a q := h.nl (nl_same s)
def spIsQ (A : AC) (C : TC) : Sp := fun vs H Q _ => ∃ a t, vs = [.ref a] ∧ QAt A C H a t ∧ ∀ H', Same H H' → Q (.bl true) H'
def spCheck (A : AC) (C : TC) (CW : Addr) : Sp := fun vs H Q _ => ∃ (a b : Addr) (t : Qn) (W : Tr) (now : Int), vs = [.ref a, .ref b, .int now] ∧ QAt A C H a t ∧ WAt CW H b W ∧ ∀ H', Same H H' → Q .non H'
def spAnswered (A : AC) (C : TC) (CW : Addr) : Sp := fun vs H Q _ => ∃ (a b : Addr) (t : Qn) (W : Tr) (now : Int), vs = [.ref a, .ref b, .int now] ∧ QAt A C H a t ∧ WAt CW H b W ∧ t.NmS ∧ t.Fit ∧ Ans H Q (evQ W now t)
def spValue (A : AC) (C : TC) (CW : Addr) : Sp := fun vs H Q _ => ∃ (a b : Addr) (t : Qn) (W : Tr) (now : Int), vs = [.ref a, .ref b, .int now] ∧ QAt A C H a t ∧ WAt CW H b W ∧ t.NmS ∧ t.Fit ∧ ∀ H', Same H H' → Q (oV (evQ W now t).1) H'
section
variable {P : Program} {w : World} {K : PySem.W.Frag} {mg : Str → Option Value} {base : Heap} {C : TC} {CW : Addr} {A0 : AC}
structure U0 (P : Program) (w : World) (K : PySem.W.Frag) (mg : Str → Option Value) (base : Heap) (A0 : AC) (C : TC) (CW : Addr) : Prop extends A2 P w K mg base C CW 12 where
  is_amount : Cal P w K mg base CX0 "is_amount" 1 ["thing"] (spIsAmount A0 C)
  looked : Cal P w K mg base CX0 "looked" 29 ["question", "world", "now", "place"] (spLookedA A0 C CW 12)
  told_between : Cal P w K mg base CX0 "told_between" 29 ["question", "world", "now"] (spTold A0 C CW 12)
abbrev s_is_question : Stmt := topS 45
theorem sc_is_question : FnScope ["thing"] ["thing"] (defScope s_is_question) := ⟨rfl, rfl, rfl, by decide +kernel, rfl, by decide +kernel, by decide +kernel⟩
theorem ok_isq {f : Addr} {fd : FuncData} (F : Fun K "is_question" "is_question" s_is_question f fd) (B : Blt mg) (AT : AF K mg A0 C) (G : U0 P w K mg base A0 C CW) : FnOk P w K mg base CX0 2 f fd ["thing"] (spIsQ A0 C) := by
  refine F.ok sc_is_question (fun vs H Q E h => ?_) (fun cdv A outer s H vs Q E hr h => ?_)
  · obtain ⟨a, t, rfl, _⟩ := h
    rfl
  · obtain ⟨a, t, rfl, hT, q⟩ := h
    refine ⟨_, (pss_one (ps_ret (pe_or (pe_cal G.is_term (hr.mono (by decide)) pass0 (pa_cons (pv 0) pa_nil)) (pe_one (pe_cal G.is_amount (hr.mono (by decide)) pass0 (pa_cons (pv 0) pa_nil)))))), ?_⟩
    cases t with
    | tm t => exact ⟨_, rfl, _, rfl, .inl ⟨a, t, rfl, hT, fun H1 s1 => ⟨_, rfl, iteT (q H1 s1)⟩⟩⟩
    | am t => exact ⟨_, rfl, _, rfl, .inr ⟨AT.noTm hT, fun H1 s1 => ⟨_, rfl, iteF ⟨_, rfl, a, t, rfl, hT.same s1, fun H2 s2 => q H2 (s1.trans s2)⟩⟩⟩⟩
structure U1 (P : Program) (w : World) (K : PySem.W.Frag) (mg : Str → Option Value) (base : Heap) (A0 : AC) (C : TC) (CW : Addr) : Prop extends U0 P w K mg base A0 C CW where
  is_question : Cal P w K mg base CX0 "is_question" 2 ["thing"] (spIsQ A0 C)
abbrev s_check : Stmt := topS 56
theorem sc_check : FnScope ["question", "world", "now"] ["question", "world", "now"] (defScope s_check) := ⟨rfl, rfl, rfl, by decide +kernel, rfl, by decide +kernel, by decide +kernel⟩
theorem ok_check {f : Addr} {fd : FuncData} (F : Fun K "check" "check" s_check f fd) (B : Blt mg) (T0 : Cw K mg CW) (I0 : BkI K CW) (G : U1 P w K mg base A0 C CW) : FnOk P w K mg base CX0 3 f fd ["question", "world", "now"] (spCheck A0 C CW) := by
  have c_World := T0.c
  refine F.ok sc_check (fun vs H Q E h => ?_) (fun cdv A outer s H vs Q E hr h => ?_)
  · obtain ⟨a, b, t, W, now, rfl, _⟩ := h
    rfl
  · obtain ⟨a, b, t, W, now, rfl, hT, hW, q⟩ := h
    refine ⟨_, (pss_cons (ps_if (pt_not (pt_val (pe_cal G.is_question (hr.mono (by decide)) pass0 (pa_cons (pv 0) pa_nil))))
      (pss_one ps_never)
      pss_nil)
    (pss_cons (ps_if (pt_not (pt_val (pe_callB call_isi (by rfl) B.isinstance (by decide +kernel) (pa_cons (pv 1) (pa_cons (pe_glob (v := .ref CW) (by rfl) c_World rfl) pa_nil)))))
      (pss_one ps_never)
      pss_nil)
    (pss_one (ps_if (pt_not (pt_val (pe_cal G.is_integer (hr.mono (by decide)) pass0 (pa_cons (pv 2) pa_nil))))
      (pss_one ps_never)
      pss_nil)))), ?_⟩
    refine ⟨_, rfl, a, t, rfl, hT, fun H1 s1 => ⟨_, rfl, iteF ?_⟩⟩
    obtain ⟨dx, d, tt, kvs, ids, h1, _⟩ := hW.same s1
    refine ⟨_, rfl, _, _, _, _, true, rfl, .own _, .base (.ins h1 T0.cl I0.ha I0.hn I0.ht I0.hm), by unfold PySem.W.kitOne; simp, _, rfl, iteF ?_⟩
    exact ⟨_, rfl, _, rfl, .inl ⟨now, rfl, _, rfl, iteF (q H1 s1)⟩⟩
abbrev s_answered : Stmt := topS 57
theorem sc_answered : FnScope ["question", "world", "now"] ["question", "world", "now"] (defScope s_answered) := ⟨rfl, rfl, rfl, by decide +kernel, rfl, by decide +kernel, by decide +kernel⟩
theorem ok_answered {f : Addr} {fd : FuncData} (F : Fun K "answered" "answered" s_answered f fd) (B : Blt mg) (Cs : Cst mg) (AT : AF K mg A0 C) (G : U1 P w K mg base A0 C CW) : FnOk P w K mg base CX0 30 f fd ["question", "world", "now"] (spAnswered A0 C CW) := by
  obtain ⟨tk, g_AMOUNT⟩ := Cs.k_AMOUNT
  have c_Number := AT.Number
  refine F.ok sc_answered (fun vs H Q E h => ?_) (fun cdv A outer s H vs Q E hr h => ?_)
  · obtain ⟨a, b, t, W, now, rfl, _⟩ := h
    rfl
  · obtain ⟨a, b, t, W, now, rfl, hT, hW, hN, hF, q⟩ := h
    refine ⟨_, (pss_cons (ps_if (pt_val (pe_cal G.is_term (hr.mono (by decide)) pass0 (pa_cons (pv 0) pa_nil)))
      (pss_one (ps_ret (pe_cal G.followed (hr.mono (by decide)) pass0 (pa_cons (pv 0) (pa_cons (pv 1) (pa_cons (pv 2) pa_nil))))))
      pss_nil)
    (pss_cons (ps_if (pt_val (pe_callB call_isi (by rfl) B.isinstance (by decide +kernel) (pa_cons (pv 0) (pa_cons (pe_glob (v := .ref A0.number) (by rfl) c_Number rfl) pa_nil))))
      (pss_one (ps_ret (pe_cal G.looked (hr.mono (by decide)) pass0 (pa_cons (pv 0) (pa_cons (pv 1) (pa_cons (pv 2) (pa_cons (pe_glob (v := .int 2) (by rfl) g_AMOUNT ⟨_, rfl⟩) pa_nil)))))))
      pss_nil)
    (pss_one (ps_ret (pe_cal G.told_between (hr.mono (by decide)) pass0 (pa_cons (pv 0) (pa_cons (pv 1) (pa_cons (pv 2) pa_nil)))))))), ?_⟩
    cases t with
    | tm t =>
      have hF : t.Fit := hF
      exact ⟨_, rfl, _, rfl, .inl ⟨a, t, rfl, hT, fun H1 s1 => ⟨_, rfl, iteT ⟨_, rfl, _, rfl, _, rfl, a, b, t, W, now, rfl, TmAt.same hT s1, hW.same s1, hN, hF, hF.1, q.same s1⟩⟩⟩⟩
    | am t =>
      have hF : t.Fit := hF
      have hT : AmAt A0 C H a t := hT
      have hN : t.NmS := hN
      refine ⟨_, rfl, _, rfl, .inr ⟨AT.noTm hT, fun H1 s1 => ⟨_, rfl, iteF ?_⟩⟩⟩
      have k := AT.one (A0.of t) A0.number (A0.is_of t) (.inl rfl)
      have nd := AT.nd
      simp only [List.nodup_cons, List.mem_cons, List.not_mem_nil, or_false, not_or] at nd
      refine ⟨_, rfl, _, _, _, _, _, rfl, .own _, AT.tyx (hT.same s1), k, _, rfl, ?_⟩
      have q : Ans H Q (evA W now t) := q
      cases t with
      | number z t =>
        rw [show decide (A0.of (.number z t) = A0.number) = true from decide_eq_true rfl]
        have hF : t.Fit := hF
        exact iteT ⟨_, rfl, _, rfl, _, rfl, a, b, t, z, W, now, rfl, hT.same s1, hW.same s1, hN.1, hN.2, hF, hF.1, q.same s1⟩
      | count z t u =>
        rw [show decide (A0.of (.count z t u) = A0.number) = false from decide_eq_false fun e => nd.1.1 e.symm]
        exact iteF ⟨_, rfl, _, rfl, _, rfl, a, b, _, W, now, rfl, hT.same s1, rfl, hW.same s1, hN, hF, q.same s1⟩
      | total z t u =>
        rw [show decide (A0.of (.total z t u) = A0.number) = false from decide_eq_false fun e => nd.1.2.1 e.symm]
        exact iteF ⟨_, rfl, _, rfl, _, rfl, a, b, _, W, now, rfl, hT.same s1, rfl, hW.same s1, hN, hF, q.same s1⟩
      | gap t u =>
        rw [show decide (A0.of (.gap t u) = A0.number) = false from decide_eq_false fun e => nd.1.2.2 e.symm]
        exact iteF ⟨_, rfl, _, rfl, _, rfl, a, b, _, W, now, rfl, hT.same s1, rfl, hW.same s1, hN, hF, q.same s1⟩
structure U2 (P : Program) (w : World) (K : PySem.W.Frag) (mg : Str → Option Value) (base : Heap) (A0 : AC) (C : TC) (CW : Addr) : Prop extends U1 P w K mg base A0 C CW where
  check : Cal P w K mg base CX0 "check" 3 ["question", "world", "now"] (spCheck A0 C CW)
  answered : Cal P w K mg base CX0 "answered" 30 ["question", "world", "now"] (spAnswered A0 C CW)
abbrev s_value : Stmt := topS 55
theorem sc_value : FnScope ["question", "world", "now", "answer", "_"] ["question", "world", "now"] (defScope s_value) := ⟨rfl, rfl, rfl, by decide +kernel, rfl, by decide +kernel, by decide +kernel⟩
theorem ok_value {f : Addr} {fd : FuncData} (F : Fun K "value" "value" s_value f fd) (B : Blt mg) (G : U2 P w K mg base A0 C CW) : FnOk P w K mg base CX0 31 f fd ["question", "world", "now"] (spValue A0 C CW) := by
  refine F.ok sc_value (fun vs H Q E h => ?_) (fun cdv A outer s H vs Q E hr h => ?_)
  · obtain ⟨a, b, t, W, now, rfl, _⟩ := h
    rfl
  · obtain ⟨a, b, t, W, now, rfl, hT, hW, hN, hF, q⟩ := h
    refine ⟨_, (pss_cons (ps_expr (pe_cal G.check (hr.mono (by decide)) pass0 (pa_cons (pv 0) (pa_cons (pv 1) (pa_cons (pv 2) pa_nil)))))
    (pss_cons (ps_asg (pe_cal G.answered (hr.mono (by decide)) pass0 (pa_cons (pv 0) (pa_cons (pv 1) (pa_cons (pv 2) pa_nil)))) (pg_tup (by rfl) (pgs_cons (pg_name (i := 3) sc_value.nd rfl (Or.inl rfl)) (pgs_cons (pg_name (i := 4) sc_value.nd rfl (Or.inl rfl)) pgs_nil))))
    (pss_one (ps_ret (pv 3))))), ?_⟩
    refine ⟨_, rfl, _, rfl, _, rfl, a, b, t, W, now, rfl, hT, hW, fun H1 s1 => ?_⟩
    refine ⟨_, rfl, _, rfl, _, rfl, a, b, t, W, now, rfl, hT.same s1, hW.same s1, hN, hF, fun q1 l H2 s2 hq1 hl => ?_⟩
    exact ⟨q1, _, rfl, SqT.of hq1, rfl, _, _, rfl, _, _, rfl, rfl, _, rfl, q H2 (s1.trans s2)⟩
end
end Ash

set_option Elab.async false
set_option linter.all false
set_option maxRecDepth 100000
set_option maxHeartbeats 4000000
namespace Ash
open PySem PySem.Spec PyProof.Rows L2 SrtT
open C8 (pss_cut)
/-! ### pairs of terms, shifts back -/
def spPair (C : TC) (mk : Tm → Tm → Tm) : Sp := fun vs H Q _ => ∃ (a b : Addr) (t u : Tm), vs = [.ref a, .ref b] ∧ TmAt C H a t ∧ TmAt C H b u ∧ (mk t u).Fit ∧ ∀ a' H', TmAt C H' a' (mk t u) → Same H H' → Q (.ref a') H'
def spMinus (C : TC) : Sp := fun vs H Q _ => ∃ (a : Addr) (t : Tm) (n : Int), vs = [.ref a, .int n] ∧ TmAt C H a t ∧ (t.plus (-n)).Fit ∧ ∀ a' H', TmAt C H' a' (t.plus (-n)) → Same H H' → Q (.ref a') H'
section
variable {P : Program} {w : World} {K : PySem.W.Frag} {mg : Str → Option Value} {base : Heap} {C : TC} {CW : Addr}
structure V4 (P : Program) (w : World) (K : PySem.W.Frag) (mg : Str → Option Value) (base : Heap) (C : TC) (CW : Addr) : Prop extends V3 P w K mg base C CW where
  Either : Mak P w K mg base CX0 "Either" C.either 2 ["self", "first", "second"] (spInitP C C.either Tm.either)
  Later : Mak P w K mg base CX0 "Later" C.later 2 ["self", "first", "second"] (spInitP C C.later Tm.later)
  Earlier : Mak P w K mg base CX0 "Earlier" C.earlier 2 ["self", "first", "second"] (spInitP C C.earlier Tm.earlier)
abbrev s_Term_or : Stmt := inClass (topS 21) 3
theorem sc_Term_or : FnScope ["self", "other"] ["self", "other"] (defScope s_Term_or) := ⟨rfl, rfl, rfl, by decide +kernel, rfl, by decide +kernel, by decide +kernel⟩
theorem ok_tor {f : Addr} {fd : FuncData} (F : Fun K "__or__" "Term.__or__" s_Term_or f fd) (B : Blt mg) (G : V4 P w K mg base C CW) : FnOk P w K mg base CX0 4 f fd ["self", "other"] (spPair C Tm.either) := by
  refine F.ok sc_Term_or (fun vs H Q E h => ?_) (fun cdv A outer s H vs Q E hr h => ?_)
  · obtain ⟨a, b, t, u, rfl, _⟩ := h
    rfl
  · obtain ⟨a, b, t, u, rfl, hT, hU, hF, q⟩ := h
    refine ⟨_, (pss_cons (ps_if (pt_not (pt_val (pe_cal G.is_term (hr.mono (by decide)) pass0 (pa_cons (pv 1) pa_nil))))
      (pss_one ps_never)
      pss_nil)
    (pss_one (ps_ret (pe_mak G.Either (hr.mono (by decide)) pass0 (pa_cons (pv 0) (pa_cons (pv 1) pa_nil)))))), ?_⟩
    refine ⟨_, rfl, _, rfl, .inl ⟨b, u, rfl, hU, fun H1 s1 => ⟨_, rfl, iteF ?_⟩⟩⟩
    exact ⟨_, rfl, _, rfl, fun x dx hx hdx hne => ⟨x, dx, a, b, t, u, rfl, upd_same, (hT.same s1).same (sameAt (sameAt (Same.refl H1) hdx) hx), (hU.same s1).same (sameAt (sameAt (Same.refl H1) hdx) hx), hF, fun H' hT' hK => ⟨rfl, q x H' hT' (s1.trans (keep_make hK hx hdx))⟩⟩⟩
abbrev s_Term_later : Stmt := inClass (topS 21) 4
theorem sc_Term_later : FnScope ["self", "other"] ["self", "other"] (defScope s_Term_later) := ⟨rfl, rfl, rfl, by decide +kernel, rfl, by decide +kernel, by decide +kernel⟩
theorem ok_tlater {f : Addr} {fd : FuncData} (F : Fun K "later" "Term.later" s_Term_later f fd) (B : Blt mg) (G : V4 P w K mg base C CW) : FnOk P w K mg base CX0 4 f fd ["self", "other"] (spPair C Tm.later) := by
  refine F.ok sc_Term_later (fun vs H Q E h => ?_) (fun cdv A outer s H vs Q E hr h => ?_)
  · obtain ⟨a, b, t, u, rfl, _⟩ := h
    rfl
  · obtain ⟨a, b, t, u, rfl, hT, hU, hF, q⟩ := h
    refine ⟨_, (pss_cons (ps_if (pt_not (pt_val (pe_cal G.is_term (hr.mono (by decide)) pass0 (pa_cons (pv 1) pa_nil))))
      (pss_one ps_never)
      pss_nil)
    (pss_one (ps_ret (pe_mak G.Later (hr.mono (by decide)) pass0 (pa_cons (pv 0) (pa_cons (pv 1) pa_nil)))))), ?_⟩
    refine ⟨_, rfl, _, rfl, .inl ⟨b, u, rfl, hU, fun H1 s1 => ⟨_, rfl, iteF ?_⟩⟩⟩
    exact ⟨_, rfl, _, rfl, fun x dx hx hdx hne => ⟨x, dx, a, b, t, u, rfl, upd_same, (hT.same s1).same (sameAt (sameAt (Same.refl H1) hdx) hx), (hU.same s1).same (sameAt (sameAt (Same.refl H1) hdx) hx), hF, fun H' hT' hK => ⟨rfl, q x H' hT' (s1.trans (keep_make hK hx hdx))⟩⟩⟩
abbrev s_Term_earlier : Stmt := inClass (topS 21) 5
theorem sc_Term_earlier : FnScope ["self", "other"] ["self", "other"] (defScope s_Term_earlier) := ⟨rfl, rfl, rfl, by decide +kernel, rfl, by decide +kernel, by decide +kernel⟩
theorem ok_tearlier {f : Addr} {fd : FuncData} (F : Fun K "earlier" "Term.earlier" s_Term_earlier f fd) (B : Blt mg) (G : V4 P w K mg base C CW) : FnOk P w K mg base CX0 4 f fd ["self", "other"] (spPair C Tm.earlier) := by
  refine F.ok sc_Term_earlier (fun vs H Q E h => ?_) (fun cdv A outer s H vs Q E hr h => ?_)
  · obtain ⟨a, b, t, u, rfl, _⟩ := h
    rfl
  · obtain ⟨a, b, t, u, rfl, hT, hU, hF, q⟩ := h
    refine ⟨_, (pss_cons (ps_if (pt_not (pt_val (pe_cal G.is_term (hr.mono (by decide)) pass0 (pa_cons (pv 1) pa_nil))))
      (pss_one ps_never)
      pss_nil)
    (pss_one (ps_ret (pe_mak G.Earlier (hr.mono (by decide)) pass0 (pa_cons (pv 0) (pa_cons (pv 1) pa_nil)))))), ?_⟩
    refine ⟨_, rfl, _, rfl, .inl ⟨b, u, rfl, hU, fun H1 s1 => ⟨_, rfl, iteF ?_⟩⟩⟩
    exact ⟨_, rfl, _, rfl, fun x dx hx hdx hne => ⟨x, dx, a, b, t, u, rfl, upd_same, (hT.same s1).same (sameAt (sameAt (Same.refl H1) hdx) hx), (hU.same s1).same (sameAt (sameAt (Same.refl H1) hdx) hx), hF, fun H' hT' hK => ⟨rfl, q x H' hT' (s1.trans (keep_make hK hx hdx))⟩⟩⟩
abbrev s_Term_sub : Stmt := inClass (topS 21) 2
theorem sc_Term_sub : FnScope ["self", "other"] ["self", "other"] (defScope s_Term_sub) := ⟨rfl, rfl, rfl, by decide +kernel, rfl, by decide +kernel, by decide +kernel⟩
theorem ok_tsub {f : Addr} {fd : FuncData} (F : Fun K "__sub__" "Term.__sub__" s_Term_sub f fd) (B : Blt mg) (G : V3 P w K mg base C CW) : FnOk P w K mg base CX0 5 f fd ["self", "other"] (spMinus C) := by
  refine F.ok sc_Term_sub (fun vs H Q E h => ?_) (fun cdv A outer s H vs Q E hr h => ?_)
  · obtain ⟨a, t, n, rfl, _⟩ := h
    rfl
  · obtain ⟨a, t, n, rfl, hT, hF, q⟩ := h
    refine ⟨_, (pss_cons (ps_if (pt_not (pt_val (pe_cal G.is_integer (hr.mono (by decide)) pass0 (pa_cons (pv 1) pa_nil))))
      (pss_one ps_never)
      pss_nil)
    (pss_one (ps_ret (pe_cal G.shifted (hr.mono (by decide)) pass0 (pa_cons (pv 0) (pa_cons (pe_un un_neg (pv 1)) pa_nil)))))), ?_⟩
    exact ⟨_, rfl, _, rfl, .inl ⟨n, rfl, _, rfl, iteF ⟨_, rfl, _, rfl, _, rfl, a, t, -n, rfl, hT, hF, q⟩⟩⟩
end
end Ash

set_option Elab.async false
set_option linter.all false
set_option maxRecDepth 100000
set_option maxHeartbeats 4000000
namespace Ash
open PySem PySem.Spec PyProof.Rows L2 SrtT
open C8 (pss_cut)
theorem dp_ints {K : PySem.W.Frag} {H : Hp} : ∀ is : List Int, DpAll K H (is.map V.int) (is.map PyData.int)
  | [] => .nil
  | i :: r => .cons (.int i) (dp_ints r)
theorem ints_shaped (is : List Int) : SeqAt.shaped (.list (is.map PyData.int)) = true := by
  have q : (is.map PyData.int).all flatD = true := by
    rw [List.all_eq_true]
    intro d hd
    obtain ⟨_, _, rfl⟩ := List.mem_map.mp hd
    rfl
  obtain ⟨h1, h2⟩ := flat_lay q
  unfold SeqAt.shaped
  simp [PyData.canLay0, PyData.depth, h1]
  omega
/-- data are as themselves -/
theorem eqv_self {d : PyData} (h : SeqAt.shaped d = true) : PyData.eqv d d = true := SeqAt.eqv_refl d (SeqAt.canLay_of_shaped h)
theorem asc_same : ∀ {xs ys : List Int}, xs.Pairwise (· < ·) → ys.Pairwise (· < ·) → (∀ z, z ∈ xs ↔ z ∈ ys) → xs = ys
  | [], [], _, _, _ => rfl
  | [], y :: ys, _, _, h => nomatch (h y).mpr List.mem_cons_self
  | x :: xs, [], _, _, h => nomatch (h x).mp List.mem_cons_self
  | x :: xs, y :: ys, hx, hy, h => by
    obtain ⟨hx1, hx2⟩ := List.pairwise_cons.mp hx
    obtain ⟨hy1, hy2⟩ := List.pairwise_cons.mp hy
    have e : x = y := by
      rcases List.mem_cons.mp ((h x).mp List.mem_cons_self) with e | e
      · exact e
      · rcases List.mem_cons.mp ((h y).mpr List.mem_cons_self) with e2 | e2
        · exact e2.symm
        · have := hx1 y e2
          have := hy1 x e
          omega
    subst e
    refine congrArg (x :: ·) (asc_same hx2 hy2 fun z => ⟨fun hz => ?_, fun hz => ?_⟩)
    · rcases List.mem_cons.mp ((h z).mp (List.mem_cons_of_mem _ hz)) with e | e
      · have := hx1 z hz
        omega
      · exact e
    · rcases List.mem_cons.mp ((h z).mpr (List.mem_cons_of_mem _ hz)) with e | e
      · have := hy1 z hz
        omega
      · exact e
def td (t : T3) : PyData := .tuple [.int t.1, .int t.2.1, .int t.2.2]
theorem tds_flat : ∀ ts : List T3, PyData.canLayAll0 (ts.map td) = true ∧ PyData.depthAll (ts.map td) ≤ 2
  | [] => by simp [PyData.canLayAll0, PyData.depthAll]
  | x :: xs => by
    obtain ⟨b1, b2⟩ := tds_flat xs
    rw [List.map_cons]
    have a1 : (td x).canLay0 = true := by simp [td, PyData.canLay0, PyData.canLayAll0]
    have a2 : (td x).depth ≤ 2 := by simp [td, PyData.depth, PyData.depthAll]
    simp only [PyData.canLayAll0, PyData.depthAll, a1, b1, Bool.and_self, true_and]
    omega
theorem tds_shaped (ts : List T3) : SeqAt.shaped (.list (ts.map td)) = true := by
  obtain ⟨h1, h2⟩ := tds_flat ts
  unfold SeqAt.shaped
  simp [PyData.canLay0, PyData.depth, h1]
  omega
theorem TrAt.dp {K : PySem.W.Frag} {H : Hp} : ∀ {ys : List V} {ts : List T3}, TrAt H ys ts → DpAll K H ys (ts.map td)
  | [], [], _ => .nil
  | [], _ :: _, h => by have := h.1; simp at this
  | _ :: _, [], h => by have := h.1; simp at this
  | y :: ys, t :: ts, h => by
    obtain ⟨e, rfl, he⟩ := h.2 0 y t rfl rfl
    exact .cons (.tup (SqT.of he) (.cons (.int _) (.cons (.int _) (.cons (.int _) .nil)))) (TrAt.dp ⟨by have := h.1; simpa using this, fun i v u a b => h.2 (i + 1) v u a b⟩)
/-! ### shifts -/
theorem moveR_0 (r : Rs) : moveR r 0 = r := by
  obtain ⟨a, b⟩ := r
  cases a with
  | none => rfl
  | some m => show (some (m + 0), b) = _; rw [Int.add_zero]
theorem moveR_2 (r : Rs) (m n : Int) : moveR (moveR r m) n = moveR r (m + n) := by
  obtain ⟨a, b⟩ := r
  cases a with
  | none => rfl
  | some k => show (some (k + m + n), b) = (some (k + (m + n)), b); rw [Int.add_assoc]
theorem plus_ev {W : Tr} {now : Int} (t : Tm) (n : Int) : ev W now (t.plus n) = moveR (ev W now t) n := by
  unfold Tm.plus
  split
  · next h => rw [h, moveR_0]
  · split
    · next m u =>
      show ev W now (if m + n = 0 then u else .shift (m + n) u) = moveR (moveR (ev W now u) m) n
      rw [moveR_2]
      split
      · next h => rw [h, moveR_0]
      · rfl
    · rfl
theorem plus_nm {t : Tm} {n : Int} (h : t.NmS) : (t.plus n).NmS := by
  unfold Tm.plus
  split
  · exact h
  · split
    · next m u =>
      split
      · exact h
      · exact h
    · exact h
theorem plus_sz {t : Tm} {n : Int} : (t.plus n).dep ≤ t.dep + 1 ∧ (t.plus n).par ≤ t.par + 1 ∧ (t.plus n).lok ≤ t.lok := by
  unfold Tm.plus
  split
  · exact ⟨by omega, by omega, by omega⟩
  · split
    · next m u =>
      have e1 : (Tm.shift m u).dep = 1 + u.dep := rfl
      have e2 : (Tm.shift m u).par = 1 + u.par := rfl
      have e3 : (Tm.shift m u).lok = 0 + u.lok := rfl
      split
      · exact ⟨by omega, by omega, by omega⟩
      · have f1 : (Tm.shift (m + n) u).dep = 1 + u.dep := rfl
        have f2 : (Tm.shift (m + n) u).par = 1 + u.par := rfl
        have f3 : (Tm.shift (m + n) u).lok = 0 + u.lok := rfl
        exact ⟨by omega, by omega, by omega⟩
    · have f1 : ∀ u : Tm, (Tm.shift n u).dep = 1 + u.dep := fun _ => rfl
      have f2 : ∀ u : Tm, (Tm.shift n u).par = 1 + u.par := fun _ => rfl
      have f3 : ∀ u : Tm, (Tm.shift n u).lok = 0 + u.lok := fun _ => rfl
      exact ⟨by rw [f1]; omega, by rw [f2]; omega, by rw [f3]; omega⟩
/-! ### what the law keeps -/
/-- all but the pool and one list stands -/
structure Fz (H0 H : Hp) (p s sn : Addr) : Prop where
  now : PoolAt H p s
  keep : ∀ c o, H0 c = some o → c ≠ p → c ≠ sn → H c = some o
theorem Fz.pl {H0 H1 H2 : Hp} {p s sn : Addr} (z : Fz H0 H1 p s sn) (P : Pl H1 H2 p s) : Fz H0 H2 p s sn := ⟨P.now, fun c o h n1 n2 => P.keep (z.keep c o h n1 n2) n1⟩
theorem Fz.same {H0 H1 H2 : Hp} {p s sn : Addr} (z : Fz H0 H1 p s sn) (e : Same H1 H2) : Fz H0 H2 p s sn := ⟨z.now.same e, fun c o h n1 n2 => e _ _ (z.keep c o h n1 n2)⟩
theorem Fz.upd {H0 H1 : Hp} {p s sn : Addr} {o : HO} (z : Fz H0 H1 p s sn) (n1 : sn ≠ p) (n2 : sn ≠ s) : Fz H0 (upd H1 sn o) p s sn := ⟨z.now.off n1 n2, fun c o h m1 m2 => by rw [upd_ne m2]; exact z.keep c o h m1 m2⟩
theorem nl_pl {H H' : Hp} {p s : Addr} (P0 : PoolAt H p s) (P : Pl H H' p s) : NL H H' := fun c o h n => by
  obtain ⟨ns, i, c', k, m, hp, _⟩ := P0
  exact P.keep h fun e => by rw [e, hp] at h; exact n _ (Option.some.inj h).symm
theorem nl_upd {H : Hp} {q : Addr} {xs : List V} {o : HO} (h : H q = some (.lst xs)) : NL H (upd H q o) := fun c u hc n => by
  rw [upd_ne fun e => by rw [e, h] at hc; exact n _ (Option.some.inj hc).symm]
  exact hc
theorem Fz.nl {H0 H1 : Hp} {p s sn : Addr} {xs : List V} (z : Fz H0 H1 p s sn) (hp : PoolAt H0 p s) (hs : H0 sn = some (.lst xs)) : NL H0 H1 := fun c o h n => by
  obtain ⟨ns, i, c', k, m, hp, _⟩ := hp
  refine z.keep c o h (fun e => ?_) (fun e => ?_)
  · rw [e, hp] at h
    exact n _ (Option.some.inj h).symm
  · rw [e, hs] at h
    exact n _ (Option.some.inj h).symm
theorem RwAt.fz {H0 H1 : Hp} {p s sn d : Addr} {names : List Str} {A : Str → Addr} {T : Tr} {xs : List V} (R : RwAt H0 d names A T) (z : Fz H0 H1 p s sn) (hp : PoolAt H0 p s) (hs : H0 sn = some (.lst xs)) (n : ∀ y ∈ names, A y ≠ p ∧ A y ≠ sn) : RwAt H1 d names A T := by
  have nl := z.nl hp hs
  exact ⟨nl _ _ R.at_ (fun _ z => nomatch z), fun y hy => by
    obtain ⟨ys, h1, h2⟩ := R.row y hy
    exact ⟨ys, z.keep _ _ h1 (n y hy).1 (n y hy).2, h2.tk fun t us q => nl _ _ q (fun _ z => nomatch z)⟩, R.inj⟩
/-- the copies that the law has made -/
def KpAt (H : Hp) (us : List V) (names : List Str) (T : Tr) (N : Addr → Prop) : Prop := us.length = names.length ∧ ∀ (i : Nat) z, names[i]? = some z → ∃ e c ys, us[i]? = some (.ref e) ∧ H e = some (.tup [.str z, .ref c]) ∧ H c = some (.lst ys) ∧ TrAt H ys (T z) ∧ N c
theorem KpAt.to {H H' : Hp} {us : List V} {names : List Str} {T : Tr} {N N' : Addr → Prop} (k : KpAt H us names T N) (nl : NL H H') (hk : ∀ c ys, H c = some (.lst ys) → N c → H' c = some (.lst ys) ∧ N' c) : KpAt H' us names T N' := ⟨k.1, fun i z h => by
  obtain ⟨e, c, ys, h1, h2, h3, h4, h5⟩ := k.2 i z h
  obtain ⟨h6, h7⟩ := hk c ys h3 h5
  exact ⟨e, c, ys, h1, nl _ _ h2 (fun _ z => nomatch z), h6, h4.tk fun t us q => nl _ _ q (fun _ z => nomatch z), h7⟩⟩
theorem KpAt.snoc {H : Hp} {us : List V} {names : List Str} {T : Tr} {N : Addr → Prop} {e c : Addr} {z : Str} {ys : List V} (k : KpAt H us names T N) (he : H e = some (.tup [.str z, .ref c])) (hc : H c = some (.lst ys)) (hT : TrAt H ys (T z)) (n : N c) : KpAt H (us ++ [.ref e]) (names ++ [z]) T N := by
  refine ⟨by rw [List.length_append, List.length_append, k.1]; rfl, fun i y h => ?_⟩
  by_cases hi : i < names.length
  · rw [List.getElem?_append_left hi] at h
    obtain ⟨e', c', ys', h1, h2⟩ := k.2 i y h
    exact ⟨e', c', ys', by rw [List.getElem?_append_left (by rw [k.1]; exact hi)]; exact h1, h2⟩
  · have hi' : i = names.length := by
      have := (List.getElem?_eq_some_iff.mp h).1
      rw [List.length_append] at this
      have : i < names.length + 1 := this
      omega
    subst hi'
    rw [List.getElem?_append_right (Nat.le_refl _), Nat.sub_self] at h
    cases h
    exact ⟨e, c, ys, by rw [List.getElem?_append_right (by rw [k.1]; exact Nat.le_refl _), k.1, Nat.sub_self]; rfl, he, hc, hT, n⟩
theorem look_none {r : Rs} {f : Int → Option T3} (h : r.1.bind f = none) : lookR r f = (none, r.2) := by
  obtain ⟨a, b⟩ := r
  cases a with
  | none => rfl
  | some m =>
    have h : f m = none := h
    show (match f m with | none => (none, b) | some t => _) = _
    rw [h]
theorem look_some {r : Rs} {f : Int → Option T3} {t : T3} (h : r.1.bind f = some t) : lookR r f = (some t.1, r.2 ++ [t.2.1]) := by
  obtain ⟨a, b⟩ := r
  cases a with
  | none => cases h
  | some m =>
    have h : f m = some t := h
    show (match f m with | none => (none, b) | some t => _) = _
    rw [h]
theorem oV_fst {r : Rs} {d : Option Int} (h : r.1 = d) : oV r.1 = oV d := by rw [h]
end Ash

set_option Elab.async false
set_option linter.all false
set_option maxRecDepth 100000
set_option maxHeartbeats 4000000
namespace Ash
open PySem PySem.Spec PyProof.Rows L2 SrtT
open C8 (pss_cut)
/-! ### terms as the law draws them: tuples in tuples -/
def MdAt (H : Hp) : Addr → Tm → Prop
  | e, .now => H e = some (.tup [.str "now"])
  | e, .last s t => ∃ b, H e = some (.tup [.str "last", .str s, .ref b]) ∧ MdAt H b t
  | e, .next s t => ∃ b, H e = some (.tup [.str "next", .str s, .ref b]) ∧ MdAt H b t
  | e, .shift n t => ∃ b, H e = some (.tup [.str "shift", .int n, .ref b]) ∧ MdAt H b t
  | e, .either t u => ∃ b c, H e = some (.tup [.str "either", .ref b, .ref c]) ∧ MdAt H b t ∧ MdAt H c u
  | e, .later t u => ∃ b c, H e = some (.tup [.str "later", .ref b, .ref c]) ∧ MdAt H b t ∧ MdAt H c u
  | e, .earlier t u => ∃ b c, H e = some (.tup [.str "earlier", .ref b, .ref c]) ∧ MdAt H b t ∧ MdAt H c u
theorem MdAt.tk {H H' : Hp} (n : ∀ t xs, H t = some (.tup xs) → H' t = some (.tup xs)) : ∀ {t : Tm} {a : Addr}, MdAt H a t → MdAt H' a t
  | .now, a, h => n _ _ h
  | .last s t, a, ⟨b, h1, h2⟩ => ⟨b, n _ _ h1, MdAt.tk n h2⟩
  | .next s t, a, ⟨b, h1, h2⟩ => ⟨b, n _ _ h1, MdAt.tk n h2⟩
  | .shift s t, a, ⟨b, h1, h2⟩ => ⟨b, n _ _ h1, MdAt.tk n h2⟩
  | .either s t, a, ⟨b, c, h1, h2, h3⟩ => ⟨b, c, n _ _ h1, MdAt.tk n h2, MdAt.tk n h3⟩
  | .later s t, a, ⟨b, c, h1, h2, h3⟩ => ⟨b, c, n _ _ h1, MdAt.tk n h2, MdAt.tk n h3⟩
  | .earlier s t, a, ⟨b, c, h1, h2, h3⟩ => ⟨b, c, n _ _ h1, MdAt.tk n h2, MdAt.tk n h3⟩
theorem pl_tk {H H' : Hp} {p s : Addr} (P0 : PoolAt H p s) (P : Pl H H' p s) : ∀ t xs, H t = some (.tup xs) → H' t = some (.tup xs) := fun t xs h => nl_pl P0 P _ _ h (fun _ z => nomatch z)
/-- the term that is built -/
def bt : Tm → Tm
  | .now => .now
  | .last s t => .last s (bt t)
  | .next s t => .next s (bt t)
  | .shift n t => (bt t).plus n
  | .either a b => .either (bt a) (bt b)
  | .later a b => .later (bt a) (bt b)
  | .earlier a b => .earlier (bt a) (bt b)
theorem mx_mono {a b c d : Int} (h1 : a ≤ c) (h2 : b ≤ d) : Tm.mx a b ≤ Tm.mx c d := by
  unfold Tm.mx
  split <;> split <;> omega
theorem bt_sz : ∀ t : Tm, (bt t).dep ≤ t.dep ∧ (bt t).par ≤ t.par ∧ (bt t).lok ≤ t.lok
  | .now => ⟨Int.le_refl _, Int.le_refl _, Int.le_refl _⟩
  | .last s t => by
    obtain ⟨h1, h2, h3⟩ := bt_sz t
    exact ⟨by show 1 + (bt t).dep ≤ 1 + t.dep; omega, by show 1 + (bt t).par ≤ 1 + t.par; omega, by show 1 + (bt t).lok ≤ 1 + t.lok; omega⟩
  | .next s t => by
    obtain ⟨h1, h2, h3⟩ := bt_sz t
    exact ⟨by show 1 + (bt t).dep ≤ 1 + t.dep; omega, by show 1 + (bt t).par ≤ 1 + t.par; omega, by show 1 + (bt t).lok ≤ 1 + t.lok; omega⟩
  | .shift n t => by
    obtain ⟨h1, h2, h3⟩ := bt_sz t
    obtain ⟨q1, q2, q3⟩ := plus_sz (t := bt t) (n := n)
    exact ⟨by show ((bt t).plus n).dep ≤ 1 + t.dep; omega, by show ((bt t).plus n).par ≤ 1 + t.par; omega, by show ((bt t).plus n).lok ≤ 0 + t.lok; omega⟩
  | .either a b => by
    obtain ⟨h1, h2, h3⟩ := bt_sz a
    obtain ⟨g1, g2, g3⟩ := bt_sz b
    have := mx_mono h1 g1
    exact ⟨by show 1 + Tm.mx (bt a).dep (bt b).dep ≤ 1 + Tm.mx a.dep b.dep; omega, by show 1 + ((bt a).par + (bt b).par) ≤ 1 + (a.par + b.par); omega, by show 0 + ((bt a).lok + (bt b).lok) ≤ 0 + (a.lok + b.lok); omega⟩
  | .later a b => by
    obtain ⟨h1, h2, h3⟩ := bt_sz a
    obtain ⟨g1, g2, g3⟩ := bt_sz b
    have := mx_mono h1 g1
    exact ⟨by show 1 + Tm.mx (bt a).dep (bt b).dep ≤ 1 + Tm.mx a.dep b.dep; omega, by show 1 + ((bt a).par + (bt b).par) ≤ 1 + (a.par + b.par); omega, by show 0 + ((bt a).lok + (bt b).lok) ≤ 0 + (a.lok + b.lok); omega⟩
  | .earlier a b => by
    obtain ⟨h1, h2, h3⟩ := bt_sz a
    obtain ⟨g1, g2, g3⟩ := bt_sz b
    have := mx_mono h1 g1
    exact ⟨by show 1 + Tm.mx (bt a).dep (bt b).dep ≤ 1 + Tm.mx a.dep b.dep; omega, by show 1 + ((bt a).par + (bt b).par) ≤ 1 + (a.par + b.par); omega, by show 0 + ((bt a).lok + (bt b).lok) ≤ 0 + (a.lok + b.lok); omega⟩
theorem bt_nm : ∀ {t : Tm}, t.NmS → (bt t).NmS
  | .now, _ => trivial
  | .last s t, h => ⟨h.1, bt_nm h.2⟩
  | .next s t, h => ⟨h.1, bt_nm h.2⟩
  | .shift n t, h => plus_nm (bt_nm (t := t) h)
  | .either a b, h => ⟨bt_nm h.1, bt_nm h.2⟩
  | .later a b, h => ⟨bt_nm h.1, bt_nm h.2⟩
  | .earlier a b, h => ⟨bt_nm h.1, bt_nm h.2⟩
/-- how large a term of so many levels may be -/
def pB : Nat → Int
  | 0 => 1
  | d + 1 => 1 + 2 * pB d
def lB : Nat → Int
  | 0 => 0
  | 1 => 1
  | d + 2 => 2 * lB (d + 1)
theorem lB_pos : ∀ d, 1 ≤ lB (d + 1)
  | 0 => Int.le_refl 1
  | d + 1 => by have := lB_pos d; show 1 ≤ 2 * lB (d + 1); omega
theorem lB_nn : ∀ d, 0 ≤ lB d
  | 0 => Int.le_refl 0
  | d + 1 => by have := lB_pos d; omega
theorem lB_up : ∀ d, 1 + lB d ≤ lB (d + 1) ∧ 2 * lB d ≤ lB (d + 1)
  | 0 => ⟨by decide, by decide⟩
  | d + 1 => by have := lB_pos d; exact ⟨by show 1 + lB (d + 1) ≤ 2 * lB (d + 1); omega, by show 2 * lB (d + 1) ≤ 2 * lB (d + 1); omega⟩
theorem pB_pos : ∀ d, 1 ≤ pB d
  | 0 => Int.le_refl 1
  | d + 1 => by have := pB_pos d; show 1 ≤ 1 + 2 * pB d; omega
structure Lev (t : Tm) (d : Nat) : Prop where
  dep : t.dep ≤ (d : Int) + 1
  par : t.par ≤ pB d
  lok : t.lok ≤ lB d
  nm : t.NmS
def spLTerm (d : Nat) : Sp := fun vs H Q _ => ∃ (p s l : Addr) (names : List Str), vs = [.ref p, .ref l, .int (d : Int)] ∧ PoolAt H p s ∧ l ≠ p ∧ H l = some (.lst (names.map V.str)) ∧ 1 ≤ names.length ∧ names.length ≤ 25 ∧ (∀ z ∈ names, IsNm z) ∧
  ∀ e t H', MdAt H' e t → Lev t d → Pl H H' p s → Q (.ref e) H'
def spBuilt (C : TC) (d : Nat) : Sp := fun vs H Q _ => ∃ (e : Addr) (t : Tm), vs = [.ref e] ∧ MdAt H e t ∧ t.NmS ∧ t.Fit ∧ t.dep ≤ (d : Int) ∧ ∀ a H', TmAt C H' a (bt t) → Same H H' → Q (.ref a) H'
section
variable {P : Program} {w : World} {K : PySem.W.Frag} {mg : Str → Option Value} {base : Heap} {C : TC} {CW : Addr}
abbrev s_l_term : Stmt := topS 73
theorem sc_l_term : FnScope ["pool", "streams", "depth", "kind", "inner"] ["pool", "streams", "depth"] (defScope s_l_term) := ⟨rfl, rfl, rfl, by decide +kernel, rfl, by decide +kernel, by decide +kernel⟩
theorem ok_lterm0 {f : Addr} {fd : FuncData} (F : Fun K "_law_term" "_law_term" s_l_term f fd) (B : Blt mg) (G : G2w P w K mg base) : FnOk P w K mg base CX0 (0 + 3) f fd ["pool", "streams", "depth"] (spLTerm 0) := by
  refine F.ok sc_l_term (fun vs H Q E h => ?_) (fun cdv A outer s H vs Q E hr h => ?_)
  · obtain ⟨p, s, l, names, rfl, _⟩ := h
    rfl
  · obtain ⟨p, s0, l, names, rfl, hP, hlp, hl, n1, n25, hnm, q⟩ := h
    refine ⟨_, (pss_cons (ps_set (i := 3) sc_l_term.nd rfl (Or.inl rfl) (pe_cal G.law_draw (hr.mono (by decide)) pass0 (pa_cons (pv 0) (pa_cons pe_int pa_nil))))
    (pss_cons (ps_if (PW.pt (pw_or (pt_cmpR op_eq (pv 2) pe_int (nomark _)) (pw_or1 (pt_cmpR op_eq (pv 3) pe_int (nomark _)))))
      (pss_one (ps_ret (pe_tup (pa_cons pe_str pa_nil))))
      pss_nil)
    (pss_cons ps_never
    (pss_cons (ps_if (pt_cmpR op_lt (pv 3) pe_int (nomark _))
      (pss_one (ps_ret (pe_tup (pa_cons pe_str (pa_cons (pe_ix ix_list (pv 1) (pe_cal G.law_draw (hr.mono (by decide)) pass0 (pa_cons (pv 0) (pa_cons (pe_callB call_len (by rfl) B.len (by decide +kernel) (pa_cons (pv 1) pa_nil)) pa_nil))) (fun _ _ => rfl)) (pa_cons (pv 4) pa_nil))))))
      pss_nil)
    (pss_cons (ps_if (pt_cmpR op_eq (pv 3) pe_int (nomark _))
      (pss_one (ps_ret (pe_tup (pa_cons pe_str (pa_cons (pe_ix ix_list (pv 1) (pe_cal G.law_draw (hr.mono (by decide)) pass0 (pa_cons (pv 0) (pa_cons (pe_callB call_len (by rfl) B.len (by decide +kernel) (pa_cons (pv 1) pa_nil)) pa_nil))) (fun _ _ => rfl)) (pa_cons (pv 4) pa_nil))))))
      pss_nil)
    (pss_cons (ps_if (pt_cmpR op_eq (pv 3) pe_int (nomark _))
      (pss_one (ps_ret (pe_tup (pa_cons pe_str (pa_cons (pe_cal G.law_moment (hr.mono (by decide)) pass0 (pa_cons (pv 0) pa_nil)) (pa_cons (pv 4) pa_nil))))))
      pss_nil)
    (pss_one ps_never))))))), ?_⟩
    refine ⟨_, rfl, p, s0, 8, rfl, hP, (by decide), (by decide), fun kind H1 k0 k8 P1 => ?_⟩
    refine ⟨_, rfl, rfl, _, rfl, ?_⟩
    refine ite2 (fun _ => ?_) (fun c => absurd rfl c)
    exact ⟨(by show 1 ≤ sizeLine; decide), fun e he => q e .now _ upd_same ⟨by decide, by decide, by decide, trivial⟩ (P1.new he)⟩
structure G3t (P : Program) (w : World) (K : PySem.W.Frag) (mg : Str → Option Value) (base : Heap) (d : Nat) : Prop extends G2w P w K mg base where
  law_term : Cal P w K mg base CX0 "_law_term" (d + 3) ["pool", "streams", "depth"] (spLTerm d)
theorem ok_lterm {f : Addr} {fd : FuncData} {d : Nat} (F : Fun K "_law_term" "_law_term" s_l_term f fd) (B : Blt mg) (G : G3t P w K mg base d) : FnOk P w K mg base CX0 (d + 1 + 3) f fd ["pool", "streams", "depth"] (spLTerm (d + 1)) := by
  refine F.ok sc_l_term (fun vs H Q E h => ?_) (fun cdv A outer s H vs Q E hr h => ?_)
  · obtain ⟨p, s, l, names, rfl, _⟩ := h
    rfl
  · obtain ⟨p, s0, l, names, rfl, hP, hlp, hl, n1, n25, hnm, q⟩ := h
    refine ⟨_, (pss_cons (ps_set (i := 3) sc_l_term.nd rfl (Or.inl rfl) (pe_cal G.law_draw (hr.mono (by omega)) pass0 (pa_cons (pv 0) (pa_cons pe_int pa_nil))))
    (pss_cons (ps_if (PW.pt (pw_or (pt_cmpR op_eq (pv 2) pe_int (nomark _)) (pw_or1 (pt_cmpR op_eq (pv 3) pe_int (nomark _)))))
      (pss_one (ps_ret (pe_tup (pa_cons pe_str pa_nil))))
      pss_nil)
    (pss_cons (ps_set (i := 4) sc_l_term.nd rfl (Or.inl rfl) (pe_cal G.law_term (hr.mono (by omega)) pass0 (pa_cons (pv 0) (pa_cons (pv 1) (pa_cons (pe_op op_sub (pv 2) pe_int) pa_nil)))))
    (pss_cons (ps_if (pt_cmpR op_lt (pv 3) pe_int (nomark _))
      (pss_one (ps_ret (pe_tup (pa_cons pe_str (pa_cons (pe_ix ix_list (pv 1) (pe_cal G.law_draw (hr.mono (by omega)) pass0 (pa_cons (pv 0) (pa_cons (pe_callB call_len (by rfl) B.len (by decide +kernel) (pa_cons (pv 1) pa_nil)) pa_nil))) (fun _ _ => rfl)) (pa_cons (pv 4) pa_nil))))))
      pss_nil)
    (pss_cons (ps_if (pt_cmpR op_eq (pv 3) pe_int (nomark _))
      (pss_one (ps_ret (pe_tup (pa_cons pe_str (pa_cons (pe_ix ix_list (pv 1) (pe_cal G.law_draw (hr.mono (by omega)) pass0 (pa_cons (pv 0) (pa_cons (pe_callB call_len (by rfl) B.len (by decide +kernel) (pa_cons (pv 1) pa_nil)) pa_nil))) (fun _ _ => rfl)) (pa_cons (pv 4) pa_nil))))))
      pss_nil)
    (pss_cons (ps_if (pt_cmpR op_eq (pv 3) pe_int (nomark _))
      (pss_one (ps_ret (pe_tup (pa_cons pe_str (pa_cons (pe_cal G.law_moment (hr.mono (by omega)) pass0 (pa_cons (pv 0) pa_nil)) (pa_cons (pv 4) pa_nil))))))
      pss_nil)
    (pss_one (ps_ret (pe_tup (pa_cons (pe_ix ix_list (pe_lst (pa_cons pe_str (pa_cons pe_str (pa_cons pe_str pa_nil)))) (pe_op op_sub (pv 3) pe_int) (fun _ _ => rfl)) (pa_cons (pv 4) (pa_cons (pe_cal G.law_term (hr.mono (by omega)) pass0 (pa_cons (pv 0) (pa_cons (pv 1) (pa_cons (pe_op op_sub (pv 2) pe_int) pa_nil)))) pa_nil)))))))))))), ?_⟩
    refine ⟨_, rfl, p, s0, 8, rfl, hP, (by decide), (by decide), fun kind H1 k0 k8 P1 => ?_⟩
    refine ⟨_, rfl, rfl, _, rfl, ?_⟩
    refine ite2 (fun c => ?_) (fun _ => ?_)
    · have := V.int.inj (of_decide_eq_true c)
      omega
    refine ⟨_, rfl, rfl, _, rfl, ?_⟩
    have := pB_pos d
    have lnn := lB_nn (d + 1)
    refine ite2 (fun _ => ?_) (fun ck => ?_)
    · exact ⟨(by show 1 ≤ sizeLine; decide), fun e he => q e .now _ upd_same ⟨by show (1 : Int) ≤ _; omega, by show (1 : Int) ≤ 1 + 2 * pB d; omega, lnn, trivial⟩ (P1.new he)⟩
    have hl1 := P1.keep hl hlp
    have ed : (((d + 1 : Nat) : Int) - 1) = (d : Int) := by omega
    refine ⟨_, rfl, _, rfl, _, rfl, _, _, rfl, rfl, p, s0, l, names, (by show [V.ref p, V.ref l, V.int (((d + 1 : Nat) : Int) - 1)] = _; rw [ed]), P1.now, hlp, hl1, n1, n25, hnm, fun e1 t1 H2 hM1 L1 P2 => ?_⟩
    have P12 := P1.trans P2
    have hl2 := P2.keep hl1 hlp
    obtain ⟨u1, u2⟩ := lB_up d
    have y1 := L1.dep
    have y2 := L1.par
    have y3 := L1.lok
    refine ⟨_, rfl, _, _, rfl, rfl, _, rfl, ?_⟩
    refine ite2 (fun _ => ?_) (fun c3 => ?_)
    · refine ⟨_, rfl, _, rfl, _, rfl, _, _, rfl, .inl ⟨_, SqL.of hl2, rfl⟩, p, s0, _, rfl, P2.now, (by rw [List.length_map]; omega), Int.lt_of_le_of_lt (show ((names.map V.str).length : Int) ≤ 25 by rw [List.length_map]; omega) (by decide), fun g H3 g0 g1 P3 => ?_⟩
      rw [List.length_map] at g1
      obtain ⟨j, rfl⟩ : ∃ j : Nat, g = (j : Int) := ⟨g.toNat, by omega⟩
      have hj : j < names.length := by omega
      have hz : names[j] ∈ names := List.getElem_mem hj
      generalize hzz : names[j] = z at hz
      refine ⟨_, _, _, .str z, rfl, rfl, SqL.of (P3.keep hl2 hlp), atI_nat (by rw [List.getElem?_map, List.getElem?_eq_getElem hj, hzz]; rfl), _, rfl, (by show 3 ≤ sizeLine; decide), fun e he => ?_⟩
      have k3 := hM1.tk (pl_tk P2.now P3)
      exact q e (.last z t1) _ ⟨e1, upd_same, k3.tk fun t xs h => sameAt (Same.refl H3) he _ _ h⟩ ⟨by show 1 + t1.dep ≤ _; omega, by show 1 + t1.par ≤ 1 + 2 * pB d; omega, by show 1 + t1.lok ≤ _; omega, hnm z hz, L1.nm⟩ ((P12.trans P3).new he)
    refine ⟨_, rfl, rfl, _, rfl, ?_⟩
    refine ite2 (fun _ => ?_) (fun c4 => ?_)
    · refine ⟨_, rfl, _, rfl, _, rfl, _, _, rfl, .inl ⟨_, SqL.of hl2, rfl⟩, p, s0, _, rfl, P2.now, (by rw [List.length_map]; omega), Int.lt_of_le_of_lt (show ((names.map V.str).length : Int) ≤ 25 by rw [List.length_map]; omega) (by decide), fun g H3 g0 g1 P3 => ?_⟩
      rw [List.length_map] at g1
      obtain ⟨j, rfl⟩ : ∃ j : Nat, g = (j : Int) := ⟨g.toNat, by omega⟩
      have hj : j < names.length := by omega
      have hz : names[j] ∈ names := List.getElem_mem hj
      generalize hzz : names[j] = z at hz
      refine ⟨_, _, _, .str z, rfl, rfl, SqL.of (P3.keep hl2 hlp), atI_nat (by rw [List.getElem?_map, List.getElem?_eq_getElem hj, hzz]; rfl), _, rfl, (by show 3 ≤ sizeLine; decide), fun e he => ?_⟩
      have k3 := hM1.tk (pl_tk P2.now P3)
      exact q e (.next z t1) _ ⟨e1, upd_same, k3.tk fun t xs h => sameAt (Same.refl H3) he _ _ h⟩ ⟨by show 1 + t1.dep ≤ _; omega, by show 1 + t1.par ≤ 1 + 2 * pB d; omega, by show 1 + t1.lok ≤ _; omega, hnm z hz, L1.nm⟩ ((P12.trans P3).new he)
    refine ⟨_, rfl, rfl, _, rfl, ?_⟩
    refine ite2 (fun _ => ?_) (fun c5 => ?_)
    · refine ⟨_, rfl, p, s0, rfl, P2.now, fun m H3 P3 => ⟨_, rfl, (by show 3 ≤ sizeLine; decide), fun e he => ?_⟩⟩
      have k3 := hM1.tk (pl_tk P2.now P3)
      exact q e (.shift m t1) _ ⟨e1, upd_same, k3.tk fun t xs h => sameAt (Same.refl H3) he _ _ h⟩ ⟨by show 1 + t1.dep ≤ _; omega, by show 1 + t1.par ≤ 1 + 2 * pB d; omega, by show 0 + t1.lok ≤ _; omega, L1.nm⟩ ((P12.trans P3).new he)
    have c3 : ¬ kind < 3 := fun z => c3 (decide_eq_true z)
    have c4 : ¬ kind = 3 := fun z => c4 (decide_eq_true (by rw [z]))
    have c5 : ¬ kind = 4 := fun z => c5 (decide_eq_true (by rw [z]))
    obtain ⟨w9, mk, hat, hmk⟩ : ∃ (w9 : Str) (mk : Tm → Tm → Tm), atI ([.str "either", .str "later", .str "earlier"] : List V) (kind - 5) = some (.str w9) ∧ ((w9 = "either" ∧ mk = Tm.either) ∨ (w9 = "later" ∧ mk = Tm.later) ∨ (w9 = "earlier" ∧ mk = Tm.earlier)) := by
      have : kind = 5 ∨ kind = 6 ∨ kind = 7 := by omega
      rcases this with rfl | rfl | rfl
      · exact ⟨"either", Tm.either, rfl, .inl ⟨rfl, rfl⟩⟩
      · exact ⟨"later", Tm.later, rfl, .inr (.inl ⟨rfl, rfl⟩)⟩
      · exact ⟨"earlier", Tm.earlier, rfl, .inr (.inr ⟨rfl, rfl⟩)⟩
    refine ⟨(by show 3 ≤ sizeLine; decide), fun ll hll => ?_⟩
    have P2l : Pl H (upd H2 ll (.lst [.str "either", .str "later", .str "earlier"])) p s0 := P12.new hll
    have tkl : ∀ t xs, H2 t = some (.tup xs) → upd H2 ll (.lst [.str "either", .str "later", .str "earlier"]) t = some (.tup xs) := fun t xs h => sameAt (Same.refl H2) hll _ _ h
    refine ⟨_, rfl, _, _, rfl, rfl, _, _, _, _, rfl, rfl, SqL.of upd_same, hat, _, rfl, _, rfl, _, rfl, _, rfl, _, _, rfl, rfl, p, s0, l, names, (by show [V.ref p, V.ref l, V.int (((d + 1 : Nat) : Int) - 1)] = _; rw [ed]), P2l.now, hlp, sameAt (Same.refl H2) hll _ _ hl2, n1, n25, hnm, fun e2 t2 H3 hM2 L2' P3 => ⟨(by show 3 ≤ sizeLine; decide), fun e he => ?_⟩⟩
    have z1 := L2'.dep
    have z2 := L2'.par
    have z3 := L2'.lok
    have mxl : Tm.mx t1.dep t2.dep ≤ (d : Int) + 1 := by unfold Tm.mx; split <;> assumption
    have k1 := ((hM1.tk tkl).tk (pl_tk P2l.now P3)).tk fun t xs h => sameAt (Same.refl H3) he (o := .tup [.str w9, .ref e1, .ref e2]) _ _ h
    have k2 := hM2.tk fun t xs h => sameAt (Same.refl H3) he (o := .tup [.str w9, .ref e1, .ref e2]) _ _ h
    have PF : Pl H (upd H3 e (.tup [.str w9, .ref e1, .ref e2])) p s0 := (P2l.trans P3).new he
    rcases hmk with ⟨rfl, rfl⟩ | ⟨rfl, rfl⟩ | ⟨rfl, rfl⟩
    · exact q e (.either t1 t2) _ ⟨e1, e2, upd_same, k1, k2⟩ ⟨by show 1 + Tm.mx t1.dep t2.dep ≤ _; omega, by show 1 + (t1.par + t2.par) ≤ 1 + 2 * pB d; omega, by show 0 + (t1.lok + t2.lok) ≤ _; omega, L1.nm, L2'.nm⟩ PF
    · exact q e (.later t1 t2) _ ⟨e1, e2, upd_same, k1, k2⟩ ⟨by show 1 + Tm.mx t1.dep t2.dep ≤ _; omega, by show 1 + (t1.par + t2.par) ≤ 1 + 2 * pB d; omega, by show 0 + (t1.lok + t2.lok) ≤ _; omega, L1.nm, L2'.nm⟩ PF
    · exact q e (.earlier t1 t2) _ ⟨e1, e2, upd_same, k1, k2⟩ ⟨by show 1 + Tm.mx t1.dep t2.dep ≤ _; omega, by show 1 + (t1.par + t2.par) ≤ 1 + 2 * pB d; omega, by show 0 + (t1.lok + t2.lok) ≤ _; omega, L1.nm, L2'.nm⟩ PF
end
end Ash

set_option Elab.async false
set_option linter.all false
set_option maxRecDepth 100000
set_option maxHeartbeats 4000000
namespace Ash
open PySem PySem.Spec PyProof.Rows L2 SrtT
open C8 (pss_cut)
theorem pe_mak0 {X : Cx} {CX : CXT} {k : Nat} {ps : List Str} {sp : Sp} {E : XK} {x : Str} {p pos : Pos} {C : Addr} (G : Mak X.prog X.w X.K X.mg X.base CX x C k ps sp) (hr : Room (k + 1) X.A) (hx : Passes CX X E) (hg : Gl X x := by rfl)
    (hdb : (x == ("__debug__" : Str)) = false := by decide) : PE X (.Call (.Name x p) [] [] pos) (tMake C sp [] E tNil) := by
  obtain ⟨f, fd, M, hm, hb, F⟩ := G.ex
  exact pe_make0 M F hr hg hm hb .nil hx hdb
section
variable {P : Program} {w : World} {K : PySem.W.Frag} {mg : Str → Option Value} {base : Heap} {C : TC} {CW : Addr}
/-- what the law's building calls -/
structure B0 (P : Program) (w : World) (K : PySem.W.Frag) (mg : Str → Option Value) (base : Heap) (C : TC) : Prop where
  Now : Mak P w K mg base CX0 "Now" C.now 2 ["self"] (spInit0 C)
  Last : Mak P w K mg base CX0 "Last" C.last 3 ["self", "stream", "term"] (spInitL C C.last Tm.last)
  Next : Mak P w K mg base CX0 "Next" C.next 3 ["self", "stream", "term"] (spInitL C C.next Tm.next)
/-- the operators and methods of terms -/
structure Ops (P : Program) (w : World) (K : PySem.W.Frag) (mg : Str → Option Value) (base : Heap) (C : TC) : Prop where
  add : ∃ f fd, OpI K C.Is .Add f ∧ FnOk P w K mg base CX0 5 f fd ["self", "other"] (spShifted C) ∧ Binds K fd ["self", "other"] []
  or_ : ∃ f fd, OpF K C.Is .BitOr f ∧ FnOk P w K mg base CX0 4 f fd ["self", "other"] (spPair C Tm.either) ∧ Binds K fd ["self", "other"] []
  later : ∃ f fd, MethF K C.Is "later" f ∧ FnOk P w K mg base CX0 4 f fd ["self", "other"] (spPair C Tm.later) ∧ Binds K fd ["self", "other"] []
  earlier : ∃ f fd, MethF K C.Is "earlier" f ∧ FnOk P w K mg base CX0 4 f fd ["self", "other"] (spPair C Tm.earlier) ∧ Binds K fd ["self", "other"] []
structure B1 (P : Program) (w : World) (K : PySem.W.Frag) (mg : Str → Option Value) (base : Heap) (C : TC) (d : Nat) : Prop extends B0 P w K mg base C where
  law_built : Cal P w K mg base CX0 "_law_built" (d + 6) ["model"] (spBuilt C d)
abbrev s_l_built : Stmt := topS 74
theorem sc_l_built : FnScope ["model", "first", "second"] ["model"] (defScope s_l_built) := ⟨rfl, rfl, rfl, by decide +kernel, rfl, by decide +kernel, by decide +kernel⟩
theorem ok_built0 {f : Addr} {fd : FuncData} (F : Fun K "_law_built" "_law_built" s_l_built f fd) : FnOk P w K mg base CX0 (0 + 6) f fd ["model"] (spBuilt C 0) := by
  refine F.ok sc_l_built (fun vs H Q E h => ?_) (fun cdv A outer s H vs Q E hr h => ?_)
  · obtain ⟨e, t, rfl, _⟩ := h
    rfl
  · obtain ⟨e, t, rfl, _, _, _, hd, _⟩ := h
    have := t.dep_pos
    have hd : t.dep ≤ 0 := hd
    omega
theorem TmAt.meth {H : Hp} {a : Addr} {t : Tm} (h : TmAt C H a t) : ∃ dx fs, H a = some (.ins (C.of t) dx fs) ∧ fs.lookup ("later" : Str) = none ∧ fs.lookup ("earlier" : Str) = none := by
  obtain ⟨dx, fs, sp, i⟩ := h.in_
  exact ⟨dx, fs, i.at_, i.no _ (by decide +kernel) (by decide +kernel), i.no _ (by decide +kernel) (by decide +kernel)⟩
theorem ok_built {f : Addr} {fd : FuncData} {d : Nat} (F : Fun K "_law_built" "_law_built" s_l_built f fd) (B : Blt mg) (G : B1 P w K mg base C d) (O : Ops P w K mg base C) : FnOk P w K mg base CX0 (d + 1 + 6) f fd ["model"] (spBuilt C (d + 1)) := by
  obtain ⟨fa, fda, OA, Fa, ba⟩ := O.add
  obtain ⟨fo, fdo, OO, Fo, bo⟩ := O.or_
  obtain ⟨fl, fdl, ML, Fl, bl⟩ := O.later
  obtain ⟨fe, fde, ME, Fe, be⟩ := O.earlier
  refine F.ok sc_l_built (fun vs H Q E h => ?_) (fun cdv A outer s H vs Q E hr h => ?_)
  · obtain ⟨e, t, rfl, _⟩ := h
    rfl
  · obtain ⟨e, t, rfl, hM, hN, hF, hd, q⟩ := h
    refine ⟨_, (pss_cons (ps_if (pt_cmpR op_eq (pe_ix ix_tup (pv 0) pe_int (fun _ _ => rfl)) pe_str (nomark _))
      (pss_one (ps_ret (pe_mak0 G.Now (hr.mono (by omega)) pass0)))
      pss_nil)
    (pss_cons (ps_if (pt_cmpR op_eq (pe_ix ix_tup (pv 0) pe_int (fun _ _ => rfl)) pe_str (nomark _))
      (pss_one (ps_ret (pe_op (op_int OA Fa ba pass0 (hr.mono (by omega))) (pe_cal G.law_built (hr.mono (by omega)) pass0 (pa_cons (pe_ix ix_tup (pv 0) pe_int (fun _ _ => rfl)) pa_nil)) (pe_ix ix_tup (pv 0) pe_int (fun _ _ => rfl)))))
      pss_nil)
    (pss_cons (ps_if (pt_cmpR op_eq (pe_ix ix_tup (pv 0) pe_int (fun _ _ => rfl)) pe_str (nomark _))
      (pss_one (ps_ret (pe_mak G.Last (hr.mono (by omega)) pass0 (pa_cons (pe_ix ix_tup (pv 0) pe_int (fun _ _ => rfl)) (pa_cons (pe_cal G.law_built (hr.mono (by omega)) pass0 (pa_cons (pe_ix ix_tup (pv 0) pe_int (fun _ _ => rfl)) pa_nil)) pa_nil)))))
      pss_nil)
    (pss_cons (ps_if (pt_cmpR op_eq (pe_ix ix_tup (pv 0) pe_int (fun _ _ => rfl)) pe_str (nomark _))
      (pss_one (ps_ret (pe_mak G.Next (hr.mono (by omega)) pass0 (pa_cons (pe_ix ix_tup (pv 0) pe_int (fun _ _ => rfl)) (pa_cons (pe_cal G.law_built (hr.mono (by omega)) pass0 (pa_cons (pe_ix ix_tup (pv 0) pe_int (fun _ _ => rfl)) pa_nil)) pa_nil)))))
      pss_nil)
    (pss_cons (ps_set (i := 1) sc_l_built.nd rfl (Or.inl rfl) (pe_cal G.law_built (hr.mono (by omega)) pass0 (pa_cons (pe_ix ix_tup (pv 0) pe_int (fun _ _ => rfl)) pa_nil)))
    (pss_cons (ps_set (i := 2) sc_l_built.nd rfl (Or.inl rfl) (pe_cal G.law_built (hr.mono (by omega)) pass0 (pa_cons (pe_ix ix_tup (pv 0) pe_int (fun _ _ => rfl)) pa_nil)))
    (pss_cons (ps_if (pt_cmpR op_eq (pe_ix ix_tup (pv 0) pe_int (fun _ _ => rfl)) pe_str (nomark _))
      (pss_one (ps_ret (pe_op (op_fam OO Fo bo pass0 (hr.mono (by omega))) (pv 1) (pv 2))))
      pss_nil)
    (pss_cons (ps_if (pt_cmpR op_eq (pe_ix ix_tup (pv 0) pe_int (fun _ _ => rfl)) pe_str (nomark _))
      (pss_one (ps_ret (pe_methF (pv 1) ML Fl (hr.mono (by omega)) bl pass0 (pa_cons (pv 2) pa_nil))))
      pss_nil)
    (pss_one (ps_ret (pe_methF (pv 1) ME Fe (hr.mono (by omega)) be pass0 (pa_cons (pv 2) pa_nil)))))))))))), ?_⟩
    cases t with
    | now =>
      have hM : H e = some (.tup [.str "now"]) := hM
      refine ⟨_, rfl, _, _, _, _, rfl, rfl, SqT.of hM, rfl, rfl, _, rfl, iteT ?_⟩
      exact fun x dx hx hdx hne => ⟨x, dx, rfl, upd_same, fun H' hT' hK => ⟨rfl, q x H' hT' (keep_make hK hx hdx)⟩⟩
    | shift n u =>
      obtain ⟨b, he, hu⟩ := hM
      have hd : 1 + u.dep ≤ ((d + 1 : Nat) : Int) := hd
      obtain ⟨z1, z2, z3⟩ := bt_sz u
      obtain ⟨q1, q2, q3⟩ := plus_sz (t := bt u) (n := n)
      obtain ⟨f1, f2, f3⟩ := hF
      have f1 : 1 + u.dep ≤ 12 := f1
      have f2 : 1 + u.par ≤ 40 := f2
      have f3 : 0 + u.lok ≤ 12 := f3
      refine ⟨_, rfl, _, _, _, _, rfl, rfl, SqT.of he, rfl, rfl, _, rfl, iteF ⟨_, rfl, _, _, _, _, rfl, rfl, SqT.of he, rfl, rfl, _, rfl, iteT ?_⟩⟩
      refine ⟨_, rfl, _, _, _, _, rfl, rfl, SqT.of he, rfl, b, u, rfl, hu, hN, ⟨by omega, by omega, by omega⟩, by omega, fun a1 H1 hT1 s1 => ?_⟩
      have he1 := s1 _ _ he
      obtain ⟨dx, fs, h1, _⟩ := hT1.meth
      exact ⟨_, rfl, _, _, _, _, rfl, rfl, SqT.of he1, rfl, a1, _, dx, fs, n, rfl, rfl, h1, C.is_of _, a1, bt u, n, rfl, hT1, ⟨by omega, by omega, by omega⟩, fun a2 H2 hT2 s2 => q a2 H2 hT2 (s1.trans s2)⟩
    | last z u =>
      obtain ⟨b, he, hu⟩ := hM
      have hd : 1 + u.dep ≤ ((d + 1 : Nat) : Int) := hd
      obtain ⟨z1, z2, z3⟩ := bt_sz u
      obtain ⟨f1, f2, f3⟩ := hF
      have f1 : 1 + u.dep ≤ 12 := f1
      have f2 : 1 + u.par ≤ 40 := f2
      have f3 : 1 + u.lok ≤ 12 := f3
      refine ⟨_, rfl, _, _, _, _, rfl, rfl, SqT.of he, rfl, rfl, _, rfl, iteF ⟨_, rfl, _, _, _, _, rfl, rfl, SqT.of he, rfl, rfl, _, rfl, iteF ⟨_, rfl, _, _, _, _, rfl, rfl, SqT.of he, rfl, rfl, _, rfl, iteT ?_⟩⟩⟩
      refine ⟨_, rfl, _, _, _, _, rfl, rfl, SqT.of he, rfl, _, rfl, _, _, _, _, rfl, rfl, SqT.of he, rfl, b, u, rfl, hu, hN.2, ⟨by omega, by omega, by omega⟩, by omega, fun a1 H1 hT1 s1 => ?_⟩
      exact fun x dx hx hdx hne => ⟨x, dx, a1, z, bt u, rfl, upd_same, hN.1, hT1.same (sameAt (sameAt (Same.refl H1) hdx) hx), ⟨by show 1 + (bt u).dep ≤ 12; omega, by show 1 + (bt u).par ≤ 40; omega, by show 1 + (bt u).lok ≤ 12; omega⟩, fun H' hT' hK => ⟨rfl, q x H' hT' (s1.trans (keep_make hK hx hdx))⟩⟩
    | next z u =>
      obtain ⟨b, he, hu⟩ := hM
      have hd : 1 + u.dep ≤ ((d + 1 : Nat) : Int) := hd
      obtain ⟨z1, z2, z3⟩ := bt_sz u
      obtain ⟨f1, f2, f3⟩ := hF
      have f1 : 1 + u.dep ≤ 12 := f1
      have f2 : 1 + u.par ≤ 40 := f2
      have f3 : 1 + u.lok ≤ 12 := f3
      refine ⟨_, rfl, _, _, _, _, rfl, rfl, SqT.of he, rfl, rfl, _, rfl, iteF ⟨_, rfl, _, _, _, _, rfl, rfl, SqT.of he, rfl, rfl, _, rfl, iteF ⟨_, rfl, _, _, _, _, rfl, rfl, SqT.of he, rfl, rfl, _, rfl, iteF ⟨_, rfl, _, _, _, _, rfl, rfl, SqT.of he, rfl, rfl, _, rfl, iteT ?_⟩⟩⟩⟩
      refine ⟨_, rfl, _, _, _, _, rfl, rfl, SqT.of he, rfl, _, rfl, _, _, _, _, rfl, rfl, SqT.of he, rfl, b, u, rfl, hu, hN.2, ⟨by omega, by omega, by omega⟩, by omega, fun a1 H1 hT1 s1 => ?_⟩
      exact fun x dx hx hdx hne => ⟨x, dx, a1, z, bt u, rfl, upd_same, hN.1, hT1.same (sameAt (sameAt (Same.refl H1) hdx) hx), ⟨by show 1 + (bt u).dep ≤ 12; omega, by show 1 + (bt u).par ≤ 40; omega, by show 1 + (bt u).lok ≤ 12; omega⟩, fun H' hT' hK => ⟨rfl, q x H' hT' (s1.trans (keep_make hK hx hdx))⟩⟩
    | either x y =>
      obtain ⟨b, c, he, hx, hy⟩ := hM
      have hd : 1 + Tm.mx x.dep y.dep ≤ ((d + 1 : Nat) : Int) := hd
      have m1 := Tm.mx_l x.dep y.dep
      have m2 := Tm.mx_r x.dep y.dep
      obtain ⟨z1, z2, z3⟩ := bt_sz x
      obtain ⟨y1, y2, y3⟩ := bt_sz y
      have mm := mx_mono z1 y1
      have hFF := hF
      obtain ⟨f1, f2, f3⟩ := hF
      have f1 : 1 + Tm.mx x.dep y.dep ≤ 12 := f1
      have f2 : 1 + (x.par + y.par) ≤ 40 := f2
      have f3 : 0 + (x.lok + y.lok) ≤ 12 := f3
      have p1 := x.par_pos
      have p2 := y.par_pos
      have p3 := x.lok_nn
      have p4 := y.lok_nn
      have fit : (Tm.either (bt x) (bt y)).Fit := ⟨by show 1 + Tm.mx (bt x).dep (bt y).dep ≤ 12; omega, by show 1 + ((bt x).par + (bt y).par) ≤ 40; omega, by show 0 + ((bt x).lok + (bt y).lok) ≤ 12; omega⟩
      refine ⟨_, rfl, _, _, _, _, rfl, rfl, SqT.of he, rfl, rfl, _, rfl, iteF ⟨_, rfl, _, _, _, _, rfl, rfl, SqT.of he, rfl, rfl, _, rfl, iteF ⟨_, rfl, _, _, _, _, rfl, rfl, SqT.of he, rfl, rfl, _, rfl, iteF ⟨_, rfl, _, _, _, _, rfl, rfl, SqT.of he, rfl, rfl, _, rfl, iteF ?_⟩⟩⟩⟩
      refine ⟨_, rfl, _, _, _, _, rfl, rfl, SqT.of he, rfl, b, x, rfl, hx, hN.1, ⟨by omega, by omega, by omega⟩, by omega, fun a1 H1 hT1 s1 => ?_⟩
      have he1 := s1 _ _ he
      refine ⟨_, rfl, _, _, _, _, rfl, rfl, SqT.of he1, rfl, c, y, rfl, hy.tk fun t xs h => s1 _ _ h, hN.2, ⟨by omega, by omega, by omega⟩, by omega, fun a2 H2 hT2 s2 => ?_⟩
      have hT1' := hT1.same s2
      have he2 := s2 _ _ he1
      obtain ⟨dx1, fs1, g1, g2, g3⟩ := hT1'.meth
      obtain ⟨dx2, fs2, g4, _⟩ := hT2.meth
      refine ⟨_, rfl, _, _, _, _, rfl, rfl, SqT.of he2, rfl, rfl, _, rfl, iteT ?_⟩
      exact ⟨_, rfl, _, rfl, a1, a2, _, _, dx1, dx2, fs1, fs2, rfl, rfl, g1, C.is_of _, g4, C.is_of _, a1, a2, bt x, bt y, rfl, hT1', hT2, fit, fun a3 H3 hT3 s3 => q a3 H3 hT3 ((s1.trans s2).trans s3)⟩
    | later x y =>
      obtain ⟨b, c, he, hx, hy⟩ := hM
      have hd : 1 + Tm.mx x.dep y.dep ≤ ((d + 1 : Nat) : Int) := hd
      have m1 := Tm.mx_l x.dep y.dep
      have m2 := Tm.mx_r x.dep y.dep
      obtain ⟨z1, z2, z3⟩ := bt_sz x
      obtain ⟨y1, y2, y3⟩ := bt_sz y
      have mm := mx_mono z1 y1
      have hFF := hF
      obtain ⟨f1, f2, f3⟩ := hF
      have f1 : 1 + Tm.mx x.dep y.dep ≤ 12 := f1
      have f2 : 1 + (x.par + y.par) ≤ 40 := f2
      have f3 : 0 + (x.lok + y.lok) ≤ 12 := f3
      have p1 := x.par_pos
      have p2 := y.par_pos
      have p3 := x.lok_nn
      have p4 := y.lok_nn
      have fit : (Tm.later (bt x) (bt y)).Fit := ⟨by show 1 + Tm.mx (bt x).dep (bt y).dep ≤ 12; omega, by show 1 + ((bt x).par + (bt y).par) ≤ 40; omega, by show 0 + ((bt x).lok + (bt y).lok) ≤ 12; omega⟩
      refine ⟨_, rfl, _, _, _, _, rfl, rfl, SqT.of he, rfl, rfl, _, rfl, iteF ⟨_, rfl, _, _, _, _, rfl, rfl, SqT.of he, rfl, rfl, _, rfl, iteF ⟨_, rfl, _, _, _, _, rfl, rfl, SqT.of he, rfl, rfl, _, rfl, iteF ⟨_, rfl, _, _, _, _, rfl, rfl, SqT.of he, rfl, rfl, _, rfl, iteF ?_⟩⟩⟩⟩
      refine ⟨_, rfl, _, _, _, _, rfl, rfl, SqT.of he, rfl, b, x, rfl, hx, hN.1, ⟨by omega, by omega, by omega⟩, by omega, fun a1 H1 hT1 s1 => ?_⟩
      have he1 := s1 _ _ he
      refine ⟨_, rfl, _, _, _, _, rfl, rfl, SqT.of he1, rfl, c, y, rfl, hy.tk fun t xs h => s1 _ _ h, hN.2, ⟨by omega, by omega, by omega⟩, by omega, fun a2 H2 hT2 s2 => ?_⟩
      have hT1' := hT1.same s2
      have he2 := s2 _ _ he1
      obtain ⟨dx1, fs1, g1, g2, g3⟩ := hT1'.meth
      obtain ⟨dx2, fs2, g4, _⟩ := hT2.meth
      refine ⟨_, rfl, _, _, _, _, rfl, rfl, SqT.of he2, rfl, rfl, _, rfl, iteF ⟨_, rfl, _, _, _, _, rfl, rfl, SqT.of he2, rfl, rfl, _, rfl, iteT ?_⟩⟩
      exact ⟨_, rfl, a1, _, dx1, fs1, rfl, g1, C.is_of _, g2, _, rfl, a1, a2, bt x, bt y, rfl, hT1', hT2, fit, fun a3 H3 hT3 s3 => q a3 H3 hT3 ((s1.trans s2).trans s3)⟩
    | earlier x y =>
      obtain ⟨b, c, he, hx, hy⟩ := hM
      have hd : 1 + Tm.mx x.dep y.dep ≤ ((d + 1 : Nat) : Int) := hd
      have m1 := Tm.mx_l x.dep y.dep
      have m2 := Tm.mx_r x.dep y.dep
      obtain ⟨z1, z2, z3⟩ := bt_sz x
      obtain ⟨y1, y2, y3⟩ := bt_sz y
      have mm := mx_mono z1 y1
      have hFF := hF
      obtain ⟨f1, f2, f3⟩ := hF
      have f1 : 1 + Tm.mx x.dep y.dep ≤ 12 := f1
      have f2 : 1 + (x.par + y.par) ≤ 40 := f2
      have f3 : 0 + (x.lok + y.lok) ≤ 12 := f3
      have p1 := x.par_pos
      have p2 := y.par_pos
      have p3 := x.lok_nn
      have p4 := y.lok_nn
      have fit : (Tm.earlier (bt x) (bt y)).Fit := ⟨by show 1 + Tm.mx (bt x).dep (bt y).dep ≤ 12; omega, by show 1 + ((bt x).par + (bt y).par) ≤ 40; omega, by show 0 + ((bt x).lok + (bt y).lok) ≤ 12; omega⟩
      refine ⟨_, rfl, _, _, _, _, rfl, rfl, SqT.of he, rfl, rfl, _, rfl, iteF ⟨_, rfl, _, _, _, _, rfl, rfl, SqT.of he, rfl, rfl, _, rfl, iteF ⟨_, rfl, _, _, _, _, rfl, rfl, SqT.of he, rfl, rfl, _, rfl, iteF ⟨_, rfl, _, _, _, _, rfl, rfl, SqT.of he, rfl, rfl, _, rfl, iteF ?_⟩⟩⟩⟩
      refine ⟨_, rfl, _, _, _, _, rfl, rfl, SqT.of he, rfl, b, x, rfl, hx, hN.1, ⟨by omega, by omega, by omega⟩, by omega, fun a1 H1 hT1 s1 => ?_⟩
      have he1 := s1 _ _ he
      refine ⟨_, rfl, _, _, _, _, rfl, rfl, SqT.of he1, rfl, c, y, rfl, hy.tk fun t xs h => s1 _ _ h, hN.2, ⟨by omega, by omega, by omega⟩, by omega, fun a2 H2 hT2 s2 => ?_⟩
      have hT1' := hT1.same s2
      have he2 := s2 _ _ he1
      obtain ⟨dx1, fs1, g1, g2, g3⟩ := hT1'.meth
      obtain ⟨dx2, fs2, g4, _⟩ := hT2.meth
      refine ⟨_, rfl, _, _, _, _, rfl, rfl, SqT.of he2, rfl, rfl, _, rfl, iteF ⟨_, rfl, _, _, _, _, rfl, rfl, SqT.of he2, rfl, rfl, _, rfl, iteF ?_⟩⟩
      exact ⟨_, rfl, a1, _, dx1, fs1, rfl, g1, C.is_of _, g3, _, rfl, a1, a2, bt x, bt y, rfl, hT1', hT2, fit, fun a3 H3 hT3 s3 => q a3 H3 hT3 ((s1.trans s2).trans s3)⟩
end
end Ash

set_option Elab.async false
set_option linter.all false
set_option maxRecDepth 100000
set_option maxHeartbeats 4000000
namespace Ash
open PySem PySem.Spec PyProof.Rows L2 SrtT
open C8 (pss_cut)
def gt2 (t u : T3) : Bool := if t.1 = u.1 then (if t.2.1 = u.2.1 then false else decide (u.2.1 < t.2.1)) else decide (u.1 < t.1)
def lt2' (t u : T3) : Bool := if t.1 = u.1 then (if t.2.1 = u.2.1 then false else decide (t.2.1 < u.2.1)) else decide (t.1 < u.1)
/-- the next one of those that fit, if it is better -/
def betT (fit : T3 → Bool) (g : T3 → T3 → Bool) (f : Option T3) (t : T3) : Option T3 := if fit t = true then (match f with
  | none => some t
  | some u => if g t u = true then some t else some u) else f
/-- the best one of those that fit -/
structure IsBest (fit : T3 → Bool) (g : T3 → T3 → Bool) (T : List T3) (o : Option T3) : Prop where
  no : o = none → ∀ t ∈ T, fit t = false
  yes : ∀ u, o = some u → u ∈ T ∧ fit u = true ∧ ∀ t ∈ T, fit t = true → g t u = false
theorem best_fold {fit : T3 → Bool} {g : T3 → T3 → Bool} (hr : ∀ t, g t t = false) (ht : ∀ t u v, g t u = false → g u v = false → g t v = false) (ha : ∀ t u, g t u = true → g u t = false) : ∀ (T : List T3), IsBest fit g T (T.foldl (betT fit g) none) := by
  have step : ∀ (S T : List T3) (o : Option T3), IsBest fit g S o → IsBest fit g (S ++ T) (T.foldl (betT fit g) o) := fun S T => by
    induction T generalizing S with
    | nil => intro o h; rw [List.append_nil]; exact h
    | cons t T ih =>
      intro o h
      have e : S ++ t :: T = (S ++ [t]) ++ T := by simp
      rw [e]
      refine ih (S ++ [t]) (betT fit g o t) ?_
      unfold betT
      by_cases c : fit t = true
      · rw [if_pos c]
        cases o with
        | none =>
          refine ⟨fun z => (nomatch z), fun u hu => ?_⟩
          cases hu
          refine ⟨by simp, c, fun x hx fx => ?_⟩
          rcases List.mem_append.mp hx with hx | hx
          · rw [h.no rfl x hx] at fx
            cases fx
          · rw [List.mem_singleton.mp hx]
            exact hr t
        | some v =>
          obtain ⟨y1, y2, y3⟩ := h.yes v rfl
          by_cases c2 : g t v = true
          · show IsBest fit g (S ++ [t]) (if g t v = true then some t else some v)
            rw [if_pos c2]
            refine ⟨fun z => (nomatch z), fun u hu => ?_⟩
            cases hu
            refine ⟨by simp, c, fun x hx fx => ?_⟩
            rcases List.mem_append.mp hx with hx | hx
            · exact ht x v t (y3 x hx fx) (ha t v c2)
            · rw [List.mem_singleton.mp hx]
              exact hr t
          · show IsBest fit g (S ++ [t]) (if g t v = true then some t else some v)
            rw [if_neg c2]
            refine ⟨fun z => (nomatch z), fun u hu => ?_⟩
            cases hu
            refine ⟨List.mem_append_left _ y1, y2, fun x hx fx => ?_⟩
            rcases List.mem_append.mp hx with hx | hx
            · exact y3 x hx fx
            · rw [List.mem_singleton.mp hx]
              exact Bool.eq_false_iff.mpr c2
      · rw [if_neg c]
        refine ⟨fun z x hx => ?_, fun u hu => ?_⟩
        · rcases List.mem_append.mp hx with hx | hx
          · exact h.no z x hx
          · rw [List.mem_singleton.mp hx]
            exact Bool.eq_false_iff.mpr c
        · obtain ⟨y1, y2, y3⟩ := h.yes u hu
          refine ⟨List.mem_append_left _ y1, y2, fun x hx fx => ?_⟩
          rcases List.mem_append.mp hx with hx | hx
          · exact y3 x hx fx
          · rw [List.mem_singleton.mp hx] at fx
            exact absurd fx c
  intro T
  have := step [] T none ⟨fun _ t ht => (nomatch ht), fun u hu => (nomatch hu)⟩
  exact this
theorem best_same {fit : T3 → Bool} {g : T3 → T3 → Bool} {T W : List T3} {o o' : Option T3} (hp : W.Perm T) (hn : ((T).map (·.2.1)).Nodup) (hg : ∀ t u, g t u = false → g u t = false → t.2.1 = u.2.1) (a : IsBest fit g T o) (b : IsBest fit g W o') : o = o' := by
  cases o with
  | none =>
    cases o' with
    | none => rfl
    | some u =>
      obtain ⟨y1, y2, _⟩ := b.yes u rfl
      rw [a.no rfl u (hp.mem_iff.mp y1)] at y2
      cases y2
  | some t =>
    obtain ⟨x1, x2, x3⟩ := a.yes t rfl
    cases o' with
    | none =>
      rw [b.no rfl t (hp.mem_iff.mpr x1)] at x2
      cases x2
    | some u =>
      obtain ⟨y1, y2, y3⟩ := b.yes u rfl
      have e := hg t u (y3 t (hp.mem_iff.mpr x1) x2) (x3 u (hp.mem_iff.mp y1) y2)
      have : t = u := by
        obtain ⟨i, hi, ei⟩ := List.getElem_of_mem x1
        obtain ⟨j, hj, ej⟩ := List.getElem_of_mem (hp.mem_iff.mp y1)
        have : i = j := nd_ix (x := t.2.1) hn (by rw [List.getElem?_map, List.getElem?_eq_getElem hi, ei]; rfl) (by rw [List.getElem?_map, List.getElem?_eq_getElem hj, ej, e]; rfl)
        subst this
        rw [← ei, ← ej]
      rw [this]
theorem gt2_no {t u : T3} : gt2 t u = false ↔ ¬ (u.1 < t.1 ∨ (t.1 = u.1 ∧ u.2.1 < t.2.1)) := by
  unfold gt2
  split
  · split
    · simp; omega
    · simp; omega
  · simp; omega
theorem lt2_no {t u : T3} : lt2' t u = false ↔ ¬ (t.1 < u.1 ∨ (t.1 = u.1 ∧ t.2.1 < u.2.1)) := by
  unfold lt2'
  split
  · split
    · simp; omega
    · simp; omega
  · simp; omega
/-- the last one of those up to m, in an ascending list, is the best one -/
theorem last_best {W : List T3} {m : Int} (hs : W.Pairwise fun a b => lex3 a b = true) : IsBest (fun t => decide (t.1 ≤ m)) gt2 W (lastR W m) := by
  have hf := hs.filter (fun t => decide (t.1 ≤ m))
  refine ⟨fun z t ht => ?_, fun u hu => ?_⟩
  · have e : W.filter (fun t => decide (t.1 ≤ m)) = [] := List.getLast?_eq_none_iff.mp z
    refine Bool.eq_false_iff.mpr fun c => ?_
    have : t ∈ W.filter (fun t => decide (t.1 ≤ m)) := List.mem_filter.mpr ⟨ht, c⟩
    rw [e] at this
    cases this
  · have hu : (W.filter (fun t => decide (t.1 ≤ m))).getLast? = some u := hu
    have hm := List.mem_of_getLast? hu
    refine ⟨(List.mem_filter.mp hm).1, (List.mem_filter.mp hm).2, fun t ht ft => ?_⟩
    have htm : t ∈ W.filter (fun t => decide (t.1 ≤ m)) := List.mem_filter.mpr ⟨ht, ft⟩
    obtain ⟨i, hi, ei⟩ := List.getElem_of_mem htm
    rw [List.getLast?_eq_getElem?] at hu
    obtain ⟨hj, ej⟩ := List.getElem?_eq_some_iff.mp hu
    rw [gt2_no]
    by_cases c : i = (W.filter (fun t => decide (t.1 ≤ m))).length - 1
    · subst c
      rw [ei] at ej
      rw [ej]
      omega
    · have := List.pairwise_iff_getElem.mp hf i _ hi hj (by omega)
      rw [ei, ej, lex3_iff] at this
      omega
theorem next_best {W : List T3} {m : Int} (hs : W.Pairwise fun a b => lex3 a b = true) : IsBest (fun t => decide (m ≤ t.1)) lt2' W (nextR W m) := by
  have hf := hs.filter (fun t => decide (m ≤ t.1))
  refine ⟨fun z t ht => ?_, fun u hu => ?_⟩
  · have e : W.filter (fun t => decide (m ≤ t.1)) = [] := List.head?_eq_none_iff.mp z
    refine Bool.eq_false_iff.mpr fun c => ?_
    have : t ∈ W.filter (fun t => decide (m ≤ t.1)) := List.mem_filter.mpr ⟨ht, c⟩
    rw [e] at this
    cases this
  · have hu : (W.filter (fun t => decide (m ≤ t.1))).head? = some u := hu
    have hm := List.mem_of_head? hu
    refine ⟨(List.mem_filter.mp hm).1, (List.mem_filter.mp hm).2, fun t ht ft => ?_⟩
    have htm : t ∈ W.filter (fun t => decide (m ≤ t.1)) := List.mem_filter.mpr ⟨ht, ft⟩
    obtain ⟨i, hi, ei⟩ := List.getElem_of_mem htm
    rw [List.head?_eq_getElem?] at hu
    obtain ⟨hj, ej⟩ := List.getElem?_eq_some_iff.mp hu
    rw [lt2_no]
    by_cases c : i = 0
    · subst c
      rw [ei] at ej
      rw [ej]
      omega
    · have := List.pairwise_iff_getElem.mp hf 0 i hj hi (by omega)
      rw [ei, ej, lex3_iff] at this
      omega
def bestL (T : List T3) (m : Int) : Option T3 := T.foldl (betT (fun t => decide (t.1 ≤ m)) gt2) none
def bestN (T : List T3) (m : Int) : Option T3 := T.foldl (betT (fun t => decide (m ≤ t.1)) lt2') none
theorem bestL_is {T W : List T3} {m : Int} (hp : W.Perm T) (hn : (T.map (·.2.1)).Nodup) (hs : W.Pairwise fun a b => lex3 a b = true) : bestL T m = lastR W m :=
  best_same hp hn (fun t u h1 h2 => by rw [gt2_no] at h1 h2; omega) (best_fold (fun t => by rw [gt2_no]; omega) (fun t u v h1 h2 => by rw [gt2_no] at *; omega) (fun t u h => by
    rw [gt2_no]
    have : ¬ gt2 t u = false := by rw [h]; simp
    rw [gt2_no] at this
    omega) T) (last_best hs)
theorem bestN_is {T W : List T3} {m : Int} (hp : W.Perm T) (hn : (T.map (·.2.1)).Nodup) (hs : W.Pairwise fun a b => lex3 a b = true) : bestN T m = nextR W m :=
  best_same hp hn (fun t u h1 h2 => by rw [lt2_no] at h1 h2; omega) (best_fold (fun t => by rw [lt2_no]; omega) (fun t u v h1 h2 => by rw [lt2_no] at *; omega) (fun t u h => by
    rw [lt2_no]
    have : ¬ lt2' t u = false := by rw [h]; simp
    rw [lt2_no] at this
    omega) T) (next_best hs)
theorem bet_no {fit : T3 → Bool} {g : T3 → T3 → Bool} {f : Option T3} {t : T3} (h : ¬ fit t = true) : betT fit g f t = f := if_neg h
theorem bet_none {fit : T3 → Bool} {g : T3 → T3 → Bool} {t : T3} (h : fit t = true) : betT fit g none t = some t := if_pos h
theorem bet_some {fit : T3 → Bool} {g : T3 → T3 → Bool} {t u : T3} (h : fit t = true) : betT fit g (some u) t = if g t u = true then some t else some u := if_pos h
def spLLast (g : List T3 → Int → Option T3) : Sp := fun vs H Q _ => ∃ (a : Addr) (ys : List V) (T : List T3) (m : Int), vs = [.ref a, .int m] ∧ H a = some (.lst ys) ∧ TrAt H ys T ∧ ∀ v H', Same H H' → RowV H' v (g T m) → Q v H'
section
variable {P : Program} {w : World} {K : PySem.W.Frag} {mg : Str → Option Value} {base : Heap} {C : TC} {CW : Addr}
abbrev s_l_last : Stmt := topS 72
theorem sc_l_last : FnScope ["rows", "moment", "found", "row"] ["rows", "moment"] (defScope s_l_last) := ⟨rfl, rfl, rfl, by decide +kernel, rfl, by decide +kernel, by decide +kernel⟩
theorem ok_llast {f : Addr} {fd : FuncData} (F : Fun K "_law_last" "_law_last" s_l_last f fd) (B : Blt mg) : FnOk P w K mg base CX0 1 f fd ["rows", "moment"] (spLLast bestL) := by
  refine F.ok sc_l_last (fun vs H Q E h => ?_) (fun cdv A outer s H vs Q E hr h => ?_)
  · obtain ⟨a, ys, T, m, rfl, _⟩ := h
    rfl
  · obtain ⟨a, ys, T, m, rfl, ha, hT, q⟩ := h
    refine ⟨_, (pss_cons (ps_set (i := 2) sc_l_last.nd rfl (Or.inl rfl) pe_non)
    (pss_cons (ps_for PassesOwn.never rfl (pi_list (pv 0)) (pg_name (i := 3) sc_l_last.nd rfl (Or.inl rfl))
      (pss_one (ps_if (PW.pt (pw_and (pt_cmpR op_le (pe_ix ix_tup (pv 3) pe_int (fun _ _ => rfl)) (pv 1) (nomark _)) (pw_and1 (PW.pt (pw_or (pt_cmpR op_isN (pv 2) pe_non (nomark _)) (pw_or1 (pt_cmpR (op_gtT hr.units0) (pe_tup (pa_cons (pe_ix ix_tup (pv 3) pe_int (fun _ _ => rfl)) (pa_cons (pe_ix ix_tup (pv 3) pe_int (fun _ _ => rfl)) pa_nil))) (pe_tup (pa_cons (pe_ix ix_tup (pv 2) pe_int (fun _ _ => rfl)) (pa_cons (pe_ix ix_tup (pv 2) pe_int (fun _ _ => rfl)) pa_nil))) (nomark _))))))))
        (pss_one (ps_set (i := 2) sc_l_last.nd rfl (Or.inl rfl) (pv 3)))
        pss_nil)))
    (pss_one (ps_ret (pv 2))))), ?_⟩
    refine ⟨_, rfl, a, rfl, ⟨_, SqL.of ha⟩, for_list (K := K) (a := a) (xs := ys) (fun i σ H1 => (∃ v b, σ = [some (.ref a), some (.int m), some v, b] ∧ RowV H1 v ((T.take i).foldl (betT (fun t => decide (t.1 ≤ m)) gt2) none)) ∧ Same H H1) ⟨⟨_, _, rfl, rfl⟩, Same.refl H⟩ (fun i σ H1 _ hv => SqL.of (hv.2 _ _ ha)) ?_ ?_⟩
    · rintro i y σ H1 hi ⟨⟨v, b, rfl, hv⟩, s1⟩
      have hil : i < T.length := by rw [← hT.1]; exact (List.getElem?_eq_some_iff.mp hi).1
      obtain ⟨t, ht⟩ : ∃ t, T[i]? = some t := ⟨_, List.getElem?_eq_getElem hil⟩
      obtain ⟨e, rfl, he⟩ := hT.2 i y t hi ht
      have he1 := s1 _ _ he
      have st : (T.take (i + 1)).foldl (betT (fun t => decide (t.1 ≤ m)) gt2) none = betT (fun t => decide (t.1 ≤ m)) gt2 ((T.take i).foldl (betT (fun t => decide (t.1 ≤ m)) gt2) none) t := by
        rw [list_take ht, List.foldl_append]
        rfl
      generalize (T.take i).foldl (betT (fun t => decide (t.1 ≤ m)) gt2) none = f at hv st
      refine ⟨_, rfl, _, _, _, _, rfl, rfl, SqT.of he1, rfl, _, rfl, _, _, rfl, rfl, _, rfl, ?_⟩
      refine ite2 (fun c1 => ?_) (fun c1 => ?_)
      · refine ⟨_, rfl, rfl, _, rfl, ?_⟩
        cases f with
        | none =>
          rw [bet_none c1] at st
          have hv : v = .non := hv
          subst hv
          refine ite2 (fun _ => ?_) (fun c => absurd rfl c)
          exact ⟨_, rfl, ⟨_, _, rfl, by rw [st]; exact ⟨e, rfl, he1⟩⟩, s1⟩
        | some u =>
          obtain ⟨e2, rfl, he2⟩ := hv
          refine ite2 (fun c => absurd (of_decide_eq_true c) (fun z => nomatch z)) (fun _ => ?_)
          refine ⟨_, rfl, _, _, _, _, rfl, rfl, SqT.of he1, rfl, _, rfl, _, _, _, _, rfl, rfl, SqT.of he1, rfl, (by show 2 ≤ sizeLine; decide), fun p hp => ?_⟩
          have s2 : Same H1 (upd H1 p (.tup [.int t.1, .int t.2.1])) := sameAt (Same.refl H1) hp
          have he3 := s2 _ _ he2
          refine ⟨_, rfl, _, _, _, _, rfl, rfl, SqT.of he3, rfl, _, rfl, _, _, _, _, rfl, rfl, SqT.of he3, rfl, (by show 2 ≤ sizeLine; decide), fun p2 hp2 => ?_⟩
          have s3 : Same (upd H1 p (.tup [.int t.1, .int t.2.1])) (upd (upd H1 p (.tup [.int t.1, .int t.2.1])) p2 (.tup [.int u.1, .int u.2.1])) := sameAt (Same.refl _) hp2
          have s13 := s1.trans (s2.trans s3)
          refine ⟨p, p2, _, _, _, _, rfl, rfl, SqT.of (s3 _ _ upd_same), SqT.of upd_same, _, rfl, ?_⟩
          rw [bet_some c1] at st
          refine ite2 (fun c2 => ?_) (fun c2 => ?_)
          · rw [if_pos (show gt2 t u = true from c2)] at st
            exact ⟨_, rfl, ⟨_, _, rfl, by rw [st]; exact ⟨e, rfl, s3 _ _ (s2 _ _ he1)⟩⟩, s13⟩
          · rw [if_neg (show ¬ gt2 t u = true from c2)] at st
            exact ⟨⟨_, _, rfl, by rw [st]; exact ⟨e2, rfl, s3 _ _ he3⟩⟩, s13⟩
      · rw [bet_no c1] at st
        exact ⟨⟨_, _, rfl, by rw [st]; exact hv⟩, s1⟩
    · rintro σ H1 ⟨⟨v, b, rfl, hv⟩, s1⟩
      rw [hT.1, List.take_length] at hv
      exact ⟨_, rfl, q v H1 s1 hv⟩
end
end Ash

set_option Elab.async false
set_option linter.all false
set_option maxRecDepth 100000
set_option maxHeartbeats 4000000
namespace Ash
open PySem PySem.Spec PyProof.Rows L2 SrtT
open C8 (pss_cut)
theorem perm_isum {xs ys : List Int} (h : xs.Perm ys) : xs.sum = ys.sum := by
  induction h with
  | nil => rfl
  | cons x _ ih => simp [ih]
  | swap x y l => simp; omega
  | trans _ _ ih1 ih2 => rw [ih1, ih2]
/-- amounts between -/
def amB (rs : List T3) (lo hi : Int) : List Int := (betweenR rs lo hi).map (·.2.2)
theorem amB_perm {W T : List T3} (h : W.Perm T) (lo hi : Int) : (betweenR W lo hi).length = (amB T lo hi).length ∧ ((betweenR W lo hi).map (·.2.2)).sum = (amB T lo hi).sum := by
  have p : (betweenR W lo hi).Perm (betweenR T lo hi) := h.filter _
  exact ⟨by rw [amB, List.length_map]; exact p.length_eq, perm_isum (p.map _)⟩
theorem betw_add {a b c : Int} (h1 : a ≤ b) (h2 : b ≤ c) : ∀ W : List T3, ((betweenR W a c).length = (betweenR W a b).length + (betweenR W b c).length) ∧ ((betweenR W a c).map (·.2.2)).sum = ((betweenR W a b).map (·.2.2)).sum + ((betweenR W b c).map (·.2.2)).sum
  | [] => ⟨rfl, rfl⟩
  | t :: r => by
    obtain ⟨i1, i2⟩ := betw_add h1 h2 r
    unfold betweenR at *
    simp only [List.filter_cons]
    have z : ∀ {p : Prop} [Decidable p], p → decide p = true := fun h => decide_eq_true h
    have zn : ∀ {p : Prop} [Decidable p], ¬ p → decide p = false := fun h => decide_eq_false h
    by_cases c1 : a < t.1 ∧ t.1 ≤ b
    · have e1 := z c1
      have e2 : decide (b < t.1 ∧ t.1 ≤ c) = false := zn (by omega)
      have e3 : decide (a < t.1 ∧ t.1 ≤ c) = true := z (by omega)
      simp only [e1, e2, e3, if_true, Bool.false_eq_true, if_false, List.length_cons, List.map_cons, List.sum_cons, i1, i2]
      omega
    · have e1 := zn c1
      by_cases c2 : b < t.1 ∧ t.1 ≤ c
      · have e2 := z c2
        have e3 : decide (a < t.1 ∧ t.1 ≤ c) = true := z (by omega)
        simp only [e1, e2, e3, if_true, Bool.false_eq_true, if_false, List.length_cons, List.map_cons, List.sum_cons, i1, i2]
        omega
      · have e2 := zn c2
        have e3 : decide (a < t.1 ∧ t.1 ≤ c) = false := zn (by omega)
        simp only [e1, e2, e3, Bool.false_eq_true, if_false, i1, i2]
        exact ⟨trivial, trivial⟩
theorem betw_no {a b : Int} (h : b ≤ a) (W : List T3) : betweenR W a b = [] := by
  unfold betweenR
  rw [List.filter_eq_nil_iff]
  intro t _
  simp
  omega
def spBetw : Sp := fun vs H Q _ => ∃ (a : Addr) (ys : List V) (T : List T3) (lo hi : Int), vs = [.ref a, .int lo, .int hi] ∧ H a = some (.lst ys) ∧ TrAt H ys T ∧ T.length ≤ 400 ∧ ∀ p H', Same H H' → H' p = some (.lst ((amB T lo hi).map V.int)) → Q (.ref p) H'
def spLAmts (C : TC) (CW : Addr) : Sp := fun vs H Q _ => ∃ (l tl ta tb wd : Addr) (z : Str) (ys : List V) (T : List T3) (t u : Tm) (W : Tr) (now : Int), vs = [.str z, .ref l, .ref tl, .ref wd, .int now] ∧ IsNm z ∧ H l = some (.lst ys) ∧ TrAt H ys T ∧ T.length ≤ 400 ∧ (W z).Perm T ∧ (T.map (·.2.1)).Nodup ∧ ((W z).Pairwise fun a b => lex3 a b = true) ∧
  H tl = some (.lst [.ref ta, .ref tb]) ∧ TmAt C H ta t ∧ TmAt C H tb u ∧ t.NmS ∧ u.NmS ∧ t.Fit ∧ u.Fit ∧ WAt CW H wd W ∧ ∀ H', Same H H' → Q (.bl true) H'
def spLAdded (C : TC) (CW : Addr) : Sp := fun vs H Q _ => ∃ (wd ml : Addr) (z : Str) (m1 m2 m3 : Int) (W : Tr) (now : Int), vs = [.str z, .ref wd, .int now, .ref ml] ∧ IsNm z ∧ H ml = some (.lst [.int m1, .int m2, .int m3]) ∧ WAt CW H wd W ∧ ∀ H', Same H H' → Q (.bl true) H'
section
variable {P : Program} {w : World} {K : PySem.W.Frag} {mg : Str → Option Value} {base : Heap} {C : TC} {CW : Addr} {A0 : AC}
abbrev s_l_between : Stmt := topS 76
theorem sc_l_between : FnScope ["rows", "low", "high", "row"] ["rows", "low", "high"] (defScope s_l_between) := ⟨rfl, rfl, rfl, by decide +kernel, rfl, by decide +kernel, by decide +kernel⟩
theorem ok_lbetw {f : Addr} {fd : FuncData} (F : Fun K "_law_between" "_law_between" s_l_between f fd) (B : Blt mg) : FnOk P w K mg base CX0 1 f fd ["rows", "low", "high"] spBetw := by
  refine F.ok sc_l_between (fun vs H Q E h => ?_) (fun cdv A outer s H vs Q E hr h => ?_)
  · obtain ⟨a, ys, T, lo, hi, rfl, _⟩ := h
    rfl
  · obtain ⟨a, ys, T, lo, hi, rfl, ha, hT, hl, q⟩ := h
    refine ⟨_, (pss_one (ps_ret (pe_lc (own := [("row", 3)]) (g := gName 3) (by rfl) sc_l_between.nd (pi_list (pv 0)) (blkOk_by (own := [("row", 3)]) (N := ["rows", "low", "high", "row"]) (sc := defScope s_l_between) (by decide +kernel)) (fun _ _ _ _ _ => (pg_name (i := 3) sc_l_between.nd rfl (Or.inl rfl))) (fun _ _ _ _ _ => pts_one (pt_chain op_lt op_le (pv 1) (pe_ix (show IxR _ (rIxT K) from ix_tup) (pv 3) pe_int (fun _ _ => rfl)) (pv 2))) (fun _ _ _ _ _ => (pe_ix (show IxR _ (rIxT K) from ix_tup) (pv 3) pe_int (fun _ _ => rfl)))))), ?_⟩
    refine ⟨_, rfl, a, rfl, ⟨_, SqL.of ha⟩, fun D hD => lc_it (walk_list (xs := ys)) (fun i H5 => H5 D = some (.lst ((amB (T.take i) lo hi).map V.int)) ∧ Same H H5) ⟨upd_same, sameAt (Same.refl H) hD⟩ (fun i H5 _ hv => SqL.of (hv.2 _ _ ha)) ?_ ?_⟩
    · rintro i x H5 H6 hi' ⟨hD5, s5⟩ ⟨rfl, hx⟩
      have hi2 : i < T.length := by rw [← hT.1]; exact hi'
      obtain ⟨t3, ht⟩ : ∃ t3, T[i]? = some t3 := ⟨_, List.getElem?_eq_getElem hi2⟩
      obtain ⟨e, rfl, he⟩ := hT.2 i x t3 hx ht
      have he1 := s5 _ _ he
      have lz : (amB (T.take i) lo hi).length ≤ 400 := by
        rw [amB, List.length_map]
        refine Nat.le_trans (List.length_filter_le _ _) ?_
        rw [List.length_take]
        omega
      have st : amB (T.take (i + 1)) lo hi = amB (T.take i) lo hi ++ (if lo < t3.1 ∧ t3.1 ≤ hi then [t3.2.2] else []) := by
        unfold amB betweenR
        rw [list_take ht, List.filter_append, List.filter_cons, List.map_append]
        by_cases c : lo < t3.1 ∧ t3.1 ≤ hi
        · rw [if_pos (decide_eq_true c), if_pos c]; rfl
        · rw [if_neg (fun z => c (of_decide_eq_true z)), if_neg c]; rfl
      refine ⟨rfl, _, rfl, _, rfl, _, _, _, _, rfl, rfl, SqT.of he1, rfl, _, _, rfl, rfl, _, rfl, ?_⟩
      rw [st]
      refine ite2 (fun ca => ?_) (fun ca => ?_)
      · have ca : lo < t3.1 := of_decide_eq_true ca
        refine ⟨_, rfl, _, _, rfl, rfl, _, rfl, ?_⟩
        refine ite2 (fun cb => ?_) (fun cb => ?_)
        · rw [if_pos ⟨ca, of_decide_eq_true cb⟩, List.map_append]
          exact ⟨_, rfl, _, _, _, _, rfl, rfl, SqT.of he1, rfl, _, hD5, small1000 (by rw [List.length_map]; omega), upd_same, sameAt s5 hD⟩
        · rw [if_neg (fun z => cb (decide_eq_true z.2)), List.append_nil]
          exact ⟨hD5, s5⟩
      · rw [if_neg (fun z => ca (decide_eq_true z.1)), List.append_nil]
        exact ⟨_, rfl, iteF ⟨hD5, s5⟩⟩
    · rintro H5 ⟨hD5, s5⟩
      rw [hT.1, List.take_length] at hD5
      exact q D H5 s5 hD5
structure LA0 (P : Program) (w : World) (K : PySem.W.Frag) (mg : Str → Option Value) (base : Heap) (A0 : AC) (C : TC) (CW : Addr) : Prop extends U2 P w K mg base A0 C CW where
  value : Cal P w K mg base CX0 "value" 31 ["question", "world", "now"] (spValue A0 C CW)
  law_same : Cal P w K mg base CX0 "_law_same" 1 ["told", "due"] spSame
  law_last : Cal P w K mg base CX0 "_law_last" 1 ["rows", "moment"] (spLLast bestL)
  law_between : Cal P w K mg base CX0 "_law_between" 1 ["rows", "low", "high"] spBetw
  Number : Mak P w K mg base CX0 "Number" A0.number 3 ["self", "stream", "term"] (spInitN A0 C)
  Count : Mak P w K mg base CX0 "Count" A0.count 3 ["self", "stream", "first", "last"] (spInitC A0 C A0.count Am.count)
  Total : Mak P w K mg base CX0 "Total" A0.total 3 ["self", "stream", "first", "last"] (spInitC A0 C A0.total Am.total)
  Gap : Mak P w K mg base CX0 "Gap" A0.gap 3 ["self", "first", "last"] (spInitG A0 C)
  Now : Mak P w K mg base CX0 "Now" C.now 2 ["self"] (spInit0 C)
abbrev s_l_amounts : Stmt := topS 77
theorem sc_l_amounts : FnScope ["stream", "rows", "terms", "world", "now", "low", "high", "number", "row", "dues", "between"] ["stream", "rows", "terms", "world", "now"] (defScope s_l_amounts) := ⟨rfl, rfl, rfl, by decide +kernel, rfl, by decide +kernel, by decide +kernel⟩
theorem ok_lamts {f : Addr} {fd : FuncData} (F : Fun K "_law_amounts" "_law_amounts" s_l_amounts f fd) (B : Blt mg) (G : LA0 P w K mg base A0 C CW) : FnOk P w K mg base CX0 33 f fd ["stream", "rows", "terms", "world", "now"] (spLAmts C CW) := by
  refine F.ok sc_l_amounts (fun vs H Q E h => ?_) (fun cdv A outer s H vs Q E hr h => ?_)
  · obtain ⟨l, tl, ta, tb, wd, z, ys, T, t, u, W, now, rfl, _⟩ := h
    rfl
  · obtain ⟨l, tl, ta, tb, wd, z, ys, T, t, u, W, now, rfl, hz, hl, hT, hT4, hP, hnd, hs, htl, hA, hB, hN, hN2, hF, hF2, hW, q⟩ := h
    refine ⟨_, (pss_cons (ps_set (i := 5) sc_l_amounts.nd rfl (Or.inl rfl) (pe_cal G.value (hr.mono (by decide)) pass0 (pa_cons (pe_ix ix_list (pv 2) pe_int (fun _ _ => rfl)) (pa_cons (pv 3) (pa_cons (pv 4) pa_nil)))))
    (pss_cons (ps_set (i := 6) sc_l_amounts.nd rfl (Or.inl rfl) (pe_cal G.value (hr.mono (by decide)) pass0 (pa_cons (pe_ix ix_list (pv 2) pe_int (fun _ _ => rfl)) (pa_cons (pv 3) (pa_cons (pv 4) pa_nil)))))
    (pss_cons (ps_set (i := 7) sc_l_amounts.nd rfl (Or.inl rfl) pe_non)
    (pss_cut (ps_if (pt_cmpR op_notN (pv 5) pe_non (nomark _))
      (pss_cons (ps_set (i := 8) sc_l_amounts.nd rfl (Or.inl rfl) (pe_cal G.law_last (hr.mono (by decide)) pass0 (pa_cons (pv 1) (pa_cons (pv 5) pa_nil))))
      (pss_one (ps_if (pt_cmpR op_notN (pv 8) pe_non (nomark _))
        (pss_one (ps_set (i := 7) sc_l_amounts.nd rfl (Or.inl rfl) (pe_ix ix_tup (pv 8) pe_int (fun _ _ => rfl))))
        pss_nil)))
      pss_nil)
    (pss_cons (ps_set (i := 9) sc_l_amounts.nd rfl (Or.inl rfl) (pe_lst (pa_cons pe_non (pa_cons pe_non (pa_cons pe_non pa_nil)))))
    (pss_cut (ps_if (PW.pt (pw_and (pt_cmpR op_notN (pv 5) pe_non (nomark _)) (pw_and1 (pt_cmpR op_notN (pv 6) pe_non (nomark _)))))
      (pss_cons (ps_set (i := 10) sc_l_amounts.nd rfl (Or.inl rfl) (pe_cal G.law_between (hr.mono (by decide)) pass0 (pa_cons (pv 1) (pa_cons (pv 5) (pa_cons (pv 6) pa_nil)))))
      (pss_one (ps_set (i := 9) sc_l_amounts.nd rfl (Or.inl rfl) (pe_lst (pa_cons (pe_callB call_len (by rfl) B.len (by decide +kernel) (pa_cons (pv 10) pa_nil)) (pa_cons (pe_callB (cr_sum rfl) (by rfl) B.sum (by decide +kernel) (pa_cons (pv 10) pa_nil)) (pa_cons (pe_op op_sub (pv 6) (pv 5)) pa_nil)))))))
      pss_nil)
    (pss_cons (ps_if (pt_not (pt_val (pe_cal G.law_same (hr.mono (by decide)) pass0 (pa_cons (pe_cal G.value (hr.mono (by decide)) pass0 (pa_cons (pe_mak G.Number (hr.mono (by decide)) pass0 (pa_cons (pv 0) (pa_cons (pe_ix ix_list (pv 2) pe_int (fun _ _ => rfl)) pa_nil))) (pa_cons (pv 3) (pa_cons (pv 4) pa_nil)))) (pa_cons (pv 7) pa_nil)))))
      (pss_one (ps_ret pe_bl))
      pss_nil)
    (pss_cons (ps_if (pt_not (pt_val (pe_cal G.law_same (hr.mono (by decide)) pass0 (pa_cons (pe_cal G.value (hr.mono (by decide)) pass0 (pa_cons (pe_mak G.Count (hr.mono (by decide)) pass0 (pa_cons (pv 0) (pa_cons (pe_ix ix_list (pv 2) pe_int (fun _ _ => rfl)) (pa_cons (pe_ix ix_list (pv 2) pe_int (fun _ _ => rfl)) pa_nil)))) (pa_cons (pv 3) (pa_cons (pv 4) pa_nil)))) (pa_cons (pe_ix ix_list (pv 9) pe_int (fun _ _ => rfl)) pa_nil)))))
      (pss_one (ps_ret pe_bl))
      pss_nil)
    (pss_cons (ps_if (pt_not (pt_val (pe_cal G.law_same (hr.mono (by decide)) pass0 (pa_cons (pe_cal G.value (hr.mono (by decide)) pass0 (pa_cons (pe_mak G.Total (hr.mono (by decide)) pass0 (pa_cons (pv 0) (pa_cons (pe_ix ix_list (pv 2) pe_int (fun _ _ => rfl)) (pa_cons (pe_ix ix_list (pv 2) pe_int (fun _ _ => rfl)) pa_nil)))) (pa_cons (pv 3) (pa_cons (pv 4) pa_nil)))) (pa_cons (pe_ix ix_list (pv 9) pe_int (fun _ _ => rfl)) pa_nil)))))
      (pss_one (ps_ret pe_bl))
      pss_nil)
    (pss_one (ps_ret (pe_cal G.law_same (hr.mono (by decide)) pass0 (pa_cons (pe_cal G.value (hr.mono (by decide)) pass0 (pa_cons (pe_mak G.Gap (hr.mono (by decide)) pass0 (pa_cons (pe_ix ix_list (pv 2) pe_int (fun _ _ => rfl)) (pa_cons (pe_ix ix_list (pv 2) pe_int (fun _ _ => rfl)) pa_nil))) (pa_cons (pv 3) (pa_cons (pv 4) pa_nil)))) (pa_cons (pe_ix ix_list (pv 9) pe_int (fun _ _ => rfl)) pa_nil)))))))))))))), ?_⟩
    refine ⟨_, rfl, _, _, _, _, rfl, rfl, SqL.of htl, rfl, _, rfl, _, rfl, ta, wd, .tm t, W, now, rfl, hA, hW, hN, hF, fun H1 s1 => ?_⟩
    have htl1 := s1 _ _ htl
    refine ⟨_, rfl, _, _, _, _, rfl, rfl, SqL.of htl1, rfl, _, rfl, _, rfl, tb, wd, .tm u, W, now, rfl, hB.same s1, hW.same s1, hN2, hF2, fun H2 s2 => ?_⟩
    have s12 := s1.trans s2
    have hl2 := s12 _ _ hl
    have hT2 := hT.tk fun t xs h => s12 _ _ h
    obtain ⟨r, hrr⟩ : ∃ r, ev W now t = r := ⟨_, rfl⟩
    obtain ⟨x, hxx⟩ : ∃ x, ev W now u = x := ⟨_, rfl⟩
    obtain ⟨r1, r2⟩ := r
    obtain ⟨x1, x2⟩ := x
    have e1 : (evQ W now (.tm t)).1 = r1 := by show (ev W now t).1 = r1; rw [hrr]
    have e2 : (evQ W now (.tm u)).1 = x1 := by show (ev W now u).1 = x1; rw [hxx]
    rw [e1, e2]
    have pm := fun lo hi => amB_perm hP lo hi
    obtain ⟨d0, D0⟩ : ∃ d0, (evA W now (.number z t)).1 = d0 := ⟨_, rfl⟩
    obtain ⟨d1, D1⟩ : ∃ d1, (evA W now (.count z t u)).1 = d1 := ⟨_, rfl⟩
    obtain ⟨d2, D2⟩ : ∃ d2, (evA W now (.total z t u)).1 = d2 := ⟨_, rfl⟩
    obtain ⟨d3, D3⟩ : ∃ d3, (evA W now (.gap t u)).1 = d3 := ⟨_, rfl⟩
    have E1 : d1 = (tellR (r1, r2) (x1, x2) (fun m k => (some ((betweenR (W z) m k).length : Int), (betweenR (W z) m k).map (·.2.1)))).1 := by rw [← D1, ← hrr, ← hxx]; rfl
    have E2 : d2 = (tellR (r1, r2) (x1, x2) (fun m k => (some ((betweenR (W z) m k).map (·.2.2)).sum, (betweenR (W z) m k).map (·.2.1)))).1 := by rw [← D2, ← hrr, ← hxx]; rfl
    have E3 : d3 = (tellR (r1, r2) (x1, x2) (fun m k => (some (k - m), []))).1 := by rw [← D3, ← hrr, ← hxx]; rfl
    have E0 : d0 = (lookA (r1, r2) (lastR (W z))).1 := by rw [← D0, ← hrr]; rfl
    refine ⟨fun σ H3 => (∃ x8, σ = [some (.str z), some (.ref l), some (.ref tl), some (.ref wd), some (.int now), some (oV r1), some (oV x1), some (oV d0), x8, none, none]) ∧ Same H H3, ?_, ?_⟩
    · refine ⟨_, rfl, rfl, _, rfl, ?_⟩
      cases r1 with
      | none =>
        refine ite2 (fun c => absurd (show (!decide (V.non = V.non)) = true from c) (by decide)) (fun _ => ?_)
        exact ⟨⟨_, by rw [E0]; rfl⟩, s12⟩
      | some m =>
        refine ite2 (fun _ => ?_) (fun c => absurd rfl c)
        refine ⟨_, rfl, _, rfl, l, ys, T, m, rfl, hl2, hT2, fun v H3 s3 hv => ?_⟩
        rw [bestL_is hP hnd hs] at hv
        refine ⟨_, rfl, rfl, _, rfl, ?_⟩
        have E0 : d0 = (match lastR (W z) m with | none => none | some t => some t.2.2) := by
          rw [E0]
          show (match lastR (W z) m with | none => (none, r2) | some t => (some t.2.2, r2 ++ [t.2.1])).1 = _
          cases lastR (W z) m <;> rfl
        cases hrow : lastR (W z) m with
        | none =>
          rw [hrow] at hv E0
          have hv : v = .non := hv
          subst hv
          refine ite2 (fun c => absurd (show (!decide (V.non = V.non)) = true from c) (by decide)) (fun _ => ?_)
          exact ⟨⟨_, by rw [E0]; rfl⟩, s12.trans s3⟩
        | some t3 =>
          rw [hrow] at hv E0
          obtain ⟨e, rfl, he⟩ := hv
          refine ite2 (fun _ => ?_) (fun c => absurd rfl c)
          exact ⟨_, rfl, _, _, _, _, rfl, rfl, SqT.of he, rfl, ⟨_, by rw [E0]; rfl⟩, s12.trans s3⟩
    rintro σ H3 ⟨⟨x8, rfl⟩, s3⟩
    refine ⟨(by show 3 ≤ sizeLine; decide), fun dl0 hdl0 => ?_⟩
    have s4 : Same H (upd H3 dl0 (.lst [.non, .non, .non])) := s3.trans (sameAt (Same.refl _) hdl0)
    have hd4 : (upd H3 dl0 (.lst [.non, .non, .non])) dl0 = some (.lst [.non, .non, .non]) := upd_same
    generalize (upd H3 dl0 (.lst [.non, .non, .non])) = H4 at s4 hd4 ⊢
    refine ⟨fun σ H5 => (∃ x10 dl, σ = [some (.str z), some (.ref l), some (.ref tl), some (.ref wd), some (.int now), some (oV r1), some (oV x1), some (oV d0), x8, some (.ref dl), x10] ∧ H5 dl = some (.lst [oV d1, oV d2, oV d3])) ∧ Same H H5, ?_, ?_⟩
    · refine ⟨_, rfl, rfl, _, rfl, ?_⟩
      cases r1 with
      | none =>
        refine ite2 (fun c => absurd (show (!decide (V.non = V.non)) = true from c) (by decide)) (fun _ => ?_)
        have E1 : d1 = none := E1
        have E2 : d2 = none := E2
        have E3 : d3 = none := E3
        rw [E1, E2, E3]
        exact ⟨⟨_, dl0, rfl, hd4⟩, s4⟩
      | some m =>
        refine ite2 (fun _ => ?_) (fun c => absurd rfl c)
        refine ⟨_, rfl, rfl, _, rfl, ?_⟩
        cases x1 with
        | none =>
          refine ite2 (fun c => absurd (show (!decide (V.non = V.non)) = true from c) (by decide)) (fun _ => ?_)
          have E1 : d1 = none := E1
          have E2 : d2 = none := E2
          have E3 : d3 = none := E3
          rw [E1, E2, E3]
          exact ⟨⟨_, dl0, rfl, hd4⟩, s4⟩
        | some k =>
          refine ite2 (fun _ => ?_) (fun c => absurd rfl c)
          refine ⟨_, rfl, _, rfl, _, rfl, l, ys, T, m, k, rfl, s4 _ _ hl, hT.tk (fun t xs h => s4 _ _ h), hT4, fun pb H5 s5 hpb => ?_⟩
          refine ⟨_, rfl, _, _, rfl, .inl ⟨_, SqL.of hpb, rfl⟩, _, rfl, pb, _, rfl, SqL.of hpb, _, rfl, _, rfl, _, _, rfl, rfl, (by show 3 ≤ sizeLine; decide), fun dl hdl => ?_⟩
          have s6 : Same H (upd H5 dl (.lst [.int (((amB T m k).map V.int).length : Int), .int (amB T m k).sum, .int (k - m)])) := (s4.trans s5).trans (sameAt (Same.refl _) hdl)
          have E1 : d1 = some (((amB T m k).map V.int).length : Int) := by rw [E1, List.length_map, ← (pm m k).1]; rfl
          have E2 : d2 = some (amB T m k).sum := by rw [E2, ← (pm m k).2]; rfl
          have E3 : d3 = some (k - m) := E3
          rw [E1, E2, E3]
          exact ⟨⟨_, dl, rfl, upd_same⟩, s6⟩
    rintro σ H5 ⟨⟨x10, dl, rfl, hdl⟩, s5⟩
    have htl5 := s5 _ _ htl
    have hA5 := hA.same s5
    have hB5 := hB.same s5
    have hW5 := hW.same s5
    -- Number
    refine ⟨_, rfl, _, rfl, _, _, _, _, rfl, rfl, SqL.of htl5, rfl, fun y dy hy hdy hny => ⟨y, dy, ta, z, t, rfl, upd_same, hz, hA5.same (sameAt (sameAt (Same.refl H5) hdy) hy), hF, fun H6 hm6 hK6 => ⟨rfl, ?_⟩⟩⟩
    have s6 := keep_make hK6 hy hdy
    refine ⟨_, rfl, _, rfl, y, wd, .am (.number z t), W, now, rfl, hm6, hW5.same s6, ⟨hz, hN⟩, hF, fun H7 s7 => ⟨_, rfl, _, _, rfl, ?_⟩⟩
    rw [show (evQ W now (.am (.number z t))).1 = d0 from D0, show decide (d0 = d0) = true from decide_eq_true rfl]
    refine ⟨_, rfl, iteF ?_⟩
    have s57 := s6.trans s7
    have htl7 := s57 _ _ htl5
    -- Count
    refine ⟨_, rfl, _, rfl, _, _, _, _, rfl, rfl, SqL.of htl7, rfl, _, rfl, _, _, _, _, rfl, rfl, SqL.of htl7, rfl, fun y dy hy hdy hny => ⟨y, dy, ta, tb, z, t, u, rfl, upd_same, hz, (hA5.same s57).same (sameAt (sameAt (Same.refl H7) hdy) hy), (hB5.same s57).same (sameAt (sameAt (Same.refl H7) hdy) hy), hF, hF2, fun H8 hm8 hK8 => ⟨rfl, ?_⟩⟩⟩
    have s58 := s57.trans (keep_make hK8 hy hdy)
    refine ⟨_, rfl, _, rfl, y, wd, .am (.count z t u), W, now, rfl, hm8, hW5.same s58, ⟨hz, hN, hN2⟩, ⟨hF, hF2⟩, fun H9 s9 => ?_⟩
    have s59 := s58.trans s9
    have hdl9 := s59 _ _ hdl
    refine ⟨_, rfl, _, _, _, _, rfl, rfl, SqL.of hdl9, rfl, _, _, rfl, ?_⟩
    rw [show (evQ W now (.am (.count z t u))).1 = d1 from D1, show decide (d1 = d1) = true from decide_eq_true rfl]
    refine ⟨_, rfl, iteF ?_⟩
    have htl9 := s59 _ _ htl5
    -- Total
    refine ⟨_, rfl, _, rfl, _, _, _, _, rfl, rfl, SqL.of htl9, rfl, _, rfl, _, _, _, _, rfl, rfl, SqL.of htl9, rfl, fun y dy hy hdy hny => ⟨y, dy, ta, tb, z, t, u, rfl, upd_same, hz, (hA5.same s59).same (sameAt (sameAt (Same.refl H9) hdy) hy), (hB5.same s59).same (sameAt (sameAt (Same.refl H9) hdy) hy), hF, hF2, fun Ha hma hKa => ⟨rfl, ?_⟩⟩⟩
    have s5a := s59.trans (keep_make hKa hy hdy)
    refine ⟨_, rfl, _, rfl, y, wd, .am (.total z t u), W, now, rfl, hma, hW5.same s5a, ⟨hz, hN, hN2⟩, ⟨hF, hF2⟩, fun Hb sb => ?_⟩
    have s5b := s5a.trans sb
    have hdlb := s5b _ _ hdl
    refine ⟨_, rfl, _, _, _, _, rfl, rfl, SqL.of hdlb, rfl, _, _, rfl, ?_⟩
    rw [show (evQ W now (.am (.total z t u))).1 = d2 from D2, show decide (d2 = d2) = true from decide_eq_true rfl]
    refine ⟨_, rfl, iteF ?_⟩
    have htlb := s5b _ _ htl5
    -- Gap
    refine ⟨_, rfl, _, _, _, _, rfl, rfl, SqL.of htlb, rfl, _, rfl, _, _, _, _, rfl, rfl, SqL.of htlb, rfl, fun y dy hy hdy hny => ⟨y, dy, ta, tb, t, u, rfl, upd_same, (hA5.same s5b).same (sameAt (sameAt (Same.refl Hb) hdy) hy), (hB5.same s5b).same (sameAt (sameAt (Same.refl Hb) hdy) hy), hF, hF2, fun Hc hmc hKc => ⟨rfl, ?_⟩⟩⟩
    have s5c := s5b.trans (keep_make hKc hy hdy)
    refine ⟨_, rfl, _, rfl, y, wd, .am (.gap t u), W, now, rfl, hmc, hW5.same s5c, ⟨hN, hN2⟩, ⟨hF, hF2⟩, fun Hd sd => ?_⟩
    have s5d := s5c.trans sd
    have hdld := s5d _ _ hdl
    refine ⟨_, rfl, _, _, _, _, rfl, rfl, SqL.of hdld, rfl, _, _, rfl, ?_⟩
    rw [show (evQ W now (.am (.gap t u))).1 = d3 from D3, show decide (d3 = d3) = true from decide_eq_true rfl]
    exact q _ (s5.trans s5d)
abbrev s_l_added : Stmt := topS 78
theorem sc_l_added : FnScope ["stream", "world", "now", "moments", "ends", "terms", "counts", "totals", "moment", "k"] ["stream", "world", "now", "moments"] (defScope s_l_added) := ⟨rfl, rfl, rfl, by decide +kernel, rfl, by decide +kernel, by decide +kernel⟩
theorem ok_ladded {f fa : Addr} {fd fda : FuncData} (F : Fun K "_law_added" "_law_added" s_l_added f fd) (B : Blt mg) (G : LA0 P w K mg base A0 C CW) (O : OpI K C.Is .Add fa) (Fa : FnOk P w K mg base CX0 5 fa fda ["self", "other"] (spShifted C)) (ba : Binds K fda ["self", "other"] []) : FnOk P w K mg base CX0 33 f fd ["stream", "world", "now", "moments"] (spLAdded C CW) := by
  refine F.ok sc_l_added (fun vs H Q E h => ?_) (fun cdv A outer s H vs Q E hr h => ?_)
  · obtain ⟨wd, ml, z, m1, m2, m3, W, now, rfl, _⟩ := h
    rfl
  · obtain ⟨wd, ml, z, m1, m2, m3, W, now, rfl, hz, hml, hW, q⟩ := h
    refine ⟨_, (pss_cons (ps_set (i := 4) sc_l_added.nd rfl (Or.inl rfl) (pe_callB cr_sortedI (by rfl) B.sorted (by decide +kernel) (pa_cons (pe_lc (own := [("moment", 8)]) (g := gName 8) (tt := tYes) (by rfl) sc_l_added.nd (pi_list (pv 3)) (blkOk_by (own := [("moment", 8)]) (N := ["stream", "world", "now", "moments", "ends", "terms", "counts", "totals", "moment", "k"]) (sc := defScope s_l_added) (by decide +kernel)) (fun _ _ _ _ _ => (pg_name (i := 8) sc_l_added.nd rfl (Or.inl rfl))) (fun _ _ _ _ _ => pts_nil) (fun _ _ _ _ _ => (pe_callTy call_int1 (by rfl) B.int (by decide +kernel) (pa_cons (pv 8) pa_nil)))) pa_nil)))
    (pss_cons (ps_set (i := 5) sc_l_added.nd rfl (Or.inr rfl) (pe_lc (own := [("moment", 8)]) (g := gName 8) (tt := tYes) (by rfl) sc_l_added.nd (pi_list (pv 4)) (blkOk_by (own := [("moment", 8)]) (N := ["stream", "world", "now", "moments", "ends", "terms", "counts", "totals", "moment", "k"]) (sc := defScope s_l_added) (by decide +kernel)) (fun _ _ _ _ _ => (pg_name (i := 8) sc_l_added.nd rfl (Or.inl rfl))) (fun _ _ _ _ _ => pts_nil) (fun _ _ _ _ _ => (pe_op (op_int O Fa ba pass0 (hr.mono (by decide))) (pe_mak0 G.Now (hr.mono (by decide)) pass0) (pe_op op_sub (pv 8) (pv 2))))))
    (pss_cons (ps_setLc (i := 6) (own := [("k", 9)]) (g := gName 9) (tt := tYes) (by rfl) sc_l_added.nd rfl rfl (sw_true rfl rfl rfl (by decide +kernel)) (pi_range1 (by rfl) B.range (pa_cons pe_int pa_nil)) (blkOk_by (own := [("k", 9)]) (N := ["stream", "world", "now", "moments", "ends", "terms", "counts", "totals", "moment", "k"]) (sc := defScope s_l_added) (by decide +kernel)) (fun _ _ _ _ _ => (pg_name (i := 9) sc_l_added.nd rfl (Or.inl rfl))) (fun _ _ _ _ _ => pts_nil) (fun _ _ _ _ _ => (pe_cal G.value (hr.mono (by decide)) pass0 (pa_cons (pe_mak G.Count (hr.mono (by decide)) pass0 (pa_cons (pv 0) (pa_cons (pe_ix (show IxR _ (rIxL K) from ix_list) (pv 5) (pv 9) (fun _ _ => rfl)) (pa_cons (pe_ix (show IxR _ (rIxL K) from ix_list) (pv 5) (pe_op op_add (pv 9) pe_int) (fun _ _ => rfl)) pa_nil)))) (pa_cons (pv 1) (pa_cons (pv 2) pa_nil))))))
    (pss_cons (ps_setLc (i := 7) (own := [("k", 9)]) (g := gName 9) (tt := tYes) (by rfl) sc_l_added.nd rfl rfl (sw_true rfl rfl rfl (by decide +kernel)) (pi_range1 (by rfl) B.range (pa_cons pe_int pa_nil)) (blkOk_by (own := [("k", 9)]) (N := ["stream", "world", "now", "moments", "ends", "terms", "counts", "totals", "moment", "k"]) (sc := defScope s_l_added) (by decide +kernel)) (fun _ _ _ _ _ => (pg_name (i := 9) sc_l_added.nd rfl (Or.inl rfl))) (fun _ _ _ _ _ => pts_nil) (fun _ _ _ _ _ => (pe_cal G.value (hr.mono (by decide)) pass0 (pa_cons (pe_mak G.Total (hr.mono (by decide)) pass0 (pa_cons (pv 0) (pa_cons (pe_ix (show IxR _ (rIxL K) from ix_list) (pv 5) (pv 9) (fun _ _ => rfl)) (pa_cons (pe_ix (show IxR _ (rIxL K) from ix_list) (pv 5) (pe_op op_add (pv 9) pe_int) (fun _ _ => rfl)) pa_nil)))) (pa_cons (pv 1) (pa_cons (pv 2) pa_nil))))))
    (pss_cons (ps_if (pt_cmpR op_ne (pe_cal G.value (hr.mono (by decide)) pass0 (pa_cons (pe_mak G.Count (hr.mono (by decide)) pass0 (pa_cons (pv 0) (pa_cons (pe_ix ix_list (pv 5) pe_int (fun _ _ => rfl)) (pa_cons (pe_ix ix_list (pv 5) pe_int (fun _ _ => rfl)) pa_nil)))) (pa_cons (pv 1) (pa_cons (pv 2) pa_nil)))) (pe_op op_add (pe_ix ix_list (pv 6) pe_int (fun _ _ => rfl)) (pe_ix ix_list (pv 6) pe_int (fun _ _ => rfl))) (nomark _))
      (pss_one (ps_ret pe_bl))
      pss_nil)
    (pss_cons (ps_if (pt_cmpR op_ne (pe_cal G.value (hr.mono (by decide)) pass0 (pa_cons (pe_mak G.Total (hr.mono (by decide)) pass0 (pa_cons (pv 0) (pa_cons (pe_ix ix_list (pv 5) pe_int (fun _ _ => rfl)) (pa_cons (pe_ix ix_list (pv 5) pe_int (fun _ _ => rfl)) pa_nil)))) (pa_cons (pv 1) (pa_cons (pv 2) pa_nil)))) (pe_op op_add (pe_ix ix_list (pv 7) pe_int (fun _ _ => rfl)) (pe_ix ix_list (pv 7) pe_int (fun _ _ => rfl))) (nomark _))
      (pss_one (ps_ret pe_bl))
      pss_nil)
    (pss_one (ps_ret (pe_cmpR op_eq (pe_cal G.value (hr.mono (by decide)) pass0 (pa_cons (pe_mak G.Count (hr.mono (by decide)) pass0 (pa_cons (pv 0) (pa_cons (pe_ix ix_list (pv 5) pe_int (fun _ _ => rfl)) (pa_cons (pe_ix ix_list (pv 5) pe_int (fun _ _ => rfl)) pa_nil)))) (pa_cons (pv 1) (pa_cons (pv 2) pa_nil)))) pe_int (nomark _)))))))))), ?_⟩
    refine ⟨_, rfl, ml, rfl, ⟨_, SqL.of hml⟩, fun D hD => lc_it (walk_list (xs := [.int m1, .int m2, .int m3])) (fun i H5 => H5 D = some (.lst ((([m1, m2, m3] : List Int).take i).map V.int)) ∧ Same H H5) ⟨upd_same, sameAt (Same.refl H) hD⟩ (fun i H5 _ hv => SqL.of (hv.2 _ _ hml)) ?_ ?_⟩
    · rintro i x H5 H6 hi ⟨hD5, s5⟩ ⟨rfl, hx⟩
      have hi : i < 3 := hi
      obtain ⟨m, hm⟩ : ∃ m, ([m1, m2, m3] : List Int)[i]? = some m := ⟨_, List.getElem?_eq_getElem hi⟩
      have hx : (([m1, m2, m3] : List Int).map V.int)[i]? = some x := hx
      rw [List.getElem?_map, hm] at hx
      cases hx
      refine ⟨rfl, _, rfl, .inl ⟨m, rfl, _, hD5, ?_, ?_, sameAt s5 hD⟩⟩
      · rw [List.length_map, List.length_take]
        exact small1000 (by omega)
      · rw [upd_same, list_take hm, List.map_append]
        rfl
    rintro H5 ⟨hD5, s5⟩
    refine ⟨D, [m1, m2, m3], rfl, SqL.of hD5, fun ns p hperm hsort hp => ?_⟩
    obtain ⟨a1, a2, a3, rfl⟩ : ∃ x y z, ns = [x, y, z] := match ns, hperm.length_eq with | [x, y, z], _ => ⟨x, y, z, rfl⟩
    have s6 : Same H (upd H5 p (.lst ([a1, a2, a3].map V.int))) := s5.trans (sameAt (Same.refl _) hp)
    have hp6 : (upd H5 p (.lst ([a1, a2, a3].map V.int))) p = some (.lst ([a1, a2, a3].map V.int)) := upd_same
    generalize (upd H5 p (.lst ([a1, a2, a3].map V.int))) = H6 at s6 hp6 ⊢
    clear hD5 s5 hD hp
    let tN : Int → Tm := fun m => Tm.plus .now (m - now)
    have evN : ∀ m, ev W now (tN m) = (some m, []) := fun m => by
      show ev W now (Tm.plus .now (m - now)) = _
      rw [plus_ev]
      show (some (now + (m - now)), []) = ((some m, []) : Rs)
      rw [show now + (m - now) = m by omega]
    have nmN : ∀ m, (tN m).NmS := fun m => plus_nm trivial
    have ftN : ∀ m, (tN m).Fit := fun m => by
      obtain ⟨q1, q2, q3⟩ := plus_sz (t := .now) (n := m - now)
      exact ⟨Int.le_trans q1 (by decide), Int.le_trans q2 (by decide), Int.le_trans q3 (by decide)⟩
    have cN : ∀ a c, (evQ W now (.am (.count z (tN a) (tN c)))).1 = some ((betweenR (W z) a c).length : Int) := fun a c => by
      show (tellR (ev W now (tN a)) (ev W now (tN c)) _).1 = _
      rw [evN, evN]
      rfl
    have toN : ∀ a c, (evQ W now (.am (.total z (tN a) (tN c)))).1 = some ((betweenR (W z) a c).map (·.2.2)).sum := fun a c => by
      show (tellR (ev W now (tN a)) (ev W now (tN c)) _).1 = _
      rw [evN, evN]
      rfl
    refine ⟨_, rfl, p, rfl, ⟨_, SqL.of hp6⟩, fun D2 hD2 => lc_it (walk_list (xs := [a1, a2, a3].map V.int)) (fun i H7 => (∃ us : List Addr, H7 D2 = some (.lst (us.map V.ref)) ∧ us.length = i ∧ ∀ j a m, us[j]? = some a → ([a1, a2, a3] : List Int)[j]? = some m → TmAt C H7 a (tN m)) ∧ Same H6 H7) ⟨⟨[], upd_same, rfl, fun j a m h _ => by rw [List.getElem?_nil] at h; cases h⟩, sameAt (Same.refl H6) hD2⟩ (fun i H7 _ hv => SqL.of (hv.2 _ _ hp6)) ?_ ?_⟩
    · rintro i x H7 H8 hi ⟨⟨us, hD7, hul, hus⟩, s7⟩ ⟨rfl, hx⟩
      have hi : i < 3 := hi
      obtain ⟨m, hm⟩ : ∃ m, ([a1, a2, a3] : List Int)[i]? = some m := ⟨_, List.getElem?_eq_getElem hi⟩
      rw [List.getElem?_map, hm] at hx
      cases hx
      refine ⟨rfl, fun x dx hx hdx hne => ⟨x, dx, rfl, upd_same, fun H9 hT9 hK9 => ⟨rfl, ?_⟩⟩⟩
      have s89 : Same H8 H9 := keep_make hK9 hx hdx
      obtain ⟨dxx, fs, hx9, _⟩ := TmAt.meth hT9
      refine ⟨_, rfl, _, rfl, _, _, rfl, rfl, x, _, dxx, fs, m - now, rfl, rfl, hx9, C.is_of _, x, .now, m - now, rfl, hT9, ftN m, fun y Ha hTa sa => ?_⟩
      have s8a := s89.trans sa
      have hDa := s8a _ _ hD7
      refine ⟨_, hDa, (by rw [List.length_map, hul]; exact small1000 (by omega)), ⟨us ++ [y], ?_, by rw [List.length_append, hul]; rfl, fun j a m' h1 h2 => ?_⟩, sameAt (s7.trans s8a) hD2⟩
      · rw [upd_same, List.map_append]
        rfl
      · by_cases hj : j < us.length
        · rw [List.getElem?_append_left hj] at h1
          exact ((hus j a m' h1 h2).same s8a).nl (nl_upd hDa)
        · have h3 : (j : Nat) < us.length + 1 := by have := (List.getElem?_eq_some_iff.mp h1).1; rw [List.length_append] at this; exact this
          have hj : ¬ (j : Nat) < us.length := hj
          have e : (j : Nat) = us.length := Nat.le_antisymm (Nat.le_of_lt_succ h3) (Nat.not_lt.mp hj)
          subst e
          rw [List.getElem?_append_right (Nat.le_refl _), Nat.sub_self] at h1
          cases h1
          rw [hul, hm] at h2
          cases h2
          exact hTa.nl (nl_upd hDa)
    rintro H7 ⟨⟨us, hD7, hul, hus⟩, s7⟩
    have hul : us.length = 3 := hul
    obtain ⟨b1, b2, b3, rfl⟩ : ∃ x y z, us = [x, y, z] := match us, hul with | [x, y, z], _ => ⟨x, y, z, rfl⟩
    have t1 : TmAt C H7 b1 (tN a1) := hus 0 b1 a1 rfl rfl
    have t2 : TmAt C H7 b2 (tN a2) := hus 1 b2 a2 rfl rfl
    have t3 : TmAt C H7 b3 (tN a3) := hus 2 b3 a3 rfl rfl
    have hD7 : H7 D2 = some (.lst [.ref b1, .ref b2, .ref b3]) := hD7
    have hW7 := hW.same (s6.trans s7)
    have s07 := s6.trans s7
    clear hus hul hD2 s7 s6 hp6
    have key : ∀ j, j < 2 → ∃ x y u v, ([.ref b1, .ref b2, .ref b3] : List V)[j]? = some (.ref x) ∧ ([.ref b1, .ref b2, .ref b3] : List V)[j + 1]? = some (.ref y) ∧ TmAt C H7 x (tN u) ∧ TmAt C H7 y (tN v) ∧ ([((betweenR (W z) a1 a2).length : Int), ((betweenR (W z) a2 a3).length : Int)] : List Int)[j]? = some ((betweenR (W z) u v).length : Int) ∧ ([((betweenR (W z) a1 a2).map (·.2.2)).sum, ((betweenR (W z) a2 a3).map (·.2.2)).sum] : List Int)[j]? = some ((betweenR (W z) u v).map (·.2.2)).sum := fun j hj => by
      have : j = 0 ∨ j = 1 := by omega
      rcases this with rfl | rfl
      · exact ⟨b1, b2, a1, a2, rfl, rfl, t1, t2, rfl, rfl⟩
      · exact ⟨b2, b3, a2, a3, rfl, rfl, t2, t3, rfl, rfl⟩
    refine ⟨_, rfl, by decide, by decide, fun D3 hD3 => lc_range (n := 2) (fun j H8 => H8 D3 = some (.lst ((([((betweenR (W z) a1 a2).length : Int), ((betweenR (W z) a2 a3).length : Int)] : List Int).take j).map V.int)) ∧ Same H7 H8) ⟨upd_same, sameAt (Same.refl H7) hD3⟩ ?_ ?_⟩
    · rintro j H8 hj ⟨hD8, s8⟩
      obtain ⟨x, y, u, v, g1, g2, hx, hy, k1, k2⟩ := key j hj
      have q1 : atI ([.ref b1, .ref b2, .ref b3] : List V) (0 + (j : Int)) = some (.ref x) := by rw [Int.zero_add]; exact atI_nat g1
      have q2 : atI ([.ref b1, .ref b2, .ref b3] : List V) (0 + (j : Int) + 1) = some (.ref y) := by rw [Int.zero_add]; exact atI_nat g2
      refine ⟨rfl, _, rfl, _, rfl, _, rfl, _, _, _, _, rfl, rfl, SqL.of (s8 _ _ hD7), q1, _, rfl, _, rfl, _, _, rfl, rfl, _, _, _, _, rfl, rfl, SqL.of (s8 _ _ hD7), q2, fun w dw hw hdw hnw => ⟨w, dw, x, y, z, tN u, tN v, rfl, upd_same, hz, (hx.same s8).same (sameAt (sameAt (Same.refl H8) hdw) hw), (hy.same s8).same (sameAt (sameAt (Same.refl H8) hdw) hw), ftN u, ftN v, fun H9 hm9 hK9 => ⟨rfl, ?_⟩⟩⟩
      have s89 := s8.trans (keep_make hK9 hw hdw)
      refine ⟨_, rfl, _, rfl, w, wd, .am (.count z (tN u) (tN v)), W, now, rfl, hm9, hW7.same s89, ⟨hz, nmN u, nmN v⟩, ⟨ftN u, ftN v⟩, fun Ha sa => ?_⟩
      have s9a := (keep_make hK9 hw hdw).trans sa
      refine ⟨_, s9a _ _ hD8, (by rw [List.length_map, List.length_take]; exact small1000 (by omega)), ?_, sameAt (s8.trans s9a) hD3⟩
      rw [upd_same, list_take k1, List.map_append, cN]
      rfl
    rintro H8 ⟨hD8, s8⟩
    have hD8 : H8 D3 = some (.lst [.int ((betweenR (W z) a1 a2).length : Int), .int ((betweenR (W z) a2 a3).length : Int)]) := hD8
    refine ⟨_, rfl, by decide, by decide, fun D4 hD4 => lc_range (n := 2) (fun j H9 => H9 D4 = some (.lst ((([((betweenR (W z) a1 a2).map (·.2.2)).sum, ((betweenR (W z) a2 a3).map (·.2.2)).sum] : List Int).take j).map V.int)) ∧ Same H8 H9) ⟨upd_same, sameAt (Same.refl H8) hD4⟩ ?_ ?_⟩
    · rintro j H9 hj ⟨hD9, s9⟩
      obtain ⟨x, y, u, v, g1, g2, hx, hy, k1, k2⟩ := key j hj
      have s79 := s8.trans s9
      have q1 : atI ([.ref b1, .ref b2, .ref b3] : List V) (0 + (j : Int)) = some (.ref x) := by rw [Int.zero_add]; exact atI_nat g1
      have q2 : atI ([.ref b1, .ref b2, .ref b3] : List V) (0 + (j : Int) + 1) = some (.ref y) := by rw [Int.zero_add]; exact atI_nat g2
      refine ⟨rfl, _, rfl, _, rfl, _, rfl, _, _, _, _, rfl, rfl, SqL.of (s79 _ _ hD7), q1, _, rfl, _, rfl, _, _, rfl, rfl, _, _, _, _, rfl, rfl, SqL.of (s79 _ _ hD7), q2, fun w dw hw hdw hnw => ⟨w, dw, x, y, z, tN u, tN v, rfl, upd_same, hz, (hx.same s79).same (sameAt (sameAt (Same.refl H9) hdw) hw), (hy.same s79).same (sameAt (sameAt (Same.refl H9) hdw) hw), ftN u, ftN v, fun Ha hma hKa => ⟨rfl, ?_⟩⟩⟩
      have s9a := keep_make hKa hw hdw
      refine ⟨_, rfl, _, rfl, w, wd, .am (.total z (tN u) (tN v)), W, now, rfl, hma, hW7.same (s79.trans s9a), ⟨hz, nmN u, nmN v⟩, ⟨ftN u, ftN v⟩, fun Hb sb => ?_⟩
      have s9b := s9a.trans sb
      refine ⟨_, s9b _ _ hD9, (by rw [List.length_map, List.length_take]; exact small1000 (by omega)), ?_, sameAt (s9.trans s9b) hD4⟩
      rw [upd_same, list_take k2, List.map_append, toN]
      rfl
    rintro H9 ⟨hD9, s9⟩
    have hD9 : H9 D4 = some (.lst [.int ((betweenR (W z) a1 a2).map (·.2.2)).sum, .int ((betweenR (W z) a2 a3).map (·.2.2)).sum]) := hD9
    have s79 := s8.trans s9
    have hT9 := s79 _ _ hD7
    have hC9 := s9 _ _ hD8
    have so1 : a1 ≤ a2 := by have := hsort; simp at this; omega
    have so2 : a2 ≤ a3 := by have := hsort; simp at this; omega
    obtain ⟨ad1, ad2⟩ := betw_add so1 so2 (W z)
    have hW9 := hW7.same s79
    have u1 := t1.same s79
    have u3 := t3.same s79
    refine ⟨_, rfl, _, rfl, _, _, _, _, rfl, rfl, SqL.of hT9, rfl, _, rfl, _, _, _, _, rfl, rfl, SqL.of hT9, rfl, fun y dy hy hdy hny => ⟨y, dy, b1, b3, z, tN a1, tN a3, rfl, upd_same, hz, u1.same (sameAt (sameAt (Same.refl H9) hdy) hy), u3.same (sameAt (sameAt (Same.refl H9) hdy) hy), ftN a1, ftN a3, fun Ha hma hKa => ⟨rfl, ?_⟩⟩⟩
    have s9a := keep_make hKa hy hdy
    refine ⟨_, rfl, _, rfl, y, wd, .am (.count z (tN a1) (tN a3)), W, now, rfl, hma, hW9.same s9a, ⟨hz, nmN a1, nmN a3⟩, ⟨ftN a1, ftN a3⟩, fun Hb sb => ?_⟩
    have s9b := s9a.trans sb
    have hCb := s9b _ _ hC9
    have hTb := s9b _ _ hT9
    rw [cN, ad1]
    refine ⟨_, rfl, _, _, _, _, rfl, rfl, SqL.of hCb, rfl, _, rfl, _, _, _, _, rfl, rfl, SqL.of hCb, rfl, _, _, rfl, rfl, rfl, _, rfl, ?_⟩
    refine ite2 (fun c => ?_) (fun _ => ?_)
    · have c : (!decide (V.int (((betweenR (W z) a1 a2).length + (betweenR (W z) a2 a3).length : Nat) : Int) = V.int (((betweenR (W z) a1 a2).length : Int) + ((betweenR (W z) a2 a3).length : Int)))) = true := c
      simp at c
    refine ⟨_, rfl, _, rfl, _, _, _, _, rfl, rfl, SqL.of hTb, rfl, _, rfl, _, _, _, _, rfl, rfl, SqL.of hTb, rfl, fun y dy hy hdy hny => ⟨y, dy, b1, b3, z, tN a1, tN a3, rfl, upd_same, hz, (u1.same s9b).same (sameAt (sameAt (Same.refl Hb) hdy) hy), (u3.same s9b).same (sameAt (sameAt (Same.refl Hb) hdy) hy), ftN a1, ftN a3, fun Hc hmc hKc => ⟨rfl, ?_⟩⟩⟩
    have s9c := s9b.trans (keep_make hKc hy hdy)
    refine ⟨_, rfl, _, rfl, y, wd, .am (.total z (tN a1) (tN a3)), W, now, rfl, hmc, hW9.same s9c, ⟨hz, nmN a1, nmN a3⟩, ⟨ftN a1, ftN a3⟩, fun Hd sd => ?_⟩
    have s9d := s9c.trans sd
    have hDd := s9d _ _ hD9
    have hTd := s9d _ _ hT9
    rw [toN, ad2]
    refine ⟨_, rfl, _, _, _, _, rfl, rfl, SqL.of hDd, rfl, _, rfl, _, _, _, _, rfl, rfl, SqL.of hDd, rfl, _, _, rfl, rfl, rfl, _, rfl, ?_⟩
    refine ite2 (fun c => ?_) (fun _ => ?_)
    · have c : (!decide (V.int (((betweenR (W z) a1 a2).map (·.2.2)).sum + ((betweenR (W z) a2 a3).map (·.2.2)).sum) = V.int (((betweenR (W z) a1 a2).map (·.2.2)).sum + ((betweenR (W z) a2 a3).map (·.2.2)).sum))) = true := c
      simp at c
    refine ⟨_, rfl, _, rfl, _, _, _, _, rfl, rfl, SqL.of hTd, rfl, _, rfl, _, _, _, _, rfl, rfl, SqL.of hTd, rfl, fun y dy hy hdy hny => ⟨y, dy, b3, b1, z, tN a3, tN a1, rfl, upd_same, hz, (u3.same s9d).same (sameAt (sameAt (Same.refl Hd) hdy) hy), (u1.same s9d).same (sameAt (sameAt (Same.refl Hd) hdy) hy), ftN a3, ftN a1, fun He hme hKe => ⟨rfl, ?_⟩⟩⟩
    have s9e := s9d.trans (keep_make hKe hy hdy)
    refine ⟨_, rfl, _, rfl, y, wd, .am (.count z (tN a3) (tN a1)), W, now, rfl, hme, hW9.same s9e, ⟨hz, nmN a3, nmN a1⟩, ⟨ftN a3, ftN a1⟩, fun Hf sf => ?_⟩
    have e0 : (evQ W now (.am (.count z (tN a3) (tN a1)))).1 = some 0 := by
      rw [cN, betw_no (Int.le_trans so1 so2)]
      rfl
    rw [e0]
    refine ⟨rfl, ?_⟩
    exact q _ (s07.trans (s79.trans (s9e.trans sf)))
end
end Ash

set_option Elab.async false
set_option linter.all false
set_option maxRecDepth 100000
set_option maxHeartbeats 4000000
namespace Ash
open PySem PySem.Spec PyProof.Rows L2 SrtT
open C8 (pss_cut)
def spLaw (K : PySem.W.Frag) : Sp := fun vs H Q _ => ∃ (a : Addr) (ns : List Int), vs = [.ref a] ∧ SqL K H a (ns.map V.int) ∧ ns.length ≤ 63 ∧ ∀ H', Q (.bl true) H'
section
variable {P : Program} {w : World} {K : PySem.W.Frag} {mg : Str → Option Value} {base : Heap} {C : TC} {CW : Addr} {A0 : AC}
theorem lterm_all (B : Blt mg) (G : G2w P w K mg base) (d1 : D1 K mg "_law_term" s_l_term) : ∀ d, G3t P w K mg base d
  | 0 => { G with law_term := cal_of d1 (fun _ _ _ _ _ _ us hl => match us, hl with | [_, _, _], _ => rfl) fun f fd F => ok_lterm0 F B G }
  | d + 1 => { G with law_term := cal_of d1 (fun _ _ _ _ _ _ us hl => match us, hl with | [_, _, _], _ => rfl) fun f fd F => ok_lterm F B (lterm_all B G d1 d) }
theorem built_all (B : Blt mg) (G : B0 P w K mg base C) (O : Ops P w K mg base C) (d1 : D1 K mg "_law_built" s_l_built) : ∀ d, B1 P w K mg base C d
  | 0 => { G with law_built := cal_of d1 (fun _ _ _ _ _ _ us hl => match us, hl with | [_], _ => rfl) fun f fd F => ok_built0 F }
  | d + 1 => { G with law_built := cal_of d1 (fun _ _ _ _ _ _ us hl => match us, hl with | [_], _ => rfl) fun f fd F => ok_built F B (built_all B G O d1 d) O }
structure L11 (P : Program) (w : World) (K : PySem.W.Frag) (mg : Str → Option Value) (base : Heap) (A0 : AC) (C : TC) (CW : Addr) : Prop where
  law_pool : Cal P w K mg base CX0 "_law_pool" 1 ["script"] (spPool K)
  law_draw : CDraw P w K mg base
  law_names : Cal P w K mg base CX0 "_law_names" 2 ["pool", "many"] spNames
  law_moment : Cal P w K mg base CX0 "_law_moment" 2 ["pool"] spMoment
  law_rows : Cal P w K mg base CX0 "_law_rows" 3 ["pool", "streams", "many"] spLWRows
  law_term : Cal P w K mg base CX0 "_law_term" (3 + 3) ["pool", "streams", "depth"] (spLTerm 3)
  law_built : Cal P w K mg base CX0 "_law_built" (4 + 6) ["model"] (spBuilt C 4)
  law_amounts : Cal P w K mg base CX0 "_law_amounts" 33 ["stream", "rows", "terms", "world", "now"] (spLAmts C CW)
  law_added : Cal P w K mg base CX0 "_law_added" 33 ["stream", "world", "now", "moments"] (spLAdded C CW)
  law_same : Cal P w K mg base CX0 "_law_same" 1 ["told", "due"] spSame
  value : Cal P w K mg base CX0 "value" 31 ["question", "world", "now"] (spValue A0 C CW)
  Total : Mak P w K mg base CX0 "Total" A0.total 3 ["self", "stream", "first", "last"] (spInitC A0 C A0.total Am.total)
  World : Mak P w K mg base CX0 "World" CW 5 ["self", "rows"] (spWorldInit CW)
abbrev s_law : Stmt := topS 79
theorem sc_law : FnScope ["script", "pool", "streams", "rows", "world", "now", "terms", "stream", "moments", "due", "k"] ["script"] (defScope s_law) := ⟨rfl, rfl, rfl, by decide +kernel, rfl, by decide +kernel, by decide +kernel⟩
theorem ok_law {f : Addr} {fd : FuncData} (F : Fun K "law" "law" s_law f fd) (B : Blt mg) (G : L11 P w K mg base A0 C CW) : FnOk P w K mg base CX0 40 f fd ["script"] (spLaw K) := by
  refine F.ok sc_law (fun vs H Q E h => ?_) (fun cdv A outer s H vs Q E hr h => ?_)
  · obtain ⟨a, ns, rfl, _⟩ := h
    rfl
  · obtain ⟨a, ns, rfl, hS, hlen, q⟩ := h
    have hu := hu_of hr
    refine ⟨_, (pss_cons (ps_set (i := 1) sc_law.nd rfl (Or.inr rfl) (pe_cal G.law_pool (hr.mono (by decide)) pass0 (pa_cons (pv 0) pa_nil)))
    (pss_cons (ps_set (i := 2) sc_law.nd rfl (Or.inr rfl) (pe_cal G.law_names (hr.mono (by decide)) pass0 (pa_cons (pv 1) (pa_cons (pe_op op_add pe_int (pe_cal G.law_draw (hr.mono (by decide)) pass0 (pa_cons (pv 1) (pa_cons pe_int pa_nil)))) pa_nil))))
    (pss_cons (ps_set (i := 3) sc_law.nd rfl (Or.inl rfl) (pe_cal G.law_rows (hr.mono (by decide)) pass0 (pa_cons (pv 1) (pa_cons (pv 2) (pa_cons (pe_cal G.law_draw (hr.mono (by decide)) pass0 (pa_cons (pv 1) (pa_cons pe_int pa_nil))) pa_nil)))))
    (pss_cons (ps_set (i := 4) sc_law.nd rfl (Or.inl rfl) (pe_mak G.World (hr.mono (by decide)) pass0 (pa_cons (pv 3) pa_nil)))
    (pss_cons (ps_set (i := 5) sc_law.nd rfl (Or.inl rfl) (pe_cal G.law_moment (hr.mono (by decide)) pass0 (pa_cons (pv 1) pa_nil)))
    (pss_cons (ps_setLc (i := 6) (own := [("k", 10)]) (g := gName 10) (tt := tYes) (by rfl) sc_law.nd rfl rfl (sw_true rfl rfl rfl (by decide +kernel)) (pi_range1 (by rfl) B.range (pa_cons pe_int pa_nil)) (blkOk_by (own := [("k", 10)]) (N := ["script", "pool", "streams", "rows", "world", "now", "terms", "stream", "moments", "due", "k"]) (sc := defScope s_law) (by decide +kernel)) (fun _ _ _ _ _ => (pg_name (i := 10) sc_law.nd rfl (Or.inl rfl))) (fun _ _ _ _ _ => pts_nil) (fun _ _ _ _ _ => (pe_cal G.law_built (hr.mono (by decide)) pass0 (pa_cons (pe_cal G.law_term (hr.mono (by decide)) pass0 (pa_cons (pv 1) (pa_cons (pv 2) (pa_cons pe_int pa_nil)))) pa_nil))))
    (pss_cons (ps_set (i := 7) sc_law.nd rfl (Or.inl rfl) (pe_ix ix_list (pv 2) (pe_cal G.law_draw (hr.mono (by decide)) pass0 (pa_cons (pv 1) (pa_cons (pe_callB call_len (by rfl) B.len (by decide +kernel) (pa_cons (pv 2) pa_nil)) pa_nil))) (fun _ _ => rfl)))
    (pss_cons (ps_if (pt_not (pt_val (pe_cal G.law_amounts (hr.mono (by decide)) pass0 (pa_cons (pv 7) (pa_cons (pe_dget hu (pv 3) (pv 7) (fun _ _ => rfl)) (pa_cons (pv 6) (pa_cons (pv 4) (pa_cons (pv 5) pa_nil))))))))
      (pss_one (ps_ret pe_bl))
      pss_nil)
    (pss_cons (ps_if (pt_not (pt_val (pe_cal G.law_amounts (hr.mono (by decide)) pass0 (pa_cons (pv 7) (pa_cons (pe_dget hu (pv 3) (pv 7) (fun _ _ => rfl)) (pa_cons (pe_lst (pa_cons (pe_ix ix_list (pv 6) pe_int (fun _ _ => rfl)) (pa_cons (pe_ix ix_list (pv 6) pe_int (fun _ _ => rfl)) pa_nil))) (pa_cons (pv 4) (pa_cons (pv 5) pa_nil))))))))
      (pss_one (ps_ret pe_bl))
      pss_nil)
    (pss_cons (ps_setLc (i := 8) (own := [("k", 10)]) (g := gName 10) (tt := tYes) (by rfl) sc_law.nd rfl rfl (sw_true rfl rfl rfl (by decide +kernel)) (pi_range1 (by rfl) B.range (pa_cons pe_int pa_nil)) (blkOk_by (own := [("k", 10)]) (N := ["script", "pool", "streams", "rows", "world", "now", "terms", "stream", "moments", "due", "k"]) (sc := defScope s_law) (by decide +kernel)) (fun _ _ _ _ _ => (pg_name (i := 10) sc_law.nd rfl (Or.inl rfl))) (fun _ _ _ _ _ => pts_nil) (fun _ _ _ _ _ => (pe_cal G.law_moment (hr.mono (by decide)) pass0 (pa_cons (pv 1) pa_nil))))
    (pss_cons (ps_if (pt_not (pt_val (pe_cal G.law_added (hr.mono (by decide)) pass0 (pa_cons (pv 7) (pa_cons (pv 4) (pa_cons (pv 5) (pa_cons (pv 8) pa_nil)))))))
      (pss_one (ps_ret pe_bl))
      pss_nil)
    (pss_cons (ps_set (i := 9) sc_law.nd rfl (Or.inl rfl) pe_int)
    (pss_cut (ps_if (pt_cmpR op_isN (pe_cal G.value (hr.mono (by decide)) pass0 (pa_cons (pe_ix ix_list (pv 6) pe_int (fun _ _ => rfl)) (pa_cons (pv 4) (pa_cons (pv 5) pa_nil)))) pe_non (nomark _))
      (pss_one (ps_set (i := 9) sc_law.nd rfl (Or.inl rfl) pe_non))
      pss_nil)
    (pss_one (ps_ret (pe_cal G.law_same (hr.mono (by decide)) pass0 (pa_cons (pe_cal G.value (hr.mono (by decide)) pass0 (pa_cons (pe_mak G.Total (hr.mono (by decide)) pass0 (pa_cons (pv 7) (pa_cons (pe_ix ix_list (pv 6) pe_int (fun _ _ => rfl)) (pa_cons (pe_ix ix_list (pv 6) pe_int (fun _ _ => rfl)) pa_nil)))) (pa_cons (pv 4) (pa_cons (pv 5) pa_nil)))) (pa_cons (pv 9) pa_nil)))))))))))))))))), ?_⟩
    refine ⟨_, rfl, a, ns, rfl, hS, fun p s0 H1 hp1 hP1 s1 => ?_⟩
    refine ⟨_, rfl, _, rfl, p, s0, 3, rfl, hP1, (by decide), (by decide), fun y H2 y0 y3 P2 => ⟨_, _, rfl, rfl, p, s0, 1 + y, rfl, P2.now, (by omega), (by omega), fun l names H3 hl0 hl hlen hnd hnm P3 => ?_⟩⟩
    have lp : l ≠ p := fun z => P2.now.ne.1 (z ▸ hl0)
    refine ⟨_, rfl, _, rfl, _, rfl, p, s0, 11, rfl, P3.now, (by decide), (by decide), fun many H4 m0 m11 P4 => ?_⟩
    refine ⟨p, s0, l, names, many, rfl, P4.now, lp, P4.keep hl lp, (by omega), (by omega), hnd, m0, (by omega), fun d Ad T H5 hd0 hA0 R5 G5 P5 => ?_⟩
    have hl5 := P5.keep (P4.keep hl lp) lp
    have hP5 := P5.now
    have Ap : ∀ z ∈ names, Ad z ≠ p := fun z hz q => P4.now.ne.1 (q ▸ hA0 z hz)
    clear P5 P4 P3 P2
    refine ⟨_, rfl, fun wd dx hwd hdx hne => ⟨wd, dx, d, names, Ad, T, many.toNat, rfl, upd_same, R5.same (sameAt (sameAt (Same.refl H5) hdx) hwd), by omega, hnd, hnm, G5, by omega, fun H7 W hW hRW hK => ⟨rfl, ?_⟩⟩⟩
    have s57 : Same H5 H7 := keep_make hK hwd hdx
    have P7 := hP5.same s57
    have hl7 := s57 _ _ hl5
    refine ⟨_, rfl, p, s0, rfl, P7, fun now H8 P8 => ?_⟩
    have hW8 : WAt CW H8 wd W := hW.nl (nl_pl P7 P8)
    have R8 : RwAt H8 d names Ad T := (R5.same s57).pl P7 Ap P8
    have hl8 := P8.keep hl7 lp
    have hP8 := P8.now
    have l3 : ∀ t : Tm, Lev t 3 → (bt t).Fit ∧ (bt t).NmS ∧ t.Fit ∧ t.dep ≤ ((4 : Nat) : Int) := fun t h => by
      obtain ⟨h1, h2, h3⟩ := bt_sz t
      have e1 : t.dep ≤ 3 + 1 := h.dep
      have e2 : t.par ≤ 15 := h.par
      have e3 : t.lok ≤ 4 := h.lok
      exact ⟨⟨by omega, by omega, by omega⟩, bt_nm h.nm, ⟨by omega, by omega, by omega⟩, by omega⟩
    clear P8 hP1 s1 R5 hl7 hl5
    refine ⟨_, rfl, by decide, by decide, fun D hD => ?_⟩
    have Dp : D ≠ p := fun z => hP8.ne.1 (z ▸ hD)
    refine lc_range (n := 2) (fun j H9 => (∃ as : List (Addr × Tm), H9 D = some (.lst (as.map fun x => V.ref x.1)) ∧ as.length = j ∧ ∀ x ∈ as, TmAt C H9 x.1 (bt x.2) ∧ Lev x.2 3) ∧ Pl H8 H9 p s0) ⟨⟨[], upd_same, rfl, fun x hx => nomatch hx⟩, (Pl.refl hP8).at hD⟩ ?_ ?_
    · rintro j H9 hj ⟨⟨as, hD9, has, hal⟩, P9⟩
      refine ⟨rfl, _, rfl, _, rfl, p, s0, l, names, rfl, P9.now, lp, P9.keep hl8 lp, (by omega), (by omega), hnm, fun e1 t1 HA hM1 L1 PA => ?_⟩
      obtain ⟨a1, a2, a3, a4⟩ := l3 t1 L1
      refine ⟨e1, t1, rfl, hM1, L1.nm, a3, a4, fun ta HB hTa sB => ?_⟩
      have PB : Pl H9 HB p s0 := PA.same sB
      have hDB := PB.keep hD9 Dp
      refine ⟨_, hDB, (by rw [List.length_map]; exact small1000 (by omega)), ⟨as ++ [(ta, t1)], ?_, by rw [List.length_append, has]; rfl, fun x hx => ?_⟩, (P9.trans PB).at hD⟩
      · rw [upd_same, List.map_append]
        rfl
      · rcases List.mem_append.mp hx with h | h
        · exact ⟨((hal x h).1.nl (nl_pl P9.now PB)).nl (nl_upd hDB), (hal x h).2⟩
        · rw [List.mem_singleton.mp h]
          exact ⟨hTa.nl (nl_upd hDB), L1⟩
    rintro H9 ⟨⟨as, hD9, has, hal⟩, P9⟩
    obtain ⟨⟨ta, t1⟩, ⟨tb, t2⟩, rfl⟩ : ∃ x y, as = [x, y] := match as, has with | [x, y], _ => ⟨x, y, rfl⟩
    obtain ⟨hTa, L1⟩ := hal (ta, t1) (by simp)
    obtain ⟨hTb, L2'⟩ := hal (tb, t2) (by simp)
    have hD9 : H9 D = some (.lst [.ref ta, .ref tb]) := hD9
    have hTa : TmAt C H9 ta (bt t1) := hTa
    have hTb : TmAt C H9 tb (bt t2) := hTb
    obtain ⟨fa, na, _⟩ := l3 t1 L1
    obtain ⟨fb, nb, _⟩ := l3 t2 L2'
    have hW9 := hW8.nl (nl_pl hP8 P9)
    have R9 := R8.pl hP8 Ap P9
    have hl9 := P9.keep hl8 lp
    have hP9 := P9.now
    refine ⟨_, rfl, _, rfl, _, rfl, _, _, rfl, .inl ⟨_, SqL.of hl9, rfl⟩, p, s0, _, rfl, hP9, (by rw [List.length_map]; omega), Int.lt_of_le_of_lt (show ((names.map V.str).length : Int) ≤ 25 by rw [List.length_map]; omega) (by decide), fun g HA g0 g1 PA => ?_⟩
    rw [List.length_map] at g1
    obtain ⟨j, rfl⟩ : ∃ j : Nat, g = (j : Int) := ⟨g.toNat, by omega⟩
    have hj : j < names.length := by omega
    have hz : names[j] ∈ names := List.getElem_mem hj
    generalize hzz : names[j] = z at hz
    refine ⟨_, _, _, .str z, rfl, rfl, SqL.of (PA.keep hl9 lp), atI_nat (by rw [List.getElem?_map, List.getElem?_eq_getElem hj, hzz]; rfl), ?_⟩
    have nlA := nl_pl hP9 PA
    have hTaA := hTa.nl nlA
    have hTbA := hTb.nl nlA
    have hWA := hW9.nl nlA
    have RA := R9.pl hP9 Ap PA
    have hDA := PA.keep hD9 Dp
    have hPA := PA.now
    clear hTa hTb hW9 R9 hD9 hal hW8 R8
    have few : (T z).length ≤ 400 := Nat.le_trans (G5.few hz) (by omega)
    have hg := DGet.k (k := Sum.inr z) RA.at_
    rw [valV_nm, if_pos hz] at hg
    obtain ⟨ys, hy, hTr⟩ := RA.row z hz
    obtain ⟨w1, w2⟩ := hRW.1 z hz
    refine ⟨_, rfl, _, rfl, _, rfl, d, _, rfl, hg, _, rfl, _, rfl, _, rfl, Ad z, D, ta, tb, wd, z, ys, T z, bt t1, bt t2, W, now, rfl, hnm z hz, hy, hTr, few, w1, G5.apart hz, w2, hDA, hTaA, hTbA, na, nb, fa, fb, hWA, fun HB sB => ⟨_, rfl, iteF ?_⟩⟩
    have RB := RA.same sB
    have hgB := DGet.k (k := Sum.inr z) RB.at_
    rw [valV_nm, if_pos hz] at hgB
    have hDB := sB _ _ hDA
    refine ⟨_, rfl, _, rfl, _, rfl, d, _, rfl, hgB, _, rfl, _, _, _, _, rfl, rfl, SqL.of hDB, rfl, _, rfl, _, _, _, _, rfl, rfl, SqL.of hDB, rfl, (by show 2 ≤ sizeLine; decide), fun dl hdl => ?_⟩
    have sC : Same HA (upd HB dl (.lst [.ref tb, .ref ta])) := sB.trans (sameAt (Same.refl _) hdl)
    refine ⟨_, rfl, _, rfl, Ad z, dl, tb, ta, wd, z, ys, T z, bt t2, bt t1, W, now, rfl, hnm z hz, sC _ _ hy, hTr.tk (fun t xs h => sC _ _ h), few, w1, G5.apart hz, w2, upd_same, hTbA.same sC, hTaA.same sC, nb, na, fb, fa, hWA.same sC, fun HD sD => ⟨_, rfl, iteF ?_⟩⟩
    have sAD := sC.trans sD
    have PD := hPA.same sAD
    have hDD := sAD _ _ hDA
    have hTaD := hTaA.same sAD
    have hWD := hWA.same sAD
    refine ⟨_, rfl, by decide, by decide, fun D2 hD2 => ?_⟩
    have D2p : D2 ≠ p := fun z => PD.ne.1 (z ▸ hD2)
    refine lc_range (n := 3) (fun j HE => (∃ ms : List Int, HE D2 = some (.lst (ms.map V.int)) ∧ ms.length = j) ∧ Pl HD HE p s0) ⟨⟨[], upd_same, rfl⟩, (Pl.refl PD).at hD2⟩ ?_ ?_
    · rintro j HE hj ⟨⟨ms, hDE, hms⟩, PE⟩
      refine ⟨rfl, _, rfl, p, s0, rfl, PE.now, fun m HF PF => ?_⟩
      refine ⟨_, PF.keep hDE D2p, (by rw [List.length_map]; exact small1000 (by omega)), ⟨ms ++ [m], ?_, by rw [List.length_append, hms]; rfl⟩, (PE.trans PF).at hD2⟩
      rw [upd_same, List.map_append]
      rfl
    rintro HE ⟨⟨ms, hDE, hms⟩, PE⟩
    obtain ⟨m1, m2, m3, rfl⟩ : ∃ x y z, ms = [x, y, z] := match ms, hms with | [x, y, z], _ => ⟨x, y, z, rfl⟩
    have hDE : HE D2 = some (.lst [.int m1, .int m2, .int m3]) := hDE
    have nlE := nl_pl PD PE
    have hTaE := hTaD.nl nlE
    have hWE := hWD.nl nlE
    have hDDE := PE.keep hDD Dp
    refine ⟨_, rfl, _, rfl, _, rfl, _, rfl, wd, D2, z, m1, m2, m3, W, now, rfl, hnm z hz, hDE, hWE, fun HF sF => ⟨_, rfl, iteF ?_⟩⟩
    have hTaF := hTaE.same sF
    have hWF := hWE.same sF
    have hDF := sF _ _ hDDE
    obtain ⟨d0, D0⟩ : ∃ d0, (evA W now (.total z (bt t1) (bt t1))).1 = d0 := ⟨_, rfl⟩
    have hA0 : d0 = if (ev W now (bt t1)).1 = none then none else some 0 := by
      rw [← D0]
      show (tellR (ev W now (bt t1)) (ev W now (bt t1)) _).1 = _
      generalize ev W now (bt t1) = r
      obtain ⟨r1, r2⟩ := r
      cases r1 with
      | none => rfl
      | some m =>
        show some ((betweenR (W z) m m).map (·.2.2)).sum = some 0
        rw [betw_no (Int.le_refl m)]
        rfl
    refine ⟨fun σ H5 => (∃ k, σ = [some (.ref a), some (.ref p), some (.ref l), some (.ref d), some (.ref wd), some (.int now), some (.ref D), some (.str z), some (.ref D2), some (oV d0), k]) ∧ Same HF H5, ?_, ?_⟩
    · refine ⟨_, rfl, _, _, _, _, rfl, rfl, SqL.of hDF, rfl, _, rfl, _, rfl, ta, wd, .tm (bt t1), W, now, rfl, hTaF, hWF, na, fa, fun HG sG => ?_⟩
      have e : (evQ W now (.tm (bt t1))).1 = (ev W now (bt t1)).1 := rfl
      rw [e]
      generalize (ev W now (bt t1)).1 = r1 at hA0
      refine ⟨rfl, _, rfl, ?_⟩
      cases r1 with
      | none =>
        refine ite2 (fun _ => ?_) (fun c => absurd rfl c)
        exact ⟨⟨_, by rw [hA0]; rfl⟩, sG⟩
      | some m =>
        refine ite2 (fun c => absurd (of_decide_eq_true c) (fun z => nomatch z)) (fun _ => ?_)
        exact ⟨⟨_, by rw [hA0]; rfl⟩, sG⟩
    rintro σ HG ⟨⟨k9, rfl⟩, sG⟩
    have hDG := sG _ _ hDF
    have hTaG := hTaF.same sG
    have hWG := hWF.same sG
    refine ⟨_, rfl, _, rfl, _, _, _, _, rfl, rfl, SqL.of hDG, rfl, _, rfl, _, _, _, _, rfl, rfl, SqL.of hDG, rfl, fun y dy hy hdy hny => ⟨y, dy, ta, ta, z, bt t1, bt t1, rfl, upd_same, hnm z hz, hTaG.same (sameAt (sameAt (Same.refl HG) hdy) hy), hTaG.same (sameAt (sameAt (Same.refl HG) hdy) hy), fa, fa, fun HH hm hK => ⟨rfl, ?_⟩⟩⟩
    have sH := keep_make hK hy hdy
    refine ⟨_, rfl, _, rfl, y, wd, .am (.total z (bt t1) (bt t1)), W, now, rfl, hm, hWG.same sH, ⟨hnm z hz, na, na⟩, ⟨fa, fa⟩, fun HI sI => ⟨_, rfl, _, _, rfl, ?_⟩⟩
    rw [show (evQ W now (.am (.total z (bt t1) (bt t1)))).1 = d0 from D0, show decide (d0 = d0) = true from decide_eq_true rfl]
    exact q _
end
end Ash

set_option Elab.async false
set_option linter.all false
set_option maxRecDepth 100000
set_option maxHeartbeats 4000000
namespace Ash
open PySem PySem.Spec PyProof.Rows L2
/-! ### the facts of the seven classes, put together -/
theorem is7 {C : TC} {p : Addr → Prop} (h1 : p C.now) (h2 : p C.last) (h3 : p C.next) (h4 : p C.shift) (h5 : p C.either) (h6 : p C.later) (h7 : p C.earlier) : ∀ a, C.Is a → p a := fun a ha => by
  rcases ha with rfl | rfl | rfl | rfl | rfl | rfl | rfl
  · exact h1
  · exact h2
  · exact h3
  · exact h4
  · exact h5
  · exact h6
  · exact h7
theorem na10 {K : PySem.W.Frag} {a : Addr} (h1 : NoAttr K a "stream") (h2 : NoAttr K a "term") (h3 : NoAttr K a "first") (h4 : NoAttr K a "second") (h5 : NoAttr K a "amount") (h6 : NoAttr K a "spelling") (h7 : NoAttr K a "depth") (h8 : NoAttr K a "parts") (h9 : NoAttr K a "looks") (h10 : NoAttr K a "choices") : ∀ f ∈ ATTRS, NoAttr K a f := fun f hf => by
  simp only [ATTRS, List.mem_cons, List.not_mem_nil, or_false] at hf
  rcases hf with rfl | rfl | rfl | rfl | rfl | rfl | rfl | rfl | rfl | rfl
  · exact h1
  · exact h2
  · exact h3
  · exact h4
  · exact h5
  · exact h6
  · exact h7
  · exact h8
  · exact h9
  · exact h10
theorem kit_me {K : PySem.W.Frag} {a : Addr} : PySem.W.kitOne K (.ref a) (.ref a) = some (decide (a = a)) := by
  unfold PySem.W.kitOne
  simp
theorem ne_sub {K : PySem.W.Frag} {a b : Addr} (h1 : PySem.W.subIn K (.ref a) (.ref a) = some true) (h2 : PySem.W.subIn K (.ref a) (.ref b) = some false) : a ≠ b := fun e => by
  rw [← e, h1] at h2
  cases h2
theorem kit_no {K : PySem.W.Frag} {a b : Addr} (n : a ≠ b) (h2 : PySem.W.isClsIn K b = true) (h3 : PySem.W.typeIn K (.ref b) = some (.type "type")) (h4 : PySem.W.subIn K (.ref a) (.ref b) = some false) : PySem.W.kitOne K (.ref a) (.ref b) = some (decide (a = b)) := by
  have h2' : (PySem.W.clsIn K b).isSome = true := h2
  rw [decide_eq_false n]
  simp [PySem.W.kitOne, PySem.W.kitCls, n, h2', h3, h4]
theorem is4 {A : AC} {p : Addr → Prop} (h1 : p A.number) (h2 : p A.count) (h3 : p A.total) (h4 : p A.gap) : ∀ a, A.Is a → p a := fun a ha => by
  rcases ha with rfl | rfl | rfl | rfl
  · exact h1
  · exact h2
  · exact h3
  · exact h4
theorem na5 {K : PySem.W.Frag} {a : Addr} (h1 : NoAttr K a "stream") (h2 : NoAttr K a "term") (h3 : NoAttr K a "first") (h4 : NoAttr K a "last") (h5 : NoAttr K a "spelling") : ∀ f ∈ AATTRS, NoAttr K a f := fun f hf => by
  simp only [AATTRS, List.mem_cons, List.not_mem_nil, or_false] at hf
  rcases hf with rfl | rfl | rfl | rfl | rfl
  · exact h1
  · exact h2
  · exact h3
  · exact h4
  · exact h5
theorem kit_no0 {K : PySem.W.Frag} {a b : Addr} (n : a ≠ b) (h2 : PySem.W.isClsIn K b = true) (h3 : PySem.W.typeIn K (.ref b) = some (.type "type")) (h4 : PySem.W.subIn K (.ref a) (.ref b) = some false) : PySem.W.kitOne K (.ref a) (.ref b) = some false := by
  have h := kit_no n h2 h3 h4
  rw [decide_eq_false n] at h
  exact h
example : PySem.dunder (Operator.info .BitOr).2 = "__or__" := by rfl
example : dunderR (Operator.info .BitOr).2 = "__ror__" := by rfl
example : PySem.dunder (Operator.info .Sub).2 = "__sub__" := by rfl
example : PySem.dunder (Operator.info .Add).2 = "__add__" := by rfl
example : dunderR (Operator.info .Add).2 = "__radd__" := by rfl
end Ash

set_option Elab.async false
set_option linter.all false
set_option maxRecDepth 100000
set_option maxHeartbeats 4000000
namespace Ash
open PySem PySem.Spec PyProof.Rows L2
section
variable {P : Program} {w : World} {K : PySem.W.Frag} {mg : Str → Option Value} {base : Heap}
theorem all_ok {CW cA cB cC cD cE cF cG aA aB aC aD fadd fior flat fear : Addr}
    (B : Blt mg)
    (Cs : Cst mg)
    (TW : Cw K mg CW)
    (wi : BkI K CW)
    (mkW : PySem.W.makesIn K CW = true)
    (kW : PySem.W.keepIn K (.ref CW) = true)
    (nm0 : mg "Now" = some (.ref cA))
    (cl0 : Cls K cA)
    (b0 : BkI K cA)
    (ic0 : PySem.W.isClsIn K cA = true)
    (ti0 : PySem.W.typeIn K (.ref cA) = some (.type "type"))
    (sf0 : PySem.W.selfFirst K cA = true)
    (at0 : PySem.W.findIn K (.ref cA) "__add__" = some (some (.ref fadd)))
    (rt0 : PySem.W.findIn K (.ref cA) "__radd__" = some none)
    (si0 : PySem.W.subIn K (.type "int") (.ref cA) = some false)
    (or0 : PySem.W.findIn K (.ref cA) "__or__" = some (some (.ref fior)))
    (ro0 : PySem.W.findIn K (.ref cA) "__ror__" = some none)
    (la0 : PySem.W.findIn K (.ref cA) "later" = some (some (.ref flat)))
    (ea0 : PySem.W.findIn K (.ref cA) "earlier" = some (some (.ref fear)))
    (n0_0 : NoAttr K cA "stream")
    (n0_1 : NoAttr K cA "term")
    (n0_2 : NoAttr K cA "first")
    (n0_3 : NoAttr K cA "second")
    (n0_4 : NoAttr K cA "amount")
    (n0_5 : NoAttr K cA "spelling")
    (n0_6 : NoAttr K cA "depth")
    (n0_7 : NoAttr K cA "parts")
    (n0_8 : NoAttr K cA "looks")
    (n0_9 : NoAttr K cA "choices")
    (s0_0 : PySem.W.subIn K (.ref cA) (.ref cA) = some true)
    (s0_1 : PySem.W.subIn K (.ref cA) (.ref cB) = some false)
    (s0_2 : PySem.W.subIn K (.ref cA) (.ref cC) = some false)
    (s0_3 : PySem.W.subIn K (.ref cA) (.ref cD) = some false)
    (s0_4 : PySem.W.subIn K (.ref cA) (.ref cE) = some false)
    (s0_5 : PySem.W.subIn K (.ref cA) (.ref cF) = some false)
    (s0_6 : PySem.W.subIn K (.ref cA) (.ref cG) = some false)
    (nm1 : mg "Last" = some (.ref cB))
    (cl1 : Cls K cB)
    (b1 : BkI K cB)
    (ic1 : PySem.W.isClsIn K cB = true)
    (ti1 : PySem.W.typeIn K (.ref cB) = some (.type "type"))
    (sf1 : PySem.W.selfFirst K cB = true)
    (at1 : PySem.W.findIn K (.ref cB) "__add__" = some (some (.ref fadd)))
    (rt1 : PySem.W.findIn K (.ref cB) "__radd__" = some none)
    (si1 : PySem.W.subIn K (.type "int") (.ref cB) = some false)
    (or1 : PySem.W.findIn K (.ref cB) "__or__" = some (some (.ref fior)))
    (ro1 : PySem.W.findIn K (.ref cB) "__ror__" = some none)
    (la1 : PySem.W.findIn K (.ref cB) "later" = some (some (.ref flat)))
    (ea1 : PySem.W.findIn K (.ref cB) "earlier" = some (some (.ref fear)))
    (n1_0 : NoAttr K cB "stream")
    (n1_1 : NoAttr K cB "term")
    (n1_2 : NoAttr K cB "first")
    (n1_3 : NoAttr K cB "second")
    (n1_4 : NoAttr K cB "amount")
    (n1_5 : NoAttr K cB "spelling")
    (n1_6 : NoAttr K cB "depth")
    (n1_7 : NoAttr K cB "parts")
    (n1_8 : NoAttr K cB "looks")
    (n1_9 : NoAttr K cB "choices")
    (s1_0 : PySem.W.subIn K (.ref cB) (.ref cA) = some false)
    (s1_1 : PySem.W.subIn K (.ref cB) (.ref cB) = some true)
    (s1_2 : PySem.W.subIn K (.ref cB) (.ref cC) = some false)
    (s1_3 : PySem.W.subIn K (.ref cB) (.ref cD) = some false)
    (s1_4 : PySem.W.subIn K (.ref cB) (.ref cE) = some false)
    (s1_5 : PySem.W.subIn K (.ref cB) (.ref cF) = some false)
    (s1_6 : PySem.W.subIn K (.ref cB) (.ref cG) = some false)
    (nm2 : mg "Next" = some (.ref cC))
    (cl2 : Cls K cC)
    (b2 : BkI K cC)
    (ic2 : PySem.W.isClsIn K cC = true)
    (ti2 : PySem.W.typeIn K (.ref cC) = some (.type "type"))
    (sf2 : PySem.W.selfFirst K cC = true)
    (at2 : PySem.W.findIn K (.ref cC) "__add__" = some (some (.ref fadd)))
    (rt2 : PySem.W.findIn K (.ref cC) "__radd__" = some none)
    (si2 : PySem.W.subIn K (.type "int") (.ref cC) = some false)
    (or2 : PySem.W.findIn K (.ref cC) "__or__" = some (some (.ref fior)))
    (ro2 : PySem.W.findIn K (.ref cC) "__ror__" = some none)
    (la2 : PySem.W.findIn K (.ref cC) "later" = some (some (.ref flat)))
    (ea2 : PySem.W.findIn K (.ref cC) "earlier" = some (some (.ref fear)))
    (n2_0 : NoAttr K cC "stream")
    (n2_1 : NoAttr K cC "term")
    (n2_2 : NoAttr K cC "first")
    (n2_3 : NoAttr K cC "second")
    (n2_4 : NoAttr K cC "amount")
    (n2_5 : NoAttr K cC "spelling")
    (n2_6 : NoAttr K cC "depth")
    (n2_7 : NoAttr K cC "parts")
    (n2_8 : NoAttr K cC "looks")
    (n2_9 : NoAttr K cC "choices")
    (s2_0 : PySem.W.subIn K (.ref cC) (.ref cA) = some false)
    (s2_1 : PySem.W.subIn K (.ref cC) (.ref cB) = some false)
    (s2_2 : PySem.W.subIn K (.ref cC) (.ref cC) = some true)
    (s2_3 : PySem.W.subIn K (.ref cC) (.ref cD) = some false)
    (s2_4 : PySem.W.subIn K (.ref cC) (.ref cE) = some false)
    (s2_5 : PySem.W.subIn K (.ref cC) (.ref cF) = some false)
    (s2_6 : PySem.W.subIn K (.ref cC) (.ref cG) = some false)
    (nm3 : mg "Shift" = some (.ref cD))
    (cl3 : Cls K cD)
    (b3 : BkI K cD)
    (ic3 : PySem.W.isClsIn K cD = true)
    (ti3 : PySem.W.typeIn K (.ref cD) = some (.type "type"))
    (sf3 : PySem.W.selfFirst K cD = true)
    (at3 : PySem.W.findIn K (.ref cD) "__add__" = some (some (.ref fadd)))
    (rt3 : PySem.W.findIn K (.ref cD) "__radd__" = some none)
    (si3 : PySem.W.subIn K (.type "int") (.ref cD) = some false)
    (or3 : PySem.W.findIn K (.ref cD) "__or__" = some (some (.ref fior)))
    (ro3 : PySem.W.findIn K (.ref cD) "__ror__" = some none)
    (la3 : PySem.W.findIn K (.ref cD) "later" = some (some (.ref flat)))
    (ea3 : PySem.W.findIn K (.ref cD) "earlier" = some (some (.ref fear)))
    (n3_0 : NoAttr K cD "stream")
    (n3_1 : NoAttr K cD "term")
    (n3_2 : NoAttr K cD "first")
    (n3_3 : NoAttr K cD "second")
    (n3_4 : NoAttr K cD "amount")
    (n3_5 : NoAttr K cD "spelling")
    (n3_6 : NoAttr K cD "depth")
    (n3_7 : NoAttr K cD "parts")
    (n3_8 : NoAttr K cD "looks")
    (n3_9 : NoAttr K cD "choices")
    (s3_0 : PySem.W.subIn K (.ref cD) (.ref cA) = some false)
    (s3_1 : PySem.W.subIn K (.ref cD) (.ref cB) = some false)
    (s3_2 : PySem.W.subIn K (.ref cD) (.ref cC) = some false)
    (s3_3 : PySem.W.subIn K (.ref cD) (.ref cD) = some true)
    (s3_4 : PySem.W.subIn K (.ref cD) (.ref cE) = some false)
    (s3_5 : PySem.W.subIn K (.ref cD) (.ref cF) = some false)
    (s3_6 : PySem.W.subIn K (.ref cD) (.ref cG) = some false)
    (nm4 : mg "Either" = some (.ref cE))
    (cl4 : Cls K cE)
    (b4 : BkI K cE)
    (ic4 : PySem.W.isClsIn K cE = true)
    (ti4 : PySem.W.typeIn K (.ref cE) = some (.type "type"))
    (sf4 : PySem.W.selfFirst K cE = true)
    (at4 : PySem.W.findIn K (.ref cE) "__add__" = some (some (.ref fadd)))
    (rt4 : PySem.W.findIn K (.ref cE) "__radd__" = some none)
    (si4 : PySem.W.subIn K (.type "int") (.ref cE) = some false)
    (or4 : PySem.W.findIn K (.ref cE) "__or__" = some (some (.ref fior)))
    (ro4 : PySem.W.findIn K (.ref cE) "__ror__" = some none)
    (la4 : PySem.W.findIn K (.ref cE) "later" = some (some (.ref flat)))
    (ea4 : PySem.W.findIn K (.ref cE) "earlier" = some (some (.ref fear)))
    (n4_0 : NoAttr K cE "stream")
    (n4_1 : NoAttr K cE "term")
    (n4_2 : NoAttr K cE "first")
    (n4_3 : NoAttr K cE "second")
    (n4_4 : NoAttr K cE "amount")
    (n4_5 : NoAttr K cE "spelling")
    (n4_6 : NoAttr K cE "depth")
    (n4_7 : NoAttr K cE "parts")
    (n4_8 : NoAttr K cE "looks")
    (n4_9 : NoAttr K cE "choices")
    (s4_0 : PySem.W.subIn K (.ref cE) (.ref cA) = some false)
    (s4_1 : PySem.W.subIn K (.ref cE) (.ref cB) = some false)
    (s4_2 : PySem.W.subIn K (.ref cE) (.ref cC) = some false)
    (s4_3 : PySem.W.subIn K (.ref cE) (.ref cD) = some false)
    (s4_4 : PySem.W.subIn K (.ref cE) (.ref cE) = some true)
    (s4_5 : PySem.W.subIn K (.ref cE) (.ref cF) = some false)
    (s4_6 : PySem.W.subIn K (.ref cE) (.ref cG) = some false)
    (nm5 : mg "Later" = some (.ref cF))
    (cl5 : Cls K cF)
    (b5 : BkI K cF)
    (ic5 : PySem.W.isClsIn K cF = true)
    (ti5 : PySem.W.typeIn K (.ref cF) = some (.type "type"))
    (sf5 : PySem.W.selfFirst K cF = true)
    (at5 : PySem.W.findIn K (.ref cF) "__add__" = some (some (.ref fadd)))
    (rt5 : PySem.W.findIn K (.ref cF) "__radd__" = some none)
    (si5 : PySem.W.subIn K (.type "int") (.ref cF) = some false)
    (or5 : PySem.W.findIn K (.ref cF) "__or__" = some (some (.ref fior)))
    (ro5 : PySem.W.findIn K (.ref cF) "__ror__" = some none)
    (la5 : PySem.W.findIn K (.ref cF) "later" = some (some (.ref flat)))
    (ea5 : PySem.W.findIn K (.ref cF) "earlier" = some (some (.ref fear)))
    (n5_0 : NoAttr K cF "stream")
    (n5_1 : NoAttr K cF "term")
    (n5_2 : NoAttr K cF "first")
    (n5_3 : NoAttr K cF "second")
    (n5_4 : NoAttr K cF "amount")
    (n5_5 : NoAttr K cF "spelling")
    (n5_6 : NoAttr K cF "depth")
    (n5_7 : NoAttr K cF "parts")
    (n5_8 : NoAttr K cF "looks")
    (n5_9 : NoAttr K cF "choices")
    (s5_0 : PySem.W.subIn K (.ref cF) (.ref cA) = some false)
    (s5_1 : PySem.W.subIn K (.ref cF) (.ref cB) = some false)
    (s5_2 : PySem.W.subIn K (.ref cF) (.ref cC) = some false)
    (s5_3 : PySem.W.subIn K (.ref cF) (.ref cD) = some false)
    (s5_4 : PySem.W.subIn K (.ref cF) (.ref cE) = some false)
    (s5_5 : PySem.W.subIn K (.ref cF) (.ref cF) = some true)
    (s5_6 : PySem.W.subIn K (.ref cF) (.ref cG) = some false)
    (nm6 : mg "Earlier" = some (.ref cG))
    (cl6 : Cls K cG)
    (b6 : BkI K cG)
    (ic6 : PySem.W.isClsIn K cG = true)
    (ti6 : PySem.W.typeIn K (.ref cG) = some (.type "type"))
    (sf6 : PySem.W.selfFirst K cG = true)
    (at6 : PySem.W.findIn K (.ref cG) "__add__" = some (some (.ref fadd)))
    (rt6 : PySem.W.findIn K (.ref cG) "__radd__" = some none)
    (si6 : PySem.W.subIn K (.type "int") (.ref cG) = some false)
    (or6 : PySem.W.findIn K (.ref cG) "__or__" = some (some (.ref fior)))
    (ro6 : PySem.W.findIn K (.ref cG) "__ror__" = some none)
    (la6 : PySem.W.findIn K (.ref cG) "later" = some (some (.ref flat)))
    (ea6 : PySem.W.findIn K (.ref cG) "earlier" = some (some (.ref fear)))
    (n6_0 : NoAttr K cG "stream")
    (n6_1 : NoAttr K cG "term")
    (n6_2 : NoAttr K cG "first")
    (n6_3 : NoAttr K cG "second")
    (n6_4 : NoAttr K cG "amount")
    (n6_5 : NoAttr K cG "spelling")
    (n6_6 : NoAttr K cG "depth")
    (n6_7 : NoAttr K cG "parts")
    (n6_8 : NoAttr K cG "looks")
    (n6_9 : NoAttr K cG "choices")
    (s6_0 : PySem.W.subIn K (.ref cG) (.ref cA) = some false)
    (s6_1 : PySem.W.subIn K (.ref cG) (.ref cB) = some false)
    (s6_2 : PySem.W.subIn K (.ref cG) (.ref cC) = some false)
    (s6_3 : PySem.W.subIn K (.ref cG) (.ref cD) = some false)
    (s6_4 : PySem.W.subIn K (.ref cG) (.ref cE) = some false)
    (s6_5 : PySem.W.subIn K (.ref cG) (.ref cF) = some false)
    (s6_6 : PySem.W.subIn K (.ref cG) (.ref cG) = some true)
    (mk0 : PySem.W.makesIn K cA = true)
    (kp0 : PySem.W.keepIn K (.ref cA) = true)
    (mk1 : PySem.W.makesIn K cB = true)
    (kp1 : PySem.W.keepIn K (.ref cB) = true)
    (mk2 : PySem.W.makesIn K cC = true)
    (kp2 : PySem.W.keepIn K (.ref cC) = true)
    (mk3 : PySem.W.makesIn K cD = true)
    (kp3 : PySem.W.keepIn K (.ref cD) = true)
    (mk4 : PySem.W.makesIn K cE = true)
    (kp4 : PySem.W.keepIn K (.ref cE) = true)
    (mk5 : PySem.W.makesIn K cF = true)
    (kp5 : PySem.W.keepIn K (.ref cF) = true)
    (mk6 : PySem.W.makesIn K cG = true)
    (kp6 : PySem.W.keepIn K (.ref cG) = true)
    (i1 : PySem.W.findIn K (.type "int") "__add__" = some (some (.builtin "int.__add__")))
    (i2 : PySem.W.findIn K (.type "int") "__radd__" = some (some (.builtin "int.__radd__")))
    (anm0 : mg "Number" = some (.ref aA))
    (acl0 : Cls K aA)
    (ab0 : BkI K aA)
    (aic0 : PySem.W.isClsIn K aA = true)
    (ati0 : PySem.W.typeIn K (.ref aA) = some (.type "type"))
    (an0_0 : NoAttr K aA "stream")
    (an0_1 : NoAttr K aA "term")
    (an0_2 : NoAttr K aA "first")
    (an0_3 : NoAttr K aA "last")
    (an0_4 : NoAttr K aA "spelling")
    (as0_0 : PySem.W.subIn K (.ref aA) (.ref aA) = some true)
    (as0_1 : PySem.W.subIn K (.ref aA) (.ref aB) = some false)
    (as0_2 : PySem.W.subIn K (.ref aA) (.ref aC) = some false)
    (as0_3 : PySem.W.subIn K (.ref aA) (.ref aD) = some false)
    (at0_0 : PySem.W.subIn K (.ref aA) (.ref cA) = some false)
    (at0_1 : PySem.W.subIn K (.ref aA) (.ref cB) = some false)
    (at0_2 : PySem.W.subIn K (.ref aA) (.ref cC) = some false)
    (at0_3 : PySem.W.subIn K (.ref aA) (.ref cD) = some false)
    (at0_4 : PySem.W.subIn K (.ref aA) (.ref cE) = some false)
    (at0_5 : PySem.W.subIn K (.ref aA) (.ref cF) = some false)
    (at0_6 : PySem.W.subIn K (.ref aA) (.ref cG) = some false)
    (amk0 : PySem.W.makesIn K aA = true)
    (akp0 : PySem.W.keepIn K (.ref aA) = true)
    (anm1 : mg "Count" = some (.ref aB))
    (acl1 : Cls K aB)
    (ab1 : BkI K aB)
    (aic1 : PySem.W.isClsIn K aB = true)
    (ati1 : PySem.W.typeIn K (.ref aB) = some (.type "type"))
    (an1_0 : NoAttr K aB "stream")
    (an1_1 : NoAttr K aB "term")
    (an1_2 : NoAttr K aB "first")
    (an1_3 : NoAttr K aB "last")
    (an1_4 : NoAttr K aB "spelling")
    (as1_0 : PySem.W.subIn K (.ref aB) (.ref aA) = some false)
    (as1_1 : PySem.W.subIn K (.ref aB) (.ref aB) = some true)
    (as1_2 : PySem.W.subIn K (.ref aB) (.ref aC) = some false)
    (as1_3 : PySem.W.subIn K (.ref aB) (.ref aD) = some false)
    (at1_0 : PySem.W.subIn K (.ref aB) (.ref cA) = some false)
    (at1_1 : PySem.W.subIn K (.ref aB) (.ref cB) = some false)
    (at1_2 : PySem.W.subIn K (.ref aB) (.ref cC) = some false)
    (at1_3 : PySem.W.subIn K (.ref aB) (.ref cD) = some false)
    (at1_4 : PySem.W.subIn K (.ref aB) (.ref cE) = some false)
    (at1_5 : PySem.W.subIn K (.ref aB) (.ref cF) = some false)
    (at1_6 : PySem.W.subIn K (.ref aB) (.ref cG) = some false)
    (amk1 : PySem.W.makesIn K aB = true)
    (akp1 : PySem.W.keepIn K (.ref aB) = true)
    (anm2 : mg "Total" = some (.ref aC))
    (acl2 : Cls K aC)
    (ab2 : BkI K aC)
    (aic2 : PySem.W.isClsIn K aC = true)
    (ati2 : PySem.W.typeIn K (.ref aC) = some (.type "type"))
    (an2_0 : NoAttr K aC "stream")
    (an2_1 : NoAttr K aC "term")
    (an2_2 : NoAttr K aC "first")
    (an2_3 : NoAttr K aC "last")
    (an2_4 : NoAttr K aC "spelling")
    (as2_0 : PySem.W.subIn K (.ref aC) (.ref aA) = some false)
    (as2_1 : PySem.W.subIn K (.ref aC) (.ref aB) = some false)
    (as2_2 : PySem.W.subIn K (.ref aC) (.ref aC) = some true)
    (as2_3 : PySem.W.subIn K (.ref aC) (.ref aD) = some false)
    (at2_0 : PySem.W.subIn K (.ref aC) (.ref cA) = some false)
    (at2_1 : PySem.W.subIn K (.ref aC) (.ref cB) = some false)
    (at2_2 : PySem.W.subIn K (.ref aC) (.ref cC) = some false)
    (at2_3 : PySem.W.subIn K (.ref aC) (.ref cD) = some false)
    (at2_4 : PySem.W.subIn K (.ref aC) (.ref cE) = some false)
    (at2_5 : PySem.W.subIn K (.ref aC) (.ref cF) = some false)
    (at2_6 : PySem.W.subIn K (.ref aC) (.ref cG) = some false)
    (amk2 : PySem.W.makesIn K aC = true)
    (akp2 : PySem.W.keepIn K (.ref aC) = true)
    (anm3 : mg "Gap" = some (.ref aD))
    (acl3 : Cls K aD)
    (ab3 : BkI K aD)
    (aic3 : PySem.W.isClsIn K aD = true)
    (ati3 : PySem.W.typeIn K (.ref aD) = some (.type "type"))
    (an3_0 : NoAttr K aD "stream")
    (an3_1 : NoAttr K aD "term")
    (an3_2 : NoAttr K aD "first")
    (an3_3 : NoAttr K aD "last")
    (an3_4 : NoAttr K aD "spelling")
    (as3_0 : PySem.W.subIn K (.ref aD) (.ref aA) = some false)
    (as3_1 : PySem.W.subIn K (.ref aD) (.ref aB) = some false)
    (as3_2 : PySem.W.subIn K (.ref aD) (.ref aC) = some false)
    (as3_3 : PySem.W.subIn K (.ref aD) (.ref aD) = some true)
    (at3_0 : PySem.W.subIn K (.ref aD) (.ref cA) = some false)
    (at3_1 : PySem.W.subIn K (.ref aD) (.ref cB) = some false)
    (at3_2 : PySem.W.subIn K (.ref aD) (.ref cC) = some false)
    (at3_3 : PySem.W.subIn K (.ref aD) (.ref cD) = some false)
    (at3_4 : PySem.W.subIn K (.ref aD) (.ref cE) = some false)
    (at3_5 : PySem.W.subIn K (.ref aD) (.ref cF) = some false)
    (at3_6 : PySem.W.subIn K (.ref aD) (.ref cG) = some false)
    (amk3 : PySem.W.makesIn K aD = true)
    (akp3 : PySem.W.keepIn K (.ref aD) = true)
    (d_is_integer : D1 K mg "is_integer" s_is_integer)
    (d_is_natural : D1 K mg "is_natural" s_is_natural)
    (d_is_name : D1 K mg "is_name" s_is_name)
    (d_are_integers : D1 K mg "are_integers" s_are_integers)
    (d_is_row : D1 K mg "is_row" s_is_row)
    (d_are_rows : D1 K mg "are_rows" s_are_rows)
    (d_first_twice : D1 K mg "first_twice" s_first_twice)
    (d_is_rows : D1 K mg "is_rows" s_is_rows)
    (d_is_term : D1 K mg "is_term" s_is_term)
    (d_is_look : D1 K mg "is_look" s_is_look)
    (d_checked_stream : D1 K mg "checked_stream" s_checked_stream)
    (d_checked_term : D1 K mg "checked_term" s_checked_term)
    (d_sizes : D1 K mg "sizes" s_sizes)
    (d_shifted : D1 K mg "shifted" s_shifted)
    (d_last_row : D1 K mg "last_row" s_last_row)
    (d_next_row : D1 K mg "next_row" s_next_row)
    (d_moved : D1 K mg "moved" s_moved)
    (d_looked : D1 K mg "looked" s_looked)
    (d_followed_either : D1 K mg "followed_either" s_followed_either)
    (d_followed_both : D1 K mg "followed_both" s_followed_both)
    (d_followed : D1 K mg "followed" s_followed)
    (d_is_amount : D1 K mg "is_amount" s_is_amount)
    (d_told_between : D1 K mg "told_between" s_told_between)
    (d_is_question : D1 K mg "is_question" s_is_question)
    (d_check : D1 K mg "check" s_check)
    (d_answered : D1 K mg "answered" s_answered)
    (d_value : D1 K mg "value" s_value)
    (d__law_pool : D1 K mg "_law_pool" s_l_pool)
    (d__law_draw : D1 K mg "_law_draw" s_l_draw)
    (d__law_names : D1 K mg "_law_names" s_l_names)
    (d__law_moment : D1 K mg "_law_moment" s_l_moment)
    (d__law_rows : D1 K mg "_law_rows" s_l_rows)
    (d__law_term : D1 K mg "_law_term" s_l_term)
    (d__law_built : D1 K mg "_law_built" s_l_built)
    (d__law_last : D1 K mg "_law_last" s_l_last)
    (d__law_between : D1 K mg "_law_between" s_l_between)
    (d__law_amounts : D1 K mg "_law_amounts" s_l_amounts)
    (d__law_added : D1 K mg "_law_added" s_l_added)
    (d__law_same : D1 K mg "_law_same" s_l_same)
    (m_WI : DM K CW "__init__" "World.__init__" s_World_init)
    (m_WR : DM K CW "rows" "World.rows" s_World_rows)
    (m_NI : DM K cA "__init__" "Now.__init__" s_Now_init)
    (m_LI : DM K cB "__init__" "Last.__init__" s_Last_init)
    (m_XI : DM K cC "__init__" "Next.__init__" s_Next_init)
    (m_SI : DM K cD "__init__" "Shift.__init__" s_Shift_init)
    (m_EI : DM K cE "__init__" "Either.__init__" s_Either_init)
    (m_JI : DM K cF "__init__" "Later.__init__" s_Later_init)
    (m_KI : DM K cG "__init__" "Earlier.__init__" s_Earlier_init)
    (m_nuI : DM K aA "__init__" "Number.__init__" s_Number_init)
    (m_coI : DM K aB "__init__" "Count.__init__" s_Count_init)
    (m_toI : DM K aC "__init__" "Total.__init__" s_Total_init)
    (m_gaI : DM K aD "__init__" "Gap.__init__" s_Gap_init)
    (m_add : DQ K cA fadd "__add__" "Term.__add__" s_Term_add)
    (m_ior : DQ K cA fior "__or__" "Term.__or__" s_Term_or)
    (m_lat : DQ K cA flat "later" "Term.later" s_Term_later)
    (m_ear : DQ K cA fear "earlier" "Term.earlier" s_Term_earlier)
    {f : Addr} {fd : FuncData} (F_law : Fun K "law" "law" s_law f fd) : FnOk P w K mg base CX0 40 f fd ["script"] (spLaw K) := by
  have TT : TF K mg (⟨cA, cB, cC, cD, cE, cF, cG⟩ : TC) := { cl := is7 (cl0) (cl1) (cl2) (cl3) (cl4) (cl5) (cl6), no := is7 (na10 n0_0 n0_1 n0_2 n0_3 n0_4 n0_5 n0_6 n0_7 n0_8 n0_9) (na10 n1_0 n1_1 n1_2 n1_3 n1_4 n1_5 n1_6 n1_7 n1_8 n1_9) (na10 n2_0 n2_1 n2_2 n2_3 n2_4 n2_5 n2_6 n2_7 n2_8 n2_9) (na10 n3_0 n3_1 n3_2 n3_3 n3_4 n3_5 n3_6 n3_7 n3_8 n3_9) (na10 n4_0 n4_1 n4_2 n4_3 n4_4 n4_5 n4_6 n4_7 n4_8 n4_9) (na10 n5_0 n5_1 n5_2 n5_3 n5_4 n5_5 n5_6 n5_7 n5_8 n5_9) (na10 n6_0 n6_1 n6_2 n6_3 n6_4 n6_5 n6_6 n6_7 n6_8 n6_9), ty := is7 (⟨b0.ha, b0.hn, b0.ht, b0.hm⟩) (⟨b1.ha, b1.hn, b1.ht, b1.hm⟩) (⟨b2.ha, b2.hn, b2.ht, b2.hm⟩) (⟨b3.ha, b3.hn, b3.ht, b3.hm⟩) (⟨b4.ha, b4.hn, b4.ht, b4.hm⟩) (⟨b5.ha, b5.hn, b5.ht, b5.hm⟩) (⟨b6.ha, b6.hn, b6.ht, b6.hm⟩), one := is7 (p := fun a => ∀ b, ((⟨cA, cB, cC, cD, cE, cF, cG⟩ : TC)).Is b → PySem.W.kitOne K (.ref a) (.ref b) = some (decide (a = b))) (is7 (C := (⟨cA, cB, cC, cD, cE, cF, cG⟩ : TC)) (p := fun b => PySem.W.kitOne K (.ref cA) (.ref b) = some (decide (cA = b))) (kit_me) (kit_no (ne_sub s0_0 s0_1) ic1 ti1 s0_1) (kit_no (ne_sub s0_0 s0_2) ic2 ti2 s0_2) (kit_no (ne_sub s0_0 s0_3) ic3 ti3 s0_3) (kit_no (ne_sub s0_0 s0_4) ic4 ti4 s0_4) (kit_no (ne_sub s0_0 s0_5) ic5 ti5 s0_5) (kit_no (ne_sub s0_0 s0_6) ic6 ti6 s0_6)) (is7 (C := (⟨cA, cB, cC, cD, cE, cF, cG⟩ : TC)) (p := fun b => PySem.W.kitOne K (.ref cB) (.ref b) = some (decide (cB = b))) (kit_no (ne_sub s1_1 s1_0) ic0 ti0 s1_0) (kit_me) (kit_no (ne_sub s1_1 s1_2) ic2 ti2 s1_2) (kit_no (ne_sub s1_1 s1_3) ic3 ti3 s1_3) (kit_no (ne_sub s1_1 s1_4) ic4 ti4 s1_4) (kit_no (ne_sub s1_1 s1_5) ic5 ti5 s1_5) (kit_no (ne_sub s1_1 s1_6) ic6 ti6 s1_6)) (is7 (C := (⟨cA, cB, cC, cD, cE, cF, cG⟩ : TC)) (p := fun b => PySem.W.kitOne K (.ref cC) (.ref b) = some (decide (cC = b))) (kit_no (ne_sub s2_2 s2_0) ic0 ti0 s2_0) (kit_no (ne_sub s2_2 s2_1) ic1 ti1 s2_1) (kit_me) (kit_no (ne_sub s2_2 s2_3) ic3 ti3 s2_3) (kit_no (ne_sub s2_2 s2_4) ic4 ti4 s2_4) (kit_no (ne_sub s2_2 s2_5) ic5 ti5 s2_5) (kit_no (ne_sub s2_2 s2_6) ic6 ti6 s2_6)) (is7 (C := (⟨cA, cB, cC, cD, cE, cF, cG⟩ : TC)) (p := fun b => PySem.W.kitOne K (.ref cD) (.ref b) = some (decide (cD = b))) (kit_no (ne_sub s3_3 s3_0) ic0 ti0 s3_0) (kit_no (ne_sub s3_3 s3_1) ic1 ti1 s3_1) (kit_no (ne_sub s3_3 s3_2) ic2 ti2 s3_2) (kit_me) (kit_no (ne_sub s3_3 s3_4) ic4 ti4 s3_4) (kit_no (ne_sub s3_3 s3_5) ic5 ti5 s3_5) (kit_no (ne_sub s3_3 s3_6) ic6 ti6 s3_6)) (is7 (C := (⟨cA, cB, cC, cD, cE, cF, cG⟩ : TC)) (p := fun b => PySem.W.kitOne K (.ref cE) (.ref b) = some (decide (cE = b))) (kit_no (ne_sub s4_4 s4_0) ic0 ti0 s4_0) (kit_no (ne_sub s4_4 s4_1) ic1 ti1 s4_1) (kit_no (ne_sub s4_4 s4_2) ic2 ti2 s4_2) (kit_no (ne_sub s4_4 s4_3) ic3 ti3 s4_3) (kit_me) (kit_no (ne_sub s4_4 s4_5) ic5 ti5 s4_5) (kit_no (ne_sub s4_4 s4_6) ic6 ti6 s4_6)) (is7 (C := (⟨cA, cB, cC, cD, cE, cF, cG⟩ : TC)) (p := fun b => PySem.W.kitOne K (.ref cF) (.ref b) = some (decide (cF = b))) (kit_no (ne_sub s5_5 s5_0) ic0 ti0 s5_0) (kit_no (ne_sub s5_5 s5_1) ic1 ti1 s5_1) (kit_no (ne_sub s5_5 s5_2) ic2 ti2 s5_2) (kit_no (ne_sub s5_5 s5_3) ic3 ti3 s5_3) (kit_no (ne_sub s5_5 s5_4) ic4 ti4 s5_4) (kit_me) (kit_no (ne_sub s5_5 s5_6) ic6 ti6 s5_6)) (is7 (C := (⟨cA, cB, cC, cD, cE, cF, cG⟩ : TC)) (p := fun b => PySem.W.kitOne K (.ref cG) (.ref b) = some (decide (cG = b))) (kit_no (ne_sub s6_6 s6_0) ic0 ti0 s6_0) (kit_no (ne_sub s6_6 s6_1) ic1 ti1 s6_1) (kit_no (ne_sub s6_6 s6_2) ic2 ti2 s6_2) (kit_no (ne_sub s6_6 s6_3) ic3 ti3 s6_3) (kit_no (ne_sub s6_6 s6_4) ic4 ti4 s6_4) (kit_no (ne_sub s6_6 s6_5) ic5 ti5 s6_5) (kit_me)) |> (fun h a b ha hb => h a ha b hb), Now := nm0, Last := nm1, Next := nm2, Shift := nm3, Either := nm4, Later := nm5, Earlier := nm6 }
  have DD : TD (⟨cA, cB, cC, cD, cE, cF, cG⟩ : TC) := ⟨by
    show [cA, cB, cC, cD, cE, cF, cG].Nodup
    simp only [List.nodup_cons, List.mem_cons, List.not_mem_nil, or_false, not_or, List.nodup_nil, and_true, not_false_eq_true]
    exact ⟨⟨(ne_sub s0_0 s0_1), (ne_sub s0_0 s0_2), (ne_sub s0_0 s0_3), (ne_sub s0_0 s0_4), (ne_sub s0_0 s0_5), (ne_sub s0_0 s0_6)⟩, ⟨(ne_sub s1_1 s1_2), (ne_sub s1_1 s1_3), (ne_sub s1_1 s1_4), (ne_sub s1_1 s1_5), (ne_sub s1_1 s1_6)⟩, ⟨(ne_sub s2_2 s2_3), (ne_sub s2_2 s2_4), (ne_sub s2_2 s2_5), (ne_sub s2_2 s2_6)⟩, ⟨(ne_sub s3_3 s3_4), (ne_sub s3_3 s3_5), (ne_sub s3_3 s3_6)⟩, ⟨(ne_sub s4_4 s4_5), (ne_sub s4_4 s4_6)⟩, (ne_sub s5_5 s5_6)⟩⟩
  have ANd : [aA, aB, aC, aD].Nodup := by
    simp only [List.nodup_cons, List.mem_cons, List.not_mem_nil, or_false, not_or, List.nodup_nil, and_true, not_false_eq_true]
    exact ⟨⟨(ne_sub as0_0 as0_1), (ne_sub as0_0 as0_2), (ne_sub as0_0 as0_3)⟩, ⟨(ne_sub as1_1 as1_2), (ne_sub as1_1 as1_3)⟩, (ne_sub as2_2 as2_3)⟩
  have AF0 : AF K mg (⟨aA, aB, aC, aD⟩ : AC) (⟨cA, cB, cC, cD, cE, cF, cG⟩ : TC) := { cl := is4 (acl0) (acl1) (acl2) (acl3), no := is4 (na5 an0_0 an0_1 an0_2 an0_3 an0_4) (na5 an1_0 an1_1 an1_2 an1_3 an1_4) (na5 an2_0 an2_1 an2_2 an2_3 an2_4) (na5 an3_0 an3_1 an3_2 an3_3 an3_4), ty := is4 (⟨ab0.ha, ab0.hn, ab0.ht, ab0.hm⟩) (⟨ab1.ha, ab1.hn, ab1.ht, ab1.hm⟩) (⟨ab2.ha, ab2.hn, ab2.ht, ab2.hm⟩) (⟨ab3.ha, ab3.hn, ab3.ht, ab3.hm⟩), one := (is4 (p := fun a => ∀ b, (⟨aA, aB, aC, aD⟩ : AC).Is b → PySem.W.kitOne K (.ref a) (.ref b) = some (decide (a = b))) (is4 (A := ⟨aA, aB, aC, aD⟩) (p := fun b => PySem.W.kitOne K (.ref aA) (.ref b) = some (decide (aA = b))) (kit_me) (kit_no (ne_sub as0_0 as0_1) aic1 ati1 as0_1) (kit_no (ne_sub as0_0 as0_2) aic2 ati2 as0_2) (kit_no (ne_sub as0_0 as0_3) aic3 ati3 as0_3)) (is4 (A := ⟨aA, aB, aC, aD⟩) (p := fun b => PySem.W.kitOne K (.ref aB) (.ref b) = some (decide (aB = b))) (kit_no (ne_sub as1_1 as1_0) aic0 ati0 as1_0) (kit_me) (kit_no (ne_sub as1_1 as1_2) aic2 ati2 as1_2) (kit_no (ne_sub as1_1 as1_3) aic3 ati3 as1_3)) (is4 (A := ⟨aA, aB, aC, aD⟩) (p := fun b => PySem.W.kitOne K (.ref aC) (.ref b) = some (decide (aC = b))) (kit_no (ne_sub as2_2 as2_0) aic0 ati0 as2_0) (kit_no (ne_sub as2_2 as2_1) aic1 ati1 as2_1) (kit_me) (kit_no (ne_sub as2_2 as2_3) aic3 ati3 as2_3)) (is4 (A := ⟨aA, aB, aC, aD⟩) (p := fun b => PySem.W.kitOne K (.ref aD) (.ref b) = some (decide (aD = b))) (kit_no (ne_sub as3_3 as3_0) aic0 ati0 as3_0) (kit_no (ne_sub as3_3 as3_1) aic1 ati1 as3_1) (kit_no (ne_sub as3_3 as3_2) aic2 ati2 as3_2) (kit_me))) |> (fun h a b ha hb => h a ha b hb), noT := (is4 (p := fun a => ∀ b, ((⟨cA, cB, cC, cD, cE, cF, cG⟩ : TC)).Is b → PySem.W.kitOne K (.ref a) (.ref b) = some false) (is7 (C := (⟨cA, cB, cC, cD, cE, cF, cG⟩ : TC)) (p := fun b => PySem.W.kitOne K (.ref aA) (.ref b) = some false) (kit_no0 (ne_sub as0_0 at0_0) ic0 ti0 at0_0) (kit_no0 (ne_sub as0_0 at0_1) ic1 ti1 at0_1) (kit_no0 (ne_sub as0_0 at0_2) ic2 ti2 at0_2) (kit_no0 (ne_sub as0_0 at0_3) ic3 ti3 at0_3) (kit_no0 (ne_sub as0_0 at0_4) ic4 ti4 at0_4) (kit_no0 (ne_sub as0_0 at0_5) ic5 ti5 at0_5) (kit_no0 (ne_sub as0_0 at0_6) ic6 ti6 at0_6)) (is7 (C := (⟨cA, cB, cC, cD, cE, cF, cG⟩ : TC)) (p := fun b => PySem.W.kitOne K (.ref aB) (.ref b) = some false) (kit_no0 (ne_sub as1_1 at1_0) ic0 ti0 at1_0) (kit_no0 (ne_sub as1_1 at1_1) ic1 ti1 at1_1) (kit_no0 (ne_sub as1_1 at1_2) ic2 ti2 at1_2) (kit_no0 (ne_sub as1_1 at1_3) ic3 ti3 at1_3) (kit_no0 (ne_sub as1_1 at1_4) ic4 ti4 at1_4) (kit_no0 (ne_sub as1_1 at1_5) ic5 ti5 at1_5) (kit_no0 (ne_sub as1_1 at1_6) ic6 ti6 at1_6)) (is7 (C := (⟨cA, cB, cC, cD, cE, cF, cG⟩ : TC)) (p := fun b => PySem.W.kitOne K (.ref aC) (.ref b) = some false) (kit_no0 (ne_sub as2_2 at2_0) ic0 ti0 at2_0) (kit_no0 (ne_sub as2_2 at2_1) ic1 ti1 at2_1) (kit_no0 (ne_sub as2_2 at2_2) ic2 ti2 at2_2) (kit_no0 (ne_sub as2_2 at2_3) ic3 ti3 at2_3) (kit_no0 (ne_sub as2_2 at2_4) ic4 ti4 at2_4) (kit_no0 (ne_sub as2_2 at2_5) ic5 ti5 at2_5) (kit_no0 (ne_sub as2_2 at2_6) ic6 ti6 at2_6)) (is7 (C := (⟨cA, cB, cC, cD, cE, cF, cG⟩ : TC)) (p := fun b => PySem.W.kitOne K (.ref aD) (.ref b) = some false) (kit_no0 (ne_sub as3_3 at3_0) ic0 ti0 at3_0) (kit_no0 (ne_sub as3_3 at3_1) ic1 ti1 at3_1) (kit_no0 (ne_sub as3_3 at3_2) ic2 ti2 at3_2) (kit_no0 (ne_sub as3_3 at3_3) ic3 ti3 at3_3) (kit_no0 (ne_sub as3_3 at3_4) ic4 ti4 at3_4) (kit_no0 (ne_sub as3_3 at3_5) ic5 ti5 at3_5) (kit_no0 (ne_sub as3_3 at3_6) ic6 ti6 at3_6))) |> (fun h a b ha hb => h a ha b hb), Number := anm0, Count := anm1, Total := anm2, Gap := anm3, nd := ANd }
  have OI : OpI K ((⟨cA, cB, cC, cD, cE, cF, cG⟩ : TC)).Is .Add fadd := { sf := is7 (sf0) (sf1) (sf2) (sf3) (sf4) (sf5) (sf6), at_ := is7 (at0) (at1) (at2) (at3) (at4) (at5) (at6), rt := is7 (rt0) (rt1) (rt2) (rt3) (rt4) (rt5) (rt6), fn := m_add.ex.choose_spec.1.fn, sub := is7 (si0) (si1) (si2) (si3) (si4) (si5) (si6), i1 := ⟨_, i1⟩, i2 := ⟨_, i2⟩ }
  have sub7 : ∀ a b, ((⟨cA, cB, cC, cD, cE, cF, cG⟩ : TC)).Is a → ((⟨cA, cB, cC, cD, cE, cF, cG⟩ : TC)).Is b → a ≠ b → PySem.W.subIn K (.ref b) (.ref a) = some false := fun a b ha hb => is7 (C := (⟨cA, cB, cC, cD, cE, cF, cG⟩ : TC)) (p := fun a => ∀ b, ((⟨cA, cB, cC, cD, cE, cF, cG⟩ : TC)).Is b → a ≠ b → PySem.W.subIn K (.ref b) (.ref a) = some false) (is7 (C := (⟨cA, cB, cC, cD, cE, cF, cG⟩ : TC)) (p := fun b => cA ≠ b → PySem.W.subIn K (.ref b) (.ref cA) = some false) (fun h => absurd rfl h) (fun _ => s1_0) (fun _ => s2_0) (fun _ => s3_0) (fun _ => s4_0) (fun _ => s5_0) (fun _ => s6_0)) (is7 (C := (⟨cA, cB, cC, cD, cE, cF, cG⟩ : TC)) (p := fun b => cB ≠ b → PySem.W.subIn K (.ref b) (.ref cB) = some false) (fun _ => s0_1) (fun h => absurd rfl h) (fun _ => s2_1) (fun _ => s3_1) (fun _ => s4_1) (fun _ => s5_1) (fun _ => s6_1)) (is7 (C := (⟨cA, cB, cC, cD, cE, cF, cG⟩ : TC)) (p := fun b => cC ≠ b → PySem.W.subIn K (.ref b) (.ref cC) = some false) (fun _ => s0_2) (fun _ => s1_2) (fun h => absurd rfl h) (fun _ => s3_2) (fun _ => s4_2) (fun _ => s5_2) (fun _ => s6_2)) (is7 (C := (⟨cA, cB, cC, cD, cE, cF, cG⟩ : TC)) (p := fun b => cD ≠ b → PySem.W.subIn K (.ref b) (.ref cD) = some false) (fun _ => s0_3) (fun _ => s1_3) (fun _ => s2_3) (fun h => absurd rfl h) (fun _ => s4_3) (fun _ => s5_3) (fun _ => s6_3)) (is7 (C := (⟨cA, cB, cC, cD, cE, cF, cG⟩ : TC)) (p := fun b => cE ≠ b → PySem.W.subIn K (.ref b) (.ref cE) = some false) (fun _ => s0_4) (fun _ => s1_4) (fun _ => s2_4) (fun _ => s3_4) (fun h => absurd rfl h) (fun _ => s5_4) (fun _ => s6_4)) (is7 (C := (⟨cA, cB, cC, cD, cE, cF, cG⟩ : TC)) (p := fun b => cF ≠ b → PySem.W.subIn K (.ref b) (.ref cF) = some false) (fun _ => s0_5) (fun _ => s1_5) (fun _ => s2_5) (fun _ => s3_5) (fun _ => s4_5) (fun h => absurd rfl h) (fun _ => s6_5)) (is7 (C := (⟨cA, cB, cC, cD, cE, cF, cG⟩ : TC)) (p := fun b => cG ≠ b → PySem.W.subIn K (.ref b) (.ref cG) = some false) (fun _ => s0_6) (fun _ => s1_6) (fun _ => s2_6) (fun _ => s3_6) (fun _ => s4_6) (fun _ => s5_6) (fun h => absurd rfl h)) a ha b hb
  have OO : OpF K ((⟨cA, cB, cC, cD, cE, cF, cG⟩ : TC)).Is .BitOr fior := { sf := is7 (sf0) (sf1) (sf2) (sf3) (sf4) (sf5) (sf6), at_ := is7 (or0) (or1) (or2) (or3) (or4) (or5) (or6), rt := is7 (ro0) (ro1) (ro2) (ro3) (ro4) (ro5) (ro6), fn := m_ior.ex.choose_spec.1.fn, sub := sub7 }
  have ML : MethF K ((⟨cA, cB, cC, cD, cE, cF, cG⟩ : TC)).Is "later" flat := { at_ := is7 (⟨cl0, la0⟩) (⟨cl1, la1⟩) (⟨cl2, la2⟩) (⟨cl3, la3⟩) (⟨cl4, la4⟩) (⟨cl5, la5⟩) (⟨cl6, la6⟩), fn := m_lat.ex.choose_spec.1.fn, kp := m_lat.ex.choose_spec.1.kp }
  have ME : MethF K ((⟨cA, cB, cC, cD, cE, cF, cG⟩ : TC)).Is "earlier" fear := { at_ := is7 (⟨cl0, ea0⟩) (⟨cl1, ea1⟩) (⟨cl2, ea2⟩) (⟨cl3, ea3⟩) (⟨cl4, ea4⟩) (⟨cl5, ea5⟩) (⟨cl6, ea6⟩), fn := m_ear.ex.choose_spec.1.fn, kp := m_ear.ex.choose_spec.1.kp }
  have c_is_integer := cal_of (P := P) (w := w) (base := base) (ps := ["thing"]) d_is_integer (fun _ _ _ _ _ _ us hl => match us, hl with | [_], _ => rfl) fun f fd F => ok_is_integer F B
  have k1 : K1 P w K mg base := ⟨c_is_integer⟩
  have c_is_natural := cal_of (P := P) (w := w) (base := base) (ps := ["thing"]) d_is_natural (fun _ _ _ _ _ _ us hl => match us, hl with | [_], _ => rfl) fun f fd F => ok_is_natural F B k1
  have c_is_name := cal_of (P := P) (w := w) (base := base) (ps := ["thing"]) d_is_name (fun _ _ _ _ _ _ us hl => match us, hl with | [_], _ => rfl) fun f fd F => ok_is_name F B Cs
  have k2 : K2 P w K mg base := ⟨k1, c_is_natural, c_is_name⟩
  have c_are_integers := cal_of (P := P) (w := w) (base := base) (ps := ["things"]) d_are_integers (fun _ _ _ _ _ _ us hl => match us, hl with | [_], _ => rfl) fun f fd F => ok_are_integers F B k2
  have c_is_row := cal_of (P := P) (w := w) (base := base) (ps := ["thing"]) d_is_row (fun _ _ _ _ _ _ us hl => match us, hl with | [_], _ => rfl) fun f fd F => ok_is_row F B
  have k3 : K3 P w K mg base := ⟨k2, c_are_integers, c_is_row⟩
  have c_are_rows := cal_of (P := P) (w := w) (base := base) (ps := ["things"]) d_are_rows (fun _ _ _ _ _ _ us hl => match us, hl with | [_], _ => rfl) fun f fd F => ok_are_rows F B k3
  have c_first_twice := cal_of (P := P) (w := w) (base := base) (ps := ["numbers"]) d_first_twice (fun _ _ _ _ _ _ us hl => match us, hl with | [_], _ => rfl) fun f fd F => ok_twice F B
  have w1 : W1 P w K mg base := ⟨k3, c_are_rows, c_first_twice⟩
  have c_is_rows := cal_of (P := P) (w := w) (base := base) (ps := ["thing"]) d_is_rows (fun _ _ _ _ _ _ us hl => match us, hl with | [_], _ => rfl) fun f fd F => ok_is_rows F B w1
  have w2 : W2 P w K mg base := ⟨w1, c_is_rows⟩
  obtain ⟨fWI, fdWI, mWI, FWI⟩ := m_WI.ex
  have bWI : Binds K fdWI ["self", "rows"] [] := FWI.binds (ps := ["self", "rows"]) fun _ _ _ _ _ _ us hl => match us, hl with | [_, _], _ => rfl
  have oWI := ok_world_init (P := P) (w := w) (base := base) FWI B Cs TW w2
  obtain ⟨fWR, fdWR, mWR, FWR⟩ := m_WR.ex
  have bWR : Binds K fdWR ["self", "stream"] [] := FWR.binds (ps := ["self", "stream"]) fun _ _ _ _ _ _ us hl => match us, hl with | [_, _], _ => rfl
  have oWR := ok_world_rows (P := P) (w := w) (base := base) FWR B TW k2
  have c_is_term := cal_of (P := P) (w := w) (base := base) (ps := ["thing"]) d_is_term (fun _ _ _ _ _ _ us hl => match us, hl with | [_], _ => rfl) fun f fd F => ok_is_term F B TT
  have c_is_look := cal_of (P := P) (w := w) (base := base) (ps := ["thing"]) d_is_look (fun _ _ _ _ _ _ us hl => match us, hl with | [_], _ => rfl) fun f fd F => ok_is_look F B TT DD
  have t1 : T1 P w K mg base (⟨cA, cB, cC, cD, cE, cF, cG⟩ : TC) := ⟨w2, c_is_term, c_is_look⟩
  have c_checked_stream := cal_of (P := P) (w := w) (base := base) (ps := ["stream"]) d_checked_stream (fun _ _ _ _ _ _ us hl => match us, hl with | [_], _ => rfl) fun f fd F => ok_cstream F B t1
  have c_checked_term := cal_of (P := P) (w := w) (base := base) (ps := ["term"]) d_checked_term (fun _ _ _ _ _ _ us hl => match us, hl with | [_], _ => rfl) fun f fd F => ok_cterm F B t1
  have c_sizes := cal_of (P := P) (w := w) (base := base) (ps := ["children", "looks", "choices"]) d_sizes (fun _ _ _ _ _ _ us hl => match us, hl with | [_, _, _], _ => rfl) fun f fd F => ok_sizes F B Cs TT
  have t2 : T2 P w K mg base (⟨cA, cB, cC, cD, cE, cF, cG⟩ : TC) := ⟨t1, c_checked_stream, c_checked_term, c_sizes⟩
  obtain ⟨fNI, fdNI, mNI, FNI⟩ := m_NI.ex
  have bNI : Binds K fdNI ["self"] [] := FNI.binds (ps := ["self"]) fun _ _ _ _ _ _ us hl => match us, hl with | [_], _ => rfl
  have oNI := ok_now (P := P) (w := w) (base := base) FNI B TT t2
  obtain ⟨fLI, fdLI, mLI, FLI⟩ := m_LI.ex
  have bLI : Binds K fdLI ["self", "stream", "term"] [] := FLI.binds (ps := ["self", "stream", "term"]) fun _ _ _ _ _ _ us hl => match us, hl with | [_, _, _], _ => rfl
  have oLI := ok_last (P := P) (w := w) (base := base) FLI B TT t2
  obtain ⟨fXI, fdXI, mXI, FXI⟩ := m_XI.ex
  have bXI : Binds K fdXI ["self", "stream", "term"] [] := FXI.binds (ps := ["self", "stream", "term"]) fun _ _ _ _ _ _ us hl => match us, hl with | [_, _, _], _ => rfl
  have oXI := ok_next (P := P) (w := w) (base := base) FXI B TT t2
  obtain ⟨fSI, fdSI, mSI, FSI⟩ := m_SI.ex
  have bSI : Binds K fdSI ["self", "term", "amount"] [] := FSI.binds (ps := ["self", "term", "amount"]) fun _ _ _ _ _ _ us hl => match us, hl with | [_, _, _], _ => rfl
  have oSI := ok_shift (P := P) (w := w) (base := base) FSI B TT t2
  obtain ⟨fEI, fdEI, mEI, FEI⟩ := m_EI.ex
  have bEI : Binds K fdEI ["self", "first", "second"] [] := FEI.binds (ps := ["self", "first", "second"]) fun _ _ _ _ _ _ us hl => match us, hl with | [_, _, _], _ => rfl
  have oEI := ok_either (P := P) (w := w) (base := base) FEI B TT t2
  obtain ⟨fJI, fdJI, mJI, FJI⟩ := m_JI.ex
  have bJI : Binds K fdJI ["self", "first", "second"] [] := FJI.binds (ps := ["self", "first", "second"]) fun _ _ _ _ _ _ us hl => match us, hl with | [_, _, _], _ => rfl
  have oJI := ok_later (P := P) (w := w) (base := base) FJI B TT t2
  obtain ⟨fKI, fdKI, mKI, FKI⟩ := m_KI.ex
  have bKI : Binds K fdKI ["self", "first", "second"] [] := FKI.binds (ps := ["self", "first", "second"]) fun _ _ _ _ _ _ us hl => match us, hl with | [_, _, _], _ => rfl
  have oKI := ok_earlier (P := P) (w := w) (base := base) FKI B TT t2
  have t3 : T3s P w K mg base (⟨cA, cB, cC, cD, cE, cF, cG⟩ : TC) CW := ⟨t2, ⟨fSI, fdSI, ⟨mk3, mSI.at_, mSI.fn, kp3⟩, nm3, bSI, oSI⟩, ⟨fWR, fdWR, mWR, bWR, oWR⟩⟩
  have c_shifted := cal_of (P := P) (w := w) (base := base) (ps := ["term", "amount"]) d_shifted (fun _ _ _ _ _ _ us hl => match us, hl with | [_, _], _ => rfl) fun f fd F => ok_shifted F B TT DD t3
  have c_last_row := cal_of (P := P) (w := w) (base := base) (ps := ["world", "stream", "moment"]) d_last_row (fun _ _ _ _ _ _ us hl => match us, hl with | [_, _, _], _ => rfl) fun f fd F => ok_lastrow F B TW t3
  have c_next_row := cal_of (P := P) (w := w) (base := base) (ps := ["world", "stream", "moment"]) d_next_row (fun _ _ _ _ _ _ us hl => match us, hl with | [_, _, _], _ => rfl) fun f fd F => ok_nextrow F B TW t3
  have a1 : A1 P w K mg base (⟨cA, cB, cC, cD, cE, cF, cG⟩ : TC) CW := ⟨t3, c_last_row, c_next_row⟩
  have fo := fol_all B Cs TT DD a1 d_moved d_looked d_followed_either d_followed_both d_followed 12
  have c_is_amount := cal_of (P := P) (w := w) (base := base) (ps := ["thing"]) d_is_amount (fun _ _ _ _ _ _ us hl => match us, hl with | [_], _ => rfl) fun f fd F => ok_isam F B AF0
  have c_lookedA := cal_of (P := P) (w := w) (base := base) (ps := ["question", "world", "now", "place"]) d_looked (fun _ _ _ _ _ _ us hl => match us, hl with | [_, _, _, _], _ => rfl) fun f fd F => ok_lookedA F B TT AF0 fo
  have c_told_between := cal_of (P := P) (w := w) (base := base) (ps := ["question", "world", "now"]) d_told_between (fun _ _ _ _ _ _ us hl => match us, hl with | [_, _, _], _ => rfl) fun f fd F => ok_told F B TT AF0 TW fo
  have u0 : U0 P w K mg base (⟨aA, aB, aC, aD⟩ : AC) (⟨cA, cB, cC, cD, cE, cF, cG⟩ : TC) CW := ⟨fo, c_is_amount, c_lookedA, c_told_between⟩
  have c_is_question := cal_of (P := P) (w := w) (base := base) (ps := ["thing"]) d_is_question (fun _ _ _ _ _ _ us hl => match us, hl with | [_], _ => rfl) fun f fd F => ok_isq F B AF0 u0
  have u1 : U1 P w K mg base (⟨aA, aB, aC, aD⟩ : AC) (⟨cA, cB, cC, cD, cE, cF, cG⟩ : TC) CW := ⟨u0, c_is_question⟩
  have c_check := cal_of (P := P) (w := w) (base := base) (ps := ["question", "world", "now"]) d_check (fun _ _ _ _ _ _ us hl => match us, hl with | [_, _, _], _ => rfl) fun f fd F => ok_check F B TW wi u1
  have c_answered := cal_of (P := P) (w := w) (base := base) (ps := ["question", "world", "now"]) d_answered (fun _ _ _ _ _ _ us hl => match us, hl with | [_, _, _], _ => rfl) fun f fd F => ok_answered F B Cs AF0 u1
  have u2 : U2 P w K mg base (⟨aA, aB, aC, aD⟩ : AC) (⟨cA, cB, cC, cD, cE, cF, cG⟩ : TC) CW := ⟨u1, c_check, c_answered⟩
  have c_value := cal_of (P := P) (w := w) (base := base) (ps := ["question", "world", "now"]) d_value (fun _ _ _ _ _ _ us hl => match us, hl with | [_, _, _], _ => rfl) fun f fd F => ok_value F B u2
  have v3 : V3 P w K mg base (⟨cA, cB, cC, cD, cE, cF, cG⟩ : TC) CW := ⟨fo, c_shifted⟩
  have v4 : V4 P w K mg base (⟨cA, cB, cC, cD, cE, cF, cG⟩ : TC) CW := ⟨v3, ⟨fEI, fdEI, ⟨mk4, mEI.at_, mEI.fn, kp4⟩, nm4, bEI, oEI⟩, ⟨fJI, fdJI, ⟨mk5, mJI.at_, mJI.fn, kp5⟩, nm5, bJI, oJI⟩, ⟨fKI, fdKI, ⟨mk6, mKI.at_, mKI.fn, kp6⟩, nm6, bKI, oKI⟩⟩
  obtain ⟨fdadd, madd, Fadd⟩ := m_add.ex
  have badd : Binds K fdadd ["self", "other"] [] := Fadd.binds (ps := ["self", "other"]) fun _ _ _ _ _ _ us hl => match us, hl with | [_, _], _ => rfl
  have oAdd := ok_tadd (P := P) (w := w) (base := base) Fadd B v3
  obtain ⟨fdior, mior, Fior⟩ := m_ior.ex
  have bior : Binds K fdior ["self", "other"] [] := Fior.binds (ps := ["self", "other"]) fun _ _ _ _ _ _ us hl => match us, hl with | [_, _], _ => rfl
  have oOr := ok_tor (P := P) (w := w) (base := base) Fior B v4
  obtain ⟨fdlat, mlat, Flat⟩ := m_lat.ex
  have blat : Binds K fdlat ["self", "other"] [] := Flat.binds (ps := ["self", "other"]) fun _ _ _ _ _ _ us hl => match us, hl with | [_, _], _ => rfl
  have oLat := ok_tlater (P := P) (w := w) (base := base) Flat B v4
  obtain ⟨fdear, mear, Fear⟩ := m_ear.ex
  have bear : Binds K fdear ["self", "other"] [] := Fear.binds (ps := ["self", "other"]) fun _ _ _ _ _ _ us hl => match us, hl with | [_, _], _ => rfl
  have oEar := ok_tearlier (P := P) (w := w) (base := base) Fear B v4
  have c__law_pool := cal_of (P := P) (w := w) (base := base) (ps := ["script"]) d__law_pool (fun _ _ _ _ _ _ us hl => match us, hl with | [_], _ => rfl) fun f fd F => ok_pool F B
  have c__law_draw := cal_of (P := P) (w := w) (base := base) (ps := ["pool", "many"]) d__law_draw (fun _ _ _ _ _ _ us hl => match us, hl with | [_, _], _ => rfl) fun f fd F => ok_draw F B
  have g1 : G1 P w K mg base := ⟨c__law_draw⟩
  have c__law_names := cal_of (P := P) (w := w) (base := base) (ps := ["pool", "many"]) d__law_names (fun _ _ _ _ _ _ us hl => match us, hl with | [_, _], _ => rfl) fun f fd F => ok_names F B g1
  have c__law_moment := cal_of (P := P) (w := w) (base := base) (ps := ["pool"]) d__law_moment (fun _ _ _ _ _ _ us hl => match us, hl with | [_], _ => rfl) fun f fd F => ok_moment F B g1
  have g2 : G2w P w K mg base := ⟨g1, c__law_moment⟩
  have c__law_rows := cal_of (P := P) (w := w) (base := base) (ps := ["pool", "streams", "many"]) d__law_rows (fun _ _ _ _ _ _ us hl => match us, hl with | [_, _, _], _ => rfl) fun f fd F => ok_wrows F B g2
  have c__law_same := cal_of (P := P) (w := w) (base := base) (ps := ["told", "due"]) d__law_same (fun _ _ _ _ _ _ us hl => match us, hl with | [_, _], _ => rfl) fun f fd F => ok_same F B
  have ops : Ops P w K mg base (⟨cA, cB, cC, cD, cE, cF, cG⟩ : TC) := ⟨⟨_, _, OI, oAdd, badd⟩, ⟨_, _, OO, oOr, bior⟩, ⟨_, _, ML, oLat, blat⟩, ⟨_, _, ME, oEar, bear⟩⟩
  have b0 : B0 P w K mg base (⟨cA, cB, cC, cD, cE, cF, cG⟩ : TC) := ⟨⟨fNI, fdNI, ⟨mk0, mNI.at_, mNI.fn, kp0⟩, nm0, bNI, oNI⟩, ⟨fLI, fdLI, ⟨mk1, mLI.at_, mLI.fn, kp1⟩, nm1, bLI, oLI⟩, ⟨fXI, fdXI, ⟨mk2, mXI.at_, mXI.fn, kp2⟩, nm2, bXI, oXI⟩⟩
  obtain ⟨fnuI, fdnuI, mnuI, FnuI⟩ := m_nuI.ex
  have bnuI : Binds K fdnuI ["self", "stream", "term"] [] := FnuI.binds (ps := ["self", "stream", "term"]) fun _ _ _ _ _ _ us hl => match us, hl with | [_, _, _], _ => rfl
  have oNu := ok_number (P := P) (w := w) (base := base) FnuI B TT AF0 t2
  obtain ⟨fcoI, fdcoI, mcoI, FcoI⟩ := m_coI.ex
  have bcoI : Binds K fdcoI ["self", "stream", "first", "last"] [] := FcoI.binds (ps := ["self", "stream", "first", "last"]) fun _ _ _ _ _ _ us hl => match us, hl with | [_, _, _, _], _ => rfl
  have oCo := ok_count (P := P) (w := w) (base := base) FcoI B TT AF0 t2
  obtain ⟨ftoI, fdtoI, mtoI, FtoI⟩ := m_toI.ex
  have btoI : Binds K fdtoI ["self", "stream", "first", "last"] [] := FtoI.binds (ps := ["self", "stream", "first", "last"]) fun _ _ _ _ _ _ us hl => match us, hl with | [_, _, _, _], _ => rfl
  have oTo := ok_total (P := P) (w := w) (base := base) FtoI B TT AF0 t2
  obtain ⟨fgaI, fdgaI, mgaI, FgaI⟩ := m_gaI.ex
  have bgaI : Binds K fdgaI ["self", "first", "last"] [] := FgaI.binds (ps := ["self", "first", "last"]) fun _ _ _ _ _ _ us hl => match us, hl with | [_, _, _], _ => rfl
  have oGa := ok_gap (P := P) (w := w) (base := base) FgaI B TT AF0 t2
  have c__law_last := cal_of (P := P) (w := w) (base := base) (ps := ["rows", "moment"]) d__law_last (fun _ _ _ _ _ _ us hl => match us, hl with | [_, _], _ => rfl) fun f fd F => ok_llast F B
  have c__law_between := cal_of (P := P) (w := w) (base := base) (ps := ["rows", "low", "high"]) d__law_between (fun _ _ _ _ _ _ us hl => match us, hl with | [_, _, _], _ => rfl) fun f fd F => ok_lbetw F B
  have la : LA0 P w K mg base (⟨aA, aB, aC, aD⟩ : AC) (⟨cA, cB, cC, cD, cE, cF, cG⟩ : TC) CW := ⟨u2, c_value, c__law_same, c__law_last, c__law_between, ⟨fnuI, fdnuI, ⟨amk0, mnuI.at_, mnuI.fn, akp0⟩, anm0, bnuI, oNu⟩, ⟨fcoI, fdcoI, ⟨amk1, mcoI.at_, mcoI.fn, akp1⟩, anm1, bcoI, oCo⟩, ⟨ftoI, fdtoI, ⟨amk2, mtoI.at_, mtoI.fn, akp2⟩, anm2, btoI, oTo⟩, ⟨fgaI, fdgaI, ⟨amk3, mgaI.at_, mgaI.fn, akp3⟩, anm3, bgaI, oGa⟩, b0.Now⟩
  have c__law_amounts := cal_of (P := P) (w := w) (base := base) (ps := ["stream", "rows", "terms", "world", "now"]) d__law_amounts (fun _ _ _ _ _ _ us hl => match us, hl with | [_, _, _, _, _], _ => rfl) fun f fd F => ok_lamts F B la
  have c__law_added := cal_of (P := P) (w := w) (base := base) (ps := ["stream", "world", "now", "moments"]) d__law_added (fun _ _ _ _ _ _ us hl => match us, hl with | [_, _, _, _], _ => rfl) fun f fd F => ok_ladded F B la OI oAdd badd
  have gl : L11 P w K mg base (⟨aA, aB, aC, aD⟩ : AC) (⟨cA, cB, cC, cD, cE, cF, cG⟩ : TC) CW := ⟨c__law_pool, c__law_draw, c__law_names, c__law_moment, c__law_rows, (lterm_all B g2 d__law_term 3).law_term, (built_all B b0 ops d__law_built 4).law_built, c__law_amounts, c__law_added, c__law_same, c_value, la.Total, ⟨fWI, fdWI, ⟨mkW, mWI.at_, mWI.fn, kW⟩, TW.c, bWI, oWI⟩⟩
  exact ok_law F_law B gl
end
theorem all_mk {P : Program} {w : World} {K : PySem.W.Frag} {h : Heap} {mg : Str → Option Value} {fa CW cA cB cC cD cE cF cG aA aB aC aD fadd fior flat fear f4 : Addr} {oc4 kV4 dc4 pm4 cd4 ct4 : Value} {od4 an4 : Option Addr} {sl4 : Array (Option Value)} (X : K.In h) (G : h.Ns mainGlobals mg) (hfa : mg "law" = some (.ref fa))
    (a4 : PySem.W.nsIn K mainGlobals "law" = some (some (.ref f4))) (l4 : K.lookup f4 = some ⟨oc4, od4, .func (PySem.W.fnOf "law" "law" (defArgs s_law) (defBody s_law) (defScope s_law) .none kV4 dc4 pm4 an4 cd4 ct4), sl4⟩) (c4 : PySem.W.codeIn K cd4 "law" = true) (k4 : PySem.W.keepIn K (.ref f4) = true)
    (B : Blt mg)
    (Cs : Cst mg)
    (TW : Cw K mg CW)
    (wi : BkI K CW)
    (mkW : PySem.W.makesIn K CW = true)
    (kW : PySem.W.keepIn K (.ref CW) = true)
    (nm0 : mg "Now" = some (.ref cA))
    (cl0 : Cls K cA)
    (b0 : BkI K cA)
    (ic0 : PySem.W.isClsIn K cA = true)
    (ti0 : PySem.W.typeIn K (.ref cA) = some (.type "type"))
    (sf0 : PySem.W.selfFirst K cA = true)
    (at0 : PySem.W.findIn K (.ref cA) "__add__" = some (some (.ref fadd)))
    (rt0 : PySem.W.findIn K (.ref cA) "__radd__" = some none)
    (si0 : PySem.W.subIn K (.type "int") (.ref cA) = some false)
    (or0 : PySem.W.findIn K (.ref cA) "__or__" = some (some (.ref fior)))
    (ro0 : PySem.W.findIn K (.ref cA) "__ror__" = some none)
    (la0 : PySem.W.findIn K (.ref cA) "later" = some (some (.ref flat)))
    (ea0 : PySem.W.findIn K (.ref cA) "earlier" = some (some (.ref fear)))
    (n0_0 : NoAttr K cA "stream")
    (n0_1 : NoAttr K cA "term")
    (n0_2 : NoAttr K cA "first")
    (n0_3 : NoAttr K cA "second")
    (n0_4 : NoAttr K cA "amount")
    (n0_5 : NoAttr K cA "spelling")
    (n0_6 : NoAttr K cA "depth")
    (n0_7 : NoAttr K cA "parts")
    (n0_8 : NoAttr K cA "looks")
    (n0_9 : NoAttr K cA "choices")
    (s0_0 : PySem.W.subIn K (.ref cA) (.ref cA) = some true)
    (s0_1 : PySem.W.subIn K (.ref cA) (.ref cB) = some false)
    (s0_2 : PySem.W.subIn K (.ref cA) (.ref cC) = some false)
    (s0_3 : PySem.W.subIn K (.ref cA) (.ref cD) = some false)
    (s0_4 : PySem.W.subIn K (.ref cA) (.ref cE) = some false)
    (s0_5 : PySem.W.subIn K (.ref cA) (.ref cF) = some false)
    (s0_6 : PySem.W.subIn K (.ref cA) (.ref cG) = some false)
    (nm1 : mg "Last" = some (.ref cB))
    (cl1 : Cls K cB)
    (b1 : BkI K cB)
    (ic1 : PySem.W.isClsIn K cB = true)
    (ti1 : PySem.W.typeIn K (.ref cB) = some (.type "type"))
    (sf1 : PySem.W.selfFirst K cB = true)
    (at1 : PySem.W.findIn K (.ref cB) "__add__" = some (some (.ref fadd)))
    (rt1 : PySem.W.findIn K (.ref cB) "__radd__" = some none)
    (si1 : PySem.W.subIn K (.type "int") (.ref cB) = some false)
    (or1 : PySem.W.findIn K (.ref cB) "__or__" = some (some (.ref fior)))
    (ro1 : PySem.W.findIn K (.ref cB) "__ror__" = some none)
    (la1 : PySem.W.findIn K (.ref cB) "later" = some (some (.ref flat)))
    (ea1 : PySem.W.findIn K (.ref cB) "earlier" = some (some (.ref fear)))
    (n1_0 : NoAttr K cB "stream")
    (n1_1 : NoAttr K cB "term")
    (n1_2 : NoAttr K cB "first")
    (n1_3 : NoAttr K cB "second")
    (n1_4 : NoAttr K cB "amount")
    (n1_5 : NoAttr K cB "spelling")
    (n1_6 : NoAttr K cB "depth")
    (n1_7 : NoAttr K cB "parts")
    (n1_8 : NoAttr K cB "looks")
    (n1_9 : NoAttr K cB "choices")
    (s1_0 : PySem.W.subIn K (.ref cB) (.ref cA) = some false)
    (s1_1 : PySem.W.subIn K (.ref cB) (.ref cB) = some true)
    (s1_2 : PySem.W.subIn K (.ref cB) (.ref cC) = some false)
    (s1_3 : PySem.W.subIn K (.ref cB) (.ref cD) = some false)
    (s1_4 : PySem.W.subIn K (.ref cB) (.ref cE) = some false)
    (s1_5 : PySem.W.subIn K (.ref cB) (.ref cF) = some false)
    (s1_6 : PySem.W.subIn K (.ref cB) (.ref cG) = some false)
    (nm2 : mg "Next" = some (.ref cC))
    (cl2 : Cls K cC)
    (b2 : BkI K cC)
    (ic2 : PySem.W.isClsIn K cC = true)
    (ti2 : PySem.W.typeIn K (.ref cC) = some (.type "type"))
    (sf2 : PySem.W.selfFirst K cC = true)
    (at2 : PySem.W.findIn K (.ref cC) "__add__" = some (some (.ref fadd)))
    (rt2 : PySem.W.findIn K (.ref cC) "__radd__" = some none)
    (si2 : PySem.W.subIn K (.type "int") (.ref cC) = some false)
    (or2 : PySem.W.findIn K (.ref cC) "__or__" = some (some (.ref fior)))
    (ro2 : PySem.W.findIn K (.ref cC) "__ror__" = some none)
    (la2 : PySem.W.findIn K (.ref cC) "later" = some (some (.ref flat)))
    (ea2 : PySem.W.findIn K (.ref cC) "earlier" = some (some (.ref fear)))
    (n2_0 : NoAttr K cC "stream")
    (n2_1 : NoAttr K cC "term")
    (n2_2 : NoAttr K cC "first")
    (n2_3 : NoAttr K cC "second")
    (n2_4 : NoAttr K cC "amount")
    (n2_5 : NoAttr K cC "spelling")
    (n2_6 : NoAttr K cC "depth")
    (n2_7 : NoAttr K cC "parts")
    (n2_8 : NoAttr K cC "looks")
    (n2_9 : NoAttr K cC "choices")
    (s2_0 : PySem.W.subIn K (.ref cC) (.ref cA) = some false)
    (s2_1 : PySem.W.subIn K (.ref cC) (.ref cB) = some false)
    (s2_2 : PySem.W.subIn K (.ref cC) (.ref cC) = some true)
    (s2_3 : PySem.W.subIn K (.ref cC) (.ref cD) = some false)
    (s2_4 : PySem.W.subIn K (.ref cC) (.ref cE) = some false)
    (s2_5 : PySem.W.subIn K (.ref cC) (.ref cF) = some false)
    (s2_6 : PySem.W.subIn K (.ref cC) (.ref cG) = some false)
    (nm3 : mg "Shift" = some (.ref cD))
    (cl3 : Cls K cD)
    (b3 : BkI K cD)
    (ic3 : PySem.W.isClsIn K cD = true)
    (ti3 : PySem.W.typeIn K (.ref cD) = some (.type "type"))
    (sf3 : PySem.W.selfFirst K cD = true)
    (at3 : PySem.W.findIn K (.ref cD) "__add__" = some (some (.ref fadd)))
    (rt3 : PySem.W.findIn K (.ref cD) "__radd__" = some none)
    (si3 : PySem.W.subIn K (.type "int") (.ref cD) = some false)
    (or3 : PySem.W.findIn K (.ref cD) "__or__" = some (some (.ref fior)))
    (ro3 : PySem.W.findIn K (.ref cD) "__ror__" = some none)
    (la3 : PySem.W.findIn K (.ref cD) "later" = some (some (.ref flat)))
    (ea3 : PySem.W.findIn K (.ref cD) "earlier" = some (some (.ref fear)))
    (n3_0 : NoAttr K cD "stream")
    (n3_1 : NoAttr K cD "term")
    (n3_2 : NoAttr K cD "first")
    (n3_3 : NoAttr K cD "second")
    (n3_4 : NoAttr K cD "amount")
    (n3_5 : NoAttr K cD "spelling")
    (n3_6 : NoAttr K cD "depth")
    (n3_7 : NoAttr K cD "parts")
    (n3_8 : NoAttr K cD "looks")
    (n3_9 : NoAttr K cD "choices")
    (s3_0 : PySem.W.subIn K (.ref cD) (.ref cA) = some false)
    (s3_1 : PySem.W.subIn K (.ref cD) (.ref cB) = some false)
    (s3_2 : PySem.W.subIn K (.ref cD) (.ref cC) = some false)
    (s3_3 : PySem.W.subIn K (.ref cD) (.ref cD) = some true)
    (s3_4 : PySem.W.subIn K (.ref cD) (.ref cE) = some false)
    (s3_5 : PySem.W.subIn K (.ref cD) (.ref cF) = some false)
    (s3_6 : PySem.W.subIn K (.ref cD) (.ref cG) = some false)
    (nm4 : mg "Either" = some (.ref cE))
    (cl4 : Cls K cE)
    (b4 : BkI K cE)
    (ic4 : PySem.W.isClsIn K cE = true)
    (ti4 : PySem.W.typeIn K (.ref cE) = some (.type "type"))
    (sf4 : PySem.W.selfFirst K cE = true)
    (at4 : PySem.W.findIn K (.ref cE) "__add__" = some (some (.ref fadd)))
    (rt4 : PySem.W.findIn K (.ref cE) "__radd__" = some none)
    (si4 : PySem.W.subIn K (.type "int") (.ref cE) = some false)
    (or4 : PySem.W.findIn K (.ref cE) "__or__" = some (some (.ref fior)))
    (ro4 : PySem.W.findIn K (.ref cE) "__ror__" = some none)
    (la4 : PySem.W.findIn K (.ref cE) "later" = some (some (.ref flat)))
    (ea4 : PySem.W.findIn K (.ref cE) "earlier" = some (some (.ref fear)))
    (n4_0 : NoAttr K cE "stream")
    (n4_1 : NoAttr K cE "term")
    (n4_2 : NoAttr K cE "first")
    (n4_3 : NoAttr K cE "second")
    (n4_4 : NoAttr K cE "amount")
    (n4_5 : NoAttr K cE "spelling")
    (n4_6 : NoAttr K cE "depth")
    (n4_7 : NoAttr K cE "parts")
    (n4_8 : NoAttr K cE "looks")
    (n4_9 : NoAttr K cE "choices")
    (s4_0 : PySem.W.subIn K (.ref cE) (.ref cA) = some false)
    (s4_1 : PySem.W.subIn K (.ref cE) (.ref cB) = some false)
    (s4_2 : PySem.W.subIn K (.ref cE) (.ref cC) = some false)
    (s4_3 : PySem.W.subIn K (.ref cE) (.ref cD) = some false)
    (s4_4 : PySem.W.subIn K (.ref cE) (.ref cE) = some true)
    (s4_5 : PySem.W.subIn K (.ref cE) (.ref cF) = some false)
    (s4_6 : PySem.W.subIn K (.ref cE) (.ref cG) = some false)
    (nm5 : mg "Later" = some (.ref cF))
    (cl5 : Cls K cF)
    (b5 : BkI K cF)
    (ic5 : PySem.W.isClsIn K cF = true)
    (ti5 : PySem.W.typeIn K (.ref cF) = some (.type "type"))
    (sf5 : PySem.W.selfFirst K cF = true)
    (at5 : PySem.W.findIn K (.ref cF) "__add__" = some (some (.ref fadd)))
    (rt5 : PySem.W.findIn K (.ref cF) "__radd__" = some none)
    (si5 : PySem.W.subIn K (.type "int") (.ref cF) = some false)
    (or5 : PySem.W.findIn K (.ref cF) "__or__" = some (some (.ref fior)))
    (ro5 : PySem.W.findIn K (.ref cF) "__ror__" = some none)
    (la5 : PySem.W.findIn K (.ref cF) "later" = some (some (.ref flat)))
    (ea5 : PySem.W.findIn K (.ref cF) "earlier" = some (some (.ref fear)))
    (n5_0 : NoAttr K cF "stream")
    (n5_1 : NoAttr K cF "term")
    (n5_2 : NoAttr K cF "first")
    (n5_3 : NoAttr K cF "second")
    (n5_4 : NoAttr K cF "amount")
    (n5_5 : NoAttr K cF "spelling")
    (n5_6 : NoAttr K cF "depth")
    (n5_7 : NoAttr K cF "parts")
    (n5_8 : NoAttr K cF "looks")
    (n5_9 : NoAttr K cF "choices")
    (s5_0 : PySem.W.subIn K (.ref cF) (.ref cA) = some false)
    (s5_1 : PySem.W.subIn K (.ref cF) (.ref cB) = some false)
    (s5_2 : PySem.W.subIn K (.ref cF) (.ref cC) = some false)
    (s5_3 : PySem.W.subIn K (.ref cF) (.ref cD) = some false)
    (s5_4 : PySem.W.subIn K (.ref cF) (.ref cE) = some false)
    (s5_5 : PySem.W.subIn K (.ref cF) (.ref cF) = some true)
    (s5_6 : PySem.W.subIn K (.ref cF) (.ref cG) = some false)
    (nm6 : mg "Earlier" = some (.ref cG))
    (cl6 : Cls K cG)
    (b6 : BkI K cG)
    (ic6 : PySem.W.isClsIn K cG = true)
    (ti6 : PySem.W.typeIn K (.ref cG) = some (.type "type"))
    (sf6 : PySem.W.selfFirst K cG = true)
    (at6 : PySem.W.findIn K (.ref cG) "__add__" = some (some (.ref fadd)))
    (rt6 : PySem.W.findIn K (.ref cG) "__radd__" = some none)
    (si6 : PySem.W.subIn K (.type "int") (.ref cG) = some false)
    (or6 : PySem.W.findIn K (.ref cG) "__or__" = some (some (.ref fior)))
    (ro6 : PySem.W.findIn K (.ref cG) "__ror__" = some none)
    (la6 : PySem.W.findIn K (.ref cG) "later" = some (some (.ref flat)))
    (ea6 : PySem.W.findIn K (.ref cG) "earlier" = some (some (.ref fear)))
    (n6_0 : NoAttr K cG "stream")
    (n6_1 : NoAttr K cG "term")
    (n6_2 : NoAttr K cG "first")
    (n6_3 : NoAttr K cG "second")
    (n6_4 : NoAttr K cG "amount")
    (n6_5 : NoAttr K cG "spelling")
    (n6_6 : NoAttr K cG "depth")
    (n6_7 : NoAttr K cG "parts")
    (n6_8 : NoAttr K cG "looks")
    (n6_9 : NoAttr K cG "choices")
    (s6_0 : PySem.W.subIn K (.ref cG) (.ref cA) = some false)
    (s6_1 : PySem.W.subIn K (.ref cG) (.ref cB) = some false)
    (s6_2 : PySem.W.subIn K (.ref cG) (.ref cC) = some false)
    (s6_3 : PySem.W.subIn K (.ref cG) (.ref cD) = some false)
    (s6_4 : PySem.W.subIn K (.ref cG) (.ref cE) = some false)
    (s6_5 : PySem.W.subIn K (.ref cG) (.ref cF) = some false)
    (s6_6 : PySem.W.subIn K (.ref cG) (.ref cG) = some true)
    (mk0 : PySem.W.makesIn K cA = true)
    (kp0 : PySem.W.keepIn K (.ref cA) = true)
    (mk1 : PySem.W.makesIn K cB = true)
    (kp1 : PySem.W.keepIn K (.ref cB) = true)
    (mk2 : PySem.W.makesIn K cC = true)
    (kp2 : PySem.W.keepIn K (.ref cC) = true)
    (mk3 : PySem.W.makesIn K cD = true)
    (kp3 : PySem.W.keepIn K (.ref cD) = true)
    (mk4 : PySem.W.makesIn K cE = true)
    (kp4 : PySem.W.keepIn K (.ref cE) = true)
    (mk5 : PySem.W.makesIn K cF = true)
    (kp5 : PySem.W.keepIn K (.ref cF) = true)
    (mk6 : PySem.W.makesIn K cG = true)
    (kp6 : PySem.W.keepIn K (.ref cG) = true)
    (i1 : PySem.W.findIn K (.type "int") "__add__" = some (some (.builtin "int.__add__")))
    (i2 : PySem.W.findIn K (.type "int") "__radd__" = some (some (.builtin "int.__radd__")))
    (anm0 : mg "Number" = some (.ref aA))
    (acl0 : Cls K aA)
    (ab0 : BkI K aA)
    (aic0 : PySem.W.isClsIn K aA = true)
    (ati0 : PySem.W.typeIn K (.ref aA) = some (.type "type"))
    (an0_0 : NoAttr K aA "stream")
    (an0_1 : NoAttr K aA "term")
    (an0_2 : NoAttr K aA "first")
    (an0_3 : NoAttr K aA "last")
    (an0_4 : NoAttr K aA "spelling")
    (as0_0 : PySem.W.subIn K (.ref aA) (.ref aA) = some true)
    (as0_1 : PySem.W.subIn K (.ref aA) (.ref aB) = some false)
    (as0_2 : PySem.W.subIn K (.ref aA) (.ref aC) = some false)
    (as0_3 : PySem.W.subIn K (.ref aA) (.ref aD) = some false)
    (at0_0 : PySem.W.subIn K (.ref aA) (.ref cA) = some false)
    (at0_1 : PySem.W.subIn K (.ref aA) (.ref cB) = some false)
    (at0_2 : PySem.W.subIn K (.ref aA) (.ref cC) = some false)
    (at0_3 : PySem.W.subIn K (.ref aA) (.ref cD) = some false)
    (at0_4 : PySem.W.subIn K (.ref aA) (.ref cE) = some false)
    (at0_5 : PySem.W.subIn K (.ref aA) (.ref cF) = some false)
    (at0_6 : PySem.W.subIn K (.ref aA) (.ref cG) = some false)
    (amk0 : PySem.W.makesIn K aA = true)
    (akp0 : PySem.W.keepIn K (.ref aA) = true)
    (anm1 : mg "Count" = some (.ref aB))
    (acl1 : Cls K aB)
    (ab1 : BkI K aB)
    (aic1 : PySem.W.isClsIn K aB = true)
    (ati1 : PySem.W.typeIn K (.ref aB) = some (.type "type"))
    (an1_0 : NoAttr K aB "stream")
    (an1_1 : NoAttr K aB "term")
    (an1_2 : NoAttr K aB "first")
    (an1_3 : NoAttr K aB "last")
    (an1_4 : NoAttr K aB "spelling")
    (as1_0 : PySem.W.subIn K (.ref aB) (.ref aA) = some false)
    (as1_1 : PySem.W.subIn K (.ref aB) (.ref aB) = some true)
    (as1_2 : PySem.W.subIn K (.ref aB) (.ref aC) = some false)
    (as1_3 : PySem.W.subIn K (.ref aB) (.ref aD) = some false)
    (at1_0 : PySem.W.subIn K (.ref aB) (.ref cA) = some false)
    (at1_1 : PySem.W.subIn K (.ref aB) (.ref cB) = some false)
    (at1_2 : PySem.W.subIn K (.ref aB) (.ref cC) = some false)
    (at1_3 : PySem.W.subIn K (.ref aB) (.ref cD) = some false)
    (at1_4 : PySem.W.subIn K (.ref aB) (.ref cE) = some false)
    (at1_5 : PySem.W.subIn K (.ref aB) (.ref cF) = some false)
    (at1_6 : PySem.W.subIn K (.ref aB) (.ref cG) = some false)
    (amk1 : PySem.W.makesIn K aB = true)
    (akp1 : PySem.W.keepIn K (.ref aB) = true)
    (anm2 : mg "Total" = some (.ref aC))
    (acl2 : Cls K aC)
    (ab2 : BkI K aC)
    (aic2 : PySem.W.isClsIn K aC = true)
    (ati2 : PySem.W.typeIn K (.ref aC) = some (.type "type"))
    (an2_0 : NoAttr K aC "stream")
    (an2_1 : NoAttr K aC "term")
    (an2_2 : NoAttr K aC "first")
    (an2_3 : NoAttr K aC "last")
    (an2_4 : NoAttr K aC "spelling")
    (as2_0 : PySem.W.subIn K (.ref aC) (.ref aA) = some false)
    (as2_1 : PySem.W.subIn K (.ref aC) (.ref aB) = some false)
    (as2_2 : PySem.W.subIn K (.ref aC) (.ref aC) = some true)
    (as2_3 : PySem.W.subIn K (.ref aC) (.ref aD) = some false)
    (at2_0 : PySem.W.subIn K (.ref aC) (.ref cA) = some false)
    (at2_1 : PySem.W.subIn K (.ref aC) (.ref cB) = some false)
    (at2_2 : PySem.W.subIn K (.ref aC) (.ref cC) = some false)
    (at2_3 : PySem.W.subIn K (.ref aC) (.ref cD) = some false)
    (at2_4 : PySem.W.subIn K (.ref aC) (.ref cE) = some false)
    (at2_5 : PySem.W.subIn K (.ref aC) (.ref cF) = some false)
    (at2_6 : PySem.W.subIn K (.ref aC) (.ref cG) = some false)
    (amk2 : PySem.W.makesIn K aC = true)
    (akp2 : PySem.W.keepIn K (.ref aC) = true)
    (anm3 : mg "Gap" = some (.ref aD))
    (acl3 : Cls K aD)
    (ab3 : BkI K aD)
    (aic3 : PySem.W.isClsIn K aD = true)
    (ati3 : PySem.W.typeIn K (.ref aD) = some (.type "type"))
    (an3_0 : NoAttr K aD "stream")
    (an3_1 : NoAttr K aD "term")
    (an3_2 : NoAttr K aD "first")
    (an3_3 : NoAttr K aD "last")
    (an3_4 : NoAttr K aD "spelling")
    (as3_0 : PySem.W.subIn K (.ref aD) (.ref aA) = some false)
    (as3_1 : PySem.W.subIn K (.ref aD) (.ref aB) = some false)
    (as3_2 : PySem.W.subIn K (.ref aD) (.ref aC) = some false)
    (as3_3 : PySem.W.subIn K (.ref aD) (.ref aD) = some true)
    (at3_0 : PySem.W.subIn K (.ref aD) (.ref cA) = some false)
    (at3_1 : PySem.W.subIn K (.ref aD) (.ref cB) = some false)
    (at3_2 : PySem.W.subIn K (.ref aD) (.ref cC) = some false)
    (at3_3 : PySem.W.subIn K (.ref aD) (.ref cD) = some false)
    (at3_4 : PySem.W.subIn K (.ref aD) (.ref cE) = some false)
    (at3_5 : PySem.W.subIn K (.ref aD) (.ref cF) = some false)
    (at3_6 : PySem.W.subIn K (.ref aD) (.ref cG) = some false)
    (amk3 : PySem.W.makesIn K aD = true)
    (akp3 : PySem.W.keepIn K (.ref aD) = true)
    (d_is_integer : D1 K mg "is_integer" s_is_integer)
    (d_is_natural : D1 K mg "is_natural" s_is_natural)
    (d_is_name : D1 K mg "is_name" s_is_name)
    (d_are_integers : D1 K mg "are_integers" s_are_integers)
    (d_is_row : D1 K mg "is_row" s_is_row)
    (d_are_rows : D1 K mg "are_rows" s_are_rows)
    (d_first_twice : D1 K mg "first_twice" s_first_twice)
    (d_is_rows : D1 K mg "is_rows" s_is_rows)
    (d_is_term : D1 K mg "is_term" s_is_term)
    (d_is_look : D1 K mg "is_look" s_is_look)
    (d_checked_stream : D1 K mg "checked_stream" s_checked_stream)
    (d_checked_term : D1 K mg "checked_term" s_checked_term)
    (d_sizes : D1 K mg "sizes" s_sizes)
    (d_shifted : D1 K mg "shifted" s_shifted)
    (d_last_row : D1 K mg "last_row" s_last_row)
    (d_next_row : D1 K mg "next_row" s_next_row)
    (d_moved : D1 K mg "moved" s_moved)
    (d_looked : D1 K mg "looked" s_looked)
    (d_followed_either : D1 K mg "followed_either" s_followed_either)
    (d_followed_both : D1 K mg "followed_both" s_followed_both)
    (d_followed : D1 K mg "followed" s_followed)
    (d_is_amount : D1 K mg "is_amount" s_is_amount)
    (d_told_between : D1 K mg "told_between" s_told_between)
    (d_is_question : D1 K mg "is_question" s_is_question)
    (d_check : D1 K mg "check" s_check)
    (d_answered : D1 K mg "answered" s_answered)
    (d_value : D1 K mg "value" s_value)
    (d__law_pool : D1 K mg "_law_pool" s_l_pool)
    (d__law_draw : D1 K mg "_law_draw" s_l_draw)
    (d__law_names : D1 K mg "_law_names" s_l_names)
    (d__law_moment : D1 K mg "_law_moment" s_l_moment)
    (d__law_rows : D1 K mg "_law_rows" s_l_rows)
    (d__law_term : D1 K mg "_law_term" s_l_term)
    (d__law_built : D1 K mg "_law_built" s_l_built)
    (d__law_last : D1 K mg "_law_last" s_l_last)
    (d__law_between : D1 K mg "_law_between" s_l_between)
    (d__law_amounts : D1 K mg "_law_amounts" s_l_amounts)
    (d__law_added : D1 K mg "_law_added" s_l_added)
    (d__law_same : D1 K mg "_law_same" s_l_same)
    (m_WI : DM K CW "__init__" "World.__init__" s_World_init)
    (m_WR : DM K CW "rows" "World.rows" s_World_rows)
    (m_NI : DM K cA "__init__" "Now.__init__" s_Now_init)
    (m_LI : DM K cB "__init__" "Last.__init__" s_Last_init)
    (m_XI : DM K cC "__init__" "Next.__init__" s_Next_init)
    (m_SI : DM K cD "__init__" "Shift.__init__" s_Shift_init)
    (m_EI : DM K cE "__init__" "Either.__init__" s_Either_init)
    (m_JI : DM K cF "__init__" "Later.__init__" s_Later_init)
    (m_KI : DM K cG "__init__" "Earlier.__init__" s_Earlier_init)
    (m_nuI : DM K aA "__init__" "Number.__init__" s_Number_init)
    (m_coI : DM K aB "__init__" "Count.__init__" s_Count_init)
    (m_toI : DM K aC "__init__" "Total.__init__" s_Total_init)
    (m_gaI : DM K aD "__init__" "Gap.__init__" s_Gap_init)
    (m_add : DQ K cA fadd "__add__" "Term.__add__" s_Term_add)
    (m_ior : DQ K cA fior "__or__" "Term.__or__" s_Term_or)
    (m_lat : DQ K cA flat "later" "Term.later" s_Term_later)
    (m_ear : DQ K cA fear "earlier" "Term.earlier" s_Term_earlier)
    : ∃ fd : FuncData, (∀ (s : Shared) (v : Value), BindsTo s fd ⟨[v], []⟩ [("script", v)]) ∧ ∀ base : Heap, K.In base → base.Ns mainGlobals mg → FnOk P w K mg base CX0 40 fa fd ["script"] (spLaw K) := by
  have e := hfa.symm.trans (PySem.W.mg_of X G a4)
  cases e
  exact ⟨PySem.W.fnOf "law" "law" (defArgs s_law) (defBody s_law) (defScope s_law) .none kV4 dc4 pm4 an4 cd4 ct4, fun s v => .of_eq rfl, fun base _ _ => all_ok B Cs TW wi mkW kW nm0 cl0 b0 ic0 ti0 sf0 at0 rt0 si0 or0 ro0 la0 ea0 n0_0 n0_1 n0_2 n0_3 n0_4 n0_5 n0_6 n0_7 n0_8 n0_9 s0_0 s0_1 s0_2 s0_3 s0_4 s0_5 s0_6 nm1 cl1 b1 ic1 ti1 sf1 at1 rt1 si1 or1 ro1 la1 ea1 n1_0 n1_1 n1_2 n1_3 n1_4 n1_5 n1_6 n1_7 n1_8 n1_9 s1_0 s1_1 s1_2 s1_3 s1_4 s1_5 s1_6 nm2 cl2 b2 ic2 ti2 sf2 at2 rt2 si2 or2 ro2 la2 ea2 n2_0 n2_1 n2_2 n2_3 n2_4 n2_5 n2_6 n2_7 n2_8 n2_9 s2_0 s2_1 s2_2 s2_3 s2_4 s2_5 s2_6 nm3 cl3 b3 ic3 ti3 sf3 at3 rt3 si3 or3 ro3 la3 ea3 n3_0 n3_1 n3_2 n3_3 n3_4 n3_5 n3_6 n3_7 n3_8 n3_9 s3_0 s3_1 s3_2 s3_3 s3_4 s3_5 s3_6 nm4 cl4 b4 ic4 ti4 sf4 at4 rt4 si4 or4 ro4 la4 ea4 n4_0 n4_1 n4_2 n4_3 n4_4 n4_5 n4_6 n4_7 n4_8 n4_9 s4_0 s4_1 s4_2 s4_3 s4_4 s4_5 s4_6 nm5 cl5 b5 ic5 ti5 sf5 at5 rt5 si5 or5 ro5 la5 ea5 n5_0 n5_1 n5_2 n5_3 n5_4 n5_5 n5_6 n5_7 n5_8 n5_9 s5_0 s5_1 s5_2 s5_3 s5_4 s5_5 s5_6 nm6 cl6 b6 ic6 ti6 sf6 at6 rt6 si6 or6 ro6 la6 ea6 n6_0 n6_1 n6_2 n6_3 n6_4 n6_5 n6_6 n6_7 n6_8 n6_9 s6_0 s6_1 s6_2 s6_3 s6_4 s6_5 s6_6 mk0 kp0 mk1 kp1 mk2 kp2 mk3 kp3 mk4 kp4 mk5 kp5 mk6 kp6 i1 i2 anm0 acl0 ab0 aic0 ati0 an0_0 an0_1 an0_2 an0_3 an0_4 as0_0 as0_1 as0_2 as0_3 at0_0 at0_1 at0_2 at0_3 at0_4 at0_5 at0_6 amk0 akp0 anm1 acl1 ab1 aic1 ati1 an1_0 an1_1 an1_2 an1_3 an1_4 as1_0 as1_1 as1_2 as1_3 at1_0 at1_1 at1_2 at1_3 at1_4 at1_5 at1_6 amk1 akp1 anm2 acl2 ab2 aic2 ati2 an2_0 an2_1 an2_2 an2_3 an2_4 as2_0 as2_1 as2_2 as2_3 at2_0 at2_1 at2_2 at2_3 at2_4 at2_5 at2_6 amk2 akp2 anm3 acl3 ab3 aic3 ati3 an3_0 an3_1 an3_2 an3_3 an3_4 as3_0 as3_1 as3_2 as3_3 at3_0 at3_1 at3_2 at3_3 at3_4 at3_5 at3_6 amk3 akp3 d_is_integer d_is_natural d_is_name d_are_integers d_is_row d_are_rows d_first_twice d_is_rows d_is_term d_is_look d_checked_stream d_checked_term d_sizes d_shifted d_last_row d_next_row d_moved d_looked d_followed_either d_followed_both d_followed d_is_amount d_told_between d_is_question d_check d_answered d_value d__law_pool d__law_draw d__law_names d__law_moment d__law_rows d__law_term d__law_built d__law_last d__law_between d__law_amounts d__law_added d__law_same m_WI m_WR m_NI m_LI m_XI m_SI m_EI m_JI m_KI m_nuI m_coI m_toI m_gaI m_add m_ior m_lat m_ear (fun_mk l4 c4 k4)⟩
theorem walk {l : PySem.W.OpenLaw} {q : Program} {loose : List Str} {XP : (Str → Option Value) → Heap → Prop} {YP : World → Heap → Prop} {d : DefRec} {K : Params → PySem.W.Frag} (hn : l.most = some 63) (hdf : d.params.defaults = [])
    (hY : ∀ (w : World) (h : Heap), YP w h → (K w.params).In h)
    (F : ∀ (w : World) (mg : Str → Option Value) (fa : Addr) (h : Heap), (K w.params).In h → h.Ns mainGlobals mg → mg d.name = some (.ref fa) →
      ∃ fd : FuncData, (∀ (s : Shared) (u : Value), BindsTo s fd ⟨[u], []⟩ [("script", u)]) ∧ ∀ base : Heap, (K w.params).In base → base.Ns mainGlobals mg → FnOk l.prog w (K w.params) mg base CX0 40 fa fd ["script"] (spLaw (K w.params))) :
    PySem.W.WalkO q loose XP YP l.row.toRowW d [] (fun f vs => PySem.call f vs) :=
  L2.walk_of (n := 63) (k := 40) (x := "script") (CX := fun _ => CX0) (sp := fun w => spLaw (K w.params)) hn (by decide) hdf ⟨rfl, by decide, by decide⟩ hY F (fun _ _ a ns hl _ hS => ⟨a, ns, rfl, hS, hl, fun _ => rfl⟩) fun _ _ _ _ _ z => z
end Ash

set_option Elab.async false
open PySem PySem.W PyProof.Rows
/-! names that are taken: the head makes no twins of these parts of the heap -/
theorem PySem.W.Fast.tw8120676791948874125 : True := trivial
theorem PySem.W.Fast.tw16068437519282104624 : True := trivial
theorem PySem.W.Fast.tw12093888735446713562 : True := trivial
theorem PySem.W.Fast.tw216255729415082294 : True := trivial
theorem PySem.W.Fast.tw14185520710028863251 : True := trivial
theorem PySem.W.Fast.tw14325122504937013199 : True := trivial
theorem PySem.W.Fast.tw7343034803183467234 : True := trivial
theorem PySem.W.Fast.tw14986569297508814335 : True := trivial
theorem PySem.W.Fast.tw8874543537005786075 : True := trivial
theorem PySem.W.Fast.tw126796763266713670 : True := trivial
theorem PySem.W.Fast.tw17633652438570243250 : True := trivial
theorem PySem.W.Fast.tw6736559819353624927 : True := trivial
theorem PySem.W.Fast.tw14216228935480644267 : True := trivial
theorem PySem.W.Fast.tw3336559163585135918 : True := trivial
theorem PySem.W.Fast.tw334842620006590629 : True := trivial
theorem PySem.W.Fast.tw15041113916849979927 : True := trivial
theorem PySem.W.Fast.tw14026455996425808754 : True := trivial
theorem PySem.W.Fast.tw2533200009094152148 : True := trivial
theorem PySem.W.Fast.tw8560444916857647770 : True := trivial
theorem PySem.W.Fast.tw18144855331610668999 : True := trivial
theorem PySem.W.Fast.tw7977211563364740839 : True := trivial
theorem PySem.W.Fast.tw10275725124926720633 : True := trivial
theorem PySem.W.Fast.tw1904827880069363328 : True := trivial
theorem PySem.W.Fast.tw7659039359725618713 : True := trivial
theorem PySem.W.Fast.tw7609004837148047094 : True := trivial
theorem PySem.W.Fast.tw12827451718114681692 : True := trivial
theorem PySem.W.Fast.tw15745289166290583236 : True := trivial
theorem PySem.W.Fast.tw12965318905979883674 : True := trivial
theorem PySem.W.Fast.tw6912556553407476070 : True := trivial
theorem PySem.W.Fast.tw17837813981901546076 : True := trivial
theorem PySem.W.Fast.tw16243743554168305962 : True := trivial
theorem PySem.W.Fast.tw16285632876152363875 : True := trivial
theorem PySem.W.Fast.tw13322900865430223275 : True := trivial
theorem PySem.W.Fast.tw6872709925229944692 : True := trivial
theorem PySem.W.Fast.tw1579298011255237572 : True := trivial
theorem PySem.W.Fast.tw17353285877245170709 : True := trivial
theorem PySem.W.Fast.tw13893992430402344418 : True := trivial
theorem PySem.W.Fast.tw9674845233986997557 : True := trivial
theorem PySem.W.Fast.tw12772400050459634970 : True := trivial
theorem PySem.W.Fast.tw9874450568038846238 : True := trivial
theorem PySem.W.Fast.tw15169815654583757959 : True := trivial
theorem PySem.W.Fast.tw5794635930469982704 : True := trivial
theorem PySem.W.Fast.tw11558008488984401247 : True := trivial
theorem PySem.W.Fast.tw5584635483025887588 : True := trivial
theorem PySem.W.Fast.tw2881996509087755058 : True := trivial
theorem PySem.W.Fast.tw2300383063912314103 : True := trivial
theorem PySem.W.Fast.tw7039849197809630150 : True := trivial
theorem PySem.W.Fast.tw16284302464148098379 : True := trivial
theorem PySem.W.Fast.tw10627630069243508951 : True := trivial
theorem PySem.W.Fast.tw1866120180257579711 : True := trivial
theorem PySem.W.Fast.tw1594319074354952017 : True := trivial
theorem PySem.W.Fast.tw11855299650568988828 : True := trivial
theorem PySem.W.Fast.tw5469035515711018779 : True := trivial
theorem PySem.W.Fast.tw10492804003107817998 : True := trivial
theorem PySem.W.Fast.tw8272225707170628099 : True := trivial
theorem PySem.W.Fast.tw15736048573949352793 : True := trivial
theorem PySem.W.Fast.tw5383097611897177090 : True := trivial
theorem PySem.W.Fast.tw13070895772648743679 : True := trivial
theorem PySem.W.Fast.tw7218125444308644341 : True := trivial
theorem PySem.W.Fast.tw3939079371939688604 : True := trivial
theorem PySem.W.Fast.tw6345285526244423753 : True := trivial
theorem PySem.W.Fast.tw17596556374394543374 : True := trivial
theorem PySem.W.Fast.tw11073539035049274352 : True := trivial
theorem PySem.W.Fast.tw12394547921002818653 : True := trivial
theorem PySem.W.Fast.tw8637610797919125868 : True := trivial
theorem PySem.W.Fast.tw2246060253400496197 : True := trivial
theorem PySem.W.Fast.tw12156716263334829325 : True := trivial
theorem PySem.W.Fast.tw4218729720052502391 : True := trivial
theorem PySem.W.Fast.tw12099087798615608863 : True := trivial
theorem PySem.W.Fast.tw71516038740056019 : True := trivial
theorem PySem.W.Fast.tw9635474964015657282 : True := trivial
theorem PySem.W.Fast.tw13777490177446697012 : True := trivial
theorem PySem.W.Fast.tw1675499046823865156 : True := trivial
theorem PySem.W.Fast.tw1417052073432642746 : True := trivial
theorem PySem.W.Fast.tw4378990717071978051 : True := trivial
theorem PySem.W.Fast.tw7006670146285994015 : True := trivial
theorem PySem.W.Fast.tw14183458271937399369 : True := trivial
theorem PySem.W.Fast.tw6666948533786623626 : True := trivial
theorem PySem.W.Fast.tw7190889117053819119 : True := trivial
theorem PySem.W.Fast.tw14279848611620172062 : True := trivial
theorem PySem.W.Fast.tw17706566434593612717 : True := trivial
theorem PySem.W.Fast.tw7892944021574326288 : True := trivial
theorem PySem.W.Fast.tw11322350072244542533 : True := trivial
theorem PySem.W.Fast.tw8332275760367771678 : True := trivial
theorem PySem.W.Fast.tw4039695031265532466 : True := trivial
theorem PySem.W.Fast.tw1090002807606559432 : True := trivial
theorem PySem.W.Fast.tw795772753480741892 : True := trivial
theorem PySem.W.Fast.tw12586684331290071870 : True := trivial
theorem PySem.W.Fast.tw8529248592925073035 : True := trivial
theorem PySem.W.Fast.tw5552743285546349248 : True := trivial
theorem PySem.W.Fast.tw17339629091384722206 : True := trivial
theorem PySem.W.Fast.tw16150537217428908179 : True := trivial
theorem PySem.W.Fast.tw14049331401635614757 : True := trivial
theorem PySem.W.Fast.tw6175645188002736811 : True := trivial
theorem PySem.W.Fast.tw1550047851576837275 : True := trivial
theorem PySem.W.Fast.tw6878958901799834767 : True := trivial
theorem PySem.W.Fast.tw1134035529789360470 : True := trivial
theorem PySem.W.Fast.tw1315509391081310930 : True := trivial
theorem PySem.W.Fast.tw11607823827715299070 : True := trivial
theorem PySem.W.Fast.tw5002648998986787594 : True := trivial
theorem PySem.W.Fast.tw11683332682985729695 : True := trivial
theorem PySem.W.Fast.tw5885752506226419183 : True := trivial
theorem PySem.W.Fast.tw18053348538172278904 : True := trivial
theorem PySem.W.Fast.tw6530226016918573418 : True := trivial
theorem PySem.W.Fast.tw6973196559058646886 : True := trivial
theorem PySem.W.Fast.tw6453767026580882371 : True := trivial
theorem PySem.W.Fast.tw3019132643266067556 : True := trivial
theorem PySem.W.Fast.tw16463693642891736510 : True := trivial
theorem PySem.W.Fast.tw2450537441525533924 : True := trivial
theorem PySem.W.Fast.tw4164220476670034819 : True := trivial
theorem PySem.W.Fast.tw7647315401983084732 : True := trivial
theorem PySem.W.Fast.tw15744472976915073488 : True := trivial
theorem PySem.W.Fast.tw2417738153933382670 : True := trivial
theorem PySem.W.Fast.tw8448988462627558638 : True := trivial
theorem PySem.W.Fast.tw17095698873383362283 : True := trivial
theorem PySem.W.Fast.tw5034553145076089298 : True := trivial
theorem PySem.W.Fast.tw7633340435240089589 : True := trivial
theorem PySem.W.Fast.tw16406283430406617383 : True := trivial
theorem PySem.W.Fast.tw9207734519548697283 : True := trivial
theorem PySem.W.Fast.tw7269667936418178534 : True := trivial
theorem PySem.W.Fast.tw16350458599630036783 : True := trivial
theorem PySem.W.Fast.tw9170658756322152550 : True := trivial
theorem PySem.W.Fast.tw15538828142993705116 : True := trivial
theorem PySem.W.Fast.tw10364845685509199731 : True := trivial
theorem PySem.W.Fast.tw7752214146276869919 : True := trivial
theorem PySem.W.Fast.tw7610619849707786863 : True := trivial
theorem PySem.W.Fast.tw4392950010106704514 : True := trivial
theorem PySem.W.Fast.tw4392642346725290754 : True := trivial
theorem PySem.W.Fast.tw17714531271528314821 : True := trivial
theorem PySem.W.Fast.tw16630897443895061061 : True := trivial
theorem PySem.W.Fast.tw6055906369056995920 : True := trivial
theorem PySem.W.Fast.tw18347412299376057843 : True := trivial
theorem PySem.W.Fast.tw6365852267632864490 : True := trivial
theorem PySem.W.Fast.tw11234636293636020389 : True := trivial
theorem PySem.W.Fast.tw17683478290423173073 : True := trivial
theorem PySem.W.Fast.tw2033378020692241689 : True := trivial
theorem PySem.W.Fast.tw8044944426522236100 : True := trivial
theorem PySem.W.Fast.tw2451815383976396846 : True := trivial
theorem PySem.W.Fast.tw6015657895039380454 : True := trivial
theorem PySem.W.Fast.tw1661528840531955116 : True := trivial
theorem PySem.W.Fast.tw15314189809618481998 : True := trivial
theorem PySem.W.Fast.tw6248298659350613159 : True := trivial
theorem PySem.W.Fast.tw4317229137380899228 : True := trivial
theorem PySem.W.Fast.tw3609896700504850437 : True := trivial
theorem PySem.W.Fast.tw9733421994180613540 : True := trivial
theorem PySem.W.Fast.tw3631389735558246198 : True := trivial
theorem PySem.W.Fast.tw5951735941421598414 : True := trivial
theorem PySem.W.Fast.tw15690041129284904802 : True := trivial
theorem PySem.W.Fast.tw3969774391852601818 : True := trivial
theorem PySem.W.Fast.tw7921415758878156440 : True := trivial
theorem PySem.W.Fast.tw17010131117289131000 : True := trivial
theorem PySem.W.Fast.tw5717234446963363599 : True := trivial
theorem PySem.W.Fast.tw2694607641699286875 : True := trivial
theorem PySem.W.Fast.tw3721676252064671198 : True := trivial
theorem PySem.W.Fast.tw3545410309126580394 : True := trivial
theorem PySem.W.Fast.tw16142047923608212689 : True := trivial
theorem PySem.W.Fast.tw15456366248847048267 : True := trivial
theorem PySem.W.Fast.tw7281289122261700556 : True := trivial
theorem PySem.W.Fast.tw12799047716784087459 : True := trivial
theorem PySem.W.Fast.tw6958829611686379538 : True := trivial
theorem PySem.W.Fast.tw7783267458184790613 : True := trivial
theorem PySem.W.Fast.tw1390497951308967261 : True := trivial
theorem PySem.W.Fast.tw13501218136611230349 : True := trivial
theorem PySem.W.Fast.tw16542353470148658947 : True := trivial
theorem PySem.W.Fast.tw8141008576988381617 : True := trivial
theorem PySem.W.Fast.tw4205712450273710334 : True := trivial
theorem PySem.W.Fast.tw14612060873516006733 : True := trivial
theorem PySem.W.Fast.tw5230891089737109281 : True := trivial
theorem PySem.W.Fast.tw4540303359567737113 : True := trivial
theorem PySem.W.Fast.tw9617014309573014739 : True := trivial
theorem PySem.W.Fast.tw16935366664526380324 : True := trivial
theorem PySem.W.Fast.tw6820936988053619811 : True := trivial
theorem PySem.W.Fast.tw5292267461684829156 : True := trivial
theorem PySem.W.Fast.tw15505819747802677536 : True := trivial
theorem PySem.W.Fast.tw7295745134205539430 : True := trivial
theorem PySem.W.Fast.tw3770735706105914756 : True := trivial
theorem PySem.W.Fast.tw9376409189933864871 : True := trivial
theorem PySem.W.Fast.tw8497515197079498259 : True := trivial
theorem PySem.W.Fast.tw13710887313122448999 : True := trivial
theorem PySem.W.Fast.tw14396754144565491997 : True := trivial
theorem PySem.W.Fast.tw14768866192055616445 : True := trivial
theorem PySem.W.Fast.tw7164244544754122690 : True := trivial
theorem PySem.W.Fast.tw6783251378609026193 : True := trivial
theorem PySem.W.Fast.tw7383629258971434790 : True := trivial
theorem PySem.W.Fast.tw7638613466483868476 : True := trivial
theorem PySem.W.Fast.tw4094981817941141681 : True := trivial
theorem PySem.W.Fast.tw13483262566700192628 : True := trivial
theorem PySem.W.Fast.tw13006074217726807370 : True := trivial
theorem PySem.W.Fast.tw1365285368041242982 : True := trivial
theorem PySem.W.Fast.tw5416908166184806988 : True := trivial
theorem PySem.W.Fast.tw12925676775080021137 : True := trivial
theorem PySem.W.Fast.tw2685807318806375213 : True := trivial
theorem PySem.W.Fast.tw11186616600137575565 : True := trivial
theorem PySem.W.Fast.tw12369470126657486012 : True := trivial
theorem PySem.W.Fast.tw3516356586636642819 : True := trivial
theorem PySem.W.Fast.tw2148777646627107343 : True := trivial
theorem PySem.W.Fast.tw2096594986023401917 : True := trivial
theorem PySem.W.Fast.tw3073694104980486893 : True := trivial
theorem PySem.W.Fast.tw2987965831844223179 : True := trivial
theorem PySem.W.Fast.tw715029426007509857 : True := trivial
theorem PySem.W.Fast.tw16823788333493128207 : True := trivial
theorem PySem.W.Fast.tw17653150313490769778 : True := trivial
theorem PySem.W.Fast.tw1478071685072979854 : True := trivial
theorem PySem.W.Fast.tw12380338194138173932 : True := trivial
theorem PySem.W.Fast.tw3428783511257268544 : True := trivial
theorem PySem.W.Fast.tw18387166170273671800 : True := trivial
theorem PySem.W.Fast.tw13409021169074793190 : True := trivial
theorem PySem.W.Fast.tw2751456837720607952 : True := trivial
theorem PySem.W.Fast.tw7244100442477791190 : True := trivial
theorem PySem.W.Fast.tw10643333773306320663 : True := trivial
theorem PySem.W.Fast.tw17713146072909100730 : True := trivial
theorem PySem.W.Fast.tw17590764658006618930 : True := trivial
theorem PySem.W.Fast.tw14887210526191384527 : True := trivial
theorem PySem.W.Fast.tw13870514852829214843 : True := trivial
theorem PySem.W.Fast.tw2845246058006011628 : True := trivial
theorem PySem.W.Fast.tw4191363699212656253 : True := trivial
theorem PySem.W.Fast.tw13983960943218819209 : True := trivial
theorem PySem.W.Fast.tw11747341281428107985 : True := trivial
theorem PySem.W.Fast.tw2802167462298443837 : True := trivial
theorem PySem.W.Fast.tw4928417021715185108 : True := trivial
theorem PySem.W.Fast.tw8238324239531754641 : True := trivial
theorem PySem.W.Fast.tw4306089738561800759 : True := trivial
theorem PySem.W.Fast.tw1752078425444828803 : True := trivial
theorem PySem.W.Fast.tw7268986731435456312 : True := trivial
theorem PySem.W.Fast.tw6714556801518270978 : True := trivial
theorem PySem.W.Fast.tw16198010192089441037 : True := trivial
theorem PySem.W.Fast.tw15294707720548245961 : True := trivial
theorem PySem.W.Fast.tw13656278998384576574 : True := trivial
theorem PySem.W.Fast.tw491484790761006455 : True := trivial
theorem PySem.W.Fast.tw5275241010781638976 : True := trivial
theorem PySem.W.Fast.tw15117944887273005154 : True := trivial
theorem PySem.W.Fast.tw1467427123037381272 : True := trivial
theorem PySem.W.Fast.tw5283097588039627096 : True := trivial
theorem PySem.W.Fast.tw3325747545199368719 : True := trivial
theorem PySem.W.Fast.tw1261098958243345766 : True := trivial
theorem PySem.W.Fast.tw11408698568895044071 : True := trivial
theorem PySem.W.Fast.tw10733324192804770549 : True := trivial
theorem PySem.W.Fast.tw11654180542258502669 : True := trivial
theorem PySem.W.Fast.tw17521983622324057394 : True := trivial
theorem PySem.W.Fast.tw5776170372525195537 : True := trivial
theorem PySem.W.Fast.tw7109989177047417386 : True := trivial
theorem PySem.W.Fast.tw9617825813893627223 : True := trivial
theorem PySem.W.Fast.tw12442563222180015335 : True := trivial
theorem PySem.W.Fast.tw2581739689782988687 : True := trivial
theorem PySem.W.Fast.tw8459101716051420235 : True := trivial
theorem PySem.W.Fast.tw15663131751695664953 : True := trivial
theorem PySem.W.Fast.tw13047303929471631261 : True := trivial
theorem PySem.W.Fast.tw9564109715623944417 : True := trivial
theorem PySem.W.Fast.tw3859328535613775494 : True := trivial
theorem PySem.W.Fast.tw4779238286235367320 : True := trivial
theorem PySem.W.Fast.tw9086734159220365902 : True := trivial
theorem PySem.W.Fast.tw17565051454623415208 : True := trivial
theorem PySem.W.Fast.tw11437285570816378494 : True := trivial
theorem PySem.W.Fast.tw13142579260480969188 : True := trivial
theorem PySem.W.Fast.tw3783349873746821883 : True := trivial
theorem PySem.W.Fast.tw3609061928212146295 : True := trivial
theorem PySem.W.Fast.tw5432201101621374695 : True := trivial
theorem PySem.W.Fast.tw4861139969672476480 : True := trivial
theorem PySem.W.Fast.tw7753507495142241746 : True := trivial
theorem PySem.W.Fast.tw9270356102014558158 : True := trivial
theorem PySem.W.Fast.tw17057217409391631966 : True := trivial
theorem PySem.W.Fast.tw8179089534280420163 : True := trivial
theorem PySem.W.Fast.tw15978060288488737743 : True := trivial
theorem PySem.W.Fast.tw8097546963694977181 : True := trivial
theorem PySem.W.Fast.tw13272293216975280443 : True := trivial
theorem PySem.W.Fast.tw4481188728153781818 : True := trivial
theorem PySem.W.Fast.tw14352549149479677447 : True := trivial
theorem PySem.W.Fast.tw16823330853994784973 : True := trivial
theorem PySem.W.Fast.tw13707205194640562125 : True := trivial
theorem PySem.W.Fast.tw13234566379564967079 : True := trivial
theorem PySem.W.Fast.tw17434683258298484330 : True := trivial
theorem PySem.W.Fast.tw13278753318731823754 : True := trivial
theorem PySem.W.Fast.tw12529549256282639106 : True := trivial
theorem PySem.W.Fast.tw12877526255799555370 : True := trivial
theorem PySem.W.Fast.tw10554993694660359934 : True := trivial
theorem PySem.W.Fast.tw16338404875080322943 : True := trivial
theorem PySem.W.Fast.tw693101565151415880 : True := trivial
theorem PySem.W.Fast.tw858221343875455604 : True := trivial
theorem PySem.W.Fast.tw4410327726570203960 : True := trivial
theorem PySem.W.Fast.tw651438354927771378 : True := trivial
theorem PySem.W.Fast.tw11593091641419625325 : True := trivial
theorem PySem.W.Fast.tw3870862018885754611 : True := trivial
theorem PySem.W.Fast.tw4569086307099150675 : True := trivial
theorem PySem.W.Fast.tw3823927701460834479 : True := trivial
theorem PySem.W.Fast.tw10230785489467411750 : True := trivial
theorem PySem.W.Fast.tw10000362337981767501 : True := trivial
theorem PySem.W.Fast.tw152988840445881318 : True := trivial
theorem PySem.W.Fast.tw13394344932131680484 : True := trivial
theorem PySem.W.Fast.tw14554325944034520575 : True := trivial
theorem PySem.W.Fast.tw13154189494916752426 : True := trivial
theorem PySem.W.Fast.tw13671731944314887860 : True := trivial
theorem PySem.W.Fast.tw11369269682465566947 : True := trivial
theorem PySem.W.Fast.tw8849127662365841249 : True := trivial
theorem PySem.W.Fast.tw7265125825823481111 : True := trivial
theorem PySem.W.Fast.tw3949409231216758770 : True := trivial
theorem PySem.W.Fast.tw2956452114619670036 : True := trivial
theorem PySem.W.Fast.tw2636135772816434637 : True := trivial
theorem PySem.W.Fast.tw15848296818813823382 : True := trivial
theorem PySem.W.Fast.tw6471556864217942906 : True := trivial
theorem PySem.W.Fast.tw10568484638828548619 : True := trivial
theorem PySem.W.Fast.tw6332094007387057927 : True := trivial
theorem PySem.W.Fast.tw17424607652288013516 : True := trivial
theorem PySem.W.Fast.tw6600409988313900525 : True := trivial
theorem PySem.W.Fast.tw11334389022834529408 : True := trivial
theorem PySem.W.Fast.tw9997846253567581915 : True := trivial
theorem PySem.W.Fast.tw8865731664844386089 : True := trivial
theorem PySem.W.Fast.tw13332427923351001866 : True := trivial
theorem PySem.W.Fast.tw3720474073162996313 : True := trivial
theorem PySem.W.Fast.tw4479180604342956031 : True := trivial
theorem PySem.W.Fast.tw2486832291971464357 : True := trivial
theorem PySem.W.Fast.tw16603835339119379186 : True := trivial
theorem PySem.W.Fast.tw10682990410160497589 : True := trivial
theorem PySem.W.Fast.tw15315210878799455492 : True := trivial
theorem PySem.W.Fast.tw11121148634214101348 : True := trivial
theorem PySem.W.Fast.tw587054437415869153 : True := trivial
theorem PySem.W.Fast.tw12403990832250064845 : True := trivial
theorem PySem.W.Fast.tw13162825191352102946 : True := trivial
theorem PySem.W.Fast.tw3481677802880209645 : True := trivial
theorem PySem.W.Fast.tw12065756714556865974 : True := trivial
theorem PySem.W.Fast.tw7147075172917320836 : True := trivial
theorem PySem.W.Fast.tw11657712980287576532 : True := trivial
theorem PySem.W.Fast.tw8557198697163902554 : True := trivial
theorem PySem.W.Fast.tw10166667597404122137 : True := trivial
theorem PySem.W.Fast.tw3031939960609679936 : True := trivial
theorem PySem.W.Fast.tw12212661545502228891 : True := trivial
theorem PySem.W.Fast.tw14400905285622481422 : True := trivial
theorem PySem.W.Fast.tw14077964212778998908 : True := trivial
theorem PySem.W.Fast.tw3871317373977279481 : True := trivial
theorem PySem.W.Fast.tw18299259797520982359 : True := trivial
theorem PySem.W.Fast.tw5712381870425254572 : True := trivial
theorem PySem.W.Fast.tw438268368113224186 : True := trivial
theorem PySem.W.Fast.tw4161369702146958272 : True := trivial
theorem PySem.W.Fast.tw1842216344662890589 : True := trivial
theorem PySem.W.Fast.tw6607720111159998088 : True := trivial
theorem PySem.W.Fast.tw2874025549079203696 : True := trivial
theorem PySem.W.Fast.tw6065245360658578632 : True := trivial
theorem PySem.W.Fast.tw13170709137879982229 : True := trivial
theorem PySem.W.Fast.tw16219016067659395992 : True := trivial
theorem PySem.W.Fast.tw15476816147315914780 : True := trivial
theorem PySem.W.Fast.tw14737667808584017298 : True := trivial
theorem PySem.W.Fast.tw7031307224699917585 : True := trivial
theorem PySem.W.Fast.tw17767660812099633692 : True := trivial
theorem PySem.W.Fast.tw16467681659224023426 : True := trivial
theorem PySem.W.Fast.tw14762594333041567591 : True := trivial
theorem PySem.W.Fast.tw5670716800007533699 : True := trivial
theorem PySem.W.Fast.tw4893109005539515222 : True := trivial
theorem PySem.W.Fast.tw2540405908167204879 : True := trivial
theorem PySem.W.Fast.tw18266473756730494949 : True := trivial
theorem PySem.W.Fast.tw3537553765904328409 : True := trivial
theorem PySem.W.Fast.tw83785923979198220 : True := trivial
theorem PySem.W.Fast.tw10295914994887089636 : True := trivial
theorem PySem.W.Fast.tw299680831624372128 : True := trivial
theorem PySem.W.Fast.tw7995682935564752224 : True := trivial
theorem PySem.W.Fast.tw13487774907126421300 : True := trivial
theorem PySem.W.Fast.tw14301032480055214846 : True := trivial
theorem PySem.W.Fast.tw8187261752617707690 : True := trivial
theorem PySem.W.Fast.tw17322322413428809910 : True := trivial
theorem PySem.W.Fast.tw17291946527308211827 : True := trivial
theorem PySem.W.Fast.tw12324511475256438152 : True := trivial
theorem PySem.W.Fast.tw1679706545666699328 : True := trivial
theorem PySem.W.Fast.tw15239932510470846250 : True := trivial
theorem PySem.W.Fast.tw12629896797578060470 : True := trivial
theorem PySem.W.Fast.tw2474950303012197871 : True := trivial
theorem PySem.W.Fast.tw6582872815055481883 : True := trivial
theorem PySem.W.Fast.tw11547996247491912463 : True := trivial
theorem PySem.W.Fast.tw17460750946144975351 : True := trivial
theorem PySem.W.Fast.tw8660390340339826691 : True := trivial
theorem PySem.W.Fast.tw2150722753300425907 : True := trivial
theorem PySem.W.Fast.tw14691987387306715852 : True := trivial
theorem PySem.W.Fast.tw7687911943986105949 : True := trivial
theorem PySem.W.Fast.tw8154752864663432026 : True := trivial
theorem PySem.W.Fast.tw5875316363248125915 : True := trivial
theorem PySem.W.Fast.tw17303644782002587427 : True := trivial
theorem PySem.W.Fast.tw12137283472277592017 : True := trivial
theorem PySem.W.Fast.tw10727221989451300669 : True := trivial
theorem PySem.W.Fast.tw16000886441755176878 : True := trivial
theorem PySem.W.Fast.tw5314443801726633008 : True := trivial
theorem PySem.W.Fast.tw8883975030640138865 : True := trivial
theorem PySem.W.Fast.tw5786023314385352205 : True := trivial
theorem PySem.W.Fast.tw216199493303918036 : True := trivial
theorem PySem.W.Fast.tw8881116695000492889 : True := trivial
theorem PySem.W.Fast.tw13771688671564594835 : True := trivial
theorem PySem.W.Fast.tw1362080040602224721 : True := trivial
theorem PySem.W.Fast.tw1581503061189509503 : True := trivial
theorem PySem.W.Fast.tw15124895518072167540 : True := trivial
theorem PySem.W.Fast.tw4581400518153368108 : True := trivial
theorem PySem.W.Fast.tw9436664249545785727 : True := trivial
theorem PySem.W.Fast.tw6024123791631193256 : True := trivial
theorem PySem.W.Fast.tw17793866119256961117 : True := trivial
theorem PySem.W.Fast.tw9958407314466091232 : True := trivial
theorem PySem.W.Fast.tw18336997207846170203 : True := trivial
theorem PySem.W.Fast.tw15679328612744329462 : True := trivial
theorem PySem.W.Fast.tw10265788607987732682 : True := trivial
theorem PySem.W.Fast.tw6275941599581877257 : True := trivial
theorem PySem.W.Fast.tw15762666093843604839 : True := trivial
theorem PySem.W.Fast.tw17301550283958293134 : True := trivial
theorem PySem.W.Fast.tw13101320713972438582 : True := trivial
theorem PySem.W.Fast.tw629078516087725294 : True := trivial
theorem PySem.W.Fast.tw2214352955098277707 : True := trivial
theorem PySem.W.Fast.tw484662439227820736 : True := trivial
theorem PySem.W.Fast.tw18323410408755638975 : True := trivial
theorem PySem.W.Fast.tw8121490984285114458 : True := trivial
theorem PySem.W.Fast.tw6331750569870556499 : True := trivial
theorem PySem.W.Fast.tw9332140161384154123 : True := trivial
theorem PySem.W.Fast.tw1409601770868142551 : True := trivial
theorem PySem.W.Fast.tw5250075783581734614 : True := trivial
theorem PySem.W.Fast.tw17076868462394541487 : True := trivial
theorem PySem.W.Fast.tw1644548292601151808 : True := trivial
theorem PySem.W.Fast.tw16593959639896454107 : True := trivial
theorem PySem.W.Fast.tw18341428742507497695 : True := trivial
theorem PySem.W.Fast.tw17574603006400406343 : True := trivial
theorem PySem.W.Fast.tw2308623732195136296 : True := trivial
theorem PySem.W.Fast.tw1651755651463642374 : True := trivial
theorem PySem.W.Fast.tw18136487523579262275 : True := trivial
theorem PySem.W.Fast.tw5948690396870573700 : True := trivial
theorem PySem.W.Fast.tw14535790023063709208 : True := trivial
theorem PySem.W.Fast.tw15943660470319845356 : True := trivial
theorem PySem.W.Fast.tw15015780266977153908 : True := trivial
theorem PySem.W.Fast.tw10438221859101723149 : True := trivial
theorem PySem.W.Fast.tw17001178421579357450 : True := trivial
theorem PySem.W.Fast.tw1845478098271606707 : True := trivial
theorem PySem.W.Fast.tw12734423440465159946 : True := trivial
theorem PySem.W.Fast.tw5443679913174815477 : True := trivial
theorem PySem.W.Fast.tw2469112501552306337 : True := trivial
theorem PySem.W.Fast.tw2618263525138832362 : True := trivial
theorem PySem.W.Fast.tw3188241474724208377 : True := trivial
theorem PySem.W.Fast.tw3355088588317268030 : True := trivial
theorem PySem.W.Fast.tw8914258298799397492 : True := trivial
theorem PySem.W.Fast.tw5506931144355374213 : True := trivial
theorem PySem.W.Fast.tw16190336215017578625 : True := trivial
theorem PySem.W.Fast.tw2364940584430069356 : True := trivial
theorem PySem.W.Fast.tw18227992316829846599 : True := trivial
theorem PySem.W.Fast.tw12569253324833577049 : True := trivial
theorem PySem.W.Fast.tw1480444073961015813 : True := trivial
theorem PySem.W.Fast.tw6069988966936215831 : True := trivial
theorem PySem.W.Fast.tw10073951093330955094 : True := trivial
theorem PySem.W.Fast.tw3848952379856604219 : True := trivial
theorem PySem.W.Fast.tw13272617075231266303 : True := trivial
theorem PySem.W.Fast.tw14567859085973055454 : True := trivial
theorem PySem.W.Fast.tw12751563492855439314 : True := trivial
theorem PySem.W.Fast.tw15910495939283391119 : True := trivial
theorem PySem.W.Fast.tw13470018476560045230 : True := trivial
theorem PySem.W.Fast.tw9691308785847282797 : True := trivial
theorem PySem.W.Fast.tw9439495423769078266 : True := trivial
theorem PySem.W.Fast.tw759580716476929594 : True := trivial
theorem PySem.W.Fast.tw17353599723726046801 : True := trivial
theorem PySem.W.Fast.tw2288246245085779463 : True := trivial
theorem PySem.W.Fast.tw10431016316064188366 : True := trivial
theorem PySem.W.Fast.tw1624827401601068008 : True := trivial
theorem PySem.W.Fast.tw1091461282085025008 : True := trivial
theorem PySem.W.Fast.tw13180120202330172123 : True := trivial
theorem PySem.W.Fast.tw7035207182349717990 : True := trivial
theorem PySem.W.Fast.tw2295656196487379813 : True := trivial
theorem PySem.W.Fast.tw776974399501150827 : True := trivial
theorem PySem.W.Fast.tw12739429369638795161 : True := trivial
theorem PySem.W.Fast.tw16987212062564214148 : True := trivial
theorem PySem.W.Fast.tw6829288885071943118 : True := trivial
theorem PySem.W.Fast.tw4558498703224439539 : True := trivial
theorem PySem.W.Fast.tw7045167984058675578 : True := trivial
theorem PySem.W.Fast.tw12679810614349020691 : True := trivial
theorem PySem.W.Fast.tw14205548330326523848 : True := trivial
theorem PySem.W.Fast.tw7923432411146878761 : True := trivial
theorem PySem.W.Fast.tw16918192324317447124 : True := trivial
theorem PySem.W.Fast.tw17252856018034072053 : True := trivial
theorem PySem.W.Fast.tw1914992570507367554 : True := trivial
theorem PySem.W.Fast.tw15985840042918522600 : True := trivial
theorem PySem.W.Fast.tw7674984235185335126 : True := trivial
theorem PySem.W.Fast.tw61422104328232419 : True := trivial
theorem PySem.W.Fast.tw7286445084677428931 : True := trivial
theorem PySem.W.Fast.tw5662038454318680419 : True := trivial
theorem PySem.W.Fast.tw14862605047061320629 : True := trivial
theorem PySem.W.Fast.tw4350233532822047103 : True := trivial
theorem PySem.W.Fast.tw16059556290823178080 : True := trivial
theorem PySem.W.Fast.tw12611602134615620702 : True := trivial
theorem PySem.W.Fast.tw16819763997582719544 : True := trivial
theorem PySem.W.Fast.tw11585726249198427722 : True := trivial
theorem PySem.W.Fast.tw17496784729361969516 : True := trivial
theorem PySem.W.Fast.tw6032574509726351363 : True := trivial
theorem PySem.W.Fast.tw5631759749620943934 : True := trivial
theorem PySem.W.Fast.tw5517607051587417376 : True := trivial
theorem PySem.W.Fast.tw11118614129363857246 : True := trivial
theorem PySem.W.Fast.tw4351049882099649143 : True := trivial
theorem PySem.W.Fast.tw10593069055090804731 : True := trivial
theorem PySem.W.Fast.tw11151516801943581738 : True := trivial
theorem PySem.W.Fast.tw16022759242070554767 : True := trivial
theorem PySem.W.Fast.tw4554541830477185004 : True := trivial
theorem PySem.W.Fast.tw18181966684962784157 : True := trivial
theorem PySem.W.Fast.tw5500966419856276391 : True := trivial
theorem PySem.W.Fast.tw11593998744281239609 : True := trivial
theorem PySem.W.Fast.tw767140613133073656 : True := trivial
theorem PySem.W.Fast.tw11697641841201489769 : True := trivial
theorem PySem.W.Fast.tw5699016807319032676 : True := trivial
theorem PySem.W.Fast.tw4043976153880261311 : True := trivial
theorem PySem.W.Fast.tw130223818782242949 : True := trivial
theorem PySem.W.Fast.tw12205726487357396747 : True := trivial
theorem PySem.W.Fast.tw12757400317128684716 : True := trivial
theorem PySem.W.Fast.tw17746082024753382160 : True := trivial
theorem PySem.W.Fast.tw9874339000914936650 : True := trivial
theorem PySem.W.Fast.tw3966006804514071467 : True := trivial
theorem PySem.W.Fast.tw7166877462167555166 : True := trivial
theorem PySem.W.Fast.tw1481775142730963582 : True := trivial
theorem PySem.W.Fast.tw15553324878416798485 : True := trivial
theorem PySem.W.Fast.tw5821341130036363188 : True := trivial
theorem PySem.W.Fast.tw4348159954740104134 : True := trivial
theorem PySem.W.Fast.tw7219800471390159311 : True := trivial
theorem PySem.W.Fast.tw7186578796548153148 : True := trivial
theorem PySem.W.Fast.tw5295492909647522689 : True := trivial
theorem PySem.W.Fast.tw3284877719506345081 : True := trivial
theorem PySem.W.Fast.tw14264256155575638857 : True := trivial
theorem PySem.W.Fast.tw14408363578119115792 : True := trivial
theorem PySem.W.Fast.tw8072637385410500612 : True := trivial
theorem PySem.W.Fast.tw12706248245922851966 : True := trivial
theorem PySem.W.Fast.tw16064929994755440858 : True := trivial
theorem PySem.W.Fast.tw3326339504358295421 : True := trivial
theorem PySem.W.Fast.tw5145218686311117281 : True := trivial
theorem PySem.W.Fast.tw9803575673367326785 : True := trivial
theorem PySem.W.Fast.tw15493962764303864000 : True := trivial
theorem PySem.W.Fast.tw4299595593534382001 : True := trivial
theorem PySem.W.Fast.tw8775651573451746481 : True := trivial
theorem PySem.W.Fast.tw9104136551252385445 : True := trivial
theorem PySem.W.Fast.tw9079039978927164903 : True := trivial
theorem PySem.W.Fast.tw13291598955311538637 : True := trivial
theorem PySem.W.Fast.tw13008996807642658529 : True := trivial
theorem PySem.W.Fast.tw8519253309596398392 : True := trivial
theorem PySem.W.Fast.tw10382427892473026777 : True := trivial
theorem PySem.W.Fast.tw16487922919597619501 : True := trivial
theorem PySem.W.Fast.tw7822399079735593120 : True := trivial
theorem PySem.W.Fast.tw9622375079606450195 : True := trivial
theorem PySem.W.Fast.tw8965176208837846071 : True := trivial
theorem PySem.W.Fast.tw13427163667253032473 : True := trivial
theorem PySem.W.Fast.tw9802035158663393748 : True := trivial
theorem PySem.W.Fast.tw10402383293275765078 : True := trivial
theorem PySem.W.Fast.tw3810659360591870202 : True := trivial
theorem PySem.W.Fast.tw13722215153225533912 : True := trivial
theorem PySem.W.Fast.tw8978165261428428997 : True := trivial
theorem PySem.W.Fast.tw12151129156275154509 : True := trivial
theorem PySem.W.Fast.tw8043755612735154945 : True := trivial
theorem PySem.W.Fast.tw2949280113206131911 : True := trivial
theorem PySem.W.Fast.tw17144231969414614387 : True := trivial
theorem PySem.W.Fast.tw17222553146815357764 : True := trivial
theorem PySem.W.Fast.tw5111380775857600580 : True := trivial
theorem PySem.W.Fast.tw4513742430101954944 : True := trivial
theorem PySem.W.Fast.tw1262141102242814397 : True := trivial
theorem PySem.W.Fast.tw8257055969436166016 : True := trivial
theorem PySem.W.Fast.tw601389186672832380 : True := trivial
theorem PySem.W.Fast.tw7714392210423045770 : True := trivial
theorem PySem.W.Fast.tw3232271472035526692 : True := trivial
theorem PySem.W.Fast.tw13856394869176236411 : True := trivial
theorem PySem.W.Fast.tw7670966138414574941 : True := trivial
theorem PySem.W.Fast.tw6542672173400783639 : True := trivial
theorem PySem.W.Fast.tw3419406506636203637 : True := trivial
theorem PySem.W.Fast.tw17875197964755490109 : True := trivial
theorem PySem.W.Fast.tw942983336476991655 : True := trivial
theorem PySem.W.Fast.tw14010896575091258497 : True := trivial
theorem PySem.W.Fast.tw9595523902466662771 : True := trivial
theorem PySem.W.Fast.tw6500783482713731290 : True := trivial
theorem PySem.W.Fast.tw9318398726124384698 : True := trivial
theorem PySem.W.Fast.tw1659883183147946216 : True := trivial
theorem PySem.W.Fast.tw18312009663387703292 : True := trivial
theorem PySem.W.Fast.tw12318402237569587033 : True := trivial
theorem PySem.W.Fast.tw4502838147841781232 : True := trivial
theorem PySem.W.Fast.tw5981033668964854503 : True := trivial
theorem PySem.W.Fast.tw3564467814967573034 : True := trivial
theorem PySem.W.Fast.tw9513122851218851437 : True := trivial
theorem PySem.W.Fast.tw16015212508841552778 : True := trivial
theorem PySem.W.Fast.tw16769896094910373132 : True := trivial
theorem PySem.W.Fast.tw1463298092367219579 : True := trivial
theorem PySem.W.Fast.tw733292514587757085 : True := trivial
theorem PySem.W.Fast.tw17331480594796073557 : True := trivial
theorem PySem.W.Fast.tw13921810353528885014 : True := trivial
theorem PySem.W.Fast.tw649790317375517777 : True := trivial
theorem PySem.W.Fast.tw11980997002735697722 : True := trivial
theorem PySem.W.Fast.tw10308978703673405896 : True := trivial
theorem PySem.W.Fast.tw12533386083520391208 : True := trivial
theorem PySem.W.Fast.tw12589981758905072043 : True := trivial
theorem PySem.W.Fast.tw14297345554280683450 : True := trivial
theorem PySem.W.Fast.tw10763804896994595496 : True := trivial
theorem PySem.W.Fast.tw16290449719769343200 : True := trivial
theorem PySem.W.Fast.tw15026516513581387365 : True := trivial
theorem PySem.W.Fast.tw9069210394805453333 : True := trivial
theorem PySem.W.Fast.tw3395855369377254040 : True := trivial
theorem PySem.W.Fast.tw6379214095943722324 : True := trivial
theorem PySem.W.Fast.tw8306298943119671174 : True := trivial
theorem PySem.W.Fast.tw13995286011855811860 : True := trivial
theorem PySem.W.Fast.tw6801040894452260800 : True := trivial
theorem PySem.W.Fast.tw6041423281238618817 : True := trivial
theorem PySem.W.Fast.tw17221782834642116953 : True := trivial
theorem PySem.W.Fast.tw312684034189565547 : True := trivial
theorem PySem.W.Fast.tw8676368321110490781 : True := trivial
theorem PySem.W.Fast.tw14668387918116567222 : True := trivial
theorem PySem.W.Fast.tw1784054823576253514 : True := trivial
theorem PySem.W.Fast.tw2864702747319127310 : True := trivial
theorem PySem.W.Fast.tw4594991270645218578 : True := trivial
theorem PySem.W.Fast.tw12771886889006317139 : True := trivial
theorem PySem.W.Fast.tw1262452964306382501 : True := trivial
theorem PySem.W.Fast.tw39870886816759564 : True := trivial
theorem PySem.W.Fast.tw3865819582263443579 : True := trivial
theorem PySem.W.Fast.tw13777414598188695966 : True := trivial
theorem PySem.W.Fast.tw2567499842840807112 : True := trivial
theorem PySem.W.Fast.tw15262058466372359291 : True := trivial
theorem PySem.W.Fast.tw5386406809682655495 : True := trivial
theorem PySem.W.Fast.tw7889836703581419044 : True := trivial
theorem PySem.W.Fast.tw16945895205270173590 : True := trivial
theorem PySem.W.Fast.tw15725816076616534051 : True := trivial
theorem PySem.W.Fast.tw217869965809619476 : True := trivial
theorem PySem.W.Fast.tw5955941993437105294 : True := trivial
theorem PySem.W.Fast.tw16820951845503269383 : True := trivial
theorem PySem.W.Fast.tw8807054644738440112 : True := trivial
theorem PySem.W.Fast.tw17485652945760174642 : True := trivial
theorem PySem.W.Fast.tw1305654555613203121 : True := trivial
theorem PySem.W.Fast.tw15682728850641591703 : True := trivial
theorem PySem.W.Fast.tw598301595213099037 : True := trivial
theorem PySem.W.Fast.tw13662121027336464297 : True := trivial
theorem PySem.W.Fast.tw17687800379984926531 : True := trivial
theorem PySem.W.Fast.tw17070227176043960130 : True := trivial
theorem PySem.W.Fast.tw12085323059207183560 : True := trivial
theorem PySem.W.Fast.tw13517722482432392610 : True := trivial
theorem PySem.W.Fast.tw15856193156500027334 : True := trivial
theorem PySem.W.Fast.tw15952264986660184832 : True := trivial
theorem PySem.W.Fast.tw3833040903126123745 : True := trivial
theorem PySem.W.Fast.tw17375732459674048712 : True := trivial
theorem PySem.W.Fast.tw7137626433365240200 : True := trivial
theorem PySem.W.Fast.tw5422587115028014096 : True := trivial
theorem PySem.W.Fast.tw3635343411020104497 : True := trivial
theorem PySem.W.Fast.tw2928090352341961525 : True := trivial
theorem PySem.W.Fast.tw9379439587195856124 : True := trivial
theorem PySem.W.Fast.tw5138498242770721375 : True := trivial
theorem PySem.W.Fast.tw4445432420575193186 : True := trivial
theorem PySem.W.Fast.tw5411163571778026517 : True := trivial
theorem PySem.W.Fast.tw297646154071374414 : True := trivial
theorem PySem.W.Fast.tw5951868404373138483 : True := trivial
theorem PySem.W.Fast.tw8389024939078282658 : True := trivial
theorem PySem.W.Fast.tw7023069802743276745 : True := trivial
theorem PySem.W.Fast.tw17197089000290425990 : True := trivial
theorem PySem.W.Fast.tw12187062085278189049 : True := trivial
theorem PySem.W.Fast.tw978449805034254267 : True := trivial
theorem PySem.W.Fast.tw16224420899958875983 : True := trivial
theorem PySem.W.Fast.tw2160787470146580936 : True := trivial
theorem PySem.W.Fast.tw17214099205835990855 : True := trivial
theorem PySem.W.Fast.tw6538041996464098633 : True := trivial
theorem PySem.W.Fast.tw10575391870927322742 : True := trivial
theorem PySem.W.Fast.tw11146271331551440733 : True := trivial
theorem PySem.W.Fast.tw2564702774364705117 : True := trivial
theorem PySem.W.Fast.tw2030127704225178445 : True := trivial
theorem PySem.W.Fast.tw14548921252971620436 : True := trivial
theorem PySem.W.Fast.tw3618536524735970276 : True := trivial
theorem PySem.W.Fast.tw14936687992400299468 : True := trivial
theorem PySem.W.Fast.tw14998073203539201372 : True := trivial
theorem PySem.W.Fast.tw18398726172059404540 : True := trivial
theorem PySem.W.Fast.tw18363807583662188624 : True := trivial
theorem PySem.W.Fast.tw8997751437833545700 : True := trivial
theorem PySem.W.Fast.tw10105481489914014549 : True := trivial
theorem PySem.W.Fast.tw1162001044415499457 : True := trivial
theorem PySem.W.Fast.tw9762655257486733258 : True := trivial
theorem PySem.W.Fast.tw39104248450632875 : True := trivial
theorem PySem.W.Fast.tw8888148066615521851 : True := trivial
theorem PySem.W.Fast.tw17919040421950420126 : True := trivial
theorem PySem.W.Fast.tw14682532948456034941 : True := trivial
theorem PySem.W.Fast.tw14048357765461642868 : True := trivial
theorem PySem.W.Fast.tw13456827342199936462 : True := trivial
theorem PySem.W.Fast.tw5877587442375920825 : True := trivial
theorem PySem.W.Fast.tw10961129814662113318 : True := trivial
theorem PySem.W.Fast.tw8672097834864683015 : True := trivial
theorem PySem.W.Fast.tw10318815163622549292 : True := trivial
theorem PySem.W.Fast.tw58554836804193326 : True := trivial
theorem PySem.W.Fast.tw10137117888391270099 : True := trivial
theorem PySem.W.Fast.tw15631221056703005875 : True := trivial
theorem PySem.W.Fast.tw2407037268224058566 : True := trivial
theorem PySem.W.Fast.tw9323200057234230277 : True := trivial
theorem PySem.W.Fast.tw12441228863109675532 : True := trivial
theorem PySem.W.Fast.tw16724825931320546342 : True := trivial
theorem PySem.W.Fast.tw15726033313411980729 : True := trivial
theorem PySem.W.Fast.tw12423984226557576306 : True := trivial
theorem PySem.W.Fast.tw14797560649382595301 : True := trivial
theorem PySem.W.Fast.tw499939244049737632 : True := trivial
theorem PySem.W.Fast.tw5772510598411466460 : True := trivial
theorem PySem.W.Fast.tw14535661364988375271 : True := trivial
theorem PySem.W.Fast.tw15109912707056366141 : True := trivial
theorem PySem.W.Fast.tw12329447733084200679 : True := trivial
theorem PySem.W.Fast.tw1764276867955441513 : True := trivial
theorem PySem.W.Fast.tw14183190963224234771 : True := trivial
theorem PySem.W.Fast.tw12698077718986743009 : True := trivial
theorem PySem.W.Fast.tw414936405947961150 : True := trivial
theorem PySem.W.Fast.tw14794198104425107659 : True := trivial
theorem PySem.W.Fast.tw15406415887082233017 : True := trivial
theorem PySem.W.Fast.tw2568646980259149652 : True := trivial
theorem PySem.W.Fast.tw2978315235864521545 : True := trivial
theorem PySem.W.Fast.tw16740397084280201206 : True := trivial
theorem PySem.W.Fast.tw1238377995658002095 : True := trivial
theorem PySem.W.Fast.tw4380563691372219397 : True := trivial
theorem PySem.W.Fast.tw10369241634109071190 : True := trivial
theorem PySem.W.Fast.tw11380532881857291149 : True := trivial
theorem PySem.W.Fast.tw16111283284030985109 : True := trivial
theorem PySem.W.Fast.tw12942259595612450504 : True := trivial
theorem PySem.W.Fast.tw9246823997890036661 : True := trivial
theorem PySem.W.Fast.tw18209477987704472376 : True := trivial
theorem PySem.W.Fast.tw9348527406664717666 : True := trivial
theorem PySem.W.Fast.tw3213952459648672276 : True := trivial
theorem PySem.W.Fast.tw15318260496982268601 : True := trivial
theorem PySem.W.Fast.tw13398653740013168353 : True := trivial
theorem PySem.W.Fast.tw1750364884799733311 : True := trivial
theorem PySem.W.Fast.tw13171920846097644102 : True := trivial
theorem PySem.W.Fast.tw534733834624770080 : True := trivial
theorem PySem.W.Fast.tw6894326867396700423 : True := trivial
theorem PySem.W.Fast.tw9431925017959567476 : True := trivial
theorem PySem.W.Fast.tw554278053343016833 : True := trivial
theorem PySem.W.Fast.tw6138682159501915735 : True := trivial
theorem PySem.W.Fast.tw9483720403292904377 : True := trivial
theorem PySem.W.Fast.tw5089454195575463528 : True := trivial
theorem PySem.W.Fast.tw12868573175567891936 : True := trivial
theorem PySem.W.Fast.tw15399849805526894123 : True := trivial
theorem PySem.W.Fast.tw984366270611099767 : True := trivial
theorem PySem.W.Fast.tw6905705090034978957 : True := trivial
theorem PySem.W.Fast.tw2269150527566836266 : True := trivial
theorem PySem.W.Fast.tw14594192734706782459 : True := trivial
theorem PySem.W.Fast.tw13389268669703968693 : True := trivial
theorem PySem.W.Fast.tw17310910138498753352 : True := trivial
theorem PySem.W.Fast.tw3947081099067249883 : True := trivial
theorem PySem.W.Fast.tw12799729840706251879 : True := trivial
theorem PySem.W.Fast.tw8737928463177946827 : True := trivial
theorem PySem.W.Fast.tw6632918069526675204 : True := trivial
theorem PySem.W.Fast.tw18219825020287835643 : True := trivial
theorem PySem.W.Fast.tw1793640343651471649 : True := trivial
theorem PySem.W.Fast.tw17555960600703220826 : True := trivial
theorem PySem.W.Fast.tw17641581395612600609 : True := trivial
theorem PySem.W.Fast.tw8439767685284184106 : True := trivial
theorem PySem.W.Fast.tw13700756029206453561 : True := trivial
theorem PySem.W.Fast.tw2796113428723032422 : True := trivial
theorem PySem.W.Fast.tw11971144581033908090 : True := trivial
theorem PySem.W.Fast.tw2424247881789905449 : True := trivial
theorem PySem.W.Fast.tw14525009288638465841 : True := trivial
theorem PySem.W.Fast.tw15687275169576568660 : True := trivial
theorem PySem.W.Fast.tw9660361360662556594 : True := trivial
theorem PySem.W.Fast.tw3722147068041802954 : True := trivial
theorem PySem.W.Fast.tw16709229643157712720 : True := trivial
theorem PySem.W.Fast.tw9131737062086786554 : True := trivial
theorem PySem.W.Fast.tw4480867950328831562 : True := trivial
theorem PySem.W.Fast.tw5418970337262423158 : True := trivial
theorem PySem.W.Fast.tw12515767158178870986 : True := trivial
theorem PySem.W.Fast.tw7126037883318241606 : True := trivial
theorem PySem.W.Fast.tw7229181428219170264 : True := trivial
theorem PySem.W.Fast.tw10247276464991664708 : True := trivial
theorem PySem.W.Fast.tw16966886701378485297 : True := trivial
theorem PySem.W.Fast.tw13635918516718192872 : True := trivial
theorem PySem.W.Fast.tw9650709573866041467 : True := trivial
theorem PySem.W.Fast.tw5496399513494113439 : True := trivial
theorem PySem.W.Fast.tw9777316679892413816 : True := trivial
theorem PySem.W.Fast.tw8866723552254418668 : True := trivial
theorem PySem.W.Fast.tw7903890218163043371 : True := trivial
theorem PySem.W.Fast.tw17185264193294308396 : True := trivial
theorem PySem.W.Fast.tw2281027944278804656 : True := trivial
theorem PySem.W.Fast.tw12173613514351600709 : True := trivial
theorem PySem.W.Fast.tw15584137632054767440 : True := trivial
theorem PySem.W.Fast.tw16099614693465448538 : True := trivial
theorem PySem.W.Fast.tw160881779302097177 : True := trivial
theorem PySem.W.Fast.tw10112602406261354958 : True := trivial
theorem PySem.W.Fast.tw10525625597975834896 : True := trivial
theorem PySem.W.Fast.tw16786817993755125934 : True := trivial
theorem PySem.W.Fast.tw6645389408197836551 : True := trivial
theorem PySem.W.Fast.tw3672960387353758376 : True := trivial
theorem PySem.W.Fast.tw933175228198402788 : True := trivial
theorem PySem.W.Fast.tw9327973590764834448 : True := trivial
theorem PySem.W.Fast.tw12339856662927410654 : True := trivial
theorem PySem.W.Fast.tw12629786988576984580 : True := trivial
theorem PySem.W.Fast.tw4234773687758297150 : True := trivial
theorem PySem.W.Fast.tw14008111544190323739 : True := trivial
theorem PySem.W.Fast.tw383708311735533618 : True := trivial
theorem PySem.W.Fast.tw3842877235444187529 : True := trivial
theorem PySem.W.Fast.tw8386641812109908013 : True := trivial
theorem PySem.W.Fast.tw4957147139941783356 : True := trivial
theorem PySem.W.Fast.tw14384613646325464234 : True := trivial
theorem PySem.W.Fast.tw1161184021285530311 : True := trivial
theorem PySem.W.Fast.tw12497159135443059352 : True := trivial
theorem PySem.W.Fast.tw16024613344305214354 : True := trivial
theorem PySem.W.Fast.tw1514800797714850171 : True := trivial
theorem PySem.W.Fast.tw12723512407057429811 : True := trivial
theorem PySem.W.Fast.tw6867449148733749186 : True := trivial
theorem PySem.W.Fast.tw9447904855951639028 : True := trivial
theorem PySem.W.Fast.tw3970756934382065308 : True := trivial
theorem PySem.W.Fast.tw3119256146282705646 : True := trivial
theorem PySem.W.Fast.tw9011462710016442664 : True := trivial
theorem PySem.W.Fast.tw17524433234322462181 : True := trivial
theorem PySem.W.Fast.tw7527340689785436473 : True := trivial
theorem PySem.W.Fast.tw5139368355380936603 : True := trivial
theorem PySem.W.Fast.tw15047821943628608621 : True := trivial
theorem PySem.W.Fast.tw17343352558662812267 : True := trivial
theorem PySem.W.Fast.tw9029464069881164144 : True := trivial
theorem PySem.W.Fast.tw1153092614631926489 : True := trivial
theorem PySem.W.Fast.tw6357381212831531833 : True := trivial
theorem PySem.W.Fast.tw9225974170250803164 : True := trivial
theorem PySem.W.Fast.tw11291770766901480988 : True := trivial
theorem PySem.W.Fast.tw6193759907315760709 : True := trivial
theorem PySem.W.Fast.tw14641555040760325324 : True := trivial
theorem PySem.W.Fast.tw5128054149656151301 : True := trivial
theorem PySem.W.Fast.tw1868162010720431747 : True := trivial
theorem PySem.W.Fast.tw15043323248481811707 : True := trivial
theorem PySem.W.Fast.tw7104087236063051589 : True := trivial
theorem PySem.W.Fast.tw11893338423963367154 : True := trivial
theorem PySem.W.Fast.tw15431327042303178624 : True := trivial
theorem PySem.W.Fast.tw7086116994212332777 : True := trivial
theorem PySem.W.Fast.tw44782521459264788 : True := trivial
theorem PySem.W.Fast.tw5509123910952744537 : True := trivial
theorem PySem.W.Fast.tw17996111008795667389 : True := trivial
theorem PySem.W.Fast.tw2761271585617516520 : True := trivial
theorem PySem.W.Fast.tw4474459400130907020 : True := trivial
theorem PySem.W.Fast.tw3448794232078611931 : True := trivial
theorem PySem.W.Fast.tw3969167133650233075 : True := trivial
theorem PySem.W.Fast.tw8539690648314130810 : True := trivial
theorem PySem.W.Fast.tw11579485601831397845 : True := trivial
theorem PySem.W.Fast.tw5758752535010033724 : True := trivial
theorem PySem.W.Fast.tw9185608316735625650 : True := trivial
theorem PySem.W.Fast.tw2616936202374878295 : True := trivial
theorem PySem.W.Fast.tw14623932828383528234 : True := trivial
theorem PySem.W.Fast.tw1559835583275931142 : True := trivial
theorem PySem.W.Fast.tw10726970026091889800 : True := trivial
theorem PySem.W.Fast.tw6473038089267397109 : True := trivial
theorem PySem.W.Fast.tw17522887919480388220 : True := trivial
theorem PySem.W.Fast.tw8553830896893474794 : True := trivial
theorem PySem.W.Fast.tw13162500579729624621 : True := trivial
theorem PySem.W.Fast.tw8406976175022855626 : True := trivial
theorem PySem.W.Fast.tw4037867787821394942 : True := trivial
theorem PySem.W.Fast.tw17524299353848929589 : True := trivial
theorem PySem.W.Fast.tw6763472695503905849 : True := trivial
theorem PySem.W.Fast.tw7993292493897684133 : True := trivial
theorem PySem.W.Fast.tw11691635763192050682 : True := trivial
theorem PySem.W.Fast.tw11349982693970715658 : True := trivial
theorem PySem.W.Fast.tw5489130443172912689 : True := trivial
theorem PySem.W.Fast.tw2959236125437782004 : True := trivial
theorem PySem.W.Fast.tw4630747427199444489 : True := trivial
theorem PySem.W.Fast.tw12417507679488921977 : True := trivial
theorem PySem.W.Fast.tw16701413579875601003 : True := trivial
theorem PySem.W.Fast.tw1973314956969290011 : True := trivial
theorem PySem.W.Fast.tw4889170152005014392 : True := trivial
theorem PySem.W.Fast.tw7721705116096667180 : True := trivial
theorem PySem.W.Fast.tw15057382388549713585 : True := trivial
theorem PySem.W.Fast.tw12017792428928296923 : True := trivial
theorem PySem.W.Fast.tw13509729287761027522 : True := trivial
theorem PySem.W.Fast.tw7449427134417745837 : True := trivial
theorem PySem.W.Fast.tw8923302690560215397 : True := trivial
theorem PySem.W.Fast.tw17272645822593651451 : True := trivial
theorem PySem.W.Fast.tw18113499518741674858 : True := trivial
theorem PySem.W.Fast.tw4969641616232496077 : True := trivial
theorem PySem.W.Fast.tw3200225620574991140 : True := trivial
theorem PySem.W.Fast.tw7869086904084375734 : True := trivial
theorem PySem.W.Fast.tw16257201443468524484 : True := trivial
theorem PySem.W.Fast.tw9944398372596349978 : True := trivial
theorem PySem.W.Fast.tw11593138089450255463 : True := trivial
theorem PySem.W.Fast.tw2888574469211663503 : True := trivial
theorem PySem.W.Fast.tw4039095985722142673 : True := trivial
theorem PySem.W.Fast.tw16478231053612531277 : True := trivial
theorem PySem.W.Fast.tw11960901451714861983 : True := trivial
theorem PySem.W.Fast.tw9911585356740080257 : True := trivial
theorem PySem.W.Fast.tw2075439905749415074 : True := trivial
theorem PySem.W.Fast.tw22032492101124660 : True := trivial
theorem PySem.W.Fast.tw7021045049544883415 : True := trivial
theorem PySem.W.Fast.tw17391022764640884397 : True := trivial
theorem PySem.W.Fast.tw5934935218452985757 : True := trivial
theorem PySem.W.Fast.tw4682166497516928800 : True := trivial
theorem PySem.W.Fast.tw17847099219425890473 : True := trivial
theorem PySem.W.Fast.tw879696507456933983 : True := trivial
theorem PySem.W.Fast.tw6022524812153647234 : True := trivial
theorem PySem.W.Fast.tw9621912383743586855 : True := trivial
theorem PySem.W.Fast.tw14979864112422252660 : True := trivial
theorem PySem.W.Fast.tw2402867461264590289 : True := trivial
theorem PySem.W.Fast.tw4966094951874544530 : True := trivial
theorem PySem.W.Fast.tw4581500738854375571 : True := trivial
theorem PySem.W.Fast.tw8295852618703262402 : True := trivial
theorem PySem.W.Fast.tw11611740828066763974 : True := trivial
theorem PySem.W.Fast.tw2136715215233455703 : True := trivial
theorem PySem.W.Fast.tw12730635834825704383 : True := trivial
theorem PySem.W.Fast.tw5179574205613672664 : True := trivial
theorem PySem.W.Fast.tw9063375364722620848 : True := trivial
theorem PySem.W.Fast.tw3444734730541636397 : True := trivial
theorem PySem.W.Fast.tw1410442820911041039 : True := trivial
theorem PySem.W.Fast.tw15032769398817130462 : True := trivial
theorem PySem.W.Fast.tw6792334183413720873 : True := trivial
theorem PySem.W.Fast.tw17718711430786426917 : True := trivial
theorem PySem.W.Fast.tw2590950842297412140 : True := trivial
theorem PySem.W.Fast.tw6253048637655257377 : True := trivial
theorem PySem.W.Fast.tw6676955058422135018 : True := trivial
theorem PySem.W.Fast.tw16153315915435523204 : True := trivial
theorem PySem.W.Fast.tw15237776307833225483 : True := trivial
theorem PySem.W.Fast.tw791019089592664795 : True := trivial
theorem PySem.W.Fast.tw15225396168292275137 : True := trivial
theorem PySem.W.Fast.tw6408652251739783766 : True := trivial
theorem PySem.W.Fast.tw7610916549052825297 : True := trivial
theorem PySem.W.Fast.tw9332843539186584195 : True := trivial
theorem PySem.W.Fast.tw2434140993987996648 : True := trivial
theorem PySem.W.Fast.tw10806246668474105797 : True := trivial
theorem PySem.W.Fast.tw13590069739323379121 : True := trivial
theorem PySem.W.Fast.tw11206495106164722592 : True := trivial
theorem PySem.W.Fast.tw1593914572861609028 : True := trivial
theorem PySem.W.Fast.tw1611901902408057450 : True := trivial
theorem PySem.W.Fast.tw10749682230325922360 : True := trivial
theorem PySem.W.Fast.tw7207770470377513852 : True := trivial
theorem PySem.W.Fast.tw6913122170385374650 : True := trivial
theorem PySem.W.Fast.tw10612228008751804863 : True := trivial
theorem PySem.W.Fast.tw8266882450551196418 : True := trivial
theorem PySem.W.Fast.tw9772920382749490316 : True := trivial
theorem PySem.W.Fast.tw6968124602442957562 : True := trivial
theorem PySem.W.Fast.tw1443561681565538284 : True := trivial
theorem PySem.W.Fast.tw16119584322988722682 : True := trivial
theorem PySem.W.Fast.tw10369819152719184123 : True := trivial
theorem PySem.W.Fast.tw4363447343614672641 : True := trivial
theorem PySem.W.Fast.tw16398752996837680739 : True := trivial
theorem PySem.W.Fast.tw8240403293555551402 : True := trivial
theorem PySem.W.Fast.tw14256034546930850582 : True := trivial
theorem PySem.W.Fast.tw13444278699565004671 : True := trivial
theorem PySem.W.Fast.tw12830786147163105905 : True := trivial
theorem PySem.W.Fast.tw5436272521133286375 : True := trivial
theorem PySem.W.Fast.tw5935555762078451769 : True := trivial
theorem PySem.W.Fast.tw13874171835644247536 : True := trivial
theorem PySem.W.Fast.tw3028095700495197152 : True := trivial
theorem PySem.W.Fast.tw13522264578461990834 : True := trivial
theorem PySem.W.Fast.tw11938976836039070609 : True := trivial
theorem PySem.W.Fast.tw3535730101329531640 : True := trivial
theorem PySem.W.Fast.tw1383614462358264986 : True := trivial
theorem PySem.W.Fast.tw7924184033730804251 : True := trivial
theorem PySem.W.Fast.tw12906378062656534542 : True := trivial
theorem PySem.W.Fast.tw13951210663522300459 : True := trivial
theorem PySem.W.Fast.tw9111035178757151483 : True := trivial
theorem PySem.W.Fast.tw16721415681369216602 : True := trivial
theorem PySem.W.Fast.tw9254857975612804852 : True := trivial
theorem PySem.W.Fast.tw17410363885170099462 : True := trivial
theorem PySem.W.Fast.tw2568891583626810515 : True := trivial
theorem PySem.W.Fast.tw17640912602894513096 : True := trivial
theorem PySem.W.Fast.tw8397540832842487896 : True := trivial
theorem PySem.W.Fast.tw11673091144692261499 : True := trivial
theorem PySem.W.Fast.tw11767757768946036926 : True := trivial
theorem PySem.W.Fast.tw12846592069332203060 : True := trivial
theorem PySem.W.Fast.tw15761516752106362235 : True := trivial
theorem PySem.W.Fast.tw18254195645519125162 : True := trivial
theorem PySem.W.Fast.tw18299676929171925850 : True := trivial
theorem PySem.W.Fast.tw7171953795453705057 : True := trivial
theorem PySem.W.Fast.tw14721392593956236533 : True := trivial
theorem PySem.W.Fast.tw16730240776605960639 : True := trivial
theorem PySem.W.Fast.tw2832891490497288037 : True := trivial
theorem PySem.W.Fast.tw12861621049913888893 : True := trivial
theorem PySem.W.Fast.tw8656643652357811634 : True := trivial
theorem PySem.W.Fast.tw1757931958876244517 : True := trivial
theorem PySem.W.Fast.tw5813639082288524072 : True := trivial
theorem PySem.W.Fast.tw554947612687075072 : True := trivial
theorem PySem.W.Fast.tw6275724973030649563 : True := trivial
theorem PySem.W.Fast.tw12053456601102704493 : True := trivial
theorem PySem.W.Fast.tw9692437956895831171 : True := trivial
theorem PySem.W.Fast.tw494836978447864271 : True := trivial
theorem PySem.W.Fast.tw4432584582360184239 : True := trivial
theorem PySem.W.Fast.tw12757198316855440941 : True := trivial
theorem PySem.W.Fast.tw17963858378915678133 : True := trivial
theorem PySem.W.Fast.tw12292034057422338778 : True := trivial
theorem PySem.W.Fast.tw12139049653094776772 : True := trivial
theorem PySem.W.Fast.tw3459405016858818086 : True := trivial
theorem PySem.W.Fast.tw13188279139585964518 : True := trivial
theorem PySem.W.Fast.tw15666878410351157334 : True := trivial
theorem PySem.W.Fast.tw17020805088235335176 : True := trivial
theorem PySem.W.Fast.tw13120271429973479111 : True := trivial
theorem PySem.W.Fast.tw8556743063387801558 : True := trivial
theorem PySem.W.Fast.tw10489412518237634522 : True := trivial
theorem PySem.W.Fast.tw16145474291731113903 : True := trivial
theorem PySem.W.Fast.tw4188477219533954019 : True := trivial
theorem PySem.W.Fast.tw4740279366743448242 : True := trivial
theorem PySem.W.Fast.tw7759658863099294002 : True := trivial
theorem PySem.W.Fast.tw11099707337446877712 : True := trivial
theorem PySem.W.Fast.tw10808244991445814546 : True := trivial
theorem PySem.W.Fast.tw14526394378458916019 : True := trivial
theorem PySem.W.Fast.tw1128181468303965742 : True := trivial
theorem PySem.W.Fast.tw1774344719428594701 : True := trivial
theorem PySem.W.Fast.tw1558925772913988 : True := trivial
theorem PySem.W.Fast.tw7203530755503224550 : True := trivial
theorem PySem.W.Fast.tw5373430024945520898 : True := trivial
theorem PySem.W.Fast.tw10798447636376986510 : True := trivial
theorem PySem.W.Fast.tw17932442064887329184 : True := trivial
theorem PySem.W.Fast.tw7530713162478923469 : True := trivial
theorem PySem.W.Fast.tw7713115891092587463 : True := trivial
theorem PySem.W.Fast.tw6482252345870213443 : True := trivial
theorem PySem.W.Fast.tw9280726130169462641 : True := trivial
theorem PySem.W.Fast.tw10427875101350631873 : True := trivial
theorem PySem.W.Fast.tw11322147040363981864 : True := trivial
theorem PySem.W.Fast.tw17112875538250142018 : True := trivial
theorem PySem.W.Fast.tw11617278816953782538 : True := trivial
theorem PySem.W.Fast.tw573179805771536490 : True := trivial
theorem PySem.W.Fast.tw4520439237526432004 : True := trivial
theorem PySem.W.Fast.tw2195192253690159102 : True := trivial
theorem PySem.W.Fast.tw16092078444386017528 : True := trivial
theorem PySem.W.Fast.tw13354938382998666435 : True := trivial
theorem PySem.W.Fast.tw3507463046124317577 : True := trivial
theorem PySem.W.Fast.tw10007045051256607189 : True := trivial
theorem PySem.W.Fast.tw5417477694389373840 : True := trivial
theorem PySem.W.Fast.tw7327809904403351951 : True := trivial
theorem PySem.W.Fast.tw636126667812323938 : True := trivial
theorem PySem.W.Fast.tw222251288705568502 : True := trivial
theorem PySem.W.Fast.tw11881160709406275308 : True := trivial
theorem PySem.W.Fast.tw18424336420874424316 : True := trivial
theorem PySem.W.Fast.tw9042404729842681575 : True := trivial
theorem PySem.W.Fast.tw16488474301817149900 : True := trivial
theorem PySem.W.Fast.tw13778324204784879616 : True := trivial
theorem PySem.W.Fast.tw10282727564424178857 : True := trivial
theorem PySem.W.Fast.tw3603168720132997530 : True := trivial
theorem PySem.W.Fast.tw12925374214605650264 : True := trivial
theorem PySem.W.Fast.tw16173981426063971698 : True := trivial
theorem PySem.W.Fast.tw10548778158824290353 : True := trivial
theorem PySem.W.Fast.tw8463443438431380892 : True := trivial
theorem PySem.W.Fast.tw1233022254907408488 : True := trivial
theorem PySem.W.Fast.tw11094049549881807476 : True := trivial
theorem PySem.W.Fast.tw17556576413667228225 : True := trivial
theorem PySem.W.Fast.tw11568591610421209319 : True := trivial
theorem PySem.W.Fast.tw16318754738144700400 : True := trivial
theorem PySem.W.Fast.tw16070280052695205861 : True := trivial
theorem PySem.W.Fast.tw15046058196843418761 : True := trivial
theorem PySem.W.Fast.tw12095409768183244586 : True := trivial
theorem PySem.W.Fast.tw9134077769558867287 : True := trivial
theorem PySem.W.Fast.tw10695645684311862639 : True := trivial
theorem PySem.W.Fast.tw10260113660824302900 : True := trivial
theorem PySem.W.Fast.tw10405283812283426849 : True := trivial
theorem PySem.W.Fast.tw16797211544585004966 : True := trivial
theorem PySem.W.Fast.tw11043513443448961887 : True := trivial
theorem PySem.W.Fast.tw7691924363416764471 : True := trivial
theorem PySem.W.Fast.tw5458474063878909798 : True := trivial
theorem PySem.W.Fast.tw7240034862588548445 : True := trivial
theorem PySem.W.Fast.tw5563317905700679743 : True := trivial
theorem PySem.W.Fast.tw12105648735409941451 : True := trivial
theorem PySem.W.Fast.tw12022393316982951485 : True := trivial
theorem PySem.W.Fast.tw13771179735117813877 : True := trivial
theorem PySem.W.Fast.tw623584021346275802 : True := trivial
theorem PySem.W.Fast.tw3893058827879511330 : True := trivial
theorem PySem.W.Fast.tw11474000346849609817 : True := trivial
theorem PySem.W.Fast.tw16858181871600481497 : True := trivial
theorem PySem.W.Fast.tw15326644679672527551 : True := trivial
theorem PySem.W.Fast.tw6547780986055945886 : True := trivial
theorem PySem.W.Fast.tw3578194469940905848 : True := trivial
theorem PySem.W.Fast.tw5314802210006687611 : True := trivial
theorem PySem.W.Fast.tw5954284537317882431 : True := trivial
theorem PySem.W.Fast.tw18396542164885843021 : True := trivial
theorem PySem.W.Fast.tw15225728565767041898 : True := trivial
theorem PySem.W.Fast.tw10413197726138081941 : True := trivial
theorem PySem.W.Fast.tw12918788693159252458 : True := trivial
theorem PySem.W.Fast.tw10339723132242624252 : True := trivial
theorem PySem.W.Fast.tw8481221064496957392 : True := trivial
theorem PySem.W.Fast.tw5902346404694937506 : True := trivial
theorem PySem.W.Fast.tw4302648139727336220 : True := trivial
theorem PySem.W.Fast.tw3716651248917408764 : True := trivial
theorem PySem.W.Fast.tw5821501631559190631 : True := trivial
theorem PySem.W.Fast.tw14862260324139370670 : True := trivial
theorem PySem.W.Fast.tw14729546021553141626 : True := trivial
theorem PySem.W.Fast.tw3000724777689322937 : True := trivial
theorem PySem.W.Fast.tw12579935050763121196 : True := trivial
theorem PySem.W.Fast.tw1411334172938638424 : True := trivial
theorem PySem.W.Fast.tw2448330707968991522 : True := trivial
theorem PySem.W.Fast.tw3891902709200631865 : True := trivial
theorem PySem.W.Fast.tw11704840864787263401 : True := trivial
theorem PySem.W.Fast.tw9678812997927853154 : True := trivial
theorem PySem.W.Fast.tw15275831708544189950 : True := trivial
theorem PySem.W.Fast.tw5256671297142508116 : True := trivial
theorem PySem.W.Fast.tw10175773745782889869 : True := trivial
theorem PySem.W.Fast.tw2921715722876478323 : True := trivial
theorem PySem.W.Fast.tw8662181401489678465 : True := trivial
theorem PySem.W.Fast.tw15208085958629259232 : True := trivial
theorem PySem.W.Fast.tw3721826356568174815 : True := trivial
theorem PySem.W.Fast.tw5101221691071458313 : True := trivial
theorem PySem.W.Fast.tw8160814893199918529 : True := trivial
theorem PySem.W.Fast.tw8724869482275980203 : True := trivial
theorem PySem.W.Fast.tw11011580733590426340 : True := trivial
theorem PySem.W.Fast.tw16797552238214488233 : True := trivial
theorem PySem.W.Fast.tw17102416844605400561 : True := trivial
theorem PySem.W.Fast.tw8004820527200151710 : True := trivial
theorem PySem.W.Fast.tw1510363688379129811 : True := trivial
theorem PySem.W.Fast.tw17372168936303473034 : True := trivial
theorem PySem.W.Fast.tw2922608581425585367 : True := trivial
theorem PySem.W.Fast.tw7066652623535561835 : True := trivial
theorem PySem.W.Fast.tw8583111006246888421 : True := trivial
theorem PySem.W.Fast.tw8002352556753395744 : True := trivial
theorem PySem.W.Fast.tw12151840849590644394 : True := trivial
theorem PySem.W.Fast.tw16347146967056391453 : True := trivial
theorem PySem.W.Fast.tw10439503697107959853 : True := trivial
theorem PySem.W.Fast.tw14053436720752151963 : True := trivial
theorem PySem.W.Fast.tw9367381816093270032 : True := trivial
theorem PySem.W.Fast.tw11897192162062809105 : True := trivial
theorem PySem.W.Fast.tw6835405809190552272 : True := trivial
theorem PySem.W.Fast.tw16771619691043214814 : True := trivial
theorem PySem.W.Fast.tw6526546905679814663 : True := trivial
theorem PySem.W.Fast.tw15186617978548132834 : True := trivial
theorem PySem.W.Fast.tw3863337114729477302 : True := trivial
theorem PySem.W.Fast.tw2158225401320978470 : True := trivial
theorem PySem.W.Fast.tw6352325785898877943 : True := trivial
theorem PySem.W.Fast.tw1622062422862075553 : True := trivial
theorem PySem.W.Fast.tw3921944654734499759 : True := trivial
theorem PySem.W.Fast.tw12163654117652002149 : True := trivial
theorem PySem.W.Fast.tw13144882011733543267 : True := trivial
theorem PySem.W.Fast.tw7824528724257265813 : True := trivial
theorem PySem.W.Fast.tw14047327751963318130 : True := trivial
theorem PySem.W.Fast.tw7817357455748876290 : True := trivial
theorem PySem.W.Fast.tw547919704887371335 : True := trivial
theorem PySem.W.Fast.tw3264761886141962526 : True := trivial
theorem PySem.W.Fast.tw7281502324370679849 : True := trivial
theorem PySem.W.Fast.tw2691661619013386722 : True := trivial
theorem PySem.W.Fast.tw13544675543015624432 : True := trivial
theorem PySem.W.Fast.tw1863265649366906025 : True := trivial
theorem PySem.W.Fast.tw12573330379104680891 : True := trivial
theorem PySem.W.Fast.tw2428542805696649725 : True := trivial
theorem PySem.W.Fast.tw14480835263061164366 : True := trivial
theorem PySem.W.Fast.tw15013369745963779812 : True := trivial
theorem PySem.W.Fast.tw15987752918405272331 : True := trivial
theorem PySem.W.Fast.tw6952035586822805593 : True := trivial
theorem PySem.W.Fast.tw7239702583852561440 : True := trivial
theorem PySem.W.Fast.tw6814477233713105992 : True := trivial
theorem PySem.W.Fast.tw1072209302135328403 : True := trivial
theorem PySem.W.Fast.tw16681375892286984012 : True := trivial
theorem PySem.W.Fast.tw18174099594849110531 : True := trivial
theorem PySem.W.Fast.tw353132143317092346 : True := trivial
theorem PySem.W.Fast.tw5751949360466308904 : True := trivial
theorem PySem.W.Fast.tw4879905469232029381 : True := trivial
theorem PySem.W.Fast.tw4146627011222963029 : True := trivial
theorem PySem.W.Fast.tw9699097003914048855 : True := trivial
theorem PySem.W.Fast.tw17153830863321466394 : True := trivial
theorem PySem.W.Fast.tw3489712260338972862 : True := trivial
theorem PySem.W.Fast.tw14641714614957844486 : True := trivial
theorem PySem.W.Fast.tw13188715238502391642 : True := trivial
theorem PySem.W.Fast.tw7242492879157169174 : True := trivial
theorem PySem.W.Fast.tw6286917484881108226 : True := trivial
theorem PySem.W.Fast.tw13282366450186232115 : True := trivial
theorem PySem.W.Fast.tw10986730805162565558 : True := trivial
theorem PySem.W.Fast.tw634468310030057856 : True := trivial
theorem PySem.W.Fast.tw5873282212167112978 : True := trivial
theorem PySem.W.Fast.tw16169171790541843074 : True := trivial
theorem PySem.W.Fast.tw12270500249398523034 : True := trivial
theorem PySem.W.Fast.tw2755420751438125068 : True := trivial
theorem PySem.W.Fast.tw5270884350257933949 : True := trivial
theorem PySem.W.Fast.tw7208610287755723809 : True := trivial
theorem PySem.W.Fast.tw15470895154436540103 : True := trivial
theorem PySem.W.Fast.tw3964720969646216731 : True := trivial
theorem PySem.W.Fast.tw14243644643772427578 : True := trivial
theorem PySem.W.Fast.tw7311883923808418009 : True := trivial
theorem PySem.W.Fast.tw16434723486699162791 : True := trivial
theorem PySem.W.Fast.tw17403346051009845668 : True := trivial
theorem PySem.W.Fast.tw7033693987313956652 : True := trivial
theorem PySem.W.Fast.tw6475853222122865146 : True := trivial
theorem PySem.W.Fast.tw15630491969142677125 : True := trivial
theorem PySem.W.Fast.tw11228248619803328442 : True := trivial
theorem PySem.W.Fast.tw11805664253113708694 : True := trivial
theorem PySem.W.Fast.tw13236789217310337631 : True := trivial
theorem PySem.W.Fast.tw3085566629605339887 : True := trivial
theorem PySem.W.Fast.tw12888128845334314722 : True := trivial
theorem PySem.W.Fast.tw12632361990085181935 : True := trivial
theorem PySem.W.Fast.tw14975570639914930961 : True := trivial
theorem PySem.W.Fast.tw6615375653124777282 : True := trivial
theorem PySem.W.Fast.tw3406384125985423991 : True := trivial
theorem PySem.W.Fast.tw13930786244383297893 : True := trivial
theorem PySem.W.Fast.tw18143262568899949899 : True := trivial
theorem PySem.W.Fast.tw16595341906777974000 : True := trivial
theorem PySem.W.Fast.tw13196416114650919550 : True := trivial
theorem PySem.W.Fast.tw1798632846214230983 : True := trivial
theorem PySem.W.Fast.tw10223179244021952527 : True := trivial
theorem PySem.W.Fast.tw10759162867048336366 : True := trivial
theorem PySem.W.Fast.tw8012299676591072187 : True := trivial
theorem PySem.W.Fast.tw8049148338105699390 : True := trivial
theorem PySem.W.Fast.tw14344356081744679275 : True := trivial
theorem PySem.W.Fast.tw5894634380253494889 : True := trivial
theorem PySem.W.Fast.tw8703927861714988568 : True := trivial
theorem PySem.W.Fast.tw1598094505123170647 : True := trivial
theorem PySem.W.Fast.tw15670335068506491167 : True := trivial
theorem PySem.W.Fast.tw12203672245009841298 : True := trivial
theorem PySem.W.Fast.tw1734662024579575023 : True := trivial
theorem PySem.W.Fast.tw756460870320731634 : True := trivial
theorem PySem.W.Fast.tw2836194645332884510 : True := trivial
theorem PySem.W.Fast.tw2213347363779609341 : True := trivial
theorem PySem.W.Fast.tw7178733395816285941 : True := trivial
theorem PySem.W.Fast.tw14157017387282874550 : True := trivial
theorem PySem.W.Fast.tw6798191536596062952 : True := trivial
theorem PySem.W.Fast.tw6396653744134345984 : True := trivial
theorem PySem.W.Fast.tw4003956946362625870 : True := trivial
theorem PySem.W.Fast.tw269964270132032397 : True := trivial
theorem PySem.W.Fast.tw9638718272197333365 : True := trivial
theorem PySem.W.Fast.tw1816930082449918735 : True := trivial
theorem PySem.W.Fast.tw3954536933696960430 : True := trivial
theorem PySem.W.Fast.tw12887448746548777900 : True := trivial
theorem PySem.W.Fast.tw3086726931489168208 : True := trivial
theorem PySem.W.Fast.tw1309369362107402911 : True := trivial
theorem PySem.W.Fast.tw3735700937103285979 : True := trivial
theorem PySem.W.Fast.tw16321576369955766185 : True := trivial
theorem PySem.W.Fast.tw1488283561010235116 : True := trivial
theorem PySem.W.Fast.tw4340870396733574095 : True := trivial
theorem PySem.W.Fast.tw2441430830029064762 : True := trivial
theorem PySem.W.Fast.tw4065963828458275442 : True := trivial
theorem PySem.W.Fast.tw3596757797866360417 : True := trivial
theorem PySem.W.Fast.tw7464405602976136561 : True := trivial
theorem PySem.W.Fast.tw8062270045835311207 : True := trivial
theorem PySem.W.Fast.tw13973696346094226698 : True := trivial
theorem PySem.W.Fast.tw1190684345475277806 : True := trivial
theorem PySem.W.Fast.tw11269700883620659317 : True := trivial
theorem PySem.W.Fast.tw14466474950456386175 : True := trivial
theorem PySem.W.Fast.tw2528100685707861653 : True := trivial
theorem PySem.W.Fast.tw2729062272287121485 : True := trivial
theorem PySem.W.Fast.tw117407792083206994 : True := trivial
theorem PySem.W.Fast.tw4854421360460795157 : True := trivial
theorem PySem.W.Fast.tw3363005857563448191 : True := trivial
theorem PySem.W.Fast.tw16868658921260729513 : True := trivial
theorem PySem.W.Fast.tw17977125775046121739 : True := trivial
theorem PySem.W.Fast.tw9807824999591177666 : True := trivial
theorem PySem.W.Fast.tw1216806230623460066 : True := trivial
theorem PySem.W.Fast.tw17419237919571273633 : True := trivial
theorem PySem.W.Fast.tw9255823987103013542 : True := trivial
theorem PySem.W.Fast.tw10827082418492958867 : True := trivial
theorem PySem.W.Fast.tw168491641923950456 : True := trivial
theorem PySem.W.Fast.tw9774712870619653284 : True := trivial
theorem PySem.W.Fast.tw9202966098571172034 : True := trivial
theorem PySem.W.Fast.tw16285414548369826776 : True := trivial
theorem PySem.W.Fast.tw12218417824789330996 : True := trivial
theorem PySem.W.Fast.tw17725220728007393337 : True := trivial
theorem PySem.W.Fast.tw13857281650055329282 : True := trivial
theorem PySem.W.Fast.tw13465845357231720345 : True := trivial
theorem PySem.W.Fast.tw999932834056038776 : True := trivial
theorem PySem.W.Fast.tw7206099891409361376 : True := trivial
theorem PySem.W.Fast.tw14344861033654395299 : True := trivial
theorem PySem.W.Fast.tw12765278566125021319 : True := trivial
theorem PySem.W.Fast.tw741178939382013102 : True := trivial
theorem PySem.W.Fast.tw16303381479981126077 : True := trivial
theorem PySem.W.Fast.tw5494410621748600602 : True := trivial
theorem PySem.W.Fast.tw8829264707842606322 : True := trivial
theorem PySem.W.Fast.tw16553432962272828039 : True := trivial
theorem PySem.W.Fast.tw4277239982350393293 : True := trivial
theorem PySem.W.Fast.tw2857652223873764626 : True := trivial
theorem PySem.W.Fast.tw2317314010177091398 : True := trivial
theorem PySem.W.Fast.tw12933818185153209803 : True := trivial
theorem PySem.W.Fast.tw6324496930799285794 : True := trivial
theorem PySem.W.Fast.tw17777004935670175971 : True := trivial
theorem PySem.W.Fast.tw11695097542393148167 : True := trivial
theorem PySem.W.Fast.tw12396113504887324688 : True := trivial
theorem PySem.W.Fast.tw7369828398246664379 : True := trivial
theorem PySem.W.Fast.tw6003797780686121019 : True := trivial
theorem PySem.W.Fast.tw18302459114111211713 : True := trivial
theorem PySem.W.Fast.tw17657712910977794700 : True := trivial
theorem PySem.W.Fast.tw14450386882920471131 : True := trivial
theorem PySem.W.Fast.tw12512489685024186560 : True := trivial
theorem PySem.W.Fast.tw202169664736214504 : True := trivial
theorem PySem.W.Fast.tw17148853171210909522 : True := trivial
theorem PySem.W.Fast.tw2436795876498332126 : True := trivial
theorem PySem.W.Fast.tw11149914293345348161 : True := trivial
theorem PySem.W.Fast.tw5302702744732288496 : True := trivial
theorem PySem.W.Fast.tw13887114567511931239 : True := trivial
theorem PySem.W.Fast.tw3489502972152095092 : True := trivial
theorem PySem.W.Fast.tw13452126876427664717 : True := trivial
theorem PySem.W.Fast.tw3472691080761006703 : True := trivial
theorem PySem.W.Fast.tw7426484300732268323 : True := trivial
theorem PySem.W.Fast.tw7797345907395264754 : True := trivial
theorem PySem.W.Fast.tw5777565478237879502 : True := trivial
theorem PySem.W.Fast.tw10485139541160265221 : True := trivial
theorem PySem.W.Fast.tw14478281564495384249 : True := trivial
theorem PySem.W.Fast.tw1091884084284277190 : True := trivial
theorem PySem.W.Fast.tw869317533281887419 : True := trivial
theorem PySem.W.Fast.tw5162773146566819144 : True := trivial
theorem PySem.W.Fast.tw9833933953530073685 : True := trivial
theorem PySem.W.Fast.tw9564270012942133411 : True := trivial
theorem PySem.W.Fast.tw9015962437044278165 : True := trivial
theorem PySem.W.Fast.tw4184001866293956098 : True := trivial
theorem PySem.W.Fast.tw7774184554632616774 : True := trivial
theorem PySem.W.Fast.tw13641678620657580043 : True := trivial
theorem PySem.W.Fast.tw1751697578771360757 : True := trivial
theorem PySem.W.Fast.tw8825743964591927818 : True := trivial
theorem PySem.W.Fast.tw937952007910990131 : True := trivial
theorem PySem.W.Fast.tw8126691457239058880 : True := trivial
theorem PySem.W.Fast.tw9358946189679358846 : True := trivial
theorem PySem.W.Fast.tw11826193182911341077 : True := trivial
theorem PySem.W.Fast.tw12564354952187408634 : True := trivial
theorem PySem.W.Fast.tw14194153270788048635 : True := trivial
theorem PySem.W.Fast.tw10623869157419517147 : True := trivial
theorem PySem.W.Fast.tw5758099266423626510 : True := trivial
theorem PySem.W.Fast.tw7454822528956648995 : True := trivial
theorem PySem.W.Fast.tw8467889683943289226 : True := trivial
theorem PySem.W.Fast.tw7482083507558536782 : True := trivial
theorem PySem.W.Fast.tw1861386713966322035 : True := trivial
theorem PySem.W.Fast.tw11193363888149945114 : True := trivial
theorem PySem.W.Fast.tw13318991711830672577 : True := trivial
theorem PySem.W.Fast.tw13981576521312918795 : True := trivial
theorem PySem.W.Fast.tw1958928587648573815 : True := trivial
theorem PySem.W.Fast.tw18338170183798664200 : True := trivial
theorem PySem.W.Fast.tw13543063867440224388 : True := trivial
theorem PySem.W.Fast.tw1201456506102921160 : True := trivial
theorem PySem.W.Fast.tw14118268792205006005 : True := trivial
theorem PySem.W.Fast.tw2344989707215769072 : True := trivial
theorem PySem.W.Fast.tw1277067702575512081 : True := trivial
theorem PySem.W.Fast.tw8431637072006921382 : True := trivial
theorem PySem.W.Fast.tw18098297894831260859 : True := trivial
theorem PySem.W.Fast.tw15271239424553665346 : True := trivial
theorem PySem.W.Fast.tw11278125593770180855 : True := trivial
theorem PySem.W.Fast.tw4456213610924416094 : True := trivial
theorem PySem.W.Fast.tw10300172639857490943 : True := trivial
theorem PySem.W.Fast.tw17288292827358891512 : True := trivial
theorem PySem.W.Fast.tw6439029046828842089 : True := trivial
theorem PySem.W.Fast.tw4940989825162960429 : True := trivial
theorem PySem.W.Fast.tw8635721352122974149 : True := trivial
theorem PySem.W.Fast.tw16604817205983062630 : True := trivial
theorem PySem.W.Fast.tw16820814519780438058 : True := trivial
theorem PySem.W.Fast.tw5750532611321103785 : True := trivial
theorem PySem.W.Fast.tw5045157814968964814 : True := trivial
theorem PySem.W.Fast.tw13901473493916355784 : True := trivial
theorem PySem.W.Fast.tw8954234746504162088 : True := trivial
theorem PySem.W.Fast.tw3853335200010046964 : True := trivial
theorem PySem.W.Fast.tw10362845175720022988 : True := trivial
theorem PySem.W.Fast.tw485280026542815677 : True := trivial
theorem PySem.W.Fast.tw729548813955660244 : True := trivial
theorem PySem.W.Fast.tw17009530533631725028 : True := trivial
theorem PySem.W.Fast.tw16941725309765540900 : True := trivial
theorem PySem.W.Fast.tw7411713590095620820 : True := trivial
theorem PySem.W.Fast.tw1222678226169212081 : True := trivial
theorem PySem.W.Fast.tw10478101735174256305 : True := trivial
theorem PySem.W.Fast.tw425198318238688077 : True := trivial
theorem PySem.W.Fast.tw8651638430154736993 : True := trivial
theorem PySem.W.Fast.tw15741598136310657142 : True := trivial
theorem PySem.W.Fast.tw9389960583738707323 : True := trivial
theorem PySem.W.Fast.tw17620293570010370670 : True := trivial
theorem PySem.W.Fast.tw3405292465942322749 : True := trivial
theorem PySem.W.Fast.tw9370783237800931959 : True := trivial
theorem PySem.W.Fast.tw12114606118476317480 : True := trivial
theorem PySem.W.Fast.tw17082742034114580882 : True := trivial
theorem PySem.W.Fast.tw15770619737016530495 : True := trivial
theorem PySem.W.Fast.tw1511063737694208186 : True := trivial
theorem PySem.W.Fast.tw2302826551212013871 : True := trivial
theorem PySem.W.Fast.tw15212907729062640891 : True := trivial
theorem PySem.W.Fast.tw6769802323216067456 : True := trivial
theorem PySem.W.Fast.tw11615405922269327681 : True := trivial
theorem PySem.W.Fast.tw2396318365651078367 : True := trivial
theorem PySem.W.Fast.tw671351812446309552 : True := trivial
theorem PySem.W.Fast.tw3803325385613324648 : True := trivial
theorem PySem.W.Fast.tw10912226857259658905 : True := trivial
theorem PySem.W.Fast.tw8374250945170883017 : True := trivial
theorem PySem.W.Fast.tw16052186765585983328 : True := trivial
theorem PySem.W.Fast.tw7070573722122640326 : True := trivial
theorem PySem.W.Fast.tw946741571138785116 : True := trivial
theorem PySem.W.Fast.tw14034603172918730430 : True := trivial
theorem PySem.W.Fast.tw14457788192364310960 : True := trivial
theorem PySem.W.Fast.tw6766456297934279667 : True := trivial
theorem PySem.W.Fast.tw1120062114039220411 : True := trivial
theorem PySem.W.Fast.tw715589797699983920 : True := trivial
theorem PySem.W.Fast.tw7975921589152918445 : True := trivial
theorem PySem.W.Fast.tw11708121910826129746 : True := trivial
theorem PySem.W.Fast.tw16165063607439093540 : True := trivial
theorem PySem.W.Fast.tw2307608173729924068 : True := trivial
theorem PySem.W.Fast.tw16868983300397609756 : True := trivial
theorem PySem.W.Fast.tw2138866844019631554 : True := trivial
theorem PySem.W.Fast.tw3788169282740707366 : True := trivial
theorem PySem.W.Fast.tw15088316725767314061 : True := trivial
theorem PySem.W.Fast.tw17934427273770396386 : True := trivial
theorem PySem.W.Fast.tw5799365205878463015 : True := trivial
theorem PySem.W.Fast.tw1270873101331771681 : True := trivial
theorem PySem.W.Fast.tw8407866415820650612 : True := trivial
theorem PySem.W.Fast.tw17732725000981375613 : True := trivial
theorem PySem.W.Fast.tw15864762355780150651 : True := trivial
theorem PySem.W.Fast.tw4026913069398645821 : True := trivial
theorem PySem.W.Fast.tw11733926295632785818 : True := trivial
theorem PySem.W.Fast.tw17636149863590621614 : True := trivial
theorem PySem.W.Fast.tw11153822402751698955 : True := trivial
theorem PySem.W.Fast.tw6363095445205862316 : True := trivial
theorem PySem.W.Fast.tw806246376542059302 : True := trivial
theorem PySem.W.Fast.tw9915579110014287732 : True := trivial
theorem PySem.W.Fast.tw501370767782726183 : True := trivial
theorem PySem.W.Fast.tw3813175425215742509 : True := trivial
theorem PySem.W.Fast.tw15542718750471750552 : True := trivial
theorem PySem.W.Fast.tw17226104474849613616 : True := trivial
theorem PySem.W.Fast.tw17614433601719626202 : True := trivial
theorem PySem.W.Fast.tw450954276581414444 : True := trivial
theorem PySem.W.Fast.tw9688198940578401659 : True := trivial
theorem PySem.W.Fast.tw11845592955394841 : True := trivial
theorem PySem.W.Fast.tw2480071384318067528 : True := trivial
theorem PySem.W.Fast.tw7601853788500792079 : True := trivial
theorem PySem.W.Fast.tw13202082759657616486 : True := trivial
theorem PySem.W.Fast.tw17318388378513770727 : True := trivial
theorem PySem.W.Fast.tw6636149251096178321 : True := trivial
theorem PySem.W.Fast.tw3941740723743321449 : True := trivial
theorem PySem.W.Fast.tw14150218005491747462 : True := trivial
theorem PySem.W.Fast.tw17652668043607170348 : True := trivial
theorem PySem.W.Fast.tw11822807722285634655 : True := trivial
theorem PySem.W.Fast.tw16205391164108144628 : True := trivial
theorem PySem.W.Fast.tw2940074523408243339 : True := trivial
theorem PySem.W.Fast.tw3044099986519367536 : True := trivial
theorem PySem.W.Fast.tw4323512041103308299 : True := trivial
theorem PySem.W.Fast.tw12191729037446449522 : True := trivial
theorem PySem.W.Fast.tw10550396517062986980 : True := trivial
theorem PySem.W.Fast.tw4395677879487053962 : True := trivial
theorem PySem.W.Fast.tw15184883786118569378 : True := trivial
theorem PySem.W.Fast.tw14502469476439042321 : True := trivial
theorem PySem.W.Fast.tw10198900035590567071 : True := trivial
theorem PySem.W.Fast.tw8665886378033998632 : True := trivial
theorem PySem.W.Fast.tw9824594399328997008 : True := trivial
theorem PySem.W.Fast.tw16596103594118138341 : True := trivial
theorem PySem.W.Fast.tw8174036766068290898 : True := trivial
theorem PySem.W.Fast.tw14412573096634215803 : True := trivial
theorem PySem.W.Fast.tw9477169756730439182 : True := trivial
theorem PySem.W.Fast.tw231862331175461016 : True := trivial
theorem PySem.W.Fast.tw13285049597102245401 : True := trivial
theorem PySem.W.Fast.tw15206824876536696075 : True := trivial
theorem PySem.W.Fast.tw12544494971801180456 : True := trivial
theorem PySem.W.Fast.tw15137598783428928923 : True := trivial
theorem PySem.W.Fast.tw1845035698417306440 : True := trivial
theorem PySem.W.Fast.tw16806212527287071719 : True := trivial
theorem PySem.W.Fast.tw3323771932345743351 : True := trivial
theorem PySem.W.Fast.tw2573285499019841757 : True := trivial
theorem PySem.W.Fast.tw8949436604382670522 : True := trivial
theorem PySem.W.Fast.tw1029297123386526833 : True := trivial
theorem PySem.W.Fast.tw13758995720977694048 : True := trivial
theorem PySem.W.Fast.tw15497789837058059522 : True := trivial
theorem PySem.W.Fast.tw3999838849151081371 : True := trivial
theorem PySem.W.Fast.tw3478140309953618805 : True := trivial
theorem PySem.W.Fast.tw3906446815806250548 : True := trivial
theorem PySem.W.Fast.tw5916829564192352721 : True := trivial
theorem PySem.W.Fast.tw14193403458833067665 : True := trivial
theorem PySem.W.Fast.tw17000647708620940237 : True := trivial
theorem PySem.W.Fast.tw7411781208821428323 : True := trivial
theorem PySem.W.Fast.tw6347695950099954102 : True := trivial
theorem PySem.W.Fast.tw13871319657411601185 : True := trivial
theorem PySem.W.Fast.tw349712440106379842 : True := trivial
theorem PySem.W.Fast.tw17241798064226223414 : True := trivial
theorem PySem.W.Fast.tw13791952981136902752 : True := trivial
theorem PySem.W.Fast.tw14837581778431040545 : True := trivial
theorem PySem.W.Fast.tw14440755969835615318 : True := trivial
theorem PySem.W.Fast.tw16438443536848399745 : True := trivial
theorem PySem.W.Fast.tw12412300084772476770 : True := trivial
theorem PySem.W.Fast.tw1342369847192392910 : True := trivial
theorem PySem.W.Fast.tw2126550552210912929 : True := trivial
theorem PySem.W.Fast.tw1768588932861477646 : True := trivial
theorem PySem.W.Fast.tw12785370738981609710 : True := trivial
theorem PySem.W.Fast.tw17571508993906487291 : True := trivial
theorem PySem.W.Fast.tw11459374467297005687 : True := trivial
theorem PySem.W.Fast.tw17350275636364444011 : True := trivial
theorem PySem.W.Fast.tw5772546741347945057 : True := trivial
theorem PySem.W.Fast.tw7716061704094764777 : True := trivial
theorem PySem.W.Fast.tw17367115720739985882 : True := trivial
theorem PySem.W.Fast.tw13160714412463370479 : True := trivial
theorem PySem.W.Fast.tw7436810766950294223 : True := trivial
theorem PySem.W.Fast.tw8921199427498528081 : True := trivial
theorem PySem.W.Fast.tw3221548385317637887 : True := trivial
theorem PySem.W.Fast.tw9179370733559281332 : True := trivial
theorem PySem.W.Fast.tw8020088740682173435 : True := trivial
theorem PySem.W.Fast.tw5121611907896109774 : True := trivial
theorem PySem.W.Fast.tw5584490722422412316 : True := trivial
theorem PySem.W.Fast.tw15309694167067057651 : True := trivial
theorem PySem.W.Fast.tw10432673535255866444 : True := trivial
theorem PySem.W.Fast.tw4280736250914678282 : True := trivial
theorem PySem.W.Fast.tw6104754872173160152 : True := trivial
theorem PySem.W.Fast.tw12336257720904427603 : True := trivial
theorem PySem.W.Fast.tw6062799488087513749 : True := trivial
theorem PySem.W.Fast.tw10508541198627047007 : True := trivial
theorem PySem.W.Fast.tw1671844097808667197 : True := trivial
theorem PySem.W.Fast.tw4431512560649128035 : True := trivial
theorem PySem.W.Fast.tw16474316265426081397 : True := trivial
theorem PySem.W.Fast.tw8188219907093334264 : True := trivial
theorem PySem.W.Fast.tw13874260458588495514 : True := trivial
theorem PySem.W.Fast.tw2660892894831756812 : True := trivial
theorem PySem.W.Fast.tw34915737410304530 : True := trivial
theorem PySem.W.Fast.tw13933221295957262403 : True := trivial
theorem PySem.W.Fast.tw17904340492930249686 : True := trivial
theorem PySem.W.Fast.tw16697272211401882996 : True := trivial
theorem PySem.W.Fast.tw5959041299483218765 : True := trivial
theorem PySem.W.Fast.tw17841768993894092908 : True := trivial
theorem PySem.W.Fast.tw2713695922135401475 : True := trivial
theorem PySem.W.Fast.tw10360563761256940999 : True := trivial
theorem PySem.W.Fast.tw13585133451576529179 : True := trivial
theorem PySem.W.Fast.tw9613322721658445344 : True := trivial
theorem PySem.W.Fast.tw11991609966193321241 : True := trivial
theorem PySem.W.Fast.tw16306200481269774901 : True := trivial
theorem PySem.W.Fast.tw13840670246132882246 : True := trivial
theorem PySem.W.Fast.tw5103064525837456129 : True := trivial
theorem PySem.W.Fast.tw7920208646435780216 : True := trivial
theorem PySem.W.Fast.tw262097129828892647 : True := trivial
theorem PySem.W.Fast.tw1646834431782298308 : True := trivial
theorem PySem.W.Fast.tw562615026441165434 : True := trivial
theorem PySem.W.Fast.tw8806095356099766007 : True := trivial
theorem PySem.W.Fast.tw1155035226837717416 : True := trivial
theorem PySem.W.Fast.tw16745193377072148563 : True := trivial
theorem PySem.W.Fast.tw7062327849516106907 : True := trivial
theorem PySem.W.Fast.tw6594764559597741831 : True := trivial
theorem PySem.W.Fast.tw16086281024158567721 : True := trivial
theorem PySem.W.Fast.tw3152097289222157210 : True := trivial
theorem PySem.W.Fast.tw5343155781262625520 : True := trivial
theorem PySem.W.Fast.tw6883274071163089350 : True := trivial
theorem PySem.W.Fast.tw539487043176541955 : True := trivial
theorem PySem.W.Fast.tw14366107742141858446 : True := trivial
theorem PySem.W.Fast.tw2885216756277498818 : True := trivial
theorem PySem.W.Fast.tw4982790181371122254 : True := trivial
theorem PySem.W.Fast.tw14284403034490829108 : True := trivial
theorem PySem.W.Fast.tw7231354554491531590 : True := trivial
theorem PySem.W.Fast.tw4504318076237567502 : True := trivial
theorem PySem.W.Fast.tw3410863743186571882 : True := trivial
theorem PySem.W.Fast.tw10466080725427056054 : True := trivial
theorem PySem.W.Fast.tw9811641497512613180 : True := trivial
theorem PySem.W.Fast.tw9715165807461802320 : True := trivial
theorem PySem.W.Fast.tw4292335414330492804 : True := trivial
theorem PySem.W.Fast.tw18200232238998398031 : True := trivial
theorem PySem.W.Fast.tw10614704903982743402 : True := trivial
theorem PySem.W.Fast.tw12763258282162361776 : True := trivial
theorem PySem.W.Fast.tw10004010389617901873 : True := trivial
theorem PySem.W.Fast.tw1496000358319197749 : True := trivial
theorem PySem.W.Fast.tw12676553761157367210 : True := trivial
theorem PySem.W.Fast.tw1845907311582759617 : True := trivial
theorem PySem.W.Fast.tw15255461385139839449 : True := trivial
theorem PySem.W.Fast.tw4250125936263555076 : True := trivial
theorem PySem.W.Fast.tw15817316058210965158 : True := trivial
theorem PySem.W.Fast.tw7826619475669462735 : True := trivial
theorem PySem.W.Fast.tw52171100685769718 : True := trivial
theorem PySem.W.Fast.tw12526463622697746872 : True := trivial
theorem PySem.W.Fast.tw11182500291480483914 : True := trivial
theorem PySem.W.Fast.tw12271433626599242163 : True := trivial
theorem PySem.W.Fast.tw11850045416072784830 : True := trivial
theorem PySem.W.Fast.tw11837802525255455125 : True := trivial
theorem PySem.W.Fast.tw15057941133012345158 : True := trivial
theorem PySem.W.Fast.tw6521896181415818641 : True := trivial
theorem PySem.W.Fast.tw8053581264649068871 : True := trivial
theorem PySem.W.Fast.tw12510183010851897674 : True := trivial
theorem PySem.W.Fast.tw2225308508867236060 : True := trivial
theorem PySem.W.Fast.tw6578777425052805169 : True := trivial
theorem PySem.W.Fast.tw11964341509972449713 : True := trivial
theorem PySem.W.Fast.tw11923473727026836637 : True := trivial
theorem PySem.W.Fast.tw15594577237117453549 : True := trivial
theorem PySem.W.Fast.tw7811479903737120984 : True := trivial
theorem PySem.W.Fast.tw13891090736320752734 : True := trivial
theorem PySem.W.Fast.tw9065826724615872166 : True := trivial
theorem PySem.W.Fast.tw16004164512224586347 : True := trivial
theorem PySem.W.Fast.tw12750483185874943018 : True := trivial
theorem PySem.W.Fast.tw11344790886397190520 : True := trivial
theorem PySem.W.Fast.tw5135683763675863014 : True := trivial
theorem PySem.W.Fast.tw11831497730840643224 : True := trivial
theorem PySem.W.Fast.tw4617605952126195192 : True := trivial
theorem PySem.W.Fast.tw3455534332123472291 : True := trivial
theorem PySem.W.Fast.tw5265882223579449207 : True := trivial
theorem PySem.W.Fast.tw12691959671610854052 : True := trivial
theorem PySem.W.Fast.tw2423231821457923650 : True := trivial
theorem PySem.W.Fast.tw3155760609226106390 : True := trivial
theorem PySem.W.Fast.tw10952302633218599990 : True := trivial
theorem PySem.W.Fast.tw2530053014305301106 : True := trivial
theorem PySem.W.Fast.tw5760693371201298056 : True := trivial
theorem PySem.W.Fast.tw4753694767148116472 : True := trivial
theorem PySem.W.Fast.tw8456894781831570640 : True := trivial
theorem PySem.W.Fast.tw945948176847142811 : True := trivial
theorem PySem.W.Fast.tw16942066984304854095 : True := trivial
theorem PySem.W.Fast.tw17187843056065944952 : True := trivial
theorem PySem.W.Fast.tw4714035734800511458 : True := trivial
theorem PySem.W.Fast.tw7412391038301971041 : True := trivial
theorem PySem.W.Fast.tw16390111924815349583 : True := trivial
theorem PySem.W.Fast.tw4671511621648824062 : True := trivial
theorem PySem.W.Fast.tw5342569227008474930 : True := trivial
theorem PySem.W.Fast.tw5108513936935793510 : True := trivial
theorem PySem.W.Fast.tw7141940250697328330 : True := trivial
theorem PySem.W.Fast.tw2793136497685092641 : True := trivial
theorem PySem.W.Fast.tw9899155543280741490 : True := trivial
theorem PySem.W.Fast.tw7584503949165048035 : True := trivial
theorem PySem.W.Fast.tw7259872679563470511 : True := trivial
theorem PySem.W.Fast.tw1268672571071147541 : True := trivial
theorem PySem.W.Fast.tw13616592199363047771 : True := trivial
theorem PySem.W.Fast.tw3019086758119894158 : True := trivial
theorem PySem.W.Fast.tw14230640742160520829 : True := trivial
theorem PySem.W.Fast.tw7006788520954162296 : True := trivial
theorem PySem.W.Fast.tw9079110554714938466 : True := trivial
theorem PySem.W.Fast.tw14154425086491858055 : True := trivial
theorem PySem.W.Fast.tw16457758065057283773 : True := trivial
theorem PySem.W.Fast.tw4144278376089541804 : True := trivial
theorem PySem.W.Fast.tw3661113154424088547 : True := trivial
theorem PySem.W.Fast.tw3603967543028203219 : True := trivial
theorem PySem.W.Fast.tw3462942972371356157 : True := trivial
theorem PySem.W.Fast.tw1392516754585833438 : True := trivial
theorem PySem.W.Fast.tw8978781302971842786 : True := trivial
theorem PySem.W.Fast.tw14993993582051420932 : True := trivial
theorem PySem.W.Fast.tw3998513679098819603 : True := trivial
theorem PySem.W.Fast.tw11957183684815236604 : True := trivial
theorem PySem.W.Fast.tw12796481419932007493 : True := trivial
theorem PySem.W.Fast.tw6413122418629523320 : True := trivial
theorem PySem.W.Fast.tw6154850900756858810 : True := trivial
theorem PySem.W.Fast.tw15358667855411669050 : True := trivial
theorem PySem.W.Fast.tw5372737885436880092 : True := trivial
theorem PySem.W.Fast.tw521310069080498662 : True := trivial
theorem PySem.W.Fast.tw17033609809216161726 : True := trivial
theorem PySem.W.Fast.tw11976469511568052036 : True := trivial
theorem PySem.W.Fast.tw4650321794767606503 : True := trivial
theorem PySem.W.Fast.tw14322703035979831284 : True := trivial
theorem PySem.W.Fast.tw6888493335461038981 : True := trivial
theorem PySem.W.Fast.tw5156900486476346126 : True := trivial
theorem PySem.W.Fast.tw8596025293696321921 : True := trivial
theorem PySem.W.Fast.tw1947809498084935970 : True := trivial
theorem PySem.W.Fast.tw8102431749175693263 : True := trivial
theorem PySem.W.Fast.tw5516903691511361419 : True := trivial
theorem PySem.W.Fast.tw418766852151392460 : True := trivial
theorem PySem.W.Fast.tw17779072505002108529 : True := trivial
theorem PySem.W.Fast.tw15152217948575709910 : True := trivial
theorem PySem.W.Fast.tw11880722800514954031 : True := trivial
theorem PySem.W.Fast.tw945654192647531600 : True := trivial
theorem PySem.W.Fast.tw1256581913118137076 : True := trivial
theorem PySem.W.Fast.tw13967452344923041493 : True := trivial
theorem PySem.W.Fast.tw6220581919122870187 : True := trivial
theorem PySem.W.Fast.tw8432489627400707839 : True := trivial
theorem PySem.W.Fast.tw10171053655831630596 : True := trivial
theorem PySem.W.Fast.tw4533705219035343410 : True := trivial
theorem PySem.W.Fast.tw17769298068935282983 : True := trivial
theorem PySem.W.Fast.tw7049139160899177597 : True := trivial
theorem PySem.W.Fast.tw7305096256411897953 : True := trivial
theorem PySem.W.Fast.tw7375310129793585151 : True := trivial
theorem PySem.W.Fast.tw16694553203778305663 : True := trivial
theorem PySem.W.Fast.tw11401928385571296632 : True := trivial
theorem PySem.W.Fast.tw10040043916718144914 : True := trivial
theorem PySem.W.Fast.tw8388235013390441517 : True := trivial
theorem PySem.W.Fast.tw8392741793973740447 : True := trivial
theorem PySem.W.Fast.tw7444584433660710691 : True := trivial
theorem PySem.W.Fast.tw2046970521522681139 : True := trivial
theorem PySem.W.Fast.tw12390928593932756264 : True := trivial
theorem PySem.W.Fast.tw1241072623526145139 : True := trivial
theorem PySem.W.Fast.tw5508232571971700270 : True := trivial
theorem PySem.W.Fast.tw4741414712410186055 : True := trivial
theorem PySem.W.Fast.tw18361261885821946475 : True := trivial
theorem PySem.W.Fast.tw2219290606254196391 : True := trivial
theorem PySem.W.Fast.tw15683676916594712239 : True := trivial
theorem PySem.W.Fast.tw16397251285556832621 : True := trivial
theorem PySem.W.Fast.tw6025395963750406147 : True := trivial
theorem PySem.W.Fast.tw9971412099315790959 : True := trivial
theorem PySem.W.Fast.tw8820807975180594933 : True := trivial
theorem PySem.W.Fast.tw18146756472593850169 : True := trivial
theorem PySem.W.Fast.tw5436379576381642973 : True := trivial
theorem PySem.W.Fast.tw15564522942954555684 : True := trivial
theorem PySem.W.Fast.tw3914666730743242258 : True := trivial
theorem PySem.W.Fast.tw8984065995999731475 : True := trivial
theorem PySem.W.Fast.tw4272776780278231193 : True := trivial
theorem PySem.W.Fast.tw12693673776080356061 : True := trivial
theorem PySem.W.Fast.tw11145023534640657032 : True := trivial
theorem PySem.W.Fast.tw5049512467175517332 : True := trivial
theorem PySem.W.Fast.tw1139334662031435700 : True := trivial
theorem PySem.W.Fast.tw15200911127712749211 : True := trivial
theorem PySem.W.Fast.tw12174720969466428651 : True := trivial
theorem PySem.W.Fast.tw5201604663232792445 : True := trivial
theorem PySem.W.Fast.tw10201328189755815368 : True := trivial
theorem PySem.W.Fast.tw7199498254911728914 : True := trivial
theorem PySem.W.Fast.tw17790138363220811377 : True := trivial
theorem PySem.W.Fast.tw6574786361807646659 : True := trivial
theorem PySem.W.Fast.tw12656882679600730684 : True := trivial
theorem PySem.W.Fast.tw7182439654865874727 : True := trivial
theorem PySem.W.Fast.tw10571311861400460453 : True := trivial
theorem PySem.W.Fast.tw6643631907859148818 : True := trivial
theorem PySem.W.Fast.tw1816887266184994000 : True := trivial
theorem PySem.W.Fast.tw122746370405495672 : True := trivial
theorem PySem.W.Fast.tw5519798195038594797 : True := trivial
theorem PySem.W.Fast.tw4187689810764987852 : True := trivial
theorem PySem.W.Fast.tw17119154463060519258 : True := trivial
theorem PySem.W.Fast.tw16140285852231926717 : True := trivial
theorem PySem.W.Fast.tw17214042253145849881 : True := trivial
theorem PySem.W.Fast.tw14410994009079537136 : True := trivial
theorem PySem.W.Fast.tw1219607282001581990 : True := trivial
theorem PySem.W.Fast.tw2704380614141836919 : True := trivial
theorem PySem.W.Fast.tw12147090957590562418 : True := trivial
theorem PySem.W.Fast.tw8188664241360300883 : True := trivial
theorem PySem.W.Fast.tw18412686893968843571 : True := trivial
theorem PySem.W.Fast.tw8435813946891714433 : True := trivial
theorem PySem.W.Fast.tw16533044419583348174 : True := trivial
theorem PySem.W.Fast.tw6208391864277945331 : True := trivial
theorem PySem.W.Fast.tw15984602422538210282 : True := trivial
theorem PySem.W.Fast.tw9710640875546281948 : True := trivial
theorem PySem.W.Fast.tw17166576541111767448 : True := trivial
theorem PySem.W.Fast.tw3852215874266462028 : True := trivial
theorem PySem.W.Fast.tw1895142408682784081 : True := trivial
theorem PySem.W.Fast.tw3483314631760257970 : True := trivial
theorem PySem.W.Fast.tw13106338627042637003 : True := trivial
theorem PySem.W.Fast.tw3108172302913454849 : True := trivial
theorem PySem.W.Fast.tw4289936066248691614 : True := trivial
theorem PySem.W.Fast.tw355164413281474341 : True := trivial
theorem PySem.W.Fast.tw4744321785464238017 : True := trivial
theorem PySem.W.Fast.tw11314317050251300112 : True := trivial
theorem PySem.W.Fast.tw15174935224835847770 : True := trivial
theorem PySem.W.Fast.tw2715327802400546781 : True := trivial
theorem PySem.W.Fast.tw17386650897754588646 : True := trivial
theorem PySem.W.Fast.tw4658495946899812837 : True := trivial
theorem PySem.W.Fast.tw6704231335822874927 : True := trivial
theorem PySem.W.Fast.tw10483115873478099344 : True := trivial
theorem PySem.W.Fast.tw1881340103197434512 : True := trivial
theorem PySem.W.Fast.tw2169962318014501069 : True := trivial
theorem PySem.W.Fast.tw7057818879183641308 : True := trivial
theorem PySem.W.Fast.tw10651507179386884403 : True := trivial
theorem PySem.W.Fast.tw16206508582140887874 : True := trivial
theorem PySem.W.Fast.tw6842964625519634563 : True := trivial
theorem PySem.W.Fast.tw10320683957382464393 : True := trivial
theorem PySem.W.Fast.tw7872125761709621316 : True := trivial
theorem PySem.W.Fast.tw5406858556999288506 : True := trivial
theorem PySem.W.Fast.tw14575093532951181288 : True := trivial
theorem PySem.W.Fast.tw7398079866261176396 : True := trivial
theorem PySem.W.Fast.tw15520617833729374903 : True := trivial
theorem PySem.W.Fast.tw5733583410867480191 : True := trivial
theorem PySem.W.Fast.tw12475708803462692708 : True := trivial
theorem PySem.W.Fast.tw15299554717812912866 : True := trivial
theorem PySem.W.Fast.tw4322976426173954825 : True := trivial
theorem PySem.W.Fast.tw18272778280039501517 : True := trivial
theorem PySem.W.Fast.tw7643121912459896460 : True := trivial
theorem PySem.W.Fast.tw18059340677645829274 : True := trivial
theorem PySem.W.Fast.tw9594099777714102006 : True := trivial
theorem PySem.W.Fast.tw13238903057788156889 : True := trivial
theorem PySem.W.Fast.tw9129537953252134170 : True := trivial
theorem PySem.W.Fast.tw14621385627828808471 : True := trivial
theorem PySem.W.Fast.tw4730547332953467221 : True := trivial
theorem PySem.W.Fast.tw359340919577623908 : True := trivial
theorem PySem.W.Fast.tw7730968309727379513 : True := trivial
theorem PySem.W.Fast.tw2033978743212002616 : True := trivial
theorem PySem.W.Fast.tw14165707771149827039 : True := trivial
theorem PySem.W.Fast.tw3335975114936055562 : True := trivial
theorem PySem.W.Fast.tw6219946300922586202 : True := trivial
theorem PySem.W.Fast.tw12782266490229272899 : True := trivial
theorem PySem.W.Fast.tw1615870377245558019 : True := trivial
theorem PySem.W.Fast.tw9266981566296968863 : True := trivial
theorem PySem.W.Fast.tw15257508768272958883 : True := trivial
theorem PySem.W.Fast.tw3320296696873067537 : True := trivial
theorem PySem.W.Fast.tw14667050630599571953 : True := trivial
theorem PySem.W.Fast.tw10842741211518373586 : True := trivial
theorem PySem.W.Fast.tw15942980934215994468 : True := trivial
theorem PySem.W.Fast.tw3300003493752932259 : True := trivial
theorem PySem.W.Fast.tw483733997751905723 : True := trivial
theorem PySem.W.Fast.tw10000289603847771291 : True := trivial
theorem PySem.W.Fast.tw6137482270080632463 : True := trivial
theorem PySem.W.Fast.tw11500526176157616435 : True := trivial
theorem PySem.W.Fast.tw5523061253941270620 : True := trivial
theorem PySem.W.Fast.tw7983987920802364884 : True := trivial
theorem PySem.W.Fast.tw11139826584142369730 : True := trivial
theorem PySem.W.Fast.tw6350508506290249543 : True := trivial
theorem PySem.W.Fast.tw4185124619663774302 : True := trivial
theorem PySem.W.Fast.tw6912714104259164374 : True := trivial
theorem PySem.W.Fast.tw18049567423256836325 : True := trivial
theorem PySem.W.Fast.tw3237148179640457008 : True := trivial
theorem PySem.W.Fast.tw17435959211388539349 : True := trivial
theorem PySem.W.Fast.tw8582815855199651050 : True := trivial
theorem PySem.W.Fast.tw5493748535685729108 : True := trivial
theorem PySem.W.Fast.tw17478719058207596529 : True := trivial
theorem PySem.W.Fast.tw14243119265902614104 : True := trivial
theorem PySem.W.Fast.tw12563719236139393703 : True := trivial
theorem PySem.W.Fast.tw16540856317820835072 : True := trivial
theorem PySem.W.Fast.tw70658902313410596 : True := trivial
theorem PySem.W.Fast.tw13222215949360710709 : True := trivial
theorem PySem.W.Fast.tw7959261163602605898 : True := trivial
theorem PySem.W.Fast.tw1066018643223111189 : True := trivial
theorem PySem.W.Fast.tw8451278761827010384 : True := trivial
theorem PySem.W.Fast.tw7231499913967976177 : True := trivial
theorem PySem.W.Fast.tw10793345980322951243 : True := trivial
theorem PySem.W.Fast.tw8383096971659877905 : True := trivial
theorem PySem.W.Fast.tw3217575912892302790 : True := trivial
theorem PySem.W.Fast.tw6316602080792361394 : True := trivial
theorem PySem.W.Fast.tw826866783176385558 : True := trivial
theorem PySem.W.Fast.tw13119322738023183925 : True := trivial
theorem PySem.W.Fast.tw17478075180131583974 : True := trivial
theorem PySem.W.Fast.tw4670557474188723545 : True := trivial
theorem PySem.W.Fast.tw18250686055350368029 : True := trivial
theorem PySem.W.Fast.tw11854388672229906226 : True := trivial
theorem PySem.W.Fast.tw16066640000592486461 : True := trivial
theorem PySem.W.Fast.tw4711162601468202731 : True := trivial
theorem PySem.W.Fast.tw6580957887542919345 : True := trivial
theorem PySem.W.Fast.tw3693190045905615808 : True := trivial
theorem PySem.W.Fast.tw494581562038837044 : True := trivial
theorem PySem.W.Fast.tw7912280123500332995 : True := trivial
theorem PySem.W.Fast.tw12708969176958643780 : True := trivial
theorem PySem.W.Fast.tw16592696127395420978 : True := trivial
theorem PySem.W.Fast.tw10622208726300518596 : True := trivial
theorem PySem.W.Fast.tw8117886661500072156 : True := trivial
theorem PySem.W.Fast.tw11071581914743710413 : True := trivial
theorem PySem.W.Fast.tw10048445527822116434 : True := trivial
theorem PySem.W.Fast.tw6053869152800378590 : True := trivial
theorem PySem.W.Fast.tw5895773718407690385 : True := trivial
theorem PySem.W.Fast.tw5131289153437968018 : True := trivial
theorem PySem.W.Fast.tw10819839338323221791 : True := trivial
theorem PySem.W.Fast.tw2462119071826843800 : True := trivial
theorem PySem.W.Fast.tw3641927108430133740 : True := trivial
theorem PySem.W.Fast.tw14098656869560939401 : True := trivial
theorem PySem.W.Fast.tw7340036288831620990 : True := trivial
theorem PySem.W.Fast.tw6736158392331417585 : True := trivial
theorem PySem.W.Fast.tw2335173048089108683 : True := trivial
theorem PySem.W.Fast.tw16224356868033496715 : True := trivial
theorem PySem.W.Fast.tw1053024999788784600 : True := trivial
theorem PySem.W.Fast.tw8840070970031421689 : True := trivial
theorem PySem.W.Fast.tw14512680242709419565 : True := trivial
theorem PySem.W.Fast.tw17784773562340637071 : True := trivial
theorem PySem.W.Fast.tw12959089687232292760 : True := trivial
theorem PySem.W.Fast.tw12370544328287977657 : True := trivial
theorem PySem.W.Fast.tw12962463798626435446 : True := trivial
theorem PySem.W.Fast.tw13168387669436652894 : True := trivial
theorem PySem.W.Fast.tw729828746640612232 : True := trivial
theorem PySem.W.Fast.tw8335262094187309567 : True := trivial
theorem PySem.W.Fast.tw15594342218536117766 : True := trivial
theorem PySem.W.Fast.tw218220475984946928 : True := trivial
theorem PySem.W.Fast.tw14633459464716649619 : True := trivial
theorem PySem.W.Fast.tw8995588591758772562 : True := trivial
theorem PySem.W.Fast.tw13379776170185540969 : True := trivial
theorem PySem.W.Fast.tw6036391272853907320 : True := trivial
theorem PySem.W.Fast.tw3220945678138440012 : True := trivial
theorem PySem.W.Fast.tw12909140543725949527 : True := trivial
theorem PySem.W.Fast.tw3686151745853943697 : True := trivial
theorem PySem.W.Fast.tw6515823922944661012 : True := trivial
theorem PySem.W.Fast.tw5492720541846553744 : True := trivial
theorem PySem.W.Fast.tw9363824451492787505 : True := trivial
theorem PySem.W.Fast.tw13881041238411930012 : True := trivial
theorem PySem.W.Fast.tw3265100665216671886 : True := trivial
theorem PySem.W.Fast.tw16370171635063399716 : True := trivial
theorem PySem.W.Fast.tw5482510724273999253 : True := trivial
theorem PySem.W.Fast.tw16872260651674812437 : True := trivial
theorem PySem.W.Fast.tw9254262774814326845 : True := trivial
theorem PySem.W.Fast.tw3556602113014138097 : True := trivial
theorem PySem.W.Fast.tw16783114736944973668 : True := trivial
theorem PySem.W.Fast.tw2445654236023523209 : True := trivial
theorem PySem.W.Fast.tw15577815174898126524 : True := trivial
theorem PySem.W.Fast.tw1942149988058031669 : True := trivial
theorem PySem.W.Fast.tw1571816564654209693 : True := trivial
theorem PySem.W.Fast.tw4319222797575068677 : True := trivial
theorem PySem.W.Fast.tw1842637334896168600 : True := trivial
theorem PySem.W.Fast.tw15967956435564508117 : True := trivial
theorem PySem.W.Fast.tw15935934784115266619 : True := trivial
theorem PySem.W.Fast.tw18346473412347165833 : True := trivial
theorem PySem.W.Fast.tw1391629739818851192 : True := trivial
theorem PySem.W.Fast.tw4912902535339340325 : True := trivial
theorem PySem.W.Fast.tw15172284597976526193 : True := trivial
theorem PySem.W.Fast.tw1577035444912766405 : True := trivial
theorem PySem.W.Fast.tw715393720862367255 : True := trivial
theorem PySem.W.Fast.tw17079253766591899316 : True := trivial
theorem PySem.W.Fast.tw15602428327070271789 : True := trivial
theorem PySem.W.Fast.tw12291657483260796991 : True := trivial
theorem PySem.W.Fast.tw1855035790952419165 : True := trivial
theorem PySem.W.Fast.tw10243146278090723115 : True := trivial
theorem PySem.W.Fast.tw12875326741988404595 : True := trivial
theorem PySem.W.Fast.tw13180506952984721034 : True := trivial
theorem PySem.W.Fast.tw3852878051200961303 : True := trivial
theorem PySem.W.Fast.tw5666152668443169848 : True := trivial
theorem PySem.W.Fast.tw13633707381688707737 : True := trivial
theorem PySem.W.Fast.tw13642058064208631979 : True := trivial
theorem PySem.W.Fast.tw11840404943077686872 : True := trivial
theorem PySem.W.Fast.tw1424116203201160621 : True := trivial
theorem PySem.W.Fast.tw1611613169764769290 : True := trivial
theorem PySem.W.Fast.tw10796652719855189647 : True := trivial
theorem PySem.W.Fast.tw8434133510794212052 : True := trivial
theorem PySem.W.Fast.tw1526453211659841062 : True := trivial
theorem PySem.W.Fast.tw5169207701880378111 : True := trivial
theorem PySem.W.Fast.tw6761282249442722002 : True := trivial
theorem PySem.W.Fast.tw3119453005523116639 : True := trivial
theorem PySem.W.Fast.tw16664145666429244201 : True := trivial
theorem PySem.W.Fast.tw14647391292148408866 : True := trivial
theorem PySem.W.Fast.tw3714100376004359624 : True := trivial
theorem PySem.W.Fast.tw3175013622906461249 : True := trivial
theorem PySem.W.Fast.tw13861898608803093132 : True := trivial
theorem PySem.W.Fast.tw2006199760882321632 : True := trivial
theorem PySem.W.Fast.tw12066781461663357740 : True := trivial
theorem PySem.W.Fast.tw6562171446827369897 : True := trivial
theorem PySem.W.Fast.tw9070103509208511969 : True := trivial
theorem PySem.W.Fast.tw16453111180120661970 : True := trivial
theorem PySem.W.Fast.tw18167624140344238525 : True := trivial
theorem PySem.W.Fast.tw4587970346364306015 : True := trivial
theorem PySem.W.Fast.tw1278040876976842381 : True := trivial
theorem PySem.W.Fast.tw10414116581132414806 : True := trivial
theorem PySem.W.Fast.tw3767047282456102825 : True := trivial
theorem PySem.W.Fast.tw14361700353789040290 : True := trivial
theorem PySem.W.Fast.tw12976477527630692674 : True := trivial
theorem PySem.W.Fast.tw18167625229505915375 : True := trivial
theorem PySem.W.Fast.tw2303524163255618801 : True := trivial
theorem PySem.W.Fast.tw11642661537113015312 : True := trivial
theorem PySem.W.Fast.tw3192008769869975150 : True := trivial
theorem PySem.W.Fast.tw8599874403712590621 : True := trivial
theorem PySem.W.Fast.tw11207199155395313803 : True := trivial
theorem PySem.W.Fast.tw11404764936849741035 : True := trivial
theorem PySem.W.Fast.tw11251533251261502408 : True := trivial
theorem PySem.W.Fast.tw15389062085715228007 : True := trivial
theorem PySem.W.Fast.tw13978529128974859027 : True := trivial
theorem PySem.W.Fast.tw18280588679416096244 : True := trivial
theorem PySem.W.Fast.tw17620503889390489663 : True := trivial
theorem PySem.W.Fast.tw16405112461572360616 : True := trivial
theorem PySem.W.Fast.tw8514990680083700464 : True := trivial
theorem PySem.W.Fast.tw11383488626528895381 : True := trivial
theorem PySem.W.Fast.tw53251073994184357 : True := trivial
theorem PySem.W.Fast.tw2873938374884676454 : True := trivial
theorem PySem.W.Fast.tw5750371676249549684 : True := trivial
theorem PySem.W.Fast.tw1278543258649286172 : True := trivial
theorem PySem.W.Fast.tw16817004334326556361 : True := trivial
theorem PySem.W.Fast.tw555914177083262076 : True := trivial
theorem PySem.W.Fast.tw13090263633199924708 : True := trivial
theorem PySem.W.Fast.tw6932117308951390614 : True := trivial
theorem PySem.W.Fast.tw6278955029627098354 : True := trivial
theorem PySem.W.Fast.tw15545919694880661655 : True := trivial
theorem PySem.W.Fast.tw585897472503562931 : True := trivial
theorem PySem.W.Fast.tw5132667677451481020 : True := trivial
theorem PySem.W.Fast.tw10128237169827212430 : True := trivial
theorem PySem.W.Fast.tw1188341491666498967 : True := trivial
theorem PySem.W.Fast.tw4339673981969821432 : True := trivial
theorem PySem.W.Fast.tw12071984215177850026 : True := trivial
theorem PySem.W.Fast.tw11191451383803429668 : True := trivial
theorem PySem.W.Fast.tw18067311270551699622 : True := trivial
theorem PySem.W.Fast.tw6357928487045508715 : True := trivial
theorem PySem.W.Fast.tw3360476986314608268 : True := trivial
theorem PySem.W.Fast.tw552807993514235191 : True := trivial
theorem PySem.W.Fast.tw17925685653903955391 : True := trivial
theorem PySem.W.Fast.tw14082582006359275014 : True := trivial
theorem PySem.W.Fast.tw15773045003217835776 : True := trivial
theorem PySem.W.Fast.tw12869877353150618104 : True := trivial
theorem PySem.W.Fast.tw17082065500110994190 : True := trivial
theorem PySem.W.Fast.tw1804979732671817866 : True := trivial
theorem PySem.W.Fast.tw11739826946898982637 : True := trivial
theorem PySem.W.Fast.tw5845234335498705219 : True := trivial
theorem PySem.W.Fast.tw121926315576320705 : True := trivial
theorem PySem.W.Fast.tw14305757742486366787 : True := trivial
theorem PySem.W.Fast.tw3539386567994515950 : True := trivial
theorem PySem.W.Fast.tw2012846868686669602 : True := trivial
theorem PySem.W.Fast.tw4270686228678059491 : True := trivial
theorem PySem.W.Fast.tw7599955836013506998 : True := trivial
theorem PySem.W.Fast.tw18428380504664624599 : True := trivial
theorem PySem.W.Fast.tw4400237281580820525 : True := trivial
theorem PySem.W.Fast.tw5821763410953961087 : True := trivial
theorem PySem.W.Fast.tw16987881708025221525 : True := trivial
theorem PySem.W.Fast.tw10994124413737089708 : True := trivial
theorem PySem.W.Fast.tw7325252598206941304 : True := trivial
theorem PySem.W.Fast.tw15337216168240218115 : True := trivial
theorem PySem.W.Fast.tw8368753879165401728 : True := trivial
theorem PySem.W.Fast.tw15151379358301820916 : True := trivial
theorem PySem.W.Fast.tw6508783897738733727 : True := trivial
theorem PySem.W.Fast.tw5662923807798125866 : True := trivial
theorem PySem.W.Fast.tw11388541853376561778 : True := trivial
theorem PySem.W.Fast.tw15005746013167867358 : True := trivial
theorem PySem.W.Fast.tw7652662527472043442 : True := trivial
theorem PySem.W.Fast.tw14008823454052161990 : True := trivial
theorem PySem.W.Fast.tw4579115580733187847 : True := trivial
theorem PySem.W.Fast.tw6081419372593946599 : True := trivial
theorem PySem.W.Fast.tw5781485653590460541 : True := trivial
theorem PySem.W.Fast.tw8554240170456477529 : True := trivial
theorem PySem.W.Fast.tw16881303933629498914 : True := trivial
theorem PySem.W.Fast.tw10724306670773273447 : True := trivial
theorem PySem.W.Fast.tw8461527665834961220 : True := trivial
theorem PySem.W.Fast.tw4148906426350887379 : True := trivial
theorem PySem.W.Fast.tw16017213059175800504 : True := trivial
theorem PySem.W.Fast.tw2020604968281025765 : True := trivial
theorem PySem.W.Fast.tw5864571647125015993 : True := trivial
theorem PySem.W.Fast.tw2923643107482069723 : True := trivial
theorem PySem.W.Fast.tw17004971326290597241 : True := trivial
theorem PySem.W.Fast.tw12877927026183180330 : True := trivial
theorem PySem.W.Fast.tw17061628977833770590 : True := trivial
theorem PySem.W.Fast.tw11970678443145940294 : True := trivial
theorem PySem.W.Fast.tw4364066126181624714 : True := trivial
theorem PySem.W.Fast.tw15964116542142421497 : True := trivial
theorem PySem.W.Fast.tw7418828410212961832 : True := trivial
theorem PySem.W.Fast.tw1574248037025904240 : True := trivial
theorem PySem.W.Fast.tw5315730383247986317 : True := trivial
theorem PySem.W.Fast.tw18190206238612549531 : True := trivial
theorem PySem.W.Fast.tw11014314590524280008 : True := trivial
theorem PySem.W.Fast.tw13428889984735714448 : True := trivial
theorem PySem.W.Fast.tw1193487640970721435 : True := trivial
theorem PySem.W.Fast.tw6611592240778063851 : True := trivial
theorem PySem.W.Fast.tw5415538810262691877 : True := trivial
theorem PySem.W.Fast.tw18310281207676756117 : True := trivial
theorem PySem.W.Fast.tw611126011769912047 : True := trivial
theorem PySem.W.Fast.tw14123395413942191965 : True := trivial
theorem PySem.W.Fast.tw12706067527387651836 : True := trivial
theorem PySem.W.Fast.tw5553077509194290414 : True := trivial
theorem PySem.W.Fast.tw17759728447396832815 : True := trivial
theorem PySem.W.Fast.tw16408646789868834821 : True := trivial
theorem PySem.W.Fast.tw635241548466697886 : True := trivial
theorem PySem.W.Fast.tw15919681634841812614 : True := trivial
theorem PySem.W.Fast.tw13672918318244719641 : True := trivial
theorem PySem.W.Fast.tw462745201677828589 : True := trivial
theorem PySem.W.Fast.tw2536277916336619940 : True := trivial
theorem PySem.W.Fast.tw12183974029041278496 : True := trivial
theorem PySem.W.Fast.tw4048817993473872258 : True := trivial
theorem PySem.W.Fast.tw6861349326577559893 : True := trivial
theorem PySem.W.Fast.tw18248384842203815402 : True := trivial
theorem PySem.W.Fast.tw16804393901586409164 : True := trivial
theorem PySem.W.Fast.tw1660866735599480353 : True := trivial
theorem PySem.W.Fast.tw3883783377192128413 : True := trivial
theorem PySem.W.Fast.tw12080867364913031250 : True := trivial
theorem PySem.W.Fast.tw10103701817985068239 : True := trivial
theorem PySem.W.Fast.tw4360689502052288901 : True := trivial
theorem PySem.W.Fast.tw13833119121771030328 : True := trivial
theorem PySem.W.Fast.tw12312992673242195562 : True := trivial
theorem PySem.W.Fast.tw18098354419328631191 : True := trivial
theorem PySem.W.Fast.tw4231930189692094279 : True := trivial
theorem PySem.W.Fast.tw13690991010085405147 : True := trivial
theorem PySem.W.Fast.tw18210068007072155543 : True := trivial
theorem PySem.W.Fast.tw17687507037185494141 : True := trivial
theorem PySem.W.Fast.tw8830835870688768086 : True := trivial
theorem PySem.W.Fast.tw15085598875429033493 : True := trivial
theorem PySem.W.Fast.tw9495969418758782597 : True := trivial
theorem PySem.W.Fast.tw6234915210929956694 : True := trivial
theorem PySem.W.Fast.tw12458812018177743655 : True := trivial
theorem PySem.W.Fast.tw15473743016867240633 : True := trivial
theorem PySem.W.Fast.tw15380115661857268215 : True := trivial
theorem PySem.W.Fast.tw14997685117510419222 : True := trivial
theorem PySem.W.Fast.tw9929991697416777724 : True := trivial
theorem PySem.W.Fast.tw8887206310885496108 : True := trivial
theorem PySem.W.Fast.tw3454878718865704305 : True := trivial
theorem PySem.W.Fast.tw451024798135775545 : True := trivial
theorem PySem.W.Fast.tw15951077471303581120 : True := trivial
theorem PySem.W.Fast.tw1071907828391639666 : True := trivial
theorem PySem.W.Fast.tw6268534889299217938 : True := trivial
theorem PySem.W.Fast.tw14609047299646145292 : True := trivial
theorem PySem.W.Fast.tw9239411553751187150 : True := trivial
theorem PySem.W.Fast.tw14560550927633156700 : True := trivial
theorem PySem.W.Fast.tw3593548028731543488 : True := trivial
theorem PySem.W.Fast.tw15303550664676238930 : True := trivial
theorem PySem.W.Fast.tw10128512424072183994 : True := trivial
theorem PySem.W.Fast.tw3925681208183267284 : True := trivial
theorem PySem.W.Fast.tw2345713764099666785 : True := trivial
theorem PySem.W.Fast.tw15628226197322960529 : True := trivial
theorem PySem.W.Fast.tw10321412373520673908 : True := trivial
theorem PySem.W.Fast.tw13873230453045610622 : True := trivial
theorem PySem.W.Fast.tw12553789191244462915 : True := trivial
theorem PySem.W.Fast.tw15928252862232962457 : True := trivial
theorem PySem.W.Fast.tw10860352837912574845 : True := trivial
theorem PySem.W.Fast.tw3893704980230254852 : True := trivial
theorem PySem.W.Fast.tw4425656156862857889 : True := trivial
theorem PySem.W.Fast.tw1082511892449895974 : True := trivial
theorem PySem.W.Fast.tw1624613230029702027 : True := trivial
theorem PySem.W.Fast.tw341944207583870499 : True := trivial
theorem PySem.W.Fast.tw5392918932378524168 : True := trivial
theorem PySem.W.Fast.tw4921823810827798294 : True := trivial
theorem PySem.W.Fast.tw9419651496429092368 : True := trivial
theorem PySem.W.Fast.tw14349075383411264465 : True := trivial
theorem PySem.W.Fast.tw14494047865556158735 : True := trivial
theorem PySem.W.Fast.tw16019819483098347196 : True := trivial
theorem PySem.W.Fast.tw12214679415703846619 : True := trivial
theorem PySem.W.Fast.tw14401923252466733250 : True := trivial
theorem PySem.W.Fast.tw14044233011073614226 : True := trivial
theorem PySem.W.Fast.tw3858445396049210424 : True := trivial
theorem PySem.W.Fast.tw6548667817769498783 : True := trivial
theorem PySem.W.Fast.tw3892984296179168257 : True := trivial
theorem PySem.W.Fast.tw2875990712050325765 : True := trivial
theorem PySem.W.Fast.tw15462709863506143370 : True := trivial
theorem PySem.W.Fast.tw16621434638006236468 : True := trivial
theorem PySem.W.Fast.tw4047167076518154945 : True := trivial
theorem PySem.W.Fast.tw12499883971373084722 : True := trivial
theorem PySem.W.Fast.tw8062694435032431736 : True := trivial
theorem PySem.W.Fast.tw3815154961988576693 : True := trivial
theorem PySem.W.Fast.tw13391673036092187383 : True := trivial
theorem PySem.W.Fast.tw8058058949102487295 : True := trivial
theorem PySem.W.Fast.tw18123559423580458766 : True := trivial
theorem PySem.W.Fast.tw8960463801135092578 : True := trivial
theorem PySem.W.Fast.tw7414313241961551297 : True := trivial
theorem PySem.W.Fast.tw12624561589158943636 : True := trivial
theorem PySem.W.Fast.tw1864921804380723677 : True := trivial
theorem PySem.W.Fast.tw7372444290712805039 : True := trivial
theorem PySem.W.Fast.tw13753320220361861249 : True := trivial
theorem PySem.W.Fast.tw751438436528255127 : True := trivial
theorem PySem.W.Fast.tw4020469621636246458 : True := trivial
theorem PySem.W.Fast.tw9749037389864491920 : True := trivial
theorem PySem.W.Fast.tw5725204154302093219 : True := trivial
theorem PySem.W.Fast.tw13799713436097167351 : True := trivial
theorem PySem.W.Fast.tw4698452462960366426 : True := trivial
theorem PySem.W.Fast.tw2342758911448718023 : True := trivial
theorem PySem.W.Fast.tw10177488840827530167 : True := trivial
theorem PySem.W.Fast.tw14218051272496434508 : True := trivial
theorem PySem.W.Fast.tw10187883207141427624 : True := trivial
theorem PySem.W.Fast.tw2135678787459078575 : True := trivial
theorem PySem.W.Fast.tw16695179033628366069 : True := trivial
theorem PySem.W.Fast.tw4712671140229832516 : True := trivial
theorem PySem.W.Fast.tw4895817805689487805 : True := trivial
theorem PySem.W.Fast.tw1778224672365524653 : True := trivial
theorem PySem.W.Fast.tw7614683500752344141 : True := trivial
theorem PySem.W.Fast.tw1475098223174349592 : True := trivial
theorem PySem.W.Fast.tw4286373955564141763 : True := trivial
theorem PySem.W.Fast.tw8325846065887917212 : True := trivial
theorem PySem.W.Fast.tw213872776792874516 : True := trivial
theorem PySem.W.Fast.tw10083050763452692376 : True := trivial
theorem PySem.W.Fast.tw10468252783722480825 : True := trivial
theorem PySem.W.Fast.tw4790586240102985223 : True := trivial
theorem PySem.W.Fast.tw14380078172656074929 : True := trivial
theorem PySem.W.Fast.tw1131470895037134955 : True := trivial
theorem PySem.W.Fast.tw6678098817396886637 : True := trivial
theorem PySem.W.Fast.tw3413627330085057430 : True := trivial
theorem PySem.W.Fast.tw4463383757145777802 : True := trivial
theorem PySem.W.Fast.tw9882020211009996182 : True := trivial
theorem PySem.W.Fast.tw11786594410565087509 : True := trivial
theorem PySem.W.Fast.tw17014336946277358899 : True := trivial
theorem PySem.W.Fast.tw12751063551746471311 : True := trivial
theorem PySem.W.Fast.tw18379689230661284854 : True := trivial
theorem PySem.W.Fast.tw4136220301960452525 : True := trivial
theorem PySem.W.Fast.tw14846432820936108043 : True := trivial
theorem PySem.W.Fast.tw9608777010793419177 : True := trivial
theorem PySem.W.Fast.tw1113239807931017866 : True := trivial
theorem PySem.W.Fast.tw7714923880463026230 : True := trivial
theorem PySem.W.Fast.tw11071240890662667680 : True := trivial
theorem PySem.W.Fast.tw16851241987311748556 : True := trivial
theorem PySem.W.Fast.tw4784759716252646885 : True := trivial
theorem PySem.W.Fast.tw16849074466087251270 : True := trivial
theorem PySem.W.Fast.tw16051498092370125667 : True := trivial
theorem PySem.W.Fast.tw869061055373621422 : True := trivial
theorem PySem.W.Fast.tw61878477714765451 : True := trivial
theorem PySem.W.Fast.tw12581926758168407706 : True := trivial
theorem PySem.W.Fast.tw17184424734584111611 : True := trivial
theorem PySem.W.Fast.tw2094547687841751822 : True := trivial
theorem PySem.W.Fast.tw7550590604961545218 : True := trivial
theorem PySem.W.Fast.tw10974390977476311364 : True := trivial
theorem PySem.W.Fast.tw9663350231599482619 : True := trivial
theorem PySem.W.Fast.tw1013598385944165205 : True := trivial
theorem PySem.W.Fast.tw17797390413642198803 : True := trivial
theorem PySem.W.Fast.tw13436973277078029103 : True := trivial
theorem PySem.W.Fast.tw10538664653419416132 : True := trivial
theorem PySem.W.Fast.tw7454598235267555112 : True := trivial
theorem PySem.W.Fast.tw4798958759946711395 : True := trivial
theorem PySem.W.Fast.tw13893061866987611514 : True := trivial
theorem PySem.W.Fast.tw17094011258066123621 : True := trivial
theorem PySem.W.Fast.tw4404335998202764442 : True := trivial
theorem PySem.W.Fast.tw10537988204697171080 : True := trivial
theorem PySem.W.Fast.tw6174952062335594575 : True := trivial
theorem PySem.W.Fast.tw9590007632143731293 : True := trivial
theorem PySem.W.Fast.tw12799366657750677943 : True := trivial
theorem PySem.W.Fast.tw3120189953117861808 : True := trivial
theorem PySem.W.Fast.tw17775885023353416527 : True := trivial
theorem PySem.W.Fast.tw69900962117009163 : True := trivial
theorem PySem.W.Fast.tw7441552047471742799 : True := trivial
theorem PySem.W.Fast.tw16389753037021563942 : True := trivial
theorem PySem.W.Fast.tw3202846251742785516 : True := trivial
theorem PySem.W.Fast.tw6735087380225714687 : True := trivial
theorem PySem.W.Fast.tw2976967250920562259 : True := trivial
theorem PySem.W.Fast.tw15267810905130392110 : True := trivial
theorem PySem.W.Fast.tw9690965049813141195 : True := trivial
theorem PySem.W.Fast.tw14397179960036519853 : True := trivial
theorem PySem.W.Fast.tw6928887022644405755 : True := trivial
theorem PySem.W.Fast.tw7887036650050890122 : True := trivial
theorem PySem.W.Fast.tw6803419909751420214 : True := trivial
theorem PySem.W.Fast.tw11539880717181687197 : True := trivial
theorem PySem.W.Fast.tw16658049497395556054 : True := trivial
theorem PySem.W.Fast.tw4221957841224771804 : True := trivial
theorem PySem.W.Fast.tw14734457248006466816 : True := trivial
theorem PySem.W.Fast.tw1494457671347372034 : True := trivial
theorem PySem.W.Fast.tw5812775999770810715 : True := trivial
theorem PySem.W.Fast.tw3194542655678788065 : True := trivial
theorem PySem.W.Fast.tw5378760369572119704 : True := trivial
theorem PySem.W.Fast.tw9547060977519439102 : True := trivial
theorem PySem.W.Fast.tw5315691328047489699 : True := trivial
theorem PySem.W.Fast.tw6802896316758148722 : True := trivial
theorem PySem.W.Fast.tw16399616935180227040 : True := trivial
theorem PySem.W.Fast.tw6552428030116407283 : True := trivial
theorem PySem.W.Fast.tw16996135628026989547 : True := trivial
theorem PySem.W.Fast.tw9465262958059156265 : True := trivial
theorem PySem.W.Fast.tw3733177154608916797 : True := trivial
theorem PySem.W.Fast.tw8778402804559141994 : True := trivial
theorem PySem.W.Fast.tw18263885380584394557 : True := trivial
theorem PySem.W.Fast.tw15432574801129367963 : True := trivial
theorem PySem.W.Fast.tw10917504478384747249 : True := trivial
theorem PySem.W.Fast.tw17296667658277577796 : True := trivial
theorem PySem.W.Fast.tw11691126098739887179 : True := trivial
theorem PySem.W.Fast.tw15157807245487495374 : True := trivial
theorem PySem.W.Fast.tw18006190518235086349 : True := trivial
theorem PySem.W.Fast.tw11595535942948300787 : True := trivial
theorem PySem.W.Fast.tw8339931089505445636 : True := trivial
theorem PySem.W.Fast.tw9592975839070359311 : True := trivial
theorem PySem.W.Fast.tw8296527676326626395 : True := trivial
theorem PySem.W.Fast.tw10050368233057063620 : True := trivial
theorem PySem.W.Fast.tw16155761516954217378 : True := trivial
theorem PySem.W.Fast.tw17777553546637538015 : True := trivial
theorem PySem.W.Fast.tw645633391966281846 : True := trivial
theorem PySem.W.Fast.tw10990916522491813529 : True := trivial
theorem PySem.W.Fast.tw10456802668537848403 : True := trivial
theorem PySem.W.Fast.tw11694305867315684222 : True := trivial
theorem PySem.W.Fast.tw8130554200682159060 : True := trivial
theorem PySem.W.Fast.tw7154364080198869982 : True := trivial
theorem PySem.W.Fast.tw3915741862420374992 : True := trivial
theorem PySem.W.Fast.tw18237486388795523458 : True := trivial
theorem PySem.W.Fast.tw10494580447834736105 : True := trivial
theorem PySem.W.Fast.tw358206684291814180 : True := trivial
theorem PySem.W.Fast.tw4059258010726549593 : True := trivial
theorem PySem.W.Fast.tw17169565065530914660 : True := trivial
theorem PySem.W.Fast.tw13366192650777432585 : True := trivial
theorem PySem.W.Fast.tw7199967892167314035 : True := trivial
theorem PySem.W.Fast.tw4305633398835946085 : True := trivial
theorem PySem.W.Fast.tw6255848403493400626 : True := trivial
theorem PySem.W.Fast.tw11208143757855790243 : True := trivial
theorem PySem.W.Fast.tw10298030874785530314 : True := trivial
theorem PySem.W.Fast.tw3024207585747347427 : True := trivial
theorem PySem.W.Fast.tw18286444670885116453 : True := trivial
theorem PySem.W.Fast.tw14951201960816222912 : True := trivial
theorem PySem.W.Fast.tw5915756023866108067 : True := trivial
theorem PySem.W.Fast.tw5896882717331008438 : True := trivial
theorem PySem.W.Fast.tw16971377593875387277 : True := trivial
theorem PySem.W.Fast.tw7591113222821978890 : True := trivial
theorem PySem.W.Fast.tw15081745782709887002 : True := trivial
theorem PySem.W.Fast.tw2219665109776095033 : True := trivial
theorem PySem.W.Fast.tw13375216717672977149 : True := trivial
theorem PySem.W.Fast.tw13992215150572354103 : True := trivial
theorem PySem.W.Fast.tw5546647227452641048 : True := trivial
theorem PySem.W.Fast.tw9369270482465584026 : True := trivial
theorem PySem.W.Fast.tw9898046567686965446 : True := trivial
theorem PySem.W.Fast.tw10488827797245189670 : True := trivial
theorem PySem.W.Fast.tw225242915692653052 : True := trivial
theorem PySem.W.Fast.tw1624480437374921318 : True := trivial
theorem PySem.W.Fast.tw16988872112061314798 : True := trivial
theorem PySem.W.Fast.tw7009545078055955593 : True := trivial
theorem PySem.W.Fast.tw7928446925460091186 : True := trivial
theorem PySem.W.Fast.tw4837382638487959129 : True := trivial
theorem PySem.W.Fast.tw6127110753492988721 : True := trivial
theorem PySem.W.Fast.tw6257415096271682712 : True := trivial
theorem PySem.W.Fast.tw15073207832361234545 : True := trivial
theorem PySem.W.Fast.tw18037921062963287756 : True := trivial
theorem PySem.W.Fast.tw2635605526149434290 : True := trivial
theorem PySem.W.Fast.tw13592958820934738449 : True := trivial
theorem PySem.W.Fast.tw11738600076228547605 : True := trivial
theorem PySem.W.Fast.tw11704901398292790232 : True := trivial
theorem PySem.W.Fast.tw846730419884957261 : True := trivial
theorem PySem.W.Fast.tw17554420464338419985 : True := trivial
theorem PySem.W.Fast.tw12581325020903447490 : True := trivial
theorem PySem.W.Fast.tw17829170446535166525 : True := trivial
theorem PySem.W.Fast.tw5360117139984993240 : True := trivial
theorem PySem.W.Fast.tw13842513020103020327 : True := trivial
theorem PySem.W.Fast.tw5229676314146876906 : True := trivial
theorem PySem.W.Fast.tw17223615864864501947 : True := trivial
theorem PySem.W.Fast.tw18215802361498992418 : True := trivial
theorem PySem.W.Fast.tw10047612897070109521 : True := trivial
theorem PySem.W.Fast.tw14319435336958935019 : True := trivial
theorem PySem.W.Fast.tw4844733519692974225 : True := trivial
theorem PySem.W.Fast.tw4778743362567863971 : True := trivial
theorem PySem.W.Fast.tw2898617778214845947 : True := trivial
theorem PySem.W.Fast.tw7758316135509933898 : True := trivial
theorem PySem.W.Fast.tw6080301560546213055 : True := trivial
theorem PySem.W.Fast.tw1381683127114979892 : True := trivial
theorem PySem.W.Fast.tw8634564045798433251 : True := trivial
theorem PySem.W.Fast.tw12456844383105269927 : True := trivial
theorem PySem.W.Fast.tw1692211592650894215 : True := trivial
theorem PySem.W.Fast.tw8755654290047197636 : True := trivial
theorem PySem.W.Fast.tw5834534055834411503 : True := trivial
theorem PySem.W.Fast.tw3277914628617646814 : True := trivial
theorem PySem.W.Fast.tw9938369319013896477 : True := trivial
theorem PySem.W.Fast.tw4012907216171640993 : True := trivial
theorem PySem.W.Fast.tw16225354833127886370 : True := trivial
theorem PySem.W.Fast.tw5697496304163964810 : True := trivial
theorem PySem.W.Fast.tw4239029408300742256 : True := trivial
theorem PySem.W.Fast.tw2244120131483932089 : True := trivial
theorem PySem.W.Fast.tw15597250050043669954 : True := trivial
theorem PySem.W.Fast.tw5285052673293404031 : True := trivial
theorem PySem.W.Fast.tw9031390149335283331 : True := trivial
theorem PySem.W.Fast.tw13184587816350643535 : True := trivial
theorem PySem.W.Fast.tw4651627049820286368 : True := trivial
theorem PySem.W.Fast.tw5376220954394753873 : True := trivial
theorem PySem.W.Fast.tw704747688299282492 : True := trivial
theorem PySem.W.Fast.tw219834727531734465 : True := trivial
theorem PySem.W.Fast.tw16970809747259846440 : True := trivial
theorem PySem.W.Fast.tw7775995091559354613 : True := trivial
theorem PySem.W.Fast.tw886272077796349787 : True := trivial
theorem PySem.W.Fast.tw6735585651118248042 : True := trivial
theorem PySem.W.Fast.tw2922856323588690573 : True := trivial
theorem PySem.W.Fast.tw8134205328681364952 : True := trivial
theorem PySem.W.Fast.tw13789552605021077748 : True := trivial
theorem PySem.W.Fast.tw4451528139483587986 : True := trivial
theorem PySem.W.Fast.tw9192396947288986475 : True := trivial
theorem PySem.W.Fast.tw15608387979265464751 : True := trivial
theorem PySem.W.Fast.tw3734943085615995227 : True := trivial
theorem PySem.W.Fast.tw12966219103429244394 : True := trivial
theorem PySem.W.Fast.tw15482457284826485361 : True := trivial
theorem PySem.W.Fast.tw6153388270653138557 : True := trivial
theorem PySem.W.Fast.tw3607725283496749584 : True := trivial
theorem PySem.W.Fast.tw2749077799126070742 : True := trivial
theorem PySem.W.Fast.tw8858374754795513044 : True := trivial
theorem PySem.W.Fast.tw11976185655462098348 : True := trivial
theorem PySem.W.Fast.tw16778812754582013051 : True := trivial
theorem PySem.W.Fast.tw15957184185039762966 : True := trivial
theorem PySem.W.Fast.tw11087820689735864872 : True := trivial
theorem PySem.W.Fast.tw7049355824185551737 : True := trivial
theorem PySem.W.Fast.tw12595211700039150498 : True := trivial
theorem PySem.W.Fast.tw9879718285632613199 : True := trivial
theorem PySem.W.Fast.tw3771452750250308779 : True := trivial
theorem PySem.W.Fast.tw9508151734262014728 : True := trivial
theorem PySem.W.Fast.tw1539117467313146158 : True := trivial
theorem PySem.W.Fast.tw7340574105328479593 : True := trivial
theorem PySem.W.Fast.tw1519110877397068667 : True := trivial
theorem PySem.W.Fast.tw2171130121225170491 : True := trivial
theorem PySem.W.Fast.tw10701920744085585932 : True := trivial
theorem PySem.W.Fast.tw3071503586551646732 : True := trivial
theorem PySem.W.Fast.tw12728691630074845769 : True := trivial
theorem PySem.W.Fast.tw7545609638866418182 : True := trivial
theorem PySem.W.Fast.tw10954811982131130230 : True := trivial
theorem PySem.W.Fast.tw2426236787130666610 : True := trivial
theorem PySem.W.Fast.tw3058351215999325052 : True := trivial
theorem PySem.W.Fast.tw7935351599009170137 : True := trivial
theorem PySem.W.Fast.tw9847317135623945254 : True := trivial
theorem PySem.W.Fast.tw12181562547059817169 : True := trivial
theorem PySem.W.Fast.tw4208484563440176420 : True := trivial
theorem PySem.W.Fast.tw4394752894886468548 : True := trivial
theorem PySem.W.Fast.tw7799109104225408753 : True := trivial
theorem PySem.W.Fast.tw6212008597529567750 : True := trivial
theorem PySem.W.Fast.tw9493326230394561600 : True := trivial
theorem PySem.W.Fast.tw3335848616243809905 : True := trivial
theorem PySem.W.Fast.tw1988965108665895603 : True := trivial
theorem PySem.W.Fast.tw16783022903621915728 : True := trivial
theorem PySem.W.Fast.tw1297602731922005092 : True := trivial
theorem PySem.W.Fast.tw3274475577196933789 : True := trivial
theorem PySem.W.Fast.tw11603553744876380864 : True := trivial
theorem PySem.W.Fast.tw17492839112686786835 : True := trivial
theorem PySem.W.Fast.tw2031469606684018603 : True := trivial
theorem PySem.W.Fast.tw12543149321279138537 : True := trivial
theorem PySem.W.Fast.tw4868133408549128184 : True := trivial
theorem PySem.W.Fast.tw6325917251163446454 : True := trivial
theorem PySem.W.Fast.tw17247689074421724518 : True := trivial
theorem PySem.W.Fast.tw11454269595189970544 : True := trivial
theorem PySem.W.Fast.tw6385054856361115909 : True := trivial
theorem PySem.W.Fast.tw1045131256403950009 : True := trivial
theorem PySem.W.Fast.tw16711368778197123602 : True := trivial
theorem PySem.W.Fast.tw1556366568669779953 : True := trivial
theorem PySem.W.Fast.tw12903053441643888051 : True := trivial
theorem PySem.W.Fast.tw12278431341758601992 : True := trivial
theorem PySem.W.Fast.tw13372800714187316409 : True := trivial
theorem PySem.W.Fast.tw15029177447273856820 : True := trivial
theorem PySem.W.Fast.tw16989012206584094806 : True := trivial
theorem PySem.W.Fast.tw7295091929052540197 : True := trivial
theorem PySem.W.Fast.tw1518776794936882503 : True := trivial
theorem PySem.W.Fast.tw9183621565156777837 : True := trivial
theorem PySem.W.Fast.tw16286183133935977688 : True := trivial
theorem PySem.W.Fast.tw1619241297751615144 : True := trivial
theorem PySem.W.Fast.tw10242962666737792337 : True := trivial
theorem PySem.W.Fast.tw18171469997053423644 : True := trivial
theorem PySem.W.Fast.tw11655807421469441464 : True := trivial
theorem PySem.W.Fast.tw1202197727737963749 : True := trivial
theorem PySem.W.Fast.tw2427654114023157192 : True := trivial
theorem PySem.W.Fast.tw16210296768263282279 : True := trivial
theorem PySem.W.Fast.tw17016367169727887648 : True := trivial
theorem PySem.W.Fast.tw3522814341099616488 : True := trivial
theorem PySem.W.Fast.tw6717806407506233622 : True := trivial
theorem PySem.W.Fast.tw681002302285080147 : True := trivial
theorem PySem.W.Fast.tw12483468962520300503 : True := trivial
theorem PySem.W.Fast.tw9732792359857954642 : True := trivial
theorem PySem.W.Fast.tw14510626835794145085 : True := trivial
theorem PySem.W.Fast.tw994336697841967622 : True := trivial
theorem PySem.W.Fast.tw14427400268220309155 : True := trivial
theorem PySem.W.Fast.tw6351246820147590436 : True := trivial
theorem PySem.W.Fast.tw6505844998927521 : True := trivial
theorem PySem.W.Fast.tw15454257775038846853 : True := trivial
theorem PySem.W.Fast.tw7112726773404907101 : True := trivial
theorem PySem.W.Fast.tw4447923688205641613 : True := trivial
theorem PySem.W.Fast.tw9081631841125829164 : True := trivial
theorem PySem.W.Fast.tw14189371262425366482 : True := trivial
theorem PySem.W.Fast.tw5666236830962967521 : True := trivial
theorem PySem.W.Fast.tw10235361722620631343 : True := trivial
theorem PySem.W.Fast.tw5989965731220175084 : True := trivial
theorem PySem.W.Fast.tw3812747181063865755 : True := trivial
theorem PySem.W.Fast.tw15428174479325368281 : True := trivial
theorem PySem.W.Fast.tw11292064282730710857 : True := trivial
theorem PySem.W.Fast.tw3661100878207981897 : True := trivial
theorem PySem.W.Fast.tw15003338163814207039 : True := trivial
theorem PySem.W.Fast.tw10515262676777793474 : True := trivial
theorem PySem.W.Fast.tw12976931478999856680 : True := trivial
theorem PySem.W.Fast.tw4583466416886423498 : True := trivial
theorem PySem.W.Fast.tw7244216554997403834 : True := trivial
theorem PySem.W.Fast.tw14566328938753072224 : True := trivial
theorem PySem.W.Fast.tw9383755660943386197 : True := trivial
theorem PySem.W.Fast.tw1339159323574048048 : True := trivial
theorem PySem.W.Fast.tw11205405463099627479 : True := trivial
theorem PySem.W.Fast.tw8661590120386951202 : True := trivial
theorem PySem.W.Fast.tw16057480750783974549 : True := trivial
theorem PySem.W.Fast.tw13237432763870865554 : True := trivial
theorem PySem.W.Fast.tw255548065766571339 : True := trivial
theorem PySem.W.Fast.tw8623992695707620185 : True := trivial
theorem PySem.W.Fast.tw17188394361367478596 : True := trivial
theorem PySem.W.Fast.tw11651695571617194151 : True := trivial
theorem PySem.W.Fast.tw17262294727326202709 : True := trivial
theorem PySem.W.Fast.tw7699911826882084689 : True := trivial
theorem PySem.W.Fast.tw9335025594803435856 : True := trivial
theorem PySem.W.Fast.tw9116273331174242341 : True := trivial
theorem PySem.W.Fast.tw13857438219114363368 : True := trivial
theorem PySem.W.Fast.tw15237188487691519239 : True := trivial
theorem PySem.W.Fast.tw237952854954441232 : True := trivial
theorem PySem.W.Fast.tw4667036594765025775 : True := trivial
theorem PySem.W.Fast.tw17442586032327396382 : True := trivial
theorem PySem.W.Fast.tw5271775409127862523 : True := trivial
theorem PySem.W.Fast.tw549505222155880178 : True := trivial
theorem PySem.W.Fast.tw1131344727019029417 : True := trivial
theorem PySem.W.Fast.tw5785022182628354649 : True := trivial
theorem PySem.W.Fast.tw8732717126027472142 : True := trivial
theorem PySem.W.Fast.tw6608905202671132919 : True := trivial
theorem PySem.W.Fast.tw15818722818728344877 : True := trivial
theorem PySem.W.Fast.tw14337924857967216316 : True := trivial
theorem PySem.W.Fast.tw14400301049573331865 : True := trivial
theorem PySem.W.Fast.tw9158508643885418970 : True := trivial
theorem PySem.W.Fast.tw828529005825596916 : True := trivial
theorem PySem.W.Fast.tw8707859057528334374 : True := trivial
theorem PySem.W.Fast.tw10214403110361811650 : True := trivial
theorem PySem.W.Fast.tw10981813099501384984 : True := trivial
theorem PySem.W.Fast.tw15183753283592150437 : True := trivial
theorem PySem.W.Fast.tw9758137884910329981 : True := trivial
theorem PySem.W.Fast.tw8161395901821153478 : True := trivial
theorem PySem.W.Fast.tw4728694999819662421 : True := trivial
theorem PySem.W.Fast.tw4530800311294429679 : True := trivial
theorem PySem.W.Fast.tw7521488257249954586 : True := trivial
theorem PySem.W.Fast.tw8553691429294034079 : True := trivial
theorem PySem.W.Fast.tw18283364107065325722 : True := trivial
theorem PySem.W.Fast.tw9877281666635166072 : True := trivial
theorem PySem.W.Fast.tw10869848210277307190 : True := trivial
theorem PySem.W.Fast.tw11917354383273993748 : True := trivial
theorem PySem.W.Fast.tw10238137433929440211 : True := trivial
theorem PySem.W.Fast.tw2196291682321607642 : True := trivial
theorem PySem.W.Fast.tw14506829867730893255 : True := trivial
theorem PySem.W.Fast.tw2016475218835531267 : True := trivial
theorem PySem.W.Fast.tw11245288674872573647 : True := trivial
theorem PySem.W.Fast.tw223763452419457894 : True := trivial
theorem PySem.W.Fast.tw16938664577012937113 : True := trivial
theorem PySem.W.Fast.tw15180828445877813632 : True := trivial
theorem PySem.W.Fast.tw6780300887169516046 : True := trivial
theorem PySem.W.Fast.tw18387827729480502295 : True := trivial
theorem PySem.W.Fast.tw2376568622690169147 : True := trivial
theorem PySem.W.Fast.tw155923249036692875 : True := trivial
theorem PySem.W.Fast.tw13407637705656737758 : True := trivial
theorem PySem.W.Fast.tw12887248357079530412 : True := trivial
theorem PySem.W.Fast.tw7717034618517431974 : True := trivial
theorem PySem.W.Fast.tw877117720480011621 : True := trivial
theorem PySem.W.Fast.tw9268537098759811344 : True := trivial
theorem PySem.W.Fast.tw8109176459848912405 : True := trivial
theorem PySem.W.Fast.tw13349636823407768260 : True := trivial
theorem PySem.W.Fast.tw17015970441310315425 : True := trivial
theorem PySem.W.Fast.tw2671770387785453396 : True := trivial
theorem PySem.W.Fast.tw10959838480491458593 : True := trivial
theorem PySem.W.Fast.tw10473944714103806717 : True := trivial
theorem PySem.W.Fast.tw1054552046764481616 : True := trivial
theorem PySem.W.Fast.tw2765343248730060070 : True := trivial
theorem PySem.W.Fast.tw485618868783258665 : True := trivial
theorem PySem.W.Fast.tw2385094668730897599 : True := trivial
theorem PySem.W.Fast.tw6428779859695731622 : True := trivial
theorem PySem.W.Fast.tw3552046569288537840 : True := trivial
theorem PySem.W.Fast.tw3073079295704304553 : True := trivial
theorem PySem.W.Fast.tw14464649335428423194 : True := trivial
theorem PySem.W.Fast.tw10226398214364693491 : True := trivial
theorem PySem.W.Fast.tw15774239702878850847 : True := trivial
theorem PySem.W.Fast.tw1306118985915008635 : True := trivial
theorem PySem.W.Fast.tw12389855299031825385 : True := trivial
theorem PySem.W.Fast.tw16735327487709985901 : True := trivial
theorem PySem.W.Fast.tw16545406124081451722 : True := trivial
theorem PySem.W.Fast.tw16712104880488717436 : True := trivial
theorem PySem.W.Fast.tw1857981096545466828 : True := trivial
theorem PySem.W.Fast.tw12081996145120067233 : True := trivial
theorem PySem.W.Fast.tw13839219661788992548 : True := trivial
theorem PySem.W.Fast.tw18149632144397149295 : True := trivial
theorem PySem.W.Fast.tw18116455072803579909 : True := trivial
theorem PySem.W.Fast.tw11474835209298973131 : True := trivial
theorem PySem.W.Fast.tw18410811471089400268 : True := trivial
theorem PySem.W.Fast.tw17356115085195809879 : True := trivial
theorem PySem.W.Fast.tw7571796808177898189 : True := trivial
theorem PySem.W.Fast.tw13682474417034118779 : True := trivial
theorem PySem.W.Fast.tw3289688342864621870 : True := trivial
theorem PySem.W.Fast.tw2317987434337947305 : True := trivial
theorem PySem.W.Fast.tw4027026041249091749 : True := trivial
theorem PySem.W.Fast.tw18371063660274196846 : True := trivial
theorem PySem.W.Fast.tw15277672794814408324 : True := trivial
theorem PySem.W.Fast.tw16745848359166013848 : True := trivial
theorem PySem.W.Fast.tw8104010600430026052 : True := trivial
theorem PySem.W.Fast.tw4871977528500254410 : True := trivial
theorem PySem.W.Fast.tw1701723579270986369 : True := trivial
theorem PySem.W.Fast.tw10979415246509503159 : True := trivial
theorem PySem.W.Fast.tw7103514714412592250 : True := trivial
theorem PySem.W.Fast.tw11471938723194766306 : True := trivial
theorem PySem.W.Fast.tw5961587051108498173 : True := trivial
theorem PySem.W.Fast.tw12627100522391847500 : True := trivial
theorem PySem.W.Fast.tw18422587350253280767 : True := trivial
theorem PySem.W.Fast.tw18299752267011204433 : True := trivial
theorem PySem.W.Fast.tw11571726001719590493 : True := trivial
theorem PySem.W.Fast.tw8690849219929772345 : True := trivial
theorem PySem.W.Fast.tw17664623580024282579 : True := trivial
theorem PySem.W.Fast.tw9335654503967420989 : True := trivial
theorem PySem.W.Fast.tw10862770329431437100 : True := trivial
theorem PySem.W.Fast.tw8909993528060845182 : True := trivial
theorem PySem.W.Fast.tw11933935015654821494 : True := trivial
theorem PySem.W.Fast.tw2649073999705033706 : True := trivial
theorem PySem.W.Fast.tw11186804887875413790 : True := trivial
theorem PySem.W.Fast.tw15337489517832464048 : True := trivial
theorem PySem.W.Fast.tw12502108531043251905 : True := trivial
theorem PySem.W.Fast.tw10016838833793168164 : True := trivial
theorem PySem.W.Fast.tw7778722212309425225 : True := trivial
theorem PySem.W.Fast.tw7445000398662054267 : True := trivial
theorem PySem.W.Fast.tw881355954234249151 : True := trivial
theorem PySem.W.Fast.tw4330936659086740697 : True := trivial
theorem PySem.W.Fast.tw8903841972515021606 : True := trivial
theorem PySem.W.Fast.tw15628149720487414718 : True := trivial
theorem PySem.W.Fast.tw5674843173448947539 : True := trivial
theorem PySem.W.Fast.tw7446640369699544125 : True := trivial
theorem PySem.W.Fast.tw3958002953018604056 : True := trivial
theorem PySem.W.Fast.tw9182158265329512211 : True := trivial
theorem PySem.W.Fast.tw17992047897982291632 : True := trivial
theorem PySem.W.Fast.tw12917078396553755146 : True := trivial
theorem PySem.W.Fast.tw12381666745059864314 : True := trivial
theorem PySem.W.Fast.tw2948326208118710689 : True := trivial
theorem PySem.W.Fast.tw17196865953777200259 : True := trivial
theorem PySem.W.Fast.tw5380574891589328619 : True := trivial
theorem PySem.W.Fast.tw12150314628875979165 : True := trivial
theorem PySem.W.Fast.tw9357259755770004844 : True := trivial
theorem PySem.W.Fast.tw9703685022202205930 : True := trivial
theorem PySem.W.Fast.tw10384958883603657157 : True := trivial
theorem PySem.W.Fast.tw6282731378880148354 : True := trivial
theorem PySem.W.Fast.tw8348475996904138727 : True := trivial
theorem PySem.W.Fast.tw18132027634612547604 : True := trivial
theorem PySem.W.Fast.tw14895192831462572356 : True := trivial
theorem PySem.W.Fast.tw1022443001766863206 : True := trivial
theorem PySem.W.Fast.tw13946390111467952100 : True := trivial
theorem PySem.W.Fast.tw6420940472240885914 : True := trivial
theorem PySem.W.Fast.tw3969736076718377103 : True := trivial
theorem PySem.W.Fast.tw8200660929934728921 : True := trivial
theorem PySem.W.Fast.tw14984609646471923821 : True := trivial
theorem PySem.W.Fast.tw16286093088411009169 : True := trivial
theorem PySem.W.Fast.tw11438489836765969 : True := trivial
theorem PySem.W.Fast.tw10920985657645128031 : True := trivial
theorem PySem.W.Fast.tw12770460497689022982 : True := trivial
theorem PySem.W.Fast.tw13419717803389844143 : True := trivial
theorem PySem.W.Fast.tw17627834491492271277 : True := trivial
theorem PySem.W.Fast.tw15905434613861620879 : True := trivial
theorem PySem.W.Fast.tw16637757371840911249 : True := trivial
theorem PySem.W.Fast.tw14984212504657929950 : True := trivial
theorem PySem.W.Fast.tw8973866720044503191 : True := trivial
theorem PySem.W.Fast.tw4151478906357874782 : True := trivial
theorem PySem.W.Fast.tw13934625552291080384 : True := trivial
theorem PySem.W.Fast.tw10293421969603623896 : True := trivial
theorem PySem.W.Fast.tw628161236495775819 : True := trivial
theorem PySem.W.Fast.tw14627579800017837309 : True := trivial
theorem PySem.W.Fast.tw13088019108664249676 : True := trivial
theorem PySem.W.Fast.tw1369349466398306865 : True := trivial
theorem PySem.W.Fast.tw15422759866298356191 : True := trivial
theorem PySem.W.Fast.tw906264243270161084 : True := trivial
theorem PySem.W.Fast.tw1675640386652094783 : True := trivial
theorem PySem.W.Fast.tw8645400068515730058 : True := trivial
theorem PySem.W.Fast.tw130845261092683780 : True := trivial
theorem PySem.W.Fast.tw9274505035486356196 : True := trivial
theorem PySem.W.Fast.tw462091494040751794 : True := trivial
theorem PySem.W.Fast.tw9187390909554485977 : True := trivial
theorem PySem.W.Fast.tw13907345296667306651 : True := trivial
theorem PySem.W.Fast.tw2045352345181683083 : True := trivial
theorem PySem.W.Fast.tw15436311344182405602 : True := trivial
theorem PySem.W.Fast.tw6520798702534043254 : True := trivial
theorem PySem.W.Fast.tw9654773268112871357 : True := trivial
theorem PySem.W.Fast.tw413576878900308860 : True := trivial
theorem PySem.W.Fast.tw8046752599116664279 : True := trivial
theorem PySem.W.Fast.tw17316299643168227258 : True := trivial
theorem PySem.W.Fast.tw17267133579374258872 : True := trivial
theorem PySem.W.Fast.tw7799144840671051146 : True := trivial
theorem PySem.W.Fast.tw6212078208547478282 : True := trivial
theorem PySem.W.Fast.tw18111148575587149968 : True := trivial
theorem PySem.W.Fast.tw15025112851954660955 : True := trivial
theorem PySem.W.Fast.tw954549351897703509 : True := trivial
theorem PySem.W.Fast.tw2923874001734534545 : True := trivial
theorem PySem.W.Fast.tw8940309435957547349 : True := trivial
theorem PySem.W.Fast.tw314148719446201655 : True := trivial
theorem PySem.W.Fast.tw3502732369022623394 : True := trivial
theorem PySem.W.Fast.tw14815237118053716853 : True := trivial
theorem PySem.W.Fast.tw12684110746951502213 : True := trivial
theorem PySem.W.Fast.tw2125633914635089971 : True := trivial
theorem PySem.W.Fast.tw7220265630823029323 : True := trivial
theorem PySem.W.Fast.tw3923266870437157021 : True := trivial
theorem PySem.W.Fast.tw5831761181860927494 : True := trivial
theorem PySem.W.Fast.tw16651741170597505640 : True := trivial
theorem PySem.W.Fast.tw6344565646127835199 : True := trivial
theorem PySem.W.Fast.tw12146220862797128825 : True := trivial
theorem PySem.W.Fast.tw6788576183938580039 : True := trivial
theorem PySem.W.Fast.tw10676629002844024182 : True := trivial
theorem PySem.W.Fast.tw10328508369126126565 : True := trivial
theorem PySem.W.Fast.tw637823337298774705 : True := trivial
theorem PySem.W.Fast.tw13309226506755240890 : True := trivial
theorem PySem.W.Fast.tw12791257974364092070 : True := trivial
theorem PySem.W.Fast.tw3214851989097200245 : True := trivial
theorem PySem.W.Fast.tw17362869739104682173 : True := trivial
theorem PySem.W.Fast.tw3748259209851301396 : True := trivial
theorem PySem.W.Fast.tw8069201354551747087 : True := trivial
theorem PySem.W.Fast.tw2278433621594430022 : True := trivial
theorem PySem.W.Fast.tw17304738820305966601 : True := trivial
theorem PySem.W.Fast.tw10236723345371981751 : True := trivial
theorem PySem.W.Fast.tw1478007521728376286 : True := trivial
theorem PySem.W.Fast.tw5251771470100367807 : True := trivial
theorem PySem.W.Fast.tw13687874237429759712 : True := trivial
theorem PySem.W.Fast.tw6713770469865446313 : True := trivial
theorem PySem.W.Fast.tw3617339465997630338 : True := trivial
theorem PySem.W.Fast.tw16556553014672027884 : True := trivial
theorem PySem.W.Fast.tw13017925900708328935 : True := trivial
theorem PySem.W.Fast.tw1486733505014754122 : True := trivial
theorem PySem.W.Fast.tw12085923590550673414 : True := trivial
theorem PySem.W.Fast.tw1266139870024833847 : True := trivial
theorem PySem.W.Fast.tw8738166585032228196 : True := trivial
theorem PySem.W.Fast.tw17283620639159757798 : True := trivial
theorem PySem.W.Fast.tw14544090915474870567 : True := trivial
theorem PySem.W.Fast.tw3399541009453646414 : True := trivial
theorem PySem.W.Fast.tw1306100590209176582 : True := trivial
theorem PySem.W.Fast.tw3126631604713829317 : True := trivial
theorem PySem.W.Fast.tw8748165917667292931 : True := trivial
theorem PySem.W.Fast.tw793942655975103717 : True := trivial
theorem PySem.W.Fast.tw15567712377667178418 : True := trivial
theorem PySem.W.Fast.tw12674326545751357196 : True := trivial
theorem PySem.W.Fast.tw1074240296377993124 : True := trivial
theorem PySem.W.Fast.tw4197080501613496327 : True := trivial
theorem PySem.W.Fast.tw14668328721812141376 : True := trivial
theorem PySem.W.Fast.tw608476029191585437 : True := trivial
theorem PySem.W.Fast.tw12631377038678110233 : True := trivial
theorem PySem.W.Fast.tw8046148981882374647 : True := trivial
theorem PySem.W.Fast.tw7853844998966518616 : True := trivial
theorem PySem.W.Fast.tw1677597053384567653 : True := trivial
theorem PySem.W.Fast.tw913363397979287437 : True := trivial
theorem PySem.W.Fast.tw15701944813532772477 : True := trivial
theorem PySem.W.Fast.tw4744030064487888958 : True := trivial
theorem PySem.W.Fast.tw17186316318311655992 : True := trivial
theorem PySem.W.Fast.tw5886515135648444629 : True := trivial
theorem PySem.W.Fast.tw15335479125444758455 : True := trivial
theorem PySem.W.Fast.tw7409815227707454921 : True := trivial
theorem PySem.W.Fast.tw17610077487625810139 : True := trivial
theorem PySem.W.Fast.tw13238122203356722337 : True := trivial
theorem PySem.W.Fast.tw4901174461670767738 : True := trivial
theorem PySem.W.Fast.tw8928053930156212197 : True := trivial
theorem PySem.W.Fast.tw11681168925055130428 : True := trivial
theorem PySem.W.Fast.tw13918703191304890916 : True := trivial
theorem PySem.W.Fast.tw3573196988124880615 : True := trivial
theorem PySem.W.Fast.tw11719498019530503262 : True := trivial
theorem PySem.W.Fast.tw5841246673723752937 : True := trivial
theorem PySem.W.Fast.tw3216352892549409378 : True := trivial
theorem PySem.W.Fast.tw15589542801231097727 : True := trivial
theorem PySem.W.Fast.tw13787397783699058597 : True := trivial
theorem PySem.W.Fast.tw11787352171786701091 : True := trivial
theorem PySem.W.Fast.tw8296539517285680550 : True := trivial
theorem PySem.W.Fast.tw14378640305385147949 : True := trivial
theorem PySem.W.Fast.tw18173738190874392211 : True := trivial
theorem PySem.W.Fast.tw12117578616738282613 : True := trivial
theorem PySem.W.Fast.tw17979453283332189511 : True := trivial
theorem PySem.W.Fast.tw3350542837911899017 : True := trivial
theorem PySem.W.Fast.tw9905747825114382454 : True := trivial
theorem PySem.W.Fast.tw1882863529939907652 : True := trivial
theorem PySem.W.Fast.tw2723417668483521042 : True := trivial
theorem PySem.W.Fast.tw7024952408562469029 : True := trivial
theorem PySem.W.Fast.tw1947598346946301091 : True := trivial
theorem PySem.W.Fast.tw13291529779446473309 : True := trivial
theorem PySem.W.Fast.tw9801773634123248386 : True := trivial
theorem PySem.W.Fast.tw9529446913370345058 : True := trivial
theorem PySem.W.Fast.tw7993742429697105243 : True := trivial
theorem PySem.W.Fast.tw1065974024191025183 : True := trivial
theorem PySem.W.Fast.tw1612423483602008337 : True := trivial
theorem PySem.W.Fast.tw13717232360155883966 : True := trivial
theorem PySem.W.Fast.tw1415844761480052060 : True := trivial
theorem PySem.W.Fast.tw16826871417742970862 : True := trivial
theorem PySem.W.Fast.tw14718399809655266716 : True := trivial
theorem PySem.W.Fast.tw13944020745909642318 : True := trivial
theorem PySem.W.Fast.tw1676785845658903562 : True := trivial
theorem PySem.W.Fast.tw8113476047141827945 : True := trivial
theorem PySem.W.Fast.tw9698490267674315142 : True := trivial
theorem PySem.W.Fast.tw6904919916295326641 : True := trivial
theorem PySem.W.Fast.tw11547741807774473807 : True := trivial
theorem PySem.W.Fast.tw6467197381401296059 : True := trivial
theorem PySem.W.Fast.tw16835126134197604872 : True := trivial
theorem PySem.W.Fast.tw5581424172946590178 : True := trivial
theorem PySem.W.Fast.tw7455499666381479639 : True := trivial
theorem PySem.W.Fast.tw9557470866681275653 : True := trivial
theorem PySem.W.Fast.tw4476316900284536658 : True := trivial
theorem PySem.W.Fast.tw12529769810166593689 : True := trivial
theorem PySem.W.Fast.tw4258417961920698696 : True := trivial
theorem PySem.W.Fast.tw13040606982141190785 : True := trivial
theorem PySem.W.Fast.tw12130823087942656029 : True := trivial
theorem PySem.W.Fast.tw6472856190762028205 : True := trivial
theorem PySem.W.Fast.tw17817969472677301943 : True := trivial
theorem PySem.W.Fast.tw6059794362568330381 : True := trivial
theorem PySem.W.Fast.tw12797084857086928845 : True := trivial
theorem PySem.W.Fast.tw3886318955850973627 : True := trivial
theorem PySem.W.Fast.tw11356359274276585676 : True := trivial
theorem PySem.W.Fast.tw783695036536428177 : True := trivial
theorem PySem.W.Fast.tw5041254442907620038 : True := trivial
theorem PySem.W.Fast.tw2128644490265918546 : True := trivial
theorem PySem.W.Fast.tw326086721705222766 : True := trivial
theorem PySem.W.Fast.tw3159106836564432045 : True := trivial
theorem PySem.W.Fast.tw214207191274208959 : True := trivial
theorem PySem.W.Fast.tw16224126623744618115 : True := trivial
theorem PySem.W.Fast.tw5206304221937648084 : True := trivial
theorem PySem.W.Fast.tw5708461004650153989 : True := trivial
theorem PySem.W.Fast.tw9935206049655648944 : True := trivial
theorem PySem.W.Fast.tw16224587640621198683 : True := trivial
theorem PySem.W.Fast.tw15762449054148129909 : True := trivial
theorem PySem.W.Fast.tw15163796670548884268 : True := trivial
theorem PySem.W.Fast.tw16766570683960765120 : True := trivial
theorem PySem.W.Fast.tw5442565233607725306 : True := trivial
theorem PySem.W.Fast.tw1805920463681797920 : True := trivial
theorem PySem.W.Fast.tw13298199079157730053 : True := trivial
theorem PySem.W.Fast.tw1713663263914957831 : True := trivial
theorem PySem.W.Fast.tw8866375077097389008 : True := trivial
theorem PySem.W.Fast.tw3567451240533164551 : True := trivial
theorem PySem.W.Fast.tw15553685225099824093 : True := trivial
theorem PySem.W.Fast.tw2433018375110128005 : True := trivial
theorem PySem.W.Fast.tw12214152474530775875 : True := trivial
theorem PySem.W.Fast.tw5854746309966533609 : True := trivial
theorem PySem.W.Fast.tw14245320007391248491 : True := trivial
theorem PySem.W.Fast.tw10123769024932986482 : True := trivial
theorem PySem.W.Fast.tw12322975032618938653 : True := trivial
theorem PySem.W.Fast.tw7869376512329307555 : True := trivial
theorem PySem.W.Fast.tw16321078524111468888 : True := trivial
theorem PySem.W.Fast.tw2465361751190683891 : True := trivial
theorem PySem.W.Fast.tw16706083188369667084 : True := trivial
theorem PySem.W.Fast.tw3804387624714610958 : True := trivial
theorem PySem.W.Fast.tw16355905156170234372 : True := trivial
theorem PySem.W.Fast.tw14054488706905085931 : True := trivial
theorem PySem.W.Fast.tw4777046945727826923 : True := trivial
theorem PySem.W.Fast.tw15353664405702735851 : True := trivial
theorem PySem.W.Fast.tw7551414232633281959 : True := trivial
theorem PySem.W.Fast.tw15316300660358455102 : True := trivial
theorem PySem.W.Fast.tw8657952921694457569 : True := trivial
theorem PySem.W.Fast.tw1458332977179300969 : True := trivial
theorem PySem.W.Fast.tw12100124416588866296 : True := trivial
theorem PySem.W.Fast.tw4541594217142085832 : True := trivial
theorem PySem.W.Fast.tw9000919944630193449 : True := trivial
theorem PySem.W.Fast.tw3409812336037344612 : True := trivial
theorem PySem.W.Fast.tw7883850432774585539 : True := trivial
theorem PySem.W.Fast.tw7837016961919366249 : True := trivial
theorem PySem.W.Fast.tw6799646219119645878 : True := trivial
theorem PySem.W.Fast.tw16899858894362887557 : True := trivial
theorem PySem.W.Fast.tw1204771482533407122 : True := trivial
theorem PySem.W.Fast.tw1036691169352317916 : True := trivial
theorem PySem.W.Fast.tw7257443378252227599 : True := trivial
theorem PySem.W.Fast.tw2516962531559405309 : True := trivial
theorem PySem.W.Fast.tw9983998002891995308 : True := trivial
theorem PySem.W.Fast.tw4353401737818017557 : True := trivial
theorem PySem.W.Fast.tw315739027656991927 : True := trivial
theorem PySem.W.Fast.tw9875948118728267982 : True := trivial
theorem PySem.W.Fast.tw18272878436981730739 : True := trivial
theorem PySem.W.Fast.tw1196234519130957656 : True := trivial
theorem PySem.W.Fast.tw13861966775498466937 : True := trivial
theorem PySem.W.Fast.tw17072375056860811740 : True := trivial
theorem PySem.W.Fast.tw12014296380521633201 : True := trivial
theorem PySem.W.Fast.tw5372150240214898555 : True := trivial
theorem PySem.W.Fast.tw15775540251119308755 : True := trivial
theorem PySem.W.Fast.tw7880765259646015431 : True := trivial
theorem PySem.W.Fast.tw11619134517851129104 : True := trivial
theorem PySem.W.Fast.tw17343616294596094588 : True := trivial
theorem PySem.W.Fast.tw2064299317477548154 : True := trivial
theorem PySem.W.Fast.tw6371836477916290261 : True := trivial
theorem PySem.W.Fast.tw201156100254010769 : True := trivial
theorem PySem.W.Fast.tw4036574347497112471 : True := trivial
theorem PySem.W.Fast.tw4030034764229378292 : True := trivial
theorem PySem.W.Fast.tw10353981316102369388 : True := trivial
theorem PySem.W.Fast.tw10935789043946523023 : True := trivial
theorem PySem.W.Fast.tw15207259586794963576 : True := trivial
theorem PySem.W.Fast.tw13868892135830877635 : True := trivial
theorem PySem.W.Fast.tw15007514724858612595 : True := trivial
theorem PySem.W.Fast.tw3475404082444247468 : True := trivial
theorem PySem.W.Fast.tw9730926452583181528 : True := trivial
theorem PySem.W.Fast.tw4389730866771593100 : True := trivial
theorem PySem.W.Fast.tw5908444920033206265 : True := trivial
theorem PySem.W.Fast.tw5246678663296401810 : True := trivial
theorem PySem.W.Fast.tw6392032415212313679 : True := trivial
theorem PySem.W.Fast.tw7179481336682531405 : True := trivial
theorem PySem.W.Fast.tw5316632487397071708 : True := trivial
theorem PySem.W.Fast.tw18190480186114524113 : True := trivial
theorem PySem.W.Fast.tw15203302866213308265 : True := trivial
theorem PySem.W.Fast.tw6085455131159731812 : True := trivial
theorem PySem.W.Fast.tw12756158525939697847 : True := trivial
theorem PySem.W.Fast.tw1764506342267796011 : True := trivial
theorem PySem.W.Fast.tw17936617628773287900 : True := trivial
theorem PySem.W.Fast.tw4036853632860249299 : True := trivial
theorem PySem.W.Fast.tw8059710154979417585 : True := trivial
theorem PySem.W.Fast.tw18292610140158784647 : True := trivial
theorem PySem.W.Fast.tw14484039978678372748 : True := trivial
theorem PySem.W.Fast.tw18440137908420351674 : True := trivial
theorem PySem.W.Fast.tw17794734765350922709 : True := trivial
theorem PySem.W.Fast.tw7852278084275311836 : True := trivial
theorem PySem.W.Fast.tw17057193359656723859 : True := trivial
theorem PySem.W.Fast.tw11675110203892570111 : True := trivial
theorem PySem.W.Fast.tw11823816909873345273 : True := trivial
theorem PySem.W.Fast.tw14506811875454561212 : True := trivial
theorem PySem.W.Fast.tw2170506921573417222 : True := trivial
theorem PySem.W.Fast.tw16550812984289859501 : True := trivial
theorem PySem.W.Fast.tw5086974578728505270 : True := trivial
theorem PySem.W.Fast.tw17036848512954525853 : True := trivial
theorem PySem.W.Fast.tw15958598489041275406 : True := trivial
theorem PySem.W.Fast.tw17757107516937152005 : True := trivial
theorem PySem.W.Fast.tw12623276318143995368 : True := trivial
theorem PySem.W.Fast.tw3476654654837632435 : True := trivial
theorem PySem.W.Fast.tw11828303723308610825 : True := trivial
theorem PySem.W.Fast.tw14540803116245140864 : True := trivial
theorem PySem.W.Fast.tw10952366039241961159 : True := trivial
theorem PySem.W.Fast.tw11875302971556060721 : True := trivial
theorem PySem.W.Fast.tw2103052144242309318 : True := trivial
theorem PySem.W.Fast.tw13586523978553141755 : True := trivial
theorem PySem.W.Fast.tw11508604889586432017 : True := trivial
theorem PySem.W.Fast.tw13925934671776048633 : True := trivial
theorem PySem.W.Fast.tw982109785670449612 : True := trivial
theorem PySem.W.Fast.tw5333813979683669209 : True := trivial
theorem PySem.W.Fast.tw13519195275149182938 : True := trivial
theorem PySem.W.Fast.tw17651937329466471918 : True := trivial
theorem PySem.W.Fast.tw269534544451111707 : True := trivial
theorem PySem.W.Fast.tw17153202365801254545 : True := trivial
theorem PySem.W.Fast.tw8295282053628579052 : True := trivial
theorem PySem.W.Fast.tw15505597527810945894 : True := trivial
theorem PySem.W.Fast.tw4110578413094848722 : True := trivial
theorem PySem.W.Fast.tw6504587221025149108 : True := trivial
theorem PySem.W.Fast.tw3609823359210220260 : True := trivial
theorem PySem.W.Fast.tw7035073741837087008 : True := trivial
theorem PySem.W.Fast.tw14274991649095176859 : True := trivial
theorem PySem.W.Fast.tw2005027387989066293 : True := trivial
theorem PySem.W.Fast.tw17615743262596980213 : True := trivial
theorem PySem.W.Fast.tw11997194280383017188 : True := trivial
theorem PySem.W.Fast.tw5517071069699498978 : True := trivial
theorem PySem.W.Fast.tw9043768001220536005 : True := trivial
theorem PySem.W.Fast.tw9216077970618467379 : True := trivial
theorem PySem.W.Fast.tw2626899553245840443 : True := trivial
theorem PySem.W.Fast.tw2814931652610071918 : True := trivial
theorem PySem.W.Fast.tw14914496192847591456 : True := trivial
theorem PySem.W.Fast.tw7245092300413506788 : True := trivial
theorem PySem.W.Fast.tw9413084905566430395 : True := trivial
theorem PySem.W.Fast.tw11351857756623094162 : True := trivial
theorem PySem.W.Fast.tw11737002424192373064 : True := trivial
theorem PySem.W.Fast.tw12303616011811893709 : True := trivial
theorem PySem.W.Fast.tw4812398477221219056 : True := trivial
theorem PySem.W.Fast.tw11960793849734460605 : True := trivial
theorem PySem.W.Fast.tw4211679602463766905 : True := trivial
theorem PySem.W.Fast.tw2829457544435159281 : True := trivial
theorem PySem.W.Fast.tw1169731211110961658 : True := trivial
theorem PySem.W.Fast.tw4587395762169859018 : True := trivial
theorem PySem.W.Fast.tw5697995862009264310 : True := trivial
theorem PySem.W.Fast.tw17235538697676881116 : True := trivial
theorem PySem.W.Fast.tw2156054112726846657 : True := trivial
theorem PySem.W.Fast.tw3386970462101560503 : True := trivial
theorem PySem.W.Fast.tw519241075227401863 : True := trivial
theorem PySem.W.Fast.tw3771454604029486136 : True := trivial
theorem PySem.W.Fast.tw10905355016506504149 : True := trivial
theorem PySem.W.Fast.tw4519152720740678619 : True := trivial
theorem PySem.W.Fast.tw8681762829887223247 : True := trivial
theorem PySem.W.Fast.tw16996187909203141353 : True := trivial
theorem PySem.W.Fast.tw11008704780715631402 : True := trivial
theorem PySem.W.Fast.tw11110665266610080452 : True := trivial
theorem PySem.W.Fast.tw15678855306924454213 : True := trivial
theorem PySem.W.Fast.tw4656721943773779018 : True := trivial
theorem PySem.W.Fast.tw17445215338725745667 : True := trivial
theorem PySem.W.Fast.tw543561675595871447 : True := trivial
theorem PySem.W.Fast.tw13739881095881649190 : True := trivial
theorem PySem.W.Fast.tw2889445052332910692 : True := trivial
theorem PySem.W.Fast.tw12329027430166213217 : True := trivial
theorem PySem.W.Fast.tw4789421621012308674 : True := trivial
theorem PySem.W.Fast.tw113391544158014380 : True := trivial
theorem PySem.W.Fast.tw16531821274186353367 : True := trivial
theorem PySem.W.Fast.tw11870656562867827795 : True := trivial
theorem PySem.W.Fast.tw15783086082538977436 : True := trivial
theorem PySem.W.Fast.tw17033960511725491123 : True := trivial
theorem PySem.W.Fast.tw9071473310578540743 : True := trivial
theorem PySem.W.Fast.tw10267971339349437679 : True := trivial
theorem PySem.W.Fast.tw18400250330313417718 : True := trivial
theorem PySem.W.Fast.tw3531801606371358696 : True := trivial
theorem PySem.W.Fast.tw2100039192085714517 : True := trivial
theorem PySem.W.Fast.tw10420024010379853027 : True := trivial
theorem PySem.W.Fast.tw2698104704995969789 : True := trivial
theorem PySem.W.Fast.tw14086060696462137139 : True := trivial
theorem PySem.W.Fast.tw14150281251257915954 : True := trivial
theorem PySem.W.Fast.tw18114326711780673133 : True := trivial
theorem PySem.W.Fast.tw89873200735985184 : True := trivial
theorem PySem.W.Fast.tw37927182594426072 : True := trivial
theorem PySem.W.Fast.tw5069672375438068762 : True := trivial
theorem PySem.W.Fast.tw984341786999554790 : True := trivial
theorem PySem.W.Fast.tw11058979973046372145 : True := trivial
theorem PySem.W.Fast.tw4653622467640611484 : True := trivial
theorem PySem.W.Fast.tw6216161762081577187 : True := trivial
theorem PySem.W.Fast.tw12680849511263447563 : True := trivial
theorem PySem.W.Fast.tw16134082066971635352 : True := trivial
theorem PySem.W.Fast.tw923795824571903550 : True := trivial
theorem PySem.W.Fast.tw13231090105027586374 : True := trivial
theorem PySem.W.Fast.tw2792974121439724802 : True := trivial
theorem PySem.W.Fast.tw11595647351755497431 : True := trivial
theorem PySem.W.Fast.tw2393504077249031179 : True := trivial
theorem PySem.W.Fast.tw14025323468913215311 : True := trivial
theorem PySem.W.Fast.tw10005311200344196020 : True := trivial
theorem PySem.W.Fast.tw16378149167481839818 : True := trivial
theorem PySem.W.Fast.tw312400695477829028 : True := trivial
theorem PySem.W.Fast.tw9836072477424796664 : True := trivial
theorem PySem.W.Fast.tw16942909182135706366 : True := trivial
theorem PySem.W.Fast.tw4504246279980797054 : True := trivial
theorem PySem.W.Fast.tw5521927706732654165 : True := trivial
theorem PySem.W.Fast.tw15947393496243059108 : True := trivial
theorem PySem.W.Fast.tw17615222927843032916 : True := trivial
theorem PySem.W.Fast.tw5424696493592467057 : True := trivial
theorem PySem.W.Fast.tw2678494150441002518 : True := trivial
theorem PySem.W.Fast.tw11635902077495808854 : True := trivial
theorem PySem.W.Fast.tw4034142599192920846 : True := trivial
theorem PySem.W.Fast.tw4955009610675828841 : True := trivial
theorem PySem.W.Fast.tw10853022382116761122 : True := trivial
theorem PySem.W.Fast.tw10851981864052620539 : True := trivial
theorem PySem.W.Fast.tw10205857869201846691 : True := trivial
set_option maxRecDepth 100000 in
set_option maxHeartbeats 0 in
theorem PySem.Challenge.cw_asofhall_k11_amounts_between_moments_holds : PySem.Challenge.rw_asofhall_k11_amounts_between_moments.Holds := by
  w_on; o_law; k_head; (case hw => w_witness2)
  k_fill
  refine Ash.walk (l := PySem.Challenge.rw_asofhall_k11_amounts_between_moments) rfl rfl (fun w h Y => PySem.W.kIn_of Y) ?F
  case F =>
    intro w mg fa h KX G hmg
    refine' Ash.all_mk KX G hmg ?law0 ?law1 ?law2 ?law3
      { len := (PySem.W.mg_none_of KX G ?h_B_len), int := (PySem.W.mg_none_of KX G ?h_B_int), bool := (PySem.W.mg_none_of KX G ?h_B_bool), str := (PySem.W.mg_none_of KX G ?h_B_str), list := (PySem.W.mg_none_of KX G ?h_B_list), tuple := (PySem.W.mg_none_of KX G ?h_B_tuple), dict := (PySem.W.mg_none_of KX G ?h_B_dict), isinstance := (PySem.W.mg_none_of KX G ?h_B_isinstance), all := (PySem.W.mg_none_of KX G ?h_B_all), range := (PySem.W.mg_none_of KX G ?h_B_range), enumerate := (PySem.W.mg_none_of KX G ?h_B_enumerate), sorted := (PySem.W.mg_none_of KX G ?h_B_sorted), min := (PySem.W.mg_none_of KX G ?h_B_min), max := (PySem.W.mg_none_of KX G ?h_B_max), set := (PySem.W.mg_none_of KX G ?h_B_set), sum := (PySem.W.mg_none_of KX G ?h_B_sum), abs := (PySem.W.mg_none_of KX G ?h_B_abs) }
      ⟨(Ash.ex_str KX G ?h_Cs_0), (Ash.ex_int KX G ?h_Cs_1), (Ash.ex_int KX G ?h_Cs_2), (Ash.ex_int KX G ?h_Cs_3), (Ash.ex_int KX G ?h_Cs_4), (Ash.ex_int KX G ?h_Cs_5), (Ash.ex_int KX G ?h_Cs_6), (Ash.ex_int KX G ?h_Cs_7)⟩
      ⟨⟨?h_TW_0_0, ?h_TW_0_1, ?h_TW_0_2, ?h_TW_0_3⟩, ?h_TW_1, ?h_TW_2, (PySem.W.mg_of KX G ?h_TW_3)⟩
      ⟨?h_wi_0, ?h_wi_1, ?h_wi_2, ?h_wi_3⟩
      ?h_mkW
      ?h_kW
      (PySem.W.mg_of KX G ?h_nm0)
      ⟨?h_cl0_0, ?h_cl0_1, ?h_cl0_2, ?h_cl0_3⟩
      ⟨?h_b0_0, ?h_b0_1, ?h_b0_2, ?h_b0_3⟩
      ?h_ic0
      ?h_ti0
      ?h_sf0
      ?h_at0
      ?h_rt0
      ?h_si0
      ?h_or0
      ?h_ro0
      ?h_la0
      ?h_ea0
      ?h_n0_0
      ?h_n0_1
      ?h_n0_2
      ?h_n0_3
      ?h_n0_4
      ?h_n0_5
      ?h_n0_6
      ?h_n0_7
      ?h_n0_8
      ?h_n0_9
      ?h_s0_0
      ?h_s0_1
      ?h_s0_2
      ?h_s0_3
      ?h_s0_4
      ?h_s0_5
      ?h_s0_6
      (PySem.W.mg_of KX G ?h_nm1)
      ⟨?h_cl1_0, ?h_cl1_1, ?h_cl1_2, ?h_cl1_3⟩
      ⟨?h_b1_0, ?h_b1_1, ?h_b1_2, ?h_b1_3⟩
      ?h_ic1
      ?h_ti1
      ?h_sf1
      ?h_at1
      ?h_rt1
      ?h_si1
      ?h_or1
      ?h_ro1
      ?h_la1
      ?h_ea1
      ?h_n1_0
      ?h_n1_1
      ?h_n1_2
      ?h_n1_3
      ?h_n1_4
      ?h_n1_5
      ?h_n1_6
      ?h_n1_7
      ?h_n1_8
      ?h_n1_9
      ?h_s1_0
      ?h_s1_1
      ?h_s1_2
      ?h_s1_3
      ?h_s1_4
      ?h_s1_5
      ?h_s1_6
      (PySem.W.mg_of KX G ?h_nm2)
      ⟨?h_cl2_0, ?h_cl2_1, ?h_cl2_2, ?h_cl2_3⟩
      ⟨?h_b2_0, ?h_b2_1, ?h_b2_2, ?h_b2_3⟩
      ?h_ic2
      ?h_ti2
      ?h_sf2
      ?h_at2
      ?h_rt2
      ?h_si2
      ?h_or2
      ?h_ro2
      ?h_la2
      ?h_ea2
      ?h_n2_0
      ?h_n2_1
      ?h_n2_2
      ?h_n2_3
      ?h_n2_4
      ?h_n2_5
      ?h_n2_6
      ?h_n2_7
      ?h_n2_8
      ?h_n2_9
      ?h_s2_0
      ?h_s2_1
      ?h_s2_2
      ?h_s2_3
      ?h_s2_4
      ?h_s2_5
      ?h_s2_6
      (PySem.W.mg_of KX G ?h_nm3)
      ⟨?h_cl3_0, ?h_cl3_1, ?h_cl3_2, ?h_cl3_3⟩
      ⟨?h_b3_0, ?h_b3_1, ?h_b3_2, ?h_b3_3⟩
      ?h_ic3
      ?h_ti3
      ?h_sf3
      ?h_at3
      ?h_rt3
      ?h_si3
      ?h_or3
      ?h_ro3
      ?h_la3
      ?h_ea3
      ?h_n3_0
      ?h_n3_1
      ?h_n3_2
      ?h_n3_3
      ?h_n3_4
      ?h_n3_5
      ?h_n3_6
      ?h_n3_7
      ?h_n3_8
      ?h_n3_9
      ?h_s3_0
      ?h_s3_1
      ?h_s3_2
      ?h_s3_3
      ?h_s3_4
      ?h_s3_5
      ?h_s3_6
      (PySem.W.mg_of KX G ?h_nm4)
      ⟨?h_cl4_0, ?h_cl4_1, ?h_cl4_2, ?h_cl4_3⟩
      ⟨?h_b4_0, ?h_b4_1, ?h_b4_2, ?h_b4_3⟩
      ?h_ic4
      ?h_ti4
      ?h_sf4
      ?h_at4
      ?h_rt4
      ?h_si4
      ?h_or4
      ?h_ro4
      ?h_la4
      ?h_ea4
      ?h_n4_0
      ?h_n4_1
      ?h_n4_2
      ?h_n4_3
      ?h_n4_4
      ?h_n4_5
      ?h_n4_6
      ?h_n4_7
      ?h_n4_8
      ?h_n4_9
      ?h_s4_0
      ?h_s4_1
      ?h_s4_2
      ?h_s4_3
      ?h_s4_4
      ?h_s4_5
      ?h_s4_6
      (PySem.W.mg_of KX G ?h_nm5)
      ⟨?h_cl5_0, ?h_cl5_1, ?h_cl5_2, ?h_cl5_3⟩
      ⟨?h_b5_0, ?h_b5_1, ?h_b5_2, ?h_b5_3⟩
      ?h_ic5
      ?h_ti5
      ?h_sf5
      ?h_at5
      ?h_rt5
      ?h_si5
      ?h_or5
      ?h_ro5
      ?h_la5
      ?h_ea5
      ?h_n5_0
      ?h_n5_1
      ?h_n5_2
      ?h_n5_3
      ?h_n5_4
      ?h_n5_5
      ?h_n5_6
      ?h_n5_7
      ?h_n5_8
      ?h_n5_9
      ?h_s5_0
      ?h_s5_1
      ?h_s5_2
      ?h_s5_3
      ?h_s5_4
      ?h_s5_5
      ?h_s5_6
      (PySem.W.mg_of KX G ?h_nm6)
      ⟨?h_cl6_0, ?h_cl6_1, ?h_cl6_2, ?h_cl6_3⟩
      ⟨?h_b6_0, ?h_b6_1, ?h_b6_2, ?h_b6_3⟩
      ?h_ic6
      ?h_ti6
      ?h_sf6
      ?h_at6
      ?h_rt6
      ?h_si6
      ?h_or6
      ?h_ro6
      ?h_la6
      ?h_ea6
      ?h_n6_0
      ?h_n6_1
      ?h_n6_2
      ?h_n6_3
      ?h_n6_4
      ?h_n6_5
      ?h_n6_6
      ?h_n6_7
      ?h_n6_8
      ?h_n6_9
      ?h_s6_0
      ?h_s6_1
      ?h_s6_2
      ?h_s6_3
      ?h_s6_4
      ?h_s6_5
      ?h_s6_6
      ?h_mk0
      ?h_kp0
      ?h_mk1
      ?h_kp1
      ?h_mk2
      ?h_kp2
      ?h_mk3
      ?h_kp3
      ?h_mk4
      ?h_kp4
      ?h_mk5
      ?h_kp5
      ?h_mk6
      ?h_kp6
      ?h_i1
      ?h_i2
      (PySem.W.mg_of KX G ?h_anm0)
      ⟨?h_acl0_0, ?h_acl0_1, ?h_acl0_2, ?h_acl0_3⟩
      ⟨?h_ab0_0, ?h_ab0_1, ?h_ab0_2, ?h_ab0_3⟩
      ?h_aic0
      ?h_ati0
      ?h_an0_0
      ?h_an0_1
      ?h_an0_2
      ?h_an0_3
      ?h_an0_4
      ?h_as0_0
      ?h_as0_1
      ?h_as0_2
      ?h_as0_3
      ?h_at0_0
      ?h_at0_1
      ?h_at0_2
      ?h_at0_3
      ?h_at0_4
      ?h_at0_5
      ?h_at0_6
      ?h_amk0
      ?h_akp0
      (PySem.W.mg_of KX G ?h_anm1)
      ⟨?h_acl1_0, ?h_acl1_1, ?h_acl1_2, ?h_acl1_3⟩
      ⟨?h_ab1_0, ?h_ab1_1, ?h_ab1_2, ?h_ab1_3⟩
      ?h_aic1
      ?h_ati1
      ?h_an1_0
      ?h_an1_1
      ?h_an1_2
      ?h_an1_3
      ?h_an1_4
      ?h_as1_0
      ?h_as1_1
      ?h_as1_2
      ?h_as1_3
      ?h_at1_0
      ?h_at1_1
      ?h_at1_2
      ?h_at1_3
      ?h_at1_4
      ?h_at1_5
      ?h_at1_6
      ?h_amk1
      ?h_akp1
      (PySem.W.mg_of KX G ?h_anm2)
      ⟨?h_acl2_0, ?h_acl2_1, ?h_acl2_2, ?h_acl2_3⟩
      ⟨?h_ab2_0, ?h_ab2_1, ?h_ab2_2, ?h_ab2_3⟩
      ?h_aic2
      ?h_ati2
      ?h_an2_0
      ?h_an2_1
      ?h_an2_2
      ?h_an2_3
      ?h_an2_4
      ?h_as2_0
      ?h_as2_1
      ?h_as2_2
      ?h_as2_3
      ?h_at2_0
      ?h_at2_1
      ?h_at2_2
      ?h_at2_3
      ?h_at2_4
      ?h_at2_5
      ?h_at2_6
      ?h_amk2
      ?h_akp2
      (PySem.W.mg_of KX G ?h_anm3)
      ⟨?h_acl3_0, ?h_acl3_1, ?h_acl3_2, ?h_acl3_3⟩
      ⟨?h_ab3_0, ?h_ab3_1, ?h_ab3_2, ?h_ab3_3⟩
      ?h_aic3
      ?h_ati3
      ?h_an3_0
      ?h_an3_1
      ?h_an3_2
      ?h_an3_3
      ?h_an3_4
      ?h_as3_0
      ?h_as3_1
      ?h_as3_2
      ?h_as3_3
      ?h_at3_0
      ?h_at3_1
      ?h_at3_2
      ?h_at3_3
      ?h_at3_4
      ?h_at3_5
      ?h_at3_6
      ?h_amk3
      ?h_akp3
      (Ash.d1 KX G ?h_d_is_integer_0 ?h_d_is_integer_1 ?h_d_is_integer_2 ?h_d_is_integer_3)
      (Ash.d1 KX G ?h_d_is_natural_0 ?h_d_is_natural_1 ?h_d_is_natural_2 ?h_d_is_natural_3)
      (Ash.d1 KX G ?h_d_is_name_0 ?h_d_is_name_1 ?h_d_is_name_2 ?h_d_is_name_3)
      (Ash.d1 KX G ?h_d_are_integers_0 ?h_d_are_integers_1 ?h_d_are_integers_2 ?h_d_are_integers_3)
      (Ash.d1 KX G ?h_d_is_row_0 ?h_d_is_row_1 ?h_d_is_row_2 ?h_d_is_row_3)
      (Ash.d1 KX G ?h_d_are_rows_0 ?h_d_are_rows_1 ?h_d_are_rows_2 ?h_d_are_rows_3)
      (Ash.d1 KX G ?h_d_first_twice_0 ?h_d_first_twice_1 ?h_d_first_twice_2 ?h_d_first_twice_3)
      (Ash.d1 KX G ?h_d_is_rows_0 ?h_d_is_rows_1 ?h_d_is_rows_2 ?h_d_is_rows_3)
      (Ash.d1 KX G ?h_d_is_term_0 ?h_d_is_term_1 ?h_d_is_term_2 ?h_d_is_term_3)
      (Ash.d1 KX G ?h_d_is_look_0 ?h_d_is_look_1 ?h_d_is_look_2 ?h_d_is_look_3)
      (Ash.d1 KX G ?h_d_checked_stream_0 ?h_d_checked_stream_1 ?h_d_checked_stream_2 ?h_d_checked_stream_3)
      (Ash.d1 KX G ?h_d_checked_term_0 ?h_d_checked_term_1 ?h_d_checked_term_2 ?h_d_checked_term_3)
      (Ash.d1 KX G ?h_d_sizes_0 ?h_d_sizes_1 ?h_d_sizes_2 ?h_d_sizes_3)
      (Ash.d1 KX G ?h_d_shifted_0 ?h_d_shifted_1 ?h_d_shifted_2 ?h_d_shifted_3)
      (Ash.d1 KX G ?h_d_last_row_0 ?h_d_last_row_1 ?h_d_last_row_2 ?h_d_last_row_3)
      (Ash.d1 KX G ?h_d_next_row_0 ?h_d_next_row_1 ?h_d_next_row_2 ?h_d_next_row_3)
      (Ash.d1 KX G ?h_d_moved_0 ?h_d_moved_1 ?h_d_moved_2 ?h_d_moved_3)
      (Ash.d1 KX G ?h_d_looked_0 ?h_d_looked_1 ?h_d_looked_2 ?h_d_looked_3)
      (Ash.d1 KX G ?h_d_followed_either_0 ?h_d_followed_either_1 ?h_d_followed_either_2 ?h_d_followed_either_3)
      (Ash.d1 KX G ?h_d_followed_both_0 ?h_d_followed_both_1 ?h_d_followed_both_2 ?h_d_followed_both_3)
      (Ash.d1 KX G ?h_d_followed_0 ?h_d_followed_1 ?h_d_followed_2 ?h_d_followed_3)
      (Ash.d1 KX G ?h_d_is_amount_0 ?h_d_is_amount_1 ?h_d_is_amount_2 ?h_d_is_amount_3)
      (Ash.d1 KX G ?h_d_told_between_0 ?h_d_told_between_1 ?h_d_told_between_2 ?h_d_told_between_3)
      (Ash.d1 KX G ?h_d_is_question_0 ?h_d_is_question_1 ?h_d_is_question_2 ?h_d_is_question_3)
      (Ash.d1 KX G ?h_d_check_0 ?h_d_check_1 ?h_d_check_2 ?h_d_check_3)
      (Ash.d1 KX G ?h_d_answered_0 ?h_d_answered_1 ?h_d_answered_2 ?h_d_answered_3)
      (Ash.d1 KX G ?h_d_value_0 ?h_d_value_1 ?h_d_value_2 ?h_d_value_3)
      (Ash.d1 KX G ?h_d__law_pool_0 ?h_d__law_pool_1 ?h_d__law_pool_2 ?h_d__law_pool_3)
      (Ash.d1 KX G ?h_d__law_draw_0 ?h_d__law_draw_1 ?h_d__law_draw_2 ?h_d__law_draw_3)
      (Ash.d1 KX G ?h_d__law_names_0 ?h_d__law_names_1 ?h_d__law_names_2 ?h_d__law_names_3)
      (Ash.d1 KX G ?h_d__law_moment_0 ?h_d__law_moment_1 ?h_d__law_moment_2 ?h_d__law_moment_3)
      (Ash.d1 KX G ?h_d__law_rows_0 ?h_d__law_rows_1 ?h_d__law_rows_2 ?h_d__law_rows_3)
      (Ash.d1 KX G ?h_d__law_term_0 ?h_d__law_term_1 ?h_d__law_term_2 ?h_d__law_term_3)
      (Ash.d1 KX G ?h_d__law_built_0 ?h_d__law_built_1 ?h_d__law_built_2 ?h_d__law_built_3)
      (Ash.d1 KX G ?h_d__law_last_0 ?h_d__law_last_1 ?h_d__law_last_2 ?h_d__law_last_3)
      (Ash.d1 KX G ?h_d__law_between_0 ?h_d__law_between_1 ?h_d__law_between_2 ?h_d__law_between_3)
      (Ash.d1 KX G ?h_d__law_amounts_0 ?h_d__law_amounts_1 ?h_d__law_amounts_2 ?h_d__law_amounts_3)
      (Ash.d1 KX G ?h_d__law_added_0 ?h_d__law_added_1 ?h_d__law_added_2 ?h_d__law_added_3)
      (Ash.d1 KX G ?h_d__law_same_0 ?h_d__law_same_1 ?h_d__law_same_2 ?h_d__law_same_3)
      (Ash.dm ?h_m_WI_0 ?h_m_WI_1 ?h_m_WI_2 ?h_m_WI_3 ?h_m_WI_4)
      (Ash.dm ?h_m_WR_0 ?h_m_WR_1 ?h_m_WR_2 ?h_m_WR_3 ?h_m_WR_4)
      (Ash.dm ?h_m_NI_0 ?h_m_NI_1 ?h_m_NI_2 ?h_m_NI_3 ?h_m_NI_4)
      (Ash.dm ?h_m_LI_0 ?h_m_LI_1 ?h_m_LI_2 ?h_m_LI_3 ?h_m_LI_4)
      (Ash.dm ?h_m_XI_0 ?h_m_XI_1 ?h_m_XI_2 ?h_m_XI_3 ?h_m_XI_4)
      (Ash.dm ?h_m_SI_0 ?h_m_SI_1 ?h_m_SI_2 ?h_m_SI_3 ?h_m_SI_4)
      (Ash.dm ?h_m_EI_0 ?h_m_EI_1 ?h_m_EI_2 ?h_m_EI_3 ?h_m_EI_4)
      (Ash.dm ?h_m_JI_0 ?h_m_JI_1 ?h_m_JI_2 ?h_m_JI_3 ?h_m_JI_4)
      (Ash.dm ?h_m_KI_0 ?h_m_KI_1 ?h_m_KI_2 ?h_m_KI_3 ?h_m_KI_4)
      (Ash.dm ?h_m_nuI_0 ?h_m_nuI_1 ?h_m_nuI_2 ?h_m_nuI_3 ?h_m_nuI_4)
      (Ash.dm ?h_m_coI_0 ?h_m_coI_1 ?h_m_coI_2 ?h_m_coI_3 ?h_m_coI_4)
      (Ash.dm ?h_m_toI_0 ?h_m_toI_1 ?h_m_toI_2 ?h_m_toI_3 ?h_m_toI_4)
      (Ash.dm ?h_m_gaI_0 ?h_m_gaI_1 ?h_m_gaI_2 ?h_m_gaI_3 ?h_m_gaI_4)
      (Ash.dq ?h_m_add_0 ?h_m_add_1 ?h_m_add_2 ?h_m_add_3 ?h_m_add_4)
      (Ash.dq ?h_m_ior_0 ?h_m_ior_1 ?h_m_ior_2 ?h_m_ior_3 ?h_m_ior_4)
      (Ash.dq ?h_m_lat_0 ?h_m_lat_1 ?h_m_lat_2 ?h_m_lat_3 ?h_m_lat_4)
      (Ash.dq ?h_m_ear_0 ?h_m_ear_1 ?h_m_ear_2 ?h_m_ear_3 ?h_m_ear_4)
    (case h_Cs_0 => k_is)
    (case h_Cs_1 => k_is)
    (case h_Cs_2 => k_is)
    (case h_Cs_3 => k_is)
    (case h_Cs_4 => k_is)
    (case h_Cs_5 => k_is)
    (case h_Cs_6 => k_is)
    (case h_Cs_7 => k_is)
    (case h_TW_3 => k_is)
    (case h_nm0 => k_is)
    (case h_nm1 => k_is)
    (case h_nm2 => k_is)
    (case h_nm3 => k_is)
    (case h_nm4 => k_is)
    (case h_nm5 => k_is)
    (case h_nm6 => k_is)
    (case h_anm0 => k_is)
    (case h_anm1 => k_is)
    (case h_anm2 => k_is)
    (case h_anm3 => k_is)
    (case law0 => k_is)
    (case law1 => k_is)
    (case law2 => k_is)
    (case law3 => k_is)
    (case h_B_len => k_is)
    (case h_B_int => k_is)
    (case h_B_bool => k_is)
    (case h_B_str => k_is)
    (case h_B_list => k_is)
    (case h_B_tuple => k_is)
    (case h_B_dict => k_is)
    (case h_B_isinstance => k_is)
    (case h_B_all => k_is)
    (case h_B_range => k_is)
    (case h_B_enumerate => k_is)
    (case h_B_sorted => k_is)
    (case h_B_min => k_is)
    (case h_B_max => k_is)
    (case h_B_set => k_is)
    (case h_B_sum => k_is)
    (case h_B_abs => k_is)
    (case h_TW_0_0 => k_is)
    (case h_TW_0_1 => k_is)
    (case h_TW_0_2 => k_is)
    (case h_TW_0_3 => k_is)
    (case h_TW_1 => delta L2.NoAttr; k_is)
    (case h_TW_2 => delta L2.NoAttr; k_is)
    (case h_wi_0 => k_is)
    (case h_wi_1 => k_is)
    (case h_wi_2 => k_is)
    (case h_wi_3 => k_is)
    (case h_mkW => k_is)
    (case h_kW => k_is)
    (case h_cl0_0 => k_is)
    (case h_cl0_1 => k_is)
    (case h_cl0_2 => k_is)
    (case h_cl0_3 => k_is)
    (case h_b0_0 => k_is)
    (case h_b0_1 => k_is)
    (case h_b0_2 => k_is)
    (case h_b0_3 => k_is)
    (case h_ic0 => k_is)
    (case h_ti0 => k_is)
    (case h_sf0 => k_is)
    (case h_at0 => k_is)
    (case h_rt0 => k_is)
    (case h_si0 => k_is)
    (case h_or0 => k_is)
    (case h_ro0 => k_is)
    (case h_la0 => k_is)
    (case h_ea0 => k_is)
    (case h_n0_0 => delta L2.NoAttr; k_is)
    (case h_n0_1 => delta L2.NoAttr; k_is)
    (case h_n0_2 => delta L2.NoAttr; k_is)
    (case h_n0_3 => delta L2.NoAttr; k_is)
    (case h_n0_4 => delta L2.NoAttr; k_is)
    (case h_n0_5 => delta L2.NoAttr; k_is)
    (case h_n0_6 => delta L2.NoAttr; k_is)
    (case h_n0_7 => delta L2.NoAttr; k_is)
    (case h_n0_8 => delta L2.NoAttr; k_is)
    (case h_n0_9 => delta L2.NoAttr; k_is)
    (case h_s0_0 => k_is)
    (case h_s0_1 => k_is)
    (case h_s0_2 => k_is)
    (case h_s0_3 => k_is)
    (case h_s0_4 => k_is)
    (case h_s0_5 => k_is)
    (case h_s0_6 => k_is)
    (case h_cl1_0 => k_is)
    (case h_cl1_1 => k_is)
    (case h_cl1_2 => k_is)
    (case h_cl1_3 => k_is)
    (case h_b1_0 => k_is)
    (case h_b1_1 => k_is)
    (case h_b1_2 => k_is)
    (case h_b1_3 => k_is)
    (case h_ic1 => k_is)
    (case h_ti1 => k_is)
    (case h_sf1 => k_is)
    (case h_at1 => k_is)
    (case h_rt1 => k_is)
    (case h_si1 => k_is)
    (case h_or1 => k_is)
    (case h_ro1 => k_is)
    (case h_la1 => k_is)
    (case h_ea1 => k_is)
    (case h_n1_0 => delta L2.NoAttr; k_is)
    (case h_n1_1 => delta L2.NoAttr; k_is)
    (case h_n1_2 => delta L2.NoAttr; k_is)
    (case h_n1_3 => delta L2.NoAttr; k_is)
    (case h_n1_4 => delta L2.NoAttr; k_is)
    (case h_n1_5 => delta L2.NoAttr; k_is)
    (case h_n1_6 => delta L2.NoAttr; k_is)
    (case h_n1_7 => delta L2.NoAttr; k_is)
    (case h_n1_8 => delta L2.NoAttr; k_is)
    (case h_n1_9 => delta L2.NoAttr; k_is)
    (case h_s1_0 => k_is)
    (case h_s1_1 => k_is)
    (case h_s1_2 => k_is)
    (case h_s1_3 => k_is)
    (case h_s1_4 => k_is)
    (case h_s1_5 => k_is)
    (case h_s1_6 => k_is)
    (case h_cl2_0 => k_is)
    (case h_cl2_1 => k_is)
    (case h_cl2_2 => k_is)
    (case h_cl2_3 => k_is)
    (case h_b2_0 => k_is)
    (case h_b2_1 => k_is)
    (case h_b2_2 => k_is)
    (case h_b2_3 => k_is)
    (case h_ic2 => k_is)
    (case h_ti2 => k_is)
    (case h_sf2 => k_is)
    (case h_at2 => k_is)
    (case h_rt2 => k_is)
    (case h_si2 => k_is)
    (case h_or2 => k_is)
    (case h_ro2 => k_is)
    (case h_la2 => k_is)
    (case h_ea2 => k_is)
    (case h_n2_0 => delta L2.NoAttr; k_is)
    (case h_n2_1 => delta L2.NoAttr; k_is)
    (case h_n2_2 => delta L2.NoAttr; k_is)
    (case h_n2_3 => delta L2.NoAttr; k_is)
    (case h_n2_4 => delta L2.NoAttr; k_is)
    (case h_n2_5 => delta L2.NoAttr; k_is)
    (case h_n2_6 => delta L2.NoAttr; k_is)
    (case h_n2_7 => delta L2.NoAttr; k_is)
    (case h_n2_8 => delta L2.NoAttr; k_is)
    (case h_n2_9 => delta L2.NoAttr; k_is)
    (case h_s2_0 => k_is)
    (case h_s2_1 => k_is)
    (case h_s2_2 => k_is)
    (case h_s2_3 => k_is)
    (case h_s2_4 => k_is)
    (case h_s2_5 => k_is)
    (case h_s2_6 => k_is)
    (case h_cl3_0 => k_is)
    (case h_cl3_1 => k_is)
    (case h_cl3_2 => k_is)
    (case h_cl3_3 => k_is)
    (case h_b3_0 => k_is)
    (case h_b3_1 => k_is)
    (case h_b3_2 => k_is)
    (case h_b3_3 => k_is)
    (case h_ic3 => k_is)
    (case h_ti3 => k_is)
    (case h_sf3 => k_is)
    (case h_at3 => k_is)
    (case h_rt3 => k_is)
    (case h_si3 => k_is)
    (case h_or3 => k_is)
    (case h_ro3 => k_is)
    (case h_la3 => k_is)
    (case h_ea3 => k_is)
    (case h_n3_0 => delta L2.NoAttr; k_is)
    (case h_n3_1 => delta L2.NoAttr; k_is)
    (case h_n3_2 => delta L2.NoAttr; k_is)
    (case h_n3_3 => delta L2.NoAttr; k_is)
    (case h_n3_4 => delta L2.NoAttr; k_is)
    (case h_n3_5 => delta L2.NoAttr; k_is)
    (case h_n3_6 => delta L2.NoAttr; k_is)
    (case h_n3_7 => delta L2.NoAttr; k_is)
    (case h_n3_8 => delta L2.NoAttr; k_is)
    (case h_n3_9 => delta L2.NoAttr; k_is)
    (case h_s3_0 => k_is)
    (case h_s3_1 => k_is)
    (case h_s3_2 => k_is)
    (case h_s3_3 => k_is)
    (case h_s3_4 => k_is)
    (case h_s3_5 => k_is)
    (case h_s3_6 => k_is)
    (case h_cl4_0 => k_is)
    (case h_cl4_1 => k_is)
    (case h_cl4_2 => k_is)
    (case h_cl4_3 => k_is)
    (case h_b4_0 => k_is)
    (case h_b4_1 => k_is)
    (case h_b4_2 => k_is)
    (case h_b4_3 => k_is)
    (case h_ic4 => k_is)
    (case h_ti4 => k_is)
    (case h_sf4 => k_is)
    (case h_at4 => k_is)
    (case h_rt4 => k_is)
    (case h_si4 => k_is)
    (case h_or4 => k_is)
    (case h_ro4 => k_is)
    (case h_la4 => k_is)
    (case h_ea4 => k_is)
    (case h_n4_0 => delta L2.NoAttr; k_is)
    (case h_n4_1 => delta L2.NoAttr; k_is)
    (case h_n4_2 => delta L2.NoAttr; k_is)
    (case h_n4_3 => delta L2.NoAttr; k_is)
    (case h_n4_4 => delta L2.NoAttr; k_is)
    (case h_n4_5 => delta L2.NoAttr; k_is)
    (case h_n4_6 => delta L2.NoAttr; k_is)
    (case h_n4_7 => delta L2.NoAttr; k_is)
    (case h_n4_8 => delta L2.NoAttr; k_is)
    (case h_n4_9 => delta L2.NoAttr; k_is)
    (case h_s4_0 => k_is)
    (case h_s4_1 => k_is)
    (case h_s4_2 => k_is)
    (case h_s4_3 => k_is)
    (case h_s4_4 => k_is)
    (case h_s4_5 => k_is)
    (case h_s4_6 => k_is)
    (case h_cl5_0 => k_is)
    (case h_cl5_1 => k_is)
    (case h_cl5_2 => k_is)
    (case h_cl5_3 => k_is)
    (case h_b5_0 => k_is)
    (case h_b5_1 => k_is)
    (case h_b5_2 => k_is)
    (case h_b5_3 => k_is)
    (case h_ic5 => k_is)
    (case h_ti5 => k_is)
    (case h_sf5 => k_is)
    (case h_at5 => k_is)
    (case h_rt5 => k_is)
    (case h_si5 => k_is)
    (case h_or5 => k_is)
    (case h_ro5 => k_is)
    (case h_la5 => k_is)
    (case h_ea5 => k_is)
    (case h_n5_0 => delta L2.NoAttr; k_is)
    (case h_n5_1 => delta L2.NoAttr; k_is)
    (case h_n5_2 => delta L2.NoAttr; k_is)
    (case h_n5_3 => delta L2.NoAttr; k_is)
    (case h_n5_4 => delta L2.NoAttr; k_is)
    (case h_n5_5 => delta L2.NoAttr; k_is)
    (case h_n5_6 => delta L2.NoAttr; k_is)
    (case h_n5_7 => delta L2.NoAttr; k_is)
    (case h_n5_8 => delta L2.NoAttr; k_is)
    (case h_n5_9 => delta L2.NoAttr; k_is)
    (case h_s5_0 => k_is)
    (case h_s5_1 => k_is)
    (case h_s5_2 => k_is)
    (case h_s5_3 => k_is)
    (case h_s5_4 => k_is)
    (case h_s5_5 => k_is)
    (case h_s5_6 => k_is)
    (case h_cl6_0 => k_is)
    (case h_cl6_1 => k_is)
    (case h_cl6_2 => k_is)
    (case h_cl6_3 => k_is)
    (case h_b6_0 => k_is)
    (case h_b6_1 => k_is)
    (case h_b6_2 => k_is)
    (case h_b6_3 => k_is)
    (case h_ic6 => k_is)
    (case h_ti6 => k_is)
    (case h_sf6 => k_is)
    (case h_at6 => k_is)
    (case h_rt6 => k_is)
    (case h_si6 => k_is)
    (case h_or6 => k_is)
    (case h_ro6 => k_is)
    (case h_la6 => k_is)
    (case h_ea6 => k_is)
    (case h_n6_0 => delta L2.NoAttr; k_is)
    (case h_n6_1 => delta L2.NoAttr; k_is)
    (case h_n6_2 => delta L2.NoAttr; k_is)
    (case h_n6_3 => delta L2.NoAttr; k_is)
    (case h_n6_4 => delta L2.NoAttr; k_is)
    (case h_n6_5 => delta L2.NoAttr; k_is)
    (case h_n6_6 => delta L2.NoAttr; k_is)
    (case h_n6_7 => delta L2.NoAttr; k_is)
    (case h_n6_8 => delta L2.NoAttr; k_is)
    (case h_n6_9 => delta L2.NoAttr; k_is)
    (case h_s6_0 => k_is)
    (case h_s6_1 => k_is)
    (case h_s6_2 => k_is)
    (case h_s6_3 => k_is)
    (case h_s6_4 => k_is)
    (case h_s6_5 => k_is)
    (case h_s6_6 => k_is)
    (case h_mk0 => k_is)
    (case h_kp0 => k_is)
    (case h_mk1 => k_is)
    (case h_kp1 => k_is)
    (case h_mk2 => k_is)
    (case h_kp2 => k_is)
    (case h_mk3 => k_is)
    (case h_kp3 => k_is)
    (case h_mk4 => k_is)
    (case h_kp4 => k_is)
    (case h_mk5 => k_is)
    (case h_kp5 => k_is)
    (case h_mk6 => k_is)
    (case h_kp6 => k_is)
    (case h_i1 => k_is)
    (case h_i2 => k_is)
    (case h_acl0_0 => k_is)
    (case h_acl0_1 => k_is)
    (case h_acl0_2 => k_is)
    (case h_acl0_3 => k_is)
    (case h_ab0_0 => k_is)
    (case h_ab0_1 => k_is)
    (case h_ab0_2 => k_is)
    (case h_ab0_3 => k_is)
    (case h_aic0 => k_is)
    (case h_ati0 => k_is)
    (case h_an0_0 => delta L2.NoAttr; k_is)
    (case h_an0_1 => delta L2.NoAttr; k_is)
    (case h_an0_2 => delta L2.NoAttr; k_is)
    (case h_an0_3 => delta L2.NoAttr; k_is)
    (case h_an0_4 => delta L2.NoAttr; k_is)
    (case h_as0_0 => k_is)
    (case h_as0_1 => k_is)
    (case h_as0_2 => k_is)
    (case h_as0_3 => k_is)
    (case h_at0_0 => k_is)
    (case h_at0_1 => k_is)
    (case h_at0_2 => k_is)
    (case h_at0_3 => k_is)
    (case h_at0_4 => k_is)
    (case h_at0_5 => k_is)
    (case h_at0_6 => k_is)
    (case h_amk0 => k_is)
    (case h_akp0 => k_is)
    (case h_acl1_0 => k_is)
    (case h_acl1_1 => k_is)
    (case h_acl1_2 => k_is)
    (case h_acl1_3 => k_is)
    (case h_ab1_0 => k_is)
    (case h_ab1_1 => k_is)
    (case h_ab1_2 => k_is)
    (case h_ab1_3 => k_is)
    (case h_aic1 => k_is)
    (case h_ati1 => k_is)
    (case h_an1_0 => delta L2.NoAttr; k_is)
    (case h_an1_1 => delta L2.NoAttr; k_is)
    (case h_an1_2 => delta L2.NoAttr; k_is)
    (case h_an1_3 => delta L2.NoAttr; k_is)
    (case h_an1_4 => delta L2.NoAttr; k_is)
    (case h_as1_0 => k_is)
    (case h_as1_1 => k_is)
    (case h_as1_2 => k_is)
    (case h_as1_3 => k_is)
    (case h_at1_0 => k_is)
    (case h_at1_1 => k_is)
    (case h_at1_2 => k_is)
    (case h_at1_3 => k_is)
    (case h_at1_4 => k_is)
    (case h_at1_5 => k_is)
    (case h_at1_6 => k_is)
    (case h_amk1 => k_is)
    (case h_akp1 => k_is)
    (case h_acl2_0 => k_is)
    (case h_acl2_1 => k_is)
    (case h_acl2_2 => k_is)
    (case h_acl2_3 => k_is)
    (case h_ab2_0 => k_is)
    (case h_ab2_1 => k_is)
    (case h_ab2_2 => k_is)
    (case h_ab2_3 => k_is)
    (case h_aic2 => k_is)
    (case h_ati2 => k_is)
    (case h_an2_0 => delta L2.NoAttr; k_is)
    (case h_an2_1 => delta L2.NoAttr; k_is)
    (case h_an2_2 => delta L2.NoAttr; k_is)
    (case h_an2_3 => delta L2.NoAttr; k_is)
    (case h_an2_4 => delta L2.NoAttr; k_is)
    (case h_as2_0 => k_is)
    (case h_as2_1 => k_is)
    (case h_as2_2 => k_is)
    (case h_as2_3 => k_is)
    (case h_at2_0 => k_is)
    (case h_at2_1 => k_is)
    (case h_at2_2 => k_is)
    (case h_at2_3 => k_is)
    (case h_at2_4 => k_is)
    (case h_at2_5 => k_is)
    (case h_at2_6 => k_is)
    (case h_amk2 => k_is)
    (case h_akp2 => k_is)
    (case h_acl3_0 => k_is)
    (case h_acl3_1 => k_is)
    (case h_acl3_2 => k_is)
    (case h_acl3_3 => k_is)
    (case h_ab3_0 => k_is)
    (case h_ab3_1 => k_is)
    (case h_ab3_2 => k_is)
    (case h_ab3_3 => k_is)
    (case h_aic3 => k_is)
    (case h_ati3 => k_is)
    (case h_an3_0 => delta L2.NoAttr; k_is)
    (case h_an3_1 => delta L2.NoAttr; k_is)
    (case h_an3_2 => delta L2.NoAttr; k_is)
    (case h_an3_3 => delta L2.NoAttr; k_is)
    (case h_an3_4 => delta L2.NoAttr; k_is)
    (case h_as3_0 => k_is)
    (case h_as3_1 => k_is)
    (case h_as3_2 => k_is)
    (case h_as3_3 => k_is)
    (case h_at3_0 => k_is)
    (case h_at3_1 => k_is)
    (case h_at3_2 => k_is)
    (case h_at3_3 => k_is)
    (case h_at3_4 => k_is)
    (case h_at3_5 => k_is)
    (case h_at3_6 => k_is)
    (case h_amk3 => k_is)
    (case h_akp3 => k_is)
    (case h_d_is_integer_0 => k_is)
    (case h_d_is_integer_1 => k_is)
    (case h_d_is_integer_2 => k_is)
    (case h_d_is_integer_3 => k_is)
    (case h_d_is_natural_0 => k_is)
    (case h_d_is_natural_1 => k_is)
    (case h_d_is_natural_2 => k_is)
    (case h_d_is_natural_3 => k_is)
    (case h_d_is_name_0 => k_is)
    (case h_d_is_name_1 => k_is)
    (case h_d_is_name_2 => k_is)
    (case h_d_is_name_3 => k_is)
    (case h_d_are_integers_0 => k_is)
    (case h_d_are_integers_1 => k_is)
    (case h_d_are_integers_2 => k_is)
    (case h_d_are_integers_3 => k_is)
    (case h_d_is_row_0 => k_is)
    (case h_d_is_row_1 => k_is)
    (case h_d_is_row_2 => k_is)
    (case h_d_is_row_3 => k_is)
    (case h_d_are_rows_0 => k_is)
    (case h_d_are_rows_1 => k_is)
    (case h_d_are_rows_2 => k_is)
    (case h_d_are_rows_3 => k_is)
    (case h_d_first_twice_0 => k_is)
    (case h_d_first_twice_1 => k_is)
    (case h_d_first_twice_2 => k_is)
    (case h_d_first_twice_3 => k_is)
    (case h_d_is_rows_0 => k_is)
    (case h_d_is_rows_1 => k_is)
    (case h_d_is_rows_2 => k_is)
    (case h_d_is_rows_3 => k_is)
    (case h_d_is_term_0 => k_is)
    (case h_d_is_term_1 => k_is)
    (case h_d_is_term_2 => k_is)
    (case h_d_is_term_3 => k_is)
    (case h_d_is_look_0 => k_is)
    (case h_d_is_look_1 => k_is)
    (case h_d_is_look_2 => k_is)
    (case h_d_is_look_3 => k_is)
    (case h_d_checked_stream_0 => k_is)
    (case h_d_checked_stream_1 => k_is)
    (case h_d_checked_stream_2 => k_is)
    (case h_d_checked_stream_3 => k_is)
    (case h_d_checked_term_0 => k_is)
    (case h_d_checked_term_1 => k_is)
    (case h_d_checked_term_2 => k_is)
    (case h_d_checked_term_3 => k_is)
    (case h_d_sizes_0 => k_is)
    (case h_d_sizes_1 => k_is)
    (case h_d_sizes_2 => k_is)
    (case h_d_sizes_3 => k_is)
    (case h_d_shifted_0 => k_is)
    (case h_d_shifted_1 => k_is)
    (case h_d_shifted_2 => k_is)
    (case h_d_shifted_3 => k_is)
    (case h_d_last_row_0 => k_is)
    (case h_d_last_row_1 => k_is)
    (case h_d_last_row_2 => k_is)
    (case h_d_last_row_3 => k_is)
    (case h_d_next_row_0 => k_is)
    (case h_d_next_row_1 => k_is)
    (case h_d_next_row_2 => k_is)
    (case h_d_next_row_3 => k_is)
    (case h_d_moved_0 => k_is)
    (case h_d_moved_1 => k_is)
    (case h_d_moved_2 => k_is)
    (case h_d_moved_3 => k_is)
    (case h_d_looked_0 => k_is)
    (case h_d_looked_1 => k_is)
    (case h_d_looked_2 => k_is)
    (case h_d_looked_3 => k_is)
    (case h_d_followed_either_0 => k_is)
    (case h_d_followed_either_1 => k_is)
    (case h_d_followed_either_2 => k_is)
    (case h_d_followed_either_3 => k_is)
    (case h_d_followed_both_0 => k_is)
    (case h_d_followed_both_1 => k_is)
    (case h_d_followed_both_2 => k_is)
    (case h_d_followed_both_3 => k_is)
    (case h_d_followed_0 => k_is)
    (case h_d_followed_1 => k_is)
    (case h_d_followed_2 => k_is)
    (case h_d_followed_3 => k_is)
    (case h_d_is_amount_0 => k_is)
    (case h_d_is_amount_1 => k_is)
    (case h_d_is_amount_2 => k_is)
    (case h_d_is_amount_3 => k_is)
    (case h_d_told_between_0 => k_is)
    (case h_d_told_between_1 => k_is)
    (case h_d_told_between_2 => k_is)
    (case h_d_told_between_3 => k_is)
    (case h_d_is_question_0 => k_is)
    (case h_d_is_question_1 => k_is)
    (case h_d_is_question_2 => k_is)
    (case h_d_is_question_3 => k_is)
    (case h_d_check_0 => k_is)
    (case h_d_check_1 => k_is)
    (case h_d_check_2 => k_is)
    (case h_d_check_3 => k_is)
    (case h_d_answered_0 => k_is)
    (case h_d_answered_1 => k_is)
    (case h_d_answered_2 => k_is)
    (case h_d_answered_3 => k_is)
    (case h_d_value_0 => k_is)
    (case h_d_value_1 => k_is)
    (case h_d_value_2 => k_is)
    (case h_d_value_3 => k_is)
    (case h_d__law_pool_0 => k_is)
    (case h_d__law_pool_1 => k_is)
    (case h_d__law_pool_2 => k_is)
    (case h_d__law_pool_3 => k_is)
    (case h_d__law_draw_0 => k_is)
    (case h_d__law_draw_1 => k_is)
    (case h_d__law_draw_2 => k_is)
    (case h_d__law_draw_3 => k_is)
    (case h_d__law_names_0 => k_is)
    (case h_d__law_names_1 => k_is)
    (case h_d__law_names_2 => k_is)
    (case h_d__law_names_3 => k_is)
    (case h_d__law_moment_0 => k_is)
    (case h_d__law_moment_1 => k_is)
    (case h_d__law_moment_2 => k_is)
    (case h_d__law_moment_3 => k_is)
    (case h_d__law_rows_0 => k_is)
    (case h_d__law_rows_1 => k_is)
    (case h_d__law_rows_2 => k_is)
    (case h_d__law_rows_3 => k_is)
    (case h_d__law_term_0 => k_is)
    (case h_d__law_term_1 => k_is)
    (case h_d__law_term_2 => k_is)
    (case h_d__law_term_3 => k_is)
    (case h_d__law_built_0 => k_is)
    (case h_d__law_built_1 => k_is)
    (case h_d__law_built_2 => k_is)
    (case h_d__law_built_3 => k_is)
    (case h_d__law_last_0 => k_is)
    (case h_d__law_last_1 => k_is)
    (case h_d__law_last_2 => k_is)
    (case h_d__law_last_3 => k_is)
    (case h_d__law_between_0 => k_is)
    (case h_d__law_between_1 => k_is)
    (case h_d__law_between_2 => k_is)
    (case h_d__law_between_3 => k_is)
    (case h_d__law_amounts_0 => k_is)
    (case h_d__law_amounts_1 => k_is)
    (case h_d__law_amounts_2 => k_is)
    (case h_d__law_amounts_3 => k_is)
    (case h_d__law_added_0 => k_is)
    (case h_d__law_added_1 => k_is)
    (case h_d__law_added_2 => k_is)
    (case h_d__law_added_3 => k_is)
    (case h_d__law_same_0 => k_is)
    (case h_d__law_same_1 => k_is)
    (case h_d__law_same_2 => k_is)
    (case h_d__law_same_3 => k_is)
    (case h_m_WI_0 => k_is)
    (case h_m_WI_1 => k_is)
    (case h_m_WI_2 => k_is)
    (case h_m_WI_3 => k_is)
    (case h_m_WI_4 => k_is)
    (case h_m_WR_0 => k_is)
    (case h_m_WR_1 => k_is)
    (case h_m_WR_2 => k_is)
    (case h_m_WR_3 => k_is)
    (case h_m_WR_4 => k_is)
    (case h_m_NI_0 => k_is)
    (case h_m_NI_1 => k_is)
    (case h_m_NI_2 => k_is)
    (case h_m_NI_3 => k_is)
    (case h_m_NI_4 => k_is)
    (case h_m_LI_0 => k_is)
    (case h_m_LI_1 => k_is)
    (case h_m_LI_2 => k_is)
    (case h_m_LI_3 => k_is)
    (case h_m_LI_4 => k_is)
    (case h_m_XI_0 => k_is)
    (case h_m_XI_1 => k_is)
    (case h_m_XI_2 => k_is)
    (case h_m_XI_3 => k_is)
    (case h_m_XI_4 => k_is)
    (case h_m_SI_0 => k_is)
    (case h_m_SI_1 => k_is)
    (case h_m_SI_2 => k_is)
    (case h_m_SI_3 => k_is)
    (case h_m_SI_4 => k_is)
    (case h_m_EI_0 => k_is)
    (case h_m_EI_1 => k_is)
    (case h_m_EI_2 => k_is)
    (case h_m_EI_3 => k_is)
    (case h_m_EI_4 => k_is)
    (case h_m_JI_0 => k_is)
    (case h_m_JI_1 => k_is)
    (case h_m_JI_2 => k_is)
    (case h_m_JI_3 => k_is)
    (case h_m_JI_4 => k_is)
    (case h_m_KI_0 => k_is)
    (case h_m_KI_1 => k_is)
    (case h_m_KI_2 => k_is)
    (case h_m_KI_3 => k_is)
    (case h_m_KI_4 => k_is)
    (case h_m_nuI_0 => k_is)
    (case h_m_nuI_1 => k_is)
    (case h_m_nuI_2 => k_is)
    (case h_m_nuI_3 => k_is)
    (case h_m_nuI_4 => k_is)
    (case h_m_coI_0 => k_is)
    (case h_m_coI_1 => k_is)
    (case h_m_coI_2 => k_is)
    (case h_m_coI_3 => k_is)
    (case h_m_coI_4 => k_is)
    (case h_m_toI_0 => k_is)
    (case h_m_toI_1 => k_is)
    (case h_m_toI_2 => k_is)
    (case h_m_toI_3 => k_is)
    (case h_m_toI_4 => k_is)
    (case h_m_gaI_0 => k_is)
    (case h_m_gaI_1 => k_is)
    (case h_m_gaI_2 => k_is)
    (case h_m_gaI_3 => k_is)
    (case h_m_gaI_4 => k_is)
    (case h_m_add_0 => k_is)
    (case h_m_add_1 => k_is)
    (case h_m_add_2 => k_is)
    (case h_m_add_3 => k_is)
    (case h_m_add_4 => k_is)
    (case h_m_ior_0 => k_is)
    (case h_m_ior_1 => k_is)
    (case h_m_ior_2 => k_is)
    (case h_m_ior_3 => k_is)
    (case h_m_ior_4 => k_is)
    (case h_m_lat_0 => k_is)
    (case h_m_lat_1 => k_is)
    (case h_m_lat_2 => k_is)
    (case h_m_lat_3 => k_is)
    (case h_m_lat_4 => k_is)
    (case h_m_ear_0 => k_is)
    (case h_m_ear_1 => k_is)
    (case h_m_ear_2 => k_is)
    (case h_m_ear_3 => k_is)
    (case h_m_ear_4 => k_is)

