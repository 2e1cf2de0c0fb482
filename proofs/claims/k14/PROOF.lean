import PyProof.Rows.All
import Wide.All
import OpenK.AllK
import Wide.FinOn
import PyProof.EqAt
import PyProof.EqKinds
import PyProof.TupleCall
import KE.KExcSuper
import HandS.ForMost
import HandS.ForExc
import HandS.ExcInit
import HandS.IsInst
import HandS.Wide
import HandS.Star
import HandS.CallSlots
import HandS.DictComp
import HandS.OwnEq
import HandS.Codes
import HandS.Defaults
import HandS.Walk
import PySem.Challenge.RW_asofhall_k14_whole_answers_and_support
import PyProof.Rows.SortShellAny
import HandS.SetFor
import HandS.SetKeys
import HandS.SortRule
import HandS.More
import HandS.Deep
import PyProof.InstNe
import OpenK.KOwn
import OpenK.KOps
import HandS.Sort
import OpenK.KMeth
import HandS.SlotsOwn
import KE.KOpsOwn
import KE.DatumOrd
import HandS.SortKw
import HandS.TupLe
import HandS.SortOrd
import HandS.Rev
set_option Elab.async false
set_option linter.all false
set_option maxRecDepth 100000
set_option maxHeartbeats 4000000
namespace PySem
namespace BadX
open PySem.W PySem.Calls PyProof.Rows PySem.HandSPX
/-- super().__init__(text); self.fl = par -/
def shape (tx par fl : Str) (p0 p1 p2 p3 p4 p5 p6 p7 p8 p9 : Pos) (j : Nat) : List Stmt :=
  [.Expr (.Call (.Attribute (.Call (.Name "super" p0) [] [] p1) "__init__" p2) [.Constant (.str tx) j p3] [] p4) p5,
   .Assign [.Attribute (.Name "self" p6) fl p7] (.Name par p8) p9]
def sco (par : Str) : Scope := { kind := .function, names := [(PySem.Str.ofString "self", .local), (par, .local), (PySem.Str.ofString "__class__", .free), (PySem.Str.ofString "super", .globalImplicit)], isGenerator := false, isCoroutine := false, more := [] }
/-- what the written part says of an own error's class at C, its __init__ at fI, whose one field is fl -/
structure Txt (P : Program) (K : Frag) (mg : Str → Option Value) (par fl : Str) (C fI : Addr) : Prop where
  cls : ∃ nm q N bs bm sn sub ab col dd k0 k1 k2 k3 k5, K.lookup C = some (excClassObj nm q C N bs bm true sn sub ab col dd k0 k1 k2 k3 k5 "ValueError.__new__") ∧ refsVE bm = true
  sa : findIn K (.ref C) "__setattr__" = some (some (.builtin "object.__setattr__"))
  ga : findIn K (.ref C) "__getattribute__" = some (some (.builtin "BaseException.__getattribute__"))
  gg : findIn K (.ref C) "__getattr__" = some none
  noN : findIn K (.ref C) fl = some none
  iC : findIn K (.ref C) "__init__" = some (some (.ref fI))
  tC : typeIn K (.ref fI) = some (.type "function")
  kC : keepIn K (.ref C) = true
  exC : subIn K (.ref C) (.type "BaseException") = some true
  veC : subIn K (.ref C) (.type "ValueError") = some true
  slf : mroIn K C (.ref C) = some true
  tyC : typeIn K (.ref C) = some (.type "type")
  hdC : hasDictIn K C = true
  te : exmOne K (.ref C) (.ref C) = some true
  along : ks_superIn K C C "__init__" = some (some (.builtin "ValueError.__init__"))
  opq : nsIn K cStatics "thirdparty.any" = some none
  sup : mg "super" = none
  top : (P.main.scope.names.lookup ("super" : Str)).isSome = false
  fn : ∃ (oc : Value) (od : Option Addr) (qual tx : Str) (doc pm : Value) (an : Option Addr) (cda cc : Addr) (ct : Value) (osl : Array (Option Value)) (pa : Arguments) (p0 p1 p2 p3 p4 p5 p6 p7 p8 p9 : Pos) (j : Nat) (a0 : Arg),
    K.lookup fI = some ⟨oc, od, .func (ksFn "__init__" qual pa (shape tx par fl p0 p1 p2 p3 p4 p5 p6 p7 p8 p9 j) (sco par) .none .none doc pm an (.ref cda) ct cc), osl⟩ ∧ codeIn K (.ref cda) qual = true ∧
    (pa.posonlyargs ++ pa.args).head? = some a0 ∧ a0.arg = "self" ∧
    (∀ (s : Shared) (u v : Value), BindsTo s (ksFn "__init__" qual pa (shape tx par fl p0 p1 p2 p3 p4 p5 p6 p7 p8 p9 j) (sco par) .none .none doc pm an (.ref cda) ct cc) ⟨[u, v], []⟩ [("self", u), (par, v)]) ∧
    (∃ ccl cdd vs ccs file tf, K.lookup cda = some ⟨ccl, cdd, .fields vs, ccs⟩ ∧ vs[2]? = some (.str file tf) ∧ ((P.main.file : Str) == file) = true) ∧
    (p2.endLine == p4.line) = true ∧
    (∃ cl cld csl, K.lookup cc = some ⟨cl, cld, .cell (some (.ref C)), csl⟩)
/-- what __init__ leaves of a fresh exception at x -/
structure Left (fl : Str) (h h' : Heap) (x C dx t1 : Addr) (v : Value) : Prop where
  keep : ∀ b o, b ≠ x → h.get? b = some o → h'.get? b = some o
  obj : h'.get? x = some { cls := .ref C, dict := some dx, data := .fields #[.ref t1, .none, .none, .none, .bool false, .none] }
  dbig : h.objs.size ≤ dx
  dne : dx ≠ x
  ns : h'.Ns1 dx (fun y => if y = fl then some v else none)
section
variable {prog : Program} {w : World} {A : Around} {E : Value → Shared → Prop} {R : Result → Shared → Prop} {s : Shared} {K : Frag} {mg mb : Str → Option Value} {C fI : Addr} {par fl : Str}
/-- the wrapper of ValueError.__init__, bound to x, called -/
theorem call_bound {h : Heap} {g : Array GenState} {d : Drawn} {t : Nat} {os : OsState} {u x t0 : Addr} {rest : List Value} {Q : Value → Shared → Prop} {nm q : Str} {N : Addr} {bs bm : List Value} {sn : List Str} {sub : List Value} {ab : Bool} {col : Option Bool} {dd : Option Addr} {k0 k1 k2 k3 k5 : Option Value}
    (hC : h.get? C = some (excClassObj nm q C N bs bm true sn sub ab col dd k0 k1 k2 k3 k5 "ValueError.__new__")) (hx : h.get? x = some (excO C t0)) (hu : h.get? u = some (kxs_mw "ValueError.__init__" x)) (hr : rest.length ≤ sizeLine)
    (hq : ∀ h', (∀ b o, b ≠ x → h.get? b = some o → h'.get? b = some o) → h'.get? x = some (excO C h.objs.size) → Q .none ⟨h', g, d, t, os⟩) :
    wpAny (model prog w) A (call (.ref u) rest) Q E ⟨h, g, d, t, os⟩ := by
  have FB := F.excBase_ValueError
  refine wpAny_call (codeAny_of_tree ?_)
  show wpAny _ A.in1 (callAny (.ref u) ⟨rest, []⟩) _ _ _
  simp only [callAny]
  refine wpAny_bind (wpAny_load hu ?_)
  have c1 : (Value.type "method-wrapper" == Value.type "method" || Value.type "method-wrapper" == Value.type "builtin_function_or_method" || Value.type "method-wrapper" == Value.type "method-wrapper") = true := by decide
  simp only [kxs_mw, c1, if_true]
  refine KFB.if_so (by decide) (wpAny_bind (check_bound_init FB.toExcCallFacts hC hx rfl (wpAny_bind (wpAny_pure (wpAny_pure ⟨plainId_quiet FB.init.plain _, codeAny_builtin FB.initEntry ?_⟩)))))
  exact exc_init_tree (cls := .ref C) (t0 := t0) (dv := none) (c2 := .none) (c3 := .none) (b4 := .bool false) hx hr fun h' k e' _ => hq h' k e'
theorem init_ok {x t0 : Addr} {v : Value} (T : Txt prog K mg par fl C fI) (X : K.In s.heap) (G : s.heap.Ns mainGlobals mg) (B : s.heap.Ns builtinsNs mb) (hb : mb "super" = some (.type "super")) (hlim : s.heap.NoLimit)
    (hx : s.heap.get? x = some (excO C t0)) (hnx : K.lookup x = none) (hroom : A.depth < recursionLimit) (hp1 : (par == ("__debug__" : Str)) = false) (hp2 : ¬ par = "self")
    (hloc : (sco par).names.lookup par = some .local) (hks : (sco par).names.lookup ("super" : Str) = some .globalImplicit) (hkc : (sco par).names.lookup ("__class__" : Str) = some .free)
    (hq : ∀ h' tk t1 dx, Left fl s.heap h' x C dx t1 v → R (.ok (.ret .none)) { s with heap := h', toks := tk }) :
    codeAny (model prog w) A (.call (.ref fI) ⟨[.ref x, v], []⟩) R s := by
  obtain ⟨oc, od, qual, tx, doc, pm, an, cda, cc, ct, osl, pa, p0, p1, p2, p3, p4, p5, p6, p7, p8, p9, j, a0, ho, hcd, ha0, ha1, hbd, ⟨ccl, cdd, vs, ccs, file, tf, hcode, hvs, hfile⟩, hpe, ⟨cl, cld, csl, hcell⟩⟩ := T.fn
  obtain ⟨nm, q, N, bs, bm, sn, sub, ab, col, dd, k0, k1, k2, k3, k5, hC, hbm⟩ := T.cls
  have hcl : clsIn K C = some { name := nm, bases := bs, mro := .ref C :: bm, ns := N, qualname := q, hasDict := true, slotNames := sn, subclasses := sub, abstract := ab, collection := col, hasDel := false } := by unfold clsIn; rw [hC] <;> rfl
  refine ks_codeAny_call_defAt (binds := [("self", .ref x), (par, v)]) hroom (X _ _ ho) rfl hlim (codeRec_of X hcd) rfl (hbd s (.ref x) v) ?_ ?_ (fun h₁ hns hk₁ => ?_)
  · intro y hy
    have : y ∈ [(PySem.Str.ofString "self", NameKind.local), (par, .local), (PySem.Str.ofString "__class__", .free), (PySem.Str.ofString "super", .globalImplicit)] := hy
    simp only [List.mem_cons, List.not_mem_nil, or_false] at this
    rcases this with rfl | rfl | rfl | rfl <;> (intro z; cases z)
  · intro y hy
    simp only [List.mem_cons, List.not_mem_nil, or_false] at hy
    rcases hy with rfl | rfl
    · exact (by rfl : (sco par).names.lookup ("self" : Str) = some .local)
    · exact hloc
  have hself : ([(("self" : Str), Value.ref x), (par, v)] : List (Str × Value)).reverse.lookup ("self" : Str) = some (Value.ref x) := by
    show List.lookup ("self" : Str) [(par, v), (("self" : Str), Value.ref x)] = _
    have e1 : (("self" : Str) == par) = false := by simpa using fun z => hp2 z.symm
    simp [List.lookup, e1]
  have hpar : ([(("self" : Str), Value.ref x), (par, v)] : List (Str × Value)).reverse.lookup par = some v := by
    show List.lookup par [(par, v), (("self" : Str), Value.ref x)] = _
    simp [List.lookup]
  have X₁ : K.In h₁ := X.keeps hk₁
  have hx₁ := hk₁ _ _ hx
  refine ks_wpAt_execs_cons (ks_wpAt_Expr_any (ks_wpAt_MethodCall (pl := ?pl) ?_ ?he))
  case he =>
    rw [arm_eval_Call]
    unfold methodCall methodCallPos
    rw [hpe]
    with_unfolding_all rfl
  refine ks_wpAt_super_base (hks := hks) (hkc := hkc) (by decide +kernel) rfl (X₁ _ _ ho) rfl ha0 rfl (X₁ _ _ hcode) rfl hvs hfile T.top ?_
  refine ks_loadName_global rfl hks (loadGlobal_builtin (G.keeps hk₁) T.sup (B.keeps hk₁) hb ⟨rfl, ?_⟩)
  refine wpAny_loadName_free rfl hkc rfl ⟨_, X₁ _ _ hcell, rfl⟩ ?_
  rw [ha1]
  refine wpAny_loadName_local rfl rfl hns hself ?_
  refine ks_wpAny_isType_cls (X₁ _ _ hC) rfl ⟨rfl, ?_⟩
  refine ks_wpAny_call_super (X₁ _ _ hC) rfl hx₁ rfl (fun c e => by cases e) (looks_mroIn X₁ T.slf) (fun h₂ e₂ k₂ => ?_)
  have X₂ : K.In h₂ := X₁.keeps k₂
  have hx₂ := k₂ _ _ hx₁
  have I₂ : InstAt h₂ x (excO C t0) C none := ⟨hx₂, rfl, rfl, trivial⟩
  have hal := T.along
  unfold ks_superIn at hal
  rw [hcl] at hal
  refine kxs_getMethod kxs_ValueError e₂ (looks_opaque X₂ T.opq) (l₀ := .ref C :: bm) ?_ rfl X₂ hal (I₂.type.andThen (looks_subIn X₂ T.veC)) (ks_ne X₂ I₂ hcl) (by decide +kernel) ?_
  · exact fun A Q E s k q => wpAny_bind ((looks_clsIn X₂ hcl) A _ E s k (wpAny_pure q))
  have hu : (h₂.push (kxs_mw "ValueError.__init__" x)).get? h₂.objs.size = some (kxs_mw "ValueError.__init__" x) := Heap.get?_push_at rfl rfl
  have k₃ : ∀ b o, h₂.get? b = some o → (h₂.push (kxs_mw "ValueError.__init__" x)).get? b = some o := fun b o e => Heap.get?_push_of_some _ e
  let H₃ := h₂.push (kxs_mw "ValueError.__init__" x)
  refine kxs_callWith1 (i := "ValueError.__init__") (x := x) (u := h₂.objs.size) (h₀ := Att.noObjs H₃) (L := h₂.objs.size + 7) (news := [(h₂.objs.size, kxs_mw "ValueError.__init__" x)]) (fun q hq => ?_) (List.Mem.head _) ?_
  · rcases List.mem_cons.mp hq with rfl | hq
    · exact ⟨hu, by show h₂.objs.size ≠ h₂.objs.size + 7; omega, Att.noObjs_get _ _⟩
    · cases hq
  refine wpAny_items_cons (Constant_str ?_)
  refine wpAny_items_nil ⟨hu, ?_⟩
  have X₃ : K.In (h₂.push (kxs_mw "ValueError.__init__" x)) := X₂.keeps k₃
  refine call_bound (X₃ _ _ hC) (k₃ _ _ hx₂) hu (by rw [sizeLine_eq]; exact (by decide : 1 ≤ 16777216)) fun h₄ k₄ e₄ => ?_
  -- self.fl = par
  have k14 : ∀ b o, b ≠ x → h₁.get? b = some o → h₄.get? b = some o := fun b o hb e => k₄ b o hb (k₃ b o (k₂ b o e))
  have xL : s.heap.objs.size ≠ x := Nat.ne_of_gt (Heap.lt_size hx)
  obtain ⟨oL, es, ep, hL, hr⟩ := hns
  have hns₄ : h₄.Ns s.heap.objs.size (fun y => ([(("self" : Str), Value.ref x), (par, v)] : List (Str × Value)).reverse.lookup y) := ⟨oL, es, ep, k14 _ _ xL hL, hr⟩
  have X₄ : K.In h₄ := fun a o e => k₄ a o (fun z => by rw [z, hnx] at e; cases e) (X₃ a o e)
  refine wpAt_of_wpAny (wpAny_execs_cons (plainObj_wpAny_Assign_Attribute ?_))
  refine wpAny_Name (wpAny_loadName_local rfl hloc hns₄ hpar ?_) hp1
  refine wpAny_Name (wpAny_loadName_local rfl rfl hns₄ hself ?_) (by decide)
  refine set_plain X₄ (ox := excO C h₂.objs.size.succ) (od := none) ⟨?_, rfl, rfl, trivial⟩ T.sa ?_
  · show h₄.get? x = some (excO C h₂.objs.size.succ)
    rw [e₄, Heap.size_push]
  have e₄' : h₄.get? x = some (excO C h₂.objs.size.succ) := by
    rw [e₄, Heap.size_push]
  refine exc_osa X₄ e₄' hcl (show refsVE (.ref C :: bm) = true from hbm) rfl T.noN (fun h₅ tk₅ dx k₅ dn dne hx₅ hn₅ => ?_)
  have z1 : s.heap.objs.size < h₄.objs.size := Heap.lt_size (k14 _ _ xL hL)
  refine wpAny_execs_nil (hq h₅ tk₅ _ dx ⟨fun b o hb e => k₅ b o hb (k14 b o hb (hk₁ b o e)), hx₅, Nat.le_of_lt (Nat.lt_of_lt_of_le z1 dn), dne, hn₅⟩)
theorem one_le (v : Value) : [v].length ≤ sizeLine := by
  rw [sizeLine_eq]
  exact (by decide : 1 ≤ 16777216)
/-- a made error -/
structure Made (fl : Str) (h h' : Heap) (e C d : Addr) (v : Value) : Prop where
  keep : ∀ b o, h.get? b = some o → h'.get? b = some o
  new : h.objs.size ≤ e
  obj : ∃ oe vs, h'.get? e = some oe ∧ oe.cls = .ref C ∧ oe.dict = some d ∧ oe.data = .fields vs ∧ vs[1]? = some .none
  dbig : h.objs.size ≤ d
  dne : d ≠ e
  ns : h'.Ns1 d (fun y => if y = fl then some v else none)
/-- the names of such an __init__ -/
structure Par (par : Str) : Prop where
  p1 : (par == ("__debug__" : Str)) = false
  p2 : ¬ par = "self"
  p3 : (sco par).names.lookup par = some .local
  p4 : (sco par).names.lookup ("super" : Str) = some .globalImplicit
  p5 : (sco par).names.lookup ("__class__" : Str) = some .free
theorem made_ok {v : Value} (T : Txt prog K mg par fl C fI) (p : Par par) (X : K.In s.heap) (G : s.heap.Ns mainGlobals mg) (B : s.heap.Ns builtinsNs mb) (hb : mb "super" = some (.type "super")) (hlim : s.heap.NoLimit) (hroom : A.depth + 1 < recursionLimit)
    (hq : ∀ h' tk e d, Made fl s.heap h' e C d v → R (.ok (.ret (.ref e))) { s with heap := h', toks := tk }) :
    codeAny (model prog w) A (.call (.ref C) ⟨[v], []⟩) R s := by
  obtain ⟨nm, q, N, bs, bm, sn, sub, ab, col, dd, k0, k1, k2, k3, k5, hC, hbm⟩ := T.cls
  obtain ⟨hp, g, dr, tk, os⟩ := s
  let hp2 := (hp.push (kdv_tup [v])).push (excO C hp.objs.size)
  have k : ∀ b o, hp.get? b = some o → hp2.get? b = some o := fun b o e => Heap.get?_push_of_some _ (Heap.get?_push_of_some _ e)
  have hget : hp2.get? (hp.objs.size + 1) = some (excO C hp.objs.size) := by
    show ((hp.push (kdv_tup [v])).push (excO C hp.objs.size)).get? (hp.objs.size + 1) = _
    heap_get
  have hsz : hp2.objs.size = hp.objs.size + 2 := by
    show ((hp.push (kdv_tup [v])).push (excO C hp.objs.size)).objs.size = _
    rw [Heap.size_push, Heap.size_push]
  have hnx : K.lookup (hp.objs.size + 1) = none := by
    cases e : K.lookup (hp.objs.size + 1) with
    | none => rfl
    | some o => exact absurd (Nat.lt_of_succ_lt (Heap.lt_size (show hp.get? _ = some o from X _ _ e))) (Nat.lt_irrefl _)
  refine call_own F.excBase_ValueError (fun Y => refsVE_contains Y bm hbm) (X _ _ hC) (looks_findIn X T.iC) (fun self => bind_fn X self T.tC) (one_le v) ?_
  refine init_ok (s := ⟨hp2, g, dr, tk, os⟩) T (X.keeps k) (G.keeps k) (B.keeps k) hb (hlim.keeps k) hget hnx (show A.depth + 1 < recursionLimit from hroom) p.p1 p.p2 p.p3 p.p4 p.p5 fun h' tk' t1 dx ⟨k', hx, dn, dne, hns⟩ => ?_
  have old : ∀ b o, hp.get? b = some o → h'.get? b = some o := fun b o e => k' b o (Nat.ne_of_lt (Nat.lt_succ_of_lt (Heap.lt_size e))) (k b o e)
  have dn' : hp2.objs.size ≤ dx := dn
  rw [hsz] at dn'
  exact ⟨rfl, hq h' tk' (hp.objs.size + 1) dx ⟨old, Nat.le_succ _, ⟨_, _, hx, rfl, rfl, rfl, rfl⟩, (by show hp.objs.size ≤ dx; omega), dne, hns⟩⟩
end
end BadX
end PySem
namespace L2
open PySem PySem.Spec PyProof.Rows
theorem relO_one {v : V} {v' : Value} (r : RelV v v') (fl f : Str) : RelO (List.lookup f [(fl, v)]) (if f = fl then some v' else none) := by
  by_cases hw : f = fl
  · subst hw
    rw [if_pos rfl]
    have q : List.lookup f [(f, v)] = some v := by simp [List.lookup]
    rw [q]
    exact r
  · rw [if_neg hw]
    have qw : (f == fl) = false := by simpa using hw
    have q2 : List.lookup f [(fl, v)] = none := by simp [List.lookup, qw]
    rw [q2]
    trivial
section
variable {X : Cx} {C fI : Addr}
/-- Cls(e), an own error with the one field fl -/
def tMkB (fl : Str) (C : Addr) (ta : TA) : St → Hp → XK → Prop := fun σ H Q => ta σ H fun vs H1 => ∃ v, vs = [v] ∧ ∀ d, H1 d = none → Q (.ref C) (some d) (upd H1 d (.xd [(fl, v)]))
theorem pmk_bad {x par fl : Str} {a : Expr} {ta : TA} {p pos : Pos} {k : Nat} (T : PySem.BadX.Txt X.prog X.K X.mg par fl C fI) (pr : PySem.BadX.Par par) (hm : X.mg x = some (.ref C)) (hr : Room k X.A) (ha : PA X [a] ta) (hg : Gl X x)
    (hdb : (x == ("__debug__" : Str)) = false := by decide)
    (he : starEach (a :: []) X.env = (false, eval a X.env) :: starEach [] X.env := by rfl) (hpl : (backTo pos (starEach [] X.env)).any (·.1) = false := by rfl) :
    PMk X (.Call (.Name x p) [a] [] pos) (tMkB fl C ta) := by
  intro pins s σ H Q I h
  refine wpAny_Call_Name_kw (ld_glob I hg hm ?_ hdb)
  refine PySem.W.callWith_K (h₀ := X.base) I.ok.mod.kin T.kC (thn (ha.run pos pins s σ H _ I h) fun us s1 hh => ?_) he hpl
  obtain ⟨vs, H1, I1, r1, v, ev, q1⟩ := hh
  subst ev
  refine ⟨I1.kIn, ?_⟩
  cases r1 with
  | cons rv rn =>
    rename_i v' us'
    cases rn
    show wpAny _ _ (call (.ref C) [v']) _ _ _
    have hlim := I1.nolimit
    obtain ⟨mb, hb1, hb2⟩ := I1.mod.blt
    have Gn : s1.heap.Ns mainGlobals X.mg := I1.mod.glob.keeps I1.bk
    have Bn : s1.heap.Ns builtinsNs mb := hb1.keeps I1.bk
    have hbs : mb "super" = some (.type "super") := (hb2 _ (by decide +kernel)).trans (by first | boot_by_name | rfl | kernel_rfl)
    obtain ⟨hp, g, dr, tk, os⟩ := s1
    refine wpAny_call (PySem.BadX.made_ok T pr I1.kIn Gn Bn hbs hlim (by have := hr.dp; omega) fun h' tk' e d M => ?_)
    show MkP X pins σ Q (.ref e) ⟨h', g, dr, tk', os⟩
    obtain ⟨oe, fv, hoe, hc, hd, hdat, h1⟩ := M.obj
    have hns := M.ns
    obtain ⟨G', g1, g2⟩ := restrict h' fun b => decide (b ≠ e)
    have gk : ∀ b, b ≠ e → G'.get? b = h'.get? b := fun b hb => g1 b (decide_eq_true hb)
    have ge : G'.get? e = none := g2 e (by simp)
    have old : ∀ b o, hp.get? b = some o → G'.get? b = some o := fun b o q => (gk b (Nat.ne_of_lt (Nat.lt_of_lt_of_le (Heap.lt_size q) M.new))).trans (M.keep b o q)
    have ob : ObjOk X.prog X.w (upd H1 d (.xd [(fl, v)])) G' d (.xd [(fl, v)]) :=
      ⟨_, hns.at (fun o q => (gk d M.dne).trans q), fun f => relO_one rv fl f⟩
    have J : Inv X pins σ (upd H1 d (.xd [(fl, v)])) ⟨G', g, dr, tk', os⟩ := I1.laid (t' := tk') old M.dbig ob
    refine ⟨e, oe, fv, ⟨G', g, dr, tk', os⟩, _, .ref C, some d, rfl, J, fun b o q => ?_, ge, hoe, ⟨hc, hd⟩, hdat, h1, ?_, rfl, I1.bare, raises_own T.exC T.tyC, q1 d (I1.hok.fresh M.dbig)⟩
    · by_cases hb : b = e
      · have q' : G'.get? b = some o := q
        rw [hb, ge] at q'; cases q'
      · exact (gk b hb).symm.trans q
    · rw [upd_ne (Ne.symm M.dne)]
      exact I1.hok.fresh M.new
/-- raise Cls(e) -/
def tRaiseB (fl : Str) (C : Addr) (W : WX) (ta : TA) : TS := fun _ σ H => tMkB fl C ta σ H fun cls d H' => W cls d σ H'
theorem ps_raiseB {x par fl : Str} {a : Expr} {ta : TA} {W : WX} {p pos pos2 : Pos} {k : Nat} (hc : X.calm = true) (T : PySem.BadX.Txt X.prog X.K X.mg par fl C fI) (pr : PySem.BadX.Par par) (hm : X.mg x = some (.ref C)) (hr : Room k X.A) (tk : Takes X W) (ha : PA X [a] ta) (hg : Gl X x)
    (hdb : (x == ("__debug__" : Str)) = false := by decide)
    (he : starEach (a :: []) X.env = (false, eval a X.env) :: starEach [] X.env := by rfl) (hpl : (backTo pos (starEach [] X.env)).any (·.1) = false := by rfl) :
    PS X (.Raise (some (.Call (.Name x p) [a] [] pos)) none pos2) (tRaiseB fl C W ta) := ps_raise hc tk (pmk_bad T pr hm hr ha hg hdb he hpl)
end
end L2

set_option Elab.async false
set_option linter.all false
set_option maxRecDepth 100000
set_option maxHeartbeats 4000000
namespace Ash
open PySem PySem.Spec PyProof.Rows L2
abbrev topS (i : Nat) : Stmt := PySem.Challenge.pw_asofhall_k14_whole_answers_and_support.main.body.getD i (.Pass ⟨0, 0, 0, 0⟩)
/-- a def of the top by its name, with its promise -/
structure Cal (P : Program) (w : World) (K : PySem.W.Frag) (mg : Str → Option Value) (base : Heap) (CX : CXT) (x : Str) (k : Nat) (ps : List Str) (sp : Sp) : Prop where
  ex : ∃ f fd, mg x = some (.ref f) ∧ PySem.W.keepIn K (.ref f) = true ∧ Binds K fd ps [] ∧ FnOk P w K mg base CX k f fd ps sp
section
variable {X : Cx} {CX : CXT} {k j : Nat} {ps : List Str} {sp : Sp} {E : XK} {x : Str} {p pos : Pos} {e : Expr} {es : List Expr} {t : TA}
theorem pe_cal (G : Cal X.prog X.w X.K X.mg X.base CX x k ps sp) (hr : Room k X.A) (hx : Passes CX X E) (ha : PA X (e :: es) t) (hg : Gl X x := by rfl)
    (hdb : (x == ("__debug__" : Str)) = false := by decide) (he : starEach (e :: es) X.env = (false, eval e X.env) :: starEach es X.env := by rfl) (hpl : (backTo pos (starEach es X.env)).any (·.1) = false := by rfl) :
    PE X (.Call (.Name x p) (e :: es) [] pos) (tCall sp [] E t) := by
  obtain ⟨f, fd, hm, hk, hb, F⟩ := G.ex
  exact pe_call F hr hg hm hk hb .nil hx ha hdb he hpl
theorem pe_calS {E : L2.St → XK} (G : Cal X.prog X.w X.K X.mg X.base CX x k ps sp) (hr : Room k X.A) (hx : ∀ σ, PassesAt CX X σ (E σ)) (ha : PA X (e :: es) t) (hg : Gl X x := by rfl)
    (hdb : (x == ("__debug__" : Str)) = false := by decide) (he : starEach (e :: es) X.env = (false, eval e X.env) :: starEach es X.env := by rfl) (hpl : (backTo pos (starEach es X.env)).any (·.1) = false := by rfl) :
    PE X (.Call (.Name x p) (e :: es) [] pos) (tCallSD sp [] E t) := by
  obtain ⟨f, fd, hm, hk, hb, F⟩ := G.ex
  exact pe_callSD F hr hg hm hk hb .nil hx ha hdb he hpl
/-- a class by its name, with its __init__'s promise -/
structure Mak (P : Program) (w : World) (K : PySem.W.Frag) (mg : Str → Option Value) (base : Heap) (CX : CXT) (x : Str) (C : Addr) (k : Nat) (ps : List Str) (sp : Sp) : Prop where
  ex : ∃ f fd, Mk K C f ∧ mg x = some (.ref C) ∧ Binds K fd ps [] ∧ FnOk P w K mg base CX k f fd ps sp
theorem pe_mak {C : Addr} (G : Mak X.prog X.w X.K X.mg X.base CX x C k ps sp) (hr : Room (k + 1) X.A) (hx : Passes CX X E) (ha : PA X (e :: es) t) (hg : Gl X x := by rfl)
    (hdb : (x == ("__debug__" : Str)) = false := by decide) (he : starEach (e :: es) X.env = (false, eval e X.env) :: starEach es X.env := by rfl) (hpl : (backTo pos (starEach es X.env)).any (·.1) = false := by rfl) :
    PE X (.Call (.Name x p) (e :: es) [] pos) (tMake C sp [] E t) := by
  obtain ⟨f, fd, M, hm, hb, F⟩ := G.ex
  exact pe_make M F hr hg hm hb .nil hx ha hdb he hpl
/-- int(n) of an int -/
theorem call_intI : CallR X (.type "int") (fun xs H Q => ∃ i, xs = [.int i] ∧ Q (.int i) H) := by
  intro pins s σ H xs us Q I r h
  exact call_int1 pins s σ H xs us Q I r (.inl h)
end
/-- what is wanted of an exception at any slots of the def -/
def WEl (X : Cx) (W : WX) : XK := fun cls d H => ∀ σ : L2.St, σ.length = X.N.length → W cls d σ H
theorem passW {X : Cx} {W : WX} (tk : Takes X W) : Passes (L2.CX X.prog X.w) X (WEl X W) := fun _ σ _ _ e s' I c => tk e s' (XE.of_call I (fun cls d H' h => h σ I.len) c)
theorem passE {X : Cx} {E : XK} (tk : Takes X (fun cls d _ H => E cls d H)) : Passes (L2.CX X.prog X.w) X E := passes_call tk fun _ _ _ _ h => h
/-- a method of a class, with its promise -/
structure Met (P : Program) (w : World) (K : PySem.W.Frag) (mg : Str → Option Value) (base : Heap) (CX : CXT) (C : Addr) (m : Str) (k : Nat) (ps : List Str) (sp : Sp) : Prop where
  ex : ∃ f fd, Meth K C m f ∧ Binds K fd ps [] ∧ FnOk P w K mg base CX k f fd ps sp
/-- a dict comprehension over a walk: as lc_it -/
theorem dc_it {J : It} {n : Nat} {W0 : Hp → Prop} {Y : Nat → Hp → V → Hp → Prop} (wk : Walk J n W0 Y) {g : TG} {tt : TT} {tk tv : TE} {vs : List Nat} {σ : L2.St} {H1 : Hp} {D : Addr} {Qd : Hp → Prop} (Pv : Nat → Hp → Prop) (h0 : Pv 0 (upd H1 D (.dK []))) (hG : ∀ i H, i ≤ n → Pv i H → W0 H)
    (hs : ∀ i x H H', i < n → Pv i H → Y i H x H' → g x (wipe σ vs) H' fun σ2 H2 => wipe σ2 vs = wipe σ vs ∧ tt σ2 H2 fun b H3 =>
      if b = true then tk σ2 H3 fun y H4 => tv σ2 H4 fun z H5 => ∃ kvs k, y = kV k ∧ H5 D = some (.dK kvs) ∧ kvs.length < sizeLine ∧ Pv (i + 1) (upd H5 D (.dK (putK kvs k z))) else Pv (i + 1) H3) (hd : ∀ H, Pv n H → Qd H) :
    ∃ W : Nat → Nat → Hp → Prop, (∃ m, W 0 m (upd H1 D (.dK []))) ∧ ∀ i m H, W i m H →
      (J.stop i H ∧ Qd H) ∨ (J.go i H ∧ ∃ Nx : Hp → Prop, (∀ H', Nx H' → ∃ m', m' < m ∧ W (i + 1) m' H') ∧ ∀ x H', J.yld i H x H' → g x (wipe σ vs) H' fun σ2 H2 => wipe σ2 vs = wipe σ vs ∧ tt σ2 H2 fun b H3 =>
        if b = true then tk σ2 H3 fun y H4 => tv σ2 H4 fun z H5 => ∃ kvs k, y = kV k ∧ H5 D = some (.dK kvs) ∧ kvs.length < sizeLine ∧ Nx (upd H5 D (.dK (putK kvs k z))) else Nx H3) := by
  refine ⟨fun i m H => (m + i = n) ∧ Pv i H, ⟨n, rfl, h0⟩, ?_⟩
  rintro i m H ⟨hm, pv⟩
  by_cases c : i < n
  · refine .inr ⟨wk.goes i H c (hG i H (by omega) pv), Pv (i + 1), fun H' pv' => ⟨m - 1, by omega, by omega, pv'⟩, fun x H' y => ?_⟩
    exact hs i x H H' c pv (wk.yields i H x H' c (hG i H (by omega) pv) y)
  · have : i = n := by omega
    subst this
    exact .inl ⟨wk.stops H (hG _ H (Nat.le_refl _) pv), hd H pv⟩
/-- the built-in names that the top leaves alone -/
structure Blt (mg : Str → Option Value) : Prop where
  len : mg "len" = none
  int : mg "int" = none
  bool : mg "bool" = none
  str : mg "str" = none
  list : mg "list" = none
  tuple : mg "tuple" = none
  dict : mg "dict" = none
  isinstance : mg "isinstance" = none
  all : mg "all" = none
  range : mg "range" = none
  enumerate : mg "enumerate" = none
  sorted : mg "sorted" = none
  min : mg "min" = none
  max : mg "max" = none
  set : mg "set" = none
  sum : mg "sum" = none
  abs : mg "abs" = none
/-- data without depth -/
def flatD : PyData → Bool
  | .none => true
  | .bool _ => true
  | .int _ => true
  | .str x => PyData.strOk x
  | _ => false
theorem flat_lay : ∀ {ds : List PyData}, ds.all flatD = true → PyData.canLayAll0 ds = true ∧ PyData.depthAll ds ≤ 1
  | [], _ => by simp [PyData.canLayAll0, PyData.depthAll]
  | d :: ds, h => by
    rw [List.all_cons, Bool.and_eq_true] at h
    obtain ⟨h1, h2⟩ := flat_lay h.2
    cases d with
    | none => simp [PyData.canLayAll0, PyData.depthAll, PyData.canLay0, PyData.depth, h1, h2]
    | bool b => simp [PyData.canLayAll0, PyData.depthAll, PyData.canLay0, PyData.depth, h1, h2]
    | int b => simp [PyData.canLayAll0, PyData.depthAll, PyData.canLay0, PyData.depth, h1, h2]
    | str b =>
      have hb : PyData.strOk b = true := h.1
      simp [PyData.canLayAll0, PyData.depthAll, PyData.canLay0, PyData.depth, h1, h2, hb]
    | _ => exact absurd h.1 (by simp [flatD])
theorem shaped_flat {ds : List PyData} (h : ds.all flatD = true) : SeqAt.shaped (.tuple ds) = true := by
  obtain ⟨h1, h2⟩ := flat_lay h
  unfold SeqAt.shaped
  simp [PyData.canLay0, PyData.depth, h1]
  omega
/-- all but p stands -/
def But (p : Addr) (H H' : Hp) : Prop := ∀ b o, H b = some o → b ≠ p → H' b = some o
theorem But.refl (p : Addr) (H : Hp) : But p H H := fun _ _ h _ => h
theorem But.trans {p : Addr} {H H1 H2 : Hp} (a : But p H H1) (b : But p H1 H2) : But p H H2 := fun c o h n => b c o (a c o h n) n
theorem But.upd {p : Addr} {H H' : Hp} {o : HO} (a : But p H H') : But p H (L2.upd H' p o) := fun c u h n => by rw [upd_ne n]; exact a c u h n
theorem But.new {p q : Addr} {H H' : Hp} {o : HO} (a : But p H H') (h : H' q = none) (hp : H q = none ∨ q ≠ p := by first | exact .inl ‹_› | exact .inr ‹_›) : But p H (L2.upd H' q o) := fun c u hc n => by
  rw [upd_ne]
  · exact a c u hc n
  · intro z
    subst z
    rw [a c u hc n] at h
    cases h
theorem But.at {p q : Addr} {H H' : Hp} {o : HO} (a : But p H H') (h : H q = none) : But p H (L2.upd H' q o) := fun c u hc n => by
  rw [upd_ne (ne_of_none hc h)]
  exact a c u hc n
theorem sameAt {q : Addr} {H H' : Hp} {o : HO} (a : Same H H') (h : H q = none) : Same H (L2.upd H' q o) := fun c u hc => by
  rw [upd_ne (ne_of_none hc h)]
  exact a c u hc
theorem But.same {p : Addr} {H H' : Hp} (a : Same H H') : But p H H' := fun c o h _ => a c o h
theorem Same.new {q : Addr} {H H' : Hp} {o : HO} (a : Same H H') (h : H' q = none) : Same H (upd H' q o) := fun c u hc => by
  rw [upd_ne (ne_of_none (a c u hc) h)]
  exact a c u hc
theorem But.seq {K : PySem.W.Frag} {p a : Addr} {H H' : Hp} {xs : List V} (e : But p H H') (hn : ∀ o, H p = some o → ∀ ys, o ≠ .lst ys → True) (h : H a = some (.lst xs)) (n : a ≠ p) : SqL K H' a xs := .of (e _ _ h n)
end Ash

set_option Elab.async false
set_option linter.all false
set_option maxRecDepth 100000
set_option maxHeartbeats 4000000
namespace Ash
open PySem PySem.Spec PyProof.Rows L2
open C8 (pss_cut)
/-- the pool of drawn numbers at p, the script's copy at s -/
def PoolAt (H : Hp) (p s : Addr) : Prop := ∃ (ns : List Int) (i c k n : Int), H p = some (.lst [.ref s, .int i, .int c, .int k, .int n]) ∧ H s = some (.lst (ns.map V.int)) ∧ 0 ≤ i ∧ s ≠ p
theorem PoolAt.same {H H' : Hp} {p s : Addr} (h : PoolAt H p s) (e : Same H H') : PoolAt H' p s := by
  obtain ⟨ns, i, c, k, n, h1, h2, h3, h4⟩ := h
  exact ⟨ns, i, c, k, n, e _ _ h1, e _ _ h2, h3, h4⟩
theorem PoolAt.off {H : Hp} {p s q : Addr} {o : HO} (h : PoolAt H p s) (hp : q ≠ p) (hs : q ≠ s) : PoolAt (L2.upd H q o) p s := by
  obtain ⟨ns, i, c, k, n, h1, h2, h3, h4⟩ := h
  exact ⟨ns, i, c, k, n, by rw [upd_ne hp.symm]; exact h1, by rw [upd_ne hs.symm]; exact h2, h3, h4⟩
/-- from H0 to H nothing that was tracked has changed but the pool -/
structure Pl (H0 H : Hp) (p s : Addr) : Prop where
  now : PoolAt H p s
  op : H0 p ≠ none
  os : H0 s ≠ none
  but : But p H0 H
section
variable {H0 H H1 : Hp} {p s q : Addr} {o : HO}
theorem PoolAt.ne (h : PoolAt H p s) : H p ≠ none ∧ H s ≠ none := by
  obtain ⟨ns, i, c, k, n, h1, h2, h3, h4⟩ := h
  rw [h1, h2]
  exact ⟨Option.some_ne_none _, Option.some_ne_none _⟩
theorem Pl.refl (h : PoolAt H p s) : Pl H H p s := ⟨h, h.ne.1, h.ne.2, But.refl p H⟩
theorem Pl.at (h : Pl H0 H p s) (hq : H0 q = none) : Pl H0 (L2.upd H q o) p s :=
  ⟨h.now.off (fun z => h.op (z ▸ hq)) (fun z => h.os (z ▸ hq)), h.op, h.os, h.but.at hq⟩
theorem Pl.keep (h : Pl H0 H p s) {b : Addr} {u : HO} (e : H0 b = some u) (n : b ≠ p) : H b = some u := h.but b u e n
theorem Pl.free (h : Pl H0 H p s) (hq : H q = none) : H0 q = none := by
  cases e : H0 q with
  | none => rfl
  | some u =>
    by_cases hp : q = p
    · exact absurd (hp ▸ hq) h.now.ne.1
    · rw [h.but q u e hp] at hq
      cases hq
theorem Pl.trans (a : Pl H0 H p s) (b : Pl H H1 p s) : Pl H0 H1 p s := ⟨b.now, a.op, a.os, a.but.trans b.but⟩
/-- a new thing -/
theorem Pl.new (h : Pl H0 H p s) (hq : H q = none) : Pl H0 (L2.upd H q o) p s := h.at (h.free hq)
theorem Pl.same (h : Pl H0 H p s) (e : Same H H1) : Pl H0 H1 p s := ⟨h.now.same e, h.op, h.os, fun b u hb n => e b u (h.but b u hb n)⟩
end
def spPool (K : PySem.W.Frag) : Sp := fun vs H Q _ => ∃ (a : Addr) (ns : List Int), vs = [.ref a] ∧ SqL K H a (ns.map V.int) ∧ ∀ p s H', H p = none → PoolAt H' p s → Same H H' → Q (.ref p) H'
def spDraw : Sp := fun vs H Q _ => ∃ (p s : Addr) (many : Int), vs = [.ref p, .int many] ∧ PoolAt H p s ∧ 0 < many ∧ many < 2 ^ 200 ∧ ∀ (d : Int) H', 0 ≤ d → d < many → Pl H H' p s → Q (.int d) H'
section
variable {P : Program} {w : World} {K : PySem.W.Frag} {mg : Str → Option Value} {base : Heap}
abbrev s_l_pool : Stmt := topS 68
theorem sc_l_pool : FnScope ["script"] ["script"] (defScope s_l_pool) := ⟨rfl, rfl, rfl, by decide +kernel, rfl, by decide +kernel, by decide +kernel⟩
theorem ok_pool {f : Addr} {fd : FuncData} (F : Fun K "_law_pool" "_law_pool" s_l_pool f fd) (B : Blt mg) : FnOk P w K mg base CX0 1 f fd ["script"] (spPool K) := by
  refine F.ok sc_l_pool (fun vs H Q E h => ?_) (fun cdv A outer s H vs Q E hr h => ?_)
  · obtain ⟨a, ns, rfl, _⟩ := h
    rfl
  · obtain ⟨a, ns, rfl, hS, k⟩ := h
    refine ⟨_, (pss_one (ps_ret (pe_lst (pa_cons (pe_callTy call_list_of (by rfl) B.list (by decide +kernel) (pa_cons (pv 0) pa_nil)) (pa_cons pe_int (pa_cons pe_int (pa_cons pe_int (pa_cons pe_int pa_nil)))))))), ?_⟩
    refine ⟨_, rfl, _, _, rfl, .inl hS, fun l hl => ⟨(by show 5 ≤ sizeLine; decide), fun p hp => ?_⟩⟩
    have hpl : l ≠ p := fun z => by rw [z, upd_same] at hp; cases hp
    have hp0 : H p = none := by rw [upd_ne (Ne.symm hpl)] at hp; exact hp
    refine k p l _ hp0 ⟨ns, _, _, _, _, upd_same, (by rw [upd_ne hpl, upd_same]), (by decide), hpl⟩ ?_
    exact Same.new (Same.new (Same.refl H) hl) hp
abbrev s_l_draw : Stmt := topS 69
theorem sc_l_draw : FnScope ["pool", "many", "cell", "digit", "number"] ["pool", "many"] (defScope s_l_draw) := ⟨rfl, rfl, rfl, by decide +kernel, rfl, by decide +kernel, by decide +kernel⟩
theorem ok_draw {f : Addr} {fd : FuncData} (F : Fun K "_law_draw" "_law_draw" s_l_draw f fd) (B : Blt mg) : FnOk P w K mg base CX0 1 f fd ["pool", "many"] spDraw := by
  refine F.ok sc_l_draw (fun vs H Q E h => ?_) (fun cdv A outer s H vs Q E hr h => ?_)
  · obtain ⟨p, _, many, rfl, _⟩ := h
    rfl
  · obtain ⟨p, s, many, rfl, hPP, hm, hm2, kk⟩ := h
    obtain ⟨ns, i, c, k, n, hp, hs, hi, hsp⟩ := id hPP
    refine ⟨_, (pss_cons (ps_asg (pe_op op_add (pe_ix ix_list (pv 0) pe_int (fun _ _ => rfl)) pe_int) (pg_sub (pv 0) pe_int set_list))
    (pss_cut (ps_if (PW.pt (pw_and (pt_cmpR op_eq (pe_ix ix_list (pv 0) pe_int (fun _ _ => rfl)) pe_int (nomark _)) (pw_and1 (pt_cmpR op_lt (pe_ix ix_list (pv 0) pe_int (fun _ _ => rfl)) (pe_callB call_len_seq (by rfl) B.len (by decide +kernel) (pa_cons (pe_ix ix_list (pv 0) pe_int (fun _ _ => rfl)) pa_nil)) (nomark _)))))
      (pss_cons (ps_set (i := 2) sc_l_draw.nd rfl (Or.inl rfl) (pe_callB call_abs (by rfl) B.abs (by decide +kernel) (pa_cons (pe_callTy call_intI (by rfl) B.int (by decide +kernel) (pa_cons (pe_ix ix_list (pe_ix ix_list (pv 0) pe_int (fun _ _ => rfl)) (pe_ix ix_list (pv 0) pe_int (fun _ _ => rfl)) (fun _ _ => rfl)) pa_nil)) pa_nil)))
      (pss_cons (ps_asg (pe_op op_add (pe_ix ix_list (pv 0) pe_int (fun _ _ => rfl)) pe_int) (pg_sub (pv 0) pe_int set_list))
      (pss_one (ps_if (pt_cmpR op_ge (pv 2) (pe_op op_pow pe_int pe_int) (nomark _))
        (pss_one (ps_asg (pv 2) (pg_sub (pv 0) pe_int set_list)))
        (pss_one (ps_asg (pe_op op_mod (pe_callTy call_intI (by rfl) B.int (by decide +kernel) (pa_cons (pe_op op_add (pe_op op_add (pe_op op_mul (pe_ix ix_list (pv 0) pe_int (fun _ _ => rfl)) pe_int) (pv 2)) pe_int) pa_nil)) pe_int) (pg_sub (pv 0) pe_int set_list)))))))
      pss_nil)
    (pss_cons (ps_if (pt_cmpR op_gt (pe_ix ix_list (pv 0) pe_int (fun _ _ => rfl)) pe_int (nomark _))
      (pss_cons (ps_set (i := 3) sc_l_draw.nd rfl (Or.inl rfl) (pe_op op_mod (pe_callTy call_intI (by rfl) B.int (by decide +kernel) (pa_cons (pe_ix ix_list (pv 0) pe_int (fun _ _ => rfl)) pa_nil)) (pv 1)))
      (pss_cons (ps_asg (pe_op op_fdivW (pe_callTy call_intI (by rfl) B.int (by decide +kernel) (pa_cons (pe_ix ix_list (pv 0) pe_int (fun _ _ => rfl)) pa_nil)) (pv 1)) (pg_sub (pv 0) pe_int set_list))
      (pss_one (ps_ret (pv 3)))))
      pss_nil)
    (pss_cons (ps_set (i := 4) sc_l_draw.nd rfl (Or.inl rfl) (pe_op op_mod (pe_op op_mul (pe_callTy call_intI (by rfl) B.int (by decide +kernel) (pa_cons (pe_op op_add (pe_op op_add (pe_ix ix_list (pv 0) pe_int (fun _ _ => rfl)) (pe_op op_mul (pe_ix ix_list (pv 0) pe_int (fun _ _ => rfl)) pe_int)) pe_int) pa_nil)) pe_int) pe_int))
    (pss_cons (ps_set (i := 4) sc_l_draw.nd rfl (Or.inl rfl) (pe_op op_mod (pe_callTy call_intI (by rfl) B.int (by decide +kernel) (pa_cons (pe_op op_mul (pv 4) (pe_op op_add (pe_op op_fdiv (pv 4) pe_int) pe_int)) pa_nil)) pe_int))
    (pss_cons (ps_set (i := 4) sc_l_draw.nd rfl (Or.inl rfl) (pe_op op_mod (pe_callTy call_intI (by rfl) B.int (by decide +kernel) (pa_cons (pe_op op_mul (pv 4) (pe_op op_add (pe_op op_fdiv (pv 4) pe_int) pe_int)) pa_nil)) pe_int))
    (pss_cons (ps_asg (pv 4) (pg_sub (pv 0) pe_int set_list))
    (pss_one (ps_ret (pe_op op_mod (pe_callTy call_intI (by rfl) B.int (by decide +kernel) (pa_cons (pe_op op_fdiv (pv 4) pe_int) pa_nil)) (pv 1))))))))))), ?_⟩
    refine ⟨_, rfl, _, _, _, _, rfl, rfl, SqL.of hp, rfl, _, _, rfl, rfl, _, rfl, _, _, _, _, rfl, rfl, hp, rfl, ?_⟩
    refine ⟨fun σ H1 => (∃ cell, σ = [some (.ref p), some (.int many), cell, none, none]) ∧ ∃ (i c k n : Int), H1 p = some (.lst [.ref s, .int i, .int c, .int k, .int n]) ∧ H1 s = some (.lst (ns.map V.int)) ∧ 0 ≤ i ∧ But p H H1, ?_, ?_⟩
    · generalize eH : upd H p (.lst _) = H1
      have hp1 : H1 p = some (.lst [.ref s, .int i, .int c, .int (k + 1), .int n]) := by rw [← eH]; exact upd_same
      have hs1 : H1 s = some (.lst (ns.map V.int)) := by rw [← eH, upd_ne hsp]; exact hs
      have hb1 : But p H H1 := by rw [← eH]; exact (But.refl p H).upd
      clear eH
      refine ⟨_, rfl, _, _, _, _, rfl, rfl, SqL.of hp1, rfl, rfl, _, rfl, ?_⟩
      refine ite2 (fun c2 => ?_) (fun c2 => ?_)
      · refine ⟨_, rfl, _, _, _, _, rfl, rfl, SqL.of hp1, rfl, _, rfl, _, _, _, _, rfl, rfl, SqL.of hp1, rfl, _, _, rfl, .inl (SqL.of hs1), _, _, rfl, rfl, _, rfl, ?_⟩
        refine ite2 (fun c3 => ?_) (fun c3 => ?_)
        · have c3' : i < (ns.map V.int).length := of_decide_eq_true c3
          obtain ⟨j, rfl⟩ : ∃ j : Nat, i = (j : Int) := ⟨i.toNat, by omega⟩
          have hj : j < ns.length := by rw [List.length_map] at c3'; omega
          refine ⟨_, rfl, _, _, _, _, rfl, rfl, SqL.of hp1, rfl, _, rfl, _, _, _, _, rfl, rfl, SqL.of hp1, rfl, _, _, _, V.int ns[j], rfl, rfl, SqL.of hs1, atI_nat (by rw [List.getElem?_map, List.getElem?_eq_getElem hj]; rfl), _, rfl, _, rfl, ?_⟩
          refine ⟨_, rfl, _, _, _, _, rfl, rfl, SqL.of hp1, rfl, _, _, rfl, rfl, _, rfl, _, _, _, _, rfl, rfl, hp1, rfl, ?_⟩
          refine ⟨_, rfl, _, _, rfl, rfl, ⟨by decide, by decide, by decide⟩, _, _, rfl, rfl, _, rfl, ?_⟩
          refine ite2 (fun c4 => ?_) (fun c4 => ?_)
          · refine ⟨_, rfl, _, rfl, _, _, _, _, rfl, rfl, upd_same, rfl, ⟨_, rfl⟩, _, _, _, _, upd_same, (by rw [upd_ne hsp, upd_ne hsp]; exact hs1), (by omega), hb1.upd.upd⟩
          · refine ⟨_, rfl, _, _, _, _, rfl, rfl, SqL.of upd_same, rfl, _, _, rfl, rfl, .inr ⟨by decide, by decide⟩, _, rfl, _, _, rfl, rfl, _, _, rfl, rfl, _, rfl, _, _, rfl, rfl, (by show (0 : Int) < 2147483647; decide), _, rfl, _, _, _, _, rfl, rfl, upd_same, rfl, ⟨_, rfl⟩, _, _, _, _, upd_same, (by rw [upd_ne hsp, upd_ne hsp]; exact hs1), (by omega), hb1.upd.upd⟩
        · exact ⟨⟨_, rfl⟩, _, _, _, _, hp1, hs1, hi, hb1⟩
      · exact ⟨⟨_, rfl⟩, _, _, _, _, hp1, hs1, hi, hb1⟩
    · rintro σ' H1 ⟨⟨cell, rfl⟩, i, c, k, n, hp1, hs1, hi, hb1⟩
      refine ⟨_, rfl, _, _, _, _, rfl, rfl, SqL.of hp1, rfl, _, _, rfl, rfl, _, rfl, ?_⟩
      refine ite2 (fun c2 => ?_) (fun c2 => ?_)
      · refine ⟨_, rfl, _, _, _, _, rfl, rfl, SqL.of hp1, rfl, _, rfl, _, rfl, _, _, rfl, rfl, hm, _, rfl, _, _, _, _, rfl, rfl, SqL.of hp1, rfl, _, rfl, _, rfl, _, _, rfl, rfl, wide_div (b := 200) hm (by omega) (by decide) (by decide), _, rfl, _, _, _, _, rfl, rfl, hp1, rfl, _, rfl, ?_⟩
        refine kk _ _ (Int.emod_nonneg _ (by omega)) (Int.emod_lt_of_pos _ hm) ⟨⟨ns, _, _, _, _, upd_same, (by rw [upd_ne hsp]; exact hs1), hi, hsp⟩, hPP.ne.1, hPP.ne.2, hb1.upd⟩
      · refine ⟨_, rfl, _, _, _, _, rfl, rfl, SqL.of hp1, rfl, _, rfl, _, _, _, _, rfl, rfl, SqL.of hp1, rfl, _, _, rfl, rfl, .inr ⟨by decide, by decide⟩, _, _, rfl, rfl, _, _, rfl, rfl, _, rfl, _, _, rfl, rfl, .inr ⟨by decide, by decide⟩, _, _, rfl, rfl, (by show (0 : Int) < 2147483647; decide), ?_⟩
        generalize ea : (n + k * 104729 + 1) * 48271 % 2147483647 = a
        have a0 : 0 ≤ a := by rw [← ea]; exact Int.emod_nonneg _ (by decide)
        have a1 : a < 2147483647 := by rw [← ea]; exact Int.emod_lt_of_pos _ (by decide)
        refine ⟨_, rfl, _, rfl, _, _, rfl, rfl, ⟨by decide, by decide⟩, _, _, rfl, rfl, _, _, rfl, rfl, .inl ⟨by omega, by omega⟩, _, rfl, _, _, rfl, rfl, (by show (0 : Int) < 2147483629; decide), ?_⟩
        generalize eb : a * (a / 1009 + 69621) % 2147483629 = b
        have b0 : 0 ≤ b := by rw [← eb]; exact Int.emod_nonneg _ (by decide)
        have b1 : b < 2147483629 := by rw [← eb]; exact Int.emod_lt_of_pos _ (by decide)
        refine ⟨_, rfl, _, rfl, _, _, rfl, rfl, ⟨by decide, by decide⟩, _, _, rfl, rfl, _, _, rfl, rfl, .inl ⟨by omega, by omega⟩, _, rfl, _, _, rfl, rfl, (by show (0 : Int) < 2147483399; decide), ?_⟩
        refine ⟨_, rfl, _, rfl, _, _, _, _, rfl, rfl, hp1, rfl, _, rfl, _, _, rfl, rfl, ⟨by decide, by decide⟩, _, rfl, _, rfl, _, _, rfl, rfl, hm, ?_⟩
        refine kk _ _ (Int.emod_nonneg _ (by omega)) (Int.emod_lt_of_pos _ hm) ⟨⟨ns, _, _, _, _, upd_same, (by rw [upd_ne hsp]; exact hs1), hi, hsp⟩, hPP.ne.1, hPP.ne.2, hb1.upd⟩
end
end Ash

set_option Elab.async false
set_option linter.all false
set_option maxRecDepth 100000
set_option maxHeartbeats 4000000
namespace Ash
open PySem PySem.Spec PyProof.Rows L2
open C8 (pss_cut)
/-! ### names -/
def LET : List Nat := [97, 98, 99, 100, 101, 102, 103, 104, 105, 106, 107, 108, 109, 110, 111, 112, 113, 114, 115, 116, 117, 118, 119, 120, 121, 122]
abbrev abc : Str := "abcdefghijklmnopqrstuvwxyz"
theorem abc_let : abc.cps.toList = LET := by decide +kernel
theorem abc_size : abc.cps.size = 26 := by decide +kernel
/-- a name: 1 to 8 letters -/
def IsNm (z : Str) : Prop := 1 ≤ z.length ∧ z.length ≤ 8 ∧ ∀ c ∈ z.cps.toList, c ∈ LET
theorem let_small : ∀ c ∈ LET, c < 0x110000 := by decide
theorem nm_ok {z : Str} (h : IsNm z) : PyData.strOk z = true := by
  unfold PyData.strOk
  rw [← Array.all_toList, List.all_eq_true]
  exact fun c hc => decide_eq_true (let_small c (h.2.2 c hc))
theorem append_length (a b : Str) : (a ++ b).length = a.length + b.length := by
  show (a.cps ++ b.cps).size = a.cps.size + b.cps.size
  rw [Array.size_append]
theorem append_list (a b : Str) : (a ++ b).cps.toList = a.cps.toList ++ b.cps.toList := by
  show (a.cps ++ b.cps).toList = _
  rw [Array.toList_append]
theorem one_nm {c : Nat} (h : c ∈ LET) : IsNm ⟨#[c]⟩ := ⟨Nat.le_refl 1, (by show 1 ≤ 8; decide), fun d hd => by
  have e : d = c := by simpa using hd
  rw [e]
  exact h⟩
theorem inV_str {z : Str} : ∀ {l : List Str}, inV (.str z) (l.map V.str) = decide (z ∈ l)
  | [] => by simp [inV]
  | a :: l => by
    have ih := inV_str (z := z) (l := l)
    unfold inV at ih ⊢
    rw [List.map_cons, List.any_cons, ih]
    show ((a == z) || decide (z ∈ l)) = decide (z ∈ a :: l)
    by_cases h : a = z
    · subst h
      simp
    · have h' : ¬ z = a := fun q => h q.symm
      by_cases h2 : z ∈ l <;> simp [h, h', h2]
theorem flat_strs (l : List Str) : (l.map V.str).all flatV = true := by
  induction l with
  | nil => rfl
  | cons a l ih =>
    rw [List.map_cons, List.all_cons, ih]
    rfl
theorem sub_len {α : Type} [DecidableEq α] : ∀ {l m : List α}, l.Nodup → (∀ x ∈ l, x ∈ m) → l.length ≤ m.length
  | [], m, _, _ => Nat.zero_le _
  | a :: l, m, hn, h => by
    obtain ⟨h1, h2⟩ := List.nodup_cons.mp hn
    have ha : a ∈ m := h a List.mem_cons_self
    have ih := sub_len (l := l) (m := m.erase a) h2 fun x hx => (List.mem_erase_of_ne (fun z => h1 (by rw [← z]; exact hx))).mpr (h x (List.mem_cons_of_mem _ hx))
    rw [List.length_erase_of_mem ha] at ih
    have : 0 < m.length := List.length_pos_of_mem ha
    rw [List.length_cons]
    omega
theorem atI_natC {α : Type} {xs : List α} {j : Nat} (h : j < xs.length) : atI xs (j : Int) = some xs[j] := by
  unfold atI ixN
  rw [if_pos (by omega), if_pos (by omega), Option.bind_some, Int.toNat_natCast]
  exact List.getElem?_eq_getElem h
theorem let_strs : (LET.map fun c => (⟨#[c]⟩ : Str)).Nodup := by decide +kernel
theorem not_all {l : List Str} (hl : l.length ≤ 25) (h : ∀ c ∈ LET, (⟨#[c]⟩ : Str) ∈ l) : False := by
  have := sub_len let_strs (m := l) fun x hx => by
    obtain ⟨c, hc, rfl⟩ := List.mem_map.mp hx
    exact h c hc
  have e : (LET.map fun c => (⟨#[c]⟩ : Str)).length = 26 := by decide +kernel
  omega
def spNames : Sp := fun vs H Q _ => ∃ (p s : Addr) (many : Int), vs = [.ref p, .int many] ∧ PoolAt H p s ∧ 0 ≤ many ∧ many ≤ 25 ∧
  ∀ (q : Addr) (l : List Str) H', H q = none → H' q = some (.lst (l.map V.str)) → l.length = many.toNat → l.Nodup → (∀ z ∈ l, IsNm z) → Pl H H' p s → Q (.ref q) H'
section
variable {P : Program} {w : World} {K : PySem.W.Frag} {mg : Str → Option Value} {base : Heap}
abbrev CDraw (P : Program) (w : World) (K : PySem.W.Frag) (mg : Str → Option Value) (base : Heap) : Prop := Cal P w K mg base CX0 "_law_draw" 1 ["pool", "many"] spDraw
structure G1 (P : Program) (w : World) (K : PySem.W.Frag) (mg : Str → Option Value) (base : Heap) : Prop where
  law_draw : CDraw P w K mg base
/-- the words of the wordings -/
def WORDS : List Str := ["last", "at", "now", "next", "or", "to", "from", "number"]
theorem words_nm : ∀ z ∈ WORDS, IsNm z := fun z hz => by
  have q : ∀ z ∈ WORDS, (1 ≤ z.length ∧ z.length ≤ 8) ∧ (z.cps.toList.all fun c => decide (c ∈ LET)) = true := by decide +kernel
  obtain ⟨⟨h1, h2⟩, h3⟩ := q z hz
  exact ⟨h1, h2, fun c hc => of_decide_eq_true (List.all_eq_true.mp h3 c hc)⟩
theorem joinL_one : ∀ cs : List Nat, TL.joinL [] (cs.map fun c => [c]) = cs
  | [] => rfl
  | [c] => rfl
  | c :: d :: r => by
    show [c] ++ ([] ++ TL.joinL [] ((d :: r).map fun c => [c])) = _
    rw [joinL_one (d :: r)]
    rfl
theorem join_one (cs : List Nat) : (Txt.join "" (cs.map fun c => (⟨#[c]⟩ : Str))).cps.toList = cs := by
  have e := TL.tl_join "" (cs.map fun c => (⟨#[c]⟩ : Str))
  have e2 : (cs.map fun c => (⟨#[c]⟩ : Str)).map TL.tl = cs.map fun c => [c] := by
    rw [List.map_map]
    rfl
  rw [e2, show TL.tl ("" : Str) = [] from rfl, joinL_one] at e
  exact (congrArg TL.tl (TL.join_eq "" _)).trans e
theorem sum_ones (cs : List Nat) : (((cs.map fun c => (⟨#[c]⟩ : Str)).map (·.length)).sum) = cs.length := by
  induction cs with
  | nil => rfl
  | cons c r ih =>
    rw [List.map_cons, List.map_cons, List.sum_cons, ih, List.length_cons]
    show 1 + r.length = _
    omega
abbrev s_l_names : Stmt := topS 70
theorem sc_l_names : FnScope ["pool", "many", "letters", "words", "names", "k", "name", "letter", "at"] ["pool", "many"] (defScope s_l_names) := ⟨rfl, rfl, rfl, by decide +kernel, rfl, by decide +kernel, by decide +kernel⟩
theorem ok_names {f : Addr} {fd : FuncData} (F : Fun K "_law_names" "_law_names" s_l_names f fd) (B : Blt mg) (G : G1 P w K mg base) : FnOk P w K mg base CX0 2 f fd ["pool", "many"] spNames := by
  refine F.ok sc_l_names (fun vs H Q E h => ?_) (fun cdv A outer s H vs Q E hr h => ?_)
  · obtain ⟨p, _, many, rfl, _⟩ := h
    rfl
  · obtain ⟨p, s0, many, rfl, hP, hm, hm2, kk⟩ := h
    refine ⟨_, (pss_cons (ps_set (i := 2) sc_l_names.nd rfl (Or.inr rfl) pe_str)
    (pss_cons (ps_set (i := 3) sc_l_names.nd rfl (Or.inl rfl) (pe_lst (pa_cons pe_str (pa_cons pe_str (pa_cons pe_str (pa_cons pe_str (pa_cons pe_str (pa_cons pe_str (pa_cons pe_str (pa_cons pe_str pa_nil))))))))))
    (pss_cons (ps_set (i := 4) sc_l_names.nd rfl (Or.inl rfl) (pe_lst pa_nil))
    (pss_cons (ps_for PassesOwn.never rfl (pi_range1 (by rfl) B.range (pa_cons (pv 1) pa_nil)) (pg_name (i := 5) sc_l_names.nd rfl (Or.inl rfl))
      (pss_cons (ps_set (i := 6) sc_l_names.nd rfl (Or.inl rfl) (pe_ix ix_list (pv 3) (pe_cal G.law_draw (hr.mono (by decide)) pass0 (pa_cons (pv 0) (pa_cons pe_int pa_nil))) (fun _ _ => rfl)))
      (pss_cut (ps_if (pt_cmpR op_gt (pe_cal G.law_draw (hr.mono (by decide)) pass0 (pa_cons (pv 0) (pa_cons pe_int pa_nil))) pe_int (nomark _))
        (pss_one (ps_set (i := 6) sc_l_names.nd rfl (Or.inl rfl) (pe_bm PySem.F.plainAttrs_str PySem.F.slot_str_join PySem.F.type_str_join mt_join pe_str (pa_cons (pe_lc (own := [("at", 8)]) (g := gName 8) (tt := tYes) (by rfl) sc_l_names.nd (pi_range1 (by rfl) B.range (pa_cons (pe_op op_add pe_int (pe_cal G.law_draw (hr.mono (by decide)) pass0 (pa_cons (pv 0) (pa_cons pe_int pa_nil)))) pa_nil)) (blkOk_by (own := [("at", 8)]) (N := ["pool", "many", "letters", "words", "names", "k", "name", "letter", "at"]) (sc := defScope s_l_names) (by decide +kernel)) (fun _ _ _ _ _ => (pg_name (i := 8) sc_l_names.nd rfl (Or.inl rfl))) (fun _ _ _ _ _ => pts_nil) (fun _ _ _ _ _ => (pe_ix ix_str (pv 2) (pe_cal G.law_draw (hr.mono (by decide)) pass0 (pa_cons (pv 0) (pa_cons pe_int pa_nil))) (fun _ _ => rfl)))) pa_nil))))
        pss_nil)
      (pss_cut (ps_for PassesOwn.never rfl (pi_str (pv 2)) (pg_name (i := 7) sc_l_names.nd rfl (Or.inl rfl))
        (pss_one (ps_if (PW.pt (pw_and (pt_cmpR op_in_seq (pv 6) (pv 4) rfl) (pw_and1 (pt_cmpR op_notIn_seq (pv 7) (pv 4) rfl))))
          (pss_one (ps_set (i := 6) sc_l_names.nd rfl (Or.inl rfl) (pv 7)))
          pss_nil)))
      (pss_one (ps_expr (pe_bm PySem.F.plainAttrs_list PySem.F.slot_list_append PySem.F.type_list_append mt_append (pv 4) (pa_cons (pv 6) pa_nil))))))))
    (pss_one (ps_ret (pv 4))))))), ?_⟩
    refine ⟨(by show 8 ≤ sizeLine; decide), fun lw hlw => ⟨(by show 0 ≤ sizeLine; decide), fun q hq => ?_⟩⟩
    have PW : Pl H (upd H lw (.lst [.str "last", .str "at", .str "now", .str "next", .str "or", .str "to", .str "from", .str "number"])) p s0 := (Pl.refl hP).at hlw
    have hw0 : (upd H lw (.lst [.str "last", .str "at", .str "now", .str "next", .str "or", .str "to", .str "from", .str "number"])) lw = some (.lst (WORDS.map V.str)) := upd_same
    generalize (upd H lw (.lst [.str "last", .str "at", .str "now", .str "next", .str "or", .str "to", .str "from", .str "number"])) = HW at PW hw0 hq ⊢
    have hqH : H q = none := PW.free hq
    have lwp : lw ≠ p := fun z => hP.ne.1 (z ▸ hlw)
    have lwq : lw ≠ q := ne_of_none hw0 hq
    have hr1 : Room 1 _ := hr.mono (by decide)
    refine ⟨_, rfl, _, rfl, (by omega), (by omega), for_range (n := many.toNat) (fun i σ H1 => (∃ a b c d, σ = [some (.ref p), some (.int many), some (.str abc), some (.ref lw), some (.ref q), a, b, c, d]) ∧ ∃ l : List Str, H1 q = some (.lst (l.map V.str)) ∧ l.length = i ∧ l.Nodup ∧ (∀ z ∈ l, IsNm z) ∧ Pl H H1 p s0 ∧ H1 lw = some (.lst (WORDS.map V.str))) ?_ ?_ ?_⟩
    · exact ⟨⟨_, _, _, _, rfl⟩, [], upd_same, rfl, List.nodup_nil, (fun z hz => nomatch hz), PW.new hq, by rw [upd_ne lwq]; exact hw0⟩
    · rintro i σ H1 hi ⟨⟨a, b, c, d, rfl⟩, l, hl, hlen, hnd, hnm, PL, hw1⟩
      have hqp : q ≠ p := fun z => hP.ne.1 (z ▸ hqH)
      refine ⟨_, rfl, _, rfl, p, s0, 8, rfl, PL.now, (by decide), (by decide), fun x H2 x0 x8 P2 => ?_⟩
      obtain ⟨g, rfl⟩ : ∃ g : Nat, x = (g : Int) := ⟨x.toNat, by omega⟩
      have hg : g < WORDS.length := by show g < 8; omega
      have hw2 := P2.keep hw1 lwp
      refine ⟨_, _, _, .str WORDS[g], rfl, rfl, SqL.of hw2, atI_nat (by rw [List.getElem?_map, List.getElem?_eq_getElem hg]; rfl), ?_⟩
      -- name
      refine ⟨fun σ H3 => (∃ k nm d e, σ = [some (.ref p), some (.int many), some (.str abc), some (.ref lw), some (.ref q), k, some (.str nm), d, e] ∧ IsNm nm) ∧ Pl H1 H3 p s0, ?_, ?_⟩
      · refine ⟨_, rfl, p, s0, 3, rfl, P2.now, (by decide), (by decide), fun y H3 y0 y3 P3 => ⟨_, _, rfl, rfl, _, rfl, ?_⟩⟩
        have P13 := P2.trans P3
        refine ite2 (fun c2 => ?_) (fun c2 => ?_)
        · refine ⟨rfl, _, rfl, p, s0, 8, rfl, P3.now, (by decide), (by decide), fun n H4 n0 n8 P4 => ⟨_, _, rfl, rfl, _, rfl, (by omega), (by omega), fun D hD => ?_⟩⟩
          have P14 := P13.trans P4
          refine lc_range (n := (1 + n).toNat) (fun j H5 => (∃ cs : List Nat, H5 D = some (.lst ((cs.map fun c => (⟨#[c]⟩ : Str)).map V.str)) ∧ cs.length = j ∧ ∀ c ∈ cs, c ∈ LET) ∧ Pl H1 H5 p s0) ⟨⟨[], upd_same, rfl, fun c hc => nomatch hc⟩, P14.new hD⟩ ?_ ?_
          · rintro j H5 hj ⟨⟨cs, hD5, hcs, hcl⟩, P5⟩
            refine ⟨rfl, _, rfl, _, rfl, p, s0, 26, rfl, P5.now, (by decide), (by decide), fun x H6 x0' x26 P6 => ?_⟩
            obtain ⟨g2, rfl⟩ : ∃ g : Nat, x = (g : Int) := ⟨x.toNat, by omega⟩
            have hg2 : g2 < LET.length := by show g2 < 26; omega
            have Dp : D ≠ p := fun z => P14.now.ne.1 (z ▸ hD)
            refine ⟨_, _, LET[g2], rfl, rfl, (by show abc.cps.size ≤ sizeLine; rw [abc_size]; decide), (by rw [abc_let]; exact atI_natC hg2), _, P6.keep hD5 Dp, (by rw [List.length_map, List.length_map]; exact small1000 (by omega)), ⟨cs ++ [LET[g2]], ?_, by rw [List.length_append, hcs]; rfl, fun c hc => ?_⟩, (P5.trans P6).at (P14.free hD)⟩
            · rw [upd_same, List.map_append, List.map_append]
              rfl
            · rcases List.mem_append.mp hc with h | h
              · exact hcl c h
              · rw [List.mem_singleton.mp h]
                exact List.getElem_mem hg2
          · rintro H5 ⟨⟨cs, hD5, hcs, hcl⟩, P5⟩
            have e1 := join_one cs
            refine ⟨_, D, _, rfl, rfl, .inl (SqL.of hD5), ?_, ?_⟩
            · rw [sum_ones, List.length_map]
              show cs.length + cs.length * 0 ≤ _
              omega
            · refine ⟨⟨_, _, _, _, rfl, ?_⟩, P5⟩
              have hz : (Txt.join "" (cs.map fun c => (⟨#[c]⟩ : Str))).length = cs.length := by
                show (Txt.join "" (cs.map fun c => (⟨#[c]⟩ : Str))).cps.size = _
                rw [← Array.length_toList, e1]
              exact ⟨by rw [hz]; omega, by rw [hz]; omega, fun c hc => hcl c (by rw [← e1]; exact hc)⟩
        · exact ⟨⟨_, _, _, _, rfl, words_nm _ (List.getElem_mem hg)⟩, P13⟩
      rintro σ H3 ⟨⟨k, nm, d, e, rfl, hN⟩, P3⟩
      -- another name
      have hq3 : H3 q = some (.lst (l.map V.str)) := P3.keep hl hqp
      refine ⟨fun σ H4 => (∃ k nm d e, σ = [some (.ref p), some (.int many), some (.str abc), some (.ref lw), some (.ref q), k, some (.str nm), d, e] ∧ IsNm nm ∧ nm ∉ l) ∧ H4 = H3, ?_, ?_⟩
      · refine ⟨_, rfl, _, rfl, for_it (walk_str (z := abc)) (fun j σ H4 => (∃ nm d, σ = [some (.ref p), some (.int many), some (.str abc), some (.ref lw), some (.ref q), k, some (.str nm), d, e] ∧ IsNm nm ∧ (nm ∈ l → ∀ (i : Nat) (x : Nat), i < j → LET[i]? = some x → (⟨#[x]⟩ : Str) ∈ l)) ∧ H4 = H3) ?_ (fun _ _ _ _ _ => trivial) ?_ ?_⟩
        · exact ⟨⟨_, _, rfl, hN, fun _ i x hi => by omega⟩, rfl⟩
        · rintro j x σ H4 H5 hj ⟨⟨nm, d, rfl, hN, hall⟩, rfl⟩ ⟨rfl, c, hc, rfl⟩
          have hc' : LET[j]? = some c := by
            rw [← abc_let, Array.getElem?_toList]
            exact hc
          have hcm : c ∈ LET := List.mem_of_getElem? hc'
          refine ⟨_, rfl, _, rfl, _, _, rfl, .inl (SqL.of hq3), rfl, flat_strs l, _, rfl, ?_⟩
          rw [if_neg (by decide), inV_str]
          refine ite2 (fun c2 => ?_) (fun c2 => ?_)
          · have c2 : nm ∈ l := of_decide_eq_true c2
            refine ⟨_, rfl, _, rfl, _, _, rfl, .inl (SqL.of hq3), rfl, flat_strs l, _, rfl, ?_⟩
            rw [if_pos rfl, inV_str]
            refine ite2 (fun c3 => ?_) (fun c3 => ?_)
            · have c3 : ¬ (⟨#[c]⟩ : Str) ∈ l := by simpa using c3
              exact ⟨_, rfl, ⟨_, _, rfl, one_nm hcm, fun z => absurd z c3⟩, rfl⟩
            · have c3 : (⟨#[c]⟩ : Str) ∈ l := by simpa using c3
              refine ⟨⟨_, _, rfl, hN, fun _ i x hi hx => ?_⟩, rfl⟩
              by_cases hij : i < j
              · exact hall c2 i x hij hx
              · have : i = j := by omega
                subst this
                rw [hc'] at hx
                cases hx
                exact c3
          · have c2 : ¬ nm ∈ l := by simpa using c2
            exact ⟨⟨_, _, rfl, hN, fun z => absurd z c2⟩, rfl⟩
        · rintro σ H4 ⟨⟨nm, d, rfl, hN, hall⟩, rfl⟩
          refine ⟨⟨_, _, _, _, rfl, hN, fun hm => ?_⟩, rfl⟩
          have hl25 : l.length ≤ 25 := by omega
          refine not_all hl25 fun c hc => ?_
          obtain ⟨i, hi, e⟩ := List.getElem_of_mem hc
          exact hall hm i c (by show i < abc.cps.size; rw [abc_size]; exact hi) (by rw [List.getElem?_eq_getElem hi, e])
      rintro σ H4 ⟨⟨k, nm, d, e, rfl, hN, hno⟩, rfl⟩
      refine ⟨_, rfl, .inl ⟨rfl, _, SqL.of hq3⟩, _, rfl, q, _, _, rfl, rfl, hq3, (by rw [List.length_map]; exact small1000 (by omega)), ⟨_, _, _, _, rfl⟩, l ++ [nm], ?_, by rw [List.length_append, hlen]; rfl, ?_, fun z hz => ?_, (PL.trans P3).at hqH, ?_⟩
      · rw [upd_same, List.map_append]
        rfl
      · rw [List.nodup_append]
        exact ⟨hnd, by simp, fun a ha b hb z => hno (by rw [← List.mem_singleton.mp hb, ← z]; exact ha)⟩
      · rcases List.mem_append.mp hz with h | h
        · exact hnm z h
        · rw [List.mem_singleton.mp h]
          exact hN
      · rw [upd_ne lwq]
        exact P3.keep hw1 lwp
    · rintro σ H1 ⟨⟨a, b, c, d, rfl⟩, l, hl, hlen, hnd, hnm, PL, hw1⟩
      exact ⟨_, rfl, kk q l H1 hqH hl hlen hnd hnm PL⟩
end
end Ash

set_option Elab.async false
set_option linter.all false
set_option maxRecDepth 100000
set_option maxHeartbeats 4000000
namespace L2
open PySem PySem.Spec PyProof.Rows
/-! ### sets of keys (ints, texts) that can be walked; sorted(set(xs)) -/
/-- the key that a value is -/
def vK : Value → Key
  | .int k _ => .inl k
  | .str x _ => .inr x
  | _ => .inl 0
theorem vK_of {k : Key} {v : Value} (r : RelV (kV k) v) : vK v = k := by
  cases k with
  | inl i =>
    obtain ⟨t, rfl⟩ := r
    rfl
  | inr x =>
    obtain ⟨t, rfl⟩ := r
    rfl
def GoodM (w : World) (e : Int × Value) : Prop := ∃ k, RelV (kV k) e.2 ∧ e.1 = keyH w k
def eK (e : Int × Value) : Key := vK e.2
/-- among the keys -/
def kIn (ks : List Key) (j : Key) : Bool := ks.any fun x => decide (x = j)
theorem kIn_iff {ks : List Key} {j : Key} : kIn ks j = true ↔ j ∈ ks := by
  unfold kIn
  rw [List.any_eq_true]
  constructor
  · rintro ⟨x, hx, e⟩
    rw [← of_decide_eq_true e]
    exact hx
  · intro h
    exact ⟨j, h, decide_eq_true rfl⟩
theorem kIn_next {ks : List Key} {i : Nat} {z : Key} (hz : ks[i]? = some z) (j : Key) : kIn (ks.take (i + 1)) j = (kIn (ks.take i) j || decide (j = z)) := by
  rw [List.take_add_one, hz]
  unfold kIn
  rw [List.any_append]
  congr 1
  by_cases c : j = z
  · subst c
    simp
  · have c' : ¬ z = j := fun q => c q.symm
    simp [c, c']
/-- the set at a: S its members, n their number; it can be walked -/
def SetM (w : World) (h : Heap) (a : Addr) (S : Key → Bool) (n : Nat) : Prop :=
  ∃ o es ep t, h.get? a = some o ∧ o.ExactSet ∧ o.data = .set es ep t ∧ (∀ e ∈ es.toList, GoodM w e) ∧ (es.toList.map eK).Nodup ∧ (∀ k, S k = true ↔ k ∈ es.toList.map eK) ∧
    es.size < scanBound ∧ t.fits es.size = true ∧ es.size = n ∧ Ris t.place.toList ∧ (w.params.followText "set-order" = true ∨ t.led = true)
section
variable {P : Program} {w : World} {h h' : Heap} {a : Addr} {S : Key → Bool} {n : Nat}
theorem SetM.at (R : SetM w h a S n) (k : ∀ o, h.get? a = some o → h'.get? a = some o) : SetM w h' a S n := by
  obtain ⟨o, es, ep, t, ho, r⟩ := R
  exact ⟨o, es, ep, t, k o ho, r⟩
theorem SetM.congr {S' : Key → Bool} (R : SetM w h a S n) (e : ∀ k, S' k = S k) : SetM w h a S' n := by
  rw [show S' = S from funext e]
  exact R
theorem goodM_elems {l : List (Int × Value)} (g : ∀ e ∈ l, GoodM w e) : ElemsOf (mixKind P w) l := fun e he => by
  obtain ⟨k, h1, h2⟩ := g e he
  exact ⟨⟨k, kV_is h1, h2⟩, key_scan h1⟩
theorem goodM_is {e : Int × Value} (g : GoodM w e) (k : Key) : (mixKind P w).is k e.2 = true ↔ eK e = k := by
  obtain ⟨k0, h1, _⟩ := g
  unfold eK
  rw [vK_of h1]
  constructor
  · intro q
    exact (mixKind P w).inj _ _ _ (kV_is h1) q
  · intro q
    rw [← q]
    exact kV_is h1
theorem goodM_mem {l : List (Int × Value)} (g : ∀ e ∈ l, GoodM w e) (k : Key) : k ∈ l.map eK ↔ ∃ e ∈ l, (mixKind P w).is k e.2 = true := by
  rw [List.mem_map]
  constructor
  · rintro ⟨e, he, q⟩
    exact ⟨e, he, (goodM_is (g e he) k).2 q⟩
  · rintro ⟨e, he, q⟩
    exact ⟨e, he, (goodM_is (g e he) k).1 q⟩
end
section
variable {P : Program} {w : World} {A : Around} {E : Value → Shared → Prop} {s : Shared} {a : Addr} {S : Key → Bool} {n : Nat}
theorem setM_tail {g : Bool → Sem Unit} (hg : ∀ (b : Bool) (s₁ : Shared) (Q' : Unit → Shared → Prop), Q' () s₁ → wpAny (model P w) A (g b) Q' E s₁)
    {o : Obj} {es : Array (Int × Value)} {ep : Nat} {t : SetTable} (ho : s.heap.get? a = some o) (hex : o.ExactSet) (hd : o.data = .set es ep t)
    {fs : Array (Int × Value)} {u : SetTable} {S' : Key → Bool} (gf : ∀ e ∈ fs.toList, GoodM w e) (nf : (fs.toList.map eK).Nodup) (mf : ∀ k, S' k = true ↔ k ∈ fs.toList.map eK)
    (bf : fs.size < scanBound) (ff : u.fits fs.size = true) (rf : Ris u.place.toList) (lf : w.params.followText "set-order" = true ∨ u.led = true) {wasDummy : Bool} {R : Option Bool → Shared → Prop}
    (hR : ∀ h', Heap.SameBut a s.heap h' → SetM w h' a S' fs.size → R (some true) { s with heap := h' }) :
    wpAny (model P w) A (do
        storeSet a fs u
        if (!wasDummy && u.tooFull) = true then do
            g (relayAll u fs (SetTable.grown fs.size)).2.2
            storeSet a (relayAll u fs (SetTable.grown fs.size)).1 (relayAll u fs (SetTable.grown fs.size)).2.1
            pure (some true)
          else pure (some true)) R E s := by
  refine wpAny_bind (wpAny_storeSet_of ho hd ?_ (fits_of_scanBound bf))
  have h1 := store_at (es' := fs) (t' := u) ho hd
  have b1 := Heap.SameBut.update s.heap a (Obj.putSet fs u)
  split
  · have pm := relayAll_perm u fs (SetTable.grown fs.size)
    have f2 := relayAll_fits u fs (SetTable.grown fs.size)
    have r2 := relayAll_ris u fs (SetTable.grown fs.size)
    have l2 := relayAll_led u fs (SetTable.grown fs.size)
    generalize relayAll u fs (SetTable.grown fs.size) = Z at pm f2 r2 l2 ⊢
    obtain ⟨gs, u2, gave⟩ := Z
    dsimp only at pm f2 r2 l2 ⊢
    have sz : gs.size = fs.size := by rw [← Array.length_toList, pm.length_eq, Array.length_toList]
    have bg : gs.size < scanBound := by rw [sz]; exact bf
    refine wpAny_bind (hg _ _ _ ?_)
    refine wpAny_bind (wpAny_storeSet_of h1 rfl ?_ (fits_of_scanBound bg))
    have h2 := store_at (es' := gs) (t' := u2) h1 rfl
    refine wpAny_pure (hR _ (b1.trans (Heap.SameBut.update _ a _)) ?_)
    exact ⟨_, gs, _, u2, h2, hex, rfl, fun e he => gf e (pm.mem_iff.mp he), (pm.map eK).nodup_iff.mpr nf, fun k => (mf k).trans (pm.map eK).mem_iff.symm, bg, f2, sz, r2, lf.imp id fun z => by rw [l2]; exact z⟩
  · exact wpAny_pure (hR _ b1 ⟨_, fs, _, u, h1, hex, rfl, gf, nf, mf, bf, ff, rfl, rf, lf⟩)
theorem setM_add {k : Key} {v : Value} {Q : Bool → Shared → Prop} (rv : RelV (kV k) v) (R : SetM w s.heap a S n) (room : n + 1 < scanBound)
    (hQ : ∀ h', Heap.SameBut a s.heap h' → SetM w h' a (fun j => S j || decide (j = k)) (if S k = true then n else n + 1) → Q (!S k) { s with heap := h' }) :
    wpAny (model P w) A (setAddHashed a v ((mixKind P w).hash k)) Q E s := by
  obtain ⟨o, es, ep, t, ho, hex, hd, g, nd, hm, hb, hf, hn, hr, hl⟩ := R
  have hkey : (mixKind P w).is k v = true := kV_is rv
  have hsc : v.scannable = true := key_scan rv
  have hel : ElemsOf (mixKind P w) es.toList := goodM_elems g
  unfold setAddHashed setAddHashedIn
  refine wpAny_holding (wpAny_bind (wpAny_setState_of ho hd hf ?_))
  dsimp only
  rw [byScan_of hsc hb hel]
  simp only [↓reduceIte]
  unfold setAddByScan
  refine wpAny_bind ?_
  refine wpAny_bind (wpAny_rule ?_)
  refine wpAny_bind (wpAny_setScan_of hkey ho hd hf hel ?_)
  cases hfi : List.findIdx? (fun e => (mixKind P w).is k e.2) es.toList with
  | some j =>
    dsimp only
    obtain ⟨hj, pj, _⟩ := List.findIdx?_eq_some_iff_getElem.mp hfi
    have hSk : S k = true := (hm k).2 ((goodM_mem (P := P) g k).2 ⟨es.toList[j], List.getElem_mem hj, pj⟩)
    refine wpAny_pure (wpAny_pure ?_)
    have q := hQ s.heap (Heap.SameBut.refl a s.heap) ⟨o, es, ep, t, ho, hex, hd, g, nd, fun i => by
      rw [Bool.or_eq_true, decide_eq_true_eq, ← hm i]
      exact ⟨fun z => z.elim id (fun e => e ▸ hSk), .inl⟩, hb, hf, by rw [if_pos hSk]; exact hn, hr, hl⟩
    rw [hSk] at q
    exact q
  | none =>
    dsimp only
    have hnk : k ∉ es.toList.map eK := fun z => by
      obtain ⟨e, he, q⟩ := (goodM_mem (P := P) (w := w) g k).1 z
      have c := List.findIdx?_eq_none_iff.mp hfi e he
      rw [q] at c
      cases c
    have hSk : S k = false := Bool.eq_false_iff.mpr fun q => hnk ((hm k).1 q)
    have hgw : ∀ (b : Bool) {s₁ : Shared} {Q' : Unit → Shared → Prop}, Q' () s₁ → wpAny (model P w) A (match b with | true => rule "set.scan.the-table-gave-way" | false => pure ()) Q' E s₁ :=
      fun b s₁ Q' q => by cases b <;> first | exact wpAny_pure q | exact wpAny_rule q
    have pm := layNew_perm t es ((mixKind P w).hash k) v
    have f1 := layNew_fits t es ((mixKind P w).hash k) v
    have r1 := layNew_ris t es ((mixKind P w).hash k) v hr
    have l1 := layNew_led t es ((mixKind P w).hash k) v
    generalize layNew t es ((mixKind P w).hash k) v = Z at pm f1 r1 l1 ⊢
    obtain ⟨fs, t1, wasDummy, gave⟩ := Z
    dsimp only at pm f1 r1 l1 ⊢
    rw [Array.toList_push] at pm
    have pc : fs.toList.Perm (((mixKind P w).hash k, v) :: es.toList) := pm.trans (List.perm_append_singleton _ _)
    have pk : (fs.toList.map eK).Perm (k :: es.toList.map eK) := by
      have z := pc.map eK
      rw [List.map_cons, show eK ((mixKind P w).hash k, v) = k from vK_of rv] at z
      exact z
    have gf : ∀ e ∈ fs.toList, GoodM w e := fun e he => by
      rcases List.mem_cons.mp (pc.mem_iff.mp he) with z | z
      · rw [z]
        exact ⟨k, rv, rfl⟩
      · exact g e z
    have nf : (fs.toList.map eK).Nodup := pk.nodup_iff.mpr (List.nodup_cons.mpr ⟨hnk, nd⟩)
    have mf : ∀ i, (S i || decide (i = k)) = true ↔ i ∈ fs.toList.map eK := fun i => by
      rw [Bool.or_eq_true, decide_eq_true_eq, hm i, pk.mem_iff, List.mem_cons]
      exact Or.comm
    have sz : fs.size = n + 1 := by rw [← Array.length_toList, pc.length_eq, List.length_cons, Array.length_toList, hn]
    have bf : fs.size < scanBound := by rw [sz]; exact room
    have lf : w.params.followText "set-order" = true ∨ t1.led = true := hl.imp id fun z => by rw [l1]; exact z
    have fin : ∀ h', Heap.SameBut a s.heap h' → SetM w h' a (fun j => S j || decide (j = k)) fs.size → Q true { s with heap := h' } := fun h' sb r => by
      have q := hQ h' sb
      rw [hSk] at q
      rw [sz] at r
      exact q r
    refine wpAny_bind (hgw _ ?_)
    split
    · refine wpAny_bind ?_
      rw [hashByValue_scannable 8 hsc]
      refine wpAny_pure ?_
      refine setM_tail ?_ ho hex hd gf nf mf bf ?_ ?_ ?_ ?_
      · intro b s₁ Q' q; cases b <;> first | exact wpAny_pure q | exact wpAny_rule q
      · first | (split <;> first | exact f1 | exact SetTable.fits_plain_off f1) | exact f1
      · first | (split <;> exact r1) | exact r1
      · first | (split <;> exact lf) | exact lf
      · intro h' sb r; dsimp only; exact wpAny_pure (fin h' sb r)
    · refine wpAny_bind (wpAny_pure ?_)
      simp only [↓reduceIte]
      refine setM_tail ?_ ho hex hd gf nf mf bf f1 r1 lf ?_
      · intro b s₁ Q' q; cases b <;> first | exact wpAny_pure q | exact wpAny_rule q
      · intro h' sb r; dsimp only; exact wpAny_pure (fin h' sb r)
theorem setM_new {h : Heap} {a : Addr} (ho : h.get? a = some { cls := .type "set", dict := none, data := .set #[] 0 (.fresh 0 0 (!w.params.followText "set-order")) }) : SetM w h a (fun _ => false) 0 :=
  ⟨_, #[], 0, _, ho, ⟨rfl, rfl, rfl⟩, rfl, (fun e he => by simp at he), (by simp), (fun k => by simp), (by decide), (by rfl), rfl, List.Pairwise.nil, by
    show _ ∨ (!w.params.followText "set-order") = true
    cases w.params.followText "set-order"
    · exact .inr rfl
    · exact .inl rfl⟩
theorem setM_update {I : Addr} {fp wr : List Addr} {G : Array GenState → Array GenState → Prop} {n : Nat} {Pv : Nat → Value → Prop} {St : Nat → Shared → Prop} {R : Result → Shared → Prop}
    (W : WalksS P w A.in1 I fp wr G n Pv St) (S : Addr) (hSf : S ∉ fp) (ks : List Key) (hn : n = ks.length) (hb : ks.length + 1 < scanBound) (hval : ∀ i v, Pv i v → ∃ k, ks[i]? = some k ∧ RelV (kV k) v) :
    ∀ (m i : Nat) (s : Shared), n - i = m → i ≤ n → St i s → (∃ c, c ≤ i ∧ SetM w s.heap S (kIn (ks.take i)) c) →
      (∀ s' c, Moved (S :: wr) G s s' → c ≤ n → SetM w s'.heap S (kIn ks) c → R (.ok (.ret .none)) s') →
      codeAny (model P w) A (.builtin "set.update.loop" ⟨[.ref S, .ref I], []⟩) R s := by
  have hSw : S ∉ wr := fun h => hSf (W.sub _ h)
  have sub : ∀ b ∈ wr, b ∈ S :: wr := fun b hb => List.mem_cons_of_mem _ hb
  intro m
  induction m with
  | zero =>
    intro i s hm hi hst ⟨c, hc, hS⟩ hR
    obtain rfl : i = n := by omega
    refine codeAny_builtin F.entry_set_update_loop ?_
    rw [Around.under_plainId F.plain_set_update_loop _]
    show wpAny _ A.in1 (pyNext (.ref I) >>= _) _ _ s
    refine wpAny_bind (W.done s _ _ hst fun s' mv => ?_)
    show wpAny _ A.in1 (ret Value.none) _ _ s'
    rw [List.take_of_length_le (show ks.length ≤ i by omega)] at hS
    exact wpAny_pure (hR s' c (mv.mono sub) hc (hS.at fun o e => mv.heap S o hSw e))
  | succ m ih =>
    intro i s hm hi hst ⟨c, hc, hS⟩ hR
    have hlt : i < n := by omega
    refine codeAny_builtin F.entry_set_update_loop ?_
    rw [Around.under_plainId F.plain_set_update_loop _]
    show wpAny _ A.in1 (pyNext (.ref I) >>= _) _ _ s
    refine wpAny_bind (W.item i s _ _ hlt hst fun v s' hP hst' mv => ?_)
    obtain ⟨z, hz, rz⟩ := hval i v hP
    have hS1 : SetM w s'.heap S (kIn (ks.take i)) c := hS.at fun o e => mv.heap S o hSw e
    show wpAny _ A.in1 (holding [v] (setAdd S v) >>= _) _ _ s'
    refine wpAny_bind (wpAny_holding ?_)
    unfold setAdd
    refine wpAny_holding ?_
    refine wpAny_bind ((mixKind P w).pyHash (k := z) (kV_is rz) ?_)
    refine setM_add (s := { s' with toks := s'.toks + 1 }) rz hS1 (by omega) fun h' sb hS2 => ?_
    have hS3 : SetM w h' S (kIn (ks.take (i + 1))) (if kIn (ks.take i) z = true then c else c + 1) := hS2.congr fun j => kIn_next hz j
    have hc3 : (if kIn (ks.take i) z = true then c else c + 1) ≤ i + 1 := by
      split <;> omega
    refine wpAny_pure ⟨plainId_quiet F.plain_set_update_loop _, ih (i + 1) _ (by omega) hlt (W.frame _ s' _ _ hst' (Nat.le_succ _) fun b hb o e => ?_) ⟨_, hc3, hS3⟩ fun s2 c2 mv2 hc2 hS4 => ?_⟩
    · rw [sb.2 b (fun h : b = S => hSf (by rw [← h]; exact hb))]
      exact e
    · refine hR s2 c2 (Moved.trans W.gtrans ((mv.mono sub).then_heap (Nat.le_succ _) fun b o hb e => ?_) mv2) hc2 hS4
      rw [sb.2 b (fun h : b = S => hb (by rw [h]; exact List.mem_cons_self))]
      exact e
end
end L2

set_option Elab.async false
set_option linter.all false
set_option maxRecDepth 100000
set_option maxHeartbeats 4000000
namespace L2
open PySem PySem.Spec PyProof.Rows
section
variable {P : Program} {w : World} {A : Around} {E : Value → Shared → Prop} {s : Shared}
/-- the empty set's object -/
abbrev noSet (w : World) : Obj := { cls := .type "set", dict := none, data := .set #[] 0 (.fresh 0 0 (!w.params.followText "set-order")) }
/-- set(xs) of a list of keys -/
theorem call_setL {l : Addr} {items : Array Value} (ks : List Key) {Q : Value → Shared → Prop} (hh : A.handled = none) (hl : s.heap.IsList l items) (hit : Vals (ks.map kV) items.toList) (hb : ks.length + 1 < scanBound)
    (h : ∀ (h' : Heap) (tk c : Nat), SetM w h' s.heap.objs.size (kIn ks) c → c ≤ ks.length → (∀ b o, s.heap.get? b = some o → h'.get? b = some o) → Q (.ref s.heap.objs.size) { s with heap := h', toks := tk }) :
    wpAny (model P w) A (call (.type "set") [.ref l]) Q E s := by
  have hisz : items.size = ks.length := by
    have q := hit.length
    have q2 : items.toList.length = items.size := Array.length_toList
    rw [List.length_map] at q
    omega
  obtain ⟨c, tl, hmro⟩ := F.called_set.mro
  have hmade := F.called_set.made
  have hsub := F.called_set.sub
  refine wpAny_call (codeAny_of_tree ?_)
  show wpAny _ _ (callAny (.type "set") _) _ _ _
  refine wpAny_pure ⟨Code.quiet_builtin _ (by decide +kernel), codeAny_builtin F.entry_type_call ?_⟩
  rw [Around.under_plain (weight_type_call_type "set" [.ref l] []) rfl]
  have h1 := F.called_set.notType
  have h2 := F.called_set.canCreate
  have hct := F.typeCall_set_1 (.ref l)
  repeat (any_goals (first | assumption | wp_step))
  refine codeAny_mono (code_set_led1 (.ref l) (E := E) (Q₁ := fun obj s₁ => obj = .ref s.heap.objs.size ∧ s₁ = { s with heap := s.heap.push (noSet w) }) ⟨rfl, rfl⟩) fun r s₁ hr => ?_
  cases r with
  | error e => exact hr
  | ok fl =>
    cases fl with
    | ret obj =>
      obtain ⟨rfl, rfl⟩ := hr
      have hS : (s.heap.push (noSet w)).get? s.heap.objs.size = some (noSet w) := Heap.get?_push_size _ rfl
      have hT : Shared.TypeIs { s with heap := s.heap.push (noSet w) } (.ref s.heap.objs.size) "set" := ⟨_, hS, rfl⟩
      have hli := F.called_set.init.lookup
      have hbi := F.called_set.init.bind (.ref s.heap.objs.size)
      repeat (any_goals (first | assumption | wp_step))
      refine codeAny_mono (codeAny_call_builtin (R := wants (fun r s₂ => r = .none ∧ ∃ h' tk c, s₂ = { s with heap := h', toks := tk } ∧ SetM w h' s.heap.objs.size (kIn ks) c ∧ c ≤ ks.length ∧
          (∀ b o, s.heap.get? b = some o → h'.get? b = some o)) E) F.called_set.init.plain F.entry_set_init (check_set_init_1 hT ?_)) fun r₂ s₂ hr₂ => ?_
      · obtain ⟨ol, hol, hcl, nl, hdl⟩ := hl
        obtain ⟨ocls, odict, odata, oslots⟩ := ol
        simp only at hcl hdl
        subst hcl; subst hdl
        have hol' : (s.heap.push (noSet w)).get? l = some { cls := .type "list", dict := odict, data := .seq items nl, slots := oslots } := Heap.get?_push_of_some _ hol
        have hsls := F.sub_list_set
        have hslf := F.sub_list_frozenset
        have hne : (Value.type "list" == Value.type "dict") = false := by decide
        have hl1 : (s.heap.push (noSet w)).IsList l items := ⟨_, hol', rfl, nl, rfl⟩
        unfold Builtin.«set.__init__» noKeywords Builtin.Frozenset.updateFrom
        generalize hPI : pyIter = PI
        wp_walk
        subst hPI
        refine wpAny_pyIter_list hl1 ?_
        refine wpAny_bind (wpAny_runValue ?_)
        have hlS : l < s.heap.objs.size := Heap.lt_size hol
        have hh3 : A.in1.in1.in1.handled = none := by simp [hh]
        have hneI : l ≠ (s.heap.push (noSet w)).objs.size := by
          rw [Heap.size_push]
          exact Nat.ne_of_lt (Nat.lt_succ_of_lt hlS)
        have hSf : s.heap.objs.size ∉ [(s.heap.push (noSet w)).objs.size, l] := by
          rw [Heap.size_push]
          simp only [List.mem_cons, List.mem_singleton, List.not_mem_nil, or_false, not_or]
          exact ⟨Nat.ne_of_lt (Nat.lt_succ_self _), Nat.ne_of_gt hlS⟩
        have hval : ∀ (i : Nat) (v : Value), items[i]? = some v → ∃ k, ks[i]? = some k ∧ RelV (kV k) v := fun i v hv => by
          have hi : i < ks.length := by rw [← hisz]; exact (Array.getElem?_eq_some_iff.mp hv).1
          have e : (ks.map kV)[i]? = some (kV ks[i]) := by rw [List.getElem?_map, List.getElem?_eq_getElem hi]; rfl
          obtain ⟨u, hu, ru⟩ := hit.get e
          rw [Array.getElem?_toList, hv] at hu
          cases hu
          exact ⟨_, List.getElem?_eq_getElem hi, ru⟩
        refine setM_update ((Walks.list hh3 _ l hneI items).toS) s.heap.objs.size hSf ks hisz hb hval (items.size - 0) 0 _ (by omega) (Nat.zero_le _) ⟨⟨_, Heap.get?_push_size _ rfl, rfl, rfl⟩, (hl1.push _)⟩ ?hS0 ?hR
        case hS0 =>
          have hget : ((s.heap.push (noSet w)).push { cls := .type "list_iterator", data := .fields #[.ref l, .int 0 0] }).get? s.heap.objs.size = some (noSet w) := Heap.get?_push_of_some _ hS
          exact ⟨0, Nat.le_refl 0, (setM_new hget).congr fun k => rfl⟩
        case hR =>
          intro s' c' hm hc' hS'
          obtain ⟨h', g2, d', tk', os'⟩ := s'
          have eg : g2 = s.gens := hm.gens
          have ed : d' = s.drawn := hm.drawn
          have eo : os' = s.os := hm.os
          subst eg; subst ed; subst eo
          show wpAny _ _ _ _ _ _
          refine wpAny_pure ?_
          show wpAny _ _ (ret Value.none) _ _ _
          rw [hisz] at hc'
          refine wpAny_pure ⟨rfl, h', tk', c', rfl, hS', hc', fun b o e => ?_⟩
          have hb0 : b < s.heap.objs.size := Heap.lt_size e
          have hb1 : b ≠ s.heap.objs.size := Nat.ne_of_lt hb0
          have hb2 : b ≠ (s.heap.push (noSet w)).objs.size := by
            rw [Heap.size_push]
            exact Nat.ne_of_lt (Nat.lt_succ_of_lt hb0)
          exact hm.heap b o (by simp only [List.mem_cons, List.mem_singleton, List.not_mem_nil, or_false, not_or]; exact ⟨hb1, hb2⟩) (Heap.get?_push_of_some _ (Heap.get?_push_of_some _ e))
      · cases r₂ with
        | error e => exact hr₂
        | ok fl₂ =>
          cases fl₂ with
          | ret r =>
            obtain ⟨rfl, h', tk, c', rfl, hS', hc', hk'⟩ := hr₂
            repeat (any_goals (first | assumption | wp_step))
            exact h _ _ _ hS' hc' hk'
          | _ => exact hr₂.elim
    | _ => exact hr.elim
/-- sorted(set), any kind of keys -/
theorem sorted_setG {κ : PyProof.Rows.KeyKind} (hO : κ.OneLt) {a : Addr} {S : Key → Bool} {n : Nat} {Q : Value → Shared → Prop} (R : SetM w s.heap a S n) (hh : A.handled = none)
    (hK : ∀ vs : List Value, (∀ v ∈ vs, ∃ k, S k = true ∧ RelV (kV k) v) → KeysOf κ (pairsOf vs) ∧ ∀ v₁ v₂ rest, vs = v₁ :: v₂ :: rest → keyKind' (v₁ :: v₂ :: rest).toArray = pure oneType')
    (hQ : ∀ s' p (vs : List Value) (st' : SortSt) (c : Nat), (∀ b o, s.heap.get? b = some o → s'.heap.get? b = some o) → s'.gens = s.gens → s'.os = s.os → s.heap.objs.size ≤ p → s'.heap.get? p = some (seqObj "list" ((arrOf st').map (·.2)) c) →
      (∀ v ∈ vs, ∃ k, S k = true ∧ RelV (kV k) v) → (vs.map vK).Nodup → (∀ k, S k = true ↔ k ∈ vs.map vK) → vs.length = n → (arrOf st').Perm (pairsOf vs) → SortedToK κ (arrOf st') (pairsOf vs).size → Q (.ref p) s') :
    wpAny (model P w) A (call (.builtin "sorted") [.ref a]) Q E s := by
  obtain ⟨o, es, ep, t, ho, hex, hd, g, nd, hm, hb, hf, hn, hr, hl⟩ := R
  refine Calls.call_function_entry kind_sorted plain_sorted entry_sorted (args_sorted1 _) ?_
  unfold Builtin.«sorted»
  refine wpAny_bind (m := checkCount "sorted" 1 1 _) (wpAny_pure ?_)
  refine wpAny_bind (collect_set (A := A.in1) hh ⟨o, ho, hex.1, hd⟩ hf hb hr hl fun s1 vs k1 hz g1 o1 pm => ?_)
  have hvl : vs.length = n := by rw [pm.length_eq, List.length_map, Array.length_toList]; exact hn
  have ev : (es.toList.map (·.2)).map vK = es.toList.map eK := by rw [List.map_map]; rfl
  have pk : (vs.map vK).Perm (es.toList.map eK) := by rw [← ev]; exact pm.map vK
  have hv : ∀ v ∈ vs, ∃ k, S k = true ∧ RelV (kV k) v := fun v hv => by
    obtain ⟨e, he, rfl⟩ := List.mem_map.mp (pm.mem_iff.mp hv)
    obtain ⟨k, h1, _⟩ := g e he
    exact ⟨k, (hm k).2 (List.mem_map.mpr ⟨e, he, vK_of h1⟩), h1⟩
  have hn2 : vs.length ≤ sizeLine := by rw [hvl, ← hn]; exact fits_of_scanBound hb
  refine wpAny_bind (wpAny_newList ?_ hn2)
  have hoL : (s1.heap.push (seqObj "list" vs.toArray 0)).get? s1.heap.objs.size = some (seqObj "list" vs.toArray 0) := Heap.get?_push_size _ rfl
  obtain ⟨q1, q2⟩ := hK vs hv
  refine wpAny_bind (wpAny_holding (wpAny_call_entry slot_list_sort ⟨_, hoL, rfl⟩ entry_list_sort (list_sort_treeKAny hO hoL q1 q2 hn2 fun st' a1 a2 => ⟨_, rfl, ?_⟩) (args_list_sort _)))
  obtain ⟨c, hc⟩ := sortedHeap_at (vs := vs) (out := (arrOf st').map (·.2)) hoL
  refine wpAny_pure ⟨_, rfl, hQ _ s1.heap.objs.size vs st' c (fun b u e => ?_) g1 o1 hz hc hv (pk.nodup_iff.mpr nd) (fun k => by rw [pk.mem_iff, ← hm k]) hvl a1 a2⟩
  have q := k1 b u e
  have hlt := Heap.lt_size q
  show (sortedHeap (s1.heap.push (seqObj "list" vs.toArray 0)) s1.heap.objs.size vs ((arrOf st').map (·.2))).get? b = some u
  rw [sortedHeap_old (Nat.ne_of_lt hlt) (by rw [size_push']; exact Nat.lt_succ_of_lt hlt)]
  exact Heap.get?_push_of_some _ q
end
/-- texts, strictly ascending -/
theorem strs_of_keys : ∀ {vs : List Value}, (∀ v ∈ vs, ∃ x : Str, RelV (.str x) v) → ∃ ss : List Str, StrsAre vs ss ∧ vs.map vK = ss.map Sum.inr
  | [], _ => ⟨[], .nil, rfl⟩
  | v :: vs, h => by
    obtain ⟨ss, h1, h2⟩ := strs_of_keys (vs := vs) fun u hu => h u (List.mem_cons_of_mem _ hu)
    obtain ⟨x, t, rfl⟩ := h v List.mem_cons_self
    exact ⟨x :: ss, .cons x t h1, by rw [List.map_cons, h2]; rfl⟩
theorem ints_of_keys : ∀ {vs : List Value}, (∀ v ∈ vs, ∃ x : Int, RelV (.int x) v) → ∃ ss : List Int, IntsAre vs ss ∧ vs.map vK = ss.map Sum.inl
  | [], _ => ⟨[], .nil, rfl⟩
  | v :: vs, h => by
    obtain ⟨ss, h1, h2⟩ := ints_of_keys (vs := vs) fun u hu => h u (List.mem_cons_of_mem _ hu)
    obtain ⟨x, t, rfl⟩ := h v List.mem_cons_self
    exact ⟨x :: ss, .cons x t h1, by rw [List.map_cons, h2]; rfl⟩
/-- the set of keys at a, that can be walked -/
def SetMO (w : World) (a : Addr) (S : Key → Bool) (n : Nat) : HO := .ext fun h => SetM w h a S n
section
variable {X : Cx}
theorem setMO_new {w : World} {P : Program} {H : Hp} {h : Heap} {a : Addr} {S : Key → Bool} {n : Nat} (R : SetM w h a S n) : ObjOk P w H h a (SetMO w a S n) := by
  have ⟨o, _, _, _, ho, _⟩ := R
  exact ⟨R, ⟨o, ho⟩, fun h1 h2 p k => SetM.at p k⟩
/-- set(xs), xs a list of ints or texts -/
def rSetLs (K : PySem.W.Frag) (w : World) : List V → Hp → VK → Prop := fun xs H Q => ∃ (l : Addr) (ks : List Key), xs = [V.ref l] ∧ SqL K H l (ks.map kV) ∧ ks.length ≤ 1000 ∧ ∀ p n, H p = none → n ≤ ks.length → Q (.ref p) (upd H p (SetMO w p (kIn ks) n))
theorem cr_setL (hc : X.calm = true) : CallR X (.type "set") (rSetLs X.K X.w) := by
  intro pins s σ H xs us Q I r h
  obtain ⟨l, ks, rfl, hl, hk, q⟩ := h
  rw [Vals.ref1 r]
  obtain ⟨its, rv, pl, hz⟩ := I.list hl
  have hn : H s.heap.objs.size = none := I.hok.fresh (Nat.le_refl _)
  refine call_setL (P := X.prog) (w := X.w) ks (I.ok.hd hc) pl.isList (by simpa using rv) (by unfold scanBound; omega) fun h' tk c R hcn k => ?_
  exact ⟨.ref s.heap.objs.size, upd H s.heap.objs.size (SetMO X.w s.heap.objs.size (kIn ks) c), I.laid (t' := tk) k (Nat.le_refl _) (setMO_new R), rfl, q _ c hn hcn⟩
/-- sorted(set) -/
def rSortM (w : World) : List V → Hp → VK → Prop := fun vs H Q => ∃ (a : Addr) (S : Key → Bool) (n : Nat), vs = [V.ref a] ∧ H a = some (SetMO w a S n) ∧
  ((∃ xs : List Str, (∀ k, S k = true ↔ k ∈ xs.map (Sum.inr : Str → Key)) ∧ ∀ (ys : List Str) (p : Addr), H p = none → ys.Nodup → (∀ z, z ∈ ys ↔ z ∈ xs) → sortedS ys = true → ys.length = n → Q (.ref p) (upd H p (.lst (ys.map V.str)))) ∨
   (∃ xs : List Int, (∀ k, S k = true ↔ k ∈ xs.map (Sum.inl : Int → Key)) ∧ ∀ (ys : List Int) (p : Addr), H p = none → ys.Pairwise (· < ·) → (∀ z, z ∈ ys ↔ z ∈ xs) → ys.length = n → Q (.ref p) (upd H p (.lst (ys.map V.int)))))
theorem nodup_inj {α β : Type} {f : α → β} {l : List α} (h : (l.map f).Nodup) : l.Nodup := List.Pairwise.of_map f (fun _ _ hne e => hne (congrArg f e)) h
theorem cr_sortM (hc : X.calm = true) : CallR X (.builtin "sorted") (rSortM X.w) := by
  intro pins s σ H vs us Q I r h
  obtain ⟨a, S, n, rfl, ha, h⟩ := h
  have R : SetM X.w s.heap a S n := (I.hok a _ ha).1
  have nz : n ≤ sizeLine := by
    obtain ⟨o, es, ep, t, _, _, _, _, _, _, hb, _, hn, _⟩ := R
    rw [← hn]
    exact fits_of_scanBound hb
  rw [Vals.ref1 r]
  rcases h with ⟨xs, hx, q⟩ | ⟨xs, hx, q⟩
  · have hstr : ∀ vs : List Value, (∀ v ∈ vs, ∃ k, S k = true ∧ RelV (kV k) v) → ∃ ss : List Str, StrsAre vs ss ∧ vs.map vK = ss.map Sum.inr := fun vs hv => strs_of_keys fun v hm => by
      obtain ⟨k, h1, h2⟩ := hv v hm
      obtain ⟨x, _, rfl⟩ := List.mem_map.mp ((hx k).1 h1)
      exact ⟨x, h2⟩
    refine sorted_setG strKind_oneLt R (I.ok.hd hc) (fun vs hv => ?_) fun s' p vs st' c k g o hp hg hv nd hm hl a1 a2 => ?_
    · obtain ⟨ss, h1, _⟩ := hstr vs hv
      exact ⟨h1.keysOf, fun v₁ v₂ rest e => keyKind_strs (by rw [← e]; exact h1)⟩
    · obtain ⟨ss, h1, h2⟩ := hstr vs hv
      obtain ⟨ys, b1, b2, b3⟩ := sorted_out_str h1 a1 a2
      have ln : ys.length = n := by
        rw [b2.length_eq, ← hl]
        have z := congrArg List.length h2
        rw [List.length_map, List.length_map] at z
        exact z.symm
      have hlen : (ys.map V.str).length ≤ sizeLine := by rw [List.length_map, ln]; exact nz
      have hn : H p = none := I.hok.fresh hp
      have J : Inv X pins σ (upd H p (.lst (ys.map V.str))) { s with heap := s'.heap, gens := s'.gens, drawn := s'.drawn, toks := s'.toks } :=
        I.call (ch := []) (Un.laid k hp hn) (I.hok.laid k hp ⟨hlen, _, c, vals_of_strs b1, hg⟩) (by rw [g]; exact I.bare) (fun _ z => nomatch z)
      have e : s' = { s with heap := s'.heap, gens := s'.gens, drawn := s'.drawn, toks := s'.toks } := by
        cases s'
        cases s
        cases o
        rfl
      rw [e]
      rw [h2] at nd
      refine ⟨.ref p, _, J, rfl, q ys p hn (b2.nodup_iff.mpr (nodup_inj nd)) (fun z => ?_) b3 ln⟩
      have e1 := hm (Sum.inr z)
      rw [h2] at e1
      have e2 := hx (Sum.inr z)
      have inj : ∀ l : List Str, (Sum.inr z : Key) ∈ l.map Sum.inr ↔ z ∈ l := fun l => by simp
      rw [inj] at e1 e2
      rw [b2.mem_iff, ← e1, e2]
  · have hint : ∀ vs : List Value, (∀ v ∈ vs, ∃ k, S k = true ∧ RelV (kV k) v) → ∃ ss : List Int, IntsAre vs ss ∧ vs.map vK = ss.map Sum.inl := fun vs hv => ints_of_keys fun v hm => by
      obtain ⟨k, h1, h2⟩ := hv v hm
      obtain ⟨x, _, rfl⟩ := List.mem_map.mp ((hx k).1 h1)
      exact ⟨x, h2⟩
    refine sorted_setG PyProof.Rows.intKind_oneLt R (I.ok.hd hc) (fun vs hv => ?_) fun s' p vs st' c k g o hp hg hv nd hm hl a1 a2 => ?_
    · obtain ⟨ss, h1, _⟩ := hint vs hv
      exact ⟨h1.keysOfInt, fun v₁ v₂ rest e => keyKind_ints (by rw [← e]; exact h1)⟩
    · obtain ⟨ss, h1, h2⟩ := hint vs hv
      obtain ⟨ys, b1, b2, b3⟩ := sorted_out h1 a1 (sortedTo_of_int a2)
      have ln : ys.length = n := by
        rw [b2.length_eq, ← hl]
        have z := congrArg List.length h2
        rw [List.length_map, List.length_map] at z
        exact z.symm
      have hlen : (ys.map V.int).length ≤ sizeLine := by rw [List.length_map, ln]; exact nz
      have hn : H p = none := I.hok.fresh hp
      have J : Inv X pins σ (upd H p (.lst (ys.map V.int))) { s with heap := s'.heap, gens := s'.gens, drawn := s'.drawn, toks := s'.toks } :=
        I.call (ch := []) (Un.laid k hp hn) (I.hok.laid k hp ⟨hlen, _, c, vals_of_ints b1, hg⟩) (by rw [g]; exact I.bare) (fun _ z => nomatch z)
      have e : s' = { s with heap := s'.heap, gens := s'.gens, drawn := s'.drawn, toks := s'.toks } := by
        cases s'
        cases s
        cases o
        rfl
      rw [e]
      rw [h2] at nd
      refine ⟨.ref p, _, J, rfl, q ys p hn (lt_of_le_nodup ys b3 (b2.nodup_iff.mpr (nodup_inj nd))) (fun z => ?_) ln⟩
      have e1 := hm (Sum.inl z)
      rw [h2] at e1
      have e2 := hx (Sum.inl z)
      have inj : ∀ l : List Int, (Sum.inl z : Key) ∈ l.map Sum.inl ↔ z ∈ l := fun l => by simp
      rw [inj] at e1 e2
      rw [b2.mem_iff, ← e1, e2]
end
end L2

set_option Elab.async false
set_option linter.all false
set_option maxRecDepth 100000
set_option maxHeartbeats 4000000
/-! sorted of triples of ints -/
namespace SrtT
open PySem PyProof.Rows Srt SrtO
abbrev T3 := Int × Int × Int
def lex3 (p q : T3) : Bool := if p.1 = q.1 then (if p.2.1 = q.2.1 then decide (p.2.2 < q.2.2) else decide (p.2.1 < q.2.1)) else decide (p.1 < q.1)
theorem lex3_iff {p q : T3} : lex3 p q = true ↔ p.1 < q.1 ∨ (p.1 = q.1 ∧ (p.2.1 < q.2.1 ∨ (p.2.1 = q.2.1 ∧ p.2.2 < q.2.2))) := by
  unfold lex3
  split
  · split <;> (rw [decide_eq_true_eq]; omega)
  · rw [decide_eq_true_eq]; omega
theorem lex3_no {p q : T3} : lex3 p q = false ↔ ¬ (p.1 < q.1 ∨ (p.1 = q.1 ∧ (p.2.1 < q.2.1 ∨ (p.2.1 = q.2.1 ∧ p.2.2 < q.2.2)))) := by
  rw [← lex3_iff]
  cases lex3 p q <;> simp
theorem swo3 {α : Type} (k : α → T3) : Swo fun v u => lex3 (k v) (k u) := by
  constructor
  · intro x y h
    rw [lex3_no]
    rw [lex3_iff] at h
    omega
  · intro x y z h1 h2
    rw [lex3_no] at h1 h2 ⊢
    omega
/-- v is a tuple of three ints in the heap -/
def Is3 (h : Heap) (v : Value) (p : T3) : Prop := ∃ a o t1 t2 t3 n, v = .ref a ∧ h.get? a = some o ∧ o.cls = .type "tuple" ∧ o.data = .seq #[.int p.1 t1, .int p.2.1 t2, .int p.2.2 t3] n
theorem Is3.stay {h h' : Heap} {v : Value} {p : T3} (i : Is3 h v p) (k : ∀ b o, h.get? b = some o → o.cls = .type "tuple" → h'.get? b = some o) : Is3 h' v p := by
  obtain ⟨a, o, t1, t2, t3, n, e1, e2, e3, e4⟩ := i
  exact ⟨a, o, t1, t2, t3, n, e1, k a o e2 e3, e3, e4⟩
section
variable {prog : Program} {w : World} {A : Around} {E : Value → Shared → Prop} {s : Shared}
theorem cmp3 {vs : List Value} {k : Value → T3} (hp : ∀ v ∈ vs, Is3 s.heap v (k v)) : SrtO.Cmp prog w A s (tuples' true) (fun p => p.1 ∈ vs) (lt2 fun v u => lex3 (k v) (k u)) := by
  intro p q mp mq
  have i1 := hp _ mp
  have i2 := hp _ mq
  show wpAny (model prog w) A (keyLt' (tuples' true) p.1 q.1) (fun r s' => s' = s ∧ r = lex3 (k p.1) (k q.1)) (fun _ _ => False) s
  generalize k p.1 = P at i1 ⊢
  generalize k q.1 = R at i2 ⊢
  obtain ⟨x, y, z⟩ := P
  obtain ⟨x', y', z'⟩ := R
  obtain ⟨a, o, t, u, v, n, e, ho, hc, hd⟩ := i1
  obtain ⟨a', o', t', u', v', n', e', ho', hc', hd'⟩ := i2
  rw [e, e']
  show wpAny _ _ _ (fun r s' => s' = s ∧ r = (if x = x' then (if y = y' then decide (z < z') else decide (y < y')) else decide (x < x'))) _ _
  refine PySem.W.kat_lt ho hd ho' hd' ?_
  show PySem.W.KatLex prog w A true (decide (3 < 3)) _ [(.int x t, .int x' t'), (.int y u, .int y' u'), (.int z v, .int z' v')] 0 s
  refine PySem.W.kat_cons (SeqAt.EqAt.int_int x t x' t' prog w _ _ (PySem.W.kat_go (fun c1 => ?_) fun c1 => ?_))
  · have ex : x = x' := by simpa using c1
    rw [if_pos ex]
    refine PySem.W.kat_yes (PySem.W.kat_cons (SeqAt.EqAt.int_int y u y' u' prog w _ _ (PySem.W.kat_go (fun c2 => ?_) fun c2 => ?_)))
    · have ey : y = y' := by simpa using c2
      rw [if_pos ey]
      refine PySem.W.kat_yes (PySem.W.kat_cons (SeqAt.EqAt.int_int z v z' v' prog w _ _ (PySem.W.kat_go (fun c3 => ?_) fun c3 => ?_)))
      · have ez : z = z' := by simpa using c3
        exact PySem.W.kat_yes (PySem.W.kat_nil ⟨rfl, by rw [ez]; exact (decide_eq_false (Int.lt_irrefl z')).symm⟩)
      · refine PySem.W.kat_no (PySem.W.kat_one _ _ (PyProof.Rows.lt_int ?_))
        exact (⟨rfl, rfl⟩ : s = s ∧ decide (z < z') = decide (z < z'))
    · have ey : ¬ y = y' := by simpa using c2
      rw [if_neg ey]
      refine PySem.W.kat_no (PySem.W.kat_one _ _ (PyProof.Rows.lt_int ?_))
      exact (⟨rfl, rfl⟩ : s = s ∧ decide (y < y') = decide (y < y'))
  · have ex : ¬ x = x' := by simpa using c1
    rw [if_neg ex]
    exact PySem.W.kat_no (oneLt_int ⟨rfl, rfl⟩)
theorem firsts3 {h : Heap} {k : Value → T3} : ∀ {vs : List Value}, (∀ v ∈ vs, Is3 h v (k v)) → ∃ fs : List Value, PySem.W.KatTups h vs fs ∧ fs.length = vs.length ∧ ∀ f ∈ fs, ∃ x t, f = Value.int x t
  | [], _ => ⟨[], PySem.W.KatTups.nil, rfl, fun f hf => nomatch hf⟩
  | v :: vs, hp => by
    obtain ⟨fs, g1, g2, g3⟩ := firsts3 (vs := vs) fun z hz => hp z (List.mem_cons_of_mem v hz)
    obtain ⟨a, o, t1, t2, t3, n, rfl, e2, e3, e4⟩ := hp v List.mem_cons_self
    refine ⟨.int (k (.ref a)).1 t1 :: fs, PySem.W.KatTups.cons e2 e3 e4 rfl g1, congrArg Nat.succ g2, fun f hf => ?_⟩
    rcases List.mem_cons.mp hf with rfl | hf
    · exact ⟨_, _, rfl⟩
    · exact g3 f hf
theorem sortable3 {a : Addr} {vs : List Value} {k : Value → T3} (h0 : 0 < vs.length) (hp : ∀ v ∈ vs, Is3 s.heap v (k v)) (ha : ∀ o, s.heap.get? a = some o → o.cls ≠ .type "tuple") : SortableO prog w A s a vs fun v u => lex3 (k v) (k u) := fun h' keep => by
  have st : ∀ v ∈ vs, Is3 h' v (k v) := fun v hv => (hp v hv).stay fun b o g c => keep b o (fun z => ha o (z ▸ g) c) g
  obtain ⟨fs, g1, g2, g3⟩ := firsts3 st
  refine ⟨tuples' true, fun Q E hq => PySem.W.kat_kind (T := .type "int") g1 (by omega) (fun f hf => ?_) (by rfl) ?_, cmp3 st⟩
  · obtain ⟨x, t, rfl⟩ := g3 f hf
    exact PySem.W.Looks.now
  · rw [show (Value.type "int" != Value.type "tuple") = true from by first | decide +kernel | rfl]
    exact hq
/-- sorted(l) of triples of ints -/
theorem sorted3 {l : Addr} {vs : List Value} {k : Value → T3} {Q : Value → Shared → Prop} (hl : s.heap.IsList l vs.toArray) (hz : vs.length ≤ sizeLine) (hp : ∀ v ∈ vs, Is3 s.heap v (k v))
    (h : ∀ (h' : Heap) (d : Addr) (out : List Value), Srtd (fun v u => lex3 (k v) (k u)) out → Stb (fun v u => lex3 (k v) (k u)) out vs → (∀ b o, s.heap.get? b = some o → h'.get? b = some o) → s.heap.objs.size ≤ d → (∃ n, h'.get? d = some (seqObj "list" out.toArray n)) → Q (.ref d) { s with heap := h' }) :
    wpAny (model prog w) A (call (.builtin "sorted") [.ref l]) Q E s := by
  refine sorted_ord (swo3 k) hl hz (fun h2 h₁ a ha kk => sortable3 (s := { s with heap := h₁ }) (by omega) (fun v hv => (hp v hv).stay fun b o g _ => (kk b o g).2) fun o g c => ?_) fun out hs hb => h _ _ out hs hb (fun b o g => sortedAll_old g) (Nat.le_succ _) (sortedAll_at s.heap vs out.toArray)
  have g' : some o = some (seqObj "list" vs.toArray 0) := g.symm.trans ha
  cases g'
  exact absurd (Value.type.inj c) (by decide)
end
end SrtT
namespace L2
open PySem PySem.Spec PyProof.Rows SrtT
/-- sorted(xs), xs a list of triples of ints (k says which): a new list, sorted -/
def rSorted3 (K : PySem.W.Frag) : List V → Hp → VK → Prop := fun vs H Q => ∃ (a : Addr) (xs : List V) (k : V → T3), vs = [V.ref a] ∧ SqL K H a xs ∧ (∀ x ∈ xs, ∃ t, x = V.ref t ∧ H t = some (.tup [.int (k x).1, .int (k x).2.1, .int (k x).2.2])) ∧
  ∀ ys p, SrtO.Srtd (fun x y => lex3 (k x) (k y)) ys → ys.Perm xs → H p = none → Q (.ref p) (upd H p (.lst ys))
theorem cr_sorted3 {X : Cx} : CallR X (.builtin "sorted") (rSorted3 X.K) := by
  intro pins s σ H vs us Q I r h
  obtain ⟨a, xs, k, rfl, hs, hx, q⟩ := h
  obtain ⟨its, rv, hl, hz⟩ := I.list hs
  rw [Vals.ref1 r]
  obtain ⟨e1, e2⟩ := refs_back rv fun x m => (hx x m).imp fun t ht => ht.1
  refine sorted3 (k := fun u => k (backV u)) hl.isList (by rw [← rv.length]; exact hz) (fun v hv => ?_) fun h' d out g1 g2 kp hd hn => ?_
  · obtain ⟨t, rfl⟩ := e2 v hv
    obtain ⟨t', e, ht⟩ := hx (.ref t) (by rw [e1]; exact List.mem_map.mpr ⟨_, hv, rfl⟩)
    cases e
    obtain ⟨_, its2, r2, o, ho, hc, n, hdt⟩ := I.hok _ _ ht
    cases r2 with
    | cons r2a r2 => cases r2 with
      | cons r2b r2 => cases r2 with
        | cons r2c r2 =>
          cases r2
          obtain ⟨ta, rfl⟩ := r2a
          obtain ⟨tb, rfl⟩ := r2b
          obtain ⟨tc, rfl⟩ := r2c
          exact ⟨t, o, ta, tb, tc, n, rfl, ho, hc, hdt⟩
  · obtain ⟨n, hn⟩ := hn
    have back : ∀ u ∈ out, ∃ a, u = Value.ref a := fun u hu => e2 u (g2.perm.mem_iff.mp hu)
    have pm : (out.map backV).Perm xs := by rw [e1]; exact g2.perm.map backV
    refine ⟨.ref d, upd H d (.lst (out.map backV)), I.laid (t' := s.toks) kp hd ⟨?_, out, n, vals_back back, hn⟩, rfl, q _ d (SrtO.srtd_map g1) pm (I.hok.fresh hd)⟩
    rw [pm.length_eq]
    exact hz
end L2

set_option Elab.async false
set_option linter.all false
set_option maxRecDepth 100000
set_option maxHeartbeats 4000000
namespace L2
open PySem PySem.Spec PyProof.Rows
/-! ### an own __eq__ asked by !=, an own __len__, list(d.values()) -/
/-- a name of a written namespace -/
theorem ns_at {K : PySem.W.Frag} {h : Heap} {N : Addr} {mN : Str → Option Value} {n : Str} {v : Value} (X : K.In h) (G : h.Ns N mN) (e : PySem.W.nsIn K N n = some (some v)) : mN n = some v := by
  obtain ⟨o, es, ep, ho, hd, _, hf⟩ := G
  unfold PySem.W.nsIn at e
  split at e
  case h_2 => cases e
  case h_1 c d es' n' sl q =>
    have z := X _ _ q
    rw [ho] at z
    cases z
    cases hd
    split at e
    case h_2 => split at e <;> cases e
    case h_1 en he =>
      cases e
      rw [← hf]
      unfold nsFind findBy
      rw [← Array.find?_toList, he]
      rfl
/-- a plain class with an own __eq__ and no __ne__ -/
structure NeC (K : PySem.W.Frag) (C f : Addr) : Prop where
  ex : ∃ (nm q : Str) (N : Addr) (bs : List Value) (hd : Bool) (sn : List Str) (sub : List Value) (ab : Bool) (col : Option Bool) (dd : Option Addr) (k0 k1 k2 k3 k5 : Option Value) (nid : String) (fo : Obj),
    K.lookup C = some (excClassObj nm q C N bs [.type "object"] hd sn sub ab col dd k0 k1 k2 k3 k5 nid) ∧ PySem.W.nsOkIn K N = true ∧ PySem.W.nsIn K N "__eq__" = some (some (.ref f)) ∧ PySem.W.nsIn K N "__ne__" = some none ∧ K.lookup f = some fo ∧ fo.cls = .type "function"
theorem obj_eq : ∃ y, typeLookup (.type "object") "__eq__" = pure y := ⟨_, PySem.F.cmp_object.eq.lookup⟩
section
variable {X : Cx} {n : Nat} {CX : CXT} {C f : Addr} {fd : FuncData} {ps : List Str} {R : Addr → Addr → Hp → Prop} {E : XK}
theorem op_neG (F : FnOk X.prog X.w X.K X.mg X.base CX n f fd ps (spEq R)) (Z : NeC X.K C f) (hb : Binds X.K fd ps []) (hx : Passes CX X E) (hr : Room (n + 2) X.A) :
    OpR X (compareOp .NotEq) (fun x y H Q => DIns C R x y H ∧ ∀ H', Ext H H' → Q (.bl false) H') := by
  intro pins s σ H x y v u Q I rx ry hq
  obtain ⟨⟨a, b, dx, dy, fs, gs, rfl, rfl, ha, hb', hR⟩, q⟩ := hq
  cases rx
  cases ry
  obtain ⟨mA, J, _⟩ := ins_get I.hok ha
  obtain ⟨mB, J', _⟩ := ins_get I.hok hb'
  obtain ⟨od, J, _⟩ := J.look
  obtain ⟨od', J', _⟩ := J'.look
  obtain ⟨nm, qn, N, bs, hd, sn, sub, ab, col, dd, k0, k1, k2, k3, k5, nid, fo, z1, z2, z3, z4, z5, z6⟩ := Z.ex
  have XK := I.kIn
  have Gn := Heap.Ns.of_isNs (PySem.W.isNs_of_in XK z2)
  obtain ⟨y0, hy0⟩ := obj_eq
  have Y : s.heap.OwnEqNoNe a C f "object" [.type "object"] := ⟨_, fo, nm, qn, N, bs, hd, sn, sub, ab, col, dd, k0, k1, k2, k3, k5, nid, _, y0, J.at_, J.cls, XK _ _ z1, Gn, ns_at XK Gn z3, XK _ _ z5, z6, PySem.F.mro_object, hy0, PySem.W.ns_none_of XK Gn z4⟩
  obtain ⟨hp, gg, dw, tk, os⟩ := s
  refine compareOp_ne_ownEq PySem.F.cmp_object Y J'.at_ J'.cls hr.in1.units0 ?_
  have hsp : spEq R [.ref a, .ref b] H (fun v H' => v = .bl true ∧ Ext H H') E := ⟨a, b, rfl, hR, fun H' e => ⟨rfl, e⟩⟩
  have e0 : Env0 X.prog X.w X.K X.mg X.base X.A.in1 X.stack ⟨hp, gg, dw, tk, os⟩ H := by
    have e := I.env0
    exact ⟨e.frames, e.mod, e.bs, e.bsz, e.funs, e.frf, e.hok, e.bare⟩
  have hl := F.len _ _ _ _ hsp
  have r2 : Vals [V.ref a, V.ref b] [Value.ref a, Value.ref b] := .cons rfl (.cons rfl .nil)
  refine wpAny_call (codeAny_mono (F.run X.A.in1 X.stack _ H ⟨[.ref a, .ref b], []⟩ [.ref a, .ref b] [.ref a, .ref b] _ E (hr.in1.mono (by omega)) e0 (by
    have := hb ⟨hp, gg, dw, tk, os⟩ [.ref a, .ref b] I.kIn (by simpa using hl)
    simpa using this) r2 hsp) fun r s' hq => ?_)
  cases r with
  | error e => exact hx pins σ H _ e s' I hq
  | ok fl =>
    cases fl with
    | ret w =>
      obtain ⟨z, H', I', rz, ez, ex⟩ := I.after hq
      subst ez
      cases rz
      exact ⟨true, rfl, .bl false, H', I', rfl, q H' ex⟩
    | next => exact False.elim hq
    | brk => exact False.elim hq
    | cont => exact False.elim hq
/-- len(o) by an own __len__ -/
theorem call_lenI {sp : Sp} (F : FnOk X.prog X.w X.K X.mg X.base CX n f fd ["self"] sp) (hs : PySem.W.findIn X.K (.ref C) "__len__" = some (some (.ref f))) (hf : PySem.W.isFn X.K (.ref f) = true) (hb : Binds X.K fd ["self"] []) (hx : Passes CX X E) (hr : Room (n + 1) X.A) :
    CallR X (.builtin "len") (fun xs H Q => ∃ a dx fs, xs = [.ref a] ∧ H a = some (.ins C dx fs) ∧ sp [.ref a] H (fun v H' => ∃ m : Nat, v = .int m ∧ m < 2 ^ 62 ∧ Q (.int m) H') E) := by
  intro pins s σ H xs us Q I r h
  obtain ⟨a, dx, fs, rfl, ha, h⟩ := h
  rw [Vals.ref1 r]
  obtain ⟨mA, J, _⟩ := ins_get I.hok ha
  obtain ⟨od, J, _⟩ := J.look
  obtain ⟨m, hF⟩ := I.fr
  refine PySem.W.len_K hF I.ok.mod.kin J hs hf ?_
  have e0 : Env0 X.prog X.w X.K X.mg X.base X.A.in1 X.stack s H := by
    have e := I.env0
    exact ⟨e.frames, e.mod, e.bs, e.bsz, e.funs, e.frf, e.hok, e.bare⟩
  have hl := F.len _ _ _ _ h
  refine wpAny_call (codeAny_mono (F.run X.A.in1 X.stack _ H ⟨[.ref a], []⟩ [.ref a] [.ref a] _ E (hr.in1.mono (by omega)) e0 (by
    have := hb s [.ref a] I.kIn (by simpa using hl)
    simpa using this) (.cons rfl .nil) h) fun r s' hq => ?_)
  cases r with
  | error e => exact hx pins σ H _ e s' I hq
  | ok fl =>
    cases fl with
    | ret w =>
      obtain ⟨z, H', I', rz, m, ez, hm, q⟩ := I.after hq
      subst ez
      obtain ⟨t, rfl⟩ := rz
      exact ⟨⟨Int.natCast_nonneg m, by omega⟩, .int m, H', I'.tok _, ⟨_, rfl⟩, q⟩
    | next => exact False.elim hq
    | brk => exact False.elim hq
    | cont => exact False.elim hq
/-- the same object -/
def DOne : Eqv := fun x y _ => x = y ∧ ∃ a, x = .ref a
theorem mon_one : Mon DOne := fun _ _ _ _ _ d => d
theorem eqG_one : EqG X 0 DOne := by
  intro A pins s σ H x y u v sb I rx ry d
  obtain ⟨rfl, a, rfl⟩ := d
  cases rx
  cases ry
  exact SeqAt.EqAt.same (A := A) (s := s) (.ref a) X.prog X.w X.xe _ ⟨rfl, H, I, Ext.rfl'⟩
end
section
variable {X : Cx} {o : Expr} {p pos apos mpos : Pos} {td : TE}
/-- list(o.values()) of a dict -/
def tListVals (td : TE) : TE := fun σ H Q => td σ H fun x H1 => ∃ a kvs, x = V.ref a ∧ H1 a = some (.dK kvs) ∧ ∀ l, H1 l = none → Q (.ref l) (upd H1 l (.lst (kvs.map (·.2))))
theorem vals_vals {kvs : List (Key × V)} {vs : List (Key × Value)} (r : KV kvs vs) {us : List Value} (hn : us.length = vs.length) (hu : ∀ (j : Nat) v, us[j]? = some v → ∃ k, vs[j]? = some (k, v)) : Vals (kvs.map (·.2)) us := by
  have e : us = vs.map (·.2) := PySem.W.kdl_vals_eq us hn hu
  subst e
  unfold KV at r
  clear hn hu
  induction r with
  | nil => exact .nil
  | cons h t ih => exact .cons h.2 ih
theorem pe_listVals (hcalm : X.calm = true) (hg : Gl X "list") (hm : X.mg "list" = none) (hd : PE X o td) (hbase : attributeBase o "values" X.env (eval o X.env) = eval o X.env := by rfl) (hline : (apos.endLine == mpos.line) = true := by rfl)
    (hse : starEach [Expr.Call (.Attribute o "values" apos) [] [] mpos] X.env = [(false, eval (Expr.Call (.Attribute o "values" apos) [] [] mpos) X.env)] := by rfl) :
    PE X (.Call (.Name "list" p) [.Call (.Attribute o "values" apos) [] [] mpos] [] pos) (tListVals td) := by
  refine ⟨fun pins s σ H Q I h => ?_⟩
  refine wpAny_Call_Name_kw (ld_blt I hg hm (u := .type "list") (by first | rfl | decide +kernel) ?_ (by first | decide +kernel | decide) (by first | decide +kernel | decide))
  rw [hse]
  refine PySem.callWith_type1 (wpAny_Call_method0_late hbase hline (thn (hd.run pins s σ H _ I h) fun v s1 ⟨x, H1, I1, r1, a, kvs, ex, ha, q⟩ => ?_))
  subst ex
  obtain rfl : v = Value.ref a := r1
  obtain ⟨hz, hsys, vs, rel, dof⟩ := dk_of I1.hok ha
  obtain ⟨ep, dat⟩ := dof.dictAt
  obtain ⟨ob, es, ho, ex, _⟩ := id dat
  refine ⟨"dict", "dict.values", F.plainAttrs_dict, F.slot_dict_values, F.type_dict_values, ⟨ob, ho, ex.1⟩, fun b e => ?_, Calls.callWith_builtin rfl (PySem.evalArgs_none ?_)⟩
  · cases e
    exact ⟨ob, ho, ex.2.1⟩
  refine call_meetsIn F.slot_dict_values ⟨ob, ho, ex.1⟩ F.entry_dict_values (F.args_dict_values_1 _) (meets_dict_values (mixKind X.prog X.w) a hsys) ⟨⟨vs, dof⟩, ?_⟩
  have up : ∀ b u, s1.heap.get? b = some u → (s1.heap.push { cls := .type "dict_values", data := .fields #[.ref a] }).get? b = some u := fun b u e => Heap.get?_push_of_some _ e
  have hlen : vs.length = kvs.length := (KV.length rel).symm
  refine PySem.W.kdl_call (PySem.W.kdl_values (knd := mixKind X.prog X.w) (kvs := vs) (ep := ep)) (I1.ok.hd hcalm) ⟨⟨_, Heap.get?_push_size _ rfl, rfl, rfl⟩, dat.keep up⟩ (by rw [hlen]; exact hz) fun h' tk acc c' hk hD hacc => ?_
  have hv : Vals (kvs.map (·.2)) acc.toList := vals_vals rel (by rw [Array.length_toList]; exact hacc.1) fun j v e => hacc.2 j v (by rw [← Array.getElem?_toList]; exact e)
  refine ⟨.ref _, upd H1 _ (.lst (kvs.map (·.2))), I1.laid (t' := tk) (fun b u e => hk b u (up b u e)) (Nat.le_of_lt (Nat.lt_of_lt_of_le (Nat.lt_succ_self _) (by rw [Heap.size_push]; exact Nat.le_refl _)))
    (show ObjOk X.prog X.w _ _ _ (.lst (kvs.map (·.2))) from ⟨by rw [List.length_map]; exact hz, acc.toList, c', hv, by rw [Array.toArray_toList]; exact hD⟩), rfl, q _ (I1.hok.fresh (Nat.le_of_lt (Nat.lt_of_lt_of_le (Nat.lt_succ_self _) (by rw [Heap.size_push]; exact Nat.le_refl _))))⟩
end
end L2

set_option Elab.async false
set_option linter.all false
set_option maxRecDepth 100000
set_option maxHeartbeats 4000000
namespace L2
open PySem PySem.Spec PyProof.Rows
section
variable {X : Cx} {n : Nat} {CX : CXT} {C f : Addr} {fd : FuncData} {ps : List Str} {sp : Sp} {E : XK}
/-- x op y of two instances of one class, with an own method for it -/
def rOwnOp (C : Addr) (sp : Sp) (E : XK) : R2 := fun x y H Q => ∃ a b dx dy fs gs, x = .ref a ∧ y = .ref b ∧ H a = some (.ins C dx fs) ∧ H b = some (.ins C dy gs) ∧ sp [x, y] H Q E
theorem op_own {op : Operator} (hc : PySem.W.selfFirst X.K C = true) (hs : PySem.W.findIn X.K (.ref C) (PySem.dunder op.info.2) = some (some (.ref f))) (hf : PySem.W.isFn X.K (.ref f) = true)
    (F : FnOk X.prog X.w X.K X.mg X.base CX n f fd ps sp) (hb : Binds X.K fd ps []) (hx : Passes CX X E) (hr : Room n X.A) : OpR X (binaryOp op) (rOwnOp C sp E) := by
  intro pins s σ H x y v u Q I rx ry hq
  obtain ⟨a, b, dx, dy, fs, gs, rfl, rfl, ha, hb', hsp⟩ := hq
  cases rx
  cases ry
  obtain ⟨mA, J, _⟩ := ins_get I.hok ha
  obtain ⟨mB, J', _⟩ := ins_get I.hok hb'
  obtain ⟨od, J, _⟩ := J.look
  obtain ⟨od', J', _⟩ := J'.look
  obtain ⟨m, Fm⟩ := I.fr
  refine PySem.W.binop_K Fm I.ok.mod.kin J J'.type hc hs hf (wpAny_mono (run_fn (us := [.ref a, .ref b]) (vs := [.ref a, .ref b]) F hr hb .nil hx I (.cons rfl (.cons rfl .nil)) hsp) (fun z s' hz => ?_) fun _ _ e => e)
  obtain ⟨zv, H', I', rz, q⟩ := hz
  exact SlX.cmpback rz ⟨zv, H', I', rz, q⟩
end
end L2

set_option Elab.async false
set_option linter.all false
set_option maxRecDepth 100000
set_option maxHeartbeats 4000000
namespace L2
open PySem PySem.Spec PyProof.Rows
/-! ### o.f as a target among others -/
section
variable {X : Cx} {o : Expr} {ta : TE} {f : Str} {pos : Pos}
def gFld (K : PySem.W.Frag) (ta : TE) (f : Str) : TG := fun v σ H Q => ta σ H fun x H1 => ∃ a C dx fs, x = .ref a ∧ H1 a = some (.ins C dx fs) ∧ Cls K C ∧ NoAttr K C f ∧ fs.length < 1000 ∧ Q σ (upd H1 a (.ins C dx (putF f v fs)))
theorem pg_fld (ha : PE X o ta) : PG X (.Attribute o f pos) (gFld X.K ta f) := by
  refine ⟨fun pins s σ H v u Q I r h => ?_⟩
  rw [assign_Attribute]
  refine wpAny_bind (wpAny_holding (thn (ha.run pins s σ H _ I h) fun ov s1 ⟨x, H1, I1, rx, a, C, dx, fs, ex, ea, c, n, l, q⟩ => ?_))
  subst ex
  obtain rfl : ov = Value.ref a := rx
  refine wpAny_bind (wpAny_standAt ?_)
  refine wpAny_bind (wpAny_holding (setattr_ok I1 ea c n l r fun s3 I3 => ?_))
  exact wpAny_release ⟨σ, _, I3, q⟩
end
/-! ### operators of instances of a family of classes -/
section
variable {prog : Program} {w : World} {A : Around} {E : Value → Shared → Prop} {s : Shared} {K : PySem.W.Frag} {x C D L f : Addr} {h₀ : Heap} {m : Str → Option Value} {ox : Obj} {od : Option Obj}
open PySem.W PySem.Calls in
/-- x op y of instances of two classes, none of which is beneath the other -/
theorem binO {op : Operator} {b : Value} {rc rd : Option Value} {g : Addr} {Q : Value → Shared → Prop} (F : Fr h₀ L s.heap m) (X₀ : K.In h₀) (I : InstAt s.heap x ox C od) (hb : Looks (model prog w) s.heap (typeOf b) (.ref D)) (hne : C ≠ D) (hc : selfFirst K C = true) (hd : selfFirst K D = true)
    (hs : findIn K (.ref C) (PySem.dunder op.info.2) = some (some (.ref f))) (hf : isFn K (.ref f) = true) (hr : findIn K (.ref C) (dunderR op.info.2) = some rc) (hp : rc = none ∨ ∃ g : Addr, rc = some (.ref g))
    (gs : findIn K (.ref D) (PySem.dunder op.info.2) = some (some (.ref g))) (gr : findIn K (.ref D) (dunderR op.info.2) = some rd) (gp : rd = none ∨ ∃ g : Addr, rd = some (.ref g)) (hsub : subIn K (.ref D) (.ref C) = some false)
    (h : wpAny (model prog w) A (call (.ref f) [.ref x, b]) (PySem.W.CmpBack Q) E s) : wpAny (model prog w) A (binaryOp op (.ref x) b) Q E s := by
  have X := X₀.keeps F.keep
  obtain ⟨cd, rest, hcd, hm⟩ := ksp_first hc
  obtain ⟨dd, rest', hdd, hm'⟩ := ksp_first hd
  rcases hi : op.info with ⟨sym, nm'⟩
  rw [hi] at hs hr gs gr
  dsimp only at hs hr gs gr
  have one := ksp_try X I hs hf h
  obtain ⟨hh, gg, d, tt, os⟩ := s
  have L1 : Looks (model prog w) hh (typeOf (.ref x)) (.ref C) := I.type
  have L3 : Looks (model prog w) hh (fillsNumberSlot (.ref C) nm') true := fills_K X hcd hm hs
  have L4 : Looks (model prog w) hh (fillsNumberSlot (.ref D) nm') true := fills_K X hdd hm' gs
  have L5 : Looks (model prog w) hh (isSubtype (.ref D) (.ref C)) false := looks_subIn X hsub
  have L6 : Looks (model prog w) hh (numberSlotInPython (.ref C) nm') true := ksp_inPy X hs hr hp
  have L7 : Looks (model prog w) hh (numberSlotInPython (.ref D) nm') true := ksp_inPy X gs gr gp
  have hne' : (Value.ref C == Value.ref D) = false := Bool.eq_false_iff.mpr fun q => by
    have := beq_iff_eq.mp q
    cases this
    exact hne rfl
  simp only [binaryOp, hi]
  refine wpAny_holding (wpAny_bind ?_)
  unfold binaryOp1
  refine wpAny_bind (L1.at (wpAny_bind (hb.at (wpAny_bind (L3.at ?_)))))
  simp only [hne', Bool.false_eq_true, if_false]
  ksp_lk
  refine wpAny_mono one (fun r s' hr' => ?_) fun _ _ e => e
  obtain ⟨v, rfl, hq⟩ := hr'
  ksp_lk
  exact hq
end
/-- what the top says of an operator of a family of classes -/
structure OpF (K : PySem.W.Frag) (S : Addr → Prop) (op : Operator) (f : Addr) : Prop where
  sf : ∀ C, S C → PySem.W.selfFirst K C = true
  at_ : ∀ C, S C → PySem.W.findIn K (.ref C) (PySem.dunder op.info.2) = some (some (.ref f))
  rt : ∀ C, S C → PySem.W.findIn K (.ref C) (dunderR op.info.2) = some none
  fn : PySem.W.isFn K (.ref f) = true
  sub : ∀ C D, S C → S D → C ≠ D → PySem.W.subIn K (.ref D) (.ref C) = some false
section
variable {X : Cx} {n : Nat} {CX : CXT} {f : Addr} {fd : FuncData} {ps : List Str} {sp : Sp} {E : XK} {S : Addr → Prop} {op : Operator}
def rOpF (S : Addr → Prop) (sp : Sp) (E : XK) : R2 := fun x y H Q => ∃ a b C D dx dy fs gs, x = .ref a ∧ y = .ref b ∧ H a = some (.ins C dx fs) ∧ S C ∧ H b = some (.ins D dy gs) ∧ S D ∧ sp [x, y] H Q E
theorem op_fam (O : OpF X.K S op f) (F : FnOk X.prog X.w X.K X.mg X.base CX n f fd ps sp) (hb : Binds X.K fd ps []) (hx : Passes CX X E) (hr : Room n X.A) : OpR X (binaryOp op) (rOpF S sp E) := by
  intro pins s σ H x y v u Q I rx ry hq
  obtain ⟨a, b, C, D, dx, dy, fs, gs, rfl, rfl, ha, sC, hb', sD, hsp⟩ := hq
  cases rx
  cases ry
  obtain ⟨mA, J, _⟩ := ins_get I.hok ha
  obtain ⟨mB, J', _⟩ := ins_get I.hok hb'
  obtain ⟨od, J, _⟩ := J.look
  obtain ⟨od', J', _⟩ := J'.look
  obtain ⟨m, Fm⟩ := I.fr
  have body : wpAny (model X.prog X.w) X.A (call (.ref f) [.ref a, .ref b]) (PySem.W.CmpBack (EP X pins σ Q)) X.xe s := wpAny_mono (run_fn (us := [.ref a, .ref b]) (vs := [.ref a, .ref b]) F hr hb .nil hx I (.cons rfl (.cons rfl .nil)) hsp) (fun z s' hz => by
    obtain ⟨zv, H', I', rz, q⟩ := hz
    exact SlX.cmpback rz ⟨zv, H', I', rz, q⟩) fun _ _ e => e
  by_cases e : C = D
  · subst e
    exact PySem.W.binop_K Fm I.ok.mod.kin J J'.type (O.sf C sC) (O.at_ C sC) O.fn body
  · exact binO Fm I.ok.mod.kin J J'.type e (O.sf C sC) (O.sf D sD) (O.at_ C sC) O.fn (O.rt C sC) (.inl rfl) (O.at_ D sD) (O.rt D sD) (.inl rfl) (O.sub C D sC sD e) body
/-- with an int -/
structure OpI (K : PySem.W.Frag) (S : Addr → Prop) (op : Operator) (f : Addr) : Prop where
  sf : ∀ C, S C → PySem.W.selfFirst K C = true
  at_ : ∀ C, S C → PySem.W.findIn K (.ref C) (PySem.dunder op.info.2) = some (some (.ref f))
  rt : ∀ C, S C → PySem.W.findIn K (.ref C) (dunderR op.info.2) = some none
  fn : PySem.W.isFn K (.ref f) = true
  sub : ∀ C, S C → PySem.W.subIn K (.type "int") (.ref C) = some false
  i1 : ∃ fo, PySem.W.findIn K (.type "int") (PySem.dunder op.info.2) = some fo
  i2 : ∃ ro, PySem.W.findIn K (.type "int") (dunderR op.info.2) = some ro
def rOpI (S : Addr → Prop) (sp : Sp) (E : XK) : R2 := fun x y H Q => ∃ a C dx fs i, x = .ref a ∧ y = .int i ∧ H a = some (.ins C dx fs) ∧ S C ∧ sp [x, y] H Q E
theorem op_int (O : OpI X.K S op f) (F : FnOk X.prog X.w X.K X.mg X.base CX n f fd ps sp) (hb : Binds X.K fd ps []) (hx : Passes CX X E) (hr : Room n X.A) : OpR X (binaryOp op) (rOpI S sp E) := by
  intro pins s σ H x y v u Q I rx ry hq
  obtain ⟨a, C, dx, fs, i, rfl, rfl, ha, sC, hsp⟩ := hq
  cases rx
  obtain ⟨t, rfl⟩ := (show ∃ t, u = Value.int i t from ry)
  obtain ⟨mA, J, _⟩ := ins_get I.hok ha
  obtain ⟨od, J, _⟩ := J.look
  obtain ⟨m, Fm⟩ := I.fr
  obtain ⟨fo, h1⟩ := O.i1
  obtain ⟨ro, h2⟩ := O.i2
  refine PySem.W.ksp_binT (T := "int") Fm I.ok.mod.kin J rfl (O.sf C sC) (O.at_ C sC) O.fn (O.rt C sC) (.inl rfl) h1 h2 (O.sub C sC) (wpAny_mono (run_fn (us := [.ref a, .int i t]) (vs := [.ref a, .int i]) F hr hb .nil hx I (.cons rfl (.cons ⟨t, rfl⟩ .nil)) hsp) (fun z s' hz => ?_) fun _ _ e => e)
  obtain ⟨zv, H', I', rz, q⟩ := hz
  exact SlX.cmpback rz ⟨zv, H', I', rz, q⟩
end
/-! ### methods of a family of classes -/
/-- a method that all of the classes have from one place -/
structure MethF (K : PySem.W.Frag) (S : Addr → Prop) (m : Str) (f : Addr) : Prop where
  at_ : ∀ C, S C → Cls K C ∧ PySem.W.findIn K (.ref C) m = some (some (.ref f))
  fn : PySem.W.isFn K (.ref f) = true
  kp : PySem.W.keepIn K (.ref f) = true
section
variable {X : Cx} {k : Nat} {CX : CXT} {f : Addr} {fd : FuncData} {ps : List Str} {sp : Sp} {E : XK} {S : Addr → Prop} {o e : Expr} {es : List Expr} {m : Str} {ta : TE} {t : TA} {apos pos : Pos}
def tMethF (S : Addr → Prop) (m : Str) (sp : Sp) (E : XK) (ta : TE) (t : TA) : TE := fun σ H Q => ta σ H fun x H1 => ∃ a C dx fs, x = .ref a ∧ H1 a = some (.ins C dx fs) ∧ S C ∧ fs.lookup m = none ∧
  t σ H1 fun vs H2 => sp (x :: vs) H2 Q E
theorem pe_methF {pl : Sem Bool} (he : PE X o ta) (M : MethF X.K S m f) (F : FnOk X.prog X.w X.K X.mg X.base CX k f fd ps sp) (hr : Room k X.A) (hb : Binds X.K fd ps []) (hx : Passes CX X E) (ha : PA X (e :: es) t)
    (hst : starEach (e :: es) X.env = (false, eval e X.env) :: starEach es X.env := by rfl) (hpl : (backTo pos (starEach es X.env)).any (·.1) = false := by rfl)
    (ht : eval (.Call (.Attribute o m apos) (e :: es) [] pos) X.env = (do
      let ov ← eval o X.env
      standAt apos.atName
      let (f, first) ← holding [ov] (getMethod ov m pl)
      callWith pos f first (backTo pos (starEach (e :: es) X.env)) (backToKw pos (keywordEach [] X.env))) := by rfl) :
    PE X (.Call (.Attribute o m apos) (e :: es) [] pos) (tMethF S m sp E ta t) := by
  refine ⟨fun pins s σ H Q I h => ?_⟩
  refine PySem.W.methodCall_KW (pl := pl) (thn (he.run pins s σ H _ I h) fun u s1 ⟨x, H1, I1, rx, a, C, dx, fs, ex, ea, sC, l, q⟩ => ?_) ht
  subst ex
  obtain rfl : u = Value.ref a := rx
  obtain ⟨c, at_⟩ := M.at_ C sC
  have hm : Meth X.K C m f := ⟨at_, M.fn, M.kp⟩
  refine getmeth_ok I1 ea c hm l ?_
  refine PySem.W.callWith_K (first := [.ref a]) (h₀ := X.base) I.ok.mod.kin hm.kp (thn (ha.run pos pins s1 σ H1 _ I1 q) fun us s2 ⟨vs, H2, I2, r, q2⟩ => ⟨I2.kIn, ?_⟩) hst hpl
  exact run_fn (us := .ref a :: us) (vs := .ref a :: vs) F hr hb .nil hx I2 (.cons rfl r) (by simpa using q2)
theorem pe_methF0 {pl : Sem Bool} (he : PE X o ta) (M : MethF X.K S m f) (F : FnOk X.prog X.w X.K X.mg X.base CX k f fd ps sp) (hr : Room k X.A) (hb : Binds X.K fd ps []) (hx : Passes CX X E)
    (ht : eval (.Call (.Attribute o m apos) [] [] pos) X.env = (do
      let ov ← eval o X.env
      standAt apos.atName
      let (f, first) ← holding [ov] (getMethod ov m pl)
      callWith pos f first (backTo pos (starEach [] X.env)) (backToKw pos (keywordEach [] X.env))) := by rfl) :
    PE X (.Call (.Attribute o m apos) [] [] pos) (tMethF S m sp E ta tNil) := by
  refine ⟨fun pins s σ H Q I h => ?_⟩
  refine PySem.W.methodCall_KW (pl := pl) (thn (he.run pins s σ H _ I h) fun u s1 ⟨x, H1, I1, rx, a, C, dx, fs, ex, ea, sC, l, q⟩ => ?_) ht
  subst ex
  obtain rfl : u = Value.ref a := rx
  obtain ⟨c, at_⟩ := M.at_ C sC
  have hm : Meth X.K C m f := ⟨at_, M.fn, M.kp⟩
  refine getmeth_ok I1 ea c hm l ?_
  exact PySem.W.callWith_K0 (first := [.ref a]) I1.kIn hm.kp (run_fn (us := [.ref a]) (vs := [.ref a]) F hr hb .nil hx I1 (.cons rfl .nil) q)
end
/-! ### max(xs, default=d) -/
def mxD : List Int → Int → Int
  | [], d => d
  | y :: ys, _ => PySem.W.maxOf y ys
section
variable {X : Cx}
def rMaxD (K : PySem.W.Frag) : List V → List V → Hp → VK → Prop := fun vs zs H Q => ∃ (a : Addr) (ns : List Int) (d : Int), vs = [V.ref a] ∧ zs = [V.int d] ∧ SqL K H a (ns.map V.int) ∧ Q (.int (mxD ns d)) H
theorem cr_maxD (hc : X.calm = true) (hu : X.A.units + 9 < cLine) : CallRK X (.builtin "max") [Str.ofString "default"] (rMaxD X.K) := by
  intro pins s σ H vs zs us ws Q I r rz h
  obtain ⟨a, ns, d, rfl, rfl, hs, q⟩ := h
  obtain rfl := Vals.ref1 r
  obtain ⟨w1, rfl, e1⟩ := vals1 rz
  obtain ⟨t, rfl⟩ := (show ∃ t, w1 = Value.int d t from e1)
  obtain ⟨its, rv, hL, hz⟩ := I.list hs
  have hH : PySem.W.HoldAll s.heap its.toArray.toList ns := PySem.W.HoldAll.of_ints (by simpa using rv.ints)
  refine PySem.W.max_list_datum_default (I.ok.hd hc) hL.isList hH ?_ (fun e h' tk hk => ?_) fun y ys i v h' tk e hi hv hk => ?_
  · have : PySem.W.Datum.depth Int = 0 := rfl
    omega
  · subst e
    exact ⟨.int d, H, I.kept hk, ⟨_, rfl⟩, q⟩
  · subst e
    obtain ⟨t', rfl⟩ := PySem.W.int_of_holds hv
    exact ⟨.int _, H, I.kept hk, ⟨_, rfl⟩, q⟩
end
end L2

set_option Elab.async false
set_option linter.all false
set_option maxRecDepth 100000
set_option maxHeartbeats 4000000
namespace Ash
open PySem PySem.Spec PyProof.Rows L2
/-! ### moment terms -/
inductive Tm where
  | now
  | last (s : Str) (t : Tm)
  | next (s : Str) (t : Tm)
  | shift (n : Int) (t : Tm)
  | either (a b : Tm)
  | later (a b : Tm)
  | earlier (a b : Tm)
  deriving DecidableEq
namespace Tm
def mx (a b : Int) : Int := if a < b then b else a
def dep : Tm → Int
  | .now => 1
  | .last _ t => 1 + dep t
  | .next _ t => 1 + dep t
  | .shift _ t => 1 + dep t
  | .either a b => 1 + mx (dep a) (dep b)
  | .later a b => 1 + mx (dep a) (dep b)
  | .earlier a b => 1 + mx (dep a) (dep b)
def par : Tm → Int
  | .now => 1
  | .last _ t => 1 + par t
  | .next _ t => 1 + par t
  | .shift _ t => 1 + par t
  | .either a b => 1 + (par a + par b)
  | .later a b => 1 + (par a + par b)
  | .earlier a b => 1 + (par a + par b)
def lok : Tm → Int
  | .now => 0
  | .last _ t => 1 + lok t
  | .next _ t => 1 + lok t
  | .shift _ t => 0 + lok t
  | .either a b => 0 + (lok a + lok b)
  | .later a b => 0 + (lok a + lok b)
  | .earlier a b => 0 + (lok a + lok b)
def cho : Tm → Int
  | .now => 0
  | .last _ t => 1 + cho t
  | .next _ t => 1 + cho t
  | .shift _ t => 0 + cho t
  | .either a b => 0 + (cho a + cho b)
  | .later a b => 1 + (cho a + cho b)
  | .earlier a b => 1 + (cho a + cho b)
def spell : Tm → List V
  | .now => [.str "now"]
  | .last s t => .str "last" :: .str s :: spell t
  | .next s t => .str "next" :: .str s :: spell t
  | .shift n t => .str "shift" :: .int n :: spell t
  | .either a b => .str "either" :: (spell a ++ spell b)
  | .later a b => .str "later" :: (spell a ++ spell b)
  | .earlier a b => .str "earlier" :: (spell a ++ spell b)
/-- not too large -/
def Fit (t : Tm) : Prop := t.dep ≤ 12 ∧ t.par ≤ 40 ∧ t.lok ≤ 12
theorem mx_l (a b : Int) : a ≤ mx a b := by unfold mx; split <;> omega
theorem mx_r (a b : Int) : b ≤ mx a b := by unfold mx; split <;> omega
theorem par_pos : ∀ t : Tm, 1 ≤ t.par
  | .now => by simp [par]
  | .last _ t => by have := par_pos t; simp [par]; omega
  | .next _ t => by have := par_pos t; simp [par]; omega
  | .shift _ t => by have := par_pos t; simp [par]; omega
  | .either a b => by have := par_pos a; have := par_pos b; simp [par]; omega
  | .later a b => by have := par_pos a; have := par_pos b; simp [par]; omega
  | .earlier a b => by have := par_pos a; have := par_pos b; simp [par]; omega
theorem lok_nn : ∀ t : Tm, 0 ≤ t.lok
  | .now => by simp [lok]
  | .last _ t => by have := lok_nn t; simp [lok]; omega
  | .next _ t => by have := lok_nn t; simp [lok]; omega
  | .shift _ t => by have := lok_nn t; simp [lok]; omega
  | .either a b => by have := lok_nn a; have := lok_nn b; simp [lok]; omega
  | .later a b => by have := lok_nn a; have := lok_nn b; simp [lok]; omega
  | .earlier a b => by have := lok_nn a; have := lok_nn b; simp [lok]; omega
theorem dep_pos : ∀ t : Tm, 1 ≤ t.dep
  | .now => by simp [dep]
  | .last _ t => by have := dep_pos t; simp [dep]; omega
  | .next _ t => by have := dep_pos t; simp [dep]; omega
  | .shift _ t => by have := dep_pos t; simp [dep]; omega
  | .either a b => by have := dep_pos a; have := mx_l a.dep b.dep; simp [dep]; omega
  | .later a b => by have := dep_pos a; have := mx_l a.dep b.dep; simp [dep]; omega
  | .earlier a b => by have := dep_pos a; have := mx_l a.dep b.dep; simp [dep]; omega
/-- a spelling is no longer than three times its parts -/
theorem spell_len : ∀ t : Tm, ((spell t).length : Int) ≤ 3 * t.par
  | .now => by simp [spell, par]
  | .last _ t => by have := spell_len t; simp [spell, par]; omega
  | .next _ t => by have := spell_len t; simp [spell, par]; omega
  | .shift _ t => by have := spell_len t; simp [spell, par]; omega
  | .either a b => by have := spell_len a; have := spell_len b; simp [spell, par]; omega
  | .later a b => by have := spell_len a; have := spell_len b; simp [spell, par]; omega
  | .earlier a b => by have := spell_len a; have := spell_len b; simp [spell, par]; omega
/-- all streams are names -/
def Nm : Tm → Prop
  | .now => True
  | .last s t => (1 ≤ s.length ∧ s.length ≤ 8) ∧ Nm t
  | .next s t => (1 ≤ s.length ∧ s.length ≤ 8) ∧ Nm t
  | .shift _ t => Nm t
  | .either a b => Nm a ∧ Nm b
  | .later a b => Nm a ∧ Nm b
  | .earlier a b => Nm a ∧ Nm b
end Tm
/-- the classes of terms -/
structure TC where
  now : Addr
  last : Addr
  next : Addr
  shift : Addr
  either : Addr
  later : Addr
  earlier : Addr
def TC.of (C : TC) : Tm → Addr
  | .now => C.now
  | .last _ _ => C.last
  | .next _ _ => C.next
  | .shift _ _ => C.shift
  | .either _ _ => C.either
  | .later _ _ => C.later
  | .earlier _ _ => C.earlier
/-- one of the classes -/
def TC.Is (C : TC) (a : Addr) : Prop := a = C.now ∨ a = C.last ∨ a = C.next ∨ a = C.shift ∨ a = C.either ∨ a = C.later ∨ a = C.earlier
theorem TC.is_of (C : TC) (t : Tm) : C.Is (C.of t) := by
  cases t
  · exact .inl rfl
  · exact .inr (.inl rfl)
  · exact .inr (.inr (.inl rfl))
  · exact .inr (.inr (.inr (.inl rfl)))
  · exact .inr (.inr (.inr (.inr (.inl rfl))))
  · exact .inr (.inr (.inr (.inr (.inr (.inl rfl)))))
  · exact .inr (.inr (.inr (.inr (.inr (.inr rfl)))))
/-- what stands in each term -/
def fCom (sp : Addr) (t : Tm) : List (Str × V) := [("spelling", .ref sp), ("depth", .int t.dep), ("parts", .int t.par), ("looks", .int t.lok), ("choices", .int t.cho)]
/-- the term t at a -/
def TmAt (C : TC) (H : Hp) : Addr → Tm → Prop
  | a, .now => ∃ dx sp, H a = some (.ins C.now dx (fCom sp .now)) ∧ H sp = some (.tup (Tm.spell .now))
  | a, .last s t => ∃ dx b sp, H a = some (.ins C.last dx (("stream", .str s) :: ("term", .ref b) :: fCom sp (.last s t))) ∧ H sp = some (.tup (Tm.spell (.last s t))) ∧ TmAt C H b t
  | a, .next s t => ∃ dx b sp, H a = some (.ins C.next dx (("stream", .str s) :: ("term", .ref b) :: fCom sp (.next s t))) ∧ H sp = some (.tup (Tm.spell (.next s t))) ∧ TmAt C H b t
  | a, .shift n t => ∃ dx b sp, H a = some (.ins C.shift dx (("term", .ref b) :: ("amount", .int n) :: fCom sp (.shift n t))) ∧ H sp = some (.tup (Tm.spell (.shift n t))) ∧ TmAt C H b t
  | a, .either s t => ∃ dx b c sp, H a = some (.ins C.either dx (("first", .ref b) :: ("second", .ref c) :: fCom sp (.either s t))) ∧ H sp = some (.tup (Tm.spell (.either s t))) ∧ TmAt C H b s ∧ TmAt C H c t
  | a, .later s t => ∃ dx b c sp, H a = some (.ins C.later dx (("first", .ref b) :: ("second", .ref c) :: fCom sp (.later s t))) ∧ H sp = some (.tup (Tm.spell (.later s t))) ∧ TmAt C H b s ∧ TmAt C H c t
  | a, .earlier s t => ∃ dx b c sp, H a = some (.ins C.earlier dx (("first", .ref b) :: ("second", .ref c) :: fCom sp (.earlier s t))) ∧ H sp = some (.tup (Tm.spell (.earlier s t))) ∧ TmAt C H b s ∧ TmAt C H c t
/-- all but lists stands -/
def NL (H H' : Hp) : Prop := ∀ c o, H c = some o → (∀ xs, o ≠ .lst xs) → H' c = some o
theorem NL.trans {H H1 H2 : Hp} (a : NL H H1) (b : NL H1 H2) : NL H H2 := fun c o h n => b c o (a c o h n) n
theorem nl_same {H H' : Hp} (s : Same H H') : NL H H' := fun c o h _ => s c o h
theorem TmAt.nl {C : TC} {H H' : Hp} (n : NL H H') : ∀ {t : Tm} {a : Addr}, TmAt C H a t → TmAt C H' a t
  | .now, a, ⟨dx, sp, h1, h2⟩ => ⟨dx, sp, n _ _ h1 (fun _ z => nomatch z), n _ _ h2 (fun _ z => nomatch z)⟩
  | .last s t, a, ⟨dx, b, sp, h1, h2, h3⟩ => ⟨dx, b, sp, n _ _ h1 (fun _ z => nomatch z), n _ _ h2 (fun _ z => nomatch z), TmAt.nl n h3⟩
  | .next s t, a, ⟨dx, b, sp, h1, h2, h3⟩ => ⟨dx, b, sp, n _ _ h1 (fun _ z => nomatch z), n _ _ h2 (fun _ z => nomatch z), TmAt.nl n h3⟩
  | .shift s t, a, ⟨dx, b, sp, h1, h2, h3⟩ => ⟨dx, b, sp, n _ _ h1 (fun _ z => nomatch z), n _ _ h2 (fun _ z => nomatch z), TmAt.nl n h3⟩
  | .either s t, a, ⟨dx, b, c, sp, h1, h2, h3, h4⟩ => ⟨dx, b, c, sp, n _ _ h1 (fun _ z => nomatch z), n _ _ h2 (fun _ z => nomatch z), TmAt.nl n h3, TmAt.nl n h4⟩
  | .later s t, a, ⟨dx, b, c, sp, h1, h2, h3, h4⟩ => ⟨dx, b, c, sp, n _ _ h1 (fun _ z => nomatch z), n _ _ h2 (fun _ z => nomatch z), TmAt.nl n h3, TmAt.nl n h4⟩
  | .earlier s t, a, ⟨dx, b, c, sp, h1, h2, h3, h4⟩ => ⟨dx, b, c, sp, n _ _ h1 (fun _ z => nomatch z), n _ _ h2 (fun _ z => nomatch z), TmAt.nl n h3, TmAt.nl n h4⟩
theorem TmAt.same {C : TC} {H H' : Hp} {t : Tm} {a : Addr} (h : TmAt C H a t) (s : Same H H') : TmAt C H' a t := h.nl (nl_same s)
/-- what all terms have -/
theorem TmAt.ins {C : TC} {H : Hp} : ∀ {t : Tm} {a : Addr}, TmAt C H a t → ∃ dx fs sp, H a = some (.ins (C.of t) dx fs) ∧ H sp = some (.tup t.spell) ∧ ∃ x y : Str × V, (fs = fCom sp t ∨ fs = x :: y :: fCom sp t ∧ x.1 ∈ [("stream" : Str), "term", "first"] ∧ y.1 ∈ [("term" : Str), "amount", "second"])
  | .now, a, ⟨dx, sp, h1, h2⟩ => ⟨dx, _, sp, h1, h2, ("", .non), ("", .non), .inl rfl⟩
  | .last s t, a, ⟨dx, b, sp, h1, h2, h3⟩ => ⟨dx, _, sp, h1, h2, _, _, .inr ⟨rfl, by simp, by simp⟩⟩
  | .next s t, a, ⟨dx, b, sp, h1, h2, h3⟩ => ⟨dx, _, sp, h1, h2, _, _, .inr ⟨rfl, by simp, by simp⟩⟩
  | .shift s t, a, ⟨dx, b, sp, h1, h2, h3⟩ => ⟨dx, _, sp, h1, h2, _, _, .inr ⟨rfl, by simp, by simp⟩⟩
  | .either s t, a, ⟨dx, b, c, sp, h1, h2, h3, h4⟩ => ⟨dx, _, sp, h1, h2, _, _, .inr ⟨rfl, by simp, by simp⟩⟩
  | .later s t, a, ⟨dx, b, c, sp, h1, h2, h3, h4⟩ => ⟨dx, _, sp, h1, h2, _, _, .inr ⟨rfl, by simp, by simp⟩⟩
  | .earlier s t, a, ⟨dx, b, c, sp, h1, h2, h3, h4⟩ => ⟨dx, _, sp, h1, h2, _, _, .inr ⟨rfl, by simp, by simp⟩⟩
theorem skip2 {x y : Str × V} {l : List (Str × V)} {f : Str} (hx : x.1 ∈ [("stream" : Str), "term", "first"]) (hy : y.1 ∈ [("term" : Str), "amount", "second"]) (hf : f ∉ [("stream" : Str), "term", "first", "amount", "second"]) : List.lookup f (x :: y :: l) = List.lookup f l := by
  obtain ⟨x1, x2⟩ := x
  obtain ⟨y1, y2⟩ := y
  have e1 : (f == x1) = false := by
    refine beq_eq_false_iff_ne.mpr fun z => hf ?_
    subst z
    simp only [List.mem_cons, List.not_mem_nil, or_false] at hx ⊢
    rcases hx with h | h | h <;> simp [h]
  have e2 : (f == y1) = false := by
    refine beq_eq_false_iff_ne.mpr fun z => hf ?_
    subst z
    simp only [List.mem_cons, List.not_mem_nil, or_false] at hy ⊢
    rcases hy with h | h | h <;> simp [h]
  simp only [List.lookup, e1, e2]
/-- the attributes that all terms have -/
structure TmIn (C : TC) (H : Hp) (a : Addr) (t : Tm) (dx : Addr) (fs : List (Str × V)) (sp : Addr) : Prop where
  at_ : H a = some (.ins (C.of t) dx fs)
  spl : H sp = some (.tup t.spell)
  spelling : fs.lookup ("spelling" : Str) = some (.ref sp)
  depth : fs.lookup ("depth" : Str) = some (.int t.dep)
  parts : fs.lookup ("parts" : Str) = some (.int t.par)
  looks : fs.lookup ("looks" : Str) = some (.int t.lok)
  choices : fs.lookup ("choices" : Str) = some (.int t.cho)
  no : ∀ f : Str, f ∉ [("stream" : Str), "term", "first", "amount", "second"] → f ∉ [("spelling" : Str), "depth", "parts", "looks", "choices"] → fs.lookup f = none
theorem fCom_no {sp : Addr} {t : Tm} {f : Str} (h : f ∉ [("spelling" : Str), "depth", "parts", "looks", "choices"]) : (fCom sp t).lookup f = none := by
  simp only [List.mem_cons, List.not_mem_nil, or_false, not_or] at h
  obtain ⟨h1, h2, h3, h4, h5⟩ := h
  simp [fCom, List.lookup, beq_eq_false_iff_ne.mpr h1, beq_eq_false_iff_ne.mpr h2, beq_eq_false_iff_ne.mpr h3, beq_eq_false_iff_ne.mpr h4, beq_eq_false_iff_ne.mpr h5]
theorem TmAt.in_ {C : TC} {H : Hp} {t : Tm} {a : Addr} (h : TmAt C H a t) : ∃ dx fs sp, TmIn C H a t dx fs sp := by
  obtain ⟨dx, fs, sp, h1, h2, x, y, e⟩ := h.ins
  refine ⟨dx, fs, sp, h1, h2, ?_, ?_, ?_, ?_, ?_, fun f n1 n2 => ?_⟩
  · rcases e with rfl | ⟨rfl, ex, ey⟩
    · rfl
    · rw [skip2 ex ey (by decide +kernel)]; rfl
  · rcases e with rfl | ⟨rfl, ex, ey⟩
    · rfl
    · rw [skip2 ex ey (by decide +kernel)]; rfl
  · rcases e with rfl | ⟨rfl, ex, ey⟩
    · rfl
    · rw [skip2 ex ey (by decide +kernel)]; rfl
  · rcases e with rfl | ⟨rfl, ex, ey⟩
    · rfl
    · rw [skip2 ex ey (by decide +kernel)]; rfl
  · rcases e with rfl | ⟨rfl, ex, ey⟩
    · rfl
    · rw [skip2 ex ey (by decide +kernel)]; rfl
  · rcases e with rfl | ⟨rfl, ex, ey⟩
    · exact fCom_no n2
    · rw [skip2 ex ey n1]; exact fCom_no n2
end Ash

set_option Elab.async false
set_option linter.all false
set_option maxRecDepth 100000
set_option maxHeartbeats 4000000
namespace L2
open PySem PySem.Spec PyProof.Rows
def rGtT (K : PySem.W.Frag) : R2 := fun x y H Q => ∃ (a b : Addr) (i j k l : Int), x = .ref a ∧ y = .ref b ∧ SqT K H a [.int i, .int j] ∧ SqT K H b [.int k, .int l] ∧
  Q (.bl (if i = k then (if j = l then false else decide (l < j)) else decide (k < i))) H
/-- (i, j) > (k, l) -/
theorem op_gtT {X : Cx} (hu : X.A.units < cLine) : OpR X (compareOp .Gt) (rGtT X.K) := by
  intro pins s σ H x y v u Q I rx ry h
  obtain ⟨a, b, i0, j0, k0, l0, rfl, rfl, ha, hb, q⟩ := h
  cases rx
  cases ry
  obtain ⟨its, r1, p1, _⟩ := I.tuple ha
  obtain ⟨its2, r2, p2, _⟩ := I.tuple hb
  obtain ⟨ns, hns⟩ : ∃ ns : List Int, ns = [i0, j0] := ⟨_, rfl⟩
  obtain ⟨ms, hms⟩ : ∃ ms : List Int, ms = [k0, l0] := ⟨_, rfl⟩
  have i1 : IntsAre its ns := Vals.ints (by rw [hns]; exact r1)
  have i2 : IntsAre its2 ms := Vals.ints (by rw [hms]; exact r2)
  have e1 : its.toArray.size = ns.length := by rw [List.size_toArray]; exact i1.length
  have e2 : its2.toArray.size = ms.length := by rw [List.size_toArray]; exact i2.length
  have at1 : ∀ j (h1 : j < its.toArray.size), ∃ t, its.toArray[j] = .int (ns.getD j 0) t := fun j h1 => PyProof.Rows.IntsAre.int_at i1 _ _ (by simp at h1; simp [h1])
  have at2 : ∀ j (h1 : j < its2.toArray.size), ∃ t, its2.toArray[j] = .int (ms.getD j 0) t := fun j h1 => PyProof.Rows.IntsAre.int_at i2 _ _ (by simp at h1; simp [h1])
  have R := Ob.RcOp.tuples_gt (A := X.A) (s := s) (e := fun j => decide (ns.getD j 0 = ms.getD j 0)) (r := fun j => decide (ms.getD j 0 < ns.getD j 0)) p1 p2 hu (fun j h1 h2 => by
    obtain ⟨t, et⟩ := at1 j h1
    obtain ⟨t', et'⟩ := at2 j h2
    rw [et, et']
    have z : (ns.getD j 0 == ms.getD j 0) = decide (ns.getD j 0 = ms.getD j 0) := by
      by_cases q : ns.getD j 0 = ms.getD j 0
      · rw [decide_eq_true q]; exact beq_iff_eq.mpr q
      · rw [decide_eq_false q]; exact beq_eq_false_iff_ne.mpr q
    rw [← z]
    exact SeqAt.EqAt.int_int _ _ _ _) (fun j h1 h2 _ => by
    obtain ⟨t, et⟩ := at1 j h1
    obtain ⟨t', et'⟩ := at2 j h2
    rw [et, et']
    exact Ob.RcOp.gt_int _ _ _ _)
  rw [e1, e2, hns, hms] at R
  have z : wpAny (model X.prog X.w) X.A (compareOp .Gt (.ref a) (.ref b)) (EP X pins σ Q) X.xe s := by
    refine R X.prog X.w X.xe (EP X pins σ Q) ⟨.bl _, H, I, rfl, ?_⟩
    have ee : Ob.lexAt (fun j => decide (([i0, j0] : List Int).getD j 0 = ([k0, l0] : List Int).getD j 0)) (fun j => decide (([k0, l0] : List Int).getD j 0 < ([i0, j0] : List Int).getD j 0)) (decide (([i0, j0] : List Int).length > ([k0, l0] : List Int).length)) 0 (min ([i0, j0] : List Int).length ([k0, l0] : List Int).length) = (if i0 = k0 then (if j0 = l0 then false else decide (l0 < j0)) else decide (k0 < i0)) := by
      show Ob.lexAt _ _ _ 0 2 = _
      rw [Ob.lexAt_succ, Ob.lexAt_succ, Ob.lexAt_zero]
      show (if decide (i0 = k0) = true then (if decide (j0 = l0) = true then decide (2 > 2) else decide (l0 < j0)) else decide (k0 < i0)) = _
      by_cases c1 : i0 = k0 <;> by_cases c2 : j0 = l0 <;> simp [c1, c2]
    rw [← ee] at q
    exact q
  exact z
end L2
namespace Ash
open PySem PySem.Spec PyProof.Rows L2 SrtT
open C8 (pss_cut)
/-! ### rows by streams, as data -/
theorem none_of {H H' : Hp} {q : Addr} (s : Same H H') (h : H' q = none) : H q = none := by
  cases e : H q with
  | none => rfl
  | some o => rw [s _ _ e] at h; cases h
theorem list_take {α : Type} {l : List α} {i : Nat} {x : α} (h : l[i]? = some x) : l.take (i + 1) = l.take i ++ [x] := by
  rw [List.take_add_one, h]
  rfl
def tv (t : T3) : List V := [.int t.1, .int t.2.1, .int t.2.2]
/-- ys are tuples of the triples ts -/
def TrAt (H : Hp) (ys : List V) (ts : List T3) : Prop := ys.length = ts.length ∧ ∀ (i : Nat) v t, ys[i]? = some v → ts[i]? = some t → ∃ e, v = .ref e ∧ H e = some (.tup (tv t))
theorem TrAt.tk {H H' : Hp} {ys : List V} {ts : List T3} (h : TrAt H ys ts) (s : ∀ t xs, H t = some (.tup xs) → H' t = some (.tup xs)) : TrAt H' ys ts := ⟨h.1, fun i v t a b => by
  obtain ⟨e, h1, h2⟩ := h.2 i v t a b
  exact ⟨e, h1, s _ _ h2⟩⟩
theorem TrAt.snoc {H : Hp} {ys : List V} {ts : List T3} {e : Addr} {t : T3} (h : TrAt H ys ts) (he : H e = some (.tup (tv t))) : TrAt H (ys ++ [.ref e]) (ts ++ [t]) := by
  refine ⟨by rw [List.length_append, List.length_append, h.1]; rfl, fun i v u a b => ?_⟩
  by_cases hi : i < ys.length
  · rw [List.getElem?_append_left hi] at a
    rw [List.getElem?_append_left (by rw [← h.1]; exact hi)] at b
    exact h.2 i v u a b
  · have hi' : i = ys.length := by
      have := (List.getElem?_eq_some_iff.mp a).1
      rw [List.length_append] at this
      have : i < ys.length + 1 := this
      omega
    subst hi'
    rw [List.getElem?_append_right (Nat.le_refl _), Nat.sub_self] at a
    rw [h.1, List.getElem?_append_right (Nat.le_refl _), Nat.sub_self] at b
    cases a
    cases b
    exact ⟨e, rfl, he⟩
/-- the triple of a tuple -/
def triOf (H : Hp) : V → T3
  | .ref e => match H e with
    | some (.tup [.int a, .int b, .int c]) => (a, b, c)
    | _ => (0, 0, 0)
  | _ => (0, 0, 0)
theorem triOf_at {H : Hp} {e : Addr} {t : T3} (h : H e = some (.tup (tv t))) : triOf H (.ref e) = t := by
  show (match H e with
    | some (.tup [.int a, .int b, .int c]) => (a, b, c)
    | _ => (0, 0, 0)) = t
  rw [h]
  rfl
theorem TrAt.map {H : Hp} {ys : List V} {ts : List T3} (h : TrAt H ys ts) : ys.map (triOf H) = ts := by
  apply List.ext_getElem?
  intro i
  rw [List.getElem?_map]
  by_cases hi : i < ys.length
  · have hj : i < ts.length := by rw [← h.1]; exact hi
    obtain ⟨e, h1, h2⟩ := h.2 i _ _ (List.getElem?_eq_getElem hi) (List.getElem?_eq_getElem hj)
    rw [List.getElem?_eq_getElem hi, List.getElem?_eq_getElem hj, h1, Option.map_some, triOf_at h2]
  · rw [List.getElem?_eq_none (by omega), List.getElem?_eq_none (by rw [← h.1]; omega)]
    rfl
theorem TrAt.get {H : Hp} {ys : List V} {ts : List T3} (h : TrAt H ys ts) {i : Nat} {t : T3} (e : ts[i]? = some t) : ∃ a, ys[i]? = some (.ref a) ∧ H a = some (.tup (tv t)) := by
  have hi : i < ys.length := by rw [h.1]; exact (List.getElem?_eq_some_iff.mp e).1
  obtain ⟨a, h1, h2⟩ := h.2 i _ _ (List.getElem?_eq_getElem hi) e
  exact ⟨a, by rw [List.getElem?_eq_getElem hi, h1], h2⟩
abbrev Tr := Str → List T3
def idsOf (names : List Str) (T : Tr) : List Int := names.flatMap fun z => (T z).map (·.2.1)
def addT (T : Tr) (z : Str) (t : T3) : Tr := fun y => if y = z then T z ++ [t] else T y
theorem addT_at {T : Tr} {z : Str} {t : T3} : addT T z t z = T z ++ [t] := if_pos rfl
theorem addT_no {T : Tr} {z y : Str} {t : T3} (h : ¬ y = z) : addT T z t y = T y := if_neg h
theorem ids_skip {T : Tr} {z : Str} {t : T3} : ∀ {names : List Str}, z ∉ names → idsOf names (addT T z t) = idsOf names T
  | [], _ => rfl
  | a :: r, h => by
    have h1 : ¬ a = z := fun q => h (by rw [q]; exact List.mem_cons_self)
    show (addT T z t a).map (·.2.1) ++ idsOf r (addT T z t) = (T a).map (·.2.1) ++ idsOf r T
    rw [addT_no h1, ids_skip (fun q => h (List.mem_cons_of_mem _ q))]
theorem ids_add {T : Tr} {z : Str} {t : T3} : ∀ {names : List Str}, names.Nodup → z ∈ names → (idsOf names (addT T z t)).Perm (idsOf names T ++ [t.2.1])
  | [], _, h => nomatch h
  | a :: r, hn, h => by
    obtain ⟨h1, h2⟩ := List.nodup_cons.mp hn
    show ((addT T z t a).map (·.2.1) ++ idsOf r (addT T z t)).Perm ((T a).map (·.2.1) ++ idsOf r T ++ [t.2.1])
    by_cases e : a = z
    · subst e
      rw [ids_skip h1, addT_at, List.map_append, List.append_assoc, List.append_assoc]
      exact List.Perm.append_left _ (List.perm_append_comm)
    · rw [addT_no e, List.append_assoc]
      exact List.Perm.append_left _ (ids_add h2 ((List.mem_cons.mp h).resolve_left fun q => e q.symm))
theorem mem_ids {names : List Str} {T : Tr} {i : Int} : i ∈ idsOf names T ↔ ∃ z ∈ names, ∃ t ∈ T z, t.2.1 = i := by
  unfold idsOf
  simp only [List.mem_flatMap, List.mem_map]
theorem ids_sub {names : List Str} {T : Tr} {z : Str} : z ∈ names → ((T z).map (·.2.1)).Sublist (idsOf names T) := fun h => by
  unfold idsOf
  induction names with
  | nil => cases h
  | cons a r ih =>
    rw [List.flatMap_cons]
    rcases List.mem_cons.mp h with rfl | h
    · exact List.sublist_append_left _ _
    · exact (ih h).trans (List.sublist_append_right _ _)
/-- rows whose ids are told apart -/
structure GoodT (names : List Str) (T : Tr) (n : Nat) : Prop where
  len : (idsOf names T).length = n
  nd : (idsOf names T).Nodup
  lo : ∀ i ∈ idsOf names T, 0 ≤ i
theorem GoodT.few {names : List Str} {T : Tr} {n : Nat} {z : Str} (g : GoodT names T n) (h : z ∈ names) : (T z).length ≤ n := by
  have := (ids_sub (T := T) h).length_le
  rw [List.length_map, g.len] at this
  exact this
theorem GoodT.apart {names : List Str} {T : Tr} {n : Nat} {z : Str} (g : GoodT names T n) (h : z ∈ names) : ((T z).map (·.2.1)).Nodup := g.nd.sublist (ids_sub h)
/-- the rows of each stream, in the lists of a dict -/
structure RwAt (H : Hp) (d : Addr) (names : List Str) (A : Str → Addr) (T : Tr) : Prop where
  at_ : H d = some (.dK (names.map fun z => (Sum.inr z, V.ref (A z))))
  row : ∀ z ∈ names, ∃ ys, H (A z) = some (.lst ys) ∧ TrAt H ys (T z)
  inj : ∀ z ∈ names, ∀ y ∈ names, A z = A y → z = y
theorem RwAt.same {H H' : Hp} {d : Addr} {names : List Str} {A : Str → Addr} {T : Tr} (h : RwAt H d names A T) (s : Same H H') : RwAt H' d names A T :=
  ⟨s _ _ h.at_, fun z hz => by
    obtain ⟨ys, h1, h2⟩ := h.row z hz
    exact ⟨ys, s _ _ h1, h2.tk fun t xs q => s _ _ q⟩, h.inj⟩
theorem RwAt.pl {H H' : Hp} {p s d : Addr} {names : List Str} {A : Str → Addr} {T : Tr} (h : RwAt H d names A T) (P0 : PoolAt H p s) (n : ∀ z ∈ names, A z ≠ p) (P : Pl H H' p s) : RwAt H' d names A T := by
  obtain ⟨ns, i, c, k, m, hp, _⟩ := id P0
  exact ⟨P.keep h.at_ (ne_of h.at_ hp (by intro z; cases z)), fun z hz => by
    obtain ⟨ys, h1, h2⟩ := h.row z hz
    exact ⟨ys, P.keep h1 (n z hz), h2.tk fun t xs q => P.keep q (ne_of q hp (by intro z; cases z))⟩, h.inj⟩
theorem valV_nm {A : Str → V} {z : Str} : ∀ {names : List Str}, valV (names.map fun z => ((Sum.inr z : Key), A z)) (Sum.inr z : Key) = if z ∈ names then some (A z) else none
  | [] => rfl
  | a :: r => by
    rw [List.map_cons]
    by_cases e : a = z
    · subst e
      rw [valV_pos rfl, if_pos List.mem_cons_self]
    · rw [valV_neg (fun q => e (Sum.inr.inj q)), valV_nm]
      by_cases h : z ∈ r
      · rw [if_pos h, if_pos (List.mem_cons_of_mem _ h)]
      · rw [if_neg h, if_neg (fun q => (List.mem_cons.mp q).elim (fun q => e q.symm) h)]
/-- one more row -/
theorem RwAt.add {H1 : Hp} {d e : Addr} {names : List Str} {A : Str → Addr} {T : Tr} {z : Str} {t : T3} {ys : List V} (h : RwAt H1 d names A T) (hz : z ∈ names) (hy : H1 (A z) = some (.lst ys)) (hT : TrAt H1 ys (T z)) (he : H1 e = some (.tup (tv t))) :
    RwAt (upd H1 (A z) (.lst (ys ++ [.ref e]))) d names A (addT T z t) := by
  have tk : ∀ t xs, H1 t = some (.tup xs) → (upd H1 (A z) (.lst (ys ++ [.ref e]))) t = some (.tup xs) := fun t xs q => by rw [upd_ne (ne_of q hy (by intro z; cases z))]; exact q
  refine ⟨by rw [upd_ne (ne_of h.at_ hy (by intro z; cases z))]; exact h.at_, fun y hy2 => ?_, h.inj⟩
  by_cases c : y = z
  · subst c
    rw [addT_at]
    exact ⟨_, upd_same, (hT.tk tk).snoc (tk _ _ he)⟩
  · rw [addT_no c]
    obtain ⟨us, h1, h2⟩ := h.row y hy2
    exact ⟨us, by rw [upd_ne (fun q => c (h.inj y hy2 z hz q))]; exact h1, h2.tk tk⟩
/-- a moment, or an amount, is not far -/
def Bd (m : Int) : Prop := -10000000000000000000000 ≤ m ∧ m ≤ 10000000000000000000000
def spMoment : Sp := fun vs H Q _ => ∃ (p s : Addr), vs = [.ref p] ∧ PoolAt H p s ∧ ∀ (m : Int) H', Bd m → Pl H H' p s → Q (.int m) H'
def spLWRows : Sp := fun vs H Q _ => ∃ (p s l : Addr) (names : List Str) (many : Int), vs = [.ref p, .ref l, .int many] ∧ PoolAt H p s ∧ l ≠ p ∧ H l = some (.lst (names.map V.str)) ∧ 1 ≤ names.length ∧ names.length ≤ 25 ∧ names.Nodup ∧ 0 ≤ many ∧ many ≤ 100 ∧
  ∀ (d : Addr) (A : Str → Addr) (T : Tr) H', H d = none → (∀ z ∈ names, H (A z) = none) → RwAt H' d names A T → GoodT names T many.toNat → (∀ i ∈ idsOf names T, i < 11 * many) → (∀ y, ∀ t ∈ T y, Bd t.2.2) → Pl H H' p s → Q (.ref d) H'
theorem bd_far {y u : Int} (y0 : 0 ≤ y) (y8 : y < 2000001) (u0 : 0 ≤ u) (u8 : u < 5) : Bd ((y - 1000000) * (10 : Int) ^ (15 : Int).toNat + u) := by
  have e : (10 : Int) ^ (15 : Int).toNat = 1000000000000000 := by decide
  rw [e]
  unfold Bd
  omega
section
variable {P : Program} {w : World} {K : PySem.W.Frag} {mg : Str → Option Value} {base : Heap}
abbrev s_l_moment : Stmt := topS 71
theorem sc_l_moment : FnScope ["pool"] ["pool"] (defScope s_l_moment) := ⟨rfl, rfl, rfl, by decide +kernel, rfl, by decide +kernel, by decide +kernel⟩
theorem ok_moment {f : Addr} {fd : FuncData} (F : Fun K "_law_moment" "_law_moment" s_l_moment f fd) (B : Blt mg) (G : G1 P w K mg base) : FnOk P w K mg base CX0 2 f fd ["pool"] spMoment := by
  refine F.ok sc_l_moment (fun vs H Q E h => ?_) (fun cdv A outer s H vs Q E hr h => ?_)
  · obtain ⟨p, _, rfl, _⟩ := h
    rfl
  · obtain ⟨p, s0, rfl, hP, kk⟩ := h
    refine ⟨_, (pss_cons (ps_if (pt_cmpR op_eq (pe_cal G.law_draw (hr.mono (by decide)) pass0 (pa_cons (pv 0) (pa_cons pe_int pa_nil))) pe_int (nomark _))
      (pss_one (ps_ret (pe_op op_add (pe_op op_mul (pe_op op_sub (pe_cal G.law_draw (hr.mono (by decide)) pass0 (pa_cons (pv 0) (pa_cons pe_int pa_nil))) pe_int) (pe_op op_pow pe_int pe_int)) (pe_cal G.law_draw (hr.mono (by decide)) pass0 (pa_cons (pv 0) (pa_cons pe_int pa_nil))))))
      pss_nil)
    (pss_one (ps_ret (pe_op op_sub (pe_cal G.law_draw (hr.mono (by decide)) pass0 (pa_cons (pv 0) (pa_cons pe_int pa_nil))) pe_int)))), ?_⟩
    refine ⟨_, rfl, p, s0, 8, rfl, hP, (by decide), (by decide), fun x H1 x0 x8 P1 => ⟨rfl, _, rfl, ?_⟩⟩
    refine ite2 (fun c => ?_) (fun c => ?_)
    · refine ⟨_, rfl, p, s0, 2000001, rfl, P1.now, (by decide), (by decide), fun y H2 y0 y8 P2 => ?_⟩
      refine ⟨_, _, rfl, rfl, _, _, rfl, rfl, ⟨by decide, by decide, by decide⟩, _, _, rfl, rfl, .inl ⟨by omega, by omega⟩, _, rfl, p, s0, 5, rfl, P2.now, (by decide), (by decide), fun u H3 u0 u8 P3 => ⟨_, _, rfl, rfl, kk _ H3 (bd_far y0 y8 u0 u8) ((P1.trans P2).trans P3)⟩⟩
    · refine ⟨_, rfl, p, s0, 15, rfl, P1.now, (by decide), (by decide), fun y H2 y0 y8 P2 => ⟨_, _, rfl, rfl, kk _ H2 (by unfold Bd; omega) (P1.trans P2)⟩⟩
structure G2w (P : Program) (w : World) (K : PySem.W.Frag) (mg : Str → Option Value) (base : Heap) : Prop extends G1 P w K mg base where
  law_moment : Cal P w K mg base CX0 "_law_moment" 2 ["pool"] spMoment
abbrev s_l_rows : Stmt := topS 72
theorem sc_l_rows : FnScope ["pool", "streams", "many", "rows", "stream", "k"] ["pool", "streams", "many"] (defScope s_l_rows) := ⟨rfl, rfl, rfl, by decide +kernel, rfl, by decide +kernel, by decide +kernel⟩
theorem ok_wrows {f : Addr} {fd : FuncData} (F : Fun K "_law_rows" "_law_rows" s_l_rows f fd) (B : Blt mg) (G : G2w P w K mg base) : FnOk P w K mg base CX0 3 f fd ["pool", "streams", "many"] spLWRows := by
  refine F.ok sc_l_rows (fun vs H Q E h => ?_) (fun cdv A outer s H vs Q E hr h => ?_)
  · obtain ⟨p, _, l, names, many, rfl, _⟩ := h
    rfl
  · obtain ⟨p, s0, l, names, many, rfl, hP, hlp, hl, n1, n25, hnd, m0, m100, kk⟩ := h
    have hu := hu_of hr
    refine ⟨_, (pss_cons (ps_set (i := 3) sc_l_rows.nd rfl (Or.inl rfl) pe_dnewK)
    (pss_cons (ps_for PassesOwn.never rfl (pi_list (pv 1)) (pg_name (i := 4) sc_l_rows.nd rfl (Or.inl rfl))
      (pss_one (ps_dput hu (pv 3) (pv 4) (pe_lst pa_nil) rfl)))
    (pss_cons (ps_for PassesOwn.never rfl (pi_range1 (by rfl) B.range (pa_cons (pv 2) pa_nil)) (pg_name (i := 5) sc_l_rows.nd rfl (Or.inl rfl))
      (pss_cons (ps_set (i := 4) sc_l_rows.nd rfl (Or.inl rfl) (pe_ix ix_list (pv 1) (pe_cal G.law_draw (hr.mono (by decide)) pass0 (pa_cons (pv 0) (pa_cons (pe_callB call_len (by rfl) B.len (by decide +kernel) (pa_cons (pv 1) pa_nil)) pa_nil))) (fun _ _ => rfl)))
      (pss_one (ps_expr (pe_bm PySem.F.plainAttrs_list PySem.F.slot_list_append PySem.F.type_list_append mt_append (pe_dget hu (pv 3) (pv 4) (fun _ _ => rfl)) (pa_cons (pe_tup (pa_cons (pe_cal G.law_moment (hr.mono (by decide)) pass0 (pa_cons (pv 0) pa_nil)) (pa_cons (pe_op op_add (pe_op op_mul pe_int (pv 5)) (pe_cal G.law_draw (hr.mono (by decide)) pass0 (pa_cons (pv 0) (pa_cons pe_int pa_nil)))) (pa_cons (pe_cal G.law_moment (hr.mono (by decide)) pass0 (pa_cons (pv 0) pa_nil)) pa_nil)))) pa_nil))))))
    (pss_one (ps_ret (pv 3)))))), ?_⟩
    intro d hd
    have dp : d ≠ p := fun z => hP.ne.1 (z ▸ hd)
    have ds : d ≠ s0 := fun z => hP.ne.2 (z ▸ hd)
    have dl : l ≠ d := fun z => by rw [← z, hl] at hd; cases hd
    refine ⟨_, rfl, l, rfl, ⟨_, SqL.of (by rw [upd_ne dl]; exact hl)⟩, for_list (K := K) (a := l) (xs := names.map V.str) (fun i σ H1 => (∃ a b, σ = [some (.ref p), some (.ref l), some (.int many), some (.ref d), a, b]) ∧ Same H H1 ∧ ∃ A : Str → Addr, (H1 d = some (.dK ((names.take i).map fun z => (Sum.inr z, V.ref (A z))))) ∧ (∀ z ∈ names.take i, H1 (A z) = some (.lst []) ∧ H (A z) = none ∧ A z ≠ d) ∧ ∀ z ∈ names.take i, ∀ y ∈ names.take i, A z = A y → z = y) ?_ (fun i σ H1 _ hv => SqL.of (hv.2.1 _ _ hl)) ?_ ?_⟩
    · exact ⟨⟨_, _, rfl⟩, sameAt (Same.refl H) hd, fun _ => d, upd_same, (fun z hz => nomatch hz), (fun z hz => nomatch hz)⟩
    · rintro i y σ H1 hi ⟨⟨a, b, rfl⟩, s1, A, h1, h2, h3⟩
      obtain ⟨z, hz, rfl⟩ : ∃ z, names[i]? = some z ∧ y = V.str z := by
        rw [List.getElem?_map] at hi
        cases e : names[i]? with
        | none => rw [e] at hi; cases hi
        | some z => rw [e] at hi; exact ⟨z, rfl, (Option.some.inj hi).symm⟩
      have hzt : z ∉ names.take i := fun hm => by
        obtain ⟨j, hj, e⟩ := List.getElem_of_mem hm
        rw [List.length_take] at hj
        rw [List.getElem_take] at e
        have := nd_ix hnd (List.getElem?_eq_some_iff.mpr ⟨by omega, e⟩) hz
        omega
      have tl : (names.take i).length ≤ 25 := by rw [List.length_take]; omega
      refine ⟨(by show 0 ≤ sizeLine; decide), fun e he => ?_⟩
      have e0 : H e = none := none_of s1 he
      have ed : e ≠ d := fun q => by rw [q, h1] at he; cases he
      refine ⟨_, rfl, _, rfl, d, _, rfl, DPut.k (k := Sum.inr z) (by rw [upd_ne (Ne.symm ed)]; exact h1) (by rw [List.length_map]; exact small1000 (by omega)), ⟨_, _, rfl⟩, ?_, fun y => if y = z then e else A y, ?_, ?_, ?_⟩
      · exact fun c o hc => by rw [upd_ne (ne_of_none hc hd), upd_ne (ne_of_none hc e0)]; exact s1 _ _ hc
      · rw [upd_same, putK_new _ (by rw [valV_nm, if_neg hzt]), list_take hz, List.map_append]
        show some (HO.dK (_ ++ [(Sum.inr z, V.ref e)])) = some (HO.dK (_ ++ [(Sum.inr z, V.ref (if z = z then e else A z))]))
        rw [if_pos rfl]
        refine congrArg (fun q => some (HO.dK (q ++ [((Sum.inr z : Key), V.ref e)]))) (List.map_congr_left fun y hy => ?_)
        show (Sum.inr y, V.ref (A y)) = ((Sum.inr y : Key), V.ref (if y = z then e else A y))
        rw [if_neg (fun q : y = z => hzt (by rw [← q]; exact hy))]
      · intro y hy
        rw [list_take hz] at hy
        show upd _ _ _ (if y = z then e else A y) = _ ∧ H (if y = z then e else A y) = none ∧ (if y = z then e else A y) ≠ d
        rcases List.mem_append.mp hy with hy | hy
        · have hn : ¬ y = z := fun q => hzt (by rw [← q]; exact hy)
          obtain ⟨q1, q2, q3⟩ := h2 y hy
          have qe : A y ≠ e := fun q => by rw [q, he] at q1; cases q1
          rw [if_neg hn]
          exact ⟨by rw [upd_ne q3, upd_ne qe]; exact q1, q2, q3⟩
        · rw [List.mem_singleton.mp hy, if_pos rfl]
          exact ⟨by rw [upd_ne ed, upd_same], e0, ed⟩
      · intro y hy x hx
        rw [list_take hz] at hy hx
        show (if y = z then e else A y) = (if x = z then e else A x) → _
        have nz : ∀ u ∈ names.take i, ¬ u = z := fun u hu q => hzt (by rw [← q]; exact hu)
        have ne : ∀ u ∈ names.take i, A u ≠ e := fun u hu q => by
          have := (h2 u hu).1
          rw [q, he] at this
          cases this
        rcases List.mem_append.mp hy with hy | hy <;> rcases List.mem_append.mp hx with hx | hx
        · rw [if_neg (nz y hy), if_neg (nz x hx)]
          exact h3 y hy x hx
        · rw [List.mem_singleton.mp hx, if_neg (nz y hy), if_pos rfl]
          exact fun q => absurd q (ne y hy)
        · rw [List.mem_singleton.mp hy, if_neg (nz x hx), if_pos rfl]
          exact fun q => absurd q.symm (ne x hx)
        · rw [List.mem_singleton.mp hx, List.mem_singleton.mp hy]
          exact fun _ => rfl
    · rintro σ H1 ⟨⟨a, b, rfl⟩, s1, A, h1, h2, h3⟩
      rw [List.length_map, List.take_length] at h1 h2 h3
      have hAp : ∀ z ∈ names, A z ≠ p := fun z hz q => hP.ne.1 (q ▸ (h2 z hz).2.1)
      refine ⟨_, rfl, _, rfl, (by omega), (by omega), for_range (n := many.toNat) (fun k σ H2 => (∃ a b, σ = [some (.ref p), some (.ref l), some (.int many), some (.ref d), a, b]) ∧ ∃ T : Tr, RwAt H2 d names A T ∧ GoodT names T k ∧ (∀ i ∈ idsOf names T, i < 11 * (k : Int)) ∧ Pl H H2 p s0 ∧ H2 l = some (.lst (names.map V.str)) ∧ ∀ y, ∀ t ∈ T y, Bd t.2.2) ?_ ?_ ?_⟩
      · refine ⟨⟨_, _, rfl⟩, fun _ => [], ⟨h1, fun z hz => ⟨[], (h2 z hz).1, rfl, fun i v t a b => by simp at a⟩, h3⟩, ?_, ?_, (Pl.refl hP).same s1, s1 _ _ hl, fun y t ht => nomatch ht⟩
        · have e : idsOf names (fun _ => []) = [] := by
            unfold idsOf
            induction names with
            | nil => rfl
            | cons a r ih => simp
          exact ⟨by rw [e]; rfl, by rw [e]; exact List.nodup_nil, by rw [e]; exact fun i hi => nomatch hi⟩
        · intro i hi
          obtain ⟨z, _, t, ht, _⟩ := mem_ids.mp hi
          cases ht
      · rintro k σ H2 hk ⟨⟨a, b, rfl⟩, T, R, G2, up, P2, hl2, bd⟩
        refine ⟨_, rfl, _, rfl, _, rfl, _, _, rfl, .inl ⟨_, SqL.of hl2, rfl⟩, p, s0, _, rfl, P2.now, (by rw [List.length_map]; omega), Int.lt_of_le_of_lt (show ((names.map V.str).length : Int) ≤ 25 by rw [List.length_map]; omega) (by decide), fun g H3 g0 g1 P3 => ?_⟩
        rw [List.length_map] at g1
        obtain ⟨j, rfl⟩ : ∃ j : Nat, g = (j : Int) := ⟨g.toNat, by omega⟩
        have hj : j < names.length := by omega
        have hz : names[j] ∈ names := List.getElem_mem hj
        generalize hzz : names[j] = z at hz
        refine ⟨_, _, _, .str z, rfl, rfl, SqL.of (P3.keep hl2 hlp), atI_nat (by rw [List.getElem?_map, List.getElem?_eq_getElem hj, hzz]; rfl), ?_⟩
        have R3 := R.pl P2.now hAp P3
        have P13 := P2.trans P3
        have hg := DGet.k (k := Sum.inr z) R3.at_
        rw [valV_nm, if_pos hz] at hg
        obtain ⟨ys3, hy3, _⟩ := R3.row z hz
        refine ⟨_, rfl, _, rfl, d, _, rfl, hg, .inl ⟨rfl, _, SqL.of hy3⟩, ?_⟩
        -- the moment
        refine ⟨_, rfl, p, s0, rfl, P3.now, fun m1 H4 _ P4 => ?_⟩
        have R4 := R3.pl P3.now hAp P4
        refine ⟨_, rfl, _, _, rfl, rfl, .inl ⟨by decide, by decide⟩, _, rfl, p, s0, 11, rfl, P4.now, (by decide), (by decide), fun u H5 u0 u11 P5 => ⟨_, _, rfl, rfl, ?_⟩⟩
        have R5 := R4.pl P4.now hAp P5
        refine ⟨_, rfl, p, s0, rfl, P5.now, fun m2 H6 hm2 P6 => ?_⟩
        have R6 := R5.pl P5.now hAp P6
        have P16 := (((P13.trans P4).trans P5).trans P6)
        refine ⟨(by show 3 ≤ sizeLine; decide), fun e he => ?_⟩
        have R7 : RwAt (upd H6 e (.tup (tv (m1, 11 * (0 + (k : Int)) + u, m2)))) d names A T := R6.same (sameAt (Same.refl H6) he)
        obtain ⟨ys, hy, hT⟩ := R7.row z hz
        have G2z := G2.few hz
        have yl := hT.1
        have P17 : Pl H (upd H6 e (.tup (tv (m1, 11 * (0 + (k : Int)) + u, m2)))) p s0 := P16.new he
        refine ⟨A z, ys, _, rfl, rfl, hy, (by rw [yl]; exact small1000 (by omega)), ⟨_, _, rfl⟩, addT T z (m1, 11 * (0 + (k : Int)) + u, m2), R7.add hz hy hT upd_same, ?_, ?_, P17.at (h2 z hz).2.1, ?_, fun y t ht => ?_⟩
        · have pm := ids_add (T := T) (t := (m1, 11 * (0 + (k : Int)) + u, m2)) hnd hz
          refine ⟨by rw [pm.length_eq, List.length_append, G2.len]; rfl, ?_, fun i hi => ?_⟩
          · rw [pm.nodup_iff, List.nodup_append]
            refine ⟨G2.nd, by simp, fun x hx y hy q => ?_⟩
            have := up x hx
            rw [List.mem_singleton.mp hy] at q
            have q : x = 11 * (0 + (k : Int)) + u := q
            omega
          · rcases List.mem_append.mp (pm.mem_iff.mp hi) with hi | hi
            · exact G2.lo i hi
            · rw [List.mem_singleton.mp hi]
              show 0 ≤ 11 * (0 + (k : Int)) + u
              omega
        · intro i hi
          have pm := ids_add (T := T) (t := (m1, 11 * (0 + (k : Int)) + u, m2)) hnd hz
          rcases List.mem_append.mp (pm.mem_iff.mp hi) with hi | hi
          · have := up i hi
            omega
          · rw [List.mem_singleton.mp hi]
            show 11 * (0 + (k : Int)) + u < _
            omega
        · have hl6 := P6.keep (P5.keep (P4.keep (P3.keep hl2 hlp) hlp) hlp) hlp
          rw [upd_ne (fun q => by rw [q] at hl; rw [(h2 z hz).2.1] at hl; cases hl), upd_ne (ne_of_none hl6 he)]
          exact hl6
        · by_cases ey : y = z
          · subst ey
            rw [addT_at] at ht
            rcases List.mem_append.mp ht with ht | ht
            · exact bd y t ht
            · rw [List.mem_singleton.mp ht]
              exact hm2
          · rw [addT_no ey] at ht
            exact bd y t ht
      · rintro σ H2 ⟨⟨a, b, rfl⟩, T, R, G2, up, P2, hl2, bd⟩
        exact ⟨_, rfl, kk d A T H2 hd (fun z hz => (h2 z hz).2.1) R G2 (fun i hi => by have := up i hi; omega) bd P2⟩
end
end Ash

set_option Elab.async false
set_option linter.all false
set_option maxRecDepth 100000
set_option maxHeartbeats 4000000
namespace Ash
open PySem PySem.Spec PyProof.Rows L2
open C8 (pss_cut)
/-! ### kinds of values -/
def NotInt (K : PySem.W.Frag) (H : Hp) (v : V) : Prop := ∃ t bi bb, TyX K H v t ∧ PySem.W.kitOne K t (.type "int") = some bi ∧ PySem.W.kitOne K t (.type "bool") = some bb ∧ (bi && !bb) = false
def NotStr (K : PySem.W.Frag) (H : Hp) (v : V) : Prop := ∃ t, TyX K H v t ∧ PySem.W.kitOne K t (.type "str") = some false
def NotTup (K : PySem.W.Frag) (H : Hp) (v : V) : Prop := ∃ t, TyX K H v t ∧ PySem.W.kitOne K t (.type "tuple") = some false
def spIsInt (K : PySem.W.Frag) : Sp := fun vs H Q _ => ∃ v, vs = [v] ∧ ((∃ n, v = .int n ∧ Q (.bl true) H) ∨ (NotInt K H v ∧ Q (.bl false) H))
def spIsNat (K : PySem.W.Frag) : Sp := fun vs H Q _ => ∃ v, vs = [v] ∧ ((∃ n, v = .int n ∧ Q (.bl (decide (0 ≤ n))) H) ∨ (NotInt K H v ∧ Q (.bl false) H))
/-- the test of names -/
def nmB (z : Str) : Bool := decide (1 ≤ z.length ∧ z.length ≤ 8) && z.cps.toList.all fun c => decide (c ∈ LET)
theorem nmB_iff (z : Str) : nmB z = true ↔ IsNm z := by
  unfold nmB IsNm
  simp only [Bool.and_eq_true, decide_eq_true_eq, List.all_eq_true]
  exact ⟨fun ⟨⟨a, b⟩, c⟩ => ⟨a, b, c⟩, fun ⟨a, b, c⟩ => ⟨⟨a, b⟩, c⟩⟩
def spIsName (K : PySem.W.Frag) : Sp := fun vs H Q _ => ∃ v, vs = [v] ∧ ((∃ z, v = .str z ∧ z.length ≤ sizeLine ∧ ∀ H', Same H H' → Q (.bl (nmB z)) H') ∨ (NotStr K H v ∧ Q (.bl false) H))
def spAreInts (K : PySem.W.Frag) : Sp := fun vs H Q _ => ∃ (a : Addr) (ns : List Int), vs = [.ref a] ∧ SqT K H a (ns.map V.int) ∧ ns.length ≤ 100 ∧ ∀ H', Same H H' → Q (.bl true) H'
def spIsRow (K : PySem.W.Frag) : Sp := fun vs H Q _ => ∃ (a : Addr) (us : List V), vs = [.ref a] ∧ (H a = some (.lst us) ∨ SqT K H a us) ∧ ∀ H', Same H H' → Q (.bl true) H'
theorem list_lit (l : List Nat) : ∀ i x, l[i]? = some x → l.take (i + 1) = l.take i ++ [x] := fun i x h => by
  rw [List.take_add_one, h]
  rfl
structure Cst (mg : Str → Option Value) : Prop where
  k_LETTERS : ∃ t, mg "LETTERS" = some (.str abc t)
  k_LONGEST_NAME : ∃ t, mg "LONGEST_NAME" = some (.int 8 t)
  k_MOST_DEPTH : ∃ t, mg "MOST_DEPTH" = some (.int 12 t)
  k_MOST_PARTS : ∃ t, mg "MOST_PARTS" = some (.int 40 t)
  k_MOST_LOOKS : ∃ t, mg "MOST_LOOKS" = some (.int 12 t)
  k_MOST_ROWS : ∃ t, mg "MOST_ROWS" = some (.int 400 t)
  k_MOMENT : ∃ t, mg "MOMENT" = some (.int 0 t)
  k_AMOUNT : ∃ t, mg "AMOUNT" = some (.int 2 t)
section
variable {P : Program} {w : World} {K : PySem.W.Frag} {mg : Str → Option Value} {base : Heap}
structure K1 (P : Program) (w : World) (K : PySem.W.Frag) (mg : Str → Option Value) (base : Heap) : Prop where
  is_integer : Cal P w K mg base CX0 "is_integer" 1 ["thing"] (spIsInt K)
abbrev s_is_integer : Stmt := topS 12
theorem sc_is_integer : FnScope ["thing"] ["thing"] (defScope s_is_integer) := ⟨rfl, rfl, rfl, by decide +kernel, rfl, by decide +kernel, by decide +kernel⟩
theorem ok_is_integer {f : Addr} {fd : FuncData} (F : Fun K "is_integer" "is_integer" s_is_integer f fd) (B : Blt mg) : FnOk P w K mg base CX0 1 f fd ["thing"] (spIsInt K) := by
  refine F.ok sc_is_integer (fun vs H Q E h => ?_) (fun cdv A outer s H vs Q E hr h => ?_)
  · obtain ⟨v, rfl, _⟩ := h
    rfl
  · obtain ⟨v, rfl, hv⟩ := h
    refine ⟨_, (pss_one (ps_ret (pe_and (pe_callB call_isi (by rfl) B.isinstance (by decide +kernel) (pa_cons (pv 0) (pa_cons (pe_bltn (v := .ty "int") (by rfl) B.int (by decide +kernel) rfl) pa_nil))) (pe_one (pe_not (pe_callB call_isi (by rfl) B.isinstance (by decide +kernel) (pa_cons (pv 0) (pa_cons (pe_bltn (v := .ty "bool") (by rfl) B.bool (by decide +kernel) rfl) pa_nil)))))))), ?_⟩
    rcases hv with ⟨n, rfl, q⟩ | ⟨⟨t, bi, bb, ty, e1, e2, e3⟩, q⟩
    · refine ⟨_, rfl, _, _, _, _, true, rfl, ClsV.ty _, .base (.int n), kit_ty (by decide +kernel), _, rfl, iteT ?_⟩
      refine ⟨_, rfl, _, _, _, _, false, rfl, ClsV.ty _, .base (.int n), kit_ty (by decide +kernel), _, rfl, q⟩
    · refine ⟨_, rfl, _, _, _, _, bi, rfl, ClsV.ty _, ty, e1, _, rfl, ?_⟩
      cases bi with
      | false => exact iteF q
      | true =>
        refine iteT ⟨_, rfl, _, _, _, _, bb, rfl, ClsV.ty _, ty, e2, _, rfl, ?_⟩
        have e3 : (!bb) = false := e3
        rw [e3]
        exact q
abbrev s_is_natural : Stmt := topS 13
theorem sc_is_natural : FnScope ["thing"] ["thing"] (defScope s_is_natural) := ⟨rfl, rfl, rfl, by decide +kernel, rfl, by decide +kernel, by decide +kernel⟩
theorem ok_is_natural {f : Addr} {fd : FuncData} (F : Fun K "is_natural" "is_natural" s_is_natural f fd) (B : Blt mg) (G : K1 P w K mg base) : FnOk P w K mg base CX0 2 f fd ["thing"] (spIsNat K) := by
  refine F.ok sc_is_natural (fun vs H Q E h => ?_) (fun cdv A outer s H vs Q E hr h => ?_)
  · obtain ⟨v, rfl, _⟩ := h
    rfl
  · obtain ⟨v, rfl, hv⟩ := h
    refine ⟨_, (pss_one (ps_ret (pe_and (pe_cal G.is_integer (hr.mono (by decide)) pass0 (pa_cons (pv 0) pa_nil)) (pe_one (pe_cmpR op_ge (pv 0) pe_int (nomark _)))))), ?_⟩
    rcases hv with ⟨n, rfl, q⟩ | ⟨ni, q⟩
    · exact ⟨_, rfl, _, rfl, .inl ⟨n, rfl, _, rfl, iteT ⟨_, rfl, _, _, rfl, rfl, q⟩⟩⟩
    · exact ⟨_, rfl, _, rfl, .inr ⟨ni, _, rfl, iteF q⟩⟩
abbrev s_is_name : Stmt := topS 14
theorem sc_is_name : FnScope ["thing", "letter"] ["thing"] (defScope s_is_name) := ⟨rfl, rfl, rfl, by decide +kernel, rfl, by decide +kernel, by decide +kernel⟩
theorem ok_is_name {f : Addr} {fd : FuncData} (F : Fun K "is_name" "is_name" s_is_name f fd) (B : Blt mg) (Cs : Cst mg) : FnOk P w K mg base CX0 1 f fd ["thing"] (spIsName K) := by
  obtain ⟨t1, g_LETTERS⟩ := Cs.k_LETTERS
  obtain ⟨t2, g_LONGEST_NAME⟩ := Cs.k_LONGEST_NAME
  refine F.ok sc_is_name (fun vs H Q E h => ?_) (fun cdv A outer s H vs Q E hr h => ?_)
  · obtain ⟨v, rfl, _⟩ := h
    rfl
  · obtain ⟨v, rfl, hv⟩ := h
    refine ⟨_, (pss_cons (ps_if (PW.pt (pw_or (pt_not (pt_val (pe_callB call_isi (by rfl) B.isinstance (by decide +kernel) (pa_cons (pv 0) (pa_cons (pe_bltn (v := .ty "str") (by rfl) B.str (by decide +kernel) rfl) pa_nil))))) (pw_or1 (pt_not (pt_chain op_le op_le pe_int (pe_callB call_len_str (by rfl) B.len (by decide +kernel) (pa_cons (pv 0) pa_nil)) (pe_glob (v := .int 8) (by rfl) g_LONGEST_NAME ⟨_, rfl⟩))))))
      (pss_one (ps_ret pe_bl))
      pss_nil)
    (pss_one (ps_ret (pe_callB (cr_all rfl) (by rfl) B.all (by decide +kernel) (pa_cons (pe_lc (own := [("letter", 1)]) (g := gName 1) (tt := tYes) (by rfl) sc_is_name.nd (pi_str (pv 0)) (blkOk_by (own := [("letter", 1)]) (N := ["thing", "letter"]) (sc := defScope s_is_name) (by decide +kernel)) (fun _ _ _ _ _ => (pg_name (i := 1) sc_is_name.nd rfl (Or.inl rfl))) (fun _ _ _ _ _ => pts_nil) (fun _ _ _ _ _ => (pe_cmpR op_in_sign (pv 1) (pe_glob (v := .str "abcdefghijklmnopqrstuvwxyz") (by rfl) g_LETTERS ⟨_, rfl⟩) rfl))) pa_nil))))), ?_⟩
    rcases hv with ⟨z, rfl, hz, q⟩ | ⟨⟨t, ty, e1⟩, q⟩
    · refine ⟨_, rfl, _, _, _, _, true, rfl, ClsV.ty _, .base (.str z), kit_ty (by decide +kernel), _, rfl, iteF ?_⟩
      refine ⟨_, rfl, _, rfl, hz, _, _, rfl, rfl, _, rfl, ?_⟩
      refine ite2 (fun c1 => ?_) (fun c1 => ?_)
      · have c1 : (1 : Int) ≤ z.length := of_decide_eq_true c1
        refine ⟨_, _, rfl, rfl, _, rfl, ?_⟩
        by_cases c8 : (z.length : Int) ≤ 8
        · refine iteNS c8 ?_
          refine ⟨_, rfl, z, rfl, fun D hD => lc_it (walk_str (z := z)) (fun i H1 => H1 D = some (.lst (((z.cps.toList.take i).map fun c => decide (c ∈ LET)).map V.bl)) ∧ Same H H1) ⟨upd_same, sameAt (Same.refl H) hD⟩ (fun _ _ _ _ => trivial) ?_ ?_⟩
          · rintro i x H1 H2 hi ⟨hD1, hs⟩ ⟨rfl, c, hc, rfl⟩
            have hc' : z.cps.toList[i]? = some c := by rw [Array.getElem?_toList]; exact hc
            have hlen : (z.cps.toList.take i).length ≤ 8 := by
              have : i < z.length := hi
              rw [List.length_take]
              omega
            refine ⟨rfl, _, rfl, c, abc, rfl, rfl, _, hD1, (by rw [List.length_map, List.length_map]; exact small1000 (by omega)), ?_, sameAt hs hD⟩
            rw [upd_same, list_lit _ _ _ hc', abc_let, List.map_append, List.map_append]
            rfl
          · rintro H1 ⟨hD1, hs⟩
            have e : z.cps.toList.take z.cps.size = z.cps.toList := by rw [← Array.length_toList, List.take_length]
            rw [e] at hD1
            refine ⟨D, _, rfl, SqL.of hD1, ?_⟩
            have e2 : ((z.cps.toList.map fun c => decide (c ∈ LET)).all id) = nmB z := by
              unfold nmB
              rw [decide_eq_true (show 1 ≤ z.length ∧ z.length ≤ 8 by omega), Bool.true_and, List.all_map]
              rfl
            rw [e2]
            exact q _ hs
        · rw [decide_eq_false c8]
          refine iteT ?_
          have e2 : nmB z = false := by
            unfold nmB
            rw [decide_eq_false (show ¬ (1 ≤ z.length ∧ z.length ≤ 8) by omega), Bool.false_and]
          have := q H (Same.refl H)
          rw [e2] at this
          exact this
      · have c1 : ¬ (1 : Int) ≤ z.length := by simpa using c1
        refine ⟨_, rfl, iteT ?_⟩
        have e2 : nmB z = false := by
          unfold nmB
          rw [decide_eq_false (show ¬ (1 ≤ z.length ∧ z.length ≤ 8) by omega), Bool.false_and]
        have := q H (Same.refl H)
        rw [e2] at this
        exact this
    · refine ⟨_, rfl, _, _, _, _, false, rfl, ClsV.ty _, ty, e1, _, rfl, iteT q⟩
structure K2 (P : Program) (w : World) (K : PySem.W.Frag) (mg : Str → Option Value) (base : Heap) : Prop extends K1 P w K mg base where
  is_natural : Cal P w K mg base CX0 "is_natural" 2 ["thing"] (spIsNat K)
  is_name : Cal P w K mg base CX0 "is_name" 1 ["thing"] (spIsName K)
abbrev s_are_integers : Stmt := topS 16
theorem sc_are_integers : FnScope ["things", "thing"] ["things"] (defScope s_are_integers) := ⟨rfl, rfl, rfl, by decide +kernel, rfl, by decide +kernel, by decide +kernel⟩
theorem ok_are_integers {f : Addr} {fd : FuncData} (F : Fun K "are_integers" "are_integers" s_are_integers f fd) (B : Blt mg) (G : K2 P w K mg base) : FnOk P w K mg base CX0 2 f fd ["things"] (spAreInts K) := by
  refine F.ok sc_are_integers (fun vs H Q E h => ?_) (fun cdv A outer s H vs Q E hr h => ?_)
  · obtain ⟨a, ns, rfl, _⟩ := h
    rfl
  · obtain ⟨a, ns, rfl, hS, hn, q⟩ := h
    refine ⟨_, (pss_one (ps_ret (pe_callB (cr_all rfl) (by rfl) B.all (by decide +kernel) (pa_cons (pe_lc (own := [("thing", 1)]) (g := gName 1) (tt := tYes) (by rfl) sc_are_integers.nd (pi_tup (pv 0)) (blkOk_by (own := [("thing", 1)]) (N := ["things", "thing"]) (sc := defScope s_are_integers) (by decide +kernel)) (fun _ _ _ _ _ => (pg_name (i := 1) sc_are_integers.nd rfl (Or.inl rfl))) (fun _ _ _ _ _ => pts_nil) (fun _ _ _ _ _ => (pe_cal G.is_integer (hr.mono (by decide)) pass0 (pa_cons (pv 1) pa_nil)))) pa_nil)))), ?_⟩
    refine ⟨_, rfl, a, rfl, ⟨_, hS⟩, fun D hD => lc_it (walk_tup (xs := ns.map V.int)) (fun i H1 => H1 D = some (.lst ((List.replicate i true).map V.bl)) ∧ Same H H1) ⟨upd_same, sameAt (Same.refl H) hD⟩ (fun i H1 _ hv => ?_) ?_ ?_⟩
    · rcases hS with (h | ⟨o, h⟩) | h
      · exact .inl (.inl (hv.2 _ _ h))
      · exact .inl (.inr ⟨o, hv.2 _ _ h⟩)
      · exact .inr h
    · rintro i x H1 H2 hi ⟨hD1, hs⟩ ⟨rfl, hx⟩
      obtain ⟨z, rfl⟩ : ∃ z, x = V.int z := by
        rw [List.getElem?_map] at hx
        cases e : ns[i]? with
        | none => rw [e] at hx; cases hx
        | some z => rw [e] at hx; exact ⟨z, (Option.some.inj hx).symm⟩
      rw [List.length_map] at hi
      refine ⟨rfl, _, rfl, _, rfl, .inl ⟨z, rfl, _, hD1, (by rw [List.length_map, List.length_replicate]; exact small1000 (by omega)), ?_, sameAt hs hD⟩⟩
      rw [upd_same, List.replicate_succ', List.map_append]
      rfl
    · rintro H1 ⟨hD1, hs⟩
      refine ⟨D, _, rfl, SqL.of hD1, ?_⟩
      rw [List.length_map] at hD1 ⊢
      have e2 : ((List.replicate ns.length true).all id) = true := by simp
      rw [e2]
      exact q _ hs
abbrev s_is_row : Stmt := topS 15
theorem sc_is_row : FnScope ["thing"] ["thing"] (defScope s_is_row) := ⟨rfl, rfl, rfl, by decide +kernel, rfl, by decide +kernel, by decide +kernel⟩
theorem ok_is_row {f : Addr} {fd : FuncData} (F : Fun K "is_row" "is_row" s_is_row f fd) (B : Blt mg) : FnOk P w K mg base CX0 1 f fd ["thing"] (spIsRow K) := by
  refine F.ok sc_is_row (fun vs H Q E h => ?_) (fun cdv A outer s H vs Q E hr h => ?_)
  · obtain ⟨a, us, rfl, _⟩ := h
    rfl
  · obtain ⟨a, us, rfl, hS, q⟩ := h
    refine ⟨_, (pss_one (ps_ret (pe_callB call_isiT (by rfl) B.isinstance (by decide +kernel) (pa_cons (pv 0) (pa_cons (pe_tup (pa_cons (pe_bltn (v := .ty "list") (by rfl) B.list (by decide +kernel) rfl) (pa_cons (pe_bltn (v := .ty "tuple") (by rfl) B.tuple (by decide +kernel) rfl) pa_nil))) pa_nil))))), ?_⟩
    refine ⟨_, rfl, (by show 2 ≤ sizeLine; decide), fun p hp => ?_⟩
    rcases hS with hS | hS
    · refine ⟨_, p, _, .type "list", [.type "list", .type "tuple"], true, rfl, upd_same, .cons (ClsV.ty _) (.cons (ClsV.ty _) .nil), .base (.lst (by rw [upd_ne (ne_of_none hS hp)]; exact hS)), kitAny_cons (b := true) (kit_ty (by decide +kernel)) (fun z => by cases z) (fun _ => rfl), q _ (sameAt (Same.refl H) hp)⟩
    · have ty : TyX K (upd H p (.tup [.ty "list", .ty "tuple"])) (.ref a) (.type "tuple") := by
        rcases hS with (h | ⟨o, h⟩) | ⟨o, its, n, h1, h2, h3⟩
        · exact .base (.tup (by rw [upd_ne (ne_of_none h hp)]; exact h))
        · exact .fTuple (by rw [upd_ne (ne_of_none h hp)]; exact h)
        · exact .kTuple h1 h2
      refine ⟨_, p, _, .type "tuple", [.type "list", .type "tuple"], true, rfl, upd_same, .cons (ClsV.ty _) (.cons (ClsV.ty _) .nil), ty, kitAny_cons (b := false) (kit_ty (by decide +kernel)) (fun _ => kitAny_cons (b := true) (kit_ty (by decide +kernel)) (fun z => by cases z) (fun _ => rfl)) (fun z => by cases z), q _ (sameAt (Same.refl H) hp)⟩
structure K3 (P : Program) (w : World) (K : PySem.W.Frag) (mg : Str → Option Value) (base : Heap) : Prop extends K2 P w K mg base where
  are_integers : Cal P w K mg base CX0 "are_integers" 2 ["things"] (spAreInts K)
  is_row : Cal P w K mg base CX0 "is_row" 1 ["thing"] (spIsRow K)
end
end Ash

set_option Elab.async false
set_option linter.all false
set_option maxRecDepth 100000
set_option maxHeartbeats 4000000
namespace SrtT
open PySem PySem.Spec PyProof.Rows L2 Srt SrtO
section
variable {prog : Program} {w : World} {A : Around} {E : Value → Shared → Prop} {s : Shared}
/-- the items of a tuple, collected in a new list -/
theorem coll_tup {l : Addr} {vs : List Value} {Q : List Value → Shared → Prop} (hl : s.heap.IsTuple l vs.toArray) (hz : vs.length ≤ sizeLine)
    (h : Q vs { s with heap := (s.heap.push (seqObj "list" #[] 0)).update s.heap.objs.size (Obj.mapSeq (· ++ vs.toArray)) }) : wpAny (model prog w) A (collect (.ref l)) Q E s := by
  have ⟨o, ho, hc, n, hd⟩ := hl
  have hp : (s.heap.push (seqObj "list" #[] 0)).get? l = some o := Heap.get?_push_of_some _ ho
  have hq : (s.heap.push (seqObj "list" #[] 0)).get? s.heap.objs.size = some (seqObj "list" #[] 0) := Heap.get?_push_size _ rfl
  have room : (#[] ++ vs.toArray : Array Value).size ≤ sizeLine + 1 := by
    rw [Array.size_append, List.size_toArray]
    show 0 + vs.length ≤ _
    omega
  unfold collect
  refine wpAny_bind <| wpAny_runValue <| codeAny_builtin entry_proto_collect' ?_
  show wpAny _ _ (newList [] >>= fun v => again (.builtin "list.__iadd__" ⟨[v, .ref l], []⟩)) _ _ s
  refine wpAny_bind <| wpAny_newList <| wpAny_pure ⟨Code.quiet_builtin _ (by decide +kernel), codeAny_builtin entry_list_iadd' ?_⟩
  show wpAny _ _ (PySem.Builtin.List.listExtendWith (.ref s.heap.objs.size) (.ref l) (.ref s.heap.objs.size)) _ _ { s with heap := s.heap.push (seqObj "list" #[] 0) }
  unfold PySem.Builtin.List.listExtendWith
  refine wpAny_bind <| wpAny_typeOf (T := "tuple") ⟨o, hp, hc⟩ ?_
  rw [if_pos (by rw [show (Value.type "tuple" == Value.type "tuple") = true from rfl, Bool.or_true])]
  refine wpAny_bind <| listItems_at hp hd <| wpAny_bind <| listItems_at (xs := #[]) (n := 0) hq rfl ?_
  rw [if_neg (by simp)]
  refine wpAny_bind <| listUpdate_at (xs := #[]) (n := 0) hq rfl ?_ (Nat.zero_le _) room
  refine wpAny_pure ?_
  show wpAny (model prog w) A (load s.heap.objs.size >>= fun o => match o.data with | .seq xs _ => pure xs.toList | _ => unsupported "internal:collect") Q E { s with heap := (s.heap.push (seqObj "list" #[] 0)).update s.heap.objs.size (Obj.mapSeq (· ++ vs.toArray)) }
  refine wpAny_bind <| wpAny_load (get?_update_seq hq _) ?_
  have e : ((#[] : Array Value) ++ vs.toArray).toList = vs := by simp
  show wpAny _ _ (pure ((#[] : Array Value) ++ vs.toArray).toList) Q E _
  rw [e]
  exact wpAny_pure h
/-- sorted(t), t a tuple -/
theorem sorted_tupO {l : Addr} {vs : List Value} {ltv : Value → Value → Bool} {Q : Value → Shared → Prop} (O : Swo ltv) (hl : s.heap.IsTuple l vs.toArray) (hz : vs.length ≤ sizeLine)
    (hS : 2 ≤ vs.length → ∀ (h₁ : Heap) (a : Addr), h₁.get? a = some (seqObj "list" vs.toArray 0) → (∀ b o, s.heap.get? b = some o → b ≠ a ∧ h₁.get? b = some o) → SortableO prog w A.in1.in1 { s with heap := h₁ } a vs ltv)
    (h : ∀ out : List Value, Srtd ltv out → Stb ltv out vs → Q (.ref (s.heap.objs.size + 1)) { s with heap := sortedAll s.heap vs out.toArray }) : wpAny (model prog w) A (call (.builtin "sorted") [.ref l]) Q E s := by
  have h1 : ((s.heap.push (seqObj "list" #[] 0)).update s.heap.objs.size (Obj.mapSeq (· ++ vs.toArray))).objs.size = s.heap.objs.size + 1 := by rw [Heap.size_update, size_push']
  have h2 : (((s.heap.push (seqObj "list" #[] 0)).update s.heap.objs.size (Obj.mapSeq (· ++ vs.toArray))).push (seqObj "list" vs.toArray 0)).get? (s.heap.objs.size + 1) = some (seqObj "list" vs.toArray 0) := by
    have := Heap.get?_push_size ((s.heap.push (seqObj "list" #[] 0)).update s.heap.objs.size (Obj.mapSeq (· ++ vs.toArray))) (o := seqObj "list" vs.toArray 0) rfl
    rwa [h1] at this
  have stay : ∀ b o, s.heap.get? b = some o → b ≠ s.heap.objs.size + 1 ∧ (((s.heap.push (seqObj "list" #[] 0)).update s.heap.objs.size (Obj.mapSeq (· ++ vs.toArray))).push (seqObj "list" vs.toArray 0)).get? b = some o := fun b o q => by
    have lt : b < s.heap.objs.size := Heap.lt_size q
    refine ⟨Nat.ne_of_lt (Nat.lt_succ_of_lt lt), Heap.get?_push_of_some _ ?_⟩
    rw [Heap.get?_update_ne _ _ _ _ (Nat.ne_of_lt lt)]
    exact Heap.get?_push_of_some _ q
  refine Calls.call_function_entry kind_sorted plain_sorted entry_sorted (args_sorted1 _) ?_
  unfold Builtin.«sorted»
  refine wpAny_bind (m := checkCount "sorted" 1 1 _) <| wpAny_pure <| wpAny_bind <| coll_tup hl hz <| wpAny_bind <| wpAny_newList ?_ hz
  show wpAny _ _ _ _ _ { s with heap := ((s.heap.push (seqObj "list" #[] 0)).update s.heap.objs.size (Obj.mapSeq (· ++ vs.toArray))).push (seqObj "list" vs.toArray 0) }
  rw [h1]
  refine wpAny_bind <| wpAny_holding <| wpAny_call_entry slot_list_sort ⟨_, h2, rfl⟩ entry_list_sort (list_sort_ord O h2 hz (fun k => hS k _ _ h2 stay) fun out hs hb => ⟨_, rfl, ?_⟩) (args_list_sort _)
  exact wpAny_pure ⟨_, rfl, h out hs hb⟩
/-- sorted(t) of triples of ints -/
theorem sorted3T {l : Addr} {vs : List Value} {k : Value → T3} {Q : Value → Shared → Prop} (hl : s.heap.IsTuple l vs.toArray) (hz : vs.length ≤ sizeLine) (hp : ∀ v ∈ vs, Is3 s.heap v (k v))
    (h : ∀ (h' : Heap) (d : Addr) (out : List Value), Srtd (fun v u => lex3 (k v) (k u)) out → Stb (fun v u => lex3 (k v) (k u)) out vs → (∀ b o, s.heap.get? b = some o → h'.get? b = some o) → s.heap.objs.size ≤ d → (∃ n, h'.get? d = some (seqObj "list" out.toArray n)) → Q (.ref d) { s with heap := h' }) :
    wpAny (model prog w) A (call (.builtin "sorted") [.ref l]) Q E s := by
  refine sorted_tupO (swo3 k) hl hz (fun h2 h₁ a ha kk => ?_) fun out hs hb => h _ _ out hs hb (fun b o g => sortedAll_old g) (Nat.le_succ _) (sortedAll_at s.heap vs out.toArray)
  refine sortable3 (s := { s with heap := h₁ }) (by omega) (fun v hv => (hp v hv).stay fun b o g _ => (kk b o g).2) fun o g c => ?_
  have same : some o = some (seqObj "list" vs.toArray 0) := by rw [← g, ha]
  cases same
  exact absurd (Value.type.inj c) (by decide)
end
end SrtT
namespace L2
open PySem PySem.Spec PyProof.Rows SrtT
/-- a list or a tuple -/
def SqA (K : PySem.W.Frag) (H : Hp) (a : Addr) (xs : List V) : Prop := SqL K H a xs ∨ SqT K H a xs
def iAny (K : PySem.W.Frag) (tl : TE) : TI := fun σ H R => tl σ H fun x H1 => ∃ a, x = .ref a ∧ (((∃ xs, SqL K H1 a xs) ∧ R (Itl K a) H1) ∨ ((∃ xs, SqT K H1 a xs) ∧ R (Itt K a) H1))
theorem pi_any {X : Cx} {tg l : Expr} {tl : TE} (hl : PE X l tl) : PI X tg l (iAny X.K tl) := by
  constructor
  intro pins s σ H R I h
  refine thn (hl.run pins s σ H _ I h) ?_
  rintro v s1 ⟨x, H1, I1, r1, a, e, q⟩
  subst e
  cases r1
  have fp : ∀ b ∈ [s1.heap.objs.size], FpOk X pins H1 b := fun b hb => by
    rw [List.mem_singleton.mp hb]
    exact I1.fpOk (Nat.le_refl _) (I1.hok.fresh (Nat.le_refl _))
  rcases q with ⟨⟨xs, hq⟩, q⟩ | ⟨⟨xs, hq⟩, q⟩
  · obtain ⟨its, rv, p, hz⟩ := I1.list hq
    exact wpAny_pyIter_list p.isList ⟨_, [_], _, _, H1, rfl, I1.kept (t' := s1.toks) (fun b o e => Heap.get?_push_of_some _ e), turn_list a _, ⟨_, Heap.get?_push_size _ rfl, rfl, rfl⟩, fp, q⟩
  · obtain ⟨its, rv, p, hz⟩ := I1.tuple hq
    have p' : s1.heap.IsTuple a its.toArray := p
    exact wpAny_pyIter_tuple p' ⟨_, [_], _, _, H1, rfl, I1.kept (t' := s1.toks) (fun b o e => Heap.get?_push_of_some _ e), turn_tuple a _, ⟨_, Heap.get?_push_size _ rfl, rfl, rfl⟩, fp, q⟩
/-- sorted of a list or a tuple of triples -/
def rSort3A (K : PySem.W.Frag) : List V → Hp → VK → Prop := fun vs H Q => ∃ (a : Addr) (xs : List V) (k : V → T3), vs = [V.ref a] ∧ SqA K H a xs ∧ (∀ x ∈ xs, ∃ t, x = V.ref t ∧ H t = some (.tup [.int (k x).1, .int (k x).2.1, .int (k x).2.2])) ∧
  ∀ ys p, SrtO.Srtd (fun x y => lex3 (k x) (k y)) ys → ys.Perm xs → H p = none → Q (.ref p) (upd H p (.lst ys))
theorem cr_sort3A {X : Cx} : CallR X (.builtin "sorted") (rSort3A X.K) := by
  intro pins s σ H vs us Q I r h
  obtain ⟨a, xs, k, rfl, hs | hs, hx, q⟩ := h
  · exact cr_sorted3 pins s σ H _ us Q I r ⟨a, xs, k, rfl, hs, hx, q⟩
  · obtain ⟨its, rv, hl, hz⟩ := I.tuple hs
    rw [Vals.ref1 r]
    obtain ⟨e1, e2⟩ := refs_back rv fun x m => (hx x m).imp fun t ht => ht.1
    have hl' : s.heap.IsTuple a its.toArray := hl
    refine sorted3T (k := fun u => k (backV u)) hl' (by rw [← rv.length]; exact hz) ?_ ?_
    · intro v hv
      obtain ⟨t, rfl⟩ := e2 v hv
      obtain ⟨t', e, ht⟩ := hx (.ref t) (by rw [e1]; exact List.mem_map.mpr ⟨_, hv, rfl⟩)
      cases e
      obtain ⟨_, its2, r2, o, ho, hc, n, hdt⟩ := I.hok _ _ ht
      obtain ⟨ta, tb, tc, rfl⟩ : ∃ ta tb tc, its2 = [.int (k (.ref t)).1 ta, .int (k (.ref t)).2.1 tb, .int (k (.ref t)).2.2 tc] := by
        cases r2 with
        | cons q1 r2 =>
          obtain ⟨ta, rfl⟩ := q1
          cases r2 with
          | cons q2 r2 =>
            obtain ⟨tb, rfl⟩ := q2
            cases r2 with
            | cons q3 r2 =>
              obtain ⟨tc, rfl⟩ := q3
              cases r2
              exact ⟨ta, tb, tc, rfl⟩
      exact ⟨t, o, ta, tb, tc, n, rfl, ho, hc, hdt⟩
    · intro h' d out g1 g2 kp hd hn
      obtain ⟨n, hn⟩ := hn
      have back : ∀ u ∈ out, ∃ a, u = Value.ref a := fun u hu => e2 u (g2.perm.mem_iff.mp hu)
      have pm : (out.map backV).Perm xs := by rw [e1]; exact g2.perm.map backV
      have ok : (out.map backV).length ≤ sizeLine := by rw [pm.length_eq]; exact hz
      exact ⟨.ref d, upd H d (.lst (out.map backV)), I.laid (t' := s.toks) kp hd ⟨ok, out, n, vals_back back, hn⟩, rfl, q _ d (SrtO.srtd_map g1) pm (I.hok.fresh hd)⟩
end L2

set_option Elab.async false
set_option linter.all false
set_option maxRecDepth 100000
set_option maxHeartbeats 4000000
namespace L2
open PySem PySem.Spec PyProof.Rows
/-- a walk, whatever is done in a turn -/
theorem w_it {J : It} {n : Nat} {G : Hp → Prop} {Y : Nat → Hp → V → Hp → Prop} (w : Walk J n G Y) {Nx : Hp → Prop} {Bd : V → Hp → (Hp → Prop) → Prop} {H1 : Hp} (Pv : Nat → Hp → Prop) (h0 : Pv 0 H1) (hG : ∀ i H, i ≤ n → Pv i H → G H)
    (hs : ∀ i x H H', i < n → Pv i H → Y i H x H' → Bd x H' (Pv (i + 1))) (hd : ∀ H, Pv n H → Nx H) :
    ∃ W : Nat → Nat → Hp → Prop, (∃ m, W 0 m H1) ∧ ∀ i m H, W i m H →
      (J.stop i H ∧ Nx H) ∨ (J.go i H ∧ ∃ N : Hp → Prop, (∀ H', N H' → ∃ m', m' < m ∧ W (i + 1) m' H') ∧ ∀ x H', J.yld i H x H' → Bd x H' N) := by
  refine ⟨fun i m H => m = n - i ∧ i ≤ n ∧ Pv i H, ⟨n, by simp, Nat.zero_le _, h0⟩, ?_⟩
  rintro i m H ⟨rfl, hi, p⟩
  have q := hG i H hi p
  by_cases hlt : i < n
  · refine .inr ⟨w.goes i H hlt q, Pv (i + 1), fun H' p' => ⟨n - (i + 1), by omega, rfl, hlt, p'⟩, fun x H' y => hs i x H H' hlt p (w.yields i H x H' hlt q y)⟩
  · have e : i = n := by omega
    subst e
    exact .inl ⟨w.stops H q, hd H p⟩
def tTru (K : PySem.W.Frag) (ta : TE) : TT := fun σ H Q => ta σ H fun x H' => ∃ k, TruV K x H' k ∧ Q k H'
def rTupS (K : PySem.W.Frag) : List V → Hp → VK → Prop := fun xs H Q => ∃ p ys, xs = [.ref p] ∧ ((SqL K H p ys ∧ ∀ l, H l = none → Q (.ref l) (upd H l (.tup ys))) ∨ (SqT K H p ys ∧ Q (.ref p) H))
end L2
namespace Ash
open PySem PySem.Spec PyProof.Rows L2 SrtT
open C8 (pss_cut)
/-! ### worlds -/
/-- the rows of the streams, sorted -/
def RowsW (names : List Str) (T W : Tr) : Prop := (∀ z ∈ names, (W z).Perm (T z) ∧ (W z).Pairwise fun a b => lex3 a b = true) ∧ ∀ z, z ∉ names → W z = []
/-- the world of the rows W at a -/
def WAt (CW : Addr) (H : Hp) (a : Addr) (W : Tr) : Prop := ∃ dx d t kvs ids, H a = some (.ins CW dx [("_rows", .ref d), ("_ids", .ref t)]) ∧ H d = some (.dK kvs) ∧ H t = some (.tup ids) ∧
  ∀ z, (W z).length ≤ 400 ∧ ((valV kvs (Sum.inr z : Key) = none ∧ W z = []) ∨ ∃ e ys, valV kvs (Sum.inr z : Key) = some (.ref e) ∧ H e = some (.tup ys) ∧ TrAt H ys (W z))
theorem WAt.nl {CW : Addr} {H H' : Hp} {a : Addr} {W : Tr} (h : WAt CW H a W) (n : NL H H') : WAt CW H' a W := by
  obtain ⟨dx, d, t, kvs, ids, h1, h2, h3, h4⟩ := h
  refine ⟨dx, d, t, kvs, ids, n _ _ h1 (fun _ z => nomatch z), n _ _ h2 (fun _ z => nomatch z), n _ _ h3 (fun _ z => nomatch z), fun z => ⟨(h4 z).1, (h4 z).2.imp id ?_⟩⟩
  rintro ⟨e, ys, a1, a2, a3⟩
  exact ⟨e, ys, a1, n _ _ a2 (fun _ z => nomatch z), a3.tk fun t xs q => n _ _ q (fun _ z => nomatch z)⟩
theorem WAt.same {CW : Addr} {H H' : Hp} {a : Addr} {W : Tr} (h : WAt CW H a W) (s : Same H H') : WAt CW H' a W := h.nl (nl_same s)
theorem pk_len {κ : Type} [DecidableEq κ] (c : List (κ × V)) (k : κ) (x : V) : (putK c k x).length ≤ c.length + 1 := by
  unfold putK
  split
  · rw [List.length_map]
    omega
  · rw [List.length_append]
    exact Nat.le_refl _
theorem TrAt.tri {H : Hp} {ys : List V} {ts : List T3} (h : TrAt H ys ts) : ∀ x ∈ ys, ∃ t, x = .ref t ∧ H t = some (.tup (tv (triOf H x))) := fun x hx => by
  obtain ⟨i, hi, e⟩ := List.getElem_of_mem hx
  have hx' := List.getElem?_eq_getElem hi
  rw [e] at hx'
  obtain ⟨a, h1, h2⟩ := h.2 i _ _ hx' (List.getElem?_eq_getElem (by rw [← h.1]; exact hi))
  subst h1
  exact ⟨a, rfl, by rw [triOf_at h2]; exact h2⟩
theorem TrAt.of_tri {H : Hp} {zs : List V} (h : ∀ x ∈ zs, ∃ t, x = .ref t ∧ H t = some (.tup (tv (triOf H x)))) : TrAt H zs (zs.map (triOf H)) := by
  refine ⟨by rw [List.length_map], fun i v t a b => ?_⟩
  rw [List.getElem?_map, a, Option.map_some] at b
  cases b
  obtain ⟨e, h1, h2⟩ := h v (List.mem_of_getElem? a)
  exact ⟨e, h1, h2⟩
theorem asc_of {ts : List T3} (hs : ts.Pairwise fun a b => lex3 b a = false) (hn : (ts.map (·.2.1)).Nodup) : ts.Pairwise fun a b => lex3 a b = true := by
  have hn' : ts.Pairwise fun a b => a.2.1 ≠ b.2.1 := List.pairwise_map.mp hn
  refine (hs.and hn').imp fun {a b} ⟨h1, h2⟩ => ?_
  rw [lex3_no] at h1
  rw [lex3_iff]
  omega
theorem unlock {H1 Hx : Hp} {d : Addr} {od : Obj} {u : HO} (s : Same (upd H1 d (.frz od u)) Hx) (hd : H1 d = some u) : Same H1 (upd Hx d u) := fun b o hb => by
  by_cases e : b = d
  · rw [e] at hb ⊢
    rw [hd] at hb
    rw [← hb, upd_same]
  · rw [upd_ne e]
    exact s _ _ (by rw [upd_ne e]; exact hb)
structure Cw (K : PySem.W.Frag) (mg : Str → Option Value) (CW : Addr) : Prop where
  cl : Cls K CW
  nR : NoAttr K CW "_rows"
  nI : NoAttr K CW "_ids"
  c : mg "World" = some (.ref CW)
/-- a list or a tuple in the heap -/
def SeqAt2 (H : Hp) (a : Addr) (ys : List V) : Prop := H a = some (.lst ys) ∨ H a = some (.tup ys)
theorem SeqAt2.to {H H' : Hp} {a : Addr} {ys : List V} (h : SeqAt2 H a ys) (f : ∀ o, H a = some o → H' a = some o) : SeqAt2 H' a ys := h.imp (f _) (f _)
theorem SeqAt2.some_ {H : Hp} {a : Addr} {ys : List V} (h : SeqAt2 H a ys) : ∃ o, H a = some o ∧ (o = .lst ys ∨ o = .tup ys) := by
  rcases h with h | h
  · exact ⟨_, h, .inl rfl⟩
  · exact ⟨_, h, .inr rfl⟩
theorem SeqAt2.sq {K : PySem.W.Frag} {H : Hp} {a : Addr} {ys : List V} (h : SeqAt2 H a ys) : SqA K H a ys := h.imp SqL.of SqT.of
theorem SeqAt2.tru {K : PySem.W.Frag} {H : Hp} {a : Addr} {ys : List V} (h : SeqAt2 H a ys) : TruV K (.ref a) H (!ys.isEmpty) := h.elim (fun h => .inl ⟨ys, SqL.of h, rfl⟩) (fun h => .inr (.inl ⟨ys, SqT.of h, rfl⟩))
/-- the rows of each stream, in lists or tuples -/
structure RqAt (H : Hp) (d : Addr) (names : List Str) (A : Str → Addr) (T : Tr) : Prop where
  at_ : H d = some (.dK (names.map fun z => (Sum.inr z, V.ref (A z))))
  row : ∀ z ∈ names, ∃ ys, SeqAt2 H (A z) ys ∧ TrAt H ys (T z)
theorem RwAt.rq {H : Hp} {d : Addr} {names : List Str} {A : Str → Addr} {T : Tr} (R : RwAt H d names A T) : RqAt H d names A T := ⟨R.at_, fun z hz => by
  obtain ⟨ys, h1, h2⟩ := R.row z hz
  exact ⟨ys, .inl h1, h2⟩⟩
theorem RqAt.same {H H' : Hp} {d : Addr} {names : List Str} {A : Str → Addr} {T : Tr} (h : RqAt H d names A T) (s : Same H H') : RqAt H' d names A T :=
  ⟨s _ _ h.at_, fun z hz => by
    obtain ⟨ys, h1, h2⟩ := h.row z hz
    exact ⟨ys, h1.to (s _), h2.tk fun t xs q => s _ _ q⟩⟩
def spAreRows (K : PySem.W.Frag) : Sp := fun vs H Q _ => ∃ (a : Addr) (ys : List V) (ts : List T3), vs = [.ref a] ∧ SeqAt2 H a ys ∧ TrAt H ys ts ∧ ts.length ≤ 400 ∧ (∀ t ∈ ts, 0 ≤ t.2.1) ∧ ∀ H', Same H H' → Q (.bl true) H'
def spTwice (K : PySem.W.Frag) : Sp := fun vs H Q _ => ∃ (a : Addr) (ns : List Int), vs = [.ref a] ∧ SqL K H a (ns.map V.int) ∧ ns.length ≤ 400 ∧ ns.Nodup ∧ Q .non H
def spIsRows : Sp := fun vs H Q _ => ∃ (d : Addr) (names : List Str) (A : Str → Addr) (T : Tr), vs = [.ref d] ∧ RqAt H d names A T ∧ names.length ≤ 100 ∧ (∀ z ∈ names, IsNm z ∧ (T z).length ≤ 400 ∧ ∀ t ∈ T z, 0 ≤ t.2.1) ∧ ∀ H', Same H H' → Q (.bl true) H'
def spWorldInit (CW : Addr) : Sp := fun vs H Q _ => ∃ (b dx d : Addr) (names : List Str) (A : Str → Addr) (T : Tr) (n : Nat), vs = [.ref b, .ref d] ∧ H b = some (.ins CW dx []) ∧ RqAt H d names A T ∧ names.length ≤ 100 ∧ names.Nodup ∧ (∀ z ∈ names, IsNm z) ∧ GoodT names T n ∧ n ≤ 400 ∧
  ∀ H' W, WAt CW H' b W → RowsW names T W → (∀ c o, H c = some o → c ≠ b → H' c = some o) → Q .non H'
def spWorldRows (CW : Addr) : Sp := fun vs H Q _ => ∃ (a : Addr) (W : Tr) (z : Str), vs = [.ref a, .str z] ∧ WAt CW H a W ∧ IsNm z ∧ ∀ (p : Addr) ys H', Same H H' → H p = none → H' p = some (.lst ys) → TrAt H' ys (W z) → Q (.ref p) H'
section
variable {P : Program} {w : World} {K : PySem.W.Frag} {mg : Str → Option Value} {base : Heap}
abbrev s_are_rows : Stmt := topS 50
theorem sc_are_rows : FnScope ["things", "thing"] ["things"] (defScope s_are_rows) := ⟨rfl, rfl, rfl, by decide +kernel, rfl, by decide +kernel, by decide +kernel⟩
theorem ok_are_rows {f : Addr} {fd : FuncData} (F : Fun K "are_rows" "are_rows" s_are_rows f fd) (B : Blt mg) (G : K3 P w K mg base) : FnOk P w K mg base CX0 3 f fd ["things"] (spAreRows K) := by
  refine F.ok sc_are_rows (fun vs H Q E h => ?_) (fun cdv A outer s H vs Q E hr h => ?_)
  · obtain ⟨a, ys, ts, rfl, _⟩ := h
    rfl
  · obtain ⟨a, ys, ts, rfl, ha, hT, hl, h0, q⟩ := h
    refine ⟨_, (pss_cons (ps_for PassesOwn.never rfl (pi_any (pv 0)) (pg_name (i := 1) sc_are_rows.nd rfl (Or.inl rfl))
      (pss_cons (ps_if (PW.pt (pw_or (pt_not (pt_val (pe_callB call_isi (by rfl) B.isinstance (by decide +kernel) (pa_cons (pv 1) (pa_cons (pe_bltn (v := .ty "tuple") (by rfl) B.tuple (by decide +kernel) rfl) pa_nil))))) (pw_or1 (pt_cmpR op_ne (pe_callB call_len_seq (by rfl) B.len (by decide +kernel) (pa_cons (pv 1) pa_nil)) pe_int (nomark _)))))
        (pss_one (ps_ret pe_bl))
        pss_nil)
      (pss_one (ps_if (PW.pt (pw_or (pt_not (pt_val (pe_cal G.are_integers (hr.mono (by decide)) pass0 (pa_cons (pv 1) pa_nil)))) (pw_or1 (pt_not (pt_val (pe_cal G.is_natural (hr.mono (by decide)) pass0 (pa_cons (pe_ix ix_tup (pv 1) pe_int (fun _ _ => rfl)) pa_nil)))))))
        (pss_one (ps_ret pe_bl))
        pss_nil))))
    (pss_one (ps_ret pe_bl))), ?_⟩
    have yl := hT.1
    rcases ha with ha | ha
    · refine ⟨_, rfl, a, rfl, .inl ⟨⟨_, SqL.of ha⟩, for_it (walk_list (K := K) (a := a) (xs := ys)) (fun i σ H1 => (∃ b, σ = [some (.ref a), b]) ∧ Same H H1) ⟨⟨_, rfl⟩, Same.refl H⟩ (fun i σ H1 _ hv => SqL.of (hv.2 _ _ ha)) ?_ ?_⟩⟩
      · rintro i y σ H1 _ _ ⟨⟨b, rfl⟩, s1⟩ ⟨rfl, hi⟩
        have hil : i < ts.length := by rw [← yl]; exact (List.getElem?_eq_some_iff.mp hi).1
        obtain ⟨t, ht⟩ : ∃ t, ts[i]? = some t := ⟨_, List.getElem?_eq_getElem hil⟩
        obtain ⟨e, rfl, he⟩ := hT.2 i y t hi ht
        have he1 := s1 _ _ he
        refine ⟨_, rfl, _, _, _, _, true, rfl, ClsV.ty _, .base (.tup he1), kit_ty (by decide +kernel), _, rfl, iteF ?_⟩
        refine ⟨_, rfl, _, _, rfl, .inr (SqT.of he1), rfl, _, rfl, iteF ?_⟩
        refine ⟨_, rfl, e, [t.1, t.2.1, t.2.2], rfl, SqT.of he1, (by show 3 ≤ 100; decide), fun H2 s2 => ⟨_, rfl, iteF ?_⟩⟩
        have he2 := s2 _ _ he1
        refine ⟨_, rfl, _, _, _, _, rfl, rfl, SqT.of he2, rfl, _, rfl, .inl ⟨t.2.1, rfl, ?_⟩⟩
        rw [decide_eq_true (h0 t (List.mem_of_getElem? ht))]
        exact ⟨_, rfl, iteF ⟨⟨_, rfl⟩, s1.trans s2⟩⟩
      · rintro σ H1 ⟨⟨b, rfl⟩, s1⟩
        exact q H1 s1
    · refine ⟨_, rfl, a, rfl, .inr ⟨⟨_, SqT.of ha⟩, for_it (walk_tup (K := K) (a := a) (xs := ys)) (fun i σ H1 => (∃ b, σ = [some (.ref a), b]) ∧ Same H H1) ⟨⟨_, rfl⟩, Same.refl H⟩ (fun i σ H1 _ hv => SqT.of (hv.2 _ _ ha)) ?_ ?_⟩⟩
      · rintro i y σ H1 _ _ ⟨⟨b, rfl⟩, s1⟩ ⟨rfl, hi⟩
        have hil : i < ts.length := by rw [← yl]; exact (List.getElem?_eq_some_iff.mp hi).1
        obtain ⟨t, ht⟩ : ∃ t, ts[i]? = some t := ⟨_, List.getElem?_eq_getElem hil⟩
        obtain ⟨e, rfl, he⟩ := hT.2 i y t hi ht
        have he1 := s1 _ _ he
        refine ⟨_, rfl, _, _, _, _, true, rfl, ClsV.ty _, .base (.tup he1), kit_ty (by decide +kernel), _, rfl, iteF ?_⟩
        refine ⟨_, rfl, _, _, rfl, .inr (SqT.of he1), rfl, _, rfl, iteF ?_⟩
        refine ⟨_, rfl, e, [t.1, t.2.1, t.2.2], rfl, SqT.of he1, (by show 3 ≤ 100; decide), fun H2 s2 => ⟨_, rfl, iteF ?_⟩⟩
        have he2 := s2 _ _ he1
        refine ⟨_, rfl, _, _, _, _, rfl, rfl, SqT.of he2, rfl, _, rfl, .inl ⟨t.2.1, rfl, ?_⟩⟩
        rw [decide_eq_true (h0 t (List.mem_of_getElem? ht))]
        exact ⟨_, rfl, iteF ⟨⟨_, rfl⟩, s1.trans s2⟩⟩
      · rintro σ H1 ⟨⟨b, rfl⟩, s1⟩
        exact q H1 s1
abbrev s_first_twice : Stmt := topS 51
theorem sc_first_twice : FnScope ["numbers", "at"] ["numbers"] (defScope s_first_twice) := ⟨rfl, rfl, rfl, by decide +kernel, rfl, by decide +kernel, by decide +kernel⟩
theorem ok_twice {f : Addr} {fd : FuncData} (F : Fun K "first_twice" "first_twice" s_first_twice f fd) (B : Blt mg) : FnOk P w K mg base CX0 1 f fd ["numbers"] (spTwice K) := by
  refine F.ok sc_first_twice (fun vs H Q E h => ?_) (fun cdv A outer s H vs Q E hr h => ?_)
  · obtain ⟨a, ns, rfl, _⟩ := h
    rfl
  · obtain ⟨a, ns, rfl, ha, hl, hn, q⟩ := h
    refine ⟨_, (pss_cons (ps_for PassesOwn.never rfl (pi_range2 (by rfl) B.range (pa_cons pe_int (pa_cons (pe_callB call_len_seq (by rfl) B.len (by decide +kernel) (pa_cons (pv 0) pa_nil)) pa_nil))) (pg_name (i := 1) sc_first_twice.nd rfl (Or.inl rfl))
      (pss_one (ps_if (pt_cmpR op_eq (pe_ix ix_list (pv 0) (pe_op op_sub (pv 1) pe_int) (fun _ _ => rfl)) (pe_ix ix_list (pv 0) (pv 1) (fun _ _ => rfl)) (nomark _))
        (pss_one (ps_ret (pe_ix ix_list (pv 0) (pv 1) (fun _ _ => rfl))))
        pss_nil)))
    (pss_one (ps_ret pe_non))), ?_⟩
    refine ⟨_, rfl, _, _, rfl, .inl ha, _, _, rfl, (by rw [List.length_map]; omega), for_range (n := (((ns.map V.int).length : Int) - 1).toNat) (fun i σ H1 => (∃ b, σ = [some (.ref a), b]) ∧ H1 = H) ⟨⟨_, rfl⟩, rfl⟩ ?_ ?_⟩
    · rintro i σ H1 hi ⟨⟨b, rfl⟩, rfl⟩
      rw [List.length_map] at hi
      have h1 : i < ns.length := by omega
      have h2 : i + 1 < ns.length := by omega
      have e1 : atI (ns.map V.int) (1 + (i : Int) - 1) = some (V.int ns[i]) := by
        rw [show (1 : Int) + i - 1 = (i : Nat) by omega, atI_nat (by rw [List.getElem?_map, List.getElem?_eq_getElem h1]; rfl)]
      have e2 : atI (ns.map V.int) (1 + (i : Int)) = some (V.int ns[i + 1]) := by
        rw [show (1 : Int) + i = (i + 1 : Nat) by omega, atI_nat (by rw [List.getElem?_map, List.getElem?_eq_getElem h2]; rfl)]
      refine ⟨_, rfl, _, rfl, _, _, rfl, rfl, _, _, _, _, rfl, rfl, ha, e1, _, rfl, _, rfl, _, _, _, _, rfl, rfl, ha, e2, rfl, _, rfl, ?_⟩
      have ne : ns[i] ≠ ns[i + 1] := fun z => by
        have := nd_ix hn (List.getElem?_eq_getElem h1) (by rw [List.getElem?_eq_getElem h2, z])
        omega
      rw [show decide (V.int ns[i] = V.int ns[i + 1]) = false from decide_eq_false fun z => ne (V.int.inj z)]
      exact iteF ⟨⟨_, rfl⟩, rfl⟩
    · rintro σ H1 ⟨⟨b, rfl⟩, rfl⟩
      exact q
structure W1 (P : Program) (w : World) (K : PySem.W.Frag) (mg : Str → Option Value) (base : Heap) : Prop extends K3 P w K mg base where
  are_rows : Cal P w K mg base CX0 "are_rows" 3 ["things"] (spAreRows K)
  first_twice : Cal P w K mg base CX0 "first_twice" 1 ["numbers"] (spTwice K)
abbrev s_is_rows : Stmt := topS 49
theorem sc_is_rows : FnScope ["thing", "stream", "rows"] ["thing"] (defScope s_is_rows) := ⟨rfl, rfl, rfl, by decide +kernel, rfl, by decide +kernel, by decide +kernel⟩
theorem ok_is_rows {f : Addr} {fd : FuncData} (F : Fun K "is_rows" "is_rows" s_is_rows f fd) (B : Blt mg) (G : W1 P w K mg base) : FnOk P w K mg base CX0 4 f fd ["thing"] spIsRows := by
  refine F.ok sc_is_rows (fun vs H Q E h => ?_) (fun cdv A outer s H vs Q E hr h => ?_)
  · obtain ⟨d, names, A, T, rfl, _⟩ := h
    rfl
  · obtain ⟨d, names, A, T, rfl, R, nl, hz, q⟩ := h
    refine ⟨_, (pss_cons (ps_if (pt_not (pt_val (pe_callB call_isi (by rfl) B.isinstance (by decide +kernel) (pa_cons (pv 0) (pa_cons (pe_bltn (v := .ty "dict") (by rfl) B.dict (by decide +kernel) rfl) pa_nil)))))
      (pss_one (ps_ret pe_bl))
      pss_nil)
    (pss_one (ps_ret (pe_callB (cr_all rfl) (by rfl) B.all (by decide +kernel) (pa_cons (pe_lock (pe_lc (own := [("stream", 1), ("rows", 2)]) (g := gTup K 2 (gCons (gName 1) (gCons (gName 2) gNil))) (tt := tYes) (by rfl) sc_is_rows.nd (pi_items (pv 0)) (blkOk_by (own := [("stream", 1), ("rows", 2)]) (N := ["thing", "stream", "rows"]) (sc := defScope s_is_rows) (by decide +kernel)) (fun _ _ _ _ _ => (pg_tup (by rfl) (pgs_cons (pg_name (i := 1) sc_is_rows.nd rfl (Or.inl rfl)) (pgs_cons (pg_name (i := 2) sc_is_rows.nd rfl (Or.inl rfl)) pgs_nil)))) (fun _ _ _ _ _ => pts_nil) (fun _ _ _ _ _ => (pe_and (pe_cal G.is_name (hr.mono (by decide)) pass0 (pa_cons (pv 1) pa_nil)) (pe_and (pe_cal G.is_row (hr.mono (by decide)) pass0 (pa_cons (pv 2) pa_nil)) (pe_one (pe_cal G.are_rows (hr.mono (by decide)) pass0 (pa_cons (pv 2) pa_nil)))))))) pa_nil))))), ?_⟩
    have hd := R.at_
    refine ⟨_, rfl, _, _, _, _, true, rfl, ClsV.ty _, .base (.dK hd), kit_ty (by decide +kernel), _, rfl, iteF ?_⟩
    refine ⟨d, _, hd, trivial, fun od => ?_⟩
    have hDd : ∀ {D : Addr}, (upd H d (.frz od (.dK (names.map fun z => (Sum.inr z, V.ref (A z)))))) D = none → D ≠ d := fun h z => by rw [z, upd_same] at h; cases h
    refine ⟨_, rfl, d, od, _, rfl, upd_same, fun D hD => lc_it (walk_items (kvs := names.map fun z => ((Sum.inr z : Key), V.ref (A z)))) (fun i H1 => H1 D = some (.lst ((List.replicate i true).map V.bl)) ∧ Same (upd H d (.frz od (.dK (names.map fun z => (Sum.inr z, V.ref (A z)))))) H1) ⟨upd_same, sameAt (Same.refl _) hD⟩ (fun i H1 _ hv => hv.2 _ _ upd_same) ?_ ?_⟩
    · rintro i x H1 H2 hi ⟨hD1, hs⟩ ⟨T', x1, x2, rfl, hT', rfl, h1, h2⟩
      rw [List.length_map] at hi
      have hx : (names.map fun z => ((Sum.inr z : Key), V.ref (A z)))[i]? = some (Sum.inr names[i], V.ref (A names[i])) := by
        rw [List.getElem?_map, List.getElem?_eq_getElem hi]
        rfl
      simp only [hx, Option.map_some] at h1 h2
      cases h1
      cases h2
      have hm : names[i] ∈ names := List.getElem_mem hi
      generalize names[i] = z at hm
      obtain ⟨hN, hT4, hT0⟩ := hz z hm
      have hDT : D ≠ T' := fun z => by rw [← z, hD1] at hT'; cases hT'
      obtain ⟨ys, hy, hTr⟩ := R.row z hm
      have nAd : A z ≠ d := fun q => by rcases hy with h | h <;> (rw [q, hd] at h; cases h)
      have sT : Same (upd H d (.frz od (.dK (names.map fun z => (Sum.inr z, V.ref (A z)))))) (upd H1 T' (.tup [V.str z, .ref (A z)])) := hs.trans (sameAt (Same.refl H1) hT')
      have tkd : ∀ t xs, H t = some (.tup xs) → upd H d (.frz od (.dK (names.map fun z => (Sum.inr z, V.ref (A z))))) t = some (.tup xs) := fun t xs q => by rw [upd_ne (ne_of q hd (by intro z; cases z))]; exact q
      have hy1 : SeqAt2 (upd H d (.frz od (.dK (names.map fun z => (Sum.inr z, V.ref (A z)))))) (A z) ys := hy.to fun o h => by rw [upd_ne nAd]; exact h
      refine ⟨T', _, rfl, SqT.of upd_same, rfl, _, _, rfl, _, _, rfl, rfl, rfl, ?_⟩
      refine ⟨_, rfl, _, rfl, .inl ⟨z, rfl, (by have := hN.2.1; rw [sizeLine_eq]; omega), fun H3 s3 => ⟨_, rfl, ?_⟩⟩⟩
      rw [(nmB_iff z).mpr hN]
      refine iteT ⟨_, rfl, _, _, rfl, ((hy1.to fun o h => s3 _ _ (sT _ _ h)).imp id SqT.of), fun H4 s4 => ⟨_, rfl, iteT ?_⟩⟩
      refine ⟨_, rfl, A z, ys, T z, rfl, (hy1.to fun o h => s4 _ _ (s3 _ _ (sT _ _ h))), (((hTr.tk tkd).tk fun t xs q => sT _ _ q).tk fun t xs q => s3 _ _ q).tk (fun t xs q => s4 _ _ q), hT4, hT0, fun H5 s5 => ?_⟩
      have s15 : Same (upd H1 T' (.tup [V.str z, .ref (A z)])) H5 := (s3.trans s4).trans s5
      refine ⟨_, s15 _ _ (by rw [upd_ne hDT]; exact hD1), (by rw [List.length_map, List.length_replicate]; exact small1000 (by omega)), ?_, fun b o hb => ?_⟩
      · rw [upd_same, List.replicate_succ', List.map_append]
        rfl
      · rw [upd_ne (ne_of_none hb hD)]
        refine s15 _ _ ?_
        rw [upd_ne (ne_of_none (hs _ _ hb) hT')]
        exact hs _ _ hb
    · rintro H1 ⟨hD1, hs⟩
      refine ⟨hs _ _ upd_same, D, _, rfl, SqL.of (by rw [upd_ne (hDd hD)]; exact hD1), ?_⟩
      have e2 : ((List.replicate (names.map fun z => ((Sum.inr z : Key), V.ref (A z))).length true).all id) = true := by simp
      rw [e2]
      refine q _ fun b o hb => ?_
      by_cases e : b = d
      · rw [e, hd] at hb
        cases hb
        rw [e, upd_same]
      · rw [upd_ne e]
        exact hs _ _ (by rw [upd_ne e]; exact hb)
structure W2 (P : Program) (w : World) (K : PySem.W.Frag) (mg : Str → Option Value) (base : Heap) : Prop extends W1 P w K mg base where
  is_rows : Cal P w K mg base CX0 "is_rows" 4 ["thing"] spIsRows
abbrev s_World_init : Stmt := inClass (topS 48) 0
theorem sc_World_init : FnScope ["self", "rows", "ids", "twice", "stream", "row"] ["self", "rows"] (defScope s_World_init) := ⟨rfl, rfl, rfl, by decide +kernel, rfl, by decide +kernel, by decide +kernel⟩
theorem ok_world_init {f CW : Addr} {fd : FuncData} (F : Fun K "__init__" "World.__init__" s_World_init f fd) (B : Blt mg) (Cs : Cst mg) (T0 : Cw K mg CW) (G : W2 P w K mg base) : FnOk P w K mg base CX0 5 f fd ["self", "rows"] (spWorldInit CW) := by
  obtain ⟨t1, g_MOST_ROWS⟩ := Cs.k_MOST_ROWS
  refine F.ok sc_World_init (fun vs H Q E h => ?_) (fun cdv A outer s H vs Q E hr h => ?_)
  · obtain ⟨b, dx, d, names, A, T, n, rfl, _⟩ := h
    rfl
  · obtain ⟨b, dx, d, names, A0, T, n, rfl, hb, R, nl, nd, nm, G0, n4, q⟩ := h
    have hu := hu_of hr
    refine ⟨_, (pss_cons (ps_if (pt_not (pt_val (pe_cal G.is_rows (hr.mono (by decide)) pass0 (pa_cons (pv 1) pa_nil))))
      (pss_one ps_never)
      pss_nil)
    (pss_cons (ps_set (i := 2) sc_World_init.nd rfl (Or.inl rfl) (pe_callB cr_sortedI (by rfl) B.sorted (by decide +kernel) (pa_cons (pe_lock (pe_lc2 (own := [("stream", 4), ("row", 5)]) (vs1 := [5]) (g := gName 4) (g1 := gName 5) (tt := tYes) (tt1 := tYes) (by rfl) sc_World_init.nd (pi_keys (pv 1)) (blkOk_by (own := [("stream", 4), ("row", 5)]) (N := ["self", "rows", "ids", "twice", "stream", "row"]) (sc := defScope s_World_init) (by decide +kernel)) (by decide) (fun _ _ _ _ _ => (pg_name (i := 4) sc_World_init.nd rfl (Or.inl rfl))) (fun _ _ _ _ _ => pts_nil) (fun _ _ _ _ _ => (show PI _ _ _ (iAny K _) from pi_any (pe_dget hu (pv 1) (pv 4) (fun _ _ => rfl)))) (fun _ _ _ _ _ => (pg_name (i := 5) sc_World_init.nd rfl (Or.inl rfl))) (fun _ _ _ _ _ => pts_nil) (fun _ _ _ _ _ => (pe_ix (show IxR _ (rIxT K) from ix_tup) (pv 5) pe_int (fun _ _ => rfl))))) pa_nil)))
    (pss_cons (ps_set (i := 3) sc_World_init.nd rfl (Or.inl rfl) (pe_cal G.first_twice (hr.mono (by decide)) pass0 (pa_cons (pv 2) pa_nil)))
    (pss_cons (ps_if (pt_cmpR op_notN (pv 3) pe_non (nomark _))
      (pss_one ps_never)
      pss_nil)
    (pss_cons (ps_if (pt_cmpR op_gt (pe_callB call_len_seq (by rfl) B.len (by decide +kernel) (pa_cons (pv 2) pa_nil)) (pe_glob (v := .int 400) (by rfl) g_MOST_ROWS ⟨_, rfl⟩) (nomark _))
      (pss_one ps_never)
      pss_nil)
    (pss_cons (ps_fld (pv 0) (pe_lock (pe_dc (own := [("stream", 4)]) (g := gName 4) (by rfl) sc_World_init.nd (pi_keys (pv 1)) (blkOk_by (own := [("stream", 4)]) (N := ["self", "rows", "ids", "twice", "stream", "row"]) (sc := defScope s_World_init) (by decide +kernel)) (fun _ _ _ _ _ => (pg_name (i := 4) sc_World_init.nd rfl (Or.inl rfl))) (fun _ _ _ _ _ => pts_one (show PT _ _ (tTru K _) from pt_truth (pe_dget hu (pv 1) (pv 4) (fun _ _ => rfl)) (fun _ => rfl))) (fun _ _ _ _ _ => (pv 4)) (fun _ _ _ _ _ => (pe_callTy (show CallR _ _ (rTupS K) from call_tuple_of) (by rfl) B.tuple (by decide +kernel) (pa_cons (pe_callB (show CallR _ _ (rSort3A K) from cr_sort3A) (by rfl) B.sorted (by decide +kernel) (pa_cons (pe_dget hu (pv 1) (pv 4) (fun _ _ => rfl)) pa_nil)) pa_nil))))) rfl)
    (pss_one (ps_fld (pv 0) (pe_callTy call_tuple_of (by rfl) B.tuple (by decide +kernel) (pa_cons (pv 2) pa_nil)) rfl)))))))), ?_⟩
    have hd := R.at_
    refine ⟨_, rfl, d, names, A0, T, rfl, R, nl, fun z hz => ⟨nm z hz, Nat.le_trans (G0.few hz) n4, fun t ht => G0.lo _ (mem_ids.mpr ⟨z, hz, t, ht, rfl⟩)⟩, fun H1 s1 => ⟨_, rfl, iteF ?_⟩⟩
    have R1 := R.same s1
    have hd1 := R1.at_
    -- in the locked heap
    have dg : ∀ {Hb od Hx}, Same (upd Hb d (.frz od (.dK (names.map fun z => (Sum.inr z, V.ref (A0 z)))))) Hx → ∀ z ∈ names, DGet Hx d (.str z) (some (.ref (A0 z))) := fun {Hb od Hx} sx z hz => by
      have this : DGet Hx d (kV (Sum.inr z)) (valV (names.map fun z => ((Sum.inr z : Key), V.ref (A0 z))) (Sum.inr z : Key)) := .inl ⟨_, Sum.inr z, .inr ⟨od, sx _ _ upd_same⟩, rfl, rfl⟩
      rw [valV_nm, if_pos hz] at this
      exact this
    have dl : ∀ {Hb u}, RqAt Hb d names A0 T → ∀ z ∈ names, ∃ ys, SeqAt2 (upd Hb d u) (A0 z) ys ∧ TrAt (upd Hb d u) ys (T z) := fun {Hb u} R1 z hz => by
      obtain ⟨ys, hy, hT⟩ := R1.row z hz
      have nAd : A0 z ≠ d := fun q => by rcases hy with h | h <;> (rw [q, R1.at_] at h; cases h)
      exact ⟨ys, hy.to fun o h => by rw [upd_ne nAd]; exact h, hT.tk fun t xs q => by rw [upd_ne (ne_of q R1.at_ (by intro z; cases z))]; exact q⟩
    refine ⟨d, _, hd1, trivial, fun od => ⟨_, rfl, d, od, rfl, .inl ⟨_, upd_same, fun D hD => w_it (walk_keys (kvs := names.map fun z => ((Sum.inr z : Key), V.ref (A0 z)))) (fun i Hx => Hx D = some (.lst ((idsOf (names.take i) T).map V.int)) ∧ Same (upd H1 d (.frz od (.dK (names.map fun z => (Sum.inr z, V.ref (A0 z)))))) Hx) ⟨upd_same, sameAt (Same.refl _) hD⟩ (fun i Hx _ hv => hv.2 _ _ upd_same) ?_ ?_⟩⟩⟩
    · rintro i x Hx Hy hi ⟨hDx, sx⟩ ⟨rfl, k, v, hkv, rfl⟩
      rw [List.length_map] at hi
      rw [List.getElem?_map, List.getElem?_eq_getElem hi, Option.map_some] at hkv
      cases hkv
      have hm : names[i] ∈ names := List.getElem_mem hi
      have tk1 : names.take (i + 1) = names.take i ++ [names[i]] := list_take (List.getElem?_eq_getElem hi)
      generalize names[i] = z at hm tk1
      have hg := dg sx z hm
      obtain ⟨ys, hy, hT⟩ := dl (u := .frz od (.dK (names.map fun z => (Sum.inr z, V.ref (A0 z))))) R1 z hm
      have e1 : idsOf (names.take (i + 1)) T = idsOf (names.take i) T ++ (T z).map (·.2.1) := by
        rw [tk1]
        unfold idsOf
        rw [List.flatMap_append]
        simp
      have fewI : (idsOf (names.take (i + 1)) T).length ≤ 400 := by
        have sl : (idsOf (names.take (i + 1)) T).Sublist (idsOf names T) := by
          have e : idsOf names T = idsOf (names.take (i + 1)) T ++ idsOf (names.drop (i + 1)) T := by
            show names.flatMap _ = _
            unfold idsOf
            rw [← List.flatMap_append, List.take_append_drop]
          rw [e]
          exact List.sublist_append_left _ _
        exact Nat.le_trans sl.length_le (by rw [G0.len]; exact n4)
      rcases hy with hy | hy
      · refine ⟨rfl, _, rfl, _, rfl, d, _, rfl, hg, A0 z, rfl, .inl ⟨⟨_, SqL.of (sx _ _ hy)⟩, w_it (walk_list (xs := ys)) (fun j Hz => Hz D = some (.lst ((idsOf (names.take i) T ++ ((T z).take j).map (·.2.1)).map V.int)) ∧ Same (upd H1 d (.frz od (.dK (names.map fun z => (Sum.inr z, V.ref (A0 z)))))) Hz) ?_ (fun j Hz _ hv => SqL.of (hv.2 _ _ hy)) ?_ ?_⟩⟩
        · refine ⟨?_, sx⟩
          rw [hDx]
          simp
        · rintro j x Hz Hw hj ⟨hDz, sz⟩ ⟨rfl, hxj⟩
          have hj2 : j < (T z).length := by rw [← hT.1]; exact hj
          obtain ⟨t, ht⟩ : ∃ t, (T z)[j]? = some t := ⟨_, List.getElem?_eq_getElem hj2⟩
          obtain ⟨e, rfl, he⟩ := hT.2 j x t hxj ht
          have he1 := sz _ _ he
          refine ⟨rfl, _, rfl, _, _, _, _, rfl, rfl, SqT.of he1, rfl, _, hDz, ?_, ?_, sameAt sz hD⟩
          · refine small1000 ?_
            rw [e1] at fewI
            rw [List.length_append, List.length_map] at fewI
            rw [List.length_map, List.length_append, List.length_map, List.length_take]
            omega
          · rw [upd_same, list_take ht, List.map_append, List.map_append (l₁ := (T z).take j), List.map_append, List.map_append, List.append_assoc]
            rfl
        · rintro Hz ⟨hDz, sz⟩
          refine ⟨?_, sz⟩
          rw [e1, hDz, hT.1, List.take_length]
      · refine ⟨rfl, _, rfl, _, rfl, d, _, rfl, hg, A0 z, rfl, .inr ⟨⟨_, SqT.of (sx _ _ hy)⟩, w_it (walk_tup (xs := ys)) (fun j Hz => Hz D = some (.lst ((idsOf (names.take i) T ++ ((T z).take j).map (·.2.1)).map V.int)) ∧ Same (upd H1 d (.frz od (.dK (names.map fun z => (Sum.inr z, V.ref (A0 z)))))) Hz) ?_ (fun j Hz _ hv => SqT.of (hv.2 _ _ hy)) ?_ ?_⟩⟩
        · refine ⟨?_, sx⟩
          rw [hDx]
          simp
        · rintro j x Hz Hw hj ⟨hDz, sz⟩ ⟨rfl, hxj⟩
          have hj2 : j < (T z).length := by rw [← hT.1]; exact hj
          obtain ⟨t, ht⟩ : ∃ t, (T z)[j]? = some t := ⟨_, List.getElem?_eq_getElem hj2⟩
          obtain ⟨e, rfl, he⟩ := hT.2 j x t hxj ht
          have he1 := sz _ _ he
          refine ⟨rfl, _, rfl, _, _, _, _, rfl, rfl, SqT.of he1, rfl, _, hDz, ?_, ?_, sameAt sz hD⟩
          · refine small1000 ?_
            rw [e1] at fewI
            rw [List.length_append, List.length_map] at fewI
            rw [List.length_map, List.length_append, List.length_map, List.length_take]
            omega
          · rw [upd_same, list_take ht, List.map_append, List.map_append (l₁ := (T z).take j), List.map_append, List.map_append, List.append_assoc]
            rfl
        · rintro Hz ⟨hDz, sz⟩
          refine ⟨?_, sz⟩
          rw [e1, hDz, hT.1, List.take_length]
    · rintro Hx ⟨hDx, sx⟩
      rw [List.length_map, List.take_length] at hDx
      have Dd : D ≠ d := fun z => by rw [z, upd_same] at hD; cases hD
      have s2 := unlock sx hd1
      have il : (idsOf names T).length ≤ 400 := by rw [G0.len]; exact n4
      refine ⟨sx _ _ upd_same, D, idsOf names T, rfl, SqL.of (by rw [upd_ne Dd]; exact hDx), fun ns' p hperm hsort hp => ?_⟩
      have s3 := s2.trans (sameAt (Same.refl _) hp (o := .lst (ns'.map V.int)))
      have nl' : ns'.length ≤ 400 := by rw [hperm.length_eq]; exact il
      refine ⟨_, rfl, p, ns', rfl, SqL.of upd_same, nl', hperm.symm.nodup G0.nd, ?_⟩
      refine ⟨_, rfl, rfl, _, rfl, iteF ?_⟩
      have d4 : decide ((400 : Int) < ((ns'.map V.int).length : Int)) = false := decide_eq_false (by rw [List.length_map]; omega)
      refine ⟨_, rfl, _, _, rfl, .inl (SqL.of upd_same), _, _, rfl, rfl, _, rfl, ?_⟩
      rw [d4]
      refine iteF ?_
      have hp3 : (upd (upd Hx d (.dK (names.map fun z => (Sum.inr z, V.ref (A0 z))))) p (.lst (ns'.map V.int))) p = some (.lst (ns'.map V.int)) := upd_same
      generalize upd (upd Hx d (.dK (names.map fun z => (Sum.inr z, V.ref (A0 z))))) p (.lst (ns'.map V.int)) = H3 at s3 hp3 ⊢
      have R3 := R1.same s3
      refine ⟨d, _, R3.at_, trivial, fun od2 => ⟨_, rfl, d, od2, rfl, .inl ⟨_, upd_same, fun D2 hD2 => dc_it (walk_keys (kvs := names.map fun z => ((Sum.inr z : Key), V.ref (A0 z)))) (fun i Hy => ∃ kvs, Hy D2 = some (.dK kvs) ∧ kvs.length ≤ i ∧ Same (upd H3 d (.frz od2 (.dK (names.map fun z => (Sum.inr z, V.ref (A0 z)))))) Hy ∧
        ∀ z, (z ∉ names.take i → valV kvs (Sum.inr z : Key) = none) ∧ (z ∈ names.take i → (valV kvs (Sum.inr z : Key) = none ∧ T z = []) ∨ ∃ e ys ws, valV kvs (Sum.inr z : Key) = some (.ref e) ∧ Hy e = some (.tup ys) ∧ TrAt Hy ys ws ∧ ws.Perm (T z) ∧ ws.Pairwise fun a b => lex3 a b = true)) ?_ (fun i Hy _ hv => by
          obtain ⟨kvs, _, _, sx, _⟩ := hv
          exact sx _ _ upd_same) ?_ ?_⟩⟩⟩
      · exact ⟨[], upd_same, Nat.le_refl _, sameAt (Same.refl _) hD2, fun z => ⟨fun _ => rfl, fun h => nomatch h⟩⟩
      · rintro i x Hy Hz hi ⟨kvs, hDy, hl, sx, hv⟩ ⟨rfl, k, v, hkv, rfl⟩
        rw [List.length_map] at hi
        rw [List.getElem?_map, List.getElem?_eq_getElem hi, Option.map_some] at hkv
        cases hkv
        have hm : names[i] ∈ names := List.getElem_mem hi
        have tk1 : names.take (i + 1) = names.take i ++ [names[i]] := list_take (List.getElem?_eq_getElem hi)
        have hnt : names[i] ∉ names.take i := fun hm => by
          obtain ⟨j, hj, e⟩ := List.getElem_of_mem hm
          rw [List.length_take] at hj
          rw [List.getElem_take] at e
          have := nd_ix nd (List.getElem?_eq_some_iff.mpr ⟨by omega, e⟩) (List.getElem?_eq_getElem hi)
          omega
        generalize names[i] = z at hm tk1 hnt
        have hg := dg sx z hm
        obtain ⟨ys, hy, hT⟩ := dl (u := .frz od2 (.dK (names.map fun z => (Sum.inr z, V.ref (A0 z))))) R3 z hm
        refine ⟨rfl, _, rfl, _, rfl, d, _, rfl, hg, _, (hy.to fun o h => sx _ _ h).tru, ?_⟩
        cases ys with
        | nil =>
          refine ⟨kvs, hDy, by omega, sx, fun y => ?_⟩
          have T0 : T z = [] := List.length_eq_zero_iff.mp hT.1.symm
          rw [tk1]
          refine ⟨fun h => (hv y).1 fun q => h (List.mem_append_left _ q), fun h => ?_⟩
          rcases List.mem_append.mp h with h | h
          · exact (hv y).2 h
          · rw [List.mem_singleton.mp h]
            exact .inl ⟨(hv z).1 hnt, T0⟩
        | cons y0 yr =>
          refine iteT ⟨_, rfl, _, rfl, _, rfl, d, _, rfl, hg, A0 z, y0 :: yr, triOf Hz, rfl, (hy.to fun o h => sx _ _ h).sq, (hT.tk fun t xs q => sx _ _ q).tri, fun zs p2 hsrt hpm hp2 => ⟨p2, zs, rfl, .inl ⟨SqL.of upd_same, fun l hl => ?_⟩⟩⟩
          have hT' := hT.tk fun t xs q => sx _ _ q
          have p2D : p2 ≠ D2 := fun q => by rw [q, hDy] at hp2; cases hp2
          have hl0 : Hz l = none := none_of (sameAt (Same.refl Hz) hp2) hl
          have lD : l ≠ D2 := fun q => by rw [q, hDy] at hl0; cases hl0
          have lp : l ≠ p2 := fun q => by rw [q, upd_same] at hl; cases hl
          have sF : ∀ {u}, Same (upd H3 d (.frz od2 (.dK (names.map fun z => (Sum.inr z, V.ref (A0 z)))))) (upd (upd (upd Hz p2 (.lst zs)) l (.tup zs)) D2 u) := fun {u} => sameAt ((sx.trans (sameAt (Same.refl _) hp2)).trans (sameAt (Same.refl _) hl)) hD2
          have tkF : ∀ {u} t xs, Hz t = some (.tup xs) → (upd (upd (upd Hz p2 (.lst zs)) l (.tup zs)) D2 u) t = some (.tup xs) := fun {u} t xs q => by
            rw [upd_ne (ne_of q hDy (by intro z; cases z)), upd_ne (ne_of_none q hl0), upd_ne (ne_of_none q hp2)]
            exact q
          refine ⟨kvs, Sum.inr z, rfl, by rw [upd_ne (Ne.symm lD), upd_ne (Ne.symm p2D)]; exact hDy, small1000 (by omega), _, upd_same, Nat.le_trans (pk_len _ _ _) (by omega), sF, fun y => ?_⟩
          rw [tk1, valV_put]
          refine ⟨fun h => ?_, fun h => ?_⟩
          · rw [if_neg (fun q => h (by rw [Sum.inr.inj q]; simp))]
            exact (hv y).1 fun q => h (List.mem_append_left _ q)
          · by_cases ez : y = z
            · subst ez
              rw [if_pos rfl]
              have tz : TrAt Hz zs (zs.map (triOf Hz)) := TrAt.of_tri fun x hx => hT'.tri x (hpm.mem_iff.mp hx)
              have pz : (zs.map (triOf Hz)).Perm (T y) := by
                have := hpm.map (triOf Hz)
                rw [hT'.map] at this
                exact this
              refine .inr ⟨l, zs, zs.map (triOf Hz), rfl, by rw [upd_ne lD, upd_same], tz.tk tkF, pz, asc_of (List.pairwise_map.mpr hsrt) ((pz.map (·.2.1)).symm.nodup (G0.apart hm))⟩
            · rw [if_neg (fun q => ez (Sum.inr.inj q))]
              rcases List.mem_append.mp h with h | h
              · rcases (hv y).2 h with h1 | ⟨e, ys', ws, g1, g2, g3, g4⟩
                · exact .inl h1
                · exact .inr ⟨e, ys', ws, g1, tkF _ _ g2, g3.tk tkF, g4⟩
              · exact absurd (List.mem_singleton.mp h) ez
      · rintro Hy ⟨kvs, hDy, hl, sx, hv⟩
        rw [List.length_map, List.take_length] at hv
        have s5 := unlock sx R3.at_
        have hdy := sx _ _ upd_same
        have hb3 := s3 _ _ (s1 _ _ hb)
        have hbF := s5 _ _ hb3
        have hpF := s5 _ _ hp3
        have pb : p ≠ b := ne_of hp3 hb3 (by intro z; cases z)
        have bd : b ≠ d := fun q => by rw [q] at hb3; rw [R3.at_] at hb3; cases hb3
        have hbY : Hy b = some (.ins CW dx []) := by rw [upd_ne bd] at hbF; exact hbF
        have D2b : D2 ≠ b := fun q => by rw [q, hbY] at hDy; cases hDy
        have D2d : D2 ≠ d := fun q => by rw [q, hdy] at hDy; cases hDy
        refine ⟨hdy, _, rfl, b, CW, dx, [], rfl, hbF, T0.cl, T0.nR, (by show 0 < 1000; decide), ?_⟩
        refine ⟨_, rfl, p, _, rfl, .inl ⟨SqL.of (by rw [upd_ne pb]; exact hpF), fun t ht => ?_⟩⟩
        have tb : t ≠ b := fun q => by rw [q, upd_same] at ht; cases ht
        have ht0 : upd Hy d (.dK (names.map fun z => (Sum.inr z, V.ref (A0 z)))) t = none := by rw [upd_ne tb] at ht; exact ht
        have td : t ≠ d := fun q => by rw [q, upd_same] at ht0; cases ht0
        have htY : Hy t = none := by rw [upd_ne td] at ht0; exact ht0
        refine ⟨_, rfl, b, CW, dx, _, rfl, by rw [upd_ne (Ne.symm tb), upd_same], T0.cl, T0.nI, (by show 1 < 1000; decide), ?_⟩
        have ex : ∀ z, ∃ ws : List T3, (z ∈ names → ws.Perm (T z) ∧ ws.Pairwise fun a b => lex3 a b = true) ∧ (z ∉ names → ws = []) ∧ ws.length ≤ 400 ∧ ((valV kvs (Sum.inr z : Key) = none ∧ ws = []) ∨ ∃ e ys, valV kvs (Sum.inr z : Key) = some (.ref e) ∧ Hy e = some (.tup ys) ∧ TrAt Hy ys ws) := fun z => by
          by_cases hz : z ∈ names
          · rcases (hv z).2 hz with ⟨h1, h2⟩ | ⟨e, ys, ws, g1, g2, g3, g4, g5⟩
            · exact ⟨[], fun _ => ⟨by rw [h2], List.Pairwise.nil⟩, fun _ => rfl, by simp, .inl ⟨h1, rfl⟩⟩
            · exact ⟨ws, fun _ => ⟨g4, g5⟩, fun h => absurd hz h, by rw [g4.length_eq]; exact Nat.le_trans (G0.few hz) n4, .inr ⟨e, ys, g1, g2, g3⟩⟩
          · exact ⟨[], fun h => absurd h hz, fun _ => rfl, by simp, .inl ⟨(hv z).1 hz, rfl⟩⟩
        obtain ⟨W, hW⟩ := Classical.axiomOfChoice ex
        have kp : ∀ {u1 u2 u3} c o, Hy c = some o → c ≠ b → c ≠ d → upd (upd (upd (upd Hy d u1) b u2) t u3) b (.ins CW dx (putF "_ids" (.ref t) [("_rows", .ref D2)])) c = some o := fun {u1 u2 u3} c o hc n1 n2 => by
          rw [upd_ne n1, upd_ne (ne_of_none hc htY), upd_ne n1, upd_ne n2]
          exact hc
        refine q _ W ⟨dx, D2, t, kvs, _, upd_same, kp _ _ hDy D2b D2d, by rw [upd_ne tb, upd_same], fun z => ⟨(hW z).2.2.1, ?_⟩⟩ ⟨fun z hz => (hW z).1 hz, fun z hz => (hW z).2.1 hz⟩ fun c o hc hn => ?_
        · have tkF : ∀ {u1 u2 u3} t' xs, Hy t' = some (.tup xs) → upd (upd (upd (upd Hy d u1) b u2) t u3) b (.ins CW dx (putF "_ids" (.ref t) [("_rows", .ref D2)])) t' = some (.tup xs) := fun {u1 u2 u3} t' xs q => kp _ _ q (ne_of q hbY (by intro z; cases z)) (ne_of q hdy (by intro z; cases z))
          rcases (hW z).2.2.2 with h | ⟨e, ys, g1, g2, g3⟩
          · exact .inl h
          · exact .inr ⟨e, ys, g1, tkF _ _ g2, g3.tk tkF⟩
        · have hc5 := s5 _ _ (s3 _ _ (s1 _ _ hc))
          rw [upd_ne hn, upd_ne (ne_of_none hc5 ht0), upd_ne hn]
          exact hc5
abbrev s_World_rows : Stmt := inClass (topS 48) 3
theorem sc_World_rows : FnScope ["self", "stream"] ["self", "stream"] (defScope s_World_rows) := ⟨rfl, rfl, rfl, by decide +kernel, rfl, by decide +kernel, by decide +kernel⟩
theorem ok_world_rows {f CW : Addr} {fd : FuncData} (F : Fun K "rows" "World.rows" s_World_rows f fd) (B : Blt mg) (T0 : Cw K mg CW) (G : K2 P w K mg base) : FnOk P w K mg base CX0 2 f fd ["self", "stream"] (spWorldRows CW) := by
  refine F.ok sc_World_rows (fun vs H Q E h => ?_) (fun cdv A outer s H vs Q E hr h => ?_)
  · obtain ⟨a, W, z, rfl, _⟩ := h
    rfl
  · obtain ⟨a, W, z, rfl, hW, hz, q⟩ := h
    have hu := hu_of hr
    refine ⟨_, (pss_cons (ps_if (pt_not (pt_val (pe_cal G.is_name (hr.mono (by decide)) pass0 (pa_cons (pv 1) pa_nil))))
      (pss_one ps_never)
      pss_nil)
    (pss_one (ps_ret (pe_callTy call_list_of (by rfl) B.list (by decide +kernel) (pa_cons (pe_dget2 hu (pe_fld (pv 0) rfl) (pv 1) (pe_tup pa_nil) ⟨rfl, rfl, rfl, rfl⟩) pa_nil))))), ?_⟩
    obtain ⟨dx, d, t, kvs, ids, h1, h2, h3, h4⟩ := id hW
    refine ⟨_, rfl, _, rfl, .inl ⟨z, rfl, (by have := hz.2.1; rw [sizeLine_eq]; omega), fun H1 s1 => ⟨_, rfl, ?_⟩⟩⟩
    rw [(nmB_iff z).mpr hz]
    refine iteF ?_
    refine ⟨_, rfl, a, CW, dx, _, _, rfl, s1 _ _ h1, T0.cl, T0.nR, rfl, d, rfl, .inl ⟨_, .inl (s1 _ _ h2)⟩, _, rfl, (by show 0 ≤ sizeLine; decide), fun e he => ⟨_, DGet.k (k := Sum.inr z) (sameAt (Same.refl H1) he _ _ (s1 _ _ h2)), ?_⟩⟩
    have s2 : Same H (upd H1 e (.tup [])) := s1.trans (sameAt (Same.refl H1) he)
    rcases (h4 z).2 with ⟨hv, hw⟩ | ⟨t', ys, hv, ht, hT⟩
    · rw [hv]
      refine ⟨e, [], rfl, .inr (SqT.of upd_same), fun l hl => ?_⟩
      refine q l [] _ (s2.trans (sameAt (Same.refl _) hl)) (none_of s2 hl) upd_same ?_
      rw [hw]
      exact ⟨rfl, fun i v t a b => by simp at a⟩
    · rw [hv]
      refine ⟨t', ys, rfl, .inr (SqT.of (s2 _ _ ht)), fun l hl => ?_⟩
      exact q l ys _ (s2.trans (sameAt (Same.refl _) hl)) (none_of s2 hl) upd_same (hT.tk fun t xs q => sameAt (Same.refl _) hl _ _ (s2 _ _ q))
end
end Ash

set_option Elab.async false
set_option linter.all false
set_option maxRecDepth 100000
set_option maxHeartbeats 4000000
namespace Ash
open PySem PySem.Spec PyProof.Rows L2
open C8 (pss_cut)
/-! ### terms: classes, sizes -/
abbrev ATTRS : List Str := ["stream", "term", "first", "second", "amount", "spelling", "depth", "parts", "looks", "choices"]
/-- the facts of the classes of terms -/
structure TF (K : PySem.W.Frag) (mg : Str → Option Value) (C : TC) : Prop where
  cl : ∀ a, C.Is a → Cls K a
  no : ∀ a, C.Is a → ∀ f ∈ ATTRS, NoAttr K a f
  ty : ∀ a, C.Is a → PySem.W.findIn K (.ref a) "__class__" = some (some (.builtin "object.__class__")) ∧ PySem.W.specialIn K (.builtin "object.__class__") "__get__" = some (some (.builtin "getset_descriptor.__get__")) ∧ PySem.W.takesIn K (.builtin "object.__class__") = some true ∧ PySem.W.mroIn K a (.type "object") = some true
  one : ∀ a b, C.Is a → C.Is b → PySem.W.kitOne K (.ref a) (.ref b) = some (decide (a = b))
  Now : mg "Now" = some (.ref C.now)
  Last : mg "Last" = some (.ref C.last)
  Next : mg "Next" = some (.ref C.next)
  Shift : mg "Shift" = some (.ref C.shift)
  Either : mg "Either" = some (.ref C.either)
  Later : mg "Later" = some (.ref C.later)
  Earlier : mg "Earlier" = some (.ref C.earlier)
theorem TF.tyx {K : PySem.W.Frag} {mg : Str → Option Value} {C : TC} (T : TF K mg C) {H : Hp} {a : Addr} {t : Tm} (h : TmAt C H a t) : TyX K H (.ref a) (.ref (C.of t)) := by
  obtain ⟨dx, fs, sp, i⟩ := h.in_
  obtain ⟨h1, h2, h3, h4⟩ := T.ty _ (C.is_of t)
  exact .base (.ins i.at_ (T.cl _ (C.is_of t)) h1 h2 h3 h4)
theorem TmAt.off {C : TC} {H H' : Hp} {b D dx : Addr} (hb : H b = some (.ins D dx [])) (k : ∀ c o, H c = some o → c ≠ b → H' c = some o) : ∀ {t : Tm} {a : Addr}, TmAt C H a t → TmAt C H' a t
  | .now, a, ⟨dx, sp, h1, h2⟩ => ⟨dx, sp, k _ _ h1 (ne_of h1 hb (by intro z; cases z)), k _ _ h2 (ne_of h2 hb (by intro z; cases z))⟩
  | .last s t, a, ⟨dx, c, sp, h1, h2, h3⟩ => ⟨dx, c, sp, k _ _ h1 (ne_of h1 hb (by intro z; cases z)), k _ _ h2 (ne_of h2 hb (by intro z; cases z)), TmAt.off hb k h3⟩
  | .next s t, a, ⟨dx, c, sp, h1, h2, h3⟩ => ⟨dx, c, sp, k _ _ h1 (ne_of h1 hb (by intro z; cases z)), k _ _ h2 (ne_of h2 hb (by intro z; cases z)), TmAt.off hb k h3⟩
  | .shift s t, a, ⟨dx, c, sp, h1, h2, h3⟩ => ⟨dx, c, sp, k _ _ h1 (ne_of h1 hb (by intro z; cases z)), k _ _ h2 (ne_of h2 hb (by intro z; cases z)), TmAt.off hb k h3⟩
  | .either s t, a, ⟨dx, c, d, sp, h1, h2, h3, h4⟩ => ⟨dx, c, d, sp, k _ _ h1 (ne_of h1 hb (by intro z; cases z)), k _ _ h2 (ne_of h2 hb (by intro z; cases z)), TmAt.off hb k h3, TmAt.off hb k h4⟩
  | .later s t, a, ⟨dx, c, d, sp, h1, h2, h3, h4⟩ => ⟨dx, c, d, sp, k _ _ h1 (ne_of h1 hb (by intro z; cases z)), k _ _ h2 (ne_of h2 hb (by intro z; cases z)), TmAt.off hb k h3, TmAt.off hb k h4⟩
  | .earlier s t, a, ⟨dx, c, d, sp, h1, h2, h3, h4⟩ => ⟨dx, c, d, sp, k _ _ h1 (ne_of h1 hb (by intro z; cases z)), k _ _ h2 (ne_of h2 hb (by intro z; cases z)), TmAt.off hb k h3, TmAt.off hb k h4⟩
def Tm.isLook : Tm → Bool
  | .last _ _ => true
  | .next _ _ => true
  | _ => false
theorem tyx_same {K : PySem.W.Frag} {H H' : Hp} {v : V} {t : Value} (h : TyX K H v t) (s : Same H H') : TyX K H' v t := by
  cases h with
  | base b =>
    refine .base ?_
    cases b with
    | non => exact .non
    | bl x => exact .bl x
    | int x => exact .int x
    | str x => exact .str x
    | flt x => exact .flt x
    | lst e => exact .lst (s _ _ e)
    | frz e => exact .frz (s _ _ e)
    | tup e => exact .tup (s _ _ e)
    | dK e => exact .dK (s _ _ e)
    | dT e => exact .dT (s _ _ e)
    | ins e c a b d f => exact .ins (s _ _ e) c a b d f
  | byt b => exact .byt b
  | set e => exact .set (s _ _ e)
  | kList e c => exact .kList e c
  | kTuple e c => exact .kTuple e c
  | kDict e c => exact .kDict e c
  | fTuple e => exact .fTuple (s _ _ e)
  | fDict e => exact .fDict (s _ _ e)
/-- the classes are apart -/
structure TD (C : TC) : Prop where
  nd : [C.now, C.last, C.next, C.shift, C.either, C.later, C.earlier].Nodup
theorem TD.look {C : TC} (D : TD C) (t : Tm) : decide (C.of t ∈ [C.last, C.next]) = t.isLook := by
  have h := D.nd
  simp only [List.nodup_cons, List.mem_cons, List.not_mem_nil, or_false, not_or] at h
  obtain ⟨⟨a1, a2, a3, a4, a5, a6⟩, ⟨b1, b2, b3, b4, b5⟩, ⟨c1, c2, c3, c4⟩, _⟩ := h
  cases t <;> simp [TC.of, Tm.isLook, a1, a2, Ne.symm b2, Ne.symm b3, Ne.symm b4, Ne.symm b5, Ne.symm c1, Ne.symm c2, Ne.symm c3, Ne.symm c4, Ne.symm b1]
/-- no term -/
def NotTm (K : PySem.W.Frag) (C : TC) (H : Hp) (v : V) : Prop := ∃ t, TyX K H v t ∧ ∀ a, C.Is a → PySem.W.kitOne K t (.ref a) = some false
def spIsTerm (K : PySem.W.Frag) (C : TC) : Sp := fun vs H Q _ => ∃ v, vs = [v] ∧ ((∃ a t, v = .ref a ∧ TmAt C H a t ∧ ∀ H', Same H H' → Q (.bl true) H') ∨ (NotTm K C H v ∧ ∀ H', Same H H' → Q (.bl false) H'))
def spIsLook (C : TC) : Sp := fun vs H Q _ => ∃ a t, vs = [.ref a] ∧ TmAt C H a t ∧ ∀ H', Same H H' → Q (.bl t.isLook) H'
def spCStream : Sp := fun vs H Q _ => ∃ z, vs = [.str z] ∧ IsNm z ∧ ∀ H', Same H H' → Q (.str z) H'
def spCTerm (C : TC) : Sp := fun vs H Q _ => ∃ a t, vs = [.ref a] ∧ TmAt C H a t ∧ ∀ H', Same H H' → Q (.ref a) H'
def szD (ts : List Tm) : Int := 1 + mxD (ts.map Tm.dep) 0
def szP (ts : List Tm) : Int := 1 + (ts.map Tm.par).sum
def szL (ts : List Tm) : Int := (ts.map Tm.lok).sum
def szC (ts : List Tm) : Int := (ts.map Tm.cho).sum
def spSizes (C : TC) : Sp := fun vs H Q _ => ∃ (tp : Addr) (as : List Addr) (ts : List Tm) (l0 c0 : Int), vs = [.ref tp, .int l0, .int c0] ∧ H tp = some (.tup (as.map V.ref)) ∧ as.length = ts.length ∧ as.length ≤ 2 ∧ (∀ (i : Nat) a t, as[i]? = some a → ts[i]? = some t → TmAt C H a t) ∧
  szD ts ≤ 12 ∧ szP ts ≤ 40 ∧ l0 + szL ts ≤ 12 ∧ ∀ (q : Addr) H', Same H H' → H q = none → H' q = some (.tup [.int (szD ts), .int (szP ts), .int (l0 + szL ts), .int (c0 + szC ts)]) → Q (.ref q) H'
/-- one more attribute -/
def Keep (b : Addr) (H H' : Hp) : Prop := ∀ c o, H c = some o → c ≠ b → H' c = some o
def spInit0 (C : TC) : Sp := fun vs H Q _ => ∃ (b dx : Addr), vs = [.ref b] ∧ H b = some (.ins C.now dx []) ∧ ∀ H', TmAt C H' b .now → Keep b H H' → Q .non H'
def spInitL (C : TC) (D : Addr) (mk : Str → Tm → Tm) : Sp := fun vs H Q _ => ∃ (b dx a : Addr) (z : Str) (t : Tm), vs = [.ref b, .str z, .ref a] ∧ H b = some (.ins D dx []) ∧ IsNm z ∧ TmAt C H a t ∧ (mk z t).Fit ∧ ∀ H', TmAt C H' b (mk z t) → Keep b H H' → Q .non H'
def spInitS (C : TC) : Sp := fun vs H Q _ => ∃ (b dx a : Addr) (n : Int) (t : Tm), vs = [.ref b, .ref a, .int n] ∧ H b = some (.ins C.shift dx []) ∧ TmAt C H a t ∧ (Tm.shift n t).Fit ∧ ∀ H', TmAt C H' b (.shift n t) → Keep b H H' → Q .non H'
def spInitP (C : TC) (D : Addr) (mk : Tm → Tm → Tm) : Sp := fun vs H Q _ => ∃ (b dx a c : Addr) (t u : Tm), vs = [.ref b, .ref a, .ref c] ∧ H b = some (.ins D dx []) ∧ TmAt C H a t ∧ TmAt C H c u ∧ (mk t u).Fit ∧ ∀ H', TmAt C H' b (mk t u) → Keep b H H' → Q .non H'
section
variable {P : Program} {w : World} {K : PySem.W.Frag} {mg : Str → Option Value} {base : Heap} {C : TC}
theorem TF.any (T : TF K mg C) {a : Addr} (ha : C.Is a) : ∀ {bs : List Addr}, (∀ b ∈ bs, C.Is b) → PySem.W.kitAny K (.ref a) (bs.map Value.ref) = some (decide (a ∈ bs))
  | [], _ => rfl
  | b :: r, h => by
    have ih := T.any ha (bs := r) fun b hb => h b (List.mem_cons_of_mem _ hb)
    refine kitAny_cons (b := decide (a = b)) (T.one a b ha (h b List.mem_cons_self)) (fun e => ?_) (fun e => ?_)
    · rw [ih]
      have : ¬ a = b := of_decide_eq_false e
      simp [this]
    · have : a = b := of_decide_eq_true e
      simp [this]
abbrev s_is_term : Stmt := topS 29
theorem sc_is_term : FnScope ["thing"] ["thing"] (defScope s_is_term) := ⟨rfl, rfl, rfl, by decide +kernel, rfl, by decide +kernel, by decide +kernel⟩
theorem ok_is_term {f : Addr} {fd : FuncData} (F : Fun K "is_term" "is_term" s_is_term f fd) (B : Blt mg) (T : TF K mg C) : FnOk P w K mg base CX0 1 f fd ["thing"] (spIsTerm K C) := by
  obtain ⟨t_cl, t_no, t_ty, t_one, c_Now, c_Last, c_Next, c_Shift, c_Either, c_Later, c_Earlier⟩ := id T
  refine F.ok sc_is_term (fun vs H Q E h => ?_) (fun cdv A outer s H vs Q E hr h => ?_)
  · obtain ⟨v, rfl, _⟩ := h
    rfl
  · obtain ⟨v, rfl, hv⟩ := h
    refine ⟨_, (pss_one (ps_ret (pe_callB call_isiT (by rfl) B.isinstance (by decide +kernel) (pa_cons (pv 0) (pa_cons (pe_tup (pa_cons (pe_glob (v := .ref C.now) (by rfl) c_Now rfl) (pa_cons (pe_glob (v := .ref C.last) (by rfl) c_Last rfl) (pa_cons (pe_glob (v := .ref C.next) (by rfl) c_Next rfl) (pa_cons (pe_glob (v := .ref C.shift) (by rfl) c_Shift rfl) (pa_cons (pe_glob (v := .ref C.either) (by rfl) c_Either rfl) (pa_cons (pe_glob (v := .ref C.later) (by rfl) c_Later rfl) (pa_cons (pe_glob (v := .ref C.earlier) (by rfl) c_Earlier rfl) pa_nil)))))))) pa_nil))))), ?_⟩
    refine ⟨_, rfl, (by show 7 ≤ sizeLine; decide), fun p hp => ?_⟩
    have s1 : ∀ {o}, Same H (upd H p o) := fun {o} => sameAt (Same.refl H) hp
    have cs : ∀ b ∈ [C.now, C.last, C.next, C.shift, C.either, C.later, C.earlier], C.Is b := fun b hb => by
      simp only [List.mem_cons, List.not_mem_nil, or_false] at hb
      exact hb
    rcases hv with ⟨a, t, rfl, h, q⟩ | ⟨⟨t, h, hn⟩, q⟩
    · have k := T.any (C.is_of t) cs
      have e : decide (C.of t ∈ [C.now, C.last, C.next, C.shift, C.either, C.later, C.earlier]) = true := by
        have := C.is_of t
        simp only [List.mem_cons, List.not_mem_nil, or_false, decide_eq_true_eq]
        exact this
      rw [e] at k
      exact ⟨_, p, _, _, _, true, rfl, upd_same, .cons (.own _) (.cons (.own _) (.cons (.own _) (.cons (.own _) (.cons (.own _) (.cons (.own _) (.cons (.own _) .nil)))))), T.tyx (h.same s1), k, q _ s1⟩
    · have k : PySem.W.kitAny K t ([C.now, C.last, C.next, C.shift, C.either, C.later, C.earlier].map Value.ref) = some false := by
        have : ∀ bs : List Addr, (∀ b ∈ bs, C.Is b) → PySem.W.kitAny K t (bs.map Value.ref) = some false := fun bs => by
          induction bs with
          | nil => exact fun _ => rfl
          | cons b r ih => exact fun hb => kitAny_cons (hn b (hb b List.mem_cons_self)) (fun _ => ih fun b hb' => hb b (List.mem_cons_of_mem _ hb')) (fun z => nomatch z)
        exact this _ cs
      exact ⟨_, p, _, _, _, false, rfl, upd_same, .cons (.own _) (.cons (.own _) (.cons (.own _) (.cons (.own _) (.cons (.own _) (.cons (.own _) (.cons (.own _) .nil)))))), tyx_same h s1, k, q _ s1⟩
abbrev s_is_look : Stmt := topS 30
theorem sc_is_look : FnScope ["thing"] ["thing"] (defScope s_is_look) := ⟨rfl, rfl, rfl, by decide +kernel, rfl, by decide +kernel, by decide +kernel⟩
theorem ok_is_look {f : Addr} {fd : FuncData} (F : Fun K "is_look" "is_look" s_is_look f fd) (B : Blt mg) (T : TF K mg C) (D : TD C) : FnOk P w K mg base CX0 1 f fd ["thing"] (spIsLook C) := by
  obtain ⟨t_cl, t_no, t_ty, t_one, c_Now, c_Last, c_Next, c_Shift, c_Either, c_Later, c_Earlier⟩ := id T
  refine F.ok sc_is_look (fun vs H Q E h => ?_) (fun cdv A outer s H vs Q E hr h => ?_)
  · obtain ⟨a, t, rfl, _⟩ := h
    rfl
  · obtain ⟨a, t, rfl, h, q⟩ := h
    refine ⟨_, (pss_one (ps_ret (pe_callB call_isiT (by rfl) B.isinstance (by decide +kernel) (pa_cons (pv 0) (pa_cons (pe_tup (pa_cons (pe_glob (v := .ref C.last) (by rfl) c_Last rfl) (pa_cons (pe_glob (v := .ref C.next) (by rfl) c_Next rfl) pa_nil))) pa_nil))))), ?_⟩
    refine ⟨_, rfl, (by show 2 ≤ sizeLine; decide), fun p hp => ?_⟩
    have s1 : ∀ {o}, Same H (upd H p o) := fun {o} => sameAt (Same.refl H) hp
    have cs : ∀ b ∈ [C.last, C.next], C.Is b := fun b hb => by
      simp only [List.mem_cons, List.not_mem_nil, or_false] at hb
      exact .inr (hb.elim .inl fun z => .inr (.inl z))
    have k := T.any (C.is_of t) cs
    refine ⟨_, p, _, _, _, _, rfl, upd_same, .cons (.own _) (.cons (.own _) .nil), T.tyx (h.same s1), k, ?_⟩
    have e : decide (C.of t ∈ [C.last, C.next]) = t.isLook := D.look t
    rw [e]
    exact q _ s1
structure T1 (P : Program) (w : World) (K : PySem.W.Frag) (mg : Str → Option Value) (base : Heap) (C : TC) : Prop extends W2 P w K mg base where
  is_term : Cal P w K mg base CX0 "is_term" 1 ["thing"] (spIsTerm K C)
  is_look : Cal P w K mg base CX0 "is_look" 1 ["thing"] (spIsLook C)
abbrev s_checked_stream : Stmt := topS 31
theorem sc_checked_stream : FnScope ["stream"] ["stream"] (defScope s_checked_stream) := ⟨rfl, rfl, rfl, by decide +kernel, rfl, by decide +kernel, by decide +kernel⟩
theorem ok_cstream {f : Addr} {fd : FuncData} (F : Fun K "checked_stream" "checked_stream" s_checked_stream f fd) (B : Blt mg) (G : T1 P w K mg base C) : FnOk P w K mg base CX0 2 f fd ["stream"] spCStream := by
  refine F.ok sc_checked_stream (fun vs H Q E h => ?_) (fun cdv A outer s H vs Q E hr h => ?_)
  · obtain ⟨z, rfl, _⟩ := h
    rfl
  · obtain ⟨z, rfl, hz, q⟩ := h
    refine ⟨_, (pss_cons (ps_if (pt_not (pt_val (pe_cal G.is_name (hr.mono (by decide)) pass0 (pa_cons (pv 0) pa_nil))))
      (pss_one ps_never)
      pss_nil)
    (pss_one (ps_ret (pv 0)))), ?_⟩
    refine ⟨_, rfl, _, rfl, .inl ⟨z, rfl, (by have := hz.2.1; rw [sizeLine_eq]; omega), fun H1 s1 => ⟨_, rfl, ?_⟩⟩⟩
    rw [(nmB_iff z).mpr hz]
    exact iteF ⟨_, rfl, q H1 s1⟩
abbrev s_checked_term : Stmt := topS 32
theorem sc_checked_term : FnScope ["term"] ["term"] (defScope s_checked_term) := ⟨rfl, rfl, rfl, by decide +kernel, rfl, by decide +kernel, by decide +kernel⟩
theorem ok_cterm {f : Addr} {fd : FuncData} (F : Fun K "checked_term" "checked_term" s_checked_term f fd) (B : Blt mg) (G : T1 P w K mg base C) : FnOk P w K mg base CX0 2 f fd ["term"] (spCTerm C) := by
  refine F.ok sc_checked_term (fun vs H Q E h => ?_) (fun cdv A outer s H vs Q E hr h => ?_)
  · obtain ⟨a, t, rfl, _⟩ := h
    rfl
  · obtain ⟨a, t, rfl, h, q⟩ := h
    refine ⟨_, (pss_cons (ps_if (pt_not (pt_val (pe_cal G.is_term (hr.mono (by decide)) pass0 (pa_cons (pv 0) pa_nil))))
      (pss_one ps_never)
      pss_nil)
    (pss_one (ps_ret (pv 0)))), ?_⟩
    exact ⟨_, rfl, _, rfl, .inl ⟨a, t, rfl, h, fun H1 s1 => ⟨_, rfl, iteF ⟨_, rfl, q H1 s1⟩⟩⟩⟩
abbrev s_sizes : Stmt := topS 33
theorem sc_sizes : FnScope ["children", "looks", "choices", "depth", "parts", "child"] ["children", "looks", "choices"] (defScope s_sizes) := ⟨rfl, rfl, rfl, by decide +kernel, rfl, by decide +kernel, by decide +kernel⟩
theorem ok_sizes {f : Addr} {fd : FuncData} (F : Fun K "sizes" "sizes" s_sizes f fd) (B : Blt mg) (Cs : Cst mg) (T : TF K mg C) : FnOk P w K mg base CX0 1 f fd ["children", "looks", "choices"] (spSizes C) := by
  obtain ⟨t1, g_MOST_DEPTH⟩ := Cs.k_MOST_DEPTH
  obtain ⟨t2, g_MOST_PARTS⟩ := Cs.k_MOST_PARTS
  obtain ⟨t3, g_MOST_LOOKS⟩ := Cs.k_MOST_LOOKS
  refine F.ok sc_sizes (fun vs H Q E h => ?_) (fun cdv A outer s H vs Q E hr h => ?_)
  · obtain ⟨tp, as, ts, l0, c0, rfl, _⟩ := h
    rfl
  · obtain ⟨tp, as, ts, l0, c0, rfl, ht, hl, h2, hT, hd, hp, hk, q⟩ := h
    have hu9 : (A.deeper (envOfC "sizes" (defScope s_sizes) s.heap.objs.size f cdv)).units + 9 < cLine := by
      have := hr.units
      omega
    have comp : ∀ (nm : Str) (F : Tm → Int) (hF : ∀ {H2 a t dx fs sp}, TmIn C H2 a t dx fs sp → fs.lookup nm = some (.int (F t))) (hA : nm ∈ ATTRS) (H1 : Hp) (s1 : Same H H1) (D : Addr) (hD : H1 D = none) (x1 x2 x3 x4 x5 : Option V) (Qd : Hp → Prop), (∀ H2, Same H H2 → H2 D = some (.lst ((ts.map F).map V.int)) → Qd H2) →
        ∃ W : Nat → Nat → Hp → Prop, (∃ m, W 0 m (upd H1 D (.lst []))) ∧ ∀ i m H, W i m H →
          ((Itt K tp).stop i H ∧ Qd H) ∨ ((Itt K tp).go i H ∧ ∃ Nx : Hp → Prop, (∀ H', Nx H' → ∃ m', m' < m ∧ W (i + 1) m' H') ∧ ∀ x H', (Itt K tp).yld i H x H' → gName 5 x (wipe [some (.ref tp), x1, x2, x3, x4, x5] [5]) H' fun σ2 H2 => wipe σ2 [5] = wipe [some (.ref tp), x1, x2, x3, x4, x5] [5] ∧ tYes σ2 H2 fun b H3 =>
            if b = true then tFld K (tVar 5) nm σ2 H3 fun y H4 => ∃ acc, H4 D = some (.lst acc) ∧ acc.length < sizeLine ∧ Nx (upd H4 D (.lst (acc ++ [y]))) else Nx H3) := fun nm F hF hA H1 s1 D hD x1 x2 x3 x4 x5 Qd q2 => by
      refine lc_it (walk_tup (xs := as.map V.ref)) (fun i H3 => H3 D = some (.lst (((ts.take i).map F).map V.int)) ∧ Same H1 H3) ⟨upd_same, sameAt (Same.refl H1) hD⟩ (fun i H3 _ hv => SqT.of (hv.2 _ _ (s1 _ _ ht))) ?_ ?_
      · rintro i x H3 H4 hi ⟨hD3, s3⟩ ⟨rfl, hx⟩
        rw [List.length_map] at hi
        rw [List.getElem?_map, List.getElem?_eq_getElem hi, Option.map_some] at hx
        cases hx
        have hi2 : i < ts.length := by rw [← hl]; exact hi
        have ht2 := List.getElem?_eq_getElem hi2
        have hm := (hT i _ _ (List.getElem?_eq_getElem hi) ht2).same (s1.trans s3)
        obtain ⟨dx, fs, sp, In⟩ := hm.in_
        refine ⟨rfl, _, rfl, _, _, dx, fs, _, rfl, In.at_, T.cl _ (C.is_of _), T.no _ (C.is_of _) _ hA, hF In, _, hD3, ?_, ?_, sameAt s3 hD⟩
        · rw [List.length_map, List.length_map, List.length_take]
          exact small1000 (by omega)
        · rw [upd_same, list_take ht2, List.map_append, List.map_append]
          rfl
      · rintro H3 ⟨hD3, s3⟩
        rw [List.length_map, hl, List.take_length] at hD3
        exact q2 H3 (s1.trans s3) hD3
    refine ⟨_, (pss_cons (ps_set (i := 3) sc_sizes.nd rfl (Or.inl rfl) (pe_op op_add pe_int (pe_callBK (cr_maxD rfl hu9) (by rfl) B.max (by decide +kernel) (pa_cons (pe_lc (own := [("child", 5)]) (g := gName 5) (tt := tYes) (by rfl) sc_sizes.nd (pi_tup (pv 0)) (blkOk_by (own := [("child", 5)]) (N := ["children", "looks", "choices", "depth", "parts", "child"]) (sc := defScope s_sizes) (by decide +kernel)) (fun _ _ _ _ _ => (pg_name (i := 5) sc_sizes.nd rfl (Or.inl rfl))) (fun _ _ _ _ _ => pts_nil) (fun _ _ _ _ _ => (show PE _ _ (tFld K _ _) from pe_fld (pv 5) rfl))) pa_nil) (pk_cons pe_int pk_nil))))
    (pss_cons (ps_set (i := 4) sc_sizes.nd rfl (Or.inl rfl) (pe_op op_add pe_int (pe_callB (cr_sum rfl) (by rfl) B.sum (by decide +kernel) (pa_cons (pe_lc (own := [("child", 5)]) (g := gName 5) (tt := tYes) (by rfl) sc_sizes.nd (pi_tup (pv 0)) (blkOk_by (own := [("child", 5)]) (N := ["children", "looks", "choices", "depth", "parts", "child"]) (sc := defScope s_sizes) (by decide +kernel)) (fun _ _ _ _ _ => (pg_name (i := 5) sc_sizes.nd rfl (Or.inl rfl))) (fun _ _ _ _ _ => pts_nil) (fun _ _ _ _ _ => (show PE _ _ (tFld K _ _) from pe_fld (pv 5) rfl))) pa_nil))))
    (pss_cons (ps_set (i := 1) sc_sizes.nd rfl (Or.inl rfl) (pe_op op_add (pv 1) (pe_callB (cr_sum rfl) (by rfl) B.sum (by decide +kernel) (pa_cons (pe_lc (own := [("child", 5)]) (g := gName 5) (tt := tYes) (by rfl) sc_sizes.nd (pi_tup (pv 0)) (blkOk_by (own := [("child", 5)]) (N := ["children", "looks", "choices", "depth", "parts", "child"]) (sc := defScope s_sizes) (by decide +kernel)) (fun _ _ _ _ _ => (pg_name (i := 5) sc_sizes.nd rfl (Or.inl rfl))) (fun _ _ _ _ _ => pts_nil) (fun _ _ _ _ _ => (show PE _ _ (tFld K _ _) from pe_fld (pv 5) rfl))) pa_nil))))
    (pss_cons (ps_set (i := 2) sc_sizes.nd rfl (Or.inl rfl) (pe_op op_add (pv 2) (pe_callB (cr_sum rfl) (by rfl) B.sum (by decide +kernel) (pa_cons (pe_lc (own := [("child", 5)]) (g := gName 5) (tt := tYes) (by rfl) sc_sizes.nd (pi_tup (pv 0)) (blkOk_by (own := [("child", 5)]) (N := ["children", "looks", "choices", "depth", "parts", "child"]) (sc := defScope s_sizes) (by decide +kernel)) (fun _ _ _ _ _ => (pg_name (i := 5) sc_sizes.nd rfl (Or.inl rfl))) (fun _ _ _ _ _ => pts_nil) (fun _ _ _ _ _ => (show PE _ _ (tFld K _ _) from pe_fld (pv 5) rfl))) pa_nil))))
    (pss_cons (ps_if (PW.pt (pw_or (pt_cmpR op_gt (pv 3) (pe_glob (v := .int 12) (by rfl) g_MOST_DEPTH ⟨_, rfl⟩) (nomark _)) (pw_or (pt_cmpR op_gt (pv 4) (pe_glob (v := .int 40) (by rfl) g_MOST_PARTS ⟨_, rfl⟩) (nomark _)) (pw_or1 (pt_cmpR op_gt (pv 1) (pe_glob (v := .int 12) (by rfl) g_MOST_LOOKS ⟨_, rfl⟩) (nomark _))))))
      (pss_one ps_never)
      pss_nil)
    (pss_one (ps_ret (pe_tup (pa_cons (pv 3) (pa_cons (pv 4) (pa_cons (pv 1) (pa_cons (pv 2) pa_nil)))))))))))), ?_⟩
    refine ⟨_, rfl, tp, rfl, ⟨_, SqT.of ht⟩, fun D1 hD1 => comp "depth" Tm.dep (fun i => i.depth) (by decide +kernel) H (Same.refl H) D1 hD1 _ _ _ _ _ _ fun H1 s1 h1 => ?_⟩
    refine ⟨D1, ts.map Tm.dep, 0, rfl, rfl, SqL.of h1, _, _, rfl, rfl, ?_⟩
    refine ⟨_, rfl, tp, rfl, ⟨_, SqT.of (s1 _ _ ht)⟩, fun D2 hD2 => comp "parts" Tm.par (fun i => i.parts) (by decide +kernel) H1 s1 D2 hD2 _ _ _ _ _ _ fun H2 s2 h2' => ?_⟩
    refine ⟨D2, ts.map Tm.par, rfl, SqL.of h2', _, _, rfl, rfl, _, rfl, ?_⟩
    refine ⟨_, rfl, tp, rfl, ⟨_, SqT.of (s2 _ _ ht)⟩, fun D3 hD3 => comp "looks" Tm.lok (fun i => i.looks) (by decide +kernel) H2 s2 D3 hD3 _ _ _ _ _ _ fun H3 s3 h3 => ?_⟩
    refine ⟨D3, ts.map Tm.lok, rfl, SqL.of h3, _, _, rfl, rfl, _, rfl, ?_⟩
    refine ⟨_, rfl, tp, rfl, ⟨_, SqT.of (s3 _ _ ht)⟩, fun D4 hD4 => comp "choices" Tm.cho (fun i => i.choices) (by decide +kernel) H3 s3 D4 hD4 _ _ _ _ _ _ fun H4 s4 h4 => ?_⟩
    refine ⟨D4, ts.map Tm.cho, rfl, SqL.of h4, _, _, rfl, rfl, ?_⟩
    have e1 : decide ((12 : Int) < 1 + mxD (ts.map Tm.dep) 0) = false := decide_eq_false (by have h : 1 + mxD (ts.map Tm.dep) 0 ≤ 12 := hd; omega)
    have e2 : decide ((40 : Int) < 1 + (ts.map Tm.par).sum) = false := decide_eq_false (by have h : 1 + (ts.map Tm.par).sum ≤ 40 := hp; omega)
    have e3 : decide ((12 : Int) < l0 + (ts.map Tm.lok).sum) = false := decide_eq_false (by have h : l0 + (ts.map Tm.lok).sum ≤ 12 := hk; omega)
    refine ⟨_, rfl, _, _, rfl, rfl, _, rfl, ?_⟩
    rw [e1]
    refine iteF ⟨_, rfl, _, _, rfl, rfl, _, rfl, ?_⟩
    rw [e2]
    refine iteF ⟨_, rfl, _, _, rfl, rfl, _, rfl, ?_⟩
    rw [e3]
    refine iteF ⟨_, rfl, _, rfl, _, rfl, _, rfl, (by show 4 ≤ sizeLine; decide), fun t ht2 => ?_⟩
    exact q t _ (s4.trans (sameAt (Same.refl H4) ht2)) (none_of s4 ht2) upd_same
structure T2 (P : Program) (w : World) (K : PySem.W.Frag) (mg : Str → Option Value) (base : Heap) (C : TC) : Prop extends T1 P w K mg base C where
  checked_stream : Cal P w K mg base CX0 "checked_stream" 2 ["stream"] spCStream
  checked_term : Cal P w K mg base CX0 "checked_term" 2 ["term"] (spCTerm C)
  sizes : Cal P w K mg base CX0 "sizes" 1 ["children", "looks", "choices"] (spSizes C)
theorem putF_no {f : Str} {v : V} : ∀ {fs : List (Str × V)}, fs.lookup f = none → putF f v fs = fs ++ [(f, v)]
  | [], _ => rfl
  | (g, x) :: r, h => by
    by_cases e : g = f
    · subst e
      simp [List.lookup] at h
    · have h' : (f == g) = false := beq_eq_false_iff_ne.mpr fun z => e z.symm
      simp only [List.lookup, h'] at h
      show (if g = f then (g, v) :: r else (g, x) :: putF f v r) = _
      rw [if_neg e, putF_no h]
      rfl
theorem pl {f : Str} {v : V} {n : Nat} {fs : List (Str × V)} (h : fs.length ≤ n) : (putF f v fs).length ≤ n + 1 := by
  induction fs generalizing n with
  | nil => exact Nat.succ_le_succ (Nat.zero_le n)
  | cons x r ih =>
    obtain ⟨g, x⟩ := x
    show (if g = f then (g, v) :: r else (g, x) :: putF f v r).length ≤ n + 1
    have h : r.length + 1 ≤ n := h
    split
    · show r.length + 1 ≤ n + 1
      omega
    · show (putF f v r).length + 1 ≤ n + 1
      have := ih (n := n - 1) (by omega)
      omega
theorem lk_app {f : Str} : ∀ {fs gs : List (Str × V)}, fs.lookup f = none → gs.lookup f = none → (fs ++ gs).lookup f = none
  | [], _, _, h => h
  | (g, x) :: r, gs, h1, h2 => by
    by_cases e : f = g
    · subst e
      simp [List.lookup] at h1
    · have h' : (f == g) = false := beq_eq_false_iff_ne.mpr e
      simp only [List.lookup, h'] at h1
      show List.lookup f ((g, x) :: (r ++ gs)) = none
      simp only [List.lookup, h']
      exact lk_app h1 h2
theorem fend {pre : List (Str × V)} {s d p l c : V} (h1 : pre.lookup ("spelling" : Str) = none) (h2 : pre.lookup ("depth" : Str) = none) (h3 : pre.lookup ("parts" : Str) = none) (h4 : pre.lookup ("looks" : Str) = none) (h5 : pre.lookup ("choices" : Str) = none) :
    putF "choices" c (putF "looks" l (putF "parts" p (putF "depth" d (putF "spelling" s pre)))) = pre ++ [(("spelling" : Str), s), ("depth", d), ("parts", p), ("looks", l), ("choices", c)] := by
  rw [putF_no h1, putF_no (lk_app h2 (by rfl)), putF_no (lk_app (lk_app h3 (by rfl)) (by rfl)), putF_no (lk_app (lk_app (lk_app h4 (by rfl)) (by rfl)) (by rfl)), putF_no (lk_app (lk_app (lk_app (lk_app h5 (by rfl)) (by rfl)) (by rfl)) (by rfl))]
  simp
theorem Keep.same {b : Addr} {H H1 H2 : Hp} (k : Keep b H H1) (s : Same H1 H2) : Keep b H H2 := fun c o hc hn => s _ _ (k c o hc hn)
theorem Keep.upd {b : Addr} {H H1 : Hp} {u : HO} (k : Keep b H H1) : Keep b H (upd H1 b u) := fun c o hc hn => by rw [upd_ne hn]; exact k c o hc hn
theorem Keep.refl {b : Addr} {H : Hp} : Keep b H H := fun _ _ h _ => h
theorem Keep.at {b q : Addr} {H H1 : Hp} {u : HO} (k : Keep b H H1) (hq : H1 q = none) : Keep b H (L2.upd H1 q u) := k.same (sameAt (Same.refl H1) hq)
abbrev s_Now_init : Stmt := inClass (topS 22) 0
theorem sc_Now_init : FnScope ["self"] ["self"] (defScope s_Now_init) := ⟨rfl, rfl, rfl, by decide +kernel, rfl, by decide +kernel, by decide +kernel⟩
theorem ok_now {f : Addr} {fd : FuncData} (F : Fun K "__init__" "Now.__init__" s_Now_init f fd) (B : Blt mg) (T : TF K mg C) (G : T2 P w K mg base C) : FnOk P w K mg base CX0 2 f fd ["self"] (spInit0 C) := by
  refine F.ok sc_Now_init (fun vs H Q E h => ?_) (fun cdv A outer s H vs Q E hr h => ?_)
  · obtain ⟨b, dx, rfl, _⟩ := h
    rfl
  · obtain ⟨b, dx, rfl, hb, q⟩ := h
    have Is : C.Is C.now := C.is_of .now
    refine ⟨_, (pss_cons (ps_fld (pv 0) (pe_tup (pa_cons pe_str pa_nil)) rfl)
    (pss_one (ps_asg (pe_cal G.sizes (hr.mono (by decide)) pass0 (pa_cons (pe_tup pa_nil) (pa_cons pe_int (pa_cons pe_int pa_nil)))) (pg_tup (by rfl) (pgs_cons (pg_fld (pv 0)) (pgs_cons (pg_fld (pv 0)) (pgs_cons (pg_fld (pv 0)) (pgs_cons (pg_fld (pv 0)) pgs_nil)))))))), ?_⟩
    refine ⟨(by show 1 ≤ sizeLine; decide), fun sp hsp => ⟨_, rfl, b, C.now, dx, [], rfl, (sameAt (Same.refl H) hsp) _ _ hb, T.cl _ Is, T.no _ Is _ (by decide +kernel), (by show 0 < 1000; decide), ?_⟩⟩
    have sb : sp ≠ b := fun z => by rw [z, hb] at hsp; cases hsp
    have K1 : Keep b H (upd (upd H sp (.tup [.str "now"])) b (.ins C.now dx (putF "spelling" (.ref sp) []))) := (Keep.refl.at hsp).upd
    refine ⟨(by show 0 ≤ sizeLine; decide), fun tp htp => ⟨tp, [], [], 0, 0, rfl, upd_same, rfl, by decide, (fun i a t h => by simp at h), by decide, by decide, by decide, fun q1 H5 s5 hq1 hq5 => ?_⟩⟩
    have K5 := (K1.at htp (u := .tup [])).same s5
    have HB : H5 b = some (.ins C.now dx (putF "spelling" (.ref sp) [])) := s5 _ _ (sameAt (Same.refl _) htp _ _ upd_same)
    have hs5 : H5 sp = some (.tup [.str "now"]) := s5 _ _ (sameAt (Same.refl _) htp _ _ (by rw [upd_ne sb, upd_same]))
    have h0 : (putF "spelling" (.ref sp) []).length ≤ 1 := Nat.le_refl 1
    obtain ⟨D, hD⟩ : ∃ D, D = C.now := ⟨_, rfl⟩
    obtain ⟨fs0, hf⟩ : ∃ fs0, fs0 = putF "spelling" (.ref sp) [] := ⟨_, rfl⟩
    rw [← hD] at Is
    rw [← hD, ← hf] at HB
    rw [← hf] at h0
    refine ⟨q1, _, rfl, SqT.of hq5, rfl, _, _, rfl, _, rfl, b, D, dx, fs0, rfl, HB, T.cl _ Is, T.no _ Is _ (by decide +kernel), Nat.lt_of_le_of_lt h0 (by decide), _, _, rfl, _, rfl, b, D, dx, _, rfl, upd_same, T.cl _ Is, T.no _ Is _ (by decide +kernel), Nat.lt_of_le_of_lt (pl h0) (by decide), _, _, rfl, _, rfl, b, D, dx, _, rfl, upd_same, T.cl _ Is, T.no _ Is _ (by decide +kernel), Nat.lt_of_le_of_lt (pl (pl h0)) (by decide), _, _, rfl, _, rfl, b, D, dx, _, rfl, upd_same, T.cl _ Is, T.no _ Is _ (by decide +kernel), Nat.lt_of_le_of_lt (pl (pl (pl h0))) (by decide), rfl, ?_⟩
    refine q _ ⟨dx, sp, ?_, ?_⟩ K5.upd.upd.upd.upd
    · rw [upd_same, hf, fend (by rfl) (by rfl) (by rfl) (by rfl) (by rfl), hD]
      rfl
    · rw [upd_ne sb, upd_ne sb, upd_ne sb, upd_ne sb]
      exact hs5
end
end Ash

set_option Elab.async false
set_option linter.all false
set_option maxRecDepth 100000
set_option maxHeartbeats 4000000
namespace Ash
open PySem PySem.Spec PyProof.Rows L2
open C8 (pss_cut)
/-! ### the other terms are made -/
theorem szD1 (t : Tm) : szD [t] = 1 + t.dep := rfl
theorem szP1 (t : Tm) : szP [t] = 1 + t.par := by simp [szP]
theorem szL1 (t : Tm) : szL [t] = t.lok := by simp [szL]
theorem szC1 (t : Tm) : szC [t] = t.cho := by simp [szC]
theorem szD2 (t u : Tm) : szD [t, u] = 1 + Tm.mx t.dep u.dep := by
  show 1 + (if decide (t.dep < u.dep) = true then u.dep else t.dep) = 1 + (if t.dep < u.dep then u.dep else t.dep)
  by_cases c : t.dep < u.dep
  · rw [if_pos c, if_pos (decide_eq_true c)]
  · rw [if_neg c, if_neg (fun z => c (of_decide_eq_true z))]
theorem szP2 (t u : Tm) : szP [t, u] = 1 + (t.par + u.par) := by simp [szP]
theorem szL2 (t u : Tm) : szL [t, u] = t.lok + u.lok := by simp [szL]
theorem szC2 (t u : Tm) : szC [t, u] = t.cho + u.cho := by simp [szC]
theorem pre2 {x y : Str} {v1 v2 : V} (h : x ≠ y) : putF y v2 (putF x v1 []) = [(x, v1), (y, v2)] := by
  show (if x = y then (x, v2) :: [] else (x, v1) :: putF y v2 []) = _
  rw [if_neg h]
  rfl
section
variable {P : Program} {w : World} {K : PySem.W.Frag} {mg : Str → Option Value} {base : Heap} {C : TC}
abbrev s_Last_init : Stmt := inClass (topS 23) 0
theorem sc_Last_init : FnScope ["self", "stream", "term"] ["self", "stream", "term"] (defScope s_Last_init) := ⟨rfl, rfl, rfl, by decide +kernel, rfl, by decide +kernel, by decide +kernel⟩
theorem ok_last {f : Addr} {fd : FuncData} (F : Fun K "__init__" "Last.__init__" s_Last_init f fd) (B : Blt mg) (T : TF K mg C) (G : T2 P w K mg base C) : FnOk P w K mg base CX0 3 f fd ["self", "stream", "term"] (spInitL C C.last Tm.last) := by
  refine F.ok sc_Last_init (fun vs H Q E h => ?_) (fun cdv A outer s H vs Q E hr h => ?_)
  · obtain ⟨b, dx, a, z, t, rfl, _⟩ := h
    rfl
  · obtain ⟨b, dx, a, z, t, rfl, hb, hz, hT, hF, q⟩ := h
    refine ⟨_, (pss_cons (ps_fld (pv 0) (pe_cal G.checked_stream (hr.mono (by decide)) pass0 (pa_cons (pv 1) pa_nil)) rfl)
    (pss_cons (ps_fld (pv 0) (pe_cal G.checked_term (hr.mono (by decide)) pass0 (pa_cons (pv 2) pa_nil)) rfl)
    (pss_cons (ps_fld (pv 0) (pe_tup (pa_cons pe_str (pa_cons (pv 1) (StX.pa_star (pe_fld (pv 2) rfl) pa_nil)))) rfl)
    (pss_one (ps_asg (pe_cal G.sizes (hr.mono (by decide)) pass0 (pa_cons (pe_tup (pa_cons (pv 2) pa_nil)) (pa_cons pe_int (pa_cons pe_int pa_nil)))) (pg_tup (by rfl) (pgs_cons (pg_fld (pv 0)) (pgs_cons (pg_fld (pv 0)) (pgs_cons (pg_fld (pv 0)) (pgs_cons (pg_fld (pv 0)) pgs_nil)))))))))), ?_⟩
    obtain ⟨D, hD⟩ : ∃ D, D = C.last := ⟨_, rfl⟩
    have Is : C.Is D := by rw [hD]; exact C.is_of (.last z t)
    rw [← hD] at hb
    refine ⟨_, rfl, z, rfl, hz, fun H1 s1 => ⟨_, rfl, b, D, dx, [], rfl, s1 _ _ hb, T.cl _ Is, T.no _ Is _ (by decide +kernel), (by show 0 < 1000; decide), ?_⟩⟩
    have K1 : Keep b H (upd H1 b (.ins D dx (putF "stream" (.str z) []))) := (Keep.refl.same s1).upd
    refine ⟨_, rfl, a, t, rfl, hT.off hb K1, fun H2 s2 => ⟨_, rfl, b, D, dx, _, rfl, s2 _ _ upd_same, T.cl _ Is, T.no _ Is _ (by decide +kernel), (by show 1 < 1000; decide), ?_⟩⟩
    have K2 : Keep b H (upd H2 b (.ins D dx (putF "term" (.ref a) (putF "stream" (.str z) [])))) := (K1.same s2).upd
    obtain ⟨dx1, fs1, sp1, In⟩ := (hT.off hb K2).in_
    have sl := Tm.spell_len t
    have hF2 : t.par ≤ 39 := by
      have h : 1 + t.par ≤ 40 := hF.2.1
      omega
    refine ⟨_, rfl, _, rfl, _, _, dx1, fs1, _, rfl, In.at_, T.cl _ (C.is_of _), T.no _ (C.is_of _) _ (by decide +kernel), In.spelling, sp1, _, rfl, .inl (SqT.of In.spl), ?_, fun sp hsp => ⟨_, rfl, b, D, dx, _, rfl, sameAt (Same.refl _) hsp _ _ upd_same, T.cl _ Is, T.no _ Is _ (by decide +kernel), (by show 2 < 1000; decide), ?_⟩⟩
    · show (t.spell ++ []).length + 1 + 1 ≤ sizeLine
      rw [sizeLine_eq, List.append_nil]
      omega
    have sb : sp ≠ b := fun z => by rw [z, upd_same] at hsp; cases hsp
    have K3 := (K2.at hsp (u := .tup (.str "last" :: .str z :: (t.spell ++ [])))).upd (u := .ins D dx (putF "spelling" (.ref sp) (putF "term" (.ref a) (putF "stream" (.str z) []))))
    refine ⟨_, rfl, (by show 1 ≤ sizeLine; decide), fun tp htp => ?_⟩
    have K4 := K3.at htp (u := .tup ([a].map V.ref))
    refine ⟨tp, [a], [t], 1, 1, rfl, upd_same, rfl, (by show 1 ≤ 2; decide), (fun i a' t' h1 h2 => ?_), ?_, ?_, ?_, fun q1 H5 s5 hq1 hq5 => ?_⟩
    · 
      match i, h1, h2 with
      | 0, h1, h2 =>
        cases h1
        cases h2
        exact hT.off hb K4
      | i + 1, h1, h2 => simp at h1
    · rw [szD1]; exact hF.1
    · rw [szP1]; exact hF.2.1
    · rw [szL1]; exact hF.2.2
    have K5 := K4.same s5
    obtain ⟨fs0, hf⟩ : ∃ fs0, fs0 = putF "spelling" (.ref sp) (putF "term" (.ref a) (putF "stream" (.str z) [])) := ⟨_, rfl⟩
    have HB : H5 b = some (.ins D dx fs0) := by rw [hf]; exact s5 _ _ (sameAt (Same.refl _) htp _ _ upd_same)
    have hs5 : H5 sp = some (.tup (.str "last" :: .str z :: (t.spell ++ []))) := s5 _ _ (sameAt (Same.refl _) htp _ _ (by rw [upd_ne sb, upd_same]))
    have h0 : fs0.length ≤ 3 := by rw [hf]; exact pl (pl (pl (Nat.le_refl 0)))
    refine ⟨q1, _, rfl, SqT.of hq5, rfl, _, _, rfl, _, rfl, b, D, dx, fs0, rfl, HB, T.cl _ Is, T.no _ Is _ (by decide +kernel), Nat.lt_of_le_of_lt h0 (by decide), _, _, rfl, _, rfl, b, D, dx, _, rfl, upd_same, T.cl _ Is, T.no _ Is _ (by decide +kernel), Nat.lt_of_le_of_lt (pl h0) (by decide), _, _, rfl, _, rfl, b, D, dx, _, rfl, upd_same, T.cl _ Is, T.no _ Is _ (by decide +kernel), Nat.lt_of_le_of_lt (pl (pl h0)) (by decide), _, _, rfl, _, rfl, b, D, dx, _, rfl, upd_same, T.cl _ Is, T.no _ Is _ (by decide +kernel), Nat.lt_of_le_of_lt (pl (pl (pl h0))) (by decide), rfl, ?_⟩
    have K9 := (((K5.upd (u := .ins D dx (putF "depth" (.int (szD [t])) fs0))).upd (u := .ins D dx (putF "parts" (.int (szP [t])) (putF "depth" (.int (szD [t])) fs0)))).upd (u := .ins D dx (putF "looks" (.int (1 + szL [t])) (putF "parts" (.int (szP [t])) (putF "depth" (.int (szD [t])) fs0))))).upd (u := .ins D dx (putF "choices" (.int (1 + szC [t])) (putF "looks" (.int (1 + szL [t])) (putF "parts" (.int (szP [t])) (putF "depth" (.int (szD [t])) fs0)))))
    refine q _ ⟨dx, a, sp, ?_, ?_, hT.off hb K9⟩ K9
    · rw [upd_same, hf, pre2 (by decide +kernel), fend (by rfl) (by rfl) (by rfl) (by rfl) (by rfl), hD, szD1, szP1, szL1, szC1]
      rfl
    · rw [upd_ne sb, upd_ne sb, upd_ne sb, upd_ne sb, hs5]
      simp [Tm.spell]
abbrev s_Next_init : Stmt := inClass (topS 24) 0
theorem sc_Next_init : FnScope ["self", "stream", "term"] ["self", "stream", "term"] (defScope s_Next_init) := ⟨rfl, rfl, rfl, by decide +kernel, rfl, by decide +kernel, by decide +kernel⟩
theorem ok_next {f : Addr} {fd : FuncData} (F : Fun K "__init__" "Next.__init__" s_Next_init f fd) (B : Blt mg) (T : TF K mg C) (G : T2 P w K mg base C) : FnOk P w K mg base CX0 3 f fd ["self", "stream", "term"] (spInitL C C.next Tm.next) := by
  refine F.ok sc_Next_init (fun vs H Q E h => ?_) (fun cdv A outer s H vs Q E hr h => ?_)
  · obtain ⟨b, dx, a, z, t, rfl, _⟩ := h
    rfl
  · obtain ⟨b, dx, a, z, t, rfl, hb, hz, hT, hF, q⟩ := h
    refine ⟨_, (pss_cons (ps_fld (pv 0) (pe_cal G.checked_stream (hr.mono (by decide)) pass0 (pa_cons (pv 1) pa_nil)) rfl)
    (pss_cons (ps_fld (pv 0) (pe_cal G.checked_term (hr.mono (by decide)) pass0 (pa_cons (pv 2) pa_nil)) rfl)
    (pss_cons (ps_fld (pv 0) (pe_tup (pa_cons pe_str (pa_cons (pv 1) (StX.pa_star (pe_fld (pv 2) rfl) pa_nil)))) rfl)
    (pss_one (ps_asg (pe_cal G.sizes (hr.mono (by decide)) pass0 (pa_cons (pe_tup (pa_cons (pv 2) pa_nil)) (pa_cons pe_int (pa_cons pe_int pa_nil)))) (pg_tup (by rfl) (pgs_cons (pg_fld (pv 0)) (pgs_cons (pg_fld (pv 0)) (pgs_cons (pg_fld (pv 0)) (pgs_cons (pg_fld (pv 0)) pgs_nil)))))))))), ?_⟩
    obtain ⟨D, hD⟩ : ∃ D, D = C.next := ⟨_, rfl⟩
    have Is : C.Is D := by rw [hD]; exact C.is_of (.next z t)
    rw [← hD] at hb
    refine ⟨_, rfl, z, rfl, hz, fun H1 s1 => ⟨_, rfl, b, D, dx, [], rfl, s1 _ _ hb, T.cl _ Is, T.no _ Is _ (by decide +kernel), (by show 0 < 1000; decide), ?_⟩⟩
    have K1 : Keep b H (upd H1 b (.ins D dx (putF "stream" (.str z) []))) := (Keep.refl.same s1).upd
    refine ⟨_, rfl, a, t, rfl, hT.off hb K1, fun H2 s2 => ⟨_, rfl, b, D, dx, _, rfl, s2 _ _ upd_same, T.cl _ Is, T.no _ Is _ (by decide +kernel), (by show 1 < 1000; decide), ?_⟩⟩
    have K2 : Keep b H (upd H2 b (.ins D dx (putF "term" (.ref a) (putF "stream" (.str z) [])))) := (K1.same s2).upd
    obtain ⟨dx1, fs1, sp1, In⟩ := (hT.off hb K2).in_
    have sl := Tm.spell_len t
    have hF2 : t.par ≤ 39 := by
      have h : 1 + t.par ≤ 40 := hF.2.1
      omega
    refine ⟨_, rfl, _, rfl, _, _, dx1, fs1, _, rfl, In.at_, T.cl _ (C.is_of _), T.no _ (C.is_of _) _ (by decide +kernel), In.spelling, sp1, _, rfl, .inl (SqT.of In.spl), ?_, fun sp hsp => ⟨_, rfl, b, D, dx, _, rfl, sameAt (Same.refl _) hsp _ _ upd_same, T.cl _ Is, T.no _ Is _ (by decide +kernel), (by show 2 < 1000; decide), ?_⟩⟩
    · show (t.spell ++ []).length + 1 + 1 ≤ sizeLine
      rw [sizeLine_eq, List.append_nil]
      omega
    have sb : sp ≠ b := fun z => by rw [z, upd_same] at hsp; cases hsp
    have K3 := (K2.at hsp (u := .tup (.str "next" :: .str z :: (t.spell ++ [])))).upd (u := .ins D dx (putF "spelling" (.ref sp) (putF "term" (.ref a) (putF "stream" (.str z) []))))
    refine ⟨_, rfl, (by show 1 ≤ sizeLine; decide), fun tp htp => ?_⟩
    have K4 := K3.at htp (u := .tup ([a].map V.ref))
    refine ⟨tp, [a], [t], 1, 1, rfl, upd_same, rfl, (by show 1 ≤ 2; decide), (fun i a' t' h1 h2 => ?_), ?_, ?_, ?_, fun q1 H5 s5 hq1 hq5 => ?_⟩
    · 
      match i, h1, h2 with
      | 0, h1, h2 =>
        cases h1
        cases h2
        exact hT.off hb K4
      | i + 1, h1, h2 => simp at h1
    · rw [szD1]; exact hF.1
    · rw [szP1]; exact hF.2.1
    · rw [szL1]; exact hF.2.2
    have K5 := K4.same s5
    obtain ⟨fs0, hf⟩ : ∃ fs0, fs0 = putF "spelling" (.ref sp) (putF "term" (.ref a) (putF "stream" (.str z) [])) := ⟨_, rfl⟩
    have HB : H5 b = some (.ins D dx fs0) := by rw [hf]; exact s5 _ _ (sameAt (Same.refl _) htp _ _ upd_same)
    have hs5 : H5 sp = some (.tup (.str "next" :: .str z :: (t.spell ++ []))) := s5 _ _ (sameAt (Same.refl _) htp _ _ (by rw [upd_ne sb, upd_same]))
    have h0 : fs0.length ≤ 3 := by rw [hf]; exact pl (pl (pl (Nat.le_refl 0)))
    refine ⟨q1, _, rfl, SqT.of hq5, rfl, _, _, rfl, _, rfl, b, D, dx, fs0, rfl, HB, T.cl _ Is, T.no _ Is _ (by decide +kernel), Nat.lt_of_le_of_lt h0 (by decide), _, _, rfl, _, rfl, b, D, dx, _, rfl, upd_same, T.cl _ Is, T.no _ Is _ (by decide +kernel), Nat.lt_of_le_of_lt (pl h0) (by decide), _, _, rfl, _, rfl, b, D, dx, _, rfl, upd_same, T.cl _ Is, T.no _ Is _ (by decide +kernel), Nat.lt_of_le_of_lt (pl (pl h0)) (by decide), _, _, rfl, _, rfl, b, D, dx, _, rfl, upd_same, T.cl _ Is, T.no _ Is _ (by decide +kernel), Nat.lt_of_le_of_lt (pl (pl (pl h0))) (by decide), rfl, ?_⟩
    have K9 := (((K5.upd (u := .ins D dx (putF "depth" (.int (szD [t])) fs0))).upd (u := .ins D dx (putF "parts" (.int (szP [t])) (putF "depth" (.int (szD [t])) fs0)))).upd (u := .ins D dx (putF "looks" (.int (1 + szL [t])) (putF "parts" (.int (szP [t])) (putF "depth" (.int (szD [t])) fs0))))).upd (u := .ins D dx (putF "choices" (.int (1 + szC [t])) (putF "looks" (.int (1 + szL [t])) (putF "parts" (.int (szP [t])) (putF "depth" (.int (szD [t])) fs0)))))
    refine q _ ⟨dx, a, sp, ?_, ?_, hT.off hb K9⟩ K9
    · rw [upd_same, hf, pre2 (by decide +kernel), fend (by rfl) (by rfl) (by rfl) (by rfl) (by rfl), hD, szD1, szP1, szL1, szC1]
      rfl
    · rw [upd_ne sb, upd_ne sb, upd_ne sb, upd_ne sb, hs5]
      simp [Tm.spell]
abbrev s_Shift_init : Stmt := inClass (topS 25) 0
theorem sc_Shift_init : FnScope ["self", "term", "amount"] ["self", "term", "amount"] (defScope s_Shift_init) := ⟨rfl, rfl, rfl, by decide +kernel, rfl, by decide +kernel, by decide +kernel⟩
theorem ok_shift {f : Addr} {fd : FuncData} (F : Fun K "__init__" "Shift.__init__" s_Shift_init f fd) (B : Blt mg) (T : TF K mg C) (G : T2 P w K mg base C) : FnOk P w K mg base CX0 2 f fd ["self", "term", "amount"] (spInitS C) := by
  refine F.ok sc_Shift_init (fun vs H Q E h => ?_) (fun cdv A outer s H vs Q E hr h => ?_)
  · obtain ⟨b, dx, a, n, t, rfl, _⟩ := h
    rfl
  · obtain ⟨b, dx, a, n, t, rfl, hb, hT, hF, q⟩ := h
    refine ⟨_, (pss_cons (ps_fld (pv 0) (pv 1) rfl)
    (pss_cons (ps_fld (pv 0) (pv 2) rfl)
    (pss_cons (ps_fld (pv 0) (pe_tup (pa_cons pe_str (pa_cons (pv 2) (StX.pa_star (pe_fld (pv 1) rfl) pa_nil)))) rfl)
    (pss_one (ps_asg (pe_cal G.sizes (hr.mono (by decide)) pass0 (pa_cons (pe_tup (pa_cons (pv 1) pa_nil)) (pa_cons pe_int (pa_cons pe_int pa_nil)))) (pg_tup (by rfl) (pgs_cons (pg_fld (pv 0)) (pgs_cons (pg_fld (pv 0)) (pgs_cons (pg_fld (pv 0)) (pgs_cons (pg_fld (pv 0)) pgs_nil)))))))))), ?_⟩
    obtain ⟨D, hD⟩ : ∃ D, D = C.shift := ⟨_, rfl⟩
    have Is : C.Is D := by rw [hD]; exact C.is_of (.shift n t)
    rw [← hD] at hb
    refine ⟨_, rfl, _, rfl, b, D, dx, [], rfl, hb, T.cl _ Is, T.no _ Is _ (by decide +kernel), (by show 0 < 1000; decide), ?_⟩
    have K1 : Keep b H (upd H b (.ins D dx (putF "term" (.ref a) []))) := Keep.refl.upd
    refine ⟨_, rfl, _, rfl, b, D, dx, _, rfl, upd_same, T.cl _ Is, T.no _ Is _ (by decide +kernel), (by show 1 < 1000; decide), ?_⟩
    have K2 : Keep b H (upd _ b (.ins D dx (putF "amount" (.int n) (putF "term" (.ref a) [])))) := K1.upd
    obtain ⟨dx1, fs1, sp1, In⟩ := (hT.off hb K2).in_
    have sl := Tm.spell_len t
    have hF2 : t.par ≤ 39 := by
      have h : 1 + t.par ≤ 40 := hF.2.1
      omega
    refine ⟨_, rfl, _, rfl, _, _, dx1, fs1, _, rfl, In.at_, T.cl _ (C.is_of _), T.no _ (C.is_of _) _ (by decide +kernel), In.spelling, sp1, _, rfl, .inl (SqT.of In.spl), ?_, fun sp hsp => ⟨_, rfl, b, D, dx, _, rfl, sameAt (Same.refl _) hsp _ _ upd_same, T.cl _ Is, T.no _ Is _ (by decide +kernel), (by show 2 < 1000; decide), ?_⟩⟩
    · show (t.spell ++ []).length + 1 + 1 ≤ sizeLine
      rw [sizeLine_eq, List.append_nil]
      omega
    have sb : sp ≠ b := fun z => by rw [z, upd_same] at hsp; cases hsp
    have K3 := (K2.at hsp (u := .tup (.str "shift" :: .int n :: (t.spell ++ [])))).upd (u := .ins D dx (putF "spelling" (.ref sp) (putF "amount" (.int n) (putF "term" (.ref a) []))))
    refine ⟨_, rfl, (by show 1 ≤ sizeLine; decide), fun tp htp => ?_⟩
    have K4 := K3.at htp (u := .tup ([a].map V.ref))
    refine ⟨tp, [a], [t], 0, 0, rfl, upd_same, rfl, (by show 1 ≤ 2; decide), (fun i a' t' h1 h2 => ?_), ?_, ?_, ?_, fun q1 H5 s5 hq1 hq5 => ?_⟩
    · 
      match i, h1, h2 with
      | 0, h1, h2 =>
        cases h1
        cases h2
        exact hT.off hb K4
      | i + 1, h1, h2 => simp at h1
    · rw [szD1]; exact hF.1
    · rw [szP1]; exact hF.2.1
    · rw [szL1]; exact hF.2.2
    have K5 := K4.same s5
    obtain ⟨fs0, hf⟩ : ∃ fs0, fs0 = putF "spelling" (.ref sp) (putF "amount" (.int n) (putF "term" (.ref a) [])) := ⟨_, rfl⟩
    have HB : H5 b = some (.ins D dx fs0) := by rw [hf]; exact s5 _ _ (sameAt (Same.refl _) htp _ _ upd_same)
    have hs5 : H5 sp = some (.tup (.str "shift" :: .int n :: (t.spell ++ []))) := s5 _ _ (sameAt (Same.refl _) htp _ _ (by rw [upd_ne sb, upd_same]))
    have h0 : fs0.length ≤ 3 := by rw [hf]; exact pl (pl (pl (Nat.le_refl 0)))
    refine ⟨q1, _, rfl, SqT.of hq5, rfl, _, _, rfl, _, rfl, b, D, dx, fs0, rfl, HB, T.cl _ Is, T.no _ Is _ (by decide +kernel), Nat.lt_of_le_of_lt h0 (by decide), _, _, rfl, _, rfl, b, D, dx, _, rfl, upd_same, T.cl _ Is, T.no _ Is _ (by decide +kernel), Nat.lt_of_le_of_lt (pl h0) (by decide), _, _, rfl, _, rfl, b, D, dx, _, rfl, upd_same, T.cl _ Is, T.no _ Is _ (by decide +kernel), Nat.lt_of_le_of_lt (pl (pl h0)) (by decide), _, _, rfl, _, rfl, b, D, dx, _, rfl, upd_same, T.cl _ Is, T.no _ Is _ (by decide +kernel), Nat.lt_of_le_of_lt (pl (pl (pl h0))) (by decide), rfl, ?_⟩
    have K9 := (((K5.upd (u := .ins D dx (putF "depth" (.int (szD [t])) fs0))).upd (u := .ins D dx (putF "parts" (.int (szP [t])) (putF "depth" (.int (szD [t])) fs0)))).upd (u := .ins D dx (putF "looks" (.int (0 + szL [t])) (putF "parts" (.int (szP [t])) (putF "depth" (.int (szD [t])) fs0))))).upd (u := .ins D dx (putF "choices" (.int (0 + szC [t])) (putF "looks" (.int (0 + szL [t])) (putF "parts" (.int (szP [t])) (putF "depth" (.int (szD [t])) fs0)))))
    refine q _ ⟨dx, a, sp, ?_, ?_, hT.off hb K9⟩ K9
    · rw [upd_same, hf, pre2 (by decide +kernel), fend (by rfl) (by rfl) (by rfl) (by rfl) (by rfl), hD, szD1, szP1, szL1, szC1]
      rfl
    · rw [upd_ne sb, upd_ne sb, upd_ne sb, upd_ne sb, hs5]
      simp [Tm.spell]
abbrev s_Either_init : Stmt := inClass (topS 26) 0
theorem sc_Either_init : FnScope ["self", "first", "second"] ["self", "first", "second"] (defScope s_Either_init) := ⟨rfl, rfl, rfl, by decide +kernel, rfl, by decide +kernel, by decide +kernel⟩
theorem ok_either {f : Addr} {fd : FuncData} (F : Fun K "__init__" "Either.__init__" s_Either_init f fd) (B : Blt mg) (T : TF K mg C) (G : T2 P w K mg base C) : FnOk P w K mg base CX0 2 f fd ["self", "first", "second"] (spInitP C C.either Tm.either) := by
  refine F.ok sc_Either_init (fun vs H Q E h => ?_) (fun cdv A outer s H vs Q E hr h => ?_)
  · obtain ⟨b, dx, a, c, t, u, rfl, _⟩ := h
    rfl
  · obtain ⟨b, dx, a, c, t, u, rfl, hb, hT, hU, hF, q⟩ := h
    refine ⟨_, (pss_cons (ps_fld (pv 0) (pv 1) rfl)
    (pss_cons (ps_fld (pv 0) (pv 2) rfl)
    (pss_cons (ps_fld (pv 0) (pe_tup (pa_cons pe_str (StX.pa_star (pe_fld (pv 1) rfl) (StX.pa_star (pe_fld (pv 2) rfl) pa_nil)))) rfl)
    (pss_one (ps_asg (pe_cal G.sizes (hr.mono (by decide)) pass0 (pa_cons (pe_tup (pa_cons (pv 1) (pa_cons (pv 2) pa_nil))) (pa_cons pe_int (pa_cons pe_int pa_nil)))) (pg_tup (by rfl) (pgs_cons (pg_fld (pv 0)) (pgs_cons (pg_fld (pv 0)) (pgs_cons (pg_fld (pv 0)) (pgs_cons (pg_fld (pv 0)) pgs_nil)))))))))), ?_⟩
    obtain ⟨D, hD⟩ : ∃ D, D = C.either := ⟨_, rfl⟩
    have Is : C.Is D := by rw [hD]; exact C.is_of (.either t u)
    rw [← hD] at hb
    refine ⟨_, rfl, _, rfl, b, D, dx, [], rfl, hb, T.cl _ Is, T.no _ Is _ (by decide +kernel), (by show 0 < 1000; decide), ?_⟩
    have K1 : Keep b H (upd H b (.ins D dx (putF "first" (.ref a) []))) := Keep.refl.upd
    refine ⟨_, rfl, _, rfl, b, D, dx, _, rfl, upd_same, T.cl _ Is, T.no _ Is _ (by decide +kernel), (by show 1 < 1000; decide), ?_⟩
    have K2 : Keep b H (upd _ b (.ins D dx (putF "second" (.ref c) (putF "first" (.ref a) [])))) := K1.upd
    obtain ⟨dx1, fs1, sp1, In⟩ := (hT.off hb K2).in_
    have sl := Tm.spell_len t
    obtain ⟨dx2, fs2, sp2, In2⟩ := (hU.off hb K2).in_
    have sl2 := Tm.spell_len u
    have hF2 : t.par + u.par ≤ 39 := by
      have h : 1 + (t.par + u.par) ≤ 40 := hF.2.1
      omega
    refine ⟨_, rfl, _, _, dx1, fs1, _, rfl, In.at_, T.cl _ (C.is_of _), T.no _ (C.is_of _) _ (by decide +kernel), In.spelling, sp1, _, rfl, .inl (SqT.of In.spl), _, rfl, _, _, dx2, fs2, _, rfl, In2.at_, T.cl _ (C.is_of _), T.no _ (C.is_of _) _ (by decide +kernel), In2.spelling, sp2, _, rfl, .inl (SqT.of In2.spl), ?_, fun sp hsp => ⟨_, rfl, b, D, dx, _, rfl, sameAt (Same.refl _) hsp _ _ upd_same, T.cl _ Is, T.no _ Is _ (by decide +kernel), (by show 2 < 1000; decide), ?_⟩⟩
    · show (t.spell ++ (u.spell ++ [])).length + 1 ≤ sizeLine
      rw [sizeLine_eq, List.length_append, List.append_nil]
      omega
    have sb : sp ≠ b := fun z => by rw [z, upd_same] at hsp; cases hsp
    have K3 := (K2.at hsp (u := .tup (.str "either" :: (t.spell ++ (u.spell ++ []))))).upd (u := .ins D dx (putF "spelling" (.ref sp) (putF "second" (.ref c) (putF "first" (.ref a) []))))
    refine ⟨_, rfl, _, rfl, (by show 2 ≤ sizeLine; decide), fun tp htp => ?_⟩
    have K4 := K3.at htp (u := .tup ([a, c].map V.ref))
    refine ⟨tp, [a, c], [t, u], 0, 0, rfl, upd_same, rfl, (by show 2 ≤ 2; decide), (fun i a' t' h1 h2 => ?_), ?_, ?_, ?_, fun q1 H5 s5 hq1 hq5 => ?_⟩
    · 
      match i, h1, h2 with
      | 0, h1, h2 =>
        cases h1
        cases h2
        exact hT.off hb K4
      | 1, h1, h2 =>
        cases h1
        cases h2
        exact hU.off hb K4
      | i + 2, h1, h2 => simp at h1
    · rw [szD2]; exact hF.1
    · rw [szP2]; exact hF.2.1
    · rw [szL2]; exact hF.2.2
    have K5 := K4.same s5
    obtain ⟨fs0, hf⟩ : ∃ fs0, fs0 = putF "spelling" (.ref sp) (putF "second" (.ref c) (putF "first" (.ref a) [])) := ⟨_, rfl⟩
    have HB : H5 b = some (.ins D dx fs0) := by rw [hf]; exact s5 _ _ (sameAt (Same.refl _) htp _ _ upd_same)
    have hs5 : H5 sp = some (.tup (.str "either" :: (t.spell ++ (u.spell ++ [])))) := s5 _ _ (sameAt (Same.refl _) htp _ _ (by rw [upd_ne sb, upd_same]))
    have h0 : fs0.length ≤ 3 := by rw [hf]; exact pl (pl (pl (Nat.le_refl 0)))
    refine ⟨q1, _, rfl, SqT.of hq5, rfl, _, _, rfl, _, rfl, b, D, dx, fs0, rfl, HB, T.cl _ Is, T.no _ Is _ (by decide +kernel), Nat.lt_of_le_of_lt h0 (by decide), _, _, rfl, _, rfl, b, D, dx, _, rfl, upd_same, T.cl _ Is, T.no _ Is _ (by decide +kernel), Nat.lt_of_le_of_lt (pl h0) (by decide), _, _, rfl, _, rfl, b, D, dx, _, rfl, upd_same, T.cl _ Is, T.no _ Is _ (by decide +kernel), Nat.lt_of_le_of_lt (pl (pl h0)) (by decide), _, _, rfl, _, rfl, b, D, dx, _, rfl, upd_same, T.cl _ Is, T.no _ Is _ (by decide +kernel), Nat.lt_of_le_of_lt (pl (pl (pl h0))) (by decide), rfl, ?_⟩
    have K9 := (((K5.upd (u := .ins D dx (putF "depth" (.int (szD [t, u])) fs0))).upd (u := .ins D dx (putF "parts" (.int (szP [t, u])) (putF "depth" (.int (szD [t, u])) fs0)))).upd (u := .ins D dx (putF "looks" (.int (0 + szL [t, u])) (putF "parts" (.int (szP [t, u])) (putF "depth" (.int (szD [t, u])) fs0))))).upd (u := .ins D dx (putF "choices" (.int (0 + szC [t, u])) (putF "looks" (.int (0 + szL [t, u])) (putF "parts" (.int (szP [t, u])) (putF "depth" (.int (szD [t, u])) fs0)))))
    refine q _ ⟨dx, a, c, sp, ?_, ?_, hT.off hb K9, hU.off hb K9⟩ K9
    · rw [upd_same, hf, pre2 (by decide +kernel), fend (by rfl) (by rfl) (by rfl) (by rfl) (by rfl), hD, szD2, szP2, szL2, szC2]
      rfl
    · rw [upd_ne sb, upd_ne sb, upd_ne sb, upd_ne sb, hs5]
      simp [Tm.spell]
abbrev s_Later_init : Stmt := inClass (topS 27) 0
theorem sc_Later_init : FnScope ["self", "first", "second"] ["self", "first", "second"] (defScope s_Later_init) := ⟨rfl, rfl, rfl, by decide +kernel, rfl, by decide +kernel, by decide +kernel⟩
theorem ok_later {f : Addr} {fd : FuncData} (F : Fun K "__init__" "Later.__init__" s_Later_init f fd) (B : Blt mg) (T : TF K mg C) (G : T2 P w K mg base C) : FnOk P w K mg base CX0 2 f fd ["self", "first", "second"] (spInitP C C.later Tm.later) := by
  refine F.ok sc_Later_init (fun vs H Q E h => ?_) (fun cdv A outer s H vs Q E hr h => ?_)
  · obtain ⟨b, dx, a, c, t, u, rfl, _⟩ := h
    rfl
  · obtain ⟨b, dx, a, c, t, u, rfl, hb, hT, hU, hF, q⟩ := h
    refine ⟨_, (pss_cons (ps_fld (pv 0) (pv 1) rfl)
    (pss_cons (ps_fld (pv 0) (pv 2) rfl)
    (pss_cons (ps_fld (pv 0) (pe_tup (pa_cons pe_str (StX.pa_star (pe_fld (pv 1) rfl) (StX.pa_star (pe_fld (pv 2) rfl) pa_nil)))) rfl)
    (pss_one (ps_asg (pe_cal G.sizes (hr.mono (by decide)) pass0 (pa_cons (pe_tup (pa_cons (pv 1) (pa_cons (pv 2) pa_nil))) (pa_cons pe_int (pa_cons pe_int pa_nil)))) (pg_tup (by rfl) (pgs_cons (pg_fld (pv 0)) (pgs_cons (pg_fld (pv 0)) (pgs_cons (pg_fld (pv 0)) (pgs_cons (pg_fld (pv 0)) pgs_nil)))))))))), ?_⟩
    obtain ⟨D, hD⟩ : ∃ D, D = C.later := ⟨_, rfl⟩
    have Is : C.Is D := by rw [hD]; exact C.is_of (.later t u)
    rw [← hD] at hb
    refine ⟨_, rfl, _, rfl, b, D, dx, [], rfl, hb, T.cl _ Is, T.no _ Is _ (by decide +kernel), (by show 0 < 1000; decide), ?_⟩
    have K1 : Keep b H (upd H b (.ins D dx (putF "first" (.ref a) []))) := Keep.refl.upd
    refine ⟨_, rfl, _, rfl, b, D, dx, _, rfl, upd_same, T.cl _ Is, T.no _ Is _ (by decide +kernel), (by show 1 < 1000; decide), ?_⟩
    have K2 : Keep b H (upd _ b (.ins D dx (putF "second" (.ref c) (putF "first" (.ref a) [])))) := K1.upd
    obtain ⟨dx1, fs1, sp1, In⟩ := (hT.off hb K2).in_
    have sl := Tm.spell_len t
    obtain ⟨dx2, fs2, sp2, In2⟩ := (hU.off hb K2).in_
    have sl2 := Tm.spell_len u
    have hF2 : t.par + u.par ≤ 39 := by
      have h : 1 + (t.par + u.par) ≤ 40 := hF.2.1
      omega
    refine ⟨_, rfl, _, _, dx1, fs1, _, rfl, In.at_, T.cl _ (C.is_of _), T.no _ (C.is_of _) _ (by decide +kernel), In.spelling, sp1, _, rfl, .inl (SqT.of In.spl), _, rfl, _, _, dx2, fs2, _, rfl, In2.at_, T.cl _ (C.is_of _), T.no _ (C.is_of _) _ (by decide +kernel), In2.spelling, sp2, _, rfl, .inl (SqT.of In2.spl), ?_, fun sp hsp => ⟨_, rfl, b, D, dx, _, rfl, sameAt (Same.refl _) hsp _ _ upd_same, T.cl _ Is, T.no _ Is _ (by decide +kernel), (by show 2 < 1000; decide), ?_⟩⟩
    · show (t.spell ++ (u.spell ++ [])).length + 1 ≤ sizeLine
      rw [sizeLine_eq, List.length_append, List.append_nil]
      omega
    have sb : sp ≠ b := fun z => by rw [z, upd_same] at hsp; cases hsp
    have K3 := (K2.at hsp (u := .tup (.str "later" :: (t.spell ++ (u.spell ++ []))))).upd (u := .ins D dx (putF "spelling" (.ref sp) (putF "second" (.ref c) (putF "first" (.ref a) []))))
    refine ⟨_, rfl, _, rfl, (by show 2 ≤ sizeLine; decide), fun tp htp => ?_⟩
    have K4 := K3.at htp (u := .tup ([a, c].map V.ref))
    refine ⟨tp, [a, c], [t, u], 0, 1, rfl, upd_same, rfl, (by show 2 ≤ 2; decide), (fun i a' t' h1 h2 => ?_), ?_, ?_, ?_, fun q1 H5 s5 hq1 hq5 => ?_⟩
    · 
      match i, h1, h2 with
      | 0, h1, h2 =>
        cases h1
        cases h2
        exact hT.off hb K4
      | 1, h1, h2 =>
        cases h1
        cases h2
        exact hU.off hb K4
      | i + 2, h1, h2 => simp at h1
    · rw [szD2]; exact hF.1
    · rw [szP2]; exact hF.2.1
    · rw [szL2]; exact hF.2.2
    have K5 := K4.same s5
    obtain ⟨fs0, hf⟩ : ∃ fs0, fs0 = putF "spelling" (.ref sp) (putF "second" (.ref c) (putF "first" (.ref a) [])) := ⟨_, rfl⟩
    have HB : H5 b = some (.ins D dx fs0) := by rw [hf]; exact s5 _ _ (sameAt (Same.refl _) htp _ _ upd_same)
    have hs5 : H5 sp = some (.tup (.str "later" :: (t.spell ++ (u.spell ++ [])))) := s5 _ _ (sameAt (Same.refl _) htp _ _ (by rw [upd_ne sb, upd_same]))
    have h0 : fs0.length ≤ 3 := by rw [hf]; exact pl (pl (pl (Nat.le_refl 0)))
    refine ⟨q1, _, rfl, SqT.of hq5, rfl, _, _, rfl, _, rfl, b, D, dx, fs0, rfl, HB, T.cl _ Is, T.no _ Is _ (by decide +kernel), Nat.lt_of_le_of_lt h0 (by decide), _, _, rfl, _, rfl, b, D, dx, _, rfl, upd_same, T.cl _ Is, T.no _ Is _ (by decide +kernel), Nat.lt_of_le_of_lt (pl h0) (by decide), _, _, rfl, _, rfl, b, D, dx, _, rfl, upd_same, T.cl _ Is, T.no _ Is _ (by decide +kernel), Nat.lt_of_le_of_lt (pl (pl h0)) (by decide), _, _, rfl, _, rfl, b, D, dx, _, rfl, upd_same, T.cl _ Is, T.no _ Is _ (by decide +kernel), Nat.lt_of_le_of_lt (pl (pl (pl h0))) (by decide), rfl, ?_⟩
    have K9 := (((K5.upd (u := .ins D dx (putF "depth" (.int (szD [t, u])) fs0))).upd (u := .ins D dx (putF "parts" (.int (szP [t, u])) (putF "depth" (.int (szD [t, u])) fs0)))).upd (u := .ins D dx (putF "looks" (.int (0 + szL [t, u])) (putF "parts" (.int (szP [t, u])) (putF "depth" (.int (szD [t, u])) fs0))))).upd (u := .ins D dx (putF "choices" (.int (1 + szC [t, u])) (putF "looks" (.int (0 + szL [t, u])) (putF "parts" (.int (szP [t, u])) (putF "depth" (.int (szD [t, u])) fs0)))))
    refine q _ ⟨dx, a, c, sp, ?_, ?_, hT.off hb K9, hU.off hb K9⟩ K9
    · rw [upd_same, hf, pre2 (by decide +kernel), fend (by rfl) (by rfl) (by rfl) (by rfl) (by rfl), hD, szD2, szP2, szL2, szC2]
      rfl
    · rw [upd_ne sb, upd_ne sb, upd_ne sb, upd_ne sb, hs5]
      simp [Tm.spell]
abbrev s_Earlier_init : Stmt := inClass (topS 28) 0
theorem sc_Earlier_init : FnScope ["self", "first", "second"] ["self", "first", "second"] (defScope s_Earlier_init) := ⟨rfl, rfl, rfl, by decide +kernel, rfl, by decide +kernel, by decide +kernel⟩
theorem ok_earlier {f : Addr} {fd : FuncData} (F : Fun K "__init__" "Earlier.__init__" s_Earlier_init f fd) (B : Blt mg) (T : TF K mg C) (G : T2 P w K mg base C) : FnOk P w K mg base CX0 2 f fd ["self", "first", "second"] (spInitP C C.earlier Tm.earlier) := by
  refine F.ok sc_Earlier_init (fun vs H Q E h => ?_) (fun cdv A outer s H vs Q E hr h => ?_)
  · obtain ⟨b, dx, a, c, t, u, rfl, _⟩ := h
    rfl
  · obtain ⟨b, dx, a, c, t, u, rfl, hb, hT, hU, hF, q⟩ := h
    refine ⟨_, (pss_cons (ps_fld (pv 0) (pv 1) rfl)
    (pss_cons (ps_fld (pv 0) (pv 2) rfl)
    (pss_cons (ps_fld (pv 0) (pe_tup (pa_cons pe_str (StX.pa_star (pe_fld (pv 1) rfl) (StX.pa_star (pe_fld (pv 2) rfl) pa_nil)))) rfl)
    (pss_one (ps_asg (pe_cal G.sizes (hr.mono (by decide)) pass0 (pa_cons (pe_tup (pa_cons (pv 1) (pa_cons (pv 2) pa_nil))) (pa_cons pe_int (pa_cons pe_int pa_nil)))) (pg_tup (by rfl) (pgs_cons (pg_fld (pv 0)) (pgs_cons (pg_fld (pv 0)) (pgs_cons (pg_fld (pv 0)) (pgs_cons (pg_fld (pv 0)) pgs_nil)))))))))), ?_⟩
    obtain ⟨D, hD⟩ : ∃ D, D = C.earlier := ⟨_, rfl⟩
    have Is : C.Is D := by rw [hD]; exact C.is_of (.earlier t u)
    rw [← hD] at hb
    refine ⟨_, rfl, _, rfl, b, D, dx, [], rfl, hb, T.cl _ Is, T.no _ Is _ (by decide +kernel), (by show 0 < 1000; decide), ?_⟩
    have K1 : Keep b H (upd H b (.ins D dx (putF "first" (.ref a) []))) := Keep.refl.upd
    refine ⟨_, rfl, _, rfl, b, D, dx, _, rfl, upd_same, T.cl _ Is, T.no _ Is _ (by decide +kernel), (by show 1 < 1000; decide), ?_⟩
    have K2 : Keep b H (upd _ b (.ins D dx (putF "second" (.ref c) (putF "first" (.ref a) [])))) := K1.upd
    obtain ⟨dx1, fs1, sp1, In⟩ := (hT.off hb K2).in_
    have sl := Tm.spell_len t
    obtain ⟨dx2, fs2, sp2, In2⟩ := (hU.off hb K2).in_
    have sl2 := Tm.spell_len u
    have hF2 : t.par + u.par ≤ 39 := by
      have h : 1 + (t.par + u.par) ≤ 40 := hF.2.1
      omega
    refine ⟨_, rfl, _, _, dx1, fs1, _, rfl, In.at_, T.cl _ (C.is_of _), T.no _ (C.is_of _) _ (by decide +kernel), In.spelling, sp1, _, rfl, .inl (SqT.of In.spl), _, rfl, _, _, dx2, fs2, _, rfl, In2.at_, T.cl _ (C.is_of _), T.no _ (C.is_of _) _ (by decide +kernel), In2.spelling, sp2, _, rfl, .inl (SqT.of In2.spl), ?_, fun sp hsp => ⟨_, rfl, b, D, dx, _, rfl, sameAt (Same.refl _) hsp _ _ upd_same, T.cl _ Is, T.no _ Is _ (by decide +kernel), (by show 2 < 1000; decide), ?_⟩⟩
    · show (t.spell ++ (u.spell ++ [])).length + 1 ≤ sizeLine
      rw [sizeLine_eq, List.length_append, List.append_nil]
      omega
    have sb : sp ≠ b := fun z => by rw [z, upd_same] at hsp; cases hsp
    have K3 := (K2.at hsp (u := .tup (.str "earlier" :: (t.spell ++ (u.spell ++ []))))).upd (u := .ins D dx (putF "spelling" (.ref sp) (putF "second" (.ref c) (putF "first" (.ref a) []))))
    refine ⟨_, rfl, _, rfl, (by show 2 ≤ sizeLine; decide), fun tp htp => ?_⟩
    have K4 := K3.at htp (u := .tup ([a, c].map V.ref))
    refine ⟨tp, [a, c], [t, u], 0, 1, rfl, upd_same, rfl, (by show 2 ≤ 2; decide), (fun i a' t' h1 h2 => ?_), ?_, ?_, ?_, fun q1 H5 s5 hq1 hq5 => ?_⟩
    · 
      match i, h1, h2 with
      | 0, h1, h2 =>
        cases h1
        cases h2
        exact hT.off hb K4
      | 1, h1, h2 =>
        cases h1
        cases h2
        exact hU.off hb K4
      | i + 2, h1, h2 => simp at h1
    · rw [szD2]; exact hF.1
    · rw [szP2]; exact hF.2.1
    · rw [szL2]; exact hF.2.2
    have K5 := K4.same s5
    obtain ⟨fs0, hf⟩ : ∃ fs0, fs0 = putF "spelling" (.ref sp) (putF "second" (.ref c) (putF "first" (.ref a) [])) := ⟨_, rfl⟩
    have HB : H5 b = some (.ins D dx fs0) := by rw [hf]; exact s5 _ _ (sameAt (Same.refl _) htp _ _ upd_same)
    have hs5 : H5 sp = some (.tup (.str "earlier" :: (t.spell ++ (u.spell ++ [])))) := s5 _ _ (sameAt (Same.refl _) htp _ _ (by rw [upd_ne sb, upd_same]))
    have h0 : fs0.length ≤ 3 := by rw [hf]; exact pl (pl (pl (Nat.le_refl 0)))
    refine ⟨q1, _, rfl, SqT.of hq5, rfl, _, _, rfl, _, rfl, b, D, dx, fs0, rfl, HB, T.cl _ Is, T.no _ Is _ (by decide +kernel), Nat.lt_of_le_of_lt h0 (by decide), _, _, rfl, _, rfl, b, D, dx, _, rfl, upd_same, T.cl _ Is, T.no _ Is _ (by decide +kernel), Nat.lt_of_le_of_lt (pl h0) (by decide), _, _, rfl, _, rfl, b, D, dx, _, rfl, upd_same, T.cl _ Is, T.no _ Is _ (by decide +kernel), Nat.lt_of_le_of_lt (pl (pl h0)) (by decide), _, _, rfl, _, rfl, b, D, dx, _, rfl, upd_same, T.cl _ Is, T.no _ Is _ (by decide +kernel), Nat.lt_of_le_of_lt (pl (pl (pl h0))) (by decide), rfl, ?_⟩
    have K9 := (((K5.upd (u := .ins D dx (putF "depth" (.int (szD [t, u])) fs0))).upd (u := .ins D dx (putF "parts" (.int (szP [t, u])) (putF "depth" (.int (szD [t, u])) fs0)))).upd (u := .ins D dx (putF "looks" (.int (0 + szL [t, u])) (putF "parts" (.int (szP [t, u])) (putF "depth" (.int (szD [t, u])) fs0))))).upd (u := .ins D dx (putF "choices" (.int (1 + szC [t, u])) (putF "looks" (.int (0 + szL [t, u])) (putF "parts" (.int (szP [t, u])) (putF "depth" (.int (szD [t, u])) fs0)))))
    refine q _ ⟨dx, a, c, sp, ?_, ?_, hT.off hb K9, hU.off hb K9⟩ K9
    · rw [upd_same, hf, pre2 (by decide +kernel), fend (by rfl) (by rfl) (by rfl) (by rfl) (by rfl), hD, szD2, szP2, szL2, szC2]
      rfl
    · rw [upd_ne sb, upd_ne sb, upd_ne sb, upd_ne sb, hs5]
      simp [Tm.spell]
end
end Ash

set_option Elab.async false
set_option linter.all false
set_option maxRecDepth 100000
set_option maxHeartbeats 4000000
namespace Ash
open PySem PySem.Spec PyProof.Rows L2 SrtT
open C8 (pss_cut)
section
variable {X : Cx} {CX : CXT} {k : Nat} {ps : List Str} {sp : Sp} {E : XK} {o e : Expr} {es : List Expr} {ta : TE} {t : TA} {C : Addr} {m : Str} {apos pos : Pos}
theorem pe_met {pl : Sem Bool} (c : Cls X.K C) (G : Met X.prog X.w X.K X.mg X.base CX C m k ps sp) (hr : Room k X.A) (hx : Passes CX X E) (ho : PE X o ta) (ha : PA X (e :: es) t) 
    (he : starEach (e :: es) X.env = (false, eval e X.env) :: starEach es X.env := by rfl) (hpl : (backTo pos (starEach es X.env)).any (·.1) = false := by rfl)
    (ht : eval (.Call (.Attribute o m apos) (e :: es) [] pos) X.env = (do
      let ov ← eval o X.env
      standAt apos.atName
      let (f, first) ← holding [ov] (getMethod ov m pl)
      callWith pos f first (backTo pos (starEach (e :: es) X.env)) (backToKw pos (keywordEach [] X.env))) := by rfl) :
    PE X (.Call (.Attribute o m apos) (e :: es) [] pos) (tMeth C m sp [] E ta t) := by
  obtain ⟨f, fd, hm, hb, F⟩ := G.ex
  exact pe_meth ho c hm F hr hb .nil hx ha he hpl ht
end
/-! ### what a term answers -/
def lastR (rs : List T3) (m : Int) : Option T3 := (rs.filter fun t => decide (t.1 ≤ m)).getLast?
def nextR (rs : List T3) (m : Int) : Option T3 := (rs.filter fun t => decide (m ≤ t.1)).head?
abbrev Rs := Option Int × List Int
def lookR (r : Rs) (f : Int → Option T3) : Rs := match r.1 with
  | none => (none, r.2)
  | some m => match f m with
    | none => (none, r.2)
    | some t => (some t.1, r.2 ++ [t.2.1])
def moveR (r : Rs) (n : Int) : Rs := match r.1 with
  | none => (none, r.2)
  | some m => (some (m + n), r.2)
def eithR (r s : Rs) : Rs := match r.1 with
  | some m => (some m, r.2)
  | none => (s.1, r.2 ++ s.2)
def bothR (f : Int → Int → Int) (r s : Rs) : Rs := match r.1 with
  | none => (none, r.2)
  | some m => match s.1 with
    | none => (none, r.2 ++ s.2)
    | some k => (some (f m k), r.2 ++ s.2)
def mxI (i j : Int) : Int := if j > i then j else i
def mnI (i j : Int) : Int := if j < i then j else i
def ev (W : Tr) (now : Int) : Tm → Rs
  | .now => (some now, [])
  | .last s t => lookR (ev W now t) (lastR (W s))
  | .next s t => lookR (ev W now t) (nextR (W s))
  | .shift n t => moveR (ev W now t) n
  | .either a b => eithR (ev W now a) (ev W now b)
  | .later a b => bothR mxI (ev W now a) (ev W now b)
  | .earlier a b => bothR mnI (ev W now a) (ev W now b)
theorem lookR_len {r : Rs} {f : Int → Option T3} : (lookR r f).2.length ≤ 1 + r.2.length := by
  unfold lookR
  split
  · show r.2.length ≤ _; omega
  · split
    · show r.2.length ≤ _; omega
    · show (r.2 ++ [_]).length ≤ _
      rw [List.length_append]
      show r.2.length + 1 ≤ _
      omega
theorem moveR_len {r : Rs} {n : Int} : (moveR r n).2.length = r.2.length := by
  unfold moveR
  split <;> rfl
theorem eithR_len {r s : Rs} : (eithR r s).2.length ≤ r.2.length + s.2.length := by
  unfold eithR
  split
  · show r.2.length ≤ _; omega
  · show (r.2 ++ s.2).length ≤ _
    rw [List.length_append]
    omega
theorem bothR_len {g : Int → Int → Int} {r s : Rs} : (bothR g r s).2.length ≤ r.2.length + s.2.length := by
  unfold bothR
  split
  · show r.2.length ≤ _; omega
  · split
    · show (r.2 ++ s.2).length ≤ _
      rw [List.length_append]
      omega
    · show (r.2 ++ s.2).length ≤ _
      rw [List.length_append]
      omega
theorem ev_len {W : Tr} {now : Int} : ∀ t : Tm, ((ev W now t).2.length : Int) ≤ t.lok
  | .now => by show ((0 : Nat) : Int) ≤ 0; omega
  | .last s t => by
    have := ev_len (W := W) (now := now) t
    have h := lookR_len (r := ev W now t) (f := lastR (W s))
    show ((lookR (ev W now t) (lastR (W s))).2.length : Int) ≤ 1 + t.lok
    omega
  | .next s t => by
    have := ev_len (W := W) (now := now) t
    have h := lookR_len (r := ev W now t) (f := nextR (W s))
    show ((lookR (ev W now t) (nextR (W s))).2.length : Int) ≤ 1 + t.lok
    omega
  | .shift n t => by
    have := ev_len (W := W) (now := now) t
    have h := moveR_len (r := ev W now t) (n := n)
    show ((moveR (ev W now t) n).2.length : Int) ≤ 0 + t.lok
    omega
  | .either a b => by
    have h1 := ev_len (W := W) (now := now) a
    have h2 := ev_len (W := W) (now := now) b
    have h := eithR_len (r := ev W now a) (s := ev W now b)
    show ((eithR (ev W now a) (ev W now b)).2.length : Int) ≤ 0 + (a.lok + b.lok)
    omega
  | .later a b => by
    have h1 := ev_len (W := W) (now := now) a
    have h2 := ev_len (W := W) (now := now) b
    have h := bothR_len (g := mxI) (r := ev W now a) (s := ev W now b)
    show ((bothR mxI (ev W now a) (ev W now b)).2.length : Int) ≤ 0 + (a.lok + b.lok)
    omega
  | .earlier a b => by
    have h1 := ev_len (W := W) (now := now) a
    have h2 := ev_len (W := W) (now := now) b
    have h := bothR_len (g := mnI) (r := ev W now a) (s := ev W now b)
    show ((bothR mnI (ev W now a) (ev W now b)).2.length : Int) ≤ 0 + (a.lok + b.lok)
    omega
/-- all its streams are names -/
def Tm.NmS : Tm → Prop
  | .now => True
  | .last s t => IsNm s ∧ t.NmS
  | .next s t => IsNm s ∧ t.NmS
  | .shift _ t => t.NmS
  | .either a b => a.NmS ∧ b.NmS
  | .later a b => a.NmS ∧ b.NmS
  | .earlier a b => a.NmS ∧ b.NmS
/-- t + n -/
def Tm.plus (t : Tm) (n : Int) : Tm := if n = 0 then t else match t with
  | .shift m u => if m + n = 0 then u else .shift (m + n) u
  | t => .shift n t
def oV : Option Int → V
  | none => .non
  | some i => .int i
def RowV (H : Hp) (v : V) : Option T3 → Prop
  | none => v = .non
  | some t => ∃ e, v = .ref e ∧ H e = some (.tup (tv t))
/-- a pair of an answer and what was seen -/
def Ans (H : Hp) (Q : VK) (r : Rs) : Prop := ∀ (q l : Addr) H', Same H H' → H' q = some (.tup [oV r.1, .ref l]) → H' l = some (.lst (r.2.map V.int)) → Q (.ref q) H'
def spShifted (C : TC) : Sp := fun vs H Q _ => ∃ (a : Addr) (t : Tm) (n : Int), vs = [.ref a, .int n] ∧ TmAt C H a t ∧ (t.plus n).Fit ∧ ∀ a' H', TmAt C H' a' (t.plus n) → Same H H' → Q (.ref a') H'
def spLastRow (CW : Addr) (g : List T3 → Int → Option T3) : Sp := fun vs H Q _ => ∃ (a : Addr) (W : Tr) (z : Str) (m : Int), vs = [.ref a, .str z, .int m] ∧ WAt CW H a W ∧ IsNm z ∧ ∀ v H', Same H H' → RowV H' v (g (W z) m) → Q v H'
def spFol (C : TC) (CW : Addr) (d : Nat) : Sp := fun vs H Q _ => ∃ (a b : Addr) (t : Tm) (W : Tr) (now : Int), vs = [.ref a, .ref b, .int now] ∧ TmAt C H a t ∧ WAt CW H b W ∧ t.NmS ∧ t.Fit ∧ t.dep ≤ (d : Int) ∧ Ans H Q (ev W now t)
def spMoved (C : TC) (CW : Addr) (d : Nat) : Sp := fun vs H Q _ => ∃ (a b : Addr) (t : Tm) (W : Tr) (now n : Int), vs = [.ref a, .ref b, .int now] ∧ TmAt C H a (.shift n t) ∧ WAt CW H b W ∧ t.NmS ∧ t.Fit ∧ t.dep ≤ (d : Int) ∧ Ans H Q (ev W now (.shift n t))
def spLooked (C : TC) (CW : Addr) (d : Nat) : Sp := fun vs H Q _ => ∃ (a b : Addr) (t u : Tm) (s : Str) (W : Tr) (now : Int), vs = [.ref a, .ref b, .int now, .int 0] ∧ TmAt C H a u ∧ (u = .last s t ∨ u = .next s t) ∧ WAt CW H b W ∧ IsNm s ∧ t.NmS ∧ t.Fit ∧ t.dep ≤ (d : Int) ∧ Ans H Q (ev W now u)
def spEith (C : TC) (CW : Addr) (d : Nat) : Sp := fun vs H Q _ => ∃ (a b : Addr) (t u : Tm) (W : Tr) (now : Int), vs = [.ref a, .ref b, .int now] ∧ TmAt C H a (.either t u) ∧ WAt CW H b W ∧ t.NmS ∧ u.NmS ∧ t.Fit ∧ u.Fit ∧ t.dep ≤ (d : Int) ∧ u.dep ≤ (d : Int) ∧ Ans H Q (ev W now (.either t u))
def spBoth (C : TC) (CW : Addr) (d : Nat) : Sp := fun vs H Q _ => ∃ (a b : Addr) (t u x : Tm) (W : Tr) (now : Int), vs = [.ref a, .ref b, .int now] ∧ TmAt C H a x ∧ (x = .later t u ∨ x = .earlier t u) ∧ WAt CW H b W ∧ t.NmS ∧ u.NmS ∧ t.Fit ∧ u.Fit ∧ t.dep ≤ (d : Int) ∧ u.dep ≤ (d : Int) ∧ Ans H Q (ev W now x)
theorem keep_make {H H' : Hp} {x dx : Addr} {o1 o2 : HO} (k : Keep x (upd (upd H dx o1) x o2) H') (hx : H x = none) (hd : H dx = none) : Same H H' := fun c o hc => k c o (by rw [upd_ne (ne_of_none hc hx), upd_ne (ne_of_none hc hd)]; exact hc) (ne_of_none hc hx)
def Tm.isShift : Tm → Bool
  | .shift _ _ => true
  | _ => false
theorem TD.shift {C : TC} (D : TD C) (t : Tm) : decide (C.of t = C.shift) = t.isShift := by
  have h := D.nd
  simp only [List.nodup_cons, List.mem_cons, List.not_mem_nil, or_false, not_or] at h
  obtain ⟨⟨a1, a2, a3, a4, a5, a6⟩, ⟨b1, b2, b3, b4, b5⟩, ⟨c1, c2, c3, c4⟩, ⟨d1, d2, d3⟩, _⟩ := h
  cases t <;> simp [TC.of, Tm.isShift, a1, a2, a3, b2, c1, Ne.symm d1, Ne.symm d2, Ne.symm d3]
theorem plus_no {t : Tm} {n : Int} (h : t.isShift = false) (n0 : ¬ n = 0) : t.plus n = .shift n t := by
  unfold Tm.plus
  rw [if_neg n0]
  cases t <;> first | rfl | exact absurd h (by simp [Tm.isShift])
section
variable {P : Program} {w : World} {K : PySem.W.Frag} {mg : Str → Option Value} {base : Heap} {C : TC} {CW : Addr}
structure T3s (P : Program) (w : World) (K : PySem.W.Frag) (mg : Str → Option Value) (base : Heap) (C : TC) (CW : Addr) : Prop extends T2 P w K mg base C where
  Shift : Mak P w K mg base CX0 "Shift" C.shift 2 ["self", "term", "amount"] (spInitS C)
  rows : Met P w K mg base CX0 CW "rows" 2 ["self", "stream"] (spWorldRows CW)
abbrev s_shifted : Stmt := topS 34
theorem sc_shifted : FnScope ["term", "amount", "inner", "total"] ["term", "amount"] (defScope s_shifted) := ⟨rfl, rfl, rfl, by decide +kernel, rfl, by decide +kernel, by decide +kernel⟩
theorem ok_shifted {f : Addr} {fd : FuncData} (F : Fun K "shifted" "shifted" s_shifted f fd) (B : Blt mg) (T : TF K mg C) (D : TD C) (G : T3s P w K mg base C CW) : FnOk P w K mg base CX0 4 f fd ["term", "amount"] (spShifted C) := by
  obtain ⟨t_cl, t_no, t_ty, t_one, c_Now, c_Last, c_Next, c_Shift, c_Either, c_Later, c_Earlier⟩ := id T
  refine F.ok sc_shifted (fun vs H Q E h => ?_) (fun cdv A outer s H vs Q E hr h => ?_)
  · obtain ⟨a, t, n, rfl, _⟩ := h
    rfl
  · obtain ⟨a, t, n, rfl, hT, hF, q⟩ := h
    refine ⟨_, (pss_cons (ps_if (pt_cmpR op_eq (pv 1) pe_int (nomark _))
      (pss_one (ps_ret (pv 0)))
      pss_nil)
    (pss_cons (ps_par (i := 2) (j := 3) (by rfl) sc_shifted.nd rfl rfl (by decide) rfl rfl (pa_cons (pv 0) (pa_cons (pv 1) pa_nil)) (by rfl))
    (pss_cons (ps_if (pt_val (pe_callB call_isi (by rfl) B.isinstance (by decide +kernel) (pa_cons (pv 0) (pa_cons (pe_glob (v := .ref C.shift) (by rfl) c_Shift rfl) pa_nil))))
      (pss_one (ps_par (i := 2) (j := 3) (by rfl) sc_shifted.nd rfl rfl (by decide) rfl rfl (pa_cons (pe_fld (pv 0) rfl) (pa_cons (pe_op op_add (pe_fld (pv 0) rfl) (pv 1)) pa_nil)) (by rfl)))
      pss_nil)
    (pss_cons (ps_if (pt_cmpR op_eq (pv 3) pe_int (nomark _))
      (pss_one (ps_ret (pv 2)))
      pss_nil)
    (pss_one (ps_ret (pe_mak G.Shift (hr.mono (by decide)) pass0 (pa_cons (pv 2) (pa_cons (pv 3) pa_nil))))))))), ?_⟩
    refine ⟨_, rfl, rfl, _, rfl, ?_⟩
    refine ite2 (fun c => ?_) (fun c => ?_)
    · have n0 : n = 0 := V.int.inj (of_decide_eq_true c)
      subst n0
      have q : ∀ a' H', TmAt C H' a' t → Same H H' → Q (.ref a') H' := q
      exact ⟨_, rfl, q a H hT (Same.refl H)⟩
    · have n0 : ¬ n = 0 := fun z => by rw [z] at c; simp at c
      have tx := T.tyx hT
      have k := T.one (C.of t) C.shift (C.is_of t) (C.is_of (.shift 0 .now))
      rw [D.shift] at k
      refine ⟨_, rfl, _, rfl, _, _, rfl, _, rfl, _, _, _, _, _, rfl, .own _, tx, k, _, rfl, ?_⟩
      cases hs : t.isShift with
      | false =>
        rw [plus_no hs n0] at hF q
        refine iteF ⟨_, rfl, rfl, _, rfl, ?_⟩
        rw [show decide (V.int n = V.int 0) = false from decide_eq_false fun z => n0 (V.int.inj z)]
        refine iteF ⟨_, rfl, _, rfl, fun x dx hx hdx hne => ⟨x, dx, a, n, t, rfl, upd_same, hT.same (sameAt (sameAt (Same.refl H) hdx) hx), hF, fun H' hT' hK => ⟨rfl, q x H' hT' (keep_make hK hx hdx)⟩⟩⟩
      | true =>
        cases t with
        | shift m u =>
          have e : (Tm.shift m u).plus n = if m + n = 0 then u else .shift (m + n) u := by
            show (if n = 0 then _ else _) = _
            rw [if_neg n0]
          rw [e] at hF q
          obtain ⟨dx, b, sp, h1, h2, h3⟩ := id hT
          have Is : C.Is C.shift := C.is_of (.shift 0 .now)
          refine iteT ⟨_, rfl, a, C.shift, dx, _, _, rfl, h1, T.cl _ Is, T.no _ Is _ (by decide +kernel), rfl, _, rfl, a, C.shift, dx, _, _, rfl, h1, T.cl _ Is, T.no _ Is _ (by decide +kernel), rfl, _, rfl, _, _, rfl, rfl, _, _, rfl, ?_⟩
          refine ⟨_, rfl, rfl, _, rfl, ?_⟩
          refine ite2 (fun c2 => ?_) (fun c2 => ?_)
          · have z : m + n = 0 := V.int.inj (of_decide_eq_true c2)
            rw [if_pos z] at q
            exact ⟨_, rfl, q b H h3 (Same.refl H)⟩
          · have z : ¬ m + n = 0 := fun z => c2 (decide_eq_true (by show V.int (m + n) = V.int 0; rw [z]))
            rw [if_neg z] at q hF
            exact ⟨_, rfl, _, rfl, fun x dx hx hdx hne => ⟨x, dx, b, m + n, u, rfl, upd_same, h3.same (sameAt (sameAt (Same.refl H) hdx) hx), hF, fun H' hT' hK => ⟨rfl, q x H' hT' (keep_make hK hx hdx)⟩⟩⟩
        | _ => exact absurd hs (by simp [Tm.isShift])
abbrev s_last_row : Stmt := topS 65
theorem sc_last_row : FnScope ["world", "stream", "moment", "rows", "row"] ["world", "stream", "moment"] (defScope s_last_row) := ⟨rfl, rfl, rfl, by decide +kernel, rfl, by decide +kernel, by decide +kernel⟩
theorem ok_lastrow {f : Addr} {fd : FuncData} (F : Fun K "last_row" "last_row" s_last_row f fd) (B : Blt mg) (T0 : Cw K mg CW) (G : T3s P w K mg base C CW) : FnOk P w K mg base CX0 3 f fd ["world", "stream", "moment"] (spLastRow CW lastR) := by
  refine F.ok sc_last_row (fun vs H Q E h => ?_) (fun cdv A outer s H vs Q E hr h => ?_)
  · obtain ⟨a, W, z, m, rfl, _⟩ := h
    rfl
  · obtain ⟨a, W, z, m, rfl, hW, hz, q⟩ := h
    refine ⟨_, (pss_cons (ps_setLc (i := 3) (own := [("row", 4)]) (g := gName 4) (by rfl) sc_last_row.nd rfl rfl (sw_true rfl rfl rfl (by decide +kernel)) (pi_list (pe_met T0.cl G.rows (hr.mono (by decide)) pass0 (pv 0) (pa_cons (pv 1) pa_nil))) (blkOk_by (own := [("row", 4)]) (N := ["world", "stream", "moment", "rows", "row"]) (sc := defScope s_last_row) (by decide +kernel)) (fun _ _ _ _ _ => (pg_name (i := 4) sc_last_row.nd rfl (Or.inl rfl))) (fun _ _ _ _ _ => pts_one (pt_cmpR op_le (pe_ix (show IxR _ (rIxT K) from ix_tup) (pv 4) pe_int (fun _ _ => rfl)) (pv 2) (nomark _))) (fun _ _ _ _ _ => (pv 4)))
    (pss_cons (ps_if (pt_cmpR op_eq (pe_callB call_len_seq (by rfl) B.len (by decide +kernel) (pa_cons (pv 3) pa_nil)) pe_int (nomark _))
      (pss_one (ps_ret pe_non))
      pss_nil)
    (pss_one (ps_ret (pe_ix ix_list (pv 3) (pe_un un_neg pe_int) (fun _ _ => rfl)))))), ?_⟩
    obtain ⟨dx, d, t, kvs, ids, h1, h2, h3, h4⟩ := id hW
    have l4 := (h4 z).1
    refine ⟨_, rfl, a, dx, _, rfl, h1, rfl, _, rfl, a, W, z, rfl, hW, hz, fun p ys H1 s1 hp hys hTr => ?_⟩
    refine ⟨p, rfl, ⟨_, SqL.of hys⟩, fun D hD => lc_it (walk_list (xs := ys)) (fun i H2 => (∃ zs, H2 D = some (.lst zs) ∧ TrAt H2 zs (((W z).take i).filter (fun t : T3 => decide (t.1 ≤ m)))) ∧ Same H1 H2) ⟨⟨[], upd_same, rfl, fun i v t a b => by simp at a⟩, sameAt (Same.refl H1) hD⟩ (fun i H2 _ hv => SqL.of (hv.2 _ _ hys)) ?_ ?_⟩
    · rintro i x H2 H3 hi ⟨⟨zs, hD2, hT2⟩, s2⟩ ⟨rfl, hx⟩
      have hi2 : i < (W z).length := by rw [← hTr.1]; exact hi
      obtain ⟨t, ht⟩ : ∃ t, (W z)[i]? = some t := ⟨_, List.getElem?_eq_getElem hi2⟩
      obtain ⟨e, rfl, he⟩ := hTr.2 i x t hx ht
      have he1 := s2 _ _ he
      have tk : ∀ {u} t xs, H3 t = some (.tup xs) → upd H3 D (.lst u) t = some (.tup xs) := fun {u} t xs q => by rw [upd_ne (ne_of q hD2 (by intro z; cases z))]; exact q
      refine ⟨rfl, _, rfl, _, _, _, _, rfl, rfl, SqT.of he1, rfl, _, rfl, _, _, rfl, rfl, _, rfl, ?_⟩
      rw [list_take ht, List.filter_append]
      have lz : zs.length ≤ 400 := by
        rw [hT2.1]
        refine Nat.le_trans (List.length_filter_le _ _) ?_
        rw [List.length_take]
        omega
      refine ite2 (fun c => ?_) (fun c => ?_)
      · refine ⟨_, rfl, zs, hD2, small1000 (by omega), ⟨_, upd_same, ?_⟩, sameAt s2 hD⟩
        rw [show List.filter (fun t : T3 => decide (t.1 ≤ m)) [t] = [t] by rw [List.filter_cons, if_pos c]; rfl]
        exact (hT2.tk tk).snoc (tk _ _ he1)
      · refine ⟨⟨zs, hD2, ?_⟩, s2⟩
        rw [show List.filter (fun t : T3 => decide (t.1 ≤ m)) [t] = [] by rw [List.filter_cons, if_neg c]; rfl, List.append_nil]
        exact hT2
    · rintro H2 ⟨⟨zs, hD2, hT2⟩, s2⟩
      rw [hTr.1, List.take_length] at hT2
      have s12 := s1.trans s2
      refine ⟨_, rfl, _, _, rfl, .inl (SqL.of hD2), rfl, _, rfl, ?_⟩
      cases zs with
      | nil =>
        have e : (W z).filter (fun t : T3 => decide (t.1 ≤ m)) = [] := List.length_eq_zero_iff.mp hT2.1.symm
        refine iteT (q .non H2 s12 ?_)
        rw [show lastR (W z) m = ((W z).filter (fun t : T3 => decide (t.1 ≤ m))).getLast? from rfl, e]
        rfl
      | cons y yr =>
        rw [show decide (V.int (((y :: yr).length : Nat) : Int) = V.int 0) = false from decide_eq_false fun z => by
          have := V.int.inj z
          rw [List.length_cons] at this
          omega]
        refine iteF ?_
        obtain ⟨t, ht⟩ : ∃ t, ((W z).filter (fun t : T3 => decide (t.1 ≤ m)))[yr.length]? = some t := ⟨_, List.getElem?_eq_getElem (by rw [← hT2.1, List.length_cons]; omega)⟩
        obtain ⟨e, he, het⟩ := hT2.get ht
        refine ⟨_, rfl, _, rfl, D, y :: yr, -1, .ref e, rfl, rfl, SqL.of hD2, ?_, q _ H2 s12 ?_⟩
        · unfold atI ixN
          rw [if_neg (by decide), if_pos (by rw [List.length_cons]; omega), Option.bind_some, show ((-1 : Int) + (((y :: yr).length : Nat) : Int)).toNat = yr.length by rw [List.length_cons]; omega]
          exact he
        · show RowV H2 (.ref e) (((W z).filter (fun t : T3 => decide (t.1 ≤ m))).getLast?)
          rw [List.getLast?_eq_getElem?, ← hT2.1, List.length_cons, Nat.add_sub_cancel, ht]
          exact ⟨e, rfl, het⟩
abbrev s_next_row : Stmt := topS 66
theorem sc_next_row : FnScope ["world", "stream", "moment", "rows", "row"] ["world", "stream", "moment"] (defScope s_next_row) := ⟨rfl, rfl, rfl, by decide +kernel, rfl, by decide +kernel, by decide +kernel⟩
theorem ok_nextrow {f : Addr} {fd : FuncData} (F : Fun K "next_row" "next_row" s_next_row f fd) (B : Blt mg) (T0 : Cw K mg CW) (G : T3s P w K mg base C CW) : FnOk P w K mg base CX0 3 f fd ["world", "stream", "moment"] (spLastRow CW nextR) := by
  refine F.ok sc_next_row (fun vs H Q E h => ?_) (fun cdv A outer s H vs Q E hr h => ?_)
  · obtain ⟨a, W, z, m, rfl, _⟩ := h
    rfl
  · obtain ⟨a, W, z, m, rfl, hW, hz, q⟩ := h
    refine ⟨_, (pss_cons (ps_setLc (i := 3) (own := [("row", 4)]) (g := gName 4) (by rfl) sc_next_row.nd rfl rfl (sw_true rfl rfl rfl (by decide +kernel)) (pi_list (pe_met T0.cl G.rows (hr.mono (by decide)) pass0 (pv 0) (pa_cons (pv 1) pa_nil))) (blkOk_by (own := [("row", 4)]) (N := ["world", "stream", "moment", "rows", "row"]) (sc := defScope s_next_row) (by decide +kernel)) (fun _ _ _ _ _ => (pg_name (i := 4) sc_next_row.nd rfl (Or.inl rfl))) (fun _ _ _ _ _ => pts_one (pt_cmpR op_ge (pe_ix (show IxR _ (rIxT K) from ix_tup) (pv 4) pe_int (fun _ _ => rfl)) (pv 2) (nomark _))) (fun _ _ _ _ _ => (pv 4)))
    (pss_cons (ps_if (pt_cmpR op_eq (pe_callB call_len_seq (by rfl) B.len (by decide +kernel) (pa_cons (pv 3) pa_nil)) pe_int (nomark _))
      (pss_one (ps_ret pe_non))
      pss_nil)
    (pss_one (ps_ret (pe_ix ix_list (pv 3) pe_int (fun _ _ => rfl)))))), ?_⟩
    obtain ⟨dx, d, t, kvs, ids, h1, h2, h3, h4⟩ := id hW
    have l4 := (h4 z).1
    refine ⟨_, rfl, a, dx, _, rfl, h1, rfl, _, rfl, a, W, z, rfl, hW, hz, fun p ys H1 s1 hp hys hTr => ?_⟩
    refine ⟨p, rfl, ⟨_, SqL.of hys⟩, fun D hD => lc_it (walk_list (xs := ys)) (fun i H2 => (∃ zs, H2 D = some (.lst zs) ∧ TrAt H2 zs (((W z).take i).filter (fun t : T3 => decide (m ≤ t.1)))) ∧ Same H1 H2) ⟨⟨[], upd_same, rfl, fun i v t a b => by simp at a⟩, sameAt (Same.refl H1) hD⟩ (fun i H2 _ hv => SqL.of (hv.2 _ _ hys)) ?_ ?_⟩
    · rintro i x H2 H3 hi ⟨⟨zs, hD2, hT2⟩, s2⟩ ⟨rfl, hx⟩
      have hi2 : i < (W z).length := by rw [← hTr.1]; exact hi
      obtain ⟨t, ht⟩ : ∃ t, (W z)[i]? = some t := ⟨_, List.getElem?_eq_getElem hi2⟩
      obtain ⟨e, rfl, he⟩ := hTr.2 i x t hx ht
      have he1 := s2 _ _ he
      have tk : ∀ {u} t xs, H3 t = some (.tup xs) → upd H3 D (.lst u) t = some (.tup xs) := fun {u} t xs q => by rw [upd_ne (ne_of q hD2 (by intro z; cases z))]; exact q
      refine ⟨rfl, _, rfl, _, _, _, _, rfl, rfl, SqT.of he1, rfl, _, rfl, _, _, rfl, rfl, _, rfl, ?_⟩
      rw [list_take ht, List.filter_append]
      have lz : zs.length ≤ 400 := by
        rw [hT2.1]
        refine Nat.le_trans (List.length_filter_le _ _) ?_
        rw [List.length_take]
        omega
      refine ite2 (fun c => ?_) (fun c => ?_)
      · refine ⟨_, rfl, zs, hD2, small1000 (by omega), ⟨_, upd_same, ?_⟩, sameAt s2 hD⟩
        rw [show List.filter (fun t : T3 => decide (m ≤ t.1)) [t] = [t] by rw [List.filter_cons, if_pos c]; rfl]
        exact (hT2.tk tk).snoc (tk _ _ he1)
      · refine ⟨⟨zs, hD2, ?_⟩, s2⟩
        rw [show List.filter (fun t : T3 => decide (m ≤ t.1)) [t] = [] by rw [List.filter_cons, if_neg c]; rfl, List.append_nil]
        exact hT2
    · rintro H2 ⟨⟨zs, hD2, hT2⟩, s2⟩
      rw [hTr.1, List.take_length] at hT2
      have s12 := s1.trans s2
      refine ⟨_, rfl, _, _, rfl, .inl (SqL.of hD2), rfl, _, rfl, ?_⟩
      cases zs with
      | nil =>
        have e : (W z).filter (fun t : T3 => decide (m ≤ t.1)) = [] := List.length_eq_zero_iff.mp hT2.1.symm
        refine iteT (q .non H2 s12 ?_)
        rw [show nextR (W z) m = ((W z).filter (fun t : T3 => decide (m ≤ t.1))).head? from rfl, e]
        rfl
      | cons y yr =>
        rw [show decide (V.int (((y :: yr).length : Nat) : Int) = V.int 0) = false from decide_eq_false fun z => by
          have := V.int.inj z
          rw [List.length_cons] at this
          omega]
        refine iteF ?_
        obtain ⟨t, ht⟩ : ∃ t, ((W z).filter (fun t : T3 => decide (m ≤ t.1)))[0]? = some t := ⟨_, List.getElem?_eq_getElem (by rw [← hT2.1, List.length_cons]; omega)⟩
        obtain ⟨e, he, het⟩ := hT2.get ht
        refine ⟨_, rfl, D, y :: yr, 0, .ref e, rfl, rfl, SqL.of hD2, atI_nat (j := 0) he, q _ H2 s12 ?_⟩
        show RowV H2 (.ref e) (((W z).filter (fun t : T3 => decide (m ≤ t.1))).head?)
        rw [List.head?_eq_getElem?, ht]
        exact ⟨e, rfl, het⟩
end
end Ash

set_option Elab.async false
set_option linter.all false
set_option maxRecDepth 100000
set_option maxHeartbeats 4000000
namespace Ash
open PySem PySem.Spec PyProof.Rows L2 SrtT
open C8 (pss_cut)
section
variable {P : Program} {w : World} {K : PySem.W.Frag} {mg : Str → Option Value} {base : Heap} {C : TC} {CW : Addr}
theorem Tm.Fit.ofL {s : Str} {t : Tm} (h : (Tm.last s t).Fit) : t.Fit := by
  obtain ⟨h1, h2, h3⟩ := h
  have h1 : 1 + t.dep ≤ 12 := h1
  have h2 : 1 + t.par ≤ 40 := h2
  have h3 : 1 + t.lok ≤ 12 := h3
  exact ⟨by omega, by omega, by omega⟩
theorem Tm.Fit.ofN {s : Str} {t : Tm} (h : (Tm.next s t).Fit) : t.Fit := Tm.Fit.ofL (s := s) h
theorem Tm.Fit.ofS {n : Int} {t : Tm} (h : (Tm.shift n t).Fit) : t.Fit := by
  obtain ⟨h1, h2, h3⟩ := h
  have h1 : 1 + t.dep ≤ 12 := h1
  have h2 : 1 + t.par ≤ 40 := h2
  have h3 : 0 + t.lok ≤ 12 := h3
  exact ⟨by omega, by omega, by omega⟩
theorem Tm.Fit.ofE {t u : Tm} (h : (Tm.either t u).Fit) : t.Fit ∧ u.Fit := by
  obtain ⟨h1, h2, h3⟩ := h
  have h1 : 1 + Tm.mx t.dep u.dep ≤ 12 := h1
  have h2 : 1 + (t.par + u.par) ≤ 40 := h2
  have h3 : 0 + (t.lok + u.lok) ≤ 12 := h3
  have := Tm.mx_l t.dep u.dep
  have := Tm.mx_r t.dep u.dep
  have := t.par_pos
  have := u.par_pos
  have := t.lok_nn
  have := u.lok_nn
  exact ⟨⟨by omega, by omega, by omega⟩, ⟨by omega, by omega, by omega⟩⟩
def Tm.isNow : Tm → Bool
  | .now => true
  | _ => false
def Tm.isEith : Tm → Bool
  | .either _ _ => true
  | _ => false
theorem TD.now_ (D : TD C) (t : Tm) : decide (C.of t = C.now) = t.isNow := by
  have h := D.nd
  simp only [List.nodup_cons, List.mem_cons, List.not_mem_nil, or_false, not_or] at h
  obtain ⟨⟨a1, a2, a3, a4, a5, a6⟩, _⟩ := h
  cases t <;> simp [TC.of, Tm.isNow, Ne.symm a1, Ne.symm a2, Ne.symm a3, Ne.symm a4, Ne.symm a5, Ne.symm a6]
theorem TD.eith (D : TD C) (t : Tm) : decide (C.of t = C.either) = t.isEith := by
  have h := D.nd
  simp only [List.nodup_cons, List.mem_cons, List.not_mem_nil, or_false, not_or] at h
  obtain ⟨⟨a1, a2, a3, a4, a5, a6⟩, ⟨b1, b2, b3, b4, b5⟩, ⟨c1, c2, c3, c4⟩, ⟨d1, d2, d3⟩, ⟨e1, e2⟩, _⟩ := h
  cases t <;> simp [TC.of, Tm.isEith, a4, b3, c2, d1, Ne.symm e1, Ne.symm e2]
theorem Ans.same {H H1 : Hp} {Q : VK} {r : Rs} (h : Ans H Q r) (s : Same H H1) : Ans H1 Q r := fun q l H' s2 => h q l H' (s.trans s2)
theorem oV_none {o : Option Int} : decide (oV o = V.non) = o.isNone := by
  cases o with
  | none => rfl
  | some i => exact decide_eq_false fun z => nomatch z
/-- what stands of a term with an inner one -/
theorem TmAt.inner {H : Hp} {a : Addr} {s : Str} {t u : Tm} (h : TmAt C H a u) (e : u = .last s t ∨ u = .next s t) : ∃ dx b sp, H a = some (.ins (C.of u) dx (("stream", .str s) :: ("term", .ref b) :: fCom sp u)) ∧ TmAt C H b t := by
  rcases e with rfl | rfl
  · obtain ⟨dx, b, sp, h1, h2, h3⟩ := h
    exact ⟨dx, b, sp, h1, h3⟩
  · obtain ⟨dx, b, sp, h1, h2, h3⟩ := h
    exact ⟨dx, b, sp, h1, h3⟩
theorem TmAt.two {H : Hp} {a : Addr} {t u x : Tm} (h : TmAt C H a x) (e : x = .either t u ∨ x = .later t u ∨ x = .earlier t u) : ∃ dx b c sp, H a = some (.ins (C.of x) dx (("first", .ref b) :: ("second", .ref c) :: fCom sp x)) ∧ TmAt C H b t ∧ TmAt C H c u := by
  rcases e with rfl | rfl | rfl
  · obtain ⟨dx, b, c, sp, h1, h2, h3, h4⟩ := h
    exact ⟨dx, b, c, sp, h1, h3, h4⟩
  · obtain ⟨dx, b, c, sp, h1, h2, h3, h4⟩ := h
    exact ⟨dx, b, c, sp, h1, h3, h4⟩
  · obtain ⟨dx, b, c, sp, h1, h2, h3, h4⟩ := h
    exact ⟨dx, b, c, sp, h1, h3, h4⟩
structure A1 (P : Program) (w : World) (K : PySem.W.Frag) (mg : Str → Option Value) (base : Heap) (C : TC) (CW : Addr) : Prop extends T3s P w K mg base C CW where
  last_row : Cal P w K mg base CX0 "last_row" 3 ["world", "stream", "moment"] (spLastRow CW lastR)
  next_row : Cal P w K mg base CX0 "next_row" 3 ["world", "stream", "moment"] (spLastRow CW nextR)
structure A2 (P : Program) (w : World) (K : PySem.W.Frag) (mg : Str → Option Value) (base : Heap) (C : TC) (CW : Addr) (d : Nat) : Prop extends A1 P w K mg base C CW where
  followed : Cal P w K mg base CX0 "followed" (2 * d + 4) ["term", "world", "now"] (spFol C CW d)
abbrev s_moved : Stmt := topS 60
theorem sc_moved : FnScope ["shift", "world", "now", "answer", "seen"] ["shift", "world", "now"] (defScope s_moved) := ⟨rfl, rfl, rfl, by decide +kernel, rfl, by decide +kernel, by decide +kernel⟩
theorem ok_moved {f : Addr} {fd : FuncData} {d : Nat} (F : Fun K "moved" "moved" s_moved f fd) (B : Blt mg) (T : TF K mg C) (G : A2 P w K mg base C CW d) : FnOk P w K mg base CX0 (2 * d + 5) f fd ["shift", "world", "now"] (spMoved C CW d) := by
  refine F.ok sc_moved (fun vs H Q E h => ?_) (fun cdv A outer s H vs Q E hr h => ?_)
  · obtain ⟨a, b, t, W, now, n, rfl, _⟩ := h
    rfl
  · obtain ⟨a, b, t, W, now, n, rfl, hT, hW, hN, hF, hd, q⟩ := h
    refine ⟨_, (pss_cons (ps_asg (pe_cal G.followed (hr.mono (by omega)) pass0 (pa_cons (pe_fld (pv 0) rfl) (pa_cons (pv 1) (pa_cons (pv 2) pa_nil)))) (pg_tup (by rfl) (pgs_cons (pg_name (i := 3) sc_moved.nd rfl (Or.inl rfl)) (pgs_cons (pg_name (i := 4) sc_moved.nd rfl (Or.inl rfl)) pgs_nil))))
    (pss_cons (ps_if (pt_cmpR op_isN (pv 3) pe_non (nomark _))
      (pss_one (ps_ret (pe_tup (pa_cons pe_non (pa_cons (pv 4) pa_nil)))))
      pss_nil)
    (pss_one (ps_ret (pe_tup (pa_cons (pe_op op_add (pv 3) (pe_fld (pv 0) rfl)) (pa_cons (pv 4) pa_nil))))))), ?_⟩
    obtain ⟨dx, c, sp, h1, h2, h3⟩ := id hT
    have Is : C.Is C.shift := C.is_of (.shift 0 .now)
    refine ⟨_, rfl, a, C.shift, dx, _, _, rfl, h1, T.cl _ Is, T.no _ Is _ (by decide +kernel), rfl, _, rfl, _, rfl, c, b, t, W, now, rfl, h3, hW, hN, hF, hd, fun q1 l H1 s1 hq1 hl => ?_⟩
    have q : Ans H Q (moveR (ev W now t) n) := q
    generalize ev W now t = r at q hq1 hl
    obtain ⟨r1, r2⟩ := r
    refine ⟨q1, _, rfl, SqT.of hq1, rfl, _, _, rfl, _, _, rfl, rfl, ?_⟩
    refine ⟨_, rfl, rfl, _, rfl, ?_⟩
    cases r1 with
    | none =>
      refine ite2 (fun _ => ?_) (fun c => absurd rfl c)
      exact ⟨_, rfl, (by show 2 ≤ sizeLine; decide), fun t2 ht2 => q t2 l _ (s1.trans (sameAt (Same.refl H1) ht2)) upd_same (sameAt (Same.refl H1) ht2 _ _ hl)⟩
    | some m =>
      refine ite2 (fun c => absurd (of_decide_eq_true c) (fun z => nomatch z)) (fun _ => ?_)
      exact ⟨_, rfl, _, rfl, a, C.shift, dx, _, _, rfl, s1 _ _ h1, T.cl _ Is, T.no _ Is _ (by decide +kernel), rfl, _, _, rfl, rfl, _, rfl, (by show 2 ≤ sizeLine; decide), fun t2 ht2 => q t2 l _ (s1.trans (sameAt (Same.refl H1) ht2)) upd_same (sameAt (Same.refl H1) ht2 _ _ hl)⟩
abbrev s_looked : Stmt := topS 61
theorem sc_looked : FnScope ["question", "world", "now", "place", "answer", "seen", "row"] ["question", "world", "now", "place"] (defScope s_looked) := ⟨rfl, rfl, rfl, by decide +kernel, rfl, by decide +kernel, by decide +kernel⟩
theorem ok_looked {f : Addr} {fd : FuncData} {d : Nat} (F : Fun K "looked" "looked" s_looked f fd) (B : Blt mg) (T : TF K mg C) (D : TD C) (G : A2 P w K mg base C CW d) : FnOk P w K mg base CX0 (2 * d + 5) f fd ["question", "world", "now", "place"] (spLooked C CW d) := by
  obtain ⟨t_cl, t_no, t_ty, t_one, c_Now, c_Last, c_Next, c_Shift, c_Either, c_Later, c_Earlier⟩ := id T
  refine F.ok sc_looked (fun vs H Q E h => ?_) (fun cdv A outer s H vs Q E hr h => ?_)
  · obtain ⟨a, b, t, u, z, W, now, rfl, _⟩ := h
    rfl
  · obtain ⟨a, b, t, u, z, W, now, rfl, hT, hu, hW, hz, hN, hF, hd, q⟩ := h
    refine ⟨_, (pss_cons (ps_asg (pe_cal G.followed (hr.mono (by omega)) pass0 (pa_cons (pe_fld (pv 0) rfl) (pa_cons (pv 1) (pa_cons (pv 2) pa_nil)))) (pg_tup (by rfl) (pgs_cons (pg_name (i := 4) sc_looked.nd rfl (Or.inl rfl)) (pgs_cons (pg_name (i := 5) sc_looked.nd rfl (Or.inl rfl)) pgs_nil))))
    (pss_cons (ps_if (pt_cmpR op_isN (pv 4) pe_non (nomark _))
      (pss_one (ps_ret (pe_tup (pa_cons pe_non (pa_cons (pv 5) pa_nil)))))
      pss_nil)
    (pss_cons (ps_if (pt_val (pe_callB call_isi (by rfl) B.isinstance (by decide +kernel) (pa_cons (pv 0) (pa_cons (pe_glob (v := .ref C.next) (by rfl) c_Next rfl) pa_nil))))
      (pss_one (ps_set (i := 6) sc_looked.nd rfl (Or.inl rfl) (pe_cal G.next_row (hr.mono (by omega)) pass0 (pa_cons (pv 1) (pa_cons (pe_fld (pv 0) rfl) (pa_cons (pv 4) pa_nil))))))
      (pss_one (ps_set (i := 6) sc_looked.nd rfl (Or.inl rfl) (pe_cal G.last_row (hr.mono (by omega)) pass0 (pa_cons (pv 1) (pa_cons (pe_fld (pv 0) rfl) (pa_cons (pv 4) pa_nil)))))))
    (pss_cons (ps_if (pt_cmpR op_isN (pv 6) pe_non (nomark _))
      (pss_one (ps_ret (pe_tup (pa_cons pe_non (pa_cons (pv 5) pa_nil)))))
      pss_nil)
    (pss_one (ps_ret (pe_tup (pa_cons (pe_ix ix_tup (pv 6) (pv 3) (fun _ _ => rfl)) (pa_cons (pe_lst (StX.pa_star (pv 5) (pa_cons (pe_ix ix_tup (pv 6) pe_int (fun _ _ => rfl)) pa_nil))) pa_nil))))))))), ?_⟩
    obtain ⟨dx, c, sp, h1, h3⟩ := hT.inner hu
    refine ⟨_, rfl, a, _, dx, _, _, rfl, h1, T.cl _ (C.is_of _), T.no _ (C.is_of _) _ (by decide +kernel), rfl, _, rfl, _, rfl, c, b, t, W, now, rfl, h3, hW, hN, hF, hd, fun q1 l H1 s1 hq1 hl => ?_⟩
    have ln := ev_len (W := W) (now := now) t
    have l12 := hF.2.2
    have q : Ans H Q (lookR (ev W now t) (if C.of u = C.next then nextR (W z) else lastR (W z))) := by
      have h := D.nd
      simp only [List.nodup_cons, List.mem_cons, List.not_mem_nil, or_false, not_or] at h
      rcases hu with rfl | rfl
      · rw [if_neg (show ¬ C.of (Tm.last z t) = C.next from h.2.1.1)]
        exact q
      · rw [if_pos (show C.of (Tm.next z t) = C.next from rfl)]
        exact q
    generalize ev W now t = r at q hq1 hl ln
    obtain ⟨r1, r2⟩ := r
    have ln : (r2.length : Int) ≤ t.lok := ln
    have k := T.one (C.of u) C.next (C.is_of u) (C.is_of (.next z .now))
    refine ⟨q1, _, rfl, SqT.of hq1, rfl, _, _, rfl, _, _, rfl, rfl, ?_⟩
    refine ⟨_, rfl, rfl, _, rfl, ?_⟩
    cases r1 with
    | none =>
      refine ite2 (fun _ => ?_) (fun c => absurd rfl c)
      exact ⟨_, rfl, (by show 2 ≤ sizeLine; decide), fun t2 ht2 => q t2 l _ (s1.trans (sameAt (Same.refl H1) ht2)) upd_same (sameAt (Same.refl H1) ht2 _ _ hl)⟩
    | some m =>
      refine ite2 (fun c => absurd (of_decide_eq_true c) (fun z => nomatch z)) (fun _ => ?_)
      refine ⟨_, rfl, _, _, _, _, _, rfl, .own _, T.tyx (hT.same s1), k, _, rfl, ?_⟩
      refine ite2 (fun cn => ?_) (fun cn => ?_)
      · rw [if_pos (of_decide_eq_true cn)] at q
        refine ⟨_, rfl, _, rfl, a, _, dx, _, _, rfl, s1 _ _ h1, T.cl _ (C.is_of _), T.no _ (C.is_of _) _ (by decide +kernel), rfl, _, rfl, b, W, z, m, rfl, hW.same s1, hz, fun v H2 s2 hv => ?_⟩
        have hl2 := s2 _ _ hl
        have s12 := s1.trans s2
        refine ⟨_, rfl, rfl, _, rfl, ?_⟩
        cases hrow : nextR (W z) m with
        | none =>
          rw [hrow] at hv
          have hv : v = .non := hv
          subst hv
          have q : Ans H Q (none, r2) := by
            have q : Ans H Q (lookR (some m, r2) (nextR (W z))) := q
            rw [show lookR (some m, r2) (nextR (W z)) = (none, r2) by show (match nextR (W z) m with | none => _ | some t => _) = _; rw [hrow]] at q
            exact q
          refine ite2 (fun _ => ?_) (fun c => absurd rfl c)
          exact ⟨_, rfl, (by show 2 ≤ sizeLine; decide), fun t2 ht2 => q t2 l _ (s12.trans (sameAt (Same.refl H2) ht2)) upd_same (sameAt (Same.refl H2) ht2 _ _ hl2)⟩
        | some t3 =>
          rw [hrow] at hv
          obtain ⟨e, rfl, he⟩ := hv
          have q : Ans H Q (some t3.1, r2 ++ [t3.2.1]) := by
            have q : Ans H Q (lookR (some m, r2) (nextR (W z))) := q
            rw [show lookR (some m, r2) (nextR (W z)) = (some t3.1, r2 ++ [t3.2.1]) by show (match nextR (W z) m with | none => _ | some t => _) = _; rw [hrow]] at q
            exact q
          refine ite2 (fun c => absurd (of_decide_eq_true c) (fun z => nomatch z)) (fun _ => ?_)
          refine ⟨_, rfl, _, rfl, _, _, _, _, rfl, rfl, SqT.of he, rfl, _, rfl, l, _, rfl, .inr (SqL.of hl2), _, rfl, _, _, _, _, rfl, rfl, SqT.of he, rfl, ?_, fun l2 hl3 => ⟨(by show 2 ≤ sizeLine; decide), fun t2 ht2 => ?_⟩⟩
          · show (r2.map V.int ++ [_]).length ≤ sizeLine
            rw [List.length_append, List.length_map, sizeLine_eq]
            show r2.length + 1 ≤ _
            omega
          · have s3 := s12.trans (sameAt (Same.refl H2) hl3 (o := .lst (r2.map V.int ++ [.int t3.2.1])))
            have hl4 : upd H2 l2 (.lst (r2.map V.int ++ [.int t3.2.1])) l2 = some (.lst ((r2 ++ [t3.2.1]).map V.int)) := by
              rw [upd_same, List.map_append]
              rfl
            exact q t2 l2 _ (s3.trans (sameAt (Same.refl _) ht2)) upd_same (sameAt (Same.refl _) ht2 _ _ hl4)
      · rw [if_neg (fun z => cn (decide_eq_true z))] at q
        refine ⟨_, rfl, _, rfl, a, _, dx, _, _, rfl, s1 _ _ h1, T.cl _ (C.is_of _), T.no _ (C.is_of _) _ (by decide +kernel), rfl, _, rfl, b, W, z, m, rfl, hW.same s1, hz, fun v H2 s2 hv => ?_⟩
        have hl2 := s2 _ _ hl
        have s12 := s1.trans s2
        refine ⟨_, rfl, rfl, _, rfl, ?_⟩
        cases hrow : lastR (W z) m with
        | none =>
          rw [hrow] at hv
          have hv : v = .non := hv
          subst hv
          have q : Ans H Q (none, r2) := by
            have q : Ans H Q (lookR (some m, r2) (lastR (W z))) := q
            rw [show lookR (some m, r2) (lastR (W z)) = (none, r2) by show (match lastR (W z) m with | none => _ | some t => _) = _; rw [hrow]] at q
            exact q
          refine ite2 (fun _ => ?_) (fun c => absurd rfl c)
          exact ⟨_, rfl, (by show 2 ≤ sizeLine; decide), fun t2 ht2 => q t2 l _ (s12.trans (sameAt (Same.refl H2) ht2)) upd_same (sameAt (Same.refl H2) ht2 _ _ hl2)⟩
        | some t3 =>
          rw [hrow] at hv
          obtain ⟨e, rfl, he⟩ := hv
          have q : Ans H Q (some t3.1, r2 ++ [t3.2.1]) := by
            have q : Ans H Q (lookR (some m, r2) (lastR (W z))) := q
            rw [show lookR (some m, r2) (lastR (W z)) = (some t3.1, r2 ++ [t3.2.1]) by show (match lastR (W z) m with | none => _ | some t => _) = _; rw [hrow]] at q
            exact q
          refine ite2 (fun c => absurd (of_decide_eq_true c) (fun z => nomatch z)) (fun _ => ?_)
          refine ⟨_, rfl, _, rfl, _, _, _, _, rfl, rfl, SqT.of he, rfl, _, rfl, l, _, rfl, .inr (SqL.of hl2), _, rfl, _, _, _, _, rfl, rfl, SqT.of he, rfl, ?_, fun l2 hl3 => ⟨(by show 2 ≤ sizeLine; decide), fun t2 ht2 => ?_⟩⟩
          · show (r2.map V.int ++ [_]).length ≤ sizeLine
            rw [List.length_append, List.length_map, sizeLine_eq]
            show r2.length + 1 ≤ _
            omega
          · have s3 := s12.trans (sameAt (Same.refl H2) hl3 (o := .lst (r2.map V.int ++ [.int t3.2.1])))
            have hl4 : upd H2 l2 (.lst (r2.map V.int ++ [.int t3.2.1])) l2 = some (.lst ((r2 ++ [t3.2.1]).map V.int)) := by
              rw [upd_same, List.map_append]
              rfl
            exact q t2 l2 _ (s3.trans (sameAt (Same.refl _) ht2)) upd_same (sameAt (Same.refl _) ht2 _ _ hl4)
abbrev s_followed_either : Stmt := topS 62
theorem sc_followed_either : FnScope ["term", "world", "now", "first", "seen", "second", "more"] ["term", "world", "now"] (defScope s_followed_either) := ⟨rfl, rfl, rfl, by decide +kernel, rfl, by decide +kernel, by decide +kernel⟩
theorem ok_feither {f : Addr} {fd : FuncData} {d : Nat} (F : Fun K "followed_either" "followed_either" s_followed_either f fd) (B : Blt mg) (T : TF K mg C) (G : A2 P w K mg base C CW d) : FnOk P w K mg base CX0 (2 * d + 5) f fd ["term", "world", "now"] (spEith C CW d) := by
  refine F.ok sc_followed_either (fun vs H Q E h => ?_) (fun cdv A outer s H vs Q E hr h => ?_)
  · obtain ⟨a, b, t, u, W, now, rfl, _⟩ := h
    rfl
  · obtain ⟨a, b, t, u, W, now, rfl, hT, hW, hN, hN2, hF, hF2, hd, hd2, q⟩ := h
    refine ⟨_, (pss_cons (ps_asg (pe_cal G.followed (hr.mono (by omega)) pass0 (pa_cons (pe_fld (pv 0) rfl) (pa_cons (pv 1) (pa_cons (pv 2) pa_nil)))) (pg_tup (by rfl) (pgs_cons (pg_name (i := 3) sc_followed_either.nd rfl (Or.inl rfl)) (pgs_cons (pg_name (i := 4) sc_followed_either.nd rfl (Or.inl rfl)) pgs_nil))))
    (pss_cons (ps_if (pt_cmpR op_notN (pv 3) pe_non (nomark _))
      (pss_one (ps_ret (pe_tup (pa_cons (pv 3) (pa_cons (pv 4) pa_nil)))))
      pss_nil)
    (pss_cons (ps_asg (pe_cal G.followed (hr.mono (by omega)) pass0 (pa_cons (pe_fld (pv 0) rfl) (pa_cons (pv 1) (pa_cons (pv 2) pa_nil)))) (pg_tup (by rfl) (pgs_cons (pg_name (i := 5) sc_followed_either.nd rfl (Or.inl rfl)) (pgs_cons (pg_name (i := 6) sc_followed_either.nd rfl (Or.inl rfl)) pgs_nil))))
    (pss_one (ps_ret (pe_tup (pa_cons (pv 5) (pa_cons (pe_lst (StX.pa_star (pv 4) (StX.pa_star (pv 6) pa_nil))) pa_nil)))))))), ?_⟩
    obtain ⟨dx, c1, c2, sp, h1, h3, h4⟩ := hT.two (.inl rfl)
    refine ⟨_, rfl, a, _, dx, _, _, rfl, h1, T.cl _ (C.is_of _), T.no _ (C.is_of _) _ (by decide +kernel), rfl, _, rfl, _, rfl, c1, b, t, W, now, rfl, h3, hW, hN, hF, hd, fun q1 l H1 s1 hq1 hl => ?_⟩
    have ln := ev_len (W := W) (now := now) t
    have ln2 := ev_len (W := W) (now := now) u
    have l12 := hF.2.2
    have l13 := hF2.2.2
    have q : Ans H Q (eithR (ev W now t) (ev W now u)) := q
    generalize ev W now t = r at q hq1 hl ln
    obtain ⟨r1, r2⟩ := r
    have ln : (r2.length : Int) ≤ t.lok := ln
    refine ⟨q1, _, rfl, SqT.of hq1, rfl, _, _, rfl, _, _, rfl, rfl, ?_⟩
    refine ⟨_, rfl, rfl, _, rfl, ?_⟩
    cases r1 with
    | some m =>
      refine ite2 (fun _ => ?_) (fun c => absurd rfl c)
      exact ⟨_, rfl, _, rfl, (by show 2 ≤ sizeLine; decide), fun t2 ht2 => q t2 l _ (s1.trans (sameAt (Same.refl H1) ht2)) upd_same (sameAt (Same.refl H1) ht2 _ _ hl)⟩
    | none =>
      refine ite2 (fun c => absurd (show (!decide (V.non = V.non)) = true from c) (by decide)) (fun _ => ?_)
      refine ⟨_, rfl, a, _, dx, _, _, rfl, s1 _ _ h1, T.cl _ (C.is_of _), T.no _ (C.is_of _) _ (by decide +kernel), rfl, _, rfl, _, rfl, c2, b, u, W, now, rfl, h4.same s1, hW.same s1, hN2, hF2, hd2, fun q2 l2 H2 s2 hq2 hl2 => ?_⟩
      have q : Ans H Q ((ev W now u).1, r2 ++ (ev W now u).2) := q
      generalize ev W now u = r' at q hq2 hl2 ln2
      obtain ⟨x1, x2⟩ := r'
      have ln2 : (x2.length : Int) ≤ u.lok := ln2
      have s12 := s1.trans s2
      refine ⟨q2, _, rfl, SqT.of hq2, rfl, _, _, rfl, _, _, rfl, rfl, ?_⟩
      refine ⟨_, rfl, _, rfl, l, _, rfl, .inr (SqL.of (s2 _ _ hl)), _, rfl, l2, _, rfl, .inr (SqL.of hl2), ?_, fun l3 hl3 => ⟨(by show 2 ≤ sizeLine; decide), fun t2 ht2 => ?_⟩⟩
      · show (r2.map V.int ++ (x2.map V.int ++ [])).length ≤ sizeLine
        rw [List.length_append, List.length_append, List.length_map, List.length_map, sizeLine_eq]
        show r2.length + (x2.length + 0) ≤ _
        omega
      · have s3 := s12.trans (sameAt (Same.refl H2) hl3 (o := .lst (r2.map V.int ++ (x2.map V.int ++ []))))
        have hl4 : upd H2 l3 (.lst (r2.map V.int ++ (x2.map V.int ++ []))) l3 = some (.lst ((r2 ++ x2).map V.int)) := by
          rw [upd_same, List.map_append, List.append_nil]
        exact q t2 l3 _ (s3.trans (sameAt (Same.refl _) ht2)) upd_same (sameAt (Same.refl _) ht2 _ _ hl4)
abbrev s_followed_both : Stmt := topS 63
theorem sc_followed_both : FnScope ["term", "world", "now", "first", "seen", "second", "more"] ["term", "world", "now"] (defScope s_followed_both) := ⟨rfl, rfl, rfl, by decide +kernel, rfl, by decide +kernel, by decide +kernel⟩
theorem ok_fboth {f : Addr} {fd : FuncData} {d : Nat} (F : Fun K "followed_both" "followed_both" s_followed_both f fd) (B : Blt mg) (T : TF K mg C) (D : TD C) (G : A2 P w K mg base C CW d) : FnOk P w K mg base CX0 (2 * d + 5) f fd ["term", "world", "now"] (spBoth C CW d) := by
  obtain ⟨t_cl, t_no, t_ty, t_one, c_Now, c_Last, c_Next, c_Shift, c_Either, c_Later, c_Earlier⟩ := id T
  refine F.ok sc_followed_both (fun vs H Q E h => ?_) (fun cdv A outer s H vs Q E hr h => ?_)
  · obtain ⟨a, b, t, u, x, W, now, rfl, _⟩ := h
    rfl
  · obtain ⟨a, b, t, u, x, W, now, rfl, hT, hx, hW, hN, hN2, hF, hF2, hd, hd2, q⟩ := h
    refine ⟨_, (pss_cons (ps_asg (pe_cal G.followed (hr.mono (by omega)) pass0 (pa_cons (pe_fld (pv 0) rfl) (pa_cons (pv 1) (pa_cons (pv 2) pa_nil)))) (pg_tup (by rfl) (pgs_cons (pg_name (i := 3) sc_followed_both.nd rfl (Or.inl rfl)) (pgs_cons (pg_name (i := 4) sc_followed_both.nd rfl (Or.inl rfl)) pgs_nil))))
    (pss_cons (ps_if (pt_cmpR op_isN (pv 3) pe_non (nomark _))
      (pss_one (ps_ret (pe_tup (pa_cons pe_non (pa_cons (pv 4) pa_nil)))))
      pss_nil)
    (pss_cons (ps_asg (pe_cal G.followed (hr.mono (by omega)) pass0 (pa_cons (pe_fld (pv 0) rfl) (pa_cons (pv 1) (pa_cons (pv 2) pa_nil)))) (pg_tup (by rfl) (pgs_cons (pg_name (i := 5) sc_followed_both.nd rfl (Or.inl rfl)) (pgs_cons (pg_name (i := 6) sc_followed_both.nd rfl (Or.inl rfl)) pgs_nil))))
    (pss_cons (ps_set (i := 4) sc_followed_both.nd rfl (Or.inl rfl) (pe_lst (StX.pa_star (pv 4) (StX.pa_star (pv 6) pa_nil))))
    (pss_cons (ps_if (pt_cmpR op_isN (pv 5) pe_non (nomark _))
      (pss_one (ps_ret (pe_tup (pa_cons pe_non (pa_cons (pv 4) pa_nil)))))
      pss_nil)
    (pss_cons (ps_if (pt_val (pe_callB call_isi (by rfl) B.isinstance (by decide +kernel) (pa_cons (pv 0) (pa_cons (pe_glob (v := .ref C.later) (by rfl) c_Later rfl) pa_nil))))
      (pss_one (ps_ret (pe_tup (pa_cons (pe_callB (call_max2 rfl) (by rfl) B.max (by decide +kernel) (pa_cons (pv 3) (pa_cons (pv 5) pa_nil))) (pa_cons (pv 4) pa_nil)))))
      pss_nil)
    (pss_one (ps_ret (pe_tup (pa_cons (pe_callB (call_min2 rfl) (by rfl) B.min (by decide +kernel) (pa_cons (pv 3) (pa_cons (pv 5) pa_nil))) (pa_cons (pv 4) pa_nil))))))))))), ?_⟩
    obtain ⟨dx, c1, c2, sp, h1, h3, h4⟩ := hT.two (.inr hx)
    refine ⟨_, rfl, a, _, dx, _, _, rfl, h1, T.cl _ (C.is_of _), T.no _ (C.is_of _) _ (by decide +kernel), rfl, _, rfl, _, rfl, c1, b, t, W, now, rfl, h3, hW, hN, hF, hd, fun q1 l H1 s1 hq1 hl => ?_⟩
    have ln := ev_len (W := W) (now := now) t
    have ln2 := ev_len (W := W) (now := now) u
    have l12 := hF.2.2
    have l13 := hF2.2.2
    have q : Ans H Q (bothR (if C.of x = C.later then mxI else mnI) (ev W now t) (ev W now u)) := by
      have h := D.nd
      simp only [List.nodup_cons, List.mem_cons, List.not_mem_nil, or_false, not_or] at h
      rcases hx with rfl | rfl
      · rw [if_pos (show C.of (Tm.later t u) = C.later from rfl)]
        exact q
      · rw [if_neg (show ¬ C.of (Tm.earlier t u) = C.later from fun z => h.2.2.2.2.2.1 z.symm)]
        exact q
    have k := T.one (C.of x) C.later (C.is_of x) (C.is_of (.later t u))
    generalize ev W now t = r at q hq1 hl ln
    obtain ⟨r1, r2⟩ := r
    have ln : (r2.length : Int) ≤ t.lok := ln
    refine ⟨q1, _, rfl, SqT.of hq1, rfl, _, _, rfl, _, _, rfl, rfl, ?_⟩
    refine ⟨_, rfl, rfl, _, rfl, ?_⟩
    cases r1 with
    | none =>
      refine ite2 (fun _ => ?_) (fun c => absurd rfl c)
      exact ⟨_, rfl, (by show 2 ≤ sizeLine; decide), fun t2 ht2 => q t2 l _ (s1.trans (sameAt (Same.refl H1) ht2)) upd_same (sameAt (Same.refl H1) ht2 _ _ hl)⟩
    | some m =>
      refine ite2 (fun c => absurd (of_decide_eq_true c) (fun z => nomatch z)) (fun _ => ?_)
      refine ⟨_, rfl, a, _, dx, _, _, rfl, s1 _ _ h1, T.cl _ (C.is_of _), T.no _ (C.is_of _) _ (by decide +kernel), rfl, _, rfl, _, rfl, c2, b, u, W, now, rfl, h4.same s1, hW.same s1, hN2, hF2, hd2, fun q2 l2 H2 s2 hq2 hl2 => ?_⟩
      generalize ev W now u = r' at q hq2 hl2 ln2
      obtain ⟨x1, x2⟩ := r'
      have ln2 : (x2.length : Int) ≤ u.lok := ln2
      have s12 := s1.trans s2
      refine ⟨q2, _, rfl, SqT.of hq2, rfl, _, _, rfl, _, _, rfl, rfl, ?_⟩
      refine ⟨_, rfl, l, _, rfl, .inr (SqL.of (s2 _ _ hl)), _, rfl, l2, _, rfl, .inr (SqL.of hl2), ?_, fun l3 hl3 => ?_⟩
      · show (r2.map V.int ++ (x2.map V.int ++ [])).length ≤ sizeLine
        rw [List.length_append, List.length_append, List.length_map, List.length_map, sizeLine_eq]
        show r2.length + (x2.length + 0) ≤ _
        omega
      have s3 := s12.trans (sameAt (Same.refl H2) hl3 (o := .lst (r2.map V.int ++ (x2.map V.int ++ []))))
      have hl4 : upd H2 l3 (.lst (r2.map V.int ++ (x2.map V.int ++ []))) l3 = some (.lst ((r2 ++ x2).map V.int)) := by
        rw [upd_same, List.map_append, List.append_nil]
      refine ⟨_, rfl, rfl, _, rfl, ?_⟩
      cases x1 with
      | none =>
        refine ite2 (fun _ => ?_) (fun c => absurd rfl c)
        exact ⟨_, rfl, (by show 2 ≤ sizeLine; decide), fun t2 ht2 => q t2 l3 _ (s3.trans (sameAt (Same.refl _) ht2)) upd_same (sameAt (Same.refl _) ht2 _ _ hl4)⟩
      | some m2 =>
        refine ite2 (fun c => absurd (of_decide_eq_true c) (fun z => nomatch z)) (fun _ => ?_)
        refine ⟨_, rfl, _, _, _, _, _, rfl, .own _, T.tyx (hT.same s3), k, _, rfl, ?_⟩
        refine ite2 (fun cn => ?_) (fun cn => ?_)
        · rw [if_pos (of_decide_eq_true cn)] at q
          exact ⟨_, rfl, _, rfl, _, _, rfl, _, rfl, (by show 2 ≤ sizeLine; decide), fun t2 ht2 => q t2 l3 _ (s3.trans (sameAt (Same.refl _) ht2)) upd_same (sameAt (Same.refl _) ht2 _ _ hl4)⟩
        · rw [if_neg (fun z => cn (decide_eq_true z))] at q
          exact ⟨_, rfl, _, rfl, _, _, rfl, _, rfl, (by show 2 ≤ sizeLine; decide), fun t2 ht2 => q t2 l3 _ (s3.trans (sameAt (Same.refl _) ht2)) upd_same (sameAt (Same.refl _) ht2 _ _ hl4)⟩
structure A3 (P : Program) (w : World) (K : PySem.W.Frag) (mg : Str → Option Value) (base : Heap) (C : TC) (CW : Addr) (d : Nat) : Prop extends A2 P w K mg base C CW d where
  moved : Cal P w K mg base CX0 "moved" (2 * d + 5) ["shift", "world", "now"] (spMoved C CW d)
  looked : Cal P w K mg base CX0 "looked" (2 * d + 5) ["question", "world", "now", "place"] (spLooked C CW d)
  followed_either : Cal P w K mg base CX0 "followed_either" (2 * d + 5) ["term", "world", "now"] (spEith C CW d)
  followed_both : Cal P w K mg base CX0 "followed_both" (2 * d + 5) ["term", "world", "now"] (spBoth C CW d)
abbrev s_followed : Stmt := topS 59
theorem sc_followed : FnScope ["term", "world", "now"] ["term", "world", "now"] (defScope s_followed) := ⟨rfl, rfl, rfl, by decide +kernel, rfl, by decide +kernel, by decide +kernel⟩
theorem ok_followed {f : Addr} {fd : FuncData} {d : Nat} (F : Fun K "followed" "followed" s_followed f fd) (B : Blt mg) (Cs : Cst mg) (T : TF K mg C) (D : TD C) (G : A3 P w K mg base C CW d) : FnOk P w K mg base CX0 (2 * (d + 1) + 4) f fd ["term", "world", "now"] (spFol C CW (d + 1)) := by
  obtain ⟨t_cl, t_no, t_ty, t_one, c_Now, c_Last, c_Next, c_Shift, c_Either, c_Later, c_Earlier⟩ := id T
  obtain ⟨t1, g_MOMENT⟩ := Cs.k_MOMENT
  refine F.ok sc_followed (fun vs H Q E h => ?_) (fun cdv A outer s H vs Q E hr h => ?_)
  · obtain ⟨a, b, t, W, now, rfl, _⟩ := h
    rfl
  · obtain ⟨a, b, t, W, now, rfl, hT, hW, hN, hF, hd, q⟩ := h
    refine ⟨_, (pss_cons (ps_if (pt_val (pe_callB call_isi (by rfl) B.isinstance (by decide +kernel) (pa_cons (pv 0) (pa_cons (pe_glob (v := .ref C.now) (by rfl) c_Now rfl) pa_nil))))
      (pss_one (ps_ret (pe_tup (pa_cons (pv 2) (pa_cons (pe_lst pa_nil) pa_nil)))))
      pss_nil)
    (pss_cons (ps_if (pt_val (pe_cal G.is_look (hr.mono (by omega)) pass0 (pa_cons (pv 0) pa_nil)))
      (pss_one (ps_ret (pe_cal G.looked (hr.mono (by omega)) pass0 (pa_cons (pv 0) (pa_cons (pv 1) (pa_cons (pv 2) (pa_cons (pe_glob (v := .int 0) (by rfl) g_MOMENT ⟨_, rfl⟩) pa_nil)))))))
      pss_nil)
    (pss_cons (ps_if (pt_val (pe_callB call_isi (by rfl) B.isinstance (by decide +kernel) (pa_cons (pv 0) (pa_cons (pe_glob (v := .ref C.shift) (by rfl) c_Shift rfl) pa_nil))))
      (pss_one (ps_ret (pe_cal G.moved (hr.mono (by omega)) pass0 (pa_cons (pv 0) (pa_cons (pv 1) (pa_cons (pv 2) pa_nil))))))
      pss_nil)
    (pss_cons (ps_if (pt_val (pe_callB call_isi (by rfl) B.isinstance (by decide +kernel) (pa_cons (pv 0) (pa_cons (pe_glob (v := .ref C.either) (by rfl) c_Either rfl) pa_nil))))
      (pss_one (ps_ret (pe_cal G.followed_either (hr.mono (by omega)) pass0 (pa_cons (pv 0) (pa_cons (pv 1) (pa_cons (pv 2) pa_nil))))))
      pss_nil)
    (pss_one (ps_ret (pe_cal G.followed_both (hr.mono (by omega)) pass0 (pa_cons (pv 0) (pa_cons (pv 1) (pa_cons (pv 2) pa_nil)))))))))), ?_⟩
    have tx := T.tyx hT
    have k0 := T.one (C.of t) C.now (C.is_of t) (C.is_of .now)
    have k1 := fun n u => T.one (C.of t) C.shift (C.is_of t) (C.is_of (.shift n u))
    have k2 := fun x y => T.one (C.of t) C.either (C.is_of t) (C.is_of (.either x y))
    rw [D.now_ t] at k0
    have k1 := k1 0 .now
    have k2 := k2 .now .now
    rw [D.shift t] at k1
    rw [D.eith t] at k2
    refine ⟨_, rfl, _, _, _, _, _, rfl, .own _, tx, k0, _, rfl, ?_⟩
    cases t with
    | now =>
      exact iteT ⟨_, rfl, (by show 0 ≤ sizeLine; decide), fun l hl => ⟨(by show 2 ≤ sizeLine; decide), fun t2 ht2 => q t2 l _ ((sameAt (Same.refl H) hl).trans (sameAt (Same.refl _) ht2)) upd_same (sameAt (Same.refl _) ht2 _ _ upd_same)⟩⟩
    | last z u =>
      have hd : 1 + u.dep ≤ ((d + 1 : Nat) : Int) := hd
      exact iteF ⟨_, rfl, a, _, rfl, hT, fun H1 s1 => ⟨_, rfl, iteT ⟨_, rfl, _, rfl, _, rfl, a, b, u, .last z u, z, W, now, rfl, hT.same s1, .inl rfl, hW.same s1, hN.1, hN.2, hF.ofL, by omega, q.same s1⟩⟩⟩
    | next z u =>
      have hd : 1 + u.dep ≤ ((d + 1 : Nat) : Int) := hd
      exact iteF ⟨_, rfl, a, _, rfl, hT, fun H1 s1 => ⟨_, rfl, iteT ⟨_, rfl, _, rfl, _, rfl, a, b, u, .next z u, z, W, now, rfl, hT.same s1, .inr rfl, hW.same s1, hN.1, hN.2, hF.ofN, by omega, q.same s1⟩⟩⟩
    | shift n u =>
      have hd : 1 + u.dep ≤ ((d + 1 : Nat) : Int) := hd
      exact iteF ⟨_, rfl, a, _, rfl, hT, fun H1 s1 => ⟨_, rfl, iteF ⟨_, rfl, _, _, _, _, _, rfl, .own _, T.tyx (hT.same s1), k1, _, rfl, iteT ⟨_, rfl, _, rfl, _, rfl, a, b, u, W, now, n, rfl, hT.same s1, hW.same s1, hN, hF.ofS, by omega, q.same s1⟩⟩⟩⟩
    | either x y =>
      have hd : 1 + Tm.mx x.dep y.dep ≤ ((d + 1 : Nat) : Int) := hd
      have := Tm.mx_l x.dep y.dep
      have := Tm.mx_r x.dep y.dep
      exact iteF ⟨_, rfl, a, _, rfl, hT, fun H1 s1 => ⟨_, rfl, iteF ⟨_, rfl, _, _, _, _, _, rfl, .own _, T.tyx (hT.same s1), k1, _, rfl, iteF ⟨_, rfl, _, _, _, _, _, rfl, .own _, T.tyx (hT.same s1), k2, _, rfl, iteT ⟨_, rfl, _, rfl, _, rfl, a, b, x, y, W, now, rfl, hT.same s1, hW.same s1, hN.1, hN.2, hF.ofE.1, hF.ofE.2, by omega, by omega, q.same s1⟩⟩⟩⟩⟩
    | later x y =>
      have hd : 1 + Tm.mx x.dep y.dep ≤ ((d + 1 : Nat) : Int) := hd
      have := Tm.mx_l x.dep y.dep
      have := Tm.mx_r x.dep y.dep
      have hF' : (Tm.either x y).Fit := hF
      exact iteF ⟨_, rfl, a, _, rfl, hT, fun H1 s1 => ⟨_, rfl, iteF ⟨_, rfl, _, _, _, _, _, rfl, .own _, T.tyx (hT.same s1), k1, _, rfl, iteF ⟨_, rfl, _, _, _, _, _, rfl, .own _, T.tyx (hT.same s1), k2, _, rfl, iteF ⟨_, rfl, _, rfl, _, rfl, a, b, x, y, _, W, now, rfl, hT.same s1, .inl rfl, hW.same s1, hN.1, hN.2, hF'.ofE.1, hF'.ofE.2, by omega, by omega, q.same s1⟩⟩⟩⟩⟩
    | earlier x y =>
      have hd : 1 + Tm.mx x.dep y.dep ≤ ((d + 1 : Nat) : Int) := hd
      have := Tm.mx_l x.dep y.dep
      have := Tm.mx_r x.dep y.dep
      have hF' : (Tm.either x y).Fit := hF
      exact iteF ⟨_, rfl, a, _, rfl, hT, fun H1 s1 => ⟨_, rfl, iteF ⟨_, rfl, _, _, _, _, _, rfl, .own _, T.tyx (hT.same s1), k1, _, rfl, iteF ⟨_, rfl, _, _, _, _, _, rfl, .own _, T.tyx (hT.same s1), k2, _, rfl, iteF ⟨_, rfl, _, rfl, _, rfl, a, b, x, y, _, W, now, rfl, hT.same s1, .inr rfl, hW.same s1, hN.1, hN.2, hF'.ofE.1, hF'.ofE.2, by omega, by omega, q.same s1⟩⟩⟩⟩⟩
end
end Ash

set_option Elab.async false
set_option linter.all false
set_option maxRecDepth 100000
set_option maxHeartbeats 4000000
namespace Ash
open PySem PySem.Spec PyProof.Rows L2
/-! ### what the top has written -/
/-- a def of the top -/
structure D1 (K : PySem.W.Frag) (mg : Str → Option Value) (x : Str) (st : Stmt) : Prop where
  ex : ∃ (f : Addr) (fd : FuncData), mg x = some (.ref f) ∧ Fun K x x st f fd
/-- a method -/
structure DM (K : PySem.W.Frag) (C : Addr) (m qual : Str) (st : Stmt) : Prop where
  ex : ∃ (f : Addr) (fd : FuncData), Meth K C m f ∧ Fun K m qual st f fd
/-- a method at a known place -/
structure DQ (K : PySem.W.Frag) (C f : Addr) (m qual : Str) (st : Stmt) : Prop where
  ex : ∃ fd : FuncData, Meth K C m f ∧ Fun K m qual st f fd
/-- an __init__ with one default -/
structure DD (K : PySem.W.Frag) (C a : Addr) (qual : Str) (st : Stmt) : Prop where
  ex : ∃ (f : Addr) (fd : FuncData), Mk K C f ∧ FunD K "__init__" qual (defArgs st) (defBody st) (defScope st) [.ref a] [] f fd
section
variable {K : PySem.W.Frag} {h : Heap} {mg : Str → Option Value} {x qual : Str} {st : Stmt} {f C : Addr} {oc kV dc pm cdv ct : Value} {od an : Option Addr} {sl : Array (Option Value)}
theorem d1 (X : K.In h) (G : h.Ns mainGlobals mg) (a : PySem.W.nsIn K mainGlobals x = some (some (.ref f))) (l : K.lookup f = some ⟨oc, od, .func (PySem.W.fnOf x x (defArgs st) (defBody st) (defScope st) .none kV dc pm an cdv ct), sl⟩) (c : PySem.W.codeIn K cdv x = true) (k : PySem.W.keepIn K (.ref f) = true) : D1 K mg x st :=
  ⟨f, _, PySem.W.mg_of X G a, fun_mk l c k⟩
theorem dm (a : PySem.W.findIn K (.ref C) x = some (some (.ref f))) (i : PySem.W.isFn K (.ref f) = true) (l : K.lookup f = some ⟨oc, od, .func (PySem.W.fnOf x qual (defArgs st) (defBody st) (defScope st) .none kV dc pm an cdv ct), sl⟩) (c : PySem.W.codeIn K cdv qual = true) (k : PySem.W.keepIn K (.ref f) = true) : DM K C x qual st :=
  ⟨f, _, ⟨a, i, k⟩, fun_mk l c k⟩
theorem dq (a : PySem.W.findIn K (.ref C) x = some (some (.ref f))) (i : PySem.W.isFn K (.ref f) = true) (l : K.lookup f = some ⟨oc, od, .func (PySem.W.fnOf x qual (defArgs st) (defBody st) (defScope st) .none kV dc pm an cdv ct), sl⟩) (c : PySem.W.codeIn K cdv qual = true) (k : PySem.W.keepIn K (.ref f) = true) : DQ K C f x qual st :=
  ⟨_, ⟨a, i, k⟩, fun_mk l c k⟩
theorem dd {a T : Addr} {oT : Value} {dT : Option Addr} {slT : Array (Option Value)} {n : Nat} (m1 : PySem.W.makesIn K C = true) (m2 : PySem.W.findIn K (.ref C) "__init__" = some (some (.ref f))) (m3 : PySem.W.isFn K (.ref f) = true) (m4 : PySem.W.keepIn K (.ref C) = true)
    (l : K.lookup f = some ⟨oc, od, .func (PySem.W.fnOf "__init__" qual (defArgs st) (defBody st) (defScope st) (.ref T) kV dc pm an cdv ct), sl⟩) (lT : K.lookup T = some ⟨oT, dT, .seq #[.ref a] n, slT⟩) (c : PySem.W.codeIn K cdv qual = true) (k : PySem.W.keepIn K (.ref f) = true) : DD K C a qual st :=
  ⟨f, _, ⟨m1, m2, m3, m4⟩, ⟨⟨oc, od, .ref T, kV, dc, pm, an, cdv, ct, sl, rfl, l, c, .inr ⟨by simp, T, _, [.ref a], n, rfl, lT, rfl, .cons rfl .nil⟩, .inl rfl⟩, k⟩⟩
theorem sq_of {a : Addr} {d : Option Addr} {n : Nat} (l : K.lookup a = some ⟨.type "tuple", d, .seq #[] n, sl⟩) (H : Hp) : SqT K H a [] := .inr ⟨_, #[], n, l, rfl, rfl, Nat.zero_le _, .nil⟩
theorem tt_mk {a : Addr} {d : Option Addr} {n : Nat} (l : K.lookup a = some ⟨.type "tuple", d, .seq #[] n, sl⟩) : ∃ (o : Obj) (n : Nat), K.lookup a = some o ∧ o.cls = .type "tuple" ∧ o.data = .seq #[] n := ⟨_, n, l, rfl, rfl⟩
end
section
variable {P : Program} {w : World} {K : PySem.W.Frag} {mg : Str → Option Value} {base : Heap} {CX : CXT} {x : Str} {st : Stmt} {ps : List Str} {k : Nat} {sp : Sp}
theorem cal_of (D : D1 K mg x st) (hb : ∀ (kV doc pm : Value) (an : Option Addr) (cdv ct : Value) (us : List Value), us.length = ps.length → bindArgs (PySem.W.fnOf x x (defArgs st) (defBody st) (defScope st) .none kV doc pm an cdv ct) ⟨us, []⟩ = pure (ps.zip us))
    (ok : ∀ f fd, Fun K x x st f fd → FnOk P w K mg base CX k f fd ps sp) : Cal P w K mg base CX x k ps sp := by
  obtain ⟨f, fd, hm, F⟩ := D.ex
  exact ⟨f, fd, hm, F.kp, F.binds hb, ok f fd F⟩
end
/-- a class is what its instances are -/
structure BkI (K : PySem.W.Frag) (CB : Addr) : Prop where
  ha : PySem.W.findIn K (.ref CB) "__class__" = some (some (.builtin "object.__class__"))
  hn : PySem.W.specialIn K (.builtin "object.__class__") "__get__" = some (some (.builtin "getset_descriptor.__get__"))
  ht : PySem.W.takesIn K (.builtin "object.__class__") = some true
  hm : PySem.W.mroIn K CB (.type "object") = some true
theorem ne_mk {K : PySem.W.Frag} {C f N : Addr} {nm q : Str} {bs : List Value} {hd ab : Bool} {sn : List Str} {sub : List Value} {col : Option Bool} {dd : Option Addr} {k0 k1 k2 k3 k5 : Option Value} {nid : String} {fo : Obj} (h1 : K.lookup C = some (excClassObj nm q C N bs [.type "object"] hd sn sub ab col dd k0 k1 k2 k3 k5 nid)) {oN : Value} {dN : Option Addr} {es : Array DictEntry} {nn : Nat} {slN : Array (Option Value)} (h2 : K.lookup N = some ⟨oN, dN, .dict es nn, slN⟩) (h7 : (es.toList.all fun e => match e.key with | .str _ _ => true | _ => false) = true) (h3 : PySem.W.nsIn K N "__eq__" = some (some (.ref f))) (h4 : PySem.W.nsIn K N "__ne__" = some none) (h5 : K.lookup f = some fo) (h6 : fo.cls = .type "function") : NeC K C f :=
  ⟨⟨nm, q, N, bs, hd, sn, sub, ab, col, dd, k0, k1, k2, k3, k5, nid, fo, h1, by unfold PySem.W.nsOkIn; rw [h2]; exact (Array.all_toList ..).symm.trans h7, h3, h4, h5, h6⟩⟩
theorem kit_ref {K : PySem.W.Frag} {C : Addr} {T : String} {b : Bool} (hm : PySem.W.kitMeta T = true) (h : PySem.W.subIn K (.ref C) (.type T) = some b) : PySem.W.kitOne K (.ref C) (.type T) = some b := by
  have e : (Value.ref C == Value.type T) = false := rfl
  unfold PySem.W.kitOne PySem.W.kitCls
  rw [e, if_neg Bool.false_ne_true]
  show (if PySem.W.kitMeta T = true then _ else _) = _
  rw [if_pos hm]
  exact h
theorem exm_me {K : PySem.W.Frag} {C : Addr} (h1 : PySem.W.subIn K (.ref C) (.type "BaseException") = some true) (h2 : PySem.W.isClsIn K C = true) (h3 : PySem.W.typeIn K (.ref C) = some (.type "type")) (h4 : PySem.W.subIn K (.ref C) (.ref C) = some true) : PySem.W.exmOne K (.ref C) (.ref C) = some true := by
  have h2' : (PySem.W.clsIn K C).isSome = true := h2
  simp [PySem.W.exmOne, PySem.W.kitCls, h1, h2', h3, h4]
theorem exm_no {K : PySem.W.Frag} {C D : Addr} (h1 : PySem.W.subIn K (.ref D) (.type "BaseException") = some true) (h2 : PySem.W.isClsIn K D = true) (h3 : PySem.W.typeIn K (.ref D) = some (.type "type")) (h4 : PySem.W.subIn K (.ref C) (.ref D) = some false) : PySem.W.exmOne K (.ref C) (.ref D) = some false := by
  have h2' : (PySem.W.clsIn K D).isSome = true := h2
  simp [PySem.W.exmOne, PySem.W.kitCls, h1, h2', h3, h4]
open PySem.W PySem.Calls PySem.HandSPX in
/-- the facts of an own error's class -/
theorem txt_mk {P : Program} {K : PySem.W.Frag} {h : Heap} {mg : Str → Option Value} {par fl : Str} {C fI N cda cc : Addr} {nm q qual tx file : Str} {bs bm sub : List Value} {sn : List Str} {ab : Bool} {col : Option Bool} {dd : Option Addr} {m0 m1 m2 m3 m5 : Option Value}
    {oc doc pm ct ccl cl : Value} {od an cdd cld : Option Addr} {osl ccs csl : Array (Option Value)} {vs : Array Value} {pa : Arguments} {p0 p1 p2 p3 p4 p5 p6 p7 p8 p9 : Pos} {j : Nat} {a0 : Arg} {tf : Nat} (X : K.In h) (G : h.Ns mainGlobals mg)
    (cls : K.lookup C = some (excClassObj nm q C N bs bm true sn sub ab col dd m0 m1 m2 m3 m5 "ValueError.__new__")) (ref : PySem.HandSPX.refsVE bm = true)
    (sa : PySem.W.findIn K (.ref C) "__setattr__" = some (some (.builtin "object.__setattr__"))) (ga : PySem.W.findIn K (.ref C) "__getattribute__" = some (some (.builtin "BaseException.__getattribute__"))) (gg : PySem.W.findIn K (.ref C) "__getattr__" = some none) (noN : PySem.W.findIn K (.ref C) fl = some none)
    (iC : PySem.W.findIn K (.ref C) "__init__" = some (some (.ref fI))) (tC : PySem.W.typeIn K (.ref fI) = some (.type "function")) (kC : PySem.W.keepIn K (.ref C) = true) (exC : PySem.W.subIn K (.ref C) (.type "BaseException") = some true) (veC : PySem.W.subIn K (.ref C) (.type "ValueError") = some true)
    (slf : PySem.W.mroIn K C (.ref C) = some true) (tyC : PySem.W.typeIn K (.ref C) = some (.type "type")) (hdC : PySem.W.hasDictIn K C = true) (isC : PySem.W.isClsIn K C = true) (sC : PySem.W.subIn K (.ref C) (.ref C) = some true)
    (along : PySem.W.ks_superIn K C C "__init__" = some (some (.builtin "ValueError.__init__"))) (opq : PySem.W.nsIn K cStatics "thirdparty.any" = some none) (sup : PySem.W.nsIn K mainGlobals "super" = some none) (top : (P.main.scope.names.lookup ("super" : Str)).isSome = false)
    (lf : K.lookup fI = some ⟨oc, od, .func (PySem.W.ksFn "__init__" qual pa (PySem.BadX.shape tx par fl p0 p1 p2 p3 p4 p5 p6 p7 p8 p9 j) (PySem.BadX.sco par) .none .none doc pm an (.ref cda) ct cc), osl⟩) (cd : PySem.W.codeIn K (.ref cda) qual = true) (ha0 : (pa.posonlyargs ++ pa.args).head? = some a0) (ha1 : a0.arg = "self")
    (bd : ∀ (s : Shared) (u v : Value), BindsTo s (PySem.W.ksFn "__init__" qual pa (PySem.BadX.shape tx par fl p0 p1 p2 p3 p4 p5 p6 p7 p8 p9 j) (PySem.BadX.sco par) .none .none doc pm an (.ref cda) ct cc) ⟨[u, v], []⟩ [("self", u), (par, v)])
    (lc : K.lookup cda = some ⟨ccl, cdd, .fields vs, ccs⟩) (hvs : vs[2]? = some (.str file tf)) (hfile : ((P.main.file : Str) == file) = true) (hpe : (p2.endLine == p4.line) = true) (lcc : K.lookup cc = some ⟨cl, cld, .cell (some (.ref C)), csl⟩) : PySem.BadX.Txt P K mg par fl C fI :=
  { cls := ⟨nm, q, N, bs, bm, sn, sub, ab, col, dd, m0, m1, m2, m3, m5, cls, ref⟩, sa := sa, ga := ga, gg := gg, noN := noN, iC := iC, tC := tC, kC := kC, exC := exC, veC := veC, slf := slf, tyC := tyC, hdC := hdC, te := exm_me exC isC tyC sC, along := along, opq := opq, sup := PySem.W.mg_none_of X G sup, top := top,
    fn := ⟨oc, od, qual, tx, doc, pm, an, cda, cc, ct, osl, pa, p0, p1, p2, p3, p4, p5, p6, p7, p8, p9, j, a0, lf, cd, ha0, ha1, bd, ⟨ccl, cdd, vs, ccs, file, tf, lc, hvs, hfile⟩, hpe, ⟨cl, cld, csl, lcc⟩⟩ }
theorem ex_int {K : PySem.W.Frag} {h : Heap} {mg : Str → Option Value} {x : Str} {n : Int} {t : Tok} (X : K.In h) (G : h.Ns mainGlobals mg) (a : PySem.W.nsIn K mainGlobals x = some (some (.int n t))) : ∃ t, mg x = some (.int n t) := ⟨_, PySem.W.mg_of X G a⟩
theorem ex_str {K : PySem.W.Frag} {h : Heap} {mg : Str → Option Value} {x z : Str} {t : Tok} (X : K.In h) (G : h.Ns mainGlobals mg) (a : PySem.W.nsIn K mainGlobals x = some (some (.str z t))) : ∃ t, mg x = some (.str z t) := ⟨_, PySem.W.mg_of X G a⟩
end Ash

set_option Elab.async false
set_option linter.all false
set_option maxRecDepth 100000
set_option maxHeartbeats 4000000
namespace Ash
open PySem PySem.Spec PyProof.Rows L2 SrtT
open C8 (pss_cut)
section
variable {P : Program} {w : World} {K : PySem.W.Frag} {mg : Str → Option Value} {base : Heap} {C : TC} {CW : Addr}
theorem ok_fol0 {f : Addr} {fd : FuncData} (F : Fun K "followed" "followed" s_followed f fd) : FnOk P w K mg base CX0 (2 * 0 + 4) f fd ["term", "world", "now"] (spFol C CW 0) := by
  refine F.ok sc_followed (fun vs H Q E h => ?_) (fun cdv A outer s H vs Q E hr h => ?_)
  · obtain ⟨a, b, t, W, now, rfl, _⟩ := h
    rfl
  · obtain ⟨a, b, t, W, now, rfl, _, _, _, _, hd, _⟩ := h
    have := t.dep_pos
    have hd : t.dep ≤ 0 := hd
    omega
theorem fol_all (B : Blt mg) (Cs : Cst mg) (T : TF K mg C) (D : TD C) (G : A1 P w K mg base C CW) (d1 : D1 K mg "moved" s_moved) (d2 : D1 K mg "looked" s_looked) (d3 : D1 K mg "followed_either" s_followed_either) (d4 : D1 K mg "followed_both" s_followed_both) (d5 : D1 K mg "followed" s_followed) : ∀ d, A2 P w K mg base C CW d
  | 0 => { G with followed := cal_of d5 (fun _ _ _ _ _ _ us hl => match us, hl with | [_, _, _], _ => rfl) fun f fd F => ok_fol0 F }
  | d + 1 => by
    have g := fol_all B Cs T D G d1 d2 d3 d4 d5 d
    have c1 := cal_of (P := P) (w := w) (base := base) (ps := ["shift", "world", "now"]) d1 (fun _ _ _ _ _ _ us hl => match us, hl with | [_, _, _], _ => rfl) fun f fd F => ok_moved F B T g
    have c2 := cal_of (P := P) (w := w) (base := base) (ps := ["question", "world", "now", "place"]) d2 (fun _ _ _ _ _ _ us hl => match us, hl with | [_, _, _, _], _ => rfl) fun f fd F => ok_looked F B T D g
    have c3 := cal_of (P := P) (w := w) (base := base) (ps := ["term", "world", "now"]) d3 (fun _ _ _ _ _ _ us hl => match us, hl with | [_, _, _], _ => rfl) fun f fd F => ok_feither F B T g
    have c4 := cal_of (P := P) (w := w) (base := base) (ps := ["term", "world", "now"]) d4 (fun _ _ _ _ _ _ us hl => match us, hl with | [_, _, _], _ => rfl) fun f fd F => ok_fboth F B T D g
    have g3 : A3 P w K mg base C CW d := { g with moved := c1, looked := c2, followed_either := c3, followed_both := c4 }
    exact { G with followed := cal_of d5 (fun _ _ _ _ _ _ us hl => match us, hl with | [_, _, _], _ => rfl) fun f fd F => ok_followed F B Cs T D g3 }
abbrev s_Term_add : Stmt := inClass (topS 21) 1
theorem sc_Term_add : FnScope ["self", "other"] ["self", "other"] (defScope s_Term_add) := ⟨rfl, rfl, rfl, by decide +kernel, rfl, by decide +kernel, by decide +kernel⟩
structure V3 (P : Program) (w : World) (K : PySem.W.Frag) (mg : Str → Option Value) (base : Heap) (C : TC) (CW : Addr) : Prop extends A2 P w K mg base C CW 12 where
  shifted : Cal P w K mg base CX0 "shifted" 4 ["term", "amount"] (spShifted C)
theorem ok_tadd {f : Addr} {fd : FuncData} (F : Fun K "__add__" "Term.__add__" s_Term_add f fd) (B : Blt mg) (G : V3 P w K mg base C CW) : FnOk P w K mg base CX0 5 f fd ["self", "other"] (spShifted C) := by
  refine F.ok sc_Term_add (fun vs H Q E h => ?_) (fun cdv A outer s H vs Q E hr h => ?_)
  · obtain ⟨a, t, n, rfl, _⟩ := h
    rfl
  · obtain ⟨a, t, n, rfl, hT, hF, q⟩ := h
    refine ⟨_, (pss_cons (ps_if (pt_not (pt_val (pe_cal G.is_integer (hr.mono (by decide)) pass0 (pa_cons (pv 1) pa_nil))))
      (pss_one ps_never)
      pss_nil)
    (pss_one (ps_ret (pe_cal G.shifted (hr.mono (by decide)) pass0 (pa_cons (pv 0) (pa_cons (pv 1) pa_nil)))))), ?_⟩
    exact ⟨_, rfl, _, rfl, .inl ⟨n, rfl, _, rfl, iteF ⟨_, rfl, _, rfl, a, t, n, rfl, hT, hF, q⟩⟩⟩
abbrev s_l_same : Stmt := topS 81
theorem sc_l_same : FnScope ["told", "due"] ["told", "due"] (defScope s_l_same) := ⟨rfl, rfl, rfl, by decide +kernel, rfl, by decide +kernel, by decide +kernel⟩
def spSame : Sp := fun vs H Q _ => ∃ o o' : Option Int, vs = [oV o, oV o'] ∧ Q (.bl (decide (o = o'))) H
theorem ok_same {f : Addr} {fd : FuncData} (F : Fun K "_law_same" "_law_same" s_l_same f fd) (B : Blt mg) : FnOk P w K mg base CX0 1 f fd ["told", "due"] spSame := by
  refine F.ok sc_l_same (fun vs H Q E h => ?_) (fun cdv A outer s H vs Q E hr h => ?_)
  · obtain ⟨o, o', rfl, _⟩ := h
    rfl
  · obtain ⟨o, o', rfl, q⟩ := h
    refine ⟨_, (pss_cons (ps_if (pt_cmpR op_isN (pv 1) pe_non (nomark _))
      (pss_one (ps_ret (pe_cmpR op_isN (pv 0) pe_non (nomark _))))
      pss_nil)
    (pss_one (ps_ret (pe_and (pe_callB call_isi (by rfl) B.isinstance (by decide +kernel) (pa_cons (pv 0) (pa_cons (pe_bltn (v := .ty "int") (by rfl) B.int (by decide +kernel) rfl) pa_nil))) (pe_and (pe_not (pe_callB call_isi (by rfl) B.isinstance (by decide +kernel) (pa_cons (pv 0) (pa_cons (pe_bltn (v := .ty "bool") (by rfl) B.bool (by decide +kernel) rfl) pa_nil)))) (pe_one (pe_cmpR op_eq (pv 0) (pv 1) (nomark _)))))))), ?_⟩
    refine ⟨_, rfl, rfl, _, rfl, ?_⟩
    cases o' with
    | none =>
      refine ite2 (fun _ => ?_) (fun c => absurd rfl c)
      refine ⟨_, rfl, rfl, ?_⟩
      have e : decide (oV o = V.non) = decide (o = none) := by
        rw [oV_none]
        cases o <;> rfl
      rw [e]
      exact q
    | some i =>
      refine ite2 (fun c => absurd (of_decide_eq_true c) (fun z => nomatch z)) (fun _ => ?_)
      cases o with
      | none =>
        refine ⟨_, rfl, _, _, _, _, false, rfl, ClsV.ty _, .base .non, kit_ty (by decide +kernel), _, rfl, iteF ?_⟩
        rw [show decide ((none : Option Int) = some i) = false from decide_eq_false fun z => nomatch z] at q
        exact q
      | some j =>
        refine ⟨_, rfl, _, _, _, _, true, rfl, ClsV.ty _, .base (.int j), kit_ty (by decide +kernel), _, rfl, iteT ?_⟩
        refine ⟨_, rfl, _, _, _, _, false, rfl, ClsV.ty _, .base (.int j), kit_ty (by decide +kernel), _, rfl, _, rfl, iteT ?_⟩
        refine ⟨_, rfl, _, rfl, rfl, ?_⟩
        rw [show decide (oV (some j) = oV (some i)) = decide (some j = some i) by
          by_cases z : j = i
          · subst z; simp
          · rw [decide_eq_false (fun e : oV (some j) = oV (some i) => z (V.int.inj e)), decide_eq_false (fun e : some j = some i => z (Option.some.inj e))]]
        exact q
end
end Ash

set_option Elab.async false
set_option linter.all false
set_option maxRecDepth 100000
set_option maxHeartbeats 4000000
namespace Ash
open PySem PySem.Spec PyProof.Rows L2 SrtT
open C8 (pss_cut)
/-! ### amounts -/
inductive Am where
  | number (s : Str) (t : Tm)
  | count (s : Str) (t u : Tm)
  | total (s : Str) (t u : Tm)
  | gap (t u : Tm)
structure AC where
  number : Addr
  count : Addr
  total : Addr
  gap : Addr
def AC.of (A : AC) : Am → Addr
  | .number _ _ => A.number
  | .count _ _ _ => A.count
  | .total _ _ _ => A.total
  | .gap _ _ => A.gap
def AC.Is (A : AC) (a : Addr) : Prop := a = A.number ∨ a = A.count ∨ a = A.total ∨ a = A.gap
theorem AC.is_of (A : AC) (q : Am) : A.Is (A.of q) := by
  cases q
  · exact .inl rfl
  · exact .inr (.inl rfl)
  · exact .inr (.inr (.inl rfl))
  · exact .inr (.inr (.inr rfl))
def Am.spell : Am → List V
  | .number s t => .str "number" :: .str s :: t.spell
  | .count s t u => .str "count" :: .str s :: (t.spell ++ u.spell)
  | .total s t u => .str "total" :: .str s :: (t.spell ++ u.spell)
  | .gap t u => .str "gap" :: (t.spell ++ u.spell)
/-- the amount question q at a -/
def AmAt (A : AC) (C : TC) (H : Hp) (a : Addr) : Am → Prop
  | .number s t => ∃ dx b sp, H a = some (.ins A.number dx [("stream", .str s), ("term", .ref b), ("spelling", .ref sp)]) ∧ H sp = some (.tup (Am.spell (.number s t))) ∧ TmAt C H b t
  | .count s t u => ∃ dx b c sp, H a = some (.ins A.count dx [("stream", .str s), ("first", .ref b), ("last", .ref c), ("spelling", .ref sp)]) ∧ H sp = some (.tup (Am.spell (.count s t u))) ∧ TmAt C H b t ∧ TmAt C H c u
  | .total s t u => ∃ dx b c sp, H a = some (.ins A.total dx [("stream", .str s), ("first", .ref b), ("last", .ref c), ("spelling", .ref sp)]) ∧ H sp = some (.tup (Am.spell (.total s t u))) ∧ TmAt C H b t ∧ TmAt C H c u
  | .gap t u => ∃ dx b c sp, H a = some (.ins A.gap dx [("first", .ref b), ("last", .ref c), ("spelling", .ref sp)]) ∧ H sp = some (.tup (Am.spell (.gap t u))) ∧ TmAt C H b t ∧ TmAt C H c u
theorem AmAt.nl {A : AC} {C : TC} {H H' : Hp} (n : NL H H') {a : Addr} : ∀ {q : Am}, AmAt A C H a q → AmAt A C H' a q
  | .number _ _, ⟨dx, b, sp, h1, h2, h3⟩ => ⟨dx, b, sp, n _ _ h1 (fun _ z => nomatch z), n _ _ h2 (fun _ z => nomatch z), h3.nl n⟩
  | .count _ _ _, ⟨dx, b, c, sp, h1, h2, h3, h4⟩ => ⟨dx, b, c, sp, n _ _ h1 (fun _ z => nomatch z), n _ _ h2 (fun _ z => nomatch z), h3.nl n, h4.nl n⟩
  | .total _ _ _, ⟨dx, b, c, sp, h1, h2, h3, h4⟩ => ⟨dx, b, c, sp, n _ _ h1 (fun _ z => nomatch z), n _ _ h2 (fun _ z => nomatch z), h3.nl n, h4.nl n⟩
  | .gap _ _, ⟨dx, b, c, sp, h1, h2, h3, h4⟩ => ⟨dx, b, c, sp, n _ _ h1 (fun _ z => nomatch z), n _ _ h2 (fun _ z => nomatch z), h3.nl n, h4.nl n⟩
theorem AmAt.same {A : AC} {C : TC} {H H' : Hp} {a : Addr} {q : Am} (h : AmAt A C H a q) (s : Same H H') : AmAt A C H' a q := h.nl (nl_same s)
abbrev AATTRS : List Str := ["stream", "term", "first", "last", "spelling"]
/-- the facts of the classes of amounts -/
structure AF (K : PySem.W.Frag) (mg : Str → Option Value) (A : AC) (C : TC) : Prop where
  cl : ∀ a, A.Is a → Cls K a
  no : ∀ a, A.Is a → ∀ f ∈ AATTRS, NoAttr K a f
  ty : ∀ a, A.Is a → PySem.W.findIn K (.ref a) "__class__" = some (some (.builtin "object.__class__")) ∧ PySem.W.specialIn K (.builtin "object.__class__") "__get__" = some (some (.builtin "getset_descriptor.__get__")) ∧ PySem.W.takesIn K (.builtin "object.__class__") = some true ∧ PySem.W.mroIn K a (.type "object") = some true
  one : ∀ a b, A.Is a → A.Is b → PySem.W.kitOne K (.ref a) (.ref b) = some (decide (a = b))
  noT : ∀ a b, A.Is a → C.Is b → PySem.W.kitOne K (.ref a) (.ref b) = some false
  Number : mg "Number" = some (.ref A.number)
  Count : mg "Count" = some (.ref A.count)
  Total : mg "Total" = some (.ref A.total)
  Gap : mg "Gap" = some (.ref A.gap)
  nd : [A.number, A.count, A.total, A.gap].Nodup
theorem AmAt.ins {A : AC} {C : TC} {H : Hp} {a : Addr} : ∀ {q : Am}, AmAt A C H a q → ∃ dx fs, H a = some (.ins (A.of q) dx fs)
  | .number _ _, ⟨dx, b, sp, h1, _⟩ => ⟨dx, _, h1⟩
  | .count _ _ _, ⟨dx, b, c, sp, h1, _⟩ => ⟨dx, _, h1⟩
  | .total _ _ _, ⟨dx, b, c, sp, h1, _⟩ => ⟨dx, _, h1⟩
  | .gap _ _, ⟨dx, b, c, sp, h1, _⟩ => ⟨dx, _, h1⟩
theorem AF.tyx {K : PySem.W.Frag} {mg : Str → Option Value} {A : AC} {C : TC} (T : AF K mg A C) {H : Hp} {a : Addr} {q : Am} (h : AmAt A C H a q) : TyX K H (.ref a) (.ref (A.of q)) := by
  obtain ⟨dx, fs, i⟩ := h.ins
  obtain ⟨h1, h2, h3, h4⟩ := T.ty _ (A.is_of q)
  exact .base (.ins i (T.cl _ (A.is_of q)) h1 h2 h3 h4)
/-- an amount question is no term -/
theorem AF.noTm {K : PySem.W.Frag} {mg : Str → Option Value} {A : AC} {C : TC} (T : AF K mg A C) {H : Hp} {a : Addr} {q : Am} (h : AmAt A C H a q) : NotTm K C H (.ref a) := ⟨_, T.tyx h, fun b hb => T.noT _ _ (A.is_of q) hb⟩
/-! ### what an amount question answers -/
def lookA (r : Rs) (f : Int → Option T3) : Rs := match r.1 with
  | none => (none, r.2)
  | some m => match f m with
    | none => (none, r.2)
    | some t => (some t.2.2, r.2 ++ [t.2.1])
def betweenR (rs : List T3) (lo hi : Int) : List T3 := rs.filter fun t => decide (lo < t.1 ∧ t.1 ≤ hi)
def tellR (r s : Rs) (g : Int → Int → Rs) : Rs := match r.1 with
  | none => (none, r.2)
  | some m => match s.1 with
    | none => (none, r.2 ++ s.2)
    | some k => ((g m k).1, r.2 ++ s.2 ++ (g m k).2)
def evA (W : Tr) (now : Int) : Am → Rs
  | .number s t => lookA (ev W now t) (lastR (W s))
  | .count s t u => tellR (ev W now t) (ev W now u) fun m k => (some ((betweenR (W s) m k).length : Int), (betweenR (W s) m k).map (·.2.1))
  | .total s t u => tellR (ev W now t) (ev W now u) fun m k => (some ((betweenR (W s) m k).map (·.2.2)).sum, (betweenR (W s) m k).map (·.2.1))
  | .gap t u => tellR (ev W now t) (ev W now u) fun m k => (some (k - m), [])
def Am.NmS : Am → Prop
  | .number s t => IsNm s ∧ t.NmS
  | .count s t u => IsNm s ∧ t.NmS ∧ u.NmS
  | .total s t u => IsNm s ∧ t.NmS ∧ u.NmS
  | .gap t u => t.NmS ∧ u.NmS
def Am.Fit : Am → Prop
  | .number _ t => t.Fit
  | .count _ t u => t.Fit ∧ u.Fit
  | .total _ t u => t.Fit ∧ u.Fit
  | .gap t u => t.Fit ∧ u.Fit
def spInitN (A : AC) (C : TC) : Sp := fun vs H Q _ => ∃ (b dx a : Addr) (z : Str) (t : Tm), vs = [.ref b, .str z, .ref a] ∧ H b = some (.ins A.number dx []) ∧ IsNm z ∧ TmAt C H a t ∧ t.Fit ∧ ∀ H', AmAt A C H' b (.number z t) → Keep b H H' → Q .non H'
def spInitC (A : AC) (C : TC) (D : Addr) (mk : Str → Tm → Tm → Am) : Sp := fun vs H Q _ => ∃ (b dx a c : Addr) (z : Str) (t u : Tm), vs = [.ref b, .str z, .ref a, .ref c] ∧ H b = some (.ins D dx []) ∧ IsNm z ∧ TmAt C H a t ∧ TmAt C H c u ∧ t.Fit ∧ u.Fit ∧ ∀ H', AmAt A C H' b (mk z t u) → Keep b H H' → Q .non H'
def spInitG (A : AC) (C : TC) : Sp := fun vs H Q _ => ∃ (b dx a c : Addr) (t u : Tm), vs = [.ref b, .ref a, .ref c] ∧ H b = some (.ins A.gap dx []) ∧ TmAt C H a t ∧ TmAt C H c u ∧ t.Fit ∧ u.Fit ∧ ∀ H', AmAt A C H' b (.gap t u) → Keep b H H' → Q .non H'
def spIsAmount (A : AC) (C : TC) : Sp := fun vs H Q _ => ∃ a q, vs = [.ref a] ∧ AmAt A C H a q ∧ ∀ H', Same H H' → Q (.bl true) H'
section
variable {P : Program} {w : World} {K : PySem.W.Frag} {mg : Str → Option Value} {base : Heap} {C : TC} {CW : Addr} {A0 : AC}
theorem len3 {a b : V} {f g h : Str} {x y z : V} : putF h z (putF g y (putF f x [])) = [(f, x), (g, y), (h, z)] ∨ True := .inr trivial
abbrev s_Number_init : Stmt := inClass (topS 39) 0
theorem sc_Number_init : FnScope ["self", "stream", "term"] ["self", "stream", "term"] (defScope s_Number_init) := ⟨rfl, rfl, rfl, by decide +kernel, rfl, by decide +kernel, by decide +kernel⟩
theorem ok_number {f : Addr} {fd : FuncData} (F : Fun K "__init__" "Number.__init__" s_Number_init f fd) (B : Blt mg) (T : TF K mg C) (AT : AF K mg A0 C) (G : T2 P w K mg base C) : FnOk P w K mg base CX0 3 f fd ["self", "stream", "term"] (spInitN A0 C) := by
  refine F.ok sc_Number_init (fun vs H Q E h => ?_) (fun cdv A outer s H vs Q E hr h => ?_)
  · obtain ⟨b, dx, a, z, t, rfl, _⟩ := h
    rfl
  · obtain ⟨b, dx, a, z, t, rfl, hb, hz, hT, hF, q⟩ := h
    refine ⟨_, (pss_cons (ps_fld (pv 0) (pe_cal G.checked_stream (hr.mono (by decide)) pass0 (pa_cons (pv 1) pa_nil)) rfl)
    (pss_cons (ps_fld (pv 0) (pe_cal G.checked_term (hr.mono (by decide)) pass0 (pa_cons (pv 2) pa_nil)) rfl)
    (pss_one (ps_fld (pv 0) (pe_tup (pa_cons pe_str (pa_cons (pv 1) (StX.pa_star (pe_fld (pv 2) rfl) pa_nil)))) rfl)))), ?_⟩
    obtain ⟨D, hD⟩ : ∃ D, D = A0.number := ⟨_, rfl⟩
    have Is : A0.Is D := .inl hD
    rw [← hD] at hb
    refine ⟨_, rfl, z, rfl, hz, fun H1 s1 => ⟨_, rfl, b, D, dx, [], rfl, s1 _ _ hb, AT.cl _ Is, AT.no _ Is _ (by decide +kernel), (by show 0 < 1000; decide), ?_⟩⟩
    have K1 : Keep b H (upd H1 b (.ins D dx (putF "stream" (.str z) []))) := (Keep.refl.same s1).upd
    refine ⟨_, rfl, a, t, rfl, hT.off hb K1, fun H2 s2 => ⟨_, rfl, b, D, dx, _, rfl, s2 _ _ upd_same, AT.cl _ Is, AT.no _ Is _ (by decide +kernel), (by show 1 < 1000; decide), ?_⟩⟩
    have K2 : Keep b H (upd H2 b (.ins D dx (putF "term" (.ref a) (putF "stream" (.str z) [])))) := (K1.same s2).upd
    obtain ⟨dx1, fs1, sp1, In⟩ := (hT.off hb K2).in_
    have sl := Tm.spell_len t
    have hF2 : t.par ≤ 40 := hF.2.1
    refine ⟨_, rfl, _, rfl, _, _, dx1, fs1, _, rfl, In.at_, T.cl _ (C.is_of _), T.no _ (C.is_of _) _ (by decide +kernel), In.spelling, sp1, _, rfl, .inl (SqT.of In.spl), ?_, fun sp hsp => ⟨_, rfl, b, D, dx, _, rfl, sameAt (Same.refl _) hsp _ _ upd_same, AT.cl _ Is, AT.no _ Is _ (by decide +kernel), (by show 2 < 1000; decide), ?_⟩⟩
    · show (t.spell ++ []).length + 1 + 1 ≤ sizeLine
      rw [sizeLine_eq, List.append_nil]
      omega
    have sb : sp ≠ b := fun z => by rw [z, upd_same] at hsp; cases hsp
    have K3 := (K2.at hsp (u := .tup (.str "number" :: .str z :: (t.spell ++ [])))).upd (u := .ins D dx (putF "spelling" (.ref sp) (putF "term" (.ref a) (putF "stream" (.str z) []))))
    refine q _ ⟨dx, a, sp, ?_, ?_, hT.off hb K3⟩ K3
    · rw [upd_same, putF_no (fs := putF "term" (.ref a) (putF "stream" (.str z) [])) (by rw [pre2 (by decide +kernel)]; rfl), pre2 (by decide +kernel), hD]
      rfl
    · rw [upd_ne sb, upd_same]
      simp [Am.spell]
abbrev s_Count_init : Stmt := inClass (topS 40) 0
theorem sc_Count_init : FnScope ["self", "stream", "first", "last"] ["self", "stream", "first", "last"] (defScope s_Count_init) := ⟨rfl, rfl, rfl, by decide +kernel, rfl, by decide +kernel, by decide +kernel⟩
theorem ok_count {f : Addr} {fd : FuncData} (F : Fun K "__init__" "Count.__init__" s_Count_init f fd) (B : Blt mg) (T : TF K mg C) (AT : AF K mg A0 C) (G : T2 P w K mg base C) : FnOk P w K mg base CX0 3 f fd ["self", "stream", "first", "last"] (spInitC A0 C A0.count Am.count) := by
  refine F.ok sc_Count_init (fun vs H Q E h => ?_) (fun cdv A outer s H vs Q E hr h => ?_)
  · obtain ⟨b, dx, a, c, z, t, u, rfl, _⟩ := h
    rfl
  · obtain ⟨b, dx, a, c, z, t, u, rfl, hb, hz, hT, hU, hF, hG, q⟩ := h
    refine ⟨_, (pss_cons (ps_fld (pv 0) (pe_cal G.checked_stream (hr.mono (by decide)) pass0 (pa_cons (pv 1) pa_nil)) rfl)
    (pss_cons (ps_fld (pv 0) (pe_cal G.checked_term (hr.mono (by decide)) pass0 (pa_cons (pv 2) pa_nil)) rfl)
    (pss_cons (ps_fld (pv 0) (pe_cal G.checked_term (hr.mono (by decide)) pass0 (pa_cons (pv 3) pa_nil)) rfl)
    (pss_one (ps_fld (pv 0) (pe_tup (pa_cons pe_str (pa_cons (pv 1) (StX.pa_star (pe_fld (pv 2) rfl) (StX.pa_star (pe_fld (pv 3) rfl) pa_nil))))) rfl))))), ?_⟩
    obtain ⟨D, hD⟩ : ∃ D, D = A0.count := ⟨_, rfl⟩
    have Is : A0.Is D := .inr (.inl hD)
    rw [← hD] at hb
    refine ⟨_, rfl, z, rfl, hz, fun Hz sz => ⟨_, rfl, b, D, dx, [], rfl, sz _ _ hb, AT.cl _ Is, AT.no _ Is _ (by decide +kernel), (by show 0 < 1000; decide), ?_⟩⟩
    have K0 : Keep b H (upd Hz b (.ins D dx (putF "stream" (.str z) []))) := (Keep.refl.same sz).upd
    have hb0 : (upd Hz b (.ins D dx (putF "stream" (.str z) []))) b = some (.ins D dx (putF "stream" (.str z) [])) := upd_same
    refine ⟨_, rfl, a, t, rfl, hT.off hb K0, fun H1 s1 => ⟨_, rfl, b, D, dx, _, rfl, s1 _ _ hb0, AT.cl _ Is, AT.no _ Is _ (by decide +kernel), (by show 1 < 1000; decide), ?_⟩⟩
    have K1 : Keep b H (upd H1 b (.ins D dx (putF "first" (.ref a) (putF "stream" (.str z) [])))) := (K0.same s1).upd
    refine ⟨_, rfl, c, u, rfl, hU.off hb K1, fun H2 s2 => ⟨_, rfl, b, D, dx, _, rfl, s2 _ _ upd_same, AT.cl _ Is, AT.no _ Is _ (by decide +kernel), (by show 2 < 1000; decide), ?_⟩⟩
    have K2 : Keep b H (upd H2 b (.ins D dx (putF "last" (.ref c) (putF "first" (.ref a) (putF "stream" (.str z) []))))) := (K1.same s2).upd
    obtain ⟨dx1, fs1, sp1, In⟩ := (hT.off hb K2).in_
    obtain ⟨dx2, fs2, sp2, In2⟩ := (hU.off hb K2).in_
    have sl := Tm.spell_len t
    have sl2 := Tm.spell_len u
    have hF2 : t.par ≤ 40 := hF.2.1
    have hG2 : u.par ≤ 40 := hG.2.1
    refine ⟨_, rfl, _, rfl, _, _, dx1, fs1, _, rfl, In.at_, T.cl _ (C.is_of _), T.no _ (C.is_of _) _ (by decide +kernel), In.spelling, sp1, _, rfl, .inl (SqT.of In.spl), _, rfl, _, _, dx2, fs2, _, rfl, In2.at_, T.cl _ (C.is_of _), T.no _ (C.is_of _) _ (by decide +kernel), In2.spelling, sp2, _, rfl, .inl (SqT.of In2.spl), ?_, fun sp hsp => ⟨_, rfl, b, D, dx, _, rfl, sameAt (Same.refl _) hsp _ _ upd_same, AT.cl _ Is, AT.no _ Is _ (by decide +kernel), (by show 3 < 1000; decide), ?_⟩⟩
    · show (t.spell ++ (u.spell ++ [])).length + 1 + 1 ≤ sizeLine
      rw [sizeLine_eq, List.length_append, List.append_nil]
      omega
    have sb : sp ≠ b := fun z => by rw [z, upd_same] at hsp; cases hsp
    have K3 := (K2.at hsp (u := .tup (.str "count" :: .str z :: (t.spell ++ (u.spell ++ []))))).upd (u := .ins D dx (putF "spelling" (.ref sp) (putF "last" (.ref c) (putF "first" (.ref a) (putF "stream" (.str z) [])))))
    refine q _ ⟨dx, a, c, sp, ?_, ?_, hT.off hb K3, hU.off hb K3⟩ K3
    · rw [upd_same, pre2 (by decide +kernel), putF_no (f := "last") (by rfl), putF_no (f := "spelling") (by rfl), hD]
      rfl
    · rw [upd_ne sb, upd_same]
      simp [Am.spell]
abbrev s_Total_init : Stmt := inClass (topS 41) 0
theorem sc_Total_init : FnScope ["self", "stream", "first", "last"] ["self", "stream", "first", "last"] (defScope s_Total_init) := ⟨rfl, rfl, rfl, by decide +kernel, rfl, by decide +kernel, by decide +kernel⟩
theorem ok_total {f : Addr} {fd : FuncData} (F : Fun K "__init__" "Total.__init__" s_Total_init f fd) (B : Blt mg) (T : TF K mg C) (AT : AF K mg A0 C) (G : T2 P w K mg base C) : FnOk P w K mg base CX0 3 f fd ["self", "stream", "first", "last"] (spInitC A0 C A0.total Am.total) := by
  refine F.ok sc_Total_init (fun vs H Q E h => ?_) (fun cdv A outer s H vs Q E hr h => ?_)
  · obtain ⟨b, dx, a, c, z, t, u, rfl, _⟩ := h
    rfl
  · obtain ⟨b, dx, a, c, z, t, u, rfl, hb, hz, hT, hU, hF, hG, q⟩ := h
    refine ⟨_, (pss_cons (ps_fld (pv 0) (pe_cal G.checked_stream (hr.mono (by decide)) pass0 (pa_cons (pv 1) pa_nil)) rfl)
    (pss_cons (ps_fld (pv 0) (pe_cal G.checked_term (hr.mono (by decide)) pass0 (pa_cons (pv 2) pa_nil)) rfl)
    (pss_cons (ps_fld (pv 0) (pe_cal G.checked_term (hr.mono (by decide)) pass0 (pa_cons (pv 3) pa_nil)) rfl)
    (pss_one (ps_fld (pv 0) (pe_tup (pa_cons pe_str (pa_cons (pv 1) (StX.pa_star (pe_fld (pv 2) rfl) (StX.pa_star (pe_fld (pv 3) rfl) pa_nil))))) rfl))))), ?_⟩
    obtain ⟨D, hD⟩ : ∃ D, D = A0.total := ⟨_, rfl⟩
    have Is : A0.Is D := .inr (.inr (.inl hD))
    rw [← hD] at hb
    refine ⟨_, rfl, z, rfl, hz, fun Hz sz => ⟨_, rfl, b, D, dx, [], rfl, sz _ _ hb, AT.cl _ Is, AT.no _ Is _ (by decide +kernel), (by show 0 < 1000; decide), ?_⟩⟩
    have K0 : Keep b H (upd Hz b (.ins D dx (putF "stream" (.str z) []))) := (Keep.refl.same sz).upd
    have hb0 : (upd Hz b (.ins D dx (putF "stream" (.str z) []))) b = some (.ins D dx (putF "stream" (.str z) [])) := upd_same
    refine ⟨_, rfl, a, t, rfl, hT.off hb K0, fun H1 s1 => ⟨_, rfl, b, D, dx, _, rfl, s1 _ _ hb0, AT.cl _ Is, AT.no _ Is _ (by decide +kernel), (by show 1 < 1000; decide), ?_⟩⟩
    have K1 : Keep b H (upd H1 b (.ins D dx (putF "first" (.ref a) (putF "stream" (.str z) [])))) := (K0.same s1).upd
    refine ⟨_, rfl, c, u, rfl, hU.off hb K1, fun H2 s2 => ⟨_, rfl, b, D, dx, _, rfl, s2 _ _ upd_same, AT.cl _ Is, AT.no _ Is _ (by decide +kernel), (by show 2 < 1000; decide), ?_⟩⟩
    have K2 : Keep b H (upd H2 b (.ins D dx (putF "last" (.ref c) (putF "first" (.ref a) (putF "stream" (.str z) []))))) := (K1.same s2).upd
    obtain ⟨dx1, fs1, sp1, In⟩ := (hT.off hb K2).in_
    obtain ⟨dx2, fs2, sp2, In2⟩ := (hU.off hb K2).in_
    have sl := Tm.spell_len t
    have sl2 := Tm.spell_len u
    have hF2 : t.par ≤ 40 := hF.2.1
    have hG2 : u.par ≤ 40 := hG.2.1
    refine ⟨_, rfl, _, rfl, _, _, dx1, fs1, _, rfl, In.at_, T.cl _ (C.is_of _), T.no _ (C.is_of _) _ (by decide +kernel), In.spelling, sp1, _, rfl, .inl (SqT.of In.spl), _, rfl, _, _, dx2, fs2, _, rfl, In2.at_, T.cl _ (C.is_of _), T.no _ (C.is_of _) _ (by decide +kernel), In2.spelling, sp2, _, rfl, .inl (SqT.of In2.spl), ?_, fun sp hsp => ⟨_, rfl, b, D, dx, _, rfl, sameAt (Same.refl _) hsp _ _ upd_same, AT.cl _ Is, AT.no _ Is _ (by decide +kernel), (by show 3 < 1000; decide), ?_⟩⟩
    · show (t.spell ++ (u.spell ++ [])).length + 1 + 1 ≤ sizeLine
      rw [sizeLine_eq, List.length_append, List.append_nil]
      omega
    have sb : sp ≠ b := fun z => by rw [z, upd_same] at hsp; cases hsp
    have K3 := (K2.at hsp (u := .tup (.str "total" :: .str z :: (t.spell ++ (u.spell ++ []))))).upd (u := .ins D dx (putF "spelling" (.ref sp) (putF "last" (.ref c) (putF "first" (.ref a) (putF "stream" (.str z) [])))))
    refine q _ ⟨dx, a, c, sp, ?_, ?_, hT.off hb K3, hU.off hb K3⟩ K3
    · rw [upd_same, pre2 (by decide +kernel), putF_no (f := "last") (by rfl), putF_no (f := "spelling") (by rfl), hD]
      rfl
    · rw [upd_ne sb, upd_same]
      simp [Am.spell]
abbrev s_Gap_init : Stmt := inClass (topS 42) 0
theorem sc_Gap_init : FnScope ["self", "first", "last"] ["self", "first", "last"] (defScope s_Gap_init) := ⟨rfl, rfl, rfl, by decide +kernel, rfl, by decide +kernel, by decide +kernel⟩
theorem ok_gap {f : Addr} {fd : FuncData} (F : Fun K "__init__" "Gap.__init__" s_Gap_init f fd) (B : Blt mg) (T : TF K mg C) (AT : AF K mg A0 C) (G : T2 P w K mg base C) : FnOk P w K mg base CX0 3 f fd ["self", "first", "last"] (spInitG A0 C) := by
  refine F.ok sc_Gap_init (fun vs H Q E h => ?_) (fun cdv A outer s H vs Q E hr h => ?_)
  · obtain ⟨b, dx, a, c, t, u, rfl, _⟩ := h
    rfl
  · obtain ⟨b, dx, a, c, t, u, rfl, hb, hT, hU, hF, hG, q⟩ := h
    refine ⟨_, (pss_cons (ps_fld (pv 0) (pe_cal G.checked_term (hr.mono (by decide)) pass0 (pa_cons (pv 1) pa_nil)) rfl)
    (pss_cons (ps_fld (pv 0) (pe_cal G.checked_term (hr.mono (by decide)) pass0 (pa_cons (pv 2) pa_nil)) rfl)
    (pss_one (ps_fld (pv 0) (pe_tup (pa_cons pe_str (StX.pa_star (pe_fld (pv 1) rfl) (StX.pa_star (pe_fld (pv 2) rfl) pa_nil)))) rfl)))), ?_⟩
    obtain ⟨D, hD⟩ : ∃ D, D = A0.gap := ⟨_, rfl⟩
    have Is : A0.Is D := .inr (.inr (.inr hD))
    rw [← hD] at hb
    have s0 : Same H H := Same.refl H
    have K0 : Keep b H H := Keep.refl
    have hb0 : H b = some (.ins D dx ([])) := hb
    refine ⟨_, rfl, a, t, rfl, hT.off hb K0, fun H1 s1 => ⟨_, rfl, b, D, dx, _, rfl, s1 _ _ hb0, AT.cl _ Is, AT.no _ Is _ (by decide +kernel), (by show 0 < 1000; decide), ?_⟩⟩
    have K1 : Keep b H (upd H1 b (.ins D dx (putF "first" (.ref a) ([])))) := (K0.same s1).upd
    refine ⟨_, rfl, c, u, rfl, hU.off hb K1, fun H2 s2 => ⟨_, rfl, b, D, dx, _, rfl, s2 _ _ upd_same, AT.cl _ Is, AT.no _ Is _ (by decide +kernel), (by show 1 < 1000; decide), ?_⟩⟩
    have K2 : Keep b H (upd H2 b (.ins D dx (putF "last" (.ref c) (putF "first" (.ref a) ([]))))) := (K1.same s2).upd
    obtain ⟨dx1, fs1, sp1, In⟩ := (hT.off hb K2).in_
    obtain ⟨dx2, fs2, sp2, In2⟩ := (hU.off hb K2).in_
    have sl := Tm.spell_len t
    have sl2 := Tm.spell_len u
    have hF2 : t.par ≤ 40 := hF.2.1
    have hG2 : u.par ≤ 40 := hG.2.1
    refine ⟨_, rfl, _, _, dx1, fs1, _, rfl, In.at_, T.cl _ (C.is_of _), T.no _ (C.is_of _) _ (by decide +kernel), In.spelling, sp1, _, rfl, .inl (SqT.of In.spl), _, rfl, _, _, dx2, fs2, _, rfl, In2.at_, T.cl _ (C.is_of _), T.no _ (C.is_of _) _ (by decide +kernel), In2.spelling, sp2, _, rfl, .inl (SqT.of In2.spl), ?_, fun sp hsp => ⟨_, rfl, b, D, dx, _, rfl, sameAt (Same.refl _) hsp _ _ upd_same, AT.cl _ Is, AT.no _ Is _ (by decide +kernel), (by show 2 < 1000; decide), ?_⟩⟩
    · show (t.spell ++ (u.spell ++ [])).length + 1 ≤ sizeLine
      rw [sizeLine_eq, List.length_append, List.append_nil]
      omega
    have sb : sp ≠ b := fun z => by rw [z, upd_same] at hsp; cases hsp
    have K3 := (K2.at hsp (u := .tup (.str "gap" :: (t.spell ++ (u.spell ++ []))))).upd (u := .ins D dx (putF "spelling" (.ref sp) (putF "last" (.ref c) (putF "first" (.ref a) ([])))))
    refine q _ ⟨dx, a, c, sp, ?_, ?_, hT.off hb K3, hU.off hb K3⟩ K3
    · rw [upd_same, pre2 (by decide +kernel), putF_no (by rfl), hD]
      rfl
    · rw [upd_ne sb, upd_same]
      simp [Am.spell]
abbrev s_is_amount : Stmt := topS 43
theorem sc_is_amount : FnScope ["thing"] ["thing"] (defScope s_is_amount) := ⟨rfl, rfl, rfl, by decide +kernel, rfl, by decide +kernel, by decide +kernel⟩
theorem ok_isam {f : Addr} {fd : FuncData} (F : Fun K "is_amount" "is_amount" s_is_amount f fd) (B : Blt mg) (AT : AF K mg A0 C) : FnOk P w K mg base CX0 1 f fd ["thing"] (spIsAmount A0 C) := by
  have c_Number := AT.Number
  have c_Count := AT.Count
  have c_Total := AT.Total
  have c_Gap := AT.Gap
  refine F.ok sc_is_amount (fun vs H Q E h => ?_) (fun cdv A outer s H vs Q E hr h => ?_)
  · obtain ⟨a, q, rfl, _⟩ := h
    rfl
  · obtain ⟨a, am, rfl, h, q⟩ := h
    refine ⟨_, (pss_one (ps_ret (pe_callB call_isiT (by rfl) B.isinstance (by decide +kernel) (pa_cons (pv 0) (pa_cons (pe_tup (pa_cons (pe_glob (v := .ref A0.number) (by rfl) c_Number rfl) (pa_cons (pe_glob (v := .ref A0.count) (by rfl) c_Count rfl) (pa_cons (pe_glob (v := .ref A0.total) (by rfl) c_Total rfl) (pa_cons (pe_glob (v := .ref A0.gap) (by rfl) c_Gap rfl) pa_nil))))) pa_nil))))), ?_⟩
    refine ⟨_, rfl, (by show 4 ≤ sizeLine; decide), fun p hp => ?_⟩
    have s1 : ∀ {o}, Same H (upd H p o) := fun {o} => sameAt (Same.refl H) hp
    have k : PySem.W.kitAny K (.ref (A0.of am)) ([A0.number, A0.count, A0.total, A0.gap].map Value.ref) = some true := by
      have any : ∀ bs : List Addr, (∀ b ∈ bs, A0.Is b) → A0.of am ∈ bs → PySem.W.kitAny K (.ref (A0.of am)) (bs.map Value.ref) = some true := fun bs => by
        induction bs with
        | nil => exact fun _ h => nomatch h
        | cons b r ih =>
          intro hb hm
          refine kitAny_cons (AT.one _ b (A0.is_of am) (hb b List.mem_cons_self)) (fun e => ?_) (fun _ => rfl)
          exact ih (fun c hc => hb c (List.mem_cons_of_mem _ hc)) ((List.mem_cons.mp hm).resolve_left (of_decide_eq_false e))
      refine any _ (fun b hb => ?_) ?_
      · simp only [List.mem_cons, List.not_mem_nil, or_false] at hb
        exact hb
      · have := A0.is_of am
        simp only [List.mem_cons, List.not_mem_nil, or_false]
        exact this
    exact ⟨_, p, _, _, _, true, rfl, upd_same, .cons (.own _) (.cons (.own _) (.cons (.own _) (.cons (.own _) .nil))), AT.tyx (h.same s1), k, q _ s1⟩
end
end Ash

set_option Elab.async false
set_option linter.all false
set_option maxRecDepth 100000
set_option maxHeartbeats 4000000
namespace Ash
open PySem PySem.Spec PyProof.Rows L2 SrtT
open C8 (pss_cut)
/-- the number of a row, seen from a term's answer -/
def spLookedA (A : AC) (C : TC) (CW : Addr) (d : Nat) : Sp := fun vs H Q _ => ∃ (a b : Addr) (t : Tm) (s : Str) (W : Tr) (now : Int), vs = [.ref a, .ref b, .int now, .int 2] ∧ AmAt A C H a (.number s t) ∧ WAt CW H b W ∧ IsNm s ∧ t.NmS ∧ t.Fit ∧ t.dep ≤ (d : Int) ∧ Ans H Q (evA W now (.number s t))
def Am.isNumber : Am → Bool
  | .number _ _ => true
  | _ => false
def spTold (A : AC) (C : TC) (CW : Addr) (d : Nat) : Sp := fun vs H Q _ => ∃ (a b : Addr) (am : Am) (W : Tr) (now : Int), vs = [.ref a, .ref b, .int now] ∧ AmAt A C H a am ∧ am.isNumber = false ∧ WAt CW H b W ∧ am.NmS ∧ am.Fit ∧ Ans H Q (evA W now am)
section
variable {P : Program} {w : World} {K : PySem.W.Frag} {mg : Str → Option Value} {base : Heap} {C : TC} {CW : Addr} {A0 : AC}
theorem ok_lookedA {f : Addr} {fd : FuncData} {d : Nat} (F : Fun K "looked" "looked" s_looked f fd) (B : Blt mg) (T : TF K mg C) (AT : AF K mg A0 C) (G : A2 P w K mg base C CW d) : FnOk P w K mg base CX0 (2 * d + 5) f fd ["question", "world", "now", "place"] (spLookedA A0 C CW d) := by
  obtain ⟨t_cl, t_no, t_ty, t_one, c_Now, c_Last, c_Next, c_Shift, c_Either, c_Later, c_Earlier⟩ := id T
  refine F.ok sc_looked (fun vs H Q E h => ?_) (fun cdv A outer s H vs Q E hr h => ?_)
  · obtain ⟨a, b, t, z, W, now, rfl, _⟩ := h
    rfl
  · obtain ⟨a, b, t, z, W, now, rfl, hT, hW, hz, hN, hF, hd, q⟩ := h
    refine ⟨_, (pss_cons (ps_asg (pe_cal G.followed (hr.mono (by omega)) pass0 (pa_cons (pe_fld (pv 0) rfl) (pa_cons (pv 1) (pa_cons (pv 2) pa_nil)))) (pg_tup (by rfl) (pgs_cons (pg_name (i := 4) sc_looked.nd rfl (Or.inl rfl)) (pgs_cons (pg_name (i := 5) sc_looked.nd rfl (Or.inl rfl)) pgs_nil))))
    (pss_cons (ps_if (pt_cmpR op_isN (pv 4) pe_non (nomark _))
      (pss_one (ps_ret (pe_tup (pa_cons pe_non (pa_cons (pv 5) pa_nil)))))
      pss_nil)
    (pss_cons (ps_if (pt_val (pe_callB call_isi (by rfl) B.isinstance (by decide +kernel) (pa_cons (pv 0) (pa_cons (pe_glob (v := .ref C.next) (by rfl) c_Next rfl) pa_nil))))
      (pss_one (ps_set (i := 6) sc_looked.nd rfl (Or.inl rfl) (pe_cal G.next_row (hr.mono (by omega)) pass0 (pa_cons (pv 1) (pa_cons (pe_fld (pv 0) rfl) (pa_cons (pv 4) pa_nil))))))
      (pss_one (ps_set (i := 6) sc_looked.nd rfl (Or.inl rfl) (pe_cal G.last_row (hr.mono (by omega)) pass0 (pa_cons (pv 1) (pa_cons (pe_fld (pv 0) rfl) (pa_cons (pv 4) pa_nil)))))))
    (pss_cons (ps_if (pt_cmpR op_isN (pv 6) pe_non (nomark _))
      (pss_one (ps_ret (pe_tup (pa_cons pe_non (pa_cons (pv 5) pa_nil)))))
      pss_nil)
    (pss_one (ps_ret (pe_tup (pa_cons (pe_ix ix_tup (pv 6) (pv 3) (fun _ _ => rfl)) (pa_cons (pe_lst (StX.pa_star (pv 5) (pa_cons (pe_ix ix_tup (pv 6) pe_int (fun _ _ => rfl)) pa_nil))) pa_nil))))))))), ?_⟩
    obtain ⟨dx, c, sp, h1, h2, h3⟩ := id hT
    have Is : A0.Is A0.number := .inl rfl
    refine ⟨_, rfl, a, _, dx, _, _, rfl, h1, AT.cl _ Is, AT.no _ Is _ (by decide +kernel), rfl, _, rfl, _, rfl, c, b, t, W, now, rfl, h3, hW, hN, hF, hd, fun q1 l H1 s1 hq1 hl => ?_⟩
    have ln := ev_len (W := W) (now := now) t
    have l12 := hF.2.2
    have q : Ans H Q (lookA (ev W now t) (lastR (W z))) := q
    generalize ev W now t = r at q hq1 hl ln
    obtain ⟨r1, r2⟩ := r
    have ln : (r2.length : Int) ≤ t.lok := ln
    have k := AT.noT A0.number C.next Is (C.is_of (.next z .now))
    refine ⟨q1, _, rfl, SqT.of hq1, rfl, _, _, rfl, _, _, rfl, rfl, ?_⟩
    refine ⟨_, rfl, rfl, _, rfl, ?_⟩
    cases r1 with
    | none =>
      refine ite2 (fun _ => ?_) (fun c => absurd rfl c)
      exact ⟨_, rfl, (by show 2 ≤ sizeLine; decide), fun t2 ht2 => q t2 l _ (s1.trans (sameAt (Same.refl H1) ht2)) upd_same (sameAt (Same.refl H1) ht2 _ _ hl)⟩
    | some m =>
      refine ite2 (fun c => absurd (of_decide_eq_true c) (fun z => nomatch z)) (fun _ => ?_)
      refine ⟨_, rfl, _, _, _, _, _, rfl, .own _, AT.tyx (hT.same s1), k, _, rfl, iteF ?_⟩
      refine ⟨_, rfl, _, rfl, a, _, dx, _, _, rfl, s1 _ _ h1, AT.cl _ Is, AT.no _ Is _ (by decide +kernel), rfl, _, rfl, b, W, z, m, rfl, hW.same s1, hz, fun v H2 s2 hv => ?_⟩
      have hl2 := s2 _ _ hl
      have s12 := s1.trans s2
      refine ⟨_, rfl, rfl, _, rfl, ?_⟩
      cases hrow : lastR (W z) m with
      | none =>
        rw [hrow] at hv
        have hv : v = .non := hv
        subst hv
        have q : Ans H Q (none, r2) := by
          have q : Ans H Q (lookA (some m, r2) (lastR (W z))) := q
          rw [show lookA (some m, r2) (lastR (W z)) = (none, r2) by show (match lastR (W z) m with | none => _ | some t => _) = _; rw [hrow]] at q
          exact q
        refine ite2 (fun _ => ?_) (fun c => absurd rfl c)
        exact ⟨_, rfl, (by show 2 ≤ sizeLine; decide), fun t2 ht2 => q t2 l _ (s12.trans (sameAt (Same.refl H2) ht2)) upd_same (sameAt (Same.refl H2) ht2 _ _ hl2)⟩
      | some t3 =>
        rw [hrow] at hv
        obtain ⟨e, rfl, he⟩ := hv
        have q : Ans H Q (some t3.2.2, r2 ++ [t3.2.1]) := by
          have q : Ans H Q (lookA (some m, r2) (lastR (W z))) := q
          rw [show lookA (some m, r2) (lastR (W z)) = (some t3.2.2, r2 ++ [t3.2.1]) by show (match lastR (W z) m with | none => _ | some t => _) = _; rw [hrow]] at q
          exact q
        refine ite2 (fun c => absurd (of_decide_eq_true c) (fun z => nomatch z)) (fun _ => ?_)
        refine ⟨_, rfl, _, rfl, _, _, _, _, rfl, rfl, SqT.of he, rfl, _, rfl, l, _, rfl, .inr (SqL.of hl2), _, rfl, _, _, _, _, rfl, rfl, SqT.of he, rfl, ?_, fun l2 hl3 => ⟨(by show 2 ≤ sizeLine; decide), fun t2 ht2 => ?_⟩⟩
        · show (r2.map V.int ++ [_]).length ≤ sizeLine
          rw [List.length_append, List.length_map, sizeLine_eq]
          show r2.length + 1 ≤ _
          omega
        · have s3 := s12.trans (sameAt (Same.refl H2) hl3 (o := .lst (r2.map V.int ++ [.int t3.2.1])))
          have hl4 : upd H2 l2 (.lst (r2.map V.int ++ [.int t3.2.1])) l2 = some (.lst ((r2 ++ [t3.2.1]).map V.int)) := by
            rw [upd_same, List.map_append]
            rfl
          exact q t2 l2 _ (s3.trans (sameAt (Same.refl _) ht2)) upd_same (sameAt (Same.refl _) ht2 _ _ hl4)
/-- what is told of two moments -/
def amG (W : Tr) : Am → Int → Int → Rs
  | .number _ _ => fun _ _ => (none, [])
  | .count s _ _ => fun m k => (some ((betweenR (W s) m k).length : Int), (betweenR (W s) m k).map (·.2.1))
  | .total s _ _ => fun m k => (some ((betweenR (W s) m k).map (·.2.2)).sum, (betweenR (W s) m k).map (·.2.1))
  | .gap _ _ => fun m k => (some (k - m), [])
theorem AmAt.two {H : Hp} {a : Addr} {am : Am} (h : AmAt A0 C H a am) (hn : am.isNumber = false) (hN : am.NmS) (hF : am.Fit) : ∃ dx fs c1 c2 t u, H a = some (.ins (A0.of am) dx fs) ∧ fs.lookup ("first" : Str) = some (.ref c1) ∧ fs.lookup ("last" : Str) = some (.ref c2) ∧ TmAt C H c1 t ∧ TmAt C H c2 u ∧ (t.NmS ∧ u.NmS) ∧ (t.Fit ∧ u.Fit) ∧
    (∀ z, (∃ t u, am = .count z t u ∨ am = .total z t u) → fs.lookup ("stream" : Str) = some (.str z) ∧ IsNm z) ∧ ∀ W now, evA W now am = tellR (ev W now t) (ev W now u) (amG W am) := by
  cases am with
  | number _ _ => cases hn
  | count s t u =>
    obtain ⟨dx, b, c, sp, h1, h2, h3, h4⟩ := h
    refine ⟨dx, _, b, c, t, u, h1, rfl, rfl, h3, h4, hN.2, hF, fun z hz => ?_, fun _ _ => rfl⟩
    obtain ⟨_, _, e | e⟩ := hz <;> cases e
    exact ⟨rfl, hN.1⟩
  | total s t u =>
    obtain ⟨dx, b, c, sp, h1, h2, h3, h4⟩ := h
    refine ⟨dx, _, b, c, t, u, h1, rfl, rfl, h3, h4, hN.2, hF, fun z hz => ?_, fun _ _ => rfl⟩
    obtain ⟨_, _, e | e⟩ := hz <;> cases e
    exact ⟨rfl, hN.1⟩
  | gap t u =>
    obtain ⟨dx, b, c, sp, h1, h2, h3, h4⟩ := h
    refine ⟨dx, _, b, c, t, u, h1, rfl, rfl, h3, h4, hN, hF, fun z hz => ?_, fun _ _ => rfl⟩
    obtain ⟨_, _, e | e⟩ := hz <;> cases e
abbrev s_told_between : Stmt := topS 64
theorem sc_told_between : FnScope ["question", "world", "now", "first", "seen", "last", "more", "rows", "counted", "row"] ["question", "world", "now"] (defScope s_told_between) := ⟨rfl, rfl, rfl, by decide +kernel, rfl, by decide +kernel, by decide +kernel⟩
theorem ok_told {f : Addr} {fd : FuncData} (F : Fun K "told_between" "told_between" s_told_between f fd) (B : Blt mg) (T : TF K mg C) (AT : AF K mg A0 C) (TW : Cw K mg CW) (G : A2 P w K mg base C CW 12) : FnOk P w K mg base CX0 29 f fd ["question", "world", "now"] (spTold A0 C CW 12) := by
  have c_Number := AT.Number
  have c_Count := AT.Count
  have c_Total := AT.Total
  have c_Gap := AT.Gap
  refine F.ok sc_told_between (fun vs H Q E h => ?_) (fun cdv A outer s H vs Q E hr h => ?_)
  · obtain ⟨a, b, am, W, now, rfl, _⟩ := h
    rfl
  · obtain ⟨a, b, am, W, now, rfl, hA, hn, hW, hN, hF, q⟩ := h
    refine ⟨_, (pss_cons (ps_asg (pe_cal G.followed (hr.mono (by decide)) pass0 (pa_cons (pe_fld (pv 0) rfl) (pa_cons (pv 1) (pa_cons (pv 2) pa_nil)))) (pg_tup (by rfl) (pgs_cons (pg_name (i := 3) sc_told_between.nd rfl (Or.inr rfl)) (pgs_cons (pg_name (i := 4) sc_told_between.nd rfl (Or.inl rfl)) pgs_nil))))
    (pss_cons (ps_if (pt_cmpR op_isN (pv 3) pe_non (nomark _))
      (pss_one (ps_ret (pe_tup (pa_cons pe_non (pa_cons (pv 4) pa_nil)))))
      pss_nil)
    (pss_cons (ps_asg (pe_cal G.followed (hr.mono (by decide)) pass0 (pa_cons (pe_fld (pv 0) rfl) (pa_cons (pv 1) (pa_cons (pv 2) pa_nil)))) (pg_tup (by rfl) (pgs_cons (pg_name (i := 5) sc_told_between.nd rfl (Or.inr rfl)) (pgs_cons (pg_name (i := 6) sc_told_between.nd rfl (Or.inl rfl)) pgs_nil))))
    (pss_cons (ps_set (i := 4) sc_told_between.nd rfl (Or.inl rfl) (pe_lst (StX.pa_star (pv 4) (StX.pa_star (pv 6) pa_nil))))
    (pss_cons (ps_if (pt_cmpR op_isN (pv 5) pe_non (nomark _))
      (pss_one (ps_ret (pe_tup (pa_cons pe_non (pa_cons (pv 4) pa_nil)))))
      pss_nil)
    (pss_cons (ps_if (pt_val (pe_callB call_isi (by rfl) B.isinstance (by decide +kernel) (pa_cons (pv 0) (pa_cons (pe_glob (v := .ref A0.gap) (by rfl) c_Gap rfl) pa_nil))))
      (pss_one (ps_ret (pe_tup (pa_cons (pe_op op_sub (pv 5) (pv 3)) (pa_cons (pv 4) pa_nil)))))
      pss_nil)
    (pss_cons (ps_setLc (i := 7) (own := [("row", 9)]) (g := gName 9) (by rfl) sc_told_between.nd rfl rfl (sw_true rfl rfl rfl (by decide +kernel)) (pi_list (pe_met TW.cl G.rows (hr.mono (by decide)) pass0 (pv 1) (pa_cons (pe_fld (pv 0) rfl) pa_nil))) (blkOk_by (own := [("row", 9)]) (N := ["question", "world", "now", "first", "seen", "last", "more", "rows", "counted", "row"]) (sc := defScope s_told_between) (by decide +kernel)) (fun _ _ _ _ _ => (pg_name (i := 9) sc_told_between.nd rfl (Or.inl rfl))) (fun _ _ _ _ _ => pts_one (pt_chain op_lt op_le (pv 3) (pe_ix (show IxR _ (rIxT K) from ix_tup) (pv 9) pe_int (fun _ _ => rfl)) (pv 5))) (fun _ _ _ _ _ => (pv 9)))
    (pss_cons (ps_setLc (i := 8) (own := [("row", 9)]) (g := gName 9) (tt := tYes) (by rfl) sc_told_between.nd rfl rfl (sw_true rfl rfl rfl (by decide +kernel)) (pi_list (pv 7)) (blkOk_by (own := [("row", 9)]) (N := ["question", "world", "now", "first", "seen", "last", "more", "rows", "counted", "row"]) (sc := defScope s_told_between) (by decide +kernel)) (fun _ _ _ _ _ => (pg_name (i := 9) sc_told_between.nd rfl (Or.inl rfl))) (fun _ _ _ _ _ => pts_nil) (fun _ _ _ _ _ => (pe_ix (show IxR _ (rIxT K) from ix_tup) (pv 9) pe_int (fun _ _ => rfl))))
    (pss_cons (ps_set (i := 4) sc_told_between.nd rfl (Or.inl rfl) (pe_lst (StX.pa_star (pv 4) (StX.pa_star (pv 8) pa_nil))))
    (pss_cons (ps_if (pt_val (pe_callB call_isi (by rfl) B.isinstance (by decide +kernel) (pa_cons (pv 0) (pa_cons (pe_glob (v := .ref A0.count) (by rfl) c_Count rfl) pa_nil))))
      (pss_one (ps_ret (pe_tup (pa_cons (pe_callB call_len_seq (by rfl) B.len (by decide +kernel) (pa_cons (pv 7) pa_nil)) (pa_cons (pv 4) pa_nil)))))
      pss_nil)
    (pss_one (ps_ret (pe_tup (pa_cons (pe_callB (cr_sum rfl) (by rfl) B.sum (by decide +kernel) (pa_cons (pe_lc (own := [("row", 9)]) (g := gName 9) (tt := tYes) (by rfl) sc_told_between.nd (pi_list (pv 7)) (blkOk_by (own := [("row", 9)]) (N := ["question", "world", "now", "first", "seen", "last", "more", "rows", "counted", "row"]) (sc := defScope s_told_between) (by decide +kernel)) (fun _ _ _ _ _ => (pg_name (i := 9) sc_told_between.nd rfl (Or.inl rfl))) (fun _ _ _ _ _ => pts_nil) (fun _ _ _ _ _ => (pe_ix (show IxR _ (rIxT K) from ix_tup) (pv 9) pe_int (fun _ _ => rfl)))) pa_nil)) (pa_cons (pv 4) pa_nil))))))))))))))), ?_⟩
    obtain ⟨dx, fs, c1, c2, t, u, h1, i1, i2, hT, hU, ⟨hN1, hN2⟩, ⟨hF1, hF2⟩, hst, hev⟩ := hA.two hn hN hF
    have Is := A0.is_of am
    refine ⟨_, rfl, a, _, dx, _, _, rfl, h1, AT.cl _ Is, AT.no _ Is _ (by decide +kernel), i1, _, rfl, _, rfl, c1, b, t, W, now, rfl, hT, hW, hN1, hF1, hF1.1, fun q1 l H1 s1 hq1 hl => ?_⟩
    have ln := ev_len (W := W) (now := now) t
    have ln2 := ev_len (W := W) (now := now) u
    have l12 := hF1.2.2
    have l13 := hF2.2.2
    rw [hev] at q
    generalize ev W now t = r at q hq1 hl ln
    obtain ⟨r1, r2⟩ := r
    have ln : (r2.length : Int) ≤ t.lok := ln
    refine ⟨q1, _, rfl, SqT.of hq1, rfl, _, _, rfl, _, _, rfl, rfl, ?_⟩
    refine ⟨_, rfl, rfl, _, rfl, ?_⟩
    cases r1 with
    | none =>
      refine ite2 (fun _ => ?_) (fun c => absurd rfl c)
      exact ⟨_, rfl, (by show 2 ≤ sizeLine; decide), fun t2 ht2 => q t2 l _ (s1.trans (sameAt (Same.refl H1) ht2)) upd_same (sameAt (Same.refl H1) ht2 _ _ hl)⟩
    | some m =>
      refine ite2 (fun c => absurd (of_decide_eq_true c) (fun z => nomatch z)) (fun _ => ?_)
      refine ⟨_, rfl, a, _, dx, _, _, rfl, s1 _ _ h1, AT.cl _ Is, AT.no _ Is _ (by decide +kernel), i2, _, rfl, _, rfl, c2, b, u, W, now, rfl, hU.same s1, hW.same s1, hN2, hF2, hF2.1, fun q2 l2 H2 s2 hq2 hl2 => ?_⟩
      generalize ev W now u = r' at q hq2 hl2 ln2
      obtain ⟨x1, x2⟩ := r'
      have ln2 : (x2.length : Int) ≤ u.lok := ln2
      have s12 := s1.trans s2
      refine ⟨q2, _, rfl, SqT.of hq2, rfl, _, _, rfl, _, _, rfl, rfl, ?_⟩
      refine ⟨_, rfl, l, _, rfl, .inr (SqL.of (s2 _ _ hl)), _, rfl, l2, _, rfl, .inr (SqL.of hl2), ?_, fun l3 hl3 => ?_⟩
      · show (r2.map V.int ++ (x2.map V.int ++ [])).length ≤ sizeLine
        rw [List.length_append, List.length_append, List.length_map, List.length_map, sizeLine_eq]
        show r2.length + (x2.length + 0) ≤ _
        omega
      have s3 := s12.trans (sameAt (Same.refl H2) hl3 (o := .lst (r2.map V.int ++ (x2.map V.int ++ []))))
      have hl4 : upd H2 l3 (.lst (r2.map V.int ++ (x2.map V.int ++ []))) l3 = some (.lst ((r2 ++ x2).map V.int)) := by
        rw [upd_same, List.map_append, List.append_nil]
      refine ⟨_, rfl, rfl, _, rfl, ?_⟩
      cases x1 with
      | none =>
        refine ite2 (fun _ => ?_) (fun c => absurd rfl c)
        exact ⟨_, rfl, (by show 2 ≤ sizeLine; decide), fun t2 ht2 => q t2 l3 _ (s3.trans (sameAt (Same.refl _) ht2)) upd_same (sameAt (Same.refl _) ht2 _ _ hl4)⟩
      | some m2 =>
        refine ite2 (fun c => absurd (of_decide_eq_true c) (fun z => nomatch z)) (fun _ => ?_)
        have k := AT.one (A0.of am) A0.gap Is (.inr (.inr (.inr rfl)))
        refine ⟨_, rfl, _, _, _, _, _, rfl, .own _, AT.tyx (hA.same s3), k, _, rfl, ?_⟩
        have nd := AT.nd
        simp only [List.nodup_cons, List.mem_cons, List.not_mem_nil, or_false, not_or] at nd
        cases am with
        | number _ _ => cases hn
        | gap t' u' =>
          rw [show decide (A0.of (.gap t' u') = A0.gap) = true from decide_eq_true rfl]
          have q : Ans H Q (some (m2 - m), r2 ++ x2 ++ []) := q
          rw [List.append_nil] at q
          exact iteT ⟨_, rfl, _, rfl, _, _, rfl, rfl, _, rfl, (by show 2 ≤ sizeLine; decide), fun t2 ht2 => q t2 l3 _ (s3.trans (sameAt (Same.refl _) ht2)) upd_same (sameAt (Same.refl _) ht2 _ _ hl4)⟩
        | count z t' u' =>
          rw [show decide (A0.of (.count z t' u') = A0.gap) = false from decide_eq_false nd.2.1.2]
          refine iteF ?_
          obtain ⟨hs1, hz⟩ := hst z ⟨t', u', .inl rfl⟩
          have hW3 := hW.same s3
          obtain ⟨dxw, dw, tw, kw, iw, w1, w2, w3, w4⟩ := id hW3
          have l4 := (w4 z).1
          refine ⟨_, rfl, b, dxw, _, rfl, w1, rfl, _, rfl, a, _, dx, _, _, rfl, s3 _ _ h1, AT.cl _ Is, AT.no _ Is _ (by decide +kernel), hs1, b, W, z, rfl, hW3, hz, fun p ys H4 s4 hp hys hTr => ?_⟩
          refine ⟨p, rfl, ⟨_, SqL.of hys⟩, fun D hD => lc_it (walk_list (xs := ys)) (fun i H5 => (∃ zs, H5 D = some (.lst zs) ∧ TrAt H5 zs (betweenR ((W z).take i) m m2)) ∧ Same H4 H5) ⟨⟨[], upd_same, rfl, fun i v t a b => by simp at a⟩, sameAt (Same.refl H4) hD⟩ (fun i H5 _ hv => SqL.of (hv.2 _ _ hys)) ?_ ?_⟩
          · rintro i x H5 H6 hi ⟨⟨zs, hD5, hT5⟩, s5⟩ ⟨rfl, hx⟩
            have hi2 : i < (W z).length := by rw [← hTr.1]; exact hi
            obtain ⟨t3, ht⟩ : ∃ t3, (W z)[i]? = some t3 := ⟨_, List.getElem?_eq_getElem hi2⟩
            obtain ⟨e, rfl, he⟩ := hTr.2 i x t3 hx ht
            have he1 := s5 _ _ he
            have tk : ∀ {u} t xs, H6 t = some (.tup xs) → upd H6 D (.lst u) t = some (.tup xs) := fun {u} t xs q => by rw [upd_ne (ne_of q hD5 (by intro z; cases z))]; exact q
            have lz : zs.length ≤ 400 := by
              rw [hT5.1]
              refine Nat.le_trans (List.length_filter_le _ _) ?_
              rw [List.length_take]
              omega
            have st : betweenR ((W z).take (i + 1)) m m2 = betweenR ((W z).take i) m m2 ++ (if m < t3.1 ∧ t3.1 ≤ m2 then [t3] else []) := by
              unfold betweenR
              rw [list_take ht, List.filter_append, List.filter_cons]
              by_cases c : m < t3.1 ∧ t3.1 ≤ m2
              · rw [if_pos (decide_eq_true c), if_pos c]; rfl
              · rw [if_neg (fun z => c (of_decide_eq_true z)), if_neg c]; rfl
            refine ⟨rfl, _, rfl, _, rfl, _, _, _, _, rfl, rfl, SqT.of he1, rfl, _, _, rfl, rfl, _, rfl, ?_⟩
            rw [st]
            refine ite2 (fun ca => ?_) (fun ca => ?_)
            · have ca : m < t3.1 := of_decide_eq_true ca
              refine ⟨_, rfl, _, _, rfl, rfl, _, rfl, ?_⟩
              refine ite2 (fun cb => ?_) (fun cb => ?_)
              · rw [if_pos ⟨ca, of_decide_eq_true cb⟩]
                exact ⟨_, rfl, zs, hD5, small1000 (by omega), ⟨_, upd_same, (hT5.tk tk).snoc (tk _ _ he1)⟩, sameAt s5 hD⟩
              · rw [if_neg (fun z => cb (decide_eq_true z.2)), List.append_nil]
                exact ⟨⟨zs, hD5, hT5⟩, s5⟩
            · rw [if_neg (fun z => ca (decide_eq_true z.1)), List.append_nil]
              exact ⟨_, rfl, iteF ⟨⟨zs, hD5, hT5⟩, s5⟩⟩
          · rintro H5 ⟨⟨zs, hD5, hT5⟩, s5⟩
            rw [hTr.1, List.take_length] at hT5
            have s35 := (s3.trans s4).trans s5
            have lb : (betweenR (W z) m m2).length ≤ 400 := Nat.le_trans (List.length_filter_le _ _) l4
            refine ⟨_, rfl, D, rfl, ⟨_, SqL.of hD5⟩, fun D2 hD2 => lc_it (walk_list (xs := zs)) (fun i H6 => H6 D2 = some (.lst ((((betweenR (W z) m m2).take i).map (fun x : T3 => x.2.1)).map V.int)) ∧ Same H5 H6) ⟨upd_same, sameAt (Same.refl H5) hD2⟩ (fun i H6 _ hv => SqL.of (hv.2 _ _ hD5)) ?_ ?_⟩
            · rintro i x H6 H7 hi ⟨hD6, s6⟩ ⟨rfl, hx⟩
              have hi2 : i < (betweenR (W z) m m2).length := by rw [← hT5.1]; exact hi
              obtain ⟨t3, ht⟩ : ∃ t3, (betweenR (W z) m m2)[i]? = some t3 := ⟨_, List.getElem?_eq_getElem hi2⟩
              obtain ⟨e, rfl, he⟩ := hT5.2 i x t3 hx ht
              have he1 := s6 _ _ he
              refine ⟨rfl, _, rfl, _, _, _, _, rfl, rfl, SqT.of he1, rfl, _, hD6, ?_, ?_, sameAt s6 hD2⟩
              · rw [List.length_map, List.length_map, List.length_take]
                exact small1000 (by omega)
              · rw [upd_same, list_take ht, List.map_append, List.map_append]
                rfl
            · rintro H6 ⟨hD6, s6⟩
              rw [hT5.1, List.take_length] at hD6
              have s36 := s35.trans s6
              have hl6 := ((s4.trans s5).trans s6) _ _ hl4
              refine ⟨_, rfl, l3, _, rfl, .inr (SqL.of hl6), _, rfl, D2, _, rfl, .inr (SqL.of hD6), ?_, fun l5 hl5 => ?_⟩
              · show ((r2 ++ x2).map V.int ++ (((betweenR (W z) m m2).map (fun x : T3 => x.2.1)).map V.int ++ [])).length ≤ sizeLine
                rw [List.length_append, List.length_append, List.length_map, List.length_append, List.length_map, List.length_map, sizeLine_eq]
                show r2.length + x2.length + ((betweenR (W z) m m2).length + 0) ≤ _
                omega
              have s7 := s36.trans (sameAt (Same.refl H6) hl5 (o := .lst ((r2 ++ x2).map V.int ++ (((betweenR (W z) m m2).map (fun x : T3 => x.2.1)).map V.int ++ []))))
              have hl7 : upd H6 l5 (.lst ((r2 ++ x2).map V.int ++ (((betweenR (W z) m m2).map (fun x : T3 => x.2.1)).map V.int ++ []))) l5 = some (.lst ((r2 ++ x2 ++ (betweenR (W z) m m2).map (fun x : T3 => x.2.1)).map V.int)) := by
                rw [upd_same, List.map_append (l₁ := r2 ++ x2), List.append_nil]
              have hD7 := sameAt (Same.refl H6) hl5 (o := .lst ((r2 ++ x2).map V.int ++ (((betweenR (W z) m m2).map (fun x : T3 => x.2.1)).map V.int ++ []))) _ _ (s6 _ _ hD5)
              generalize upd H6 l5 (.lst ((r2 ++ x2).map V.int ++ (((betweenR (W z) m m2).map (fun x : T3 => x.2.1)).map V.int ++ []))) = H7 at s7 hl7 hD7 ⊢
              have k2 := AT.one (A0.of (.count z t' u')) A0.count Is (.inr (.inl rfl))
              refine ⟨_, rfl, _, _, _, _, _, rfl, .own _, AT.tyx (hA.same s7), k2, _, rfl, ?_⟩
              rw [show decide (A0.of (.count z t' u') = A0.count) = true from decide_eq_true rfl]
              have q : Ans H Q (some ((betweenR (W z) m m2).length : Int), r2 ++ x2 ++ (betweenR (W z) m m2).map (fun x : T3 => x.2.1)) := q
              rw [← hT5.1] at q
              exact iteT ⟨_, rfl, _, _, rfl, .inl (SqL.of hD7), _, rfl, (by show 2 ≤ sizeLine; decide), fun t2 ht2 => q t2 l5 _ (s7.trans (sameAt (Same.refl _) ht2)) upd_same (sameAt (Same.refl _) ht2 _ _ hl7)⟩
        | total z t' u' =>
          rw [show decide (A0.of (.total z t' u') = A0.gap) = false from decide_eq_false nd.2.2.1]
          refine iteF ?_
          obtain ⟨hs1, hz⟩ := hst z ⟨t', u', .inr rfl⟩
          have hW3 := hW.same s3
          obtain ⟨dxw, dw, tw, kw, iw, w1, w2, w3, w4⟩ := id hW3
          have l4 := (w4 z).1
          refine ⟨_, rfl, b, dxw, _, rfl, w1, rfl, _, rfl, a, _, dx, _, _, rfl, s3 _ _ h1, AT.cl _ Is, AT.no _ Is _ (by decide +kernel), hs1, b, W, z, rfl, hW3, hz, fun p ys H4 s4 hp hys hTr => ?_⟩
          refine ⟨p, rfl, ⟨_, SqL.of hys⟩, fun D hD => lc_it (walk_list (xs := ys)) (fun i H5 => (∃ zs, H5 D = some (.lst zs) ∧ TrAt H5 zs (betweenR ((W z).take i) m m2)) ∧ Same H4 H5) ⟨⟨[], upd_same, rfl, fun i v t a b => by simp at a⟩, sameAt (Same.refl H4) hD⟩ (fun i H5 _ hv => SqL.of (hv.2 _ _ hys)) ?_ ?_⟩
          · rintro i x H5 H6 hi ⟨⟨zs, hD5, hT5⟩, s5⟩ ⟨rfl, hx⟩
            have hi2 : i < (W z).length := by rw [← hTr.1]; exact hi
            obtain ⟨t3, ht⟩ : ∃ t3, (W z)[i]? = some t3 := ⟨_, List.getElem?_eq_getElem hi2⟩
            obtain ⟨e, rfl, he⟩ := hTr.2 i x t3 hx ht
            have he1 := s5 _ _ he
            have tk : ∀ {u} t xs, H6 t = some (.tup xs) → upd H6 D (.lst u) t = some (.tup xs) := fun {u} t xs q => by rw [upd_ne (ne_of q hD5 (by intro z; cases z))]; exact q
            have lz : zs.length ≤ 400 := by
              rw [hT5.1]
              refine Nat.le_trans (List.length_filter_le _ _) ?_
              rw [List.length_take]
              omega
            have st : betweenR ((W z).take (i + 1)) m m2 = betweenR ((W z).take i) m m2 ++ (if m < t3.1 ∧ t3.1 ≤ m2 then [t3] else []) := by
              unfold betweenR
              rw [list_take ht, List.filter_append, List.filter_cons]
              by_cases c : m < t3.1 ∧ t3.1 ≤ m2
              · rw [if_pos (decide_eq_true c), if_pos c]; rfl
              · rw [if_neg (fun z => c (of_decide_eq_true z)), if_neg c]; rfl
            refine ⟨rfl, _, rfl, _, rfl, _, _, _, _, rfl, rfl, SqT.of he1, rfl, _, _, rfl, rfl, _, rfl, ?_⟩
            rw [st]
            refine ite2 (fun ca => ?_) (fun ca => ?_)
            · have ca : m < t3.1 := of_decide_eq_true ca
              refine ⟨_, rfl, _, _, rfl, rfl, _, rfl, ?_⟩
              refine ite2 (fun cb => ?_) (fun cb => ?_)
              · rw [if_pos ⟨ca, of_decide_eq_true cb⟩]
                exact ⟨_, rfl, zs, hD5, small1000 (by omega), ⟨_, upd_same, (hT5.tk tk).snoc (tk _ _ he1)⟩, sameAt s5 hD⟩
              · rw [if_neg (fun z => cb (decide_eq_true z.2)), List.append_nil]
                exact ⟨⟨zs, hD5, hT5⟩, s5⟩
            · rw [if_neg (fun z => ca (decide_eq_true z.1)), List.append_nil]
              exact ⟨_, rfl, iteF ⟨⟨zs, hD5, hT5⟩, s5⟩⟩
          · rintro H5 ⟨⟨zs, hD5, hT5⟩, s5⟩
            rw [hTr.1, List.take_length] at hT5
            have s35 := (s3.trans s4).trans s5
            have lb : (betweenR (W z) m m2).length ≤ 400 := Nat.le_trans (List.length_filter_le _ _) l4
            refine ⟨_, rfl, D, rfl, ⟨_, SqL.of hD5⟩, fun D2 hD2 => lc_it (walk_list (xs := zs)) (fun i H6 => H6 D2 = some (.lst ((((betweenR (W z) m m2).take i).map (fun x : T3 => x.2.1)).map V.int)) ∧ Same H5 H6) ⟨upd_same, sameAt (Same.refl H5) hD2⟩ (fun i H6 _ hv => SqL.of (hv.2 _ _ hD5)) ?_ ?_⟩
            · rintro i x H6 H7 hi ⟨hD6, s6⟩ ⟨rfl, hx⟩
              have hi2 : i < (betweenR (W z) m m2).length := by rw [← hT5.1]; exact hi
              obtain ⟨t3, ht⟩ : ∃ t3, (betweenR (W z) m m2)[i]? = some t3 := ⟨_, List.getElem?_eq_getElem hi2⟩
              obtain ⟨e, rfl, he⟩ := hT5.2 i x t3 hx ht
              have he1 := s6 _ _ he
              refine ⟨rfl, _, rfl, _, _, _, _, rfl, rfl, SqT.of he1, rfl, _, hD6, ?_, ?_, sameAt s6 hD2⟩
              · rw [List.length_map, List.length_map, List.length_take]
                exact small1000 (by omega)
              · rw [upd_same, list_take ht, List.map_append, List.map_append]
                rfl
            · rintro H6 ⟨hD6, s6⟩
              rw [hT5.1, List.take_length] at hD6
              have s36 := s35.trans s6
              have hl6 := ((s4.trans s5).trans s6) _ _ hl4
              refine ⟨_, rfl, l3, _, rfl, .inr (SqL.of hl6), _, rfl, D2, _, rfl, .inr (SqL.of hD6), ?_, fun l5 hl5 => ?_⟩
              · show ((r2 ++ x2).map V.int ++ (((betweenR (W z) m m2).map (fun x : T3 => x.2.1)).map V.int ++ [])).length ≤ sizeLine
                rw [List.length_append, List.length_append, List.length_map, List.length_append, List.length_map, List.length_map, sizeLine_eq]
                show r2.length + x2.length + ((betweenR (W z) m m2).length + 0) ≤ _
                omega
              have s7 := s36.trans (sameAt (Same.refl H6) hl5 (o := .lst ((r2 ++ x2).map V.int ++ (((betweenR (W z) m m2).map (fun x : T3 => x.2.1)).map V.int ++ []))))
              have hl7 : upd H6 l5 (.lst ((r2 ++ x2).map V.int ++ (((betweenR (W z) m m2).map (fun x : T3 => x.2.1)).map V.int ++ []))) l5 = some (.lst ((r2 ++ x2 ++ (betweenR (W z) m m2).map (fun x : T3 => x.2.1)).map V.int)) := by
                rw [upd_same, List.map_append (l₁ := r2 ++ x2), List.append_nil]
              have hD7 := sameAt (Same.refl H6) hl5 (o := .lst ((r2 ++ x2).map V.int ++ (((betweenR (W z) m m2).map (fun x : T3 => x.2.1)).map V.int ++ []))) _ _ (s6 _ _ hD5)
              have hTr7 := (hT5.tk fun t xs q => s6 _ _ q).tk fun t xs q => sameAt (Same.refl H6) hl5 (o := .lst ((r2 ++ x2).map V.int ++ (((betweenR (W z) m m2).map (fun x : T3 => x.2.1)).map V.int ++ []))) _ _ q
              generalize upd H6 l5 (.lst ((r2 ++ x2).map V.int ++ (((betweenR (W z) m m2).map (fun x : T3 => x.2.1)).map V.int ++ []))) = H7 at s7 hl7 hD7 hTr7 ⊢
              have k2 := AT.one (A0.of (.total z t' u')) A0.count Is (.inr (.inl rfl))
              refine ⟨_, rfl, _, _, _, _, _, rfl, .own _, AT.tyx (hA.same s7), k2, _, rfl, ?_⟩
              rw [show decide (A0.of (.total z t' u') = A0.count) = false from decide_eq_false fun e => nd.2.1.1 e.symm]
              refine iteF ?_
              have q : Ans H Q (some ((betweenR (W z) m m2).map (fun x : T3 => x.2.2)).sum, r2 ++ x2 ++ (betweenR (W z) m m2).map (fun x : T3 => x.2.1)) := q
              refine ⟨_, rfl, D, rfl, ⟨_, SqL.of hD7⟩, fun D3 hD3 => lc_it (walk_list (xs := zs)) (fun i H8 => H8 D3 = some (.lst ((((betweenR (W z) m m2).take i).map (fun x : T3 => x.2.2)).map V.int)) ∧ Same H7 H8) ⟨upd_same, sameAt (Same.refl H7) hD3⟩ (fun i H8 _ hv => SqL.of (hv.2 _ _ hD7)) ?_ ?_⟩
              · rintro i x H8 H9 hi ⟨hD8, s8⟩ ⟨rfl, hx⟩
                have hi2 : i < (betweenR (W z) m m2).length := by rw [← hT5.1]; exact hi
                obtain ⟨t3, ht⟩ : ∃ t3, (betweenR (W z) m m2)[i]? = some t3 := ⟨_, List.getElem?_eq_getElem hi2⟩
                obtain ⟨e, rfl, he⟩ := hTr7.2 i x t3 hx ht
                have he1 := s8 _ _ he
                refine ⟨rfl, _, rfl, _, _, _, _, rfl, rfl, SqT.of he1, rfl, _, hD8, ?_, ?_, sameAt s8 hD3⟩
                · rw [List.length_map, List.length_map, List.length_take]
                  exact small1000 (by omega)
                · rw [upd_same, list_take ht, List.map_append, List.map_append]
                  rfl
              · rintro H8 ⟨hD8, s8⟩
                rw [hT5.1, List.take_length] at hD8
                exact ⟨D3, _, rfl, SqL.of hD8, _, rfl, (by show 2 ≤ sizeLine; decide), fun t2 ht2 => q t2 l5 _ ((s7.trans s8).trans (sameAt (Same.refl _) ht2)) upd_same (sameAt (Same.refl _) ht2 _ _ (s8 _ _ hl7))⟩
end
end Ash

set_option Elab.async false
set_option linter.all false
set_option maxRecDepth 100000
set_option maxHeartbeats 4000000
namespace Ash
open PySem PySem.Spec PyProof.Rows L2 SrtT
open C8 (pss_cut)
/-! ### questions: terms and amounts -/
inductive Qn where
  | tm (t : Tm)
  | am (q : Am)
def QAt (A : AC) (C : TC) (H : Hp) (a : Addr) : Qn → Prop
  | .tm t => TmAt C H a t
  | .am q => AmAt A C H a q
def evQ (W : Tr) (now : Int) : Qn → Rs
  | .tm t => ev W now t
  | .am q => evA W now q
def Qn.NmS : Qn → Prop
  | .tm t => t.NmS
  | .am q => q.NmS
def Qn.Fit : Qn → Prop
  | .tm t => t.Fit
  | .am q => q.Fit
theorem QAt.nl {A : AC} {C : TC} {H H' : Hp} (n : NL H H') {a : Addr} : ∀ {q : Qn}, QAt A C H a q → QAt A C H' a q
  | .tm _, h => TmAt.nl n h
  | .am _, h => AmAt.nl n h
theorem QAt.same {A : AC} {C : TC} {H H' : Hp} {a : Addr} {q : Qn} (h : QAt A C H a q) (s : Same H H') : QAt A C H' a q := h.nl (nl_same s)
def spIsQ (A : AC) (C : TC) : Sp := fun vs H Q _ => ∃ a t, vs = [.ref a] ∧ QAt A C H a t ∧ ∀ H', Same H H' → Q (.bl true) H'
def spCheck (A : AC) (C : TC) (CW : Addr) : Sp := fun vs H Q _ => ∃ (a b : Addr) (t : Qn) (W : Tr) (now : Int), vs = [.ref a, .ref b, .int now] ∧ QAt A C H a t ∧ WAt CW H b W ∧ ∀ H', Same H H' → Q .non H'
def spAnswered (A : AC) (C : TC) (CW : Addr) : Sp := fun vs H Q _ => ∃ (a b : Addr) (t : Qn) (W : Tr) (now : Int), vs = [.ref a, .ref b, .int now] ∧ QAt A C H a t ∧ WAt CW H b W ∧ t.NmS ∧ t.Fit ∧ Ans H Q (evQ W now t)
def spValue (A : AC) (C : TC) (CW : Addr) : Sp := fun vs H Q _ => ∃ (a b : Addr) (t : Qn) (W : Tr) (now : Int), vs = [.ref a, .ref b, .int now] ∧ QAt A C H a t ∧ WAt CW H b W ∧ t.NmS ∧ t.Fit ∧ ∀ H', Same H H' → Q (oV (evQ W now t).1) H'
section
variable {P : Program} {w : World} {K : PySem.W.Frag} {mg : Str → Option Value} {base : Heap} {C : TC} {CW : Addr} {A0 : AC}
structure U0 (P : Program) (w : World) (K : PySem.W.Frag) (mg : Str → Option Value) (base : Heap) (A0 : AC) (C : TC) (CW : Addr) : Prop extends A2 P w K mg base C CW 12 where
  is_amount : Cal P w K mg base CX0 "is_amount" 1 ["thing"] (spIsAmount A0 C)
  looked : Cal P w K mg base CX0 "looked" 29 ["question", "world", "now", "place"] (spLookedA A0 C CW 12)
  told_between : Cal P w K mg base CX0 "told_between" 29 ["question", "world", "now"] (spTold A0 C CW 12)
abbrev s_is_question : Stmt := topS 45
theorem sc_is_question : FnScope ["thing"] ["thing"] (defScope s_is_question) := ⟨rfl, rfl, rfl, by decide +kernel, rfl, by decide +kernel, by decide +kernel⟩
theorem ok_isq {f : Addr} {fd : FuncData} (F : Fun K "is_question" "is_question" s_is_question f fd) (B : Blt mg) (AT : AF K mg A0 C) (G : U0 P w K mg base A0 C CW) : FnOk P w K mg base CX0 2 f fd ["thing"] (spIsQ A0 C) := by
  refine F.ok sc_is_question (fun vs H Q E h => ?_) (fun cdv A outer s H vs Q E hr h => ?_)
  · obtain ⟨a, t, rfl, _⟩ := h
    rfl
  · obtain ⟨a, t, rfl, hT, q⟩ := h
    refine ⟨_, (pss_one (ps_ret (pe_or (pe_cal G.is_term (hr.mono (by decide)) pass0 (pa_cons (pv 0) pa_nil)) (pe_one (pe_cal G.is_amount (hr.mono (by decide)) pass0 (pa_cons (pv 0) pa_nil)))))), ?_⟩
    cases t with
    | tm t => exact ⟨_, rfl, _, rfl, .inl ⟨a, t, rfl, hT, fun H1 s1 => ⟨_, rfl, iteT (q H1 s1)⟩⟩⟩
    | am t => exact ⟨_, rfl, _, rfl, .inr ⟨AT.noTm hT, fun H1 s1 => ⟨_, rfl, iteF ⟨_, rfl, a, t, rfl, hT.same s1, fun H2 s2 => q H2 (s1.trans s2)⟩⟩⟩⟩
structure U1 (P : Program) (w : World) (K : PySem.W.Frag) (mg : Str → Option Value) (base : Heap) (A0 : AC) (C : TC) (CW : Addr) : Prop extends U0 P w K mg base A0 C CW where
  is_question : Cal P w K mg base CX0 "is_question" 2 ["thing"] (spIsQ A0 C)
abbrev s_check : Stmt := topS 57
theorem sc_check : FnScope ["question", "world", "now"] ["question", "world", "now"] (defScope s_check) := ⟨rfl, rfl, rfl, by decide +kernel, rfl, by decide +kernel, by decide +kernel⟩
theorem ok_check {f : Addr} {fd : FuncData} (F : Fun K "check" "check" s_check f fd) (B : Blt mg) (T0 : Cw K mg CW) (I0 : BkI K CW) (G : U1 P w K mg base A0 C CW) : FnOk P w K mg base CX0 3 f fd ["question", "world", "now"] (spCheck A0 C CW) := by
  have c_World := T0.c
  refine F.ok sc_check (fun vs H Q E h => ?_) (fun cdv A outer s H vs Q E hr h => ?_)
  · obtain ⟨a, b, t, W, now, rfl, _⟩ := h
    rfl
  · obtain ⟨a, b, t, W, now, rfl, hT, hW, q⟩ := h
    refine ⟨_, (pss_cons (ps_if (pt_not (pt_val (pe_cal G.is_question (hr.mono (by decide)) pass0 (pa_cons (pv 0) pa_nil))))
      (pss_one ps_never)
      pss_nil)
    (pss_cons (ps_if (pt_not (pt_val (pe_callB call_isi (by rfl) B.isinstance (by decide +kernel) (pa_cons (pv 1) (pa_cons (pe_glob (v := .ref CW) (by rfl) c_World rfl) pa_nil)))))
      (pss_one ps_never)
      pss_nil)
    (pss_one (ps_if (pt_not (pt_val (pe_cal G.is_integer (hr.mono (by decide)) pass0 (pa_cons (pv 2) pa_nil))))
      (pss_one ps_never)
      pss_nil)))), ?_⟩
    refine ⟨_, rfl, a, t, rfl, hT, fun H1 s1 => ⟨_, rfl, iteF ?_⟩⟩
    obtain ⟨dx, d, tt, kvs, ids, h1, _⟩ := hW.same s1
    refine ⟨_, rfl, _, _, _, _, true, rfl, .own _, .base (.ins h1 T0.cl I0.ha I0.hn I0.ht I0.hm), by unfold PySem.W.kitOne; simp, _, rfl, iteF ?_⟩
    exact ⟨_, rfl, _, rfl, .inl ⟨now, rfl, _, rfl, iteF (q H1 s1)⟩⟩
abbrev s_answered : Stmt := topS 58
theorem sc_answered : FnScope ["question", "world", "now"] ["question", "world", "now"] (defScope s_answered) := ⟨rfl, rfl, rfl, by decide +kernel, rfl, by decide +kernel, by decide +kernel⟩
theorem ok_answered {f : Addr} {fd : FuncData} (F : Fun K "answered" "answered" s_answered f fd) (B : Blt mg) (Cs : Cst mg) (AT : AF K mg A0 C) (G : U1 P w K mg base A0 C CW) : FnOk P w K mg base CX0 30 f fd ["question", "world", "now"] (spAnswered A0 C CW) := by
  obtain ⟨tk, g_AMOUNT⟩ := Cs.k_AMOUNT
  have c_Number := AT.Number
  refine F.ok sc_answered (fun vs H Q E h => ?_) (fun cdv A outer s H vs Q E hr h => ?_)
  · obtain ⟨a, b, t, W, now, rfl, _⟩ := h
    rfl
  · obtain ⟨a, b, t, W, now, rfl, hT, hW, hN, hF, q⟩ := h
    refine ⟨_, (pss_cons (ps_if (pt_val (pe_cal G.is_term (hr.mono (by decide)) pass0 (pa_cons (pv 0) pa_nil)))
      (pss_one (ps_ret (pe_cal G.followed (hr.mono (by decide)) pass0 (pa_cons (pv 0) (pa_cons (pv 1) (pa_cons (pv 2) pa_nil))))))
      pss_nil)
    (pss_cons (ps_if (pt_val (pe_callB call_isi (by rfl) B.isinstance (by decide +kernel) (pa_cons (pv 0) (pa_cons (pe_glob (v := .ref A0.number) (by rfl) c_Number rfl) pa_nil))))
      (pss_one (ps_ret (pe_cal G.looked (hr.mono (by decide)) pass0 (pa_cons (pv 0) (pa_cons (pv 1) (pa_cons (pv 2) (pa_cons (pe_glob (v := .int 2) (by rfl) g_AMOUNT ⟨_, rfl⟩) pa_nil)))))))
      pss_nil)
    (pss_one (ps_ret (pe_cal G.told_between (hr.mono (by decide)) pass0 (pa_cons (pv 0) (pa_cons (pv 1) (pa_cons (pv 2) pa_nil)))))))), ?_⟩
    cases t with
    | tm t =>
      have hF : t.Fit := hF
      exact ⟨_, rfl, _, rfl, .inl ⟨a, t, rfl, hT, fun H1 s1 => ⟨_, rfl, iteT ⟨_, rfl, _, rfl, _, rfl, a, b, t, W, now, rfl, TmAt.same hT s1, hW.same s1, hN, hF, hF.1, q.same s1⟩⟩⟩⟩
    | am t =>
      have hF : t.Fit := hF
      have hT : AmAt A0 C H a t := hT
      have hN : t.NmS := hN
      refine ⟨_, rfl, _, rfl, .inr ⟨AT.noTm hT, fun H1 s1 => ⟨_, rfl, iteF ?_⟩⟩⟩
      have k := AT.one (A0.of t) A0.number (A0.is_of t) (.inl rfl)
      have nd := AT.nd
      simp only [List.nodup_cons, List.mem_cons, List.not_mem_nil, or_false, not_or] at nd
      refine ⟨_, rfl, _, _, _, _, _, rfl, .own _, AT.tyx (hT.same s1), k, _, rfl, ?_⟩
      have q : Ans H Q (evA W now t) := q
      cases t with
      | number z t =>
        rw [show decide (A0.of (.number z t) = A0.number) = true from decide_eq_true rfl]
        have hF : t.Fit := hF
        exact iteT ⟨_, rfl, _, rfl, _, rfl, a, b, t, z, W, now, rfl, hT.same s1, hW.same s1, hN.1, hN.2, hF, hF.1, q.same s1⟩
      | count z t u =>
        rw [show decide (A0.of (.count z t u) = A0.number) = false from decide_eq_false fun e => nd.1.1 e.symm]
        exact iteF ⟨_, rfl, _, rfl, _, rfl, a, b, _, W, now, rfl, hT.same s1, rfl, hW.same s1, hN, hF, q.same s1⟩
      | total z t u =>
        rw [show decide (A0.of (.total z t u) = A0.number) = false from decide_eq_false fun e => nd.1.2.1 e.symm]
        exact iteF ⟨_, rfl, _, rfl, _, rfl, a, b, _, W, now, rfl, hT.same s1, rfl, hW.same s1, hN, hF, q.same s1⟩
      | gap t u =>
        rw [show decide (A0.of (.gap t u) = A0.number) = false from decide_eq_false fun e => nd.1.2.2 e.symm]
        exact iteF ⟨_, rfl, _, rfl, _, rfl, a, b, _, W, now, rfl, hT.same s1, rfl, hW.same s1, hN, hF, q.same s1⟩
structure U2 (P : Program) (w : World) (K : PySem.W.Frag) (mg : Str → Option Value) (base : Heap) (A0 : AC) (C : TC) (CW : Addr) : Prop extends U1 P w K mg base A0 C CW where
  check : Cal P w K mg base CX0 "check" 3 ["question", "world", "now"] (spCheck A0 C CW)
  answered : Cal P w K mg base CX0 "answered" 30 ["question", "world", "now"] (spAnswered A0 C CW)
abbrev s_value : Stmt := topS 55
theorem sc_value : FnScope ["question", "world", "now", "answer", "_"] ["question", "world", "now"] (defScope s_value) := ⟨rfl, rfl, rfl, by decide +kernel, rfl, by decide +kernel, by decide +kernel⟩
theorem ok_value {f : Addr} {fd : FuncData} (F : Fun K "value" "value" s_value f fd) (B : Blt mg) (G : U2 P w K mg base A0 C CW) : FnOk P w K mg base CX0 31 f fd ["question", "world", "now"] (spValue A0 C CW) := by
  refine F.ok sc_value (fun vs H Q E h => ?_) (fun cdv A outer s H vs Q E hr h => ?_)
  · obtain ⟨a, b, t, W, now, rfl, _⟩ := h
    rfl
  · obtain ⟨a, b, t, W, now, rfl, hT, hW, hN, hF, q⟩ := h
    refine ⟨_, (pss_cons (ps_expr (pe_cal G.check (hr.mono (by decide)) pass0 (pa_cons (pv 0) (pa_cons (pv 1) (pa_cons (pv 2) pa_nil)))))
    (pss_cons (ps_asg (pe_cal G.answered (hr.mono (by decide)) pass0 (pa_cons (pv 0) (pa_cons (pv 1) (pa_cons (pv 2) pa_nil)))) (pg_tup (by rfl) (pgs_cons (pg_name (i := 3) sc_value.nd rfl (Or.inl rfl)) (pgs_cons (pg_name (i := 4) sc_value.nd rfl (Or.inl rfl)) pgs_nil))))
    (pss_one (ps_ret (pv 3))))), ?_⟩
    refine ⟨_, rfl, _, rfl, _, rfl, a, b, t, W, now, rfl, hT, hW, fun H1 s1 => ?_⟩
    refine ⟨_, rfl, _, rfl, _, rfl, a, b, t, W, now, rfl, hT.same s1, hW.same s1, hN, hF, fun q1 l H2 s2 hq1 hl => ?_⟩
    exact ⟨q1, _, rfl, SqT.of hq1, rfl, _, _, rfl, _, _, rfl, rfl, _, rfl, q H2 (s1.trans s2)⟩
end
end Ash

set_option Elab.async false
set_option linter.all false
set_option maxRecDepth 100000
set_option maxHeartbeats 4000000
namespace Ash
open PySem PySem.Spec PyProof.Rows L2 SrtT
open C8 (pss_cut)
/-! ### pairs of terms, shifts back -/
def spPair (C : TC) (mk : Tm → Tm → Tm) : Sp := fun vs H Q _ => ∃ (a b : Addr) (t u : Tm), vs = [.ref a, .ref b] ∧ TmAt C H a t ∧ TmAt C H b u ∧ (mk t u).Fit ∧ ∀ a' H', TmAt C H' a' (mk t u) → Same H H' → Q (.ref a') H'
def spMinus (C : TC) : Sp := fun vs H Q _ => ∃ (a : Addr) (t : Tm) (n : Int), vs = [.ref a, .int n] ∧ TmAt C H a t ∧ (t.plus (-n)).Fit ∧ ∀ a' H', TmAt C H' a' (t.plus (-n)) → Same H H' → Q (.ref a') H'
section
variable {P : Program} {w : World} {K : PySem.W.Frag} {mg : Str → Option Value} {base : Heap} {C : TC} {CW : Addr}
structure V4 (P : Program) (w : World) (K : PySem.W.Frag) (mg : Str → Option Value) (base : Heap) (C : TC) (CW : Addr) : Prop extends V3 P w K mg base C CW where
  Either : Mak P w K mg base CX0 "Either" C.either 2 ["self", "first", "second"] (spInitP C C.either Tm.either)
  Later : Mak P w K mg base CX0 "Later" C.later 2 ["self", "first", "second"] (spInitP C C.later Tm.later)
  Earlier : Mak P w K mg base CX0 "Earlier" C.earlier 2 ["self", "first", "second"] (spInitP C C.earlier Tm.earlier)
abbrev s_Term_or : Stmt := inClass (topS 21) 3
theorem sc_Term_or : FnScope ["self", "other"] ["self", "other"] (defScope s_Term_or) := ⟨rfl, rfl, rfl, by decide +kernel, rfl, by decide +kernel, by decide +kernel⟩
theorem ok_tor {f : Addr} {fd : FuncData} (F : Fun K "__or__" "Term.__or__" s_Term_or f fd) (B : Blt mg) (G : V4 P w K mg base C CW) : FnOk P w K mg base CX0 4 f fd ["self", "other"] (spPair C Tm.either) := by
  refine F.ok sc_Term_or (fun vs H Q E h => ?_) (fun cdv A outer s H vs Q E hr h => ?_)
  · obtain ⟨a, b, t, u, rfl, _⟩ := h
    rfl
  · obtain ⟨a, b, t, u, rfl, hT, hU, hF, q⟩ := h
    refine ⟨_, (pss_cons (ps_if (pt_not (pt_val (pe_cal G.is_term (hr.mono (by decide)) pass0 (pa_cons (pv 1) pa_nil))))
      (pss_one ps_never)
      pss_nil)
    (pss_one (ps_ret (pe_mak G.Either (hr.mono (by decide)) pass0 (pa_cons (pv 0) (pa_cons (pv 1) pa_nil)))))), ?_⟩
    refine ⟨_, rfl, _, rfl, .inl ⟨b, u, rfl, hU, fun H1 s1 => ⟨_, rfl, iteF ?_⟩⟩⟩
    exact ⟨_, rfl, _, rfl, fun x dx hx hdx hne => ⟨x, dx, a, b, t, u, rfl, upd_same, (hT.same s1).same (sameAt (sameAt (Same.refl H1) hdx) hx), (hU.same s1).same (sameAt (sameAt (Same.refl H1) hdx) hx), hF, fun H' hT' hK => ⟨rfl, q x H' hT' (s1.trans (keep_make hK hx hdx))⟩⟩⟩
abbrev s_Term_later : Stmt := inClass (topS 21) 4
theorem sc_Term_later : FnScope ["self", "other"] ["self", "other"] (defScope s_Term_later) := ⟨rfl, rfl, rfl, by decide +kernel, rfl, by decide +kernel, by decide +kernel⟩
theorem ok_tlater {f : Addr} {fd : FuncData} (F : Fun K "later" "Term.later" s_Term_later f fd) (B : Blt mg) (G : V4 P w K mg base C CW) : FnOk P w K mg base CX0 4 f fd ["self", "other"] (spPair C Tm.later) := by
  refine F.ok sc_Term_later (fun vs H Q E h => ?_) (fun cdv A outer s H vs Q E hr h => ?_)
  · obtain ⟨a, b, t, u, rfl, _⟩ := h
    rfl
  · obtain ⟨a, b, t, u, rfl, hT, hU, hF, q⟩ := h
    refine ⟨_, (pss_cons (ps_if (pt_not (pt_val (pe_cal G.is_term (hr.mono (by decide)) pass0 (pa_cons (pv 1) pa_nil))))
      (pss_one ps_never)
      pss_nil)
    (pss_one (ps_ret (pe_mak G.Later (hr.mono (by decide)) pass0 (pa_cons (pv 0) (pa_cons (pv 1) pa_nil)))))), ?_⟩
    refine ⟨_, rfl, _, rfl, .inl ⟨b, u, rfl, hU, fun H1 s1 => ⟨_, rfl, iteF ?_⟩⟩⟩
    exact ⟨_, rfl, _, rfl, fun x dx hx hdx hne => ⟨x, dx, a, b, t, u, rfl, upd_same, (hT.same s1).same (sameAt (sameAt (Same.refl H1) hdx) hx), (hU.same s1).same (sameAt (sameAt (Same.refl H1) hdx) hx), hF, fun H' hT' hK => ⟨rfl, q x H' hT' (s1.trans (keep_make hK hx hdx))⟩⟩⟩
abbrev s_Term_earlier : Stmt := inClass (topS 21) 5
theorem sc_Term_earlier : FnScope ["self", "other"] ["self", "other"] (defScope s_Term_earlier) := ⟨rfl, rfl, rfl, by decide +kernel, rfl, by decide +kernel, by decide +kernel⟩
theorem ok_tearlier {f : Addr} {fd : FuncData} (F : Fun K "earlier" "Term.earlier" s_Term_earlier f fd) (B : Blt mg) (G : V4 P w K mg base C CW) : FnOk P w K mg base CX0 4 f fd ["self", "other"] (spPair C Tm.earlier) := by
  refine F.ok sc_Term_earlier (fun vs H Q E h => ?_) (fun cdv A outer s H vs Q E hr h => ?_)
  · obtain ⟨a, b, t, u, rfl, _⟩ := h
    rfl
  · obtain ⟨a, b, t, u, rfl, hT, hU, hF, q⟩ := h
    refine ⟨_, (pss_cons (ps_if (pt_not (pt_val (pe_cal G.is_term (hr.mono (by decide)) pass0 (pa_cons (pv 1) pa_nil))))
      (pss_one ps_never)
      pss_nil)
    (pss_one (ps_ret (pe_mak G.Earlier (hr.mono (by decide)) pass0 (pa_cons (pv 0) (pa_cons (pv 1) pa_nil)))))), ?_⟩
    refine ⟨_, rfl, _, rfl, .inl ⟨b, u, rfl, hU, fun H1 s1 => ⟨_, rfl, iteF ?_⟩⟩⟩
    exact ⟨_, rfl, _, rfl, fun x dx hx hdx hne => ⟨x, dx, a, b, t, u, rfl, upd_same, (hT.same s1).same (sameAt (sameAt (Same.refl H1) hdx) hx), (hU.same s1).same (sameAt (sameAt (Same.refl H1) hdx) hx), hF, fun H' hT' hK => ⟨rfl, q x H' hT' (s1.trans (keep_make hK hx hdx))⟩⟩⟩
abbrev s_Term_sub : Stmt := inClass (topS 21) 2
theorem sc_Term_sub : FnScope ["self", "other"] ["self", "other"] (defScope s_Term_sub) := ⟨rfl, rfl, rfl, by decide +kernel, rfl, by decide +kernel, by decide +kernel⟩
theorem ok_tsub {f : Addr} {fd : FuncData} (F : Fun K "__sub__" "Term.__sub__" s_Term_sub f fd) (B : Blt mg) (G : V3 P w K mg base C CW) : FnOk P w K mg base CX0 5 f fd ["self", "other"] (spMinus C) := by
  refine F.ok sc_Term_sub (fun vs H Q E h => ?_) (fun cdv A outer s H vs Q E hr h => ?_)
  · obtain ⟨a, t, n, rfl, _⟩ := h
    rfl
  · obtain ⟨a, t, n, rfl, hT, hF, q⟩ := h
    refine ⟨_, (pss_cons (ps_if (pt_not (pt_val (pe_cal G.is_integer (hr.mono (by decide)) pass0 (pa_cons (pv 1) pa_nil))))
      (pss_one ps_never)
      pss_nil)
    (pss_one (ps_ret (pe_cal G.shifted (hr.mono (by decide)) pass0 (pa_cons (pv 0) (pa_cons (pe_un un_neg (pv 1)) pa_nil)))))), ?_⟩
    exact ⟨_, rfl, _, rfl, .inl ⟨n, rfl, _, rfl, iteF ⟨_, rfl, _, rfl, _, rfl, a, t, -n, rfl, hT, hF, q⟩⟩⟩
end
end Ash

set_option Elab.async false
set_option linter.all false
set_option maxRecDepth 100000
set_option maxHeartbeats 4000000
namespace Ash
open PySem PySem.Spec PyProof.Rows L2 SrtT
open C8 (pss_cut)
theorem dp_ints {K : PySem.W.Frag} {H : Hp} : ∀ is : List Int, DpAll K H (is.map V.int) (is.map PyData.int)
  | [] => .nil
  | i :: r => .cons (.int i) (dp_ints r)
theorem ints_shaped (is : List Int) : SeqAt.shaped (.list (is.map PyData.int)) = true := by
  have q : (is.map PyData.int).all flatD = true := by
    rw [List.all_eq_true]
    intro d hd
    obtain ⟨_, _, rfl⟩ := List.mem_map.mp hd
    rfl
  obtain ⟨h1, h2⟩ := flat_lay q
  unfold SeqAt.shaped
  simp [PyData.canLay0, PyData.depth, h1]
  omega
/-- data are as themselves -/
theorem eqv_self {d : PyData} (h : SeqAt.shaped d = true) : PyData.eqv d d = true := SeqAt.eqv_refl d (SeqAt.canLay_of_shaped h)
theorem asc_same : ∀ {xs ys : List Int}, xs.Pairwise (· < ·) → ys.Pairwise (· < ·) → (∀ z, z ∈ xs ↔ z ∈ ys) → xs = ys
  | [], [], _, _, _ => rfl
  | [], y :: ys, _, _, h => nomatch (h y).mpr List.mem_cons_self
  | x :: xs, [], _, _, h => nomatch (h x).mp List.mem_cons_self
  | x :: xs, y :: ys, hx, hy, h => by
    obtain ⟨hx1, hx2⟩ := List.pairwise_cons.mp hx
    obtain ⟨hy1, hy2⟩ := List.pairwise_cons.mp hy
    have e : x = y := by
      rcases List.mem_cons.mp ((h x).mp List.mem_cons_self) with e | e
      · exact e
      · rcases List.mem_cons.mp ((h y).mpr List.mem_cons_self) with e2 | e2
        · exact e2.symm
        · have := hx1 y e2
          have := hy1 x e
          omega
    subst e
    refine congrArg (x :: ·) (asc_same hx2 hy2 fun z => ⟨fun hz => ?_, fun hz => ?_⟩)
    · rcases List.mem_cons.mp ((h z).mp (List.mem_cons_of_mem _ hz)) with e | e
      · have := hx1 z hz
        omega
      · exact e
    · rcases List.mem_cons.mp ((h z).mpr (List.mem_cons_of_mem _ hz)) with e | e
      · have := hy1 z hz
        omega
      · exact e
def td (t : T3) : PyData := .tuple [.int t.1, .int t.2.1, .int t.2.2]
theorem tds_flat : ∀ ts : List T3, PyData.canLayAll0 (ts.map td) = true ∧ PyData.depthAll (ts.map td) ≤ 2
  | [] => by simp [PyData.canLayAll0, PyData.depthAll]
  | x :: xs => by
    obtain ⟨b1, b2⟩ := tds_flat xs
    rw [List.map_cons]
    have a1 : (td x).canLay0 = true := by simp [td, PyData.canLay0, PyData.canLayAll0]
    have a2 : (td x).depth ≤ 2 := by simp [td, PyData.depth, PyData.depthAll]
    simp only [PyData.canLayAll0, PyData.depthAll, a1, b1, Bool.and_self, true_and]
    omega
theorem tds_shaped (ts : List T3) : SeqAt.shaped (.list (ts.map td)) = true := by
  obtain ⟨h1, h2⟩ := tds_flat ts
  unfold SeqAt.shaped
  simp [PyData.canLay0, PyData.depth, h1]
  omega
theorem TrAt.dp {K : PySem.W.Frag} {H : Hp} : ∀ {ys : List V} {ts : List T3}, TrAt H ys ts → DpAll K H ys (ts.map td)
  | [], [], _ => .nil
  | [], _ :: _, h => by have := h.1; simp at this
  | _ :: _, [], h => by have := h.1; simp at this
  | y :: ys, t :: ts, h => by
    obtain ⟨e, rfl, he⟩ := h.2 0 y t rfl rfl
    exact .cons (.tup (SqT.of he) (.cons (.int _) (.cons (.int _) (.cons (.int _) .nil)))) (TrAt.dp ⟨by have := h.1; simpa using this, fun i v u a b => h.2 (i + 1) v u a b⟩)
/-! ### shifts -/
theorem moveR_0 (r : Rs) : moveR r 0 = r := by
  obtain ⟨a, b⟩ := r
  cases a with
  | none => rfl
  | some m => show (some (m + 0), b) = _; rw [Int.add_zero]
theorem moveR_2 (r : Rs) (m n : Int) : moveR (moveR r m) n = moveR r (m + n) := by
  obtain ⟨a, b⟩ := r
  cases a with
  | none => rfl
  | some k => show (some (k + m + n), b) = (some (k + (m + n)), b); rw [Int.add_assoc]
theorem plus_ev {W : Tr} {now : Int} (t : Tm) (n : Int) : ev W now (t.plus n) = moveR (ev W now t) n := by
  unfold Tm.plus
  split
  · next h => rw [h, moveR_0]
  · split
    · next m u =>
      show ev W now (if m + n = 0 then u else .shift (m + n) u) = moveR (moveR (ev W now u) m) n
      rw [moveR_2]
      split
      · next h => rw [h, moveR_0]
      · rfl
    · rfl
theorem plus_nm {t : Tm} {n : Int} (h : t.NmS) : (t.plus n).NmS := by
  unfold Tm.plus
  split
  · exact h
  · split
    · next m u =>
      split
      · exact h
      · exact h
    · exact h
theorem plus_sz {t : Tm} {n : Int} : (t.plus n).dep ≤ t.dep + 1 ∧ (t.plus n).par ≤ t.par + 1 ∧ (t.plus n).lok ≤ t.lok := by
  unfold Tm.plus
  split
  · exact ⟨by omega, by omega, by omega⟩
  · split
    · next m u =>
      have e1 : (Tm.shift m u).dep = 1 + u.dep := rfl
      have e2 : (Tm.shift m u).par = 1 + u.par := rfl
      have e3 : (Tm.shift m u).lok = 0 + u.lok := rfl
      split
      · exact ⟨by omega, by omega, by omega⟩
      · have f1 : (Tm.shift (m + n) u).dep = 1 + u.dep := rfl
        have f2 : (Tm.shift (m + n) u).par = 1 + u.par := rfl
        have f3 : (Tm.shift (m + n) u).lok = 0 + u.lok := rfl
        exact ⟨by omega, by omega, by omega⟩
    · have f1 : ∀ u : Tm, (Tm.shift n u).dep = 1 + u.dep := fun _ => rfl
      have f2 : ∀ u : Tm, (Tm.shift n u).par = 1 + u.par := fun _ => rfl
      have f3 : ∀ u : Tm, (Tm.shift n u).lok = 0 + u.lok := fun _ => rfl
      exact ⟨by rw [f1]; omega, by rw [f2]; omega, by rw [f3]; omega⟩
/-! ### what the law keeps -/
/-- all but the pool and one list stands -/
structure Fz (H0 H : Hp) (p s sn : Addr) : Prop where
  now : PoolAt H p s
  keep : ∀ c o, H0 c = some o → c ≠ p → c ≠ sn → H c = some o
theorem Fz.pl {H0 H1 H2 : Hp} {p s sn : Addr} (z : Fz H0 H1 p s sn) (P : Pl H1 H2 p s) : Fz H0 H2 p s sn := ⟨P.now, fun c o h n1 n2 => P.keep (z.keep c o h n1 n2) n1⟩
theorem Fz.same {H0 H1 H2 : Hp} {p s sn : Addr} (z : Fz H0 H1 p s sn) (e : Same H1 H2) : Fz H0 H2 p s sn := ⟨z.now.same e, fun c o h n1 n2 => e _ _ (z.keep c o h n1 n2)⟩
theorem Fz.upd {H0 H1 : Hp} {p s sn : Addr} {o : HO} (z : Fz H0 H1 p s sn) (n1 : sn ≠ p) (n2 : sn ≠ s) : Fz H0 (upd H1 sn o) p s sn := ⟨z.now.off n1 n2, fun c o h m1 m2 => by rw [upd_ne m2]; exact z.keep c o h m1 m2⟩
theorem nl_pl {H H' : Hp} {p s : Addr} (P0 : PoolAt H p s) (P : Pl H H' p s) : NL H H' := fun c o h n => by
  obtain ⟨ns, i, c', k, m, hp, _⟩ := P0
  exact P.keep h fun e => by rw [e, hp] at h; exact n _ (Option.some.inj h).symm
theorem nl_upd {H : Hp} {q : Addr} {xs : List V} {o : HO} (h : H q = some (.lst xs)) : NL H (upd H q o) := fun c u hc n => by
  rw [upd_ne fun e => by rw [e, h] at hc; exact n _ (Option.some.inj hc).symm]
  exact hc
theorem Fz.nl {H0 H1 : Hp} {p s sn : Addr} {xs : List V} (z : Fz H0 H1 p s sn) (hp : PoolAt H0 p s) (hs : H0 sn = some (.lst xs)) : NL H0 H1 := fun c o h n => by
  obtain ⟨ns, i, c', k, m, hp, _⟩ := hp
  refine z.keep c o h (fun e => ?_) (fun e => ?_)
  · rw [e, hp] at h
    exact n _ (Option.some.inj h).symm
  · rw [e, hs] at h
    exact n _ (Option.some.inj h).symm
theorem RwAt.fz {H0 H1 : Hp} {p s sn d : Addr} {names : List Str} {A : Str → Addr} {T : Tr} {xs : List V} (R : RwAt H0 d names A T) (z : Fz H0 H1 p s sn) (hp : PoolAt H0 p s) (hs : H0 sn = some (.lst xs)) (n : ∀ y ∈ names, A y ≠ p ∧ A y ≠ sn) : RwAt H1 d names A T := by
  have nl := z.nl hp hs
  exact ⟨nl _ _ R.at_ (fun _ z => nomatch z), fun y hy => by
    obtain ⟨ys, h1, h2⟩ := R.row y hy
    exact ⟨ys, z.keep _ _ h1 (n y hy).1 (n y hy).2, h2.tk fun t us q => nl _ _ q (fun _ z => nomatch z)⟩, R.inj⟩
/-- the copies that the law has made -/
def KpAt (H : Hp) (us : List V) (names : List Str) (T : Tr) (N : Addr → Prop) : Prop := us.length = names.length ∧ ∀ (i : Nat) z, names[i]? = some z → ∃ e c ys, us[i]? = some (.ref e) ∧ H e = some (.tup [.str z, .ref c]) ∧ H c = some (.lst ys) ∧ TrAt H ys (T z) ∧ N c
theorem KpAt.to {H H' : Hp} {us : List V} {names : List Str} {T : Tr} {N N' : Addr → Prop} (k : KpAt H us names T N) (nl : NL H H') (hk : ∀ c ys, H c = some (.lst ys) → N c → H' c = some (.lst ys) ∧ N' c) : KpAt H' us names T N' := ⟨k.1, fun i z h => by
  obtain ⟨e, c, ys, h1, h2, h3, h4, h5⟩ := k.2 i z h
  obtain ⟨h6, h7⟩ := hk c ys h3 h5
  exact ⟨e, c, ys, h1, nl _ _ h2 (fun _ z => nomatch z), h6, h4.tk fun t us q => nl _ _ q (fun _ z => nomatch z), h7⟩⟩
theorem KpAt.snoc {H : Hp} {us : List V} {names : List Str} {T : Tr} {N : Addr → Prop} {e c : Addr} {z : Str} {ys : List V} (k : KpAt H us names T N) (he : H e = some (.tup [.str z, .ref c])) (hc : H c = some (.lst ys)) (hT : TrAt H ys (T z)) (n : N c) : KpAt H (us ++ [.ref e]) (names ++ [z]) T N := by
  refine ⟨by rw [List.length_append, List.length_append, k.1]; rfl, fun i y h => ?_⟩
  by_cases hi : i < names.length
  · rw [List.getElem?_append_left hi] at h
    obtain ⟨e', c', ys', h1, h2⟩ := k.2 i y h
    exact ⟨e', c', ys', by rw [List.getElem?_append_left (by rw [k.1]; exact hi)]; exact h1, h2⟩
  · have hi' : i = names.length := by
      have := (List.getElem?_eq_some_iff.mp h).1
      rw [List.length_append] at this
      have : i < names.length + 1 := this
      omega
    subst hi'
    rw [List.getElem?_append_right (Nat.le_refl _), Nat.sub_self] at h
    cases h
    exact ⟨e, c, ys, by rw [List.getElem?_append_right (by rw [k.1]; exact Nat.le_refl _), k.1, Nat.sub_self]; rfl, he, hc, hT, n⟩
theorem look_none {r : Rs} {f : Int → Option T3} (h : r.1.bind f = none) : lookR r f = (none, r.2) := by
  obtain ⟨a, b⟩ := r
  cases a with
  | none => rfl
  | some m =>
    have h : f m = none := h
    show (match f m with | none => (none, b) | some t => _) = _
    rw [h]
theorem look_some {r : Rs} {f : Int → Option T3} {t : T3} (h : r.1.bind f = some t) : lookR r f = (some t.1, r.2 ++ [t.2.1]) := by
  obtain ⟨a, b⟩ := r
  cases a with
  | none => cases h
  | some m =>
    have h : f m = some t := h
    show (match f m with | none => (none, b) | some t => _) = _
    rw [h]
theorem oV_fst {r : Rs} {d : Option Int} (h : r.1 = d) : oV r.1 = oV d := by rw [h]
end Ash

set_option Elab.async false
set_option linter.all false
set_option maxRecDepth 100000
set_option maxHeartbeats 4000000
namespace Ash
open PySem PySem.Spec PyProof.Rows L2 SrtT
open C8 (pss_cut)
/-! ### terms as the law draws them: tuples in tuples -/
def MdAt (H : Hp) : Addr → Tm → Prop
  | e, .now => H e = some (.tup [.str "now"])
  | e, .last s t => ∃ b, H e = some (.tup [.str "last", .str s, .ref b]) ∧ MdAt H b t
  | e, .next s t => ∃ b, H e = some (.tup [.str "next", .str s, .ref b]) ∧ MdAt H b t
  | e, .shift n t => ∃ b, H e = some (.tup [.str "shift", .int n, .ref b]) ∧ MdAt H b t
  | e, .either t u => ∃ b c, H e = some (.tup [.str "either", .ref b, .ref c]) ∧ MdAt H b t ∧ MdAt H c u
  | e, .later t u => ∃ b c, H e = some (.tup [.str "later", .ref b, .ref c]) ∧ MdAt H b t ∧ MdAt H c u
  | e, .earlier t u => ∃ b c, H e = some (.tup [.str "earlier", .ref b, .ref c]) ∧ MdAt H b t ∧ MdAt H c u
theorem MdAt.tk {H H' : Hp} (n : ∀ t xs, H t = some (.tup xs) → H' t = some (.tup xs)) : ∀ {t : Tm} {a : Addr}, MdAt H a t → MdAt H' a t
  | .now, a, h => n _ _ h
  | .last s t, a, ⟨b, h1, h2⟩ => ⟨b, n _ _ h1, MdAt.tk n h2⟩
  | .next s t, a, ⟨b, h1, h2⟩ => ⟨b, n _ _ h1, MdAt.tk n h2⟩
  | .shift s t, a, ⟨b, h1, h2⟩ => ⟨b, n _ _ h1, MdAt.tk n h2⟩
  | .either s t, a, ⟨b, c, h1, h2, h3⟩ => ⟨b, c, n _ _ h1, MdAt.tk n h2, MdAt.tk n h3⟩
  | .later s t, a, ⟨b, c, h1, h2, h3⟩ => ⟨b, c, n _ _ h1, MdAt.tk n h2, MdAt.tk n h3⟩
  | .earlier s t, a, ⟨b, c, h1, h2, h3⟩ => ⟨b, c, n _ _ h1, MdAt.tk n h2, MdAt.tk n h3⟩
theorem pl_tk {H H' : Hp} {p s : Addr} (P0 : PoolAt H p s) (P : Pl H H' p s) : ∀ t xs, H t = some (.tup xs) → H' t = some (.tup xs) := fun t xs h => nl_pl P0 P _ _ h (fun _ z => nomatch z)
/-- the term that is built -/
def bt : Tm → Tm
  | .now => .now
  | .last s t => .last s (bt t)
  | .next s t => .next s (bt t)
  | .shift n t => (bt t).plus n
  | .either a b => .either (bt a) (bt b)
  | .later a b => .later (bt a) (bt b)
  | .earlier a b => .earlier (bt a) (bt b)
theorem mx_mono {a b c d : Int} (h1 : a ≤ c) (h2 : b ≤ d) : Tm.mx a b ≤ Tm.mx c d := by
  unfold Tm.mx
  split <;> split <;> omega
theorem bt_sz : ∀ t : Tm, (bt t).dep ≤ t.dep ∧ (bt t).par ≤ t.par ∧ (bt t).lok ≤ t.lok
  | .now => ⟨Int.le_refl _, Int.le_refl _, Int.le_refl _⟩
  | .last s t => by
    obtain ⟨h1, h2, h3⟩ := bt_sz t
    exact ⟨by show 1 + (bt t).dep ≤ 1 + t.dep; omega, by show 1 + (bt t).par ≤ 1 + t.par; omega, by show 1 + (bt t).lok ≤ 1 + t.lok; omega⟩
  | .next s t => by
    obtain ⟨h1, h2, h3⟩ := bt_sz t
    exact ⟨by show 1 + (bt t).dep ≤ 1 + t.dep; omega, by show 1 + (bt t).par ≤ 1 + t.par; omega, by show 1 + (bt t).lok ≤ 1 + t.lok; omega⟩
  | .shift n t => by
    obtain ⟨h1, h2, h3⟩ := bt_sz t
    obtain ⟨q1, q2, q3⟩ := plus_sz (t := bt t) (n := n)
    exact ⟨by show ((bt t).plus n).dep ≤ 1 + t.dep; omega, by show ((bt t).plus n).par ≤ 1 + t.par; omega, by show ((bt t).plus n).lok ≤ 0 + t.lok; omega⟩
  | .either a b => by
    obtain ⟨h1, h2, h3⟩ := bt_sz a
    obtain ⟨g1, g2, g3⟩ := bt_sz b
    have := mx_mono h1 g1
    exact ⟨by show 1 + Tm.mx (bt a).dep (bt b).dep ≤ 1 + Tm.mx a.dep b.dep; omega, by show 1 + ((bt a).par + (bt b).par) ≤ 1 + (a.par + b.par); omega, by show 0 + ((bt a).lok + (bt b).lok) ≤ 0 + (a.lok + b.lok); omega⟩
  | .later a b => by
    obtain ⟨h1, h2, h3⟩ := bt_sz a
    obtain ⟨g1, g2, g3⟩ := bt_sz b
    have := mx_mono h1 g1
    exact ⟨by show 1 + Tm.mx (bt a).dep (bt b).dep ≤ 1 + Tm.mx a.dep b.dep; omega, by show 1 + ((bt a).par + (bt b).par) ≤ 1 + (a.par + b.par); omega, by show 0 + ((bt a).lok + (bt b).lok) ≤ 0 + (a.lok + b.lok); omega⟩
  | .earlier a b => by
    obtain ⟨h1, h2, h3⟩ := bt_sz a
    obtain ⟨g1, g2, g3⟩ := bt_sz b
    have := mx_mono h1 g1
    exact ⟨by show 1 + Tm.mx (bt a).dep (bt b).dep ≤ 1 + Tm.mx a.dep b.dep; omega, by show 1 + ((bt a).par + (bt b).par) ≤ 1 + (a.par + b.par); omega, by show 0 + ((bt a).lok + (bt b).lok) ≤ 0 + (a.lok + b.lok); omega⟩
theorem bt_nm : ∀ {t : Tm}, t.NmS → (bt t).NmS
  | .now, _ => trivial
  | .last s t, h => ⟨h.1, bt_nm h.2⟩
  | .next s t, h => ⟨h.1, bt_nm h.2⟩
  | .shift n t, h => plus_nm (bt_nm (t := t) h)
  | .either a b, h => ⟨bt_nm h.1, bt_nm h.2⟩
  | .later a b, h => ⟨bt_nm h.1, bt_nm h.2⟩
  | .earlier a b, h => ⟨bt_nm h.1, bt_nm h.2⟩
/-- the streams of a term are among these -/
def Tm.InS (ns : List Str) : Tm → Prop
  | .now => True
  | .last s t => s ∈ ns ∧ Tm.InS ns t
  | .next s t => s ∈ ns ∧ Tm.InS ns t
  | .shift _ t => Tm.InS ns t
  | .either a b => Tm.InS ns a ∧ Tm.InS ns b
  | .later a b => Tm.InS ns a ∧ Tm.InS ns b
  | .earlier a b => Tm.InS ns a ∧ Tm.InS ns b
/-- how large a term of so many levels may be -/
def pB : Nat → Int
  | 0 => 1
  | d + 1 => 1 + 2 * pB d
def lB : Nat → Int
  | 0 => 0
  | 1 => 1
  | d + 2 => 2 * lB (d + 1)
theorem lB_pos : ∀ d, 1 ≤ lB (d + 1)
  | 0 => Int.le_refl 1
  | d + 1 => by have := lB_pos d; show 1 ≤ 2 * lB (d + 1); omega
theorem lB_nn : ∀ d, 0 ≤ lB d
  | 0 => Int.le_refl 0
  | d + 1 => by have := lB_pos d; omega
theorem lB_up : ∀ d, 1 + lB d ≤ lB (d + 1) ∧ 2 * lB d ≤ lB (d + 1)
  | 0 => ⟨by decide, by decide⟩
  | d + 1 => by have := lB_pos d; exact ⟨by show 1 + lB (d + 1) ≤ 2 * lB (d + 1); omega, by show 2 * lB (d + 1) ≤ 2 * lB (d + 1); omega⟩
theorem pB_pos : ∀ d, 1 ≤ pB d
  | 0 => Int.le_refl 1
  | d + 1 => by have := pB_pos d; show 1 ≤ 1 + 2 * pB d; omega
structure Lev (t : Tm) (d : Nat) : Prop where
  dep : t.dep ≤ (d : Int) + 1
  par : t.par ≤ pB d
  lok : t.lok ≤ lB d
  nm : t.NmS
def spLTerm (d : Nat) : Sp := fun vs H Q _ => ∃ (p s l : Addr) (names : List Str), vs = [.ref p, .ref l, .int (d : Int)] ∧ PoolAt H p s ∧ l ≠ p ∧ H l = some (.lst (names.map V.str)) ∧ 1 ≤ names.length ∧ names.length ≤ 25 ∧ (∀ z ∈ names, IsNm z) ∧
  ∀ e t H', MdAt H' e t → Lev t d → t.InS names → Pl H H' p s → Q (.ref e) H'
def spBuilt (C : TC) (d : Nat) : Sp := fun vs H Q _ => ∃ (e : Addr) (t : Tm), vs = [.ref e] ∧ MdAt H e t ∧ t.NmS ∧ t.Fit ∧ t.dep ≤ (d : Int) ∧ ∀ a H', TmAt C H' a (bt t) → Same H H' → Q (.ref a) H'
section
variable {P : Program} {w : World} {K : PySem.W.Frag} {mg : Str → Option Value} {base : Heap} {C : TC} {CW : Addr}
abbrev s_l_term : Stmt := topS 75
theorem sc_l_term : FnScope ["pool", "streams", "depth", "kind", "inner"] ["pool", "streams", "depth"] (defScope s_l_term) := ⟨rfl, rfl, rfl, by decide +kernel, rfl, by decide +kernel, by decide +kernel⟩
theorem ok_lterm0 {f : Addr} {fd : FuncData} (F : Fun K "_law_term" "_law_term" s_l_term f fd) (B : Blt mg) (G : G2w P w K mg base) : FnOk P w K mg base CX0 (0 + 3) f fd ["pool", "streams", "depth"] (spLTerm 0) := by
  refine F.ok sc_l_term (fun vs H Q E h => ?_) (fun cdv A outer s H vs Q E hr h => ?_)
  · obtain ⟨p, s, l, names, rfl, _⟩ := h
    rfl
  · obtain ⟨p, s0, l, names, rfl, hP, hlp, hl, n1, n25, hnm, q⟩ := h
    refine ⟨_, (pss_cons (ps_set (i := 3) sc_l_term.nd rfl (Or.inl rfl) (pe_cal G.law_draw (hr.mono (by decide)) pass0 (pa_cons (pv 0) (pa_cons pe_int pa_nil))))
    (pss_cons (ps_if (PW.pt (pw_or (pt_cmpR op_eq (pv 2) pe_int (nomark _)) (pw_or1 (pt_cmpR op_eq (pv 3) pe_int (nomark _)))))
      (pss_one (ps_ret (pe_tup (pa_cons pe_str pa_nil))))
      pss_nil)
    (pss_cons ps_never
    (pss_cons (ps_if (pt_cmpR op_lt (pv 3) pe_int (nomark _))
      (pss_one (ps_ret (pe_tup (pa_cons pe_str (pa_cons (pe_ix ix_list (pv 1) (pe_cal G.law_draw (hr.mono (by decide)) pass0 (pa_cons (pv 0) (pa_cons (pe_callB call_len (by rfl) B.len (by decide +kernel) (pa_cons (pv 1) pa_nil)) pa_nil))) (fun _ _ => rfl)) (pa_cons (pv 4) pa_nil))))))
      pss_nil)
    (pss_cons (ps_if (pt_cmpR op_eq (pv 3) pe_int (nomark _))
      (pss_one (ps_ret (pe_tup (pa_cons pe_str (pa_cons (pe_ix ix_list (pv 1) (pe_cal G.law_draw (hr.mono (by decide)) pass0 (pa_cons (pv 0) (pa_cons (pe_callB call_len (by rfl) B.len (by decide +kernel) (pa_cons (pv 1) pa_nil)) pa_nil))) (fun _ _ => rfl)) (pa_cons (pv 4) pa_nil))))))
      pss_nil)
    (pss_cons (ps_if (pt_cmpR op_eq (pv 3) pe_int (nomark _))
      (pss_one (ps_ret (pe_tup (pa_cons pe_str (pa_cons (pe_cal G.law_moment (hr.mono (by decide)) pass0 (pa_cons (pv 0) pa_nil)) (pa_cons (pv 4) pa_nil))))))
      pss_nil)
    (pss_one ps_never))))))), ?_⟩
    refine ⟨_, rfl, p, s0, 8, rfl, hP, (by decide), (by decide), fun kind H1 k0 k8 P1 => ?_⟩
    refine ⟨_, rfl, rfl, _, rfl, ?_⟩
    refine ite2 (fun _ => ?_) (fun c => absurd rfl c)
    exact ⟨(by show 1 ≤ sizeLine; decide), fun e he => q e .now _ upd_same ⟨by decide, by decide, by decide, trivial⟩ trivial (P1.new he)⟩
structure G3t (P : Program) (w : World) (K : PySem.W.Frag) (mg : Str → Option Value) (base : Heap) (d : Nat) : Prop extends G2w P w K mg base where
  law_term : Cal P w K mg base CX0 "_law_term" (d + 3) ["pool", "streams", "depth"] (spLTerm d)
theorem ok_lterm {f : Addr} {fd : FuncData} {d : Nat} (F : Fun K "_law_term" "_law_term" s_l_term f fd) (B : Blt mg) (G : G3t P w K mg base d) : FnOk P w K mg base CX0 (d + 1 + 3) f fd ["pool", "streams", "depth"] (spLTerm (d + 1)) := by
  refine F.ok sc_l_term (fun vs H Q E h => ?_) (fun cdv A outer s H vs Q E hr h => ?_)
  · obtain ⟨p, s, l, names, rfl, _⟩ := h
    rfl
  · obtain ⟨p, s0, l, names, rfl, hP, hlp, hl, n1, n25, hnm, q⟩ := h
    refine ⟨_, (pss_cons (ps_set (i := 3) sc_l_term.nd rfl (Or.inl rfl) (pe_cal G.law_draw (hr.mono (by omega)) pass0 (pa_cons (pv 0) (pa_cons pe_int pa_nil))))
    (pss_cons (ps_if (PW.pt (pw_or (pt_cmpR op_eq (pv 2) pe_int (nomark _)) (pw_or1 (pt_cmpR op_eq (pv 3) pe_int (nomark _)))))
      (pss_one (ps_ret (pe_tup (pa_cons pe_str pa_nil))))
      pss_nil)
    (pss_cons (ps_set (i := 4) sc_l_term.nd rfl (Or.inl rfl) (pe_cal G.law_term (hr.mono (by omega)) pass0 (pa_cons (pv 0) (pa_cons (pv 1) (pa_cons (pe_op op_sub (pv 2) pe_int) pa_nil)))))
    (pss_cons (ps_if (pt_cmpR op_lt (pv 3) pe_int (nomark _))
      (pss_one (ps_ret (pe_tup (pa_cons pe_str (pa_cons (pe_ix ix_list (pv 1) (pe_cal G.law_draw (hr.mono (by omega)) pass0 (pa_cons (pv 0) (pa_cons (pe_callB call_len (by rfl) B.len (by decide +kernel) (pa_cons (pv 1) pa_nil)) pa_nil))) (fun _ _ => rfl)) (pa_cons (pv 4) pa_nil))))))
      pss_nil)
    (pss_cons (ps_if (pt_cmpR op_eq (pv 3) pe_int (nomark _))
      (pss_one (ps_ret (pe_tup (pa_cons pe_str (pa_cons (pe_ix ix_list (pv 1) (pe_cal G.law_draw (hr.mono (by omega)) pass0 (pa_cons (pv 0) (pa_cons (pe_callB call_len (by rfl) B.len (by decide +kernel) (pa_cons (pv 1) pa_nil)) pa_nil))) (fun _ _ => rfl)) (pa_cons (pv 4) pa_nil))))))
      pss_nil)
    (pss_cons (ps_if (pt_cmpR op_eq (pv 3) pe_int (nomark _))
      (pss_one (ps_ret (pe_tup (pa_cons pe_str (pa_cons (pe_cal G.law_moment (hr.mono (by omega)) pass0 (pa_cons (pv 0) pa_nil)) (pa_cons (pv 4) pa_nil))))))
      pss_nil)
    (pss_one (ps_ret (pe_tup (pa_cons (pe_ix ix_list (pe_lst (pa_cons pe_str (pa_cons pe_str (pa_cons pe_str pa_nil)))) (pe_op op_sub (pv 3) pe_int) (fun _ _ => rfl)) (pa_cons (pv 4) (pa_cons (pe_cal G.law_term (hr.mono (by omega)) pass0 (pa_cons (pv 0) (pa_cons (pv 1) (pa_cons (pe_op op_sub (pv 2) pe_int) pa_nil)))) pa_nil)))))))))))), ?_⟩
    refine ⟨_, rfl, p, s0, 8, rfl, hP, (by decide), (by decide), fun kind H1 k0 k8 P1 => ?_⟩
    refine ⟨_, rfl, rfl, _, rfl, ?_⟩
    refine ite2 (fun c => ?_) (fun _ => ?_)
    · have := V.int.inj (of_decide_eq_true c)
      omega
    refine ⟨_, rfl, rfl, _, rfl, ?_⟩
    have := pB_pos d
    have lnn := lB_nn (d + 1)
    refine ite2 (fun _ => ?_) (fun ck => ?_)
    · exact ⟨(by show 1 ≤ sizeLine; decide), fun e he => q e .now _ upd_same ⟨by show (1 : Int) ≤ _; omega, by show (1 : Int) ≤ 1 + 2 * pB d; omega, lnn, trivial⟩ trivial (P1.new he)⟩
    have hl1 := P1.keep hl hlp
    have ed : (((d + 1 : Nat) : Int) - 1) = (d : Int) := by omega
    refine ⟨_, rfl, _, rfl, _, rfl, _, _, rfl, rfl, p, s0, l, names, (by show [V.ref p, V.ref l, V.int (((d + 1 : Nat) : Int) - 1)] = _; rw [ed]), P1.now, hlp, hl1, n1, n25, hnm, fun e1 t1 H2 hM1 L1 I1 P2 => ?_⟩
    have P12 := P1.trans P2
    have hl2 := P2.keep hl1 hlp
    obtain ⟨u1, u2⟩ := lB_up d
    have y1 := L1.dep
    have y2 := L1.par
    have y3 := L1.lok
    refine ⟨_, rfl, _, _, rfl, rfl, _, rfl, ?_⟩
    refine ite2 (fun _ => ?_) (fun c3 => ?_)
    · refine ⟨_, rfl, _, rfl, _, rfl, _, _, rfl, .inl ⟨_, SqL.of hl2, rfl⟩, p, s0, _, rfl, P2.now, (by rw [List.length_map]; omega), Int.lt_of_le_of_lt (show ((names.map V.str).length : Int) ≤ 25 by rw [List.length_map]; omega) (by decide), fun g H3 g0 g1 P3 => ?_⟩
      rw [List.length_map] at g1
      obtain ⟨j, rfl⟩ : ∃ j : Nat, g = (j : Int) := ⟨g.toNat, by omega⟩
      have hj : j < names.length := by omega
      have hz : names[j] ∈ names := List.getElem_mem hj
      generalize hzz : names[j] = z at hz
      refine ⟨_, _, _, .str z, rfl, rfl, SqL.of (P3.keep hl2 hlp), atI_nat (by rw [List.getElem?_map, List.getElem?_eq_getElem hj, hzz]; rfl), _, rfl, (by show 3 ≤ sizeLine; decide), fun e he => ?_⟩
      have k3 := hM1.tk (pl_tk P2.now P3)
      exact q e (.last z t1) _ ⟨e1, upd_same, k3.tk fun t xs h => sameAt (Same.refl H3) he _ _ h⟩ ⟨by show 1 + t1.dep ≤ _; omega, by show 1 + t1.par ≤ 1 + 2 * pB d; omega, by show 1 + t1.lok ≤ _; omega, hnm z hz, L1.nm⟩ ⟨hz, I1⟩ ((P12.trans P3).new he)
    refine ⟨_, rfl, rfl, _, rfl, ?_⟩
    refine ite2 (fun _ => ?_) (fun c4 => ?_)
    · refine ⟨_, rfl, _, rfl, _, rfl, _, _, rfl, .inl ⟨_, SqL.of hl2, rfl⟩, p, s0, _, rfl, P2.now, (by rw [List.length_map]; omega), Int.lt_of_le_of_lt (show ((names.map V.str).length : Int) ≤ 25 by rw [List.length_map]; omega) (by decide), fun g H3 g0 g1 P3 => ?_⟩
      rw [List.length_map] at g1
      obtain ⟨j, rfl⟩ : ∃ j : Nat, g = (j : Int) := ⟨g.toNat, by omega⟩
      have hj : j < names.length := by omega
      have hz : names[j] ∈ names := List.getElem_mem hj
      generalize hzz : names[j] = z at hz
      refine ⟨_, _, _, .str z, rfl, rfl, SqL.of (P3.keep hl2 hlp), atI_nat (by rw [List.getElem?_map, List.getElem?_eq_getElem hj, hzz]; rfl), _, rfl, (by show 3 ≤ sizeLine; decide), fun e he => ?_⟩
      have k3 := hM1.tk (pl_tk P2.now P3)
      exact q e (.next z t1) _ ⟨e1, upd_same, k3.tk fun t xs h => sameAt (Same.refl H3) he _ _ h⟩ ⟨by show 1 + t1.dep ≤ _; omega, by show 1 + t1.par ≤ 1 + 2 * pB d; omega, by show 1 + t1.lok ≤ _; omega, hnm z hz, L1.nm⟩ ⟨hz, I1⟩ ((P12.trans P3).new he)
    refine ⟨_, rfl, rfl, _, rfl, ?_⟩
    refine ite2 (fun _ => ?_) (fun c5 => ?_)
    · refine ⟨_, rfl, p, s0, rfl, P2.now, fun m H3 _ P3 => ⟨_, rfl, (by show 3 ≤ sizeLine; decide), fun e he => ?_⟩⟩
      have k3 := hM1.tk (pl_tk P2.now P3)
      exact q e (.shift m t1) _ ⟨e1, upd_same, k3.tk fun t xs h => sameAt (Same.refl H3) he _ _ h⟩ ⟨by show 1 + t1.dep ≤ _; omega, by show 1 + t1.par ≤ 1 + 2 * pB d; omega, by show 0 + t1.lok ≤ _; omega, L1.nm⟩ I1 ((P12.trans P3).new he)
    have c3 : ¬ kind < 3 := fun z => c3 (decide_eq_true z)
    have c4 : ¬ kind = 3 := fun z => c4 (decide_eq_true (by rw [z]))
    have c5 : ¬ kind = 4 := fun z => c5 (decide_eq_true (by rw [z]))
    obtain ⟨w9, mk, hat, hmk⟩ : ∃ (w9 : Str) (mk : Tm → Tm → Tm), atI ([.str "either", .str "later", .str "earlier"] : List V) (kind - 5) = some (.str w9) ∧ ((w9 = "either" ∧ mk = Tm.either) ∨ (w9 = "later" ∧ mk = Tm.later) ∨ (w9 = "earlier" ∧ mk = Tm.earlier)) := by
      have : kind = 5 ∨ kind = 6 ∨ kind = 7 := by omega
      rcases this with rfl | rfl | rfl
      · exact ⟨"either", Tm.either, rfl, .inl ⟨rfl, rfl⟩⟩
      · exact ⟨"later", Tm.later, rfl, .inr (.inl ⟨rfl, rfl⟩)⟩
      · exact ⟨"earlier", Tm.earlier, rfl, .inr (.inr ⟨rfl, rfl⟩)⟩
    refine ⟨(by show 3 ≤ sizeLine; decide), fun ll hll => ?_⟩
    have P2l : Pl H (upd H2 ll (.lst [.str "either", .str "later", .str "earlier"])) p s0 := P12.new hll
    have tkl : ∀ t xs, H2 t = some (.tup xs) → upd H2 ll (.lst [.str "either", .str "later", .str "earlier"]) t = some (.tup xs) := fun t xs h => sameAt (Same.refl H2) hll _ _ h
    refine ⟨_, rfl, _, _, rfl, rfl, _, _, _, _, rfl, rfl, SqL.of upd_same, hat, _, rfl, _, rfl, _, rfl, _, rfl, _, _, rfl, rfl, p, s0, l, names, (by show [V.ref p, V.ref l, V.int (((d + 1 : Nat) : Int) - 1)] = _; rw [ed]), P2l.now, hlp, sameAt (Same.refl H2) hll _ _ hl2, n1, n25, hnm, fun e2 t2 H3 hM2 L2' I2 P3 => ⟨(by show 3 ≤ sizeLine; decide), fun e he => ?_⟩⟩
    have z1 := L2'.dep
    have z2 := L2'.par
    have z3 := L2'.lok
    have mxl : Tm.mx t1.dep t2.dep ≤ (d : Int) + 1 := by unfold Tm.mx; split <;> assumption
    have k1 := ((hM1.tk tkl).tk (pl_tk P2l.now P3)).tk fun t xs h => sameAt (Same.refl H3) he (o := .tup [.str w9, .ref e1, .ref e2]) _ _ h
    have k2 := hM2.tk fun t xs h => sameAt (Same.refl H3) he (o := .tup [.str w9, .ref e1, .ref e2]) _ _ h
    have PF : Pl H (upd H3 e (.tup [.str w9, .ref e1, .ref e2])) p s0 := (P2l.trans P3).new he
    rcases hmk with ⟨rfl, rfl⟩ | ⟨rfl, rfl⟩ | ⟨rfl, rfl⟩
    · exact q e (.either t1 t2) _ ⟨e1, e2, upd_same, k1, k2⟩ ⟨by show 1 + Tm.mx t1.dep t2.dep ≤ _; omega, by show 1 + (t1.par + t2.par) ≤ 1 + 2 * pB d; omega, by show 0 + (t1.lok + t2.lok) ≤ _; omega, L1.nm, L2'.nm⟩ ⟨I1, I2⟩ PF
    · exact q e (.later t1 t2) _ ⟨e1, e2, upd_same, k1, k2⟩ ⟨by show 1 + Tm.mx t1.dep t2.dep ≤ _; omega, by show 1 + (t1.par + t2.par) ≤ 1 + 2 * pB d; omega, by show 0 + (t1.lok + t2.lok) ≤ _; omega, L1.nm, L2'.nm⟩ ⟨I1, I2⟩ PF
    · exact q e (.earlier t1 t2) _ ⟨e1, e2, upd_same, k1, k2⟩ ⟨by show 1 + Tm.mx t1.dep t2.dep ≤ _; omega, by show 1 + (t1.par + t2.par) ≤ 1 + 2 * pB d; omega, by show 0 + (t1.lok + t2.lok) ≤ _; omega, L1.nm, L2'.nm⟩ ⟨I1, I2⟩ PF
end
end Ash

set_option Elab.async false
set_option linter.all false
set_option maxRecDepth 100000
set_option maxHeartbeats 4000000
namespace Ash
open PySem PySem.Spec PyProof.Rows L2 SrtT
open C8 (pss_cut)
theorem pe_mak0 {X : Cx} {CX : CXT} {k : Nat} {ps : List Str} {sp : Sp} {E : XK} {x : Str} {p pos : Pos} {C : Addr} (G : Mak X.prog X.w X.K X.mg X.base CX x C k ps sp) (hr : Room (k + 1) X.A) (hx : Passes CX X E) (hg : Gl X x := by rfl)
    (hdb : (x == ("__debug__" : Str)) = false := by decide) : PE X (.Call (.Name x p) [] [] pos) (tMake C sp [] E tNil) := by
  obtain ⟨f, fd, M, hm, hb, F⟩ := G.ex
  exact pe_make0 M F hr hg hm hb .nil hx hdb
section
variable {P : Program} {w : World} {K : PySem.W.Frag} {mg : Str → Option Value} {base : Heap} {C : TC} {CW : Addr}
/-- what the law's building calls -/
structure B0 (P : Program) (w : World) (K : PySem.W.Frag) (mg : Str → Option Value) (base : Heap) (C : TC) : Prop where
  Now : Mak P w K mg base CX0 "Now" C.now 2 ["self"] (spInit0 C)
  Last : Mak P w K mg base CX0 "Last" C.last 3 ["self", "stream", "term"] (spInitL C C.last Tm.last)
  Next : Mak P w K mg base CX0 "Next" C.next 3 ["self", "stream", "term"] (spInitL C C.next Tm.next)
/-- the operators and methods of terms -/
structure Ops (P : Program) (w : World) (K : PySem.W.Frag) (mg : Str → Option Value) (base : Heap) (C : TC) : Prop where
  add : ∃ f fd, OpI K C.Is .Add f ∧ FnOk P w K mg base CX0 5 f fd ["self", "other"] (spShifted C) ∧ Binds K fd ["self", "other"] []
  or_ : ∃ f fd, OpF K C.Is .BitOr f ∧ FnOk P w K mg base CX0 4 f fd ["self", "other"] (spPair C Tm.either) ∧ Binds K fd ["self", "other"] []
  later : ∃ f fd, MethF K C.Is "later" f ∧ FnOk P w K mg base CX0 4 f fd ["self", "other"] (spPair C Tm.later) ∧ Binds K fd ["self", "other"] []
  earlier : ∃ f fd, MethF K C.Is "earlier" f ∧ FnOk P w K mg base CX0 4 f fd ["self", "other"] (spPair C Tm.earlier) ∧ Binds K fd ["self", "other"] []
structure B1 (P : Program) (w : World) (K : PySem.W.Frag) (mg : Str → Option Value) (base : Heap) (C : TC) (d : Nat) : Prop extends B0 P w K mg base C where
  law_built : Cal P w K mg base CX0 "_law_built" (d + 6) ["model"] (spBuilt C d)
abbrev s_l_built : Stmt := topS 76
theorem sc_l_built : FnScope ["model", "first", "second"] ["model"] (defScope s_l_built) := ⟨rfl, rfl, rfl, by decide +kernel, rfl, by decide +kernel, by decide +kernel⟩
theorem ok_built0 {f : Addr} {fd : FuncData} (F : Fun K "_law_built" "_law_built" s_l_built f fd) : FnOk P w K mg base CX0 (0 + 6) f fd ["model"] (spBuilt C 0) := by
  refine F.ok sc_l_built (fun vs H Q E h => ?_) (fun cdv A outer s H vs Q E hr h => ?_)
  · obtain ⟨e, t, rfl, _⟩ := h
    rfl
  · obtain ⟨e, t, rfl, _, _, _, hd, _⟩ := h
    have := t.dep_pos
    have hd : t.dep ≤ 0 := hd
    omega
theorem TmAt.meth {H : Hp} {a : Addr} {t : Tm} (h : TmAt C H a t) : ∃ dx fs, H a = some (.ins (C.of t) dx fs) ∧ fs.lookup ("later" : Str) = none ∧ fs.lookup ("earlier" : Str) = none := by
  obtain ⟨dx, fs, sp, i⟩ := h.in_
  exact ⟨dx, fs, i.at_, i.no _ (by decide +kernel) (by decide +kernel), i.no _ (by decide +kernel) (by decide +kernel)⟩
theorem ok_built {f : Addr} {fd : FuncData} {d : Nat} (F : Fun K "_law_built" "_law_built" s_l_built f fd) (B : Blt mg) (G : B1 P w K mg base C d) (O : Ops P w K mg base C) : FnOk P w K mg base CX0 (d + 1 + 6) f fd ["model"] (spBuilt C (d + 1)) := by
  obtain ⟨fa, fda, OA, Fa, ba⟩ := O.add
  obtain ⟨fo, fdo, OO, Fo, bo⟩ := O.or_
  obtain ⟨fl, fdl, ML, Fl, bl⟩ := O.later
  obtain ⟨fe, fde, ME, Fe, be⟩ := O.earlier
  refine F.ok sc_l_built (fun vs H Q E h => ?_) (fun cdv A outer s H vs Q E hr h => ?_)
  · obtain ⟨e, t, rfl, _⟩ := h
    rfl
  · obtain ⟨e, t, rfl, hM, hN, hF, hd, q⟩ := h
    refine ⟨_, (pss_cons (ps_if (pt_cmpR op_eq (pe_ix ix_tup (pv 0) pe_int (fun _ _ => rfl)) pe_str (nomark _))
      (pss_one (ps_ret (pe_mak0 G.Now (hr.mono (by omega)) pass0)))
      pss_nil)
    (pss_cons (ps_if (pt_cmpR op_eq (pe_ix ix_tup (pv 0) pe_int (fun _ _ => rfl)) pe_str (nomark _))
      (pss_one (ps_ret (pe_op (op_int OA Fa ba pass0 (hr.mono (by omega))) (pe_cal G.law_built (hr.mono (by omega)) pass0 (pa_cons (pe_ix ix_tup (pv 0) pe_int (fun _ _ => rfl)) pa_nil)) (pe_ix ix_tup (pv 0) pe_int (fun _ _ => rfl)))))
      pss_nil)
    (pss_cons (ps_if (pt_cmpR op_eq (pe_ix ix_tup (pv 0) pe_int (fun _ _ => rfl)) pe_str (nomark _))
      (pss_one (ps_ret (pe_mak G.Last (hr.mono (by omega)) pass0 (pa_cons (pe_ix ix_tup (pv 0) pe_int (fun _ _ => rfl)) (pa_cons (pe_cal G.law_built (hr.mono (by omega)) pass0 (pa_cons (pe_ix ix_tup (pv 0) pe_int (fun _ _ => rfl)) pa_nil)) pa_nil)))))
      pss_nil)
    (pss_cons (ps_if (pt_cmpR op_eq (pe_ix ix_tup (pv 0) pe_int (fun _ _ => rfl)) pe_str (nomark _))
      (pss_one (ps_ret (pe_mak G.Next (hr.mono (by omega)) pass0 (pa_cons (pe_ix ix_tup (pv 0) pe_int (fun _ _ => rfl)) (pa_cons (pe_cal G.law_built (hr.mono (by omega)) pass0 (pa_cons (pe_ix ix_tup (pv 0) pe_int (fun _ _ => rfl)) pa_nil)) pa_nil)))))
      pss_nil)
    (pss_cons (ps_set (i := 1) sc_l_built.nd rfl (Or.inl rfl) (pe_cal G.law_built (hr.mono (by omega)) pass0 (pa_cons (pe_ix ix_tup (pv 0) pe_int (fun _ _ => rfl)) pa_nil)))
    (pss_cons (ps_set (i := 2) sc_l_built.nd rfl (Or.inl rfl) (pe_cal G.law_built (hr.mono (by omega)) pass0 (pa_cons (pe_ix ix_tup (pv 0) pe_int (fun _ _ => rfl)) pa_nil)))
    (pss_cons (ps_if (pt_cmpR op_eq (pe_ix ix_tup (pv 0) pe_int (fun _ _ => rfl)) pe_str (nomark _))
      (pss_one (ps_ret (pe_op (op_fam OO Fo bo pass0 (hr.mono (by omega))) (pv 1) (pv 2))))
      pss_nil)
    (pss_cons (ps_if (pt_cmpR op_eq (pe_ix ix_tup (pv 0) pe_int (fun _ _ => rfl)) pe_str (nomark _))
      (pss_one (ps_ret (pe_methF (pv 1) ML Fl (hr.mono (by omega)) bl pass0 (pa_cons (pv 2) pa_nil))))
      pss_nil)
    (pss_one (ps_ret (pe_methF (pv 1) ME Fe (hr.mono (by omega)) be pass0 (pa_cons (pv 2) pa_nil)))))))))))), ?_⟩
    cases t with
    | now =>
      have hM : H e = some (.tup [.str "now"]) := hM
      refine ⟨_, rfl, _, _, _, _, rfl, rfl, SqT.of hM, rfl, rfl, _, rfl, iteT ?_⟩
      exact fun x dx hx hdx hne => ⟨x, dx, rfl, upd_same, fun H' hT' hK => ⟨rfl, q x H' hT' (keep_make hK hx hdx)⟩⟩
    | shift n u =>
      obtain ⟨b, he, hu⟩ := hM
      have hd : 1 + u.dep ≤ ((d + 1 : Nat) : Int) := hd
      obtain ⟨z1, z2, z3⟩ := bt_sz u
      obtain ⟨q1, q2, q3⟩ := plus_sz (t := bt u) (n := n)
      obtain ⟨f1, f2, f3⟩ := hF
      have f1 : 1 + u.dep ≤ 12 := f1
      have f2 : 1 + u.par ≤ 40 := f2
      have f3 : 0 + u.lok ≤ 12 := f3
      refine ⟨_, rfl, _, _, _, _, rfl, rfl, SqT.of he, rfl, rfl, _, rfl, iteF ⟨_, rfl, _, _, _, _, rfl, rfl, SqT.of he, rfl, rfl, _, rfl, iteT ?_⟩⟩
      refine ⟨_, rfl, _, _, _, _, rfl, rfl, SqT.of he, rfl, b, u, rfl, hu, hN, ⟨by omega, by omega, by omega⟩, by omega, fun a1 H1 hT1 s1 => ?_⟩
      have he1 := s1 _ _ he
      obtain ⟨dx, fs, h1, _⟩ := hT1.meth
      exact ⟨_, rfl, _, _, _, _, rfl, rfl, SqT.of he1, rfl, a1, _, dx, fs, n, rfl, rfl, h1, C.is_of _, a1, bt u, n, rfl, hT1, ⟨by omega, by omega, by omega⟩, fun a2 H2 hT2 s2 => q a2 H2 hT2 (s1.trans s2)⟩
    | last z u =>
      obtain ⟨b, he, hu⟩ := hM
      have hd : 1 + u.dep ≤ ((d + 1 : Nat) : Int) := hd
      obtain ⟨z1, z2, z3⟩ := bt_sz u
      obtain ⟨f1, f2, f3⟩ := hF
      have f1 : 1 + u.dep ≤ 12 := f1
      have f2 : 1 + u.par ≤ 40 := f2
      have f3 : 1 + u.lok ≤ 12 := f3
      refine ⟨_, rfl, _, _, _, _, rfl, rfl, SqT.of he, rfl, rfl, _, rfl, iteF ⟨_, rfl, _, _, _, _, rfl, rfl, SqT.of he, rfl, rfl, _, rfl, iteF ⟨_, rfl, _, _, _, _, rfl, rfl, SqT.of he, rfl, rfl, _, rfl, iteT ?_⟩⟩⟩
      refine ⟨_, rfl, _, _, _, _, rfl, rfl, SqT.of he, rfl, _, rfl, _, _, _, _, rfl, rfl, SqT.of he, rfl, b, u, rfl, hu, hN.2, ⟨by omega, by omega, by omega⟩, by omega, fun a1 H1 hT1 s1 => ?_⟩
      exact fun x dx hx hdx hne => ⟨x, dx, a1, z, bt u, rfl, upd_same, hN.1, hT1.same (sameAt (sameAt (Same.refl H1) hdx) hx), ⟨by show 1 + (bt u).dep ≤ 12; omega, by show 1 + (bt u).par ≤ 40; omega, by show 1 + (bt u).lok ≤ 12; omega⟩, fun H' hT' hK => ⟨rfl, q x H' hT' (s1.trans (keep_make hK hx hdx))⟩⟩
    | next z u =>
      obtain ⟨b, he, hu⟩ := hM
      have hd : 1 + u.dep ≤ ((d + 1 : Nat) : Int) := hd
      obtain ⟨z1, z2, z3⟩ := bt_sz u
      obtain ⟨f1, f2, f3⟩ := hF
      have f1 : 1 + u.dep ≤ 12 := f1
      have f2 : 1 + u.par ≤ 40 := f2
      have f3 : 1 + u.lok ≤ 12 := f3
      refine ⟨_, rfl, _, _, _, _, rfl, rfl, SqT.of he, rfl, rfl, _, rfl, iteF ⟨_, rfl, _, _, _, _, rfl, rfl, SqT.of he, rfl, rfl, _, rfl, iteF ⟨_, rfl, _, _, _, _, rfl, rfl, SqT.of he, rfl, rfl, _, rfl, iteF ⟨_, rfl, _, _, _, _, rfl, rfl, SqT.of he, rfl, rfl, _, rfl, iteT ?_⟩⟩⟩⟩
      refine ⟨_, rfl, _, _, _, _, rfl, rfl, SqT.of he, rfl, _, rfl, _, _, _, _, rfl, rfl, SqT.of he, rfl, b, u, rfl, hu, hN.2, ⟨by omega, by omega, by omega⟩, by omega, fun a1 H1 hT1 s1 => ?_⟩
      exact fun x dx hx hdx hne => ⟨x, dx, a1, z, bt u, rfl, upd_same, hN.1, hT1.same (sameAt (sameAt (Same.refl H1) hdx) hx), ⟨by show 1 + (bt u).dep ≤ 12; omega, by show 1 + (bt u).par ≤ 40; omega, by show 1 + (bt u).lok ≤ 12; omega⟩, fun H' hT' hK => ⟨rfl, q x H' hT' (s1.trans (keep_make hK hx hdx))⟩⟩
    | either x y =>
      obtain ⟨b, c, he, hx, hy⟩ := hM
      have hd : 1 + Tm.mx x.dep y.dep ≤ ((d + 1 : Nat) : Int) := hd
      have m1 := Tm.mx_l x.dep y.dep
      have m2 := Tm.mx_r x.dep y.dep
      obtain ⟨z1, z2, z3⟩ := bt_sz x
      obtain ⟨y1, y2, y3⟩ := bt_sz y
      have mm := mx_mono z1 y1
      have hFF := hF
      obtain ⟨f1, f2, f3⟩ := hF
      have f1 : 1 + Tm.mx x.dep y.dep ≤ 12 := f1
      have f2 : 1 + (x.par + y.par) ≤ 40 := f2
      have f3 : 0 + (x.lok + y.lok) ≤ 12 := f3
      have p1 := x.par_pos
      have p2 := y.par_pos
      have p3 := x.lok_nn
      have p4 := y.lok_nn
      have fit : (Tm.either (bt x) (bt y)).Fit := ⟨by show 1 + Tm.mx (bt x).dep (bt y).dep ≤ 12; omega, by show 1 + ((bt x).par + (bt y).par) ≤ 40; omega, by show 0 + ((bt x).lok + (bt y).lok) ≤ 12; omega⟩
      refine ⟨_, rfl, _, _, _, _, rfl, rfl, SqT.of he, rfl, rfl, _, rfl, iteF ⟨_, rfl, _, _, _, _, rfl, rfl, SqT.of he, rfl, rfl, _, rfl, iteF ⟨_, rfl, _, _, _, _, rfl, rfl, SqT.of he, rfl, rfl, _, rfl, iteF ⟨_, rfl, _, _, _, _, rfl, rfl, SqT.of he, rfl, rfl, _, rfl, iteF ?_⟩⟩⟩⟩
      refine ⟨_, rfl, _, _, _, _, rfl, rfl, SqT.of he, rfl, b, x, rfl, hx, hN.1, ⟨by omega, by omega, by omega⟩, by omega, fun a1 H1 hT1 s1 => ?_⟩
      have he1 := s1 _ _ he
      refine ⟨_, rfl, _, _, _, _, rfl, rfl, SqT.of he1, rfl, c, y, rfl, hy.tk fun t xs h => s1 _ _ h, hN.2, ⟨by omega, by omega, by omega⟩, by omega, fun a2 H2 hT2 s2 => ?_⟩
      have hT1' := hT1.same s2
      have he2 := s2 _ _ he1
      obtain ⟨dx1, fs1, g1, g2, g3⟩ := hT1'.meth
      obtain ⟨dx2, fs2, g4, _⟩ := hT2.meth
      refine ⟨_, rfl, _, _, _, _, rfl, rfl, SqT.of he2, rfl, rfl, _, rfl, iteT ?_⟩
      exact ⟨_, rfl, _, rfl, a1, a2, _, _, dx1, dx2, fs1, fs2, rfl, rfl, g1, C.is_of _, g4, C.is_of _, a1, a2, bt x, bt y, rfl, hT1', hT2, fit, fun a3 H3 hT3 s3 => q a3 H3 hT3 ((s1.trans s2).trans s3)⟩
    | later x y =>
      obtain ⟨b, c, he, hx, hy⟩ := hM
      have hd : 1 + Tm.mx x.dep y.dep ≤ ((d + 1 : Nat) : Int) := hd
      have m1 := Tm.mx_l x.dep y.dep
      have m2 := Tm.mx_r x.dep y.dep
      obtain ⟨z1, z2, z3⟩ := bt_sz x
      obtain ⟨y1, y2, y3⟩ := bt_sz y
      have mm := mx_mono z1 y1
      have hFF := hF
      obtain ⟨f1, f2, f3⟩ := hF
      have f1 : 1 + Tm.mx x.dep y.dep ≤ 12 := f1
      have f2 : 1 + (x.par + y.par) ≤ 40 := f2
      have f3 : 0 + (x.lok + y.lok) ≤ 12 := f3
      have p1 := x.par_pos
      have p2 := y.par_pos
      have p3 := x.lok_nn
      have p4 := y.lok_nn
      have fit : (Tm.later (bt x) (bt y)).Fit := ⟨by show 1 + Tm.mx (bt x).dep (bt y).dep ≤ 12; omega, by show 1 + ((bt x).par + (bt y).par) ≤ 40; omega, by show 0 + ((bt x).lok + (bt y).lok) ≤ 12; omega⟩
      refine ⟨_, rfl, _, _, _, _, rfl, rfl, SqT.of he, rfl, rfl, _, rfl, iteF ⟨_, rfl, _, _, _, _, rfl, rfl, SqT.of he, rfl, rfl, _, rfl, iteF ⟨_, rfl, _, _, _, _, rfl, rfl, SqT.of he, rfl, rfl, _, rfl, iteF ⟨_, rfl, _, _, _, _, rfl, rfl, SqT.of he, rfl, rfl, _, rfl, iteF ?_⟩⟩⟩⟩
      refine ⟨_, rfl, _, _, _, _, rfl, rfl, SqT.of he, rfl, b, x, rfl, hx, hN.1, ⟨by omega, by omega, by omega⟩, by omega, fun a1 H1 hT1 s1 => ?_⟩
      have he1 := s1 _ _ he
      refine ⟨_, rfl, _, _, _, _, rfl, rfl, SqT.of he1, rfl, c, y, rfl, hy.tk fun t xs h => s1 _ _ h, hN.2, ⟨by omega, by omega, by omega⟩, by omega, fun a2 H2 hT2 s2 => ?_⟩
      have hT1' := hT1.same s2
      have he2 := s2 _ _ he1
      obtain ⟨dx1, fs1, g1, g2, g3⟩ := hT1'.meth
      obtain ⟨dx2, fs2, g4, _⟩ := hT2.meth
      refine ⟨_, rfl, _, _, _, _, rfl, rfl, SqT.of he2, rfl, rfl, _, rfl, iteF ⟨_, rfl, _, _, _, _, rfl, rfl, SqT.of he2, rfl, rfl, _, rfl, iteT ?_⟩⟩
      exact ⟨_, rfl, a1, _, dx1, fs1, rfl, g1, C.is_of _, g2, _, rfl, a1, a2, bt x, bt y, rfl, hT1', hT2, fit, fun a3 H3 hT3 s3 => q a3 H3 hT3 ((s1.trans s2).trans s3)⟩
    | earlier x y =>
      obtain ⟨b, c, he, hx, hy⟩ := hM
      have hd : 1 + Tm.mx x.dep y.dep ≤ ((d + 1 : Nat) : Int) := hd
      have m1 := Tm.mx_l x.dep y.dep
      have m2 := Tm.mx_r x.dep y.dep
      obtain ⟨z1, z2, z3⟩ := bt_sz x
      obtain ⟨y1, y2, y3⟩ := bt_sz y
      have mm := mx_mono z1 y1
      have hFF := hF
      obtain ⟨f1, f2, f3⟩ := hF
      have f1 : 1 + Tm.mx x.dep y.dep ≤ 12 := f1
      have f2 : 1 + (x.par + y.par) ≤ 40 := f2
      have f3 : 0 + (x.lok + y.lok) ≤ 12 := f3
      have p1 := x.par_pos
      have p2 := y.par_pos
      have p3 := x.lok_nn
      have p4 := y.lok_nn
      have fit : (Tm.earlier (bt x) (bt y)).Fit := ⟨by show 1 + Tm.mx (bt x).dep (bt y).dep ≤ 12; omega, by show 1 + ((bt x).par + (bt y).par) ≤ 40; omega, by show 0 + ((bt x).lok + (bt y).lok) ≤ 12; omega⟩
      refine ⟨_, rfl, _, _, _, _, rfl, rfl, SqT.of he, rfl, rfl, _, rfl, iteF ⟨_, rfl, _, _, _, _, rfl, rfl, SqT.of he, rfl, rfl, _, rfl, iteF ⟨_, rfl, _, _, _, _, rfl, rfl, SqT.of he, rfl, rfl, _, rfl, iteF ⟨_, rfl, _, _, _, _, rfl, rfl, SqT.of he, rfl, rfl, _, rfl, iteF ?_⟩⟩⟩⟩
      refine ⟨_, rfl, _, _, _, _, rfl, rfl, SqT.of he, rfl, b, x, rfl, hx, hN.1, ⟨by omega, by omega, by omega⟩, by omega, fun a1 H1 hT1 s1 => ?_⟩
      have he1 := s1 _ _ he
      refine ⟨_, rfl, _, _, _, _, rfl, rfl, SqT.of he1, rfl, c, y, rfl, hy.tk fun t xs h => s1 _ _ h, hN.2, ⟨by omega, by omega, by omega⟩, by omega, fun a2 H2 hT2 s2 => ?_⟩
      have hT1' := hT1.same s2
      have he2 := s2 _ _ he1
      obtain ⟨dx1, fs1, g1, g2, g3⟩ := hT1'.meth
      obtain ⟨dx2, fs2, g4, _⟩ := hT2.meth
      refine ⟨_, rfl, _, _, _, _, rfl, rfl, SqT.of he2, rfl, rfl, _, rfl, iteF ⟨_, rfl, _, _, _, _, rfl, rfl, SqT.of he2, rfl, rfl, _, rfl, iteF ?_⟩⟩
      exact ⟨_, rfl, a1, _, dx1, fs1, rfl, g1, C.is_of _, g3, _, rfl, a1, a2, bt x, bt y, rfl, hT1', hT2, fit, fun a3 H3 hT3 s3 => q a3 H3 hT3 ((s1.trans s2).trans s3)⟩
end
end Ash

set_option Elab.async false
set_option linter.all false
set_option maxRecDepth 100000
set_option maxHeartbeats 4000000
namespace Ash
open PySem PySem.Spec PyProof.Rows L2 SrtT
open C8 (pss_cut)
/-! ### questions as the laws draw them -/
def MqAt (H : Hp) (e : Addr) : Qn → Prop
  | .tm t => MdAt H e t
  | .am (.number s t) => ∃ b, H e = some (.tup [.str "number", .str s, .ref b]) ∧ MdAt H b t
  | .am (.count s t u) => ∃ b c, H e = some (.tup [.str "count", .str s, .ref b, .ref c]) ∧ MdAt H b t ∧ MdAt H c u
  | .am (.total s t u) => ∃ b c, H e = some (.tup [.str "total", .str s, .ref b, .ref c]) ∧ MdAt H b t ∧ MdAt H c u
  | .am (.gap t u) => ∃ b c, H e = some (.tup [.str "gap", .ref b, .ref c]) ∧ MdAt H b t ∧ MdAt H c u
theorem MqAt.tk {H H' : Hp} (n : ∀ t xs, H t = some (.tup xs) → H' t = some (.tup xs)) {a : Addr} : ∀ {q : Qn}, MqAt H a q → MqAt H' a q
  | .tm t, h => MdAt.tk n h
  | .am (.number s t), ⟨b, h1, h2⟩ => ⟨b, n _ _ h1, h2.tk n⟩
  | .am (.count s t u), ⟨b, c, h1, h2, h3⟩ => ⟨b, c, n _ _ h1, h2.tk n, h3.tk n⟩
  | .am (.total s t u), ⟨b, c, h1, h2, h3⟩ => ⟨b, c, n _ _ h1, h2.tk n, h3.tk n⟩
  | .am (.gap t u), ⟨b, c, h1, h2, h3⟩ => ⟨b, c, n _ _ h1, h2.tk n, h3.tk n⟩
/-- the question that is built -/
def bq : Qn → Qn
  | .tm t => .tm (bt t)
  | .am (.number s t) => .am (.number s (bt t))
  | .am (.count s t u) => .am (.count s (bt t) (bt u))
  | .am (.total s t u) => .am (.total s (bt t) (bt u))
  | .am (.gap t u) => .am (.gap (bt t) (bt u))
theorem bt_fit {t : Tm} (h : t.Fit) : (bt t).Fit := by
  obtain ⟨z1, z2, z3⟩ := bt_sz t
  obtain ⟨h1, h2, h3⟩ := h
  exact ⟨by omega, by omega, by omega⟩
theorem bq_nm : ∀ {q : Qn}, q.NmS → (bq q).NmS
  | .tm t, h => bt_nm (t := t) h
  | .am (.number s t), h => ⟨h.1, bt_nm h.2⟩
  | .am (.count s t u), h => ⟨h.1, bt_nm h.2.1, bt_nm h.2.2⟩
  | .am (.total s t u), h => ⟨h.1, bt_nm h.2.1, bt_nm h.2.2⟩
  | .am (.gap t u), h => ⟨bt_nm h.1, bt_nm h.2⟩
theorem bq_fit : ∀ {q : Qn}, q.Fit → (bq q).Fit
  | .tm t, h => bt_fit (t := t) h
  | .am (.number s t), h => bt_fit (t := t) h
  | .am (.count s t u), h => ⟨bt_fit h.1, bt_fit h.2⟩
  | .am (.total s t u), h => ⟨bt_fit h.1, bt_fit h.2⟩
  | .am (.gap t u), h => ⟨bt_fit h.1, bt_fit h.2⟩
/-- a question of so many levels -/
def LevQ : Qn → Nat → Prop
  | .tm t, d => Lev t (d + 1)
  | .am (.number s t), d => IsNm s ∧ Lev t d
  | .am (.count s t u), d => IsNm s ∧ Lev t d ∧ Lev u d
  | .am (.total s t u), d => IsNm s ∧ Lev t d ∧ Lev u d
  | .am (.gap t u), d => Lev t d ∧ Lev u d
theorem Lev.fit {t : Tm} {d : Nat} (h : Lev t d) (hd : d ≤ 4) : t.Fit := by
  have h1 := h.dep
  have h2 := h.par
  have h3 := h.lok
  have : pB d ≤ 31 ∧ lB d ≤ 8 := by
    have : d = 0 ∨ d = 1 ∨ d = 2 ∨ d = 3 ∨ d = 4 := by omega
    rcases this with rfl | rfl | rfl | rfl | rfl <;> decide
  exact ⟨by omega, by omega, by omega⟩
theorem LevQ.nm : ∀ {q : Qn} {d : Nat}, LevQ q d → q.NmS
  | .tm t, d, h => Lev.nm h
  | .am (.number s t), d, h => ⟨h.1, h.2.nm⟩
  | .am (.count s t u), d, h => ⟨h.1, h.2.1.nm, h.2.2.nm⟩
  | .am (.total s t u), d, h => ⟨h.1, h.2.1.nm, h.2.2.nm⟩
  | .am (.gap t u), d, h => ⟨h.1.nm, h.2.nm⟩
theorem LevQ.fit {d : Nat} (hd : d ≤ 3) : ∀ {q : Qn}, LevQ q d → q.Fit
  | .tm t, h => Lev.fit h (by omega)
  | .am (.number s t), h => Lev.fit h.2 (by omega)
  | .am (.count s t u), h => ⟨Lev.fit h.2.1 (by omega), Lev.fit h.2.2 (by omega)⟩
  | .am (.total s t u), h => ⟨Lev.fit h.2.1 (by omega), Lev.fit h.2.2 (by omega)⟩
  | .am (.gap t u), h => ⟨Lev.fit h.1 (by omega), Lev.fit h.2 (by omega)⟩
def Qn.InS (ns : List Str) : Qn → Prop
  | .tm t => t.InS ns
  | .am (.number s t) => s ∈ ns ∧ t.InS ns
  | .am (.count s t u) => s ∈ ns ∧ t.InS ns ∧ u.InS ns
  | .am (.total s t u) => s ∈ ns ∧ t.InS ns ∧ u.InS ns
  | .am (.gap t u) => t.InS ns ∧ u.InS ns
def spLQuest (d : Nat) : Sp := fun vs H Q _ => ∃ (p s l : Addr) (names : List Str), vs = [.ref p, .ref l, .int ((d + 1 : Nat) : Int)] ∧ PoolAt H p s ∧ l ≠ p ∧ H l = some (.lst (names.map V.str)) ∧ 1 ≤ names.length ∧ names.length ≤ 25 ∧ (∀ z ∈ names, IsNm z) ∧
  ∀ e q H', MqAt H' e q → LevQ q d → q.InS names → Pl H H' p s → Q (.ref e) H'
def spLAsked (A : AC) (C : TC) : Sp := fun vs H Q _ => ∃ (e : Addr) (q : Qn), vs = [.ref e] ∧ MqAt H e q ∧ q.NmS ∧ q.Fit ∧ ∀ a H', QAt A C H' a (bq q) → Same H H' → Q (.ref a) H'
section
variable {P : Program} {w : World} {K : PySem.W.Frag} {mg : Str → Option Value} {base : Heap} {C : TC} {CW : Addr} {A0 : AC}
structure Gq (P : Program) (w : World) (K : PySem.W.Frag) (mg : Str → Option Value) (base : Heap) (d : Nat) : Prop extends G2w P w K mg base where
  lt0 : Cal P w K mg base CX0 "_law_term" (d + 1 + 3) ["pool", "streams", "depth"] (spLTerm (d + 1))
  lt1 : Cal P w K mg base CX0 "_law_term" (d + 3) ["pool", "streams", "depth"] (spLTerm d)
abbrev s_l_question : Stmt := topS 78
theorem sc_l_question : FnScope ["pool", "streams", "depth", "kind", "first", "stream", "second"] ["pool", "streams", "depth"] (defScope s_l_question) := ⟨rfl, rfl, rfl, by decide +kernel, rfl, by decide +kernel, by decide +kernel⟩
theorem ok_lquest {f : Addr} {fd : FuncData} {d : Nat} (F : Fun K "_law_question" "_law_question" s_l_question f fd) (B : Blt mg) (G : Gq P w K mg base d) : FnOk P w K mg base CX0 (d + 5) f fd ["pool", "streams", "depth"] (spLQuest d) := by
  refine F.ok sc_l_question (fun vs H Q E h => ?_) (fun cdv A outer s H vs Q E hr h => ?_)
  · obtain ⟨p, s, l, names, rfl, _⟩ := h
    rfl
  · obtain ⟨p, s0, l, names, rfl, hP, hlp, hl, n1, n25, hnm, q⟩ := h
    refine ⟨_, (pss_cons (ps_set (i := 3) sc_l_question.nd rfl (Or.inl rfl) (pe_cal G.law_draw (hr.mono (by omega)) pass0 (pa_cons (pv 0) (pa_cons pe_int pa_nil))))
    (pss_cons (ps_if (pt_cmpR op_lt (pv 3) pe_int (nomark _))
      (pss_one (ps_ret (pe_cal G.lt0 (hr.mono (by omega)) pass0 (pa_cons (pv 0) (pa_cons (pv 1) (pa_cons (pv 2) pa_nil))))))
      pss_nil)
    (pss_cons (ps_set (i := 4) sc_l_question.nd rfl (Or.inl rfl) (pe_cal G.lt1 (hr.mono (by omega)) pass0 (pa_cons (pv 0) (pa_cons (pv 1) (pa_cons (pe_op op_sub (pv 2) pe_int) pa_nil)))))
    (pss_cons (ps_set (i := 5) sc_l_question.nd rfl (Or.inl rfl) (pe_ix ix_list (pv 1) (pe_cal G.law_draw (hr.mono (by omega)) pass0 (pa_cons (pv 0) (pa_cons (pe_callB call_len (by rfl) B.len (by decide +kernel) (pa_cons (pv 1) pa_nil)) pa_nil))) (fun _ _ => rfl)))
    (pss_cons (ps_if (pt_cmpR op_eq (pv 3) pe_int (nomark _))
      (pss_one (ps_ret (pe_tup (pa_cons pe_str (pa_cons (pv 5) (pa_cons (pv 4) pa_nil))))))
      pss_nil)
    (pss_cons (ps_set (i := 6) sc_l_question.nd rfl (Or.inl rfl) (pe_cal G.lt1 (hr.mono (by omega)) pass0 (pa_cons (pv 0) (pa_cons (pv 1) (pa_cons (pe_op op_sub (pv 2) pe_int) pa_nil)))))
    (pss_cons (ps_if (pt_cmpR op_eq (pv 3) pe_int (nomark _))
      (pss_one (ps_ret (pe_tup (pa_cons pe_str (pa_cons (pv 4) (pa_cons (pv 6) pa_nil))))))
      pss_nil)
    (pss_one (ps_ret (pe_tup (pa_cons (pe_ix ix_list (pe_lst (pa_cons pe_str (pa_cons pe_str pa_nil))) (pe_op op_sub (pv 3) pe_int) (fun _ _ => rfl)) (pa_cons (pv 5) (pa_cons (pv 4) (pa_cons (pv 6) pa_nil)))))))))))))), ?_⟩
    refine ⟨_, rfl, p, s0, 6, rfl, hP, (by decide), (by decide), fun kind H1 k0 k6 P1 => ?_⟩
    have hl1 := P1.keep hl hlp
    refine ⟨_, rfl, _, _, rfl, rfl, _, rfl, ?_⟩
    refine ite2 (fun _ => ?_) (fun c2 => ?_)
    · exact ⟨_, rfl, _, rfl, _, rfl, p, s0, l, names, rfl, P1.now, hlp, hl1, n1, n25, hnm, fun e t H2 hM L I PT => q e (.tm t) _ hM L I (P1.trans PT)⟩
    have ed : (((d + 1 : Nat) : Int) - 1) = (d : Int) := by omega
    refine ⟨_, rfl, _, rfl, _, rfl, _, _, rfl, rfl, p, s0, l, names, (by show [V.ref p, V.ref l, V.int (((d + 1 : Nat) : Int) - 1)] = _; rw [ed]), P1.now, hlp, hl1, n1, n25, hnm, fun e1 t1 H2 hM1 L1 I1 P2 => ?_⟩
    have P12 := P1.trans P2
    have hl2 := P2.keep hl1 hlp
    refine ⟨_, rfl, _, rfl, _, rfl, _, _, rfl, .inl ⟨_, SqL.of hl2, rfl⟩, p, s0, _, rfl, P2.now, (by rw [List.length_map]; omega), Int.lt_of_le_of_lt (show ((names.map V.str).length : Int) ≤ 25 by rw [List.length_map]; omega) (by decide), fun g H3 g0 g1 P3 => ?_⟩
    rw [List.length_map] at g1
    obtain ⟨j, rfl⟩ : ∃ j : Nat, g = (j : Int) := ⟨g.toNat, by omega⟩
    have hj : j < names.length := by omega
    have hz : names[j] ∈ names := List.getElem_mem hj
    generalize hzz : names[j] = z at hz
    have hl3 := P3.keep hl2 hlp
    refine ⟨_, _, _, .str z, rfl, rfl, SqL.of hl3, atI_nat (by rw [List.getElem?_map, List.getElem?_eq_getElem hj, hzz]; rfl), ?_⟩
    have P13 := P12.trans P3
    have hM3 := hM1.tk (pl_tk P2.now P3)
    refine ⟨_, rfl, rfl, _, rfl, ?_⟩
    refine ite2 (fun _ => ?_) (fun c3 => ?_)
    · exact ⟨_, rfl, _, rfl, (by show 3 ≤ sizeLine; decide), fun e he => q e (.am (.number z t1)) _ ⟨e1, upd_same, hM3.tk fun t xs h => sameAt (Same.refl H3) he _ _ h⟩ ⟨hnm z hz, L1⟩ ⟨hz, I1⟩ (P13.new he)⟩
    refine ⟨_, rfl, _, rfl, _, rfl, _, _, rfl, rfl, p, s0, l, names, (by show [V.ref p, V.ref l, V.int (((d + 1 : Nat) : Int) - 1)] = _; rw [ed]), P3.now, hlp, hl3, n1, n25, hnm, fun e2 t2 H4 hM2 L2' I2 P4 => ?_⟩
    have P14 := P13.trans P4
    have hM4 := hM3.tk (pl_tk P3.now P4)
    refine ⟨_, rfl, rfl, _, rfl, ?_⟩
    refine ite2 (fun _ => ?_) (fun c5 => ?_)
    · exact ⟨_, rfl, _, rfl, (by show 3 ≤ sizeLine; decide), fun e he => q e (.am (.gap t1 t2)) _ ⟨e1, e2, upd_same, hM4.tk fun t xs h => sameAt (Same.refl H4) he _ _ h, hM2.tk fun t xs h => sameAt (Same.refl H4) he _ _ h⟩ ⟨L1, L2'⟩ ⟨I1, I2⟩ (P14.new he)⟩
    have c2 : ¬ kind < 2 := fun z => c2 (decide_eq_true z)
    have c3 : ¬ kind = 2 := fun z => c3 (decide_eq_true (by rw [z]))
    have c5 : ¬ kind = 5 := fun z => c5 (decide_eq_true (by rw [z]))
    have k34 : kind = 3 ∨ kind = 4 := by omega
    refine ⟨(by show 2 ≤ sizeLine; decide), fun ll hll => ?_⟩
    have hMl : MdAt (upd H4 ll (.lst [.str "count", .str "total"])) e1 t1 := hM4.tk fun t xs h => sameAt (Same.refl H4) hll _ _ h
    have hMl2 : MdAt (upd H4 ll (.lst [.str "count", .str "total"])) e2 t2 := hM2.tk fun t xs h => sameAt (Same.refl H4) hll _ _ h
    have PL : Pl H (upd H4 ll (.lst [.str "count", .str "total"])) p s0 := P14.new hll
    rcases k34 with rfl | rfl
    · refine ⟨_, rfl, _, _, rfl, rfl, _, _, _, .str "count", rfl, rfl, SqL.of upd_same, rfl, _, rfl, _, rfl, _, rfl, (by show 4 ≤ sizeLine; decide), fun e he => ?_⟩
      exact q e (.am (.count z t1 t2)) _ ⟨e1, e2, upd_same, hMl.tk fun t xs h => sameAt (Same.refl _) he _ _ h, hMl2.tk fun t xs h => sameAt (Same.refl _) he _ _ h⟩ ⟨hnm z hz, L1, L2'⟩ ⟨hz, I1, I2⟩ (PL.new he)
    · refine ⟨_, rfl, _, _, rfl, rfl, _, _, _, .str "total", rfl, rfl, SqL.of upd_same, rfl, _, rfl, _, rfl, _, rfl, (by show 4 ≤ sizeLine; decide), fun e he => ?_⟩
      exact q e (.am (.total z t1 t2)) _ ⟨e1, e2, upd_same, hMl.tk fun t xs h => sameAt (Same.refl _) he _ _ h, hMl2.tk fun t xs h => sameAt (Same.refl _) he _ _ h⟩ ⟨hnm z hz, L1, L2'⟩ ⟨hz, I1, I2⟩ (PL.new he)
structure Ga (P : Program) (w : World) (K : PySem.W.Frag) (mg : Str → Option Value) (base : Heap) (A0 : AC) (C : TC) : Prop extends B1 P w K mg base C 12 where
  Number : Mak P w K mg base CX0 "Number" A0.number 3 ["self", "stream", "term"] (spInitN A0 C)
  Count : Mak P w K mg base CX0 "Count" A0.count 3 ["self", "stream", "first", "last"] (spInitC A0 C A0.count Am.count)
  Total : Mak P w K mg base CX0 "Total" A0.total 3 ["self", "stream", "first", "last"] (spInitC A0 C A0.total Am.total)
  Gap : Mak P w K mg base CX0 "Gap" A0.gap 3 ["self", "first", "last"] (spInitG A0 C)
abbrev s_l_asked : Stmt := topS 79
theorem sc_l_asked : FnScope ["model"] ["model"] (defScope s_l_asked) := ⟨rfl, rfl, rfl, by decide +kernel, rfl, by decide +kernel, by decide +kernel⟩
theorem ok_lasked {f : Addr} {fd : FuncData} (F : Fun K "_law_asked" "_law_asked" s_l_asked f fd) (B : Blt mg) (G : Ga P w K mg base A0 C) : FnOk P w K mg base CX0 20 f fd ["model"] (spLAsked A0 C) := by
  refine F.ok sc_l_asked (fun vs H Q E h => ?_) (fun cdv A outer s H vs Q E hr h => ?_)
  · obtain ⟨e, q, rfl, _⟩ := h
    rfl
  · obtain ⟨e, m, rfl, hM, hN, hF, q⟩ := h
    refine ⟨_, (pss_cons (ps_if (pt_cmpR op_eq (pe_ix ix_tup (pv 0) pe_int (fun _ _ => rfl)) pe_str (nomark _))
      (pss_one (ps_ret (pe_mak G.Number (hr.mono (by decide)) pass0 (pa_cons (pe_ix ix_tup (pv 0) pe_int (fun _ _ => rfl)) (pa_cons (pe_cal G.law_built (hr.mono (by decide)) pass0 (pa_cons (pe_ix ix_tup (pv 0) pe_int (fun _ _ => rfl)) pa_nil)) pa_nil)))))
      pss_nil)
    (pss_cons (ps_if (pt_cmpR op_eq (pe_ix ix_tup (pv 0) pe_int (fun _ _ => rfl)) pe_str (nomark _))
      (pss_one (ps_ret (pe_mak G.Count (hr.mono (by decide)) pass0 (pa_cons (pe_ix ix_tup (pv 0) pe_int (fun _ _ => rfl)) (pa_cons (pe_cal G.law_built (hr.mono (by decide)) pass0 (pa_cons (pe_ix ix_tup (pv 0) pe_int (fun _ _ => rfl)) pa_nil)) (pa_cons (pe_cal G.law_built (hr.mono (by decide)) pass0 (pa_cons (pe_ix ix_tup (pv 0) pe_int (fun _ _ => rfl)) pa_nil)) pa_nil))))))
      pss_nil)
    (pss_cons (ps_if (pt_cmpR op_eq (pe_ix ix_tup (pv 0) pe_int (fun _ _ => rfl)) pe_str (nomark _))
      (pss_one (ps_ret (pe_mak G.Total (hr.mono (by decide)) pass0 (pa_cons (pe_ix ix_tup (pv 0) pe_int (fun _ _ => rfl)) (pa_cons (pe_cal G.law_built (hr.mono (by decide)) pass0 (pa_cons (pe_ix ix_tup (pv 0) pe_int (fun _ _ => rfl)) pa_nil)) (pa_cons (pe_cal G.law_built (hr.mono (by decide)) pass0 (pa_cons (pe_ix ix_tup (pv 0) pe_int (fun _ _ => rfl)) pa_nil)) pa_nil))))))
      pss_nil)
    (pss_cons (ps_if (pt_cmpR op_eq (pe_ix ix_tup (pv 0) pe_int (fun _ _ => rfl)) pe_str (nomark _))
      (pss_one (ps_ret (pe_mak G.Gap (hr.mono (by decide)) pass0 (pa_cons (pe_cal G.law_built (hr.mono (by decide)) pass0 (pa_cons (pe_ix ix_tup (pv 0) pe_int (fun _ _ => rfl)) pa_nil)) (pa_cons (pe_cal G.law_built (hr.mono (by decide)) pass0 (pa_cons (pe_ix ix_tup (pv 0) pe_int (fun _ _ => rfl)) pa_nil)) pa_nil)))))
      pss_nil)
    (pss_one (ps_ret (pe_cal G.law_built (hr.mono (by decide)) pass0 (pa_cons (pv 0) pa_nil)))))))), ?_⟩
    cases m with
    | tm t =>
      have hF : t.Fit := hF
      have hM : MdAt H e t := hM
      have hN : t.NmS := hN
      obtain ⟨x, r, hx, n1, n2, n3, n4⟩ : ∃ x r, H e = some (.tup (.str x :: r)) ∧ x ≠ ("number" : Str) ∧ x ≠ ("count" : Str) ∧ x ≠ ("total" : Str) ∧ x ≠ ("gap" : Str) := by
        cases t with
        | now => exact ⟨_, _, hM, by decide, by decide, by decide, by decide⟩
        | shift n u => obtain ⟨b, h, _⟩ := hM; exact ⟨_, _, h, by decide, by decide, by decide, by decide⟩
        | last n u => obtain ⟨b, h, _⟩ := hM; exact ⟨_, _, h, by decide, by decide, by decide, by decide⟩
        | next n u => obtain ⟨b, h, _⟩ := hM; exact ⟨_, _, h, by decide, by decide, by decide, by decide⟩
        | either n u => obtain ⟨b, c, h, _⟩ := hM; exact ⟨_, _, h, by decide, by decide, by decide, by decide⟩
        | later n u => obtain ⟨b, c, h, _⟩ := hM; exact ⟨_, _, h, by decide, by decide, by decide, by decide⟩
        | earlier n u => obtain ⟨b, c, h, _⟩ := hM; exact ⟨_, _, h, by decide, by decide, by decide, by decide⟩
      have at0 : atI (V.str x :: r) 0 = some (V.str x) := atI_nat (xs := V.str x :: r) (j := 0) rfl
      refine ⟨_, rfl, _, _, _, _, rfl, rfl, SqT.of hx, at0, rfl, _, rfl, ite2 (fun c => absurd (V.str.inj (of_decide_eq_true c)) n1) fun _ => ?_⟩
      refine ⟨_, rfl, _, _, _, _, rfl, rfl, SqT.of hx, at0, rfl, _, rfl, ite2 (fun c => absurd (V.str.inj (of_decide_eq_true c)) n2) fun _ => ?_⟩
      refine ⟨_, rfl, _, _, _, _, rfl, rfl, SqT.of hx, at0, rfl, _, rfl, ite2 (fun c => absurd (V.str.inj (of_decide_eq_true c)) n3) fun _ => ?_⟩
      refine ⟨_, rfl, _, _, _, _, rfl, rfl, SqT.of hx, at0, rfl, _, rfl, ite2 (fun c => absurd (V.str.inj (of_decide_eq_true c)) n4) fun _ => ?_⟩
      exact ⟨_, rfl, e, t, rfl, hM, hN, hF, hF.1, fun a H' hT s => q a H' hT s⟩
    | am m =>
      cases m with
      | number z t =>
        obtain ⟨b, he, hT⟩ := hM
        have hF : t.Fit := hF
        refine ⟨_, rfl, _, _, _, _, rfl, rfl, SqT.of he, rfl, rfl, _, rfl, iteT ?_⟩
        refine ⟨_, rfl, _, _, _, _, rfl, rfl, SqT.of he, rfl, _, rfl, _, _, _, _, rfl, rfl, SqT.of he, rfl, b, t, rfl, hT, hN.2, hF, hF.1, fun a1 H1 hT1 s1 => ?_⟩
        exact fun x dx hx hdx hne => ⟨x, dx, a1, z, bt t, rfl, upd_same, hN.1, hT1.same (sameAt (sameAt (Same.refl H1) hdx) hx), bt_fit hF, fun H' hT' hK => ⟨rfl, q x H' hT' (s1.trans (keep_make hK hx hdx))⟩⟩
      | count z t u =>
        obtain ⟨b, c, he, hT, hU⟩ := hM
        refine ⟨_, rfl, _, _, _, _, rfl, rfl, SqT.of he, rfl, rfl, _, rfl, iteF ⟨_, rfl, _, _, _, _, rfl, rfl, SqT.of he, rfl, rfl, _, rfl, iteT ?_⟩⟩
        refine ⟨_, rfl, _, _, _, _, rfl, rfl, SqT.of he, rfl, _, rfl, _, _, _, _, rfl, rfl, SqT.of he, rfl, b, t, rfl, hT, hN.2.1, hF.1, hF.1.1, fun a1 H1 hT1 s1 => ?_⟩
        have he1 := s1 _ _ he
        refine ⟨_, rfl, _, _, _, _, rfl, rfl, SqT.of he1, rfl, c, u, rfl, hU.tk (fun t xs h => s1 _ _ h), hN.2.2, hF.2, hF.2.1, fun a2 H2 hT2 s2 => ?_⟩
        exact fun x dx hx hdx hne => ⟨x, dx, a1, a2, z, bt t, bt u, rfl, upd_same, hN.1, (hT1.same s2).same (sameAt (sameAt (Same.refl H2) hdx) hx), hT2.same (sameAt (sameAt (Same.refl H2) hdx) hx), bt_fit hF.1, bt_fit hF.2, fun H' hT' hK => ⟨rfl, q x H' hT' ((s1.trans s2).trans (keep_make hK hx hdx))⟩⟩
      | total z t u =>
        obtain ⟨b, c, he, hT, hU⟩ := hM
        refine ⟨_, rfl, _, _, _, _, rfl, rfl, SqT.of he, rfl, rfl, _, rfl, iteF ⟨_, rfl, _, _, _, _, rfl, rfl, SqT.of he, rfl, rfl, _, rfl, iteF ⟨_, rfl, _, _, _, _, rfl, rfl, SqT.of he, rfl, rfl, _, rfl, iteT ?_⟩⟩⟩
        refine ⟨_, rfl, _, _, _, _, rfl, rfl, SqT.of he, rfl, _, rfl, _, _, _, _, rfl, rfl, SqT.of he, rfl, b, t, rfl, hT, hN.2.1, hF.1, hF.1.1, fun a1 H1 hT1 s1 => ?_⟩
        have he1 := s1 _ _ he
        refine ⟨_, rfl, _, _, _, _, rfl, rfl, SqT.of he1, rfl, c, u, rfl, hU.tk (fun t xs h => s1 _ _ h), hN.2.2, hF.2, hF.2.1, fun a2 H2 hT2 s2 => ?_⟩
        exact fun x dx hx hdx hne => ⟨x, dx, a1, a2, z, bt t, bt u, rfl, upd_same, hN.1, (hT1.same s2).same (sameAt (sameAt (Same.refl H2) hdx) hx), hT2.same (sameAt (sameAt (Same.refl H2) hdx) hx), bt_fit hF.1, bt_fit hF.2, fun H' hT' hK => ⟨rfl, q x H' hT' ((s1.trans s2).trans (keep_make hK hx hdx))⟩⟩
      | gap t u =>
        obtain ⟨b, c, he, hT, hU⟩ := hM
        refine ⟨_, rfl, _, _, _, _, rfl, rfl, SqT.of he, rfl, rfl, _, rfl, iteF ⟨_, rfl, _, _, _, _, rfl, rfl, SqT.of he, rfl, rfl, _, rfl, iteF ⟨_, rfl, _, _, _, _, rfl, rfl, SqT.of he, rfl, rfl, _, rfl, iteF ⟨_, rfl, _, _, _, _, rfl, rfl, SqT.of he, rfl, rfl, _, rfl, iteT ?_⟩⟩⟩⟩
        refine ⟨_, rfl, _, _, _, _, rfl, rfl, SqT.of he, rfl, b, t, rfl, hT, hN.1, hF.1, hF.1.1, fun a1 H1 hT1 s1 => ?_⟩
        have he1 := s1 _ _ he
        refine ⟨_, rfl, _, _, _, _, rfl, rfl, SqT.of he1, rfl, c, u, rfl, hU.tk (fun t xs h => s1 _ _ h), hN.2, hF.2, hF.2.1, fun a2 H2 hT2 s2 => ?_⟩
        exact fun x dx hx hdx hne => ⟨x, dx, a1, a2, bt t, bt u, rfl, upd_same, (hT1.same s2).same (sameAt (sameAt (Same.refl H2) hdx) hx), hT2.same (sameAt (sameAt (Same.refl H2) hdx) hx), bt_fit hF.1, bt_fit hF.2, fun H' hT' hK => ⟨rfl, q x H' hT' ((s1.trans s2).trans (keep_make hK hx hdx))⟩⟩
end
end Ash

set_option Elab.async false
set_option linter.all false
set_option maxRecDepth 100000
set_option maxHeartbeats 4000000
namespace Ash
open PySem PySem.Spec PyProof.Rows L2 SrtT
/-! ### what a built term answers -/
theorem ev_bt (W : Tr) (now : Int) : ∀ t : Tm, ev W now (bt t) = ev W now t
  | .now => rfl
  | .last s t => by show lookR (ev W now (bt t)) _ = lookR (ev W now t) _; rw [ev_bt W now t]
  | .next s t => by show lookR (ev W now (bt t)) _ = lookR (ev W now t) _; rw [ev_bt W now t]
  | .shift n t => by show ev W now ((bt t).plus n) = moveR (ev W now t) n; rw [plus_ev, ev_bt W now t]
  | .either a b => by show eithR (ev W now (bt a)) (ev W now (bt b)) = eithR (ev W now a) (ev W now b); rw [ev_bt W now a, ev_bt W now b]
  | .later a b => by show bothR mxI (ev W now (bt a)) (ev W now (bt b)) = bothR mxI (ev W now a) (ev W now b); rw [ev_bt W now a, ev_bt W now b]
  | .earlier a b => by show bothR mnI (ev W now (bt a)) (ev W now (bt b)) = bothR mnI (ev W now a) (ev W now b); rw [ev_bt W now a, ev_bt W now b]
theorem ev_bq (W : Tr) (now : Int) : ∀ q : Qn, evQ W now (bq q) = evQ W now q
  | .tm t => ev_bt W now t
  | .am (.number s t) => by show lookA (ev W now (bt t)) _ = lookA (ev W now t) _; rw [ev_bt W now t]
  | .am (.count s t u) => by show tellR (ev W now (bt t)) (ev W now (bt u)) _ = tellR (ev W now t) (ev W now u) _; rw [ev_bt W now t, ev_bt W now u]
  | .am (.total s t u) => by show tellR (ev W now (bt t)) (ev W now (bt u)) _ = tellR (ev W now t) (ev W now u) _; rw [ev_bt W now t, ev_bt W now u]
  | .am (.gap t u) => by show tellR (ev W now (bt t)) (ev W now (bt u)) _ = tellR (ev W now t) (ev W now u) _; rw [ev_bt W now t, ev_bt W now u]
/-! ### the rows of a world are told by their set -/
theorem lex_uniq : ∀ {xs ys : List T3}, xs.Perm ys → (xs.Pairwise fun a b => lex3 a b = true) → (ys.Pairwise fun a b => lex3 a b = true) → xs = ys
  | [], ys, h, _, _ => h.nil_eq
  | x :: xs, [], h, _, _ => nomatch h.length_eq
  | x :: xs, y :: ys, h, hx, hy => by
    obtain ⟨hx1, hx2⟩ := List.pairwise_cons.mp hx
    obtain ⟨hy1, hy2⟩ := List.pairwise_cons.mp hy
    have e : x = y := by
      rcases List.mem_cons.mp (h.mem_iff.mp List.mem_cons_self) with e | e
      · exact e
      · rcases List.mem_cons.mp (h.mem_iff.mpr (List.mem_cons_self (a := y))) with e2 | e2
        · exact e2.symm
        · have a1 := lex3_iff.mp (hy1 x e)
          have a2 := lex3_iff.mp (hx1 y e2)
          omega
    subst e
    rw [lex_uniq h.cons_inv hx2 hy2]
theorem rows_same {names : List Str} {T T' W W' : Tr} (h : RowsW names T W) (h' : RowsW names T' W') (p : ∀ z ∈ names, (T' z).Perm (T z)) : W' = W := by
  funext z
  by_cases hz : z ∈ names
  · obtain ⟨a1, a2⟩ := h.1 z hz
    obtain ⟨b1, b2⟩ := h'.1 z hz
    exact lex_uniq ((b1.trans (p z hz)).trans a1.symm) b2 a2
  · rw [h.2 z hz, h'.2 z hz]
/-- the world without some rows -/
def keepW (k : Int → Bool) (W : Tr) : Tr := fun z => (W z).filter fun t => k t.2.1
theorem rows_keep {names : List Str} {T T' W W' : Tr} {k : Int → Bool} (h : RowsW names T W) (h' : RowsW names T' W') (p : ∀ z ∈ names, T' z = (T z).filter fun t => k t.2.1) : W' = keepW k W := by
  funext z
  unfold keepW
  by_cases hz : z ∈ names
  · obtain ⟨a1, a2⟩ := h.1 z hz
    obtain ⟨b1, b2⟩ := h'.1 z hz
    rw [p z hz] at b1
    exact lex_uniq (b1.trans (a1.filter _).symm) b2 (a2.filter _)
  · rw [h.2 z hz, h'.2 z hz]
    rfl
/-! ### rows that are not looked at may be left out -/
theorem last_filter {α : Type} {k : α → Bool} : ∀ {L : List α} {r : α}, L.getLast? = some r → k r = true → (L.filter k).getLast? = some r := by
  intro L r h hk
  obtain ⟨M, rfl⟩ : ∃ M, L = M ++ [r] := by
    have := List.getLast?_eq_some_iff.mp h
    exact this
  rw [List.filter_append, List.filter_cons, if_pos hk]
  simp
theorem head_filter {α : Type} {k : α → Bool} : ∀ {L : List α} {r : α}, L.head? = some r → k r = true → (L.filter k).head? = some r
  | [], r, h, _ => nomatch h
  | x :: L, r, h, hk => by
    cases h
    rw [List.filter_cons, if_pos hk]
    rfl
theorem lastR_keep {k : Int → Bool} {rs : List T3} {m : Int} (h : ∀ t, lastR rs m = some t → k t.2.1 = true) : lastR (rs.filter fun t => k t.2.1) m = lastR rs m := by
  unfold lastR at *
  rw [List.filter_filter, show (fun a : T3 => decide (a.1 ≤ m) && k a.2.1) = fun a => k a.2.1 && decide (a.1 ≤ m) from funext fun a => Bool.and_comm .., ← List.filter_filter]
  cases e : (rs.filter fun t => decide (t.1 ≤ m)).getLast? with
  | none =>
    have := List.getLast?_eq_none_iff.mp e
    rw [this]
    rfl
  | some t => exact last_filter e (h t e)
theorem nextR_keep {k : Int → Bool} {rs : List T3} {m : Int} (h : ∀ t, nextR rs m = some t → k t.2.1 = true) : nextR (rs.filter fun t => k t.2.1) m = nextR rs m := by
  unfold nextR at *
  rw [List.filter_filter, show (fun a : T3 => decide (m ≤ a.1) && k a.2.1) = fun a => k a.2.1 && decide (m ≤ a.1) from funext fun a => Bool.and_comm .., ← List.filter_filter]
  cases e : (rs.filter fun t => decide (m ≤ t.1)).head? with
  | none =>
    have := List.head?_eq_none_iff.mp e
    rw [this]
    rfl
  | some t => exact head_filter e (h t e)
theorem look_keep {k : Int → Bool} {r : Rs} {f g : Int → Option T3} (hk : ∀ i ∈ (lookR r f).2, k i = true) (h : ∀ m, (∀ t, f m = some t → k t.2.1 = true) → g m = f m) : lookR r g = lookR r f := by
  obtain ⟨a, b⟩ := r
  cases a with
  | none => rfl
  | some m =>
    have e : g m = f m := h m fun t ht => hk _ (by
      show t.2.1 ∈ (match f m with | none => (none, b) | some t => (some t.1, b ++ [t.2.1])).2
      rw [ht]
      exact List.mem_append_right _ List.mem_cons_self)
    show (match g m with | none => (none, b) | some t => (some t.1, b ++ [t.2.1])) = (match f m with | none => (none, b) | some t => (some t.1, b ++ [t.2.1]))
    rw [e]
theorem look_sub {r : Rs} {f : Int → Option T3} {i : Int} (h : i ∈ r.2) : i ∈ (lookR r f).2 := by
  unfold lookR
  split
  · exact h
  · split
    · exact h
    · exact List.mem_append_left _ h
theorem both_sub1 {f : Int → Int → Int} {r s : Rs} {i : Int} (h : i ∈ r.2) : i ∈ (bothR f r s).2 := by
  unfold bothR
  split
  · exact h
  · split
    · exact List.mem_append_left _ h
    · exact List.mem_append_left _ h
theorem both_sub2 {f : Int → Int → Int} {r s s' : Rs} (h : (∀ i ∈ s.2, i ∈ (bothR f r s).2) → s' = s) : bothR f r s' = bothR f r s := by
  obtain ⟨a, b⟩ := r
  cases a with
  | none => rfl
  | some m =>
    rw [h fun i hi => by
      show i ∈ (match s.1 with | none => (none, b ++ s.2) | some k => (some (f m k), b ++ s.2)).2
      cases s.1 <;> exact List.mem_append_right _ hi]
theorem eith_sub1 {r s : Rs} {i : Int} (h : i ∈ r.2) : i ∈ (eithR r s).2 := by
  unfold eithR
  split
  · exact h
  · exact List.mem_append_left _ h
theorem eith_sub2 {r s s' : Rs} (h : (∀ i ∈ s.2, i ∈ (eithR r s).2) → s' = s) : eithR r s' = eithR r s := by
  obtain ⟨a, b⟩ := r
  cases a with
  | some m => rfl
  | none =>
    rw [h fun i hi => List.mem_append_right _ hi]
theorem ev_keep {W : Tr} {now : Int} {k : Int → Bool} : ∀ t : Tm, (∀ i ∈ (ev W now t).2, k i = true) → ev (keepW k W) now t = ev W now t
  | .now, _ => rfl
  | .last s t, h => by
    have ih := ev_keep t fun i hi => h i (look_sub hi)
    show lookR (ev (keepW k W) now t) _ = lookR (ev W now t) _
    rw [ih]
    exact look_keep h fun m hm => lastR_keep hm
  | .next s t, h => by
    have ih := ev_keep t fun i hi => h i (look_sub hi)
    show lookR (ev (keepW k W) now t) _ = lookR (ev W now t) _
    rw [ih]
    exact look_keep h fun m hm => nextR_keep hm
  | .shift n t, h => by
    have e : (moveR (ev W now t) n).2 = (ev W now t).2 := by unfold moveR; split <;> rfl
    have ih := ev_keep t fun i hi => h i (by show i ∈ (moveR (ev W now t) n).2; rw [e]; exact hi)
    show moveR (ev (keepW k W) now t) n = _
    rw [ih]
    rfl
  | .either a b, h => by
    have ih := ev_keep a fun i hi => h i (eith_sub1 hi)
    show eithR (ev (keepW k W) now a) (ev (keepW k W) now b) = eithR (ev W now a) (ev W now b)
    rw [ih]
    exact eith_sub2 fun hs => ev_keep b fun i hi => h i (hs i hi)
  | .later a b, h => by
    have ih := ev_keep a fun i hi => h i (both_sub1 hi)
    show bothR mxI (ev (keepW k W) now a) (ev (keepW k W) now b) = bothR mxI (ev W now a) (ev W now b)
    rw [ih]
    exact both_sub2 fun hs => ev_keep b fun i hi => h i (hs i hi)
  | .earlier a b, h => by
    have ih := ev_keep a fun i hi => h i (both_sub1 hi)
    show bothR mnI (ev (keepW k W) now a) (ev (keepW k W) now b) = bothR mnI (ev W now a) (ev W now b)
    rw [ih]
    exact both_sub2 fun hs => ev_keep b fun i hi => h i (hs i hi)
theorem betw_keep {k : Int → Bool} {rs : List T3} {m n : Int} (h : ∀ t ∈ betweenR rs m n, k t.2.1 = true) : betweenR (rs.filter fun t => k t.2.1) m n = betweenR rs m n := by
  unfold betweenR at *
  rw [List.filter_filter, show (fun a : T3 => decide (m < a.1 ∧ a.1 ≤ n) && k a.2.1) = fun a => k a.2.1 && decide (m < a.1 ∧ a.1 ≤ n) from funext fun a => Bool.and_comm .., ← List.filter_filter]
  exact List.filter_eq_self.mpr h
theorem tell_sub1 {r s : Rs} {g : Int → Int → Rs} {i : Int} (h : i ∈ r.2) : i ∈ (tellR r s g).2 := by
  unfold tellR
  split
  · exact h
  · split
    · exact List.mem_append_left _ h
    · exact List.mem_append_left _ (List.mem_append_left _ h)
theorem tell_keep {k : Int → Bool} {r s s' : Rs} {g g' : Int → Int → Rs} (hk : ∀ i ∈ (tellR r s g).2, k i = true) (hs : (∀ i ∈ s.2, k i = true) → s' = s) (hg : ∀ m n, (∀ i ∈ (g m n).2, k i = true) → g' m n = g m n) : tellR r s' g' = tellR r s g := by
  obtain ⟨a, b⟩ := r
  cases a with
  | none => rfl
  | some m =>
    obtain ⟨c, d⟩ := s
    cases c with
    | none =>
      have e := hs fun i hi => hk i (List.mem_append_right _ hi)
      rw [e]
      rfl
    | some n =>
      have e := hs fun i hi => hk i (List.mem_append_left _ (List.mem_append_right _ hi))
      rw [e]
      have e2 := hg m n fun i hi => hk i (List.mem_append_right _ hi)
      show ((g' m n).1, b ++ d ++ (g' m n).2) = ((g m n).1, b ++ d ++ (g m n).2)
      rw [e2]
theorem evQ_keep {W : Tr} {now : Int} {k : Int → Bool} : ∀ q : Qn, (∀ i ∈ (evQ W now q).2, k i = true) → evQ (keepW k W) now q = evQ W now q
  | .tm t, h => ev_keep t h
  | .am (.number s t), h => by
    have sub : ∀ i ∈ (ev W now t).2, i ∈ (lookA (ev W now t) (lastR (W s))).2 := fun i hi => by
      unfold lookA
      split
      · exact hi
      · split
        · exact hi
        · exact List.mem_append_left _ hi
    have ih := ev_keep (k := k) t fun i hi => h i (sub i hi)
    show lookA (ev (keepW k W) now t) _ = lookA (ev W now t) _
    rw [ih]
    have h : ∀ i ∈ (lookA (ev W now t) (lastR (W s))).2, k i = true := h
    generalize ev W now t = r at h
    obtain ⟨a, b⟩ := r
    cases a with
    | none => rfl
    | some m =>
      have e : lastR (keepW k W s) m = lastR (W s) m := lastR_keep fun t ht => h _ (by
        show t.2.1 ∈ (match lastR (W s) m with | none => (none, b) | some t => (some t.2.2, b ++ [t.2.1])).2
        rw [ht]
        exact List.mem_append_right _ List.mem_cons_self)
      show (match lastR (keepW k W s) m with | none => (none, b) | some t => (some t.2.2, b ++ [t.2.1])) = (match lastR (W s) m with | none => (none, b) | some t => (some t.2.2, b ++ [t.2.1]))
      rw [e]
  | .am (.count s t u), h => by
    have ih := ev_keep (k := k) t fun i hi => h i (tell_sub1 hi)
    show tellR (ev (keepW k W) now t) (ev (keepW k W) now u) _ = tellR (ev W now t) (ev W now u) _
    rw [ih]
    refine tell_keep h (fun hs => ev_keep u hs) fun m n hm => ?_
    have e : betweenR (keepW k W s) m n = betweenR (W s) m n := betw_keep fun t ht => hm _ (List.mem_map_of_mem ht)
    rw [e]
  | .am (.total s t u), h => by
    have ih := ev_keep (k := k) t fun i hi => h i (tell_sub1 hi)
    show tellR (ev (keepW k W) now t) (ev (keepW k W) now u) _ = tellR (ev W now t) (ev W now u) _
    rw [ih]
    refine tell_keep h (fun hs => ev_keep u hs) fun m n hm => ?_
    have e : betweenR (keepW k W s) m n = betweenR (W s) m n := betw_keep fun t ht => hm _ (List.mem_map_of_mem ht)
    rw [e]
  | .am (.gap t u), h => by
    have ih := ev_keep (k := k) t fun i hi => h i (tell_sub1 hi)
    show tellR (ev (keepW k W) now t) (ev (keepW k W) now u) _ = tellR (ev W now t) (ev W now u) _
    rw [ih]
    exact tell_keep h (fun hs => ev_keep u hs) fun m n _ => rfl
end Ash

set_option Elab.async false
set_option linter.all false
set_option maxRecDepth 100000
set_option maxHeartbeats 4000000
namespace Ash
open PySem PySem.Spec PyProof.Rows L2 SrtT
open C8 (pss_cut)
theorem tell_len {W : Tr} {now : Int} {t u : Tm} {g : Int → Int → Rs} (h : t.Fit) (h2 : u.Fit) (hg : ∀ m n, (g m n).2.length ≤ 400) : (tellR (ev W now t) (ev W now u) g).2.length ≤ 500 := by
    have ln := ev_len (W := W) (now := now) t
    have ln2 := ev_len (W := W) (now := now) u
    have := h.2.2
    have := h2.2.2
    unfold tellR
    split
    · show (ev W now t).2.length ≤ _; omega
    · split
      · show ((ev W now t).2 ++ (ev W now u).2).length ≤ _
        rw [List.length_append]
        omega
      · next m _ _ n _ =>
        have := hg m n
        show ((ev W now t).2 ++ (ev W now u).2 ++ (g m n).2).length ≤ _
        rw [List.length_append, List.length_append]
        omega
theorem evQ_len {W : Tr} {now : Int} (hW : ∀ z, (W z).length ≤ 400) : ∀ {q : Qn}, q.Fit → (evQ W now q).2.length ≤ 500
  | .tm t, h => by
    have ln := ev_len (W := W) (now := now) t
    have h : t.Fit := h
    have := h.2.2
    show (ev W now t).2.length ≤ 500
    omega
  | .am (.number s t), h => by
    have ln := ev_len (W := W) (now := now) t
    have h : t.Fit := h
    have := h.2.2
    show (lookA (ev W now t) _).2.length ≤ 500
    unfold lookA
    split
    · show (ev W now t).2.length ≤ _; omega
    · split
      · show (ev W now t).2.length ≤ _; omega
      · show ((ev W now t).2 ++ [_]).length ≤ _
        rw [List.length_append]
        show (ev W now t).2.length + 1 ≤ _
        omega
  | .am (.count s t u), h => tell_len h.1 h.2 fun m n => by
    show ((betweenR (W s) m n).map _).length ≤ 400
    rw [List.length_map]
    exact Nat.le_trans (List.length_filter_le _ _) (hW s)
  | .am (.total s t u), h => tell_len h.1 h.2 fun m n => by
    show ((betweenR (W s) m n).map _).length ≤ 400
    rw [List.length_map]
    exact Nat.le_trans (List.length_filter_le _ _) (hW s)
  | .am (.gap t u), h => tell_len h.1 h.2 fun m n => by simp
/-- the rows that are looked at -/
def spSupport (A : AC) (C : TC) (CW : Addr) : Sp := fun vs H Q _ => ∃ (a b : Addr) (t : Qn) (W : Tr) (now : Int), vs = [.ref a, .ref b, .int now] ∧ QAt A C H a t ∧ WAt CW H b W ∧ t.NmS ∧ t.Fit ∧
  ∀ (p : Addr) (ys : List Int) H', Same H H' → H p = none → H' p = some (.lst (ys.map V.int)) → ys.Pairwise (· < ·) → ys.length ≤ 500 → (∀ z, z ∈ ys ↔ z ∈ (evQ W now t).2) → Q (.ref p) H'
section
variable {P : Program} {w : World} {K : PySem.W.Frag} {mg : Str → Option Value} {base : Heap} {C : TC} {CW : Addr} {A0 : AC}
abbrev s_support : Stmt := topS 56
theorem sc_support : FnScope ["question", "world", "now", "_", "seen"] ["question", "world", "now"] (defScope s_support) := ⟨rfl, rfl, rfl, by decide +kernel, rfl, by decide +kernel, by decide +kernel⟩
theorem ok_support {f : Addr} {fd : FuncData} (F : Fun K "support" "support" s_support f fd) (B : Blt mg) (G : U2 P w K mg base A0 C CW) : FnOk P w K mg base CX0 31 f fd ["question", "world", "now"] (spSupport A0 C CW) := by
  refine F.ok sc_support (fun vs H Q E h => ?_) (fun cdv A outer s H vs Q E hr h => ?_)
  · obtain ⟨a, b, t, W, now, rfl, _⟩ := h
    rfl
  · obtain ⟨a, b, t, W, now, rfl, hT, hW, hN, hF, q⟩ := h
    refine ⟨_, (pss_cons (ps_expr (pe_cal G.check (hr.mono (by decide)) pass0 (pa_cons (pv 0) (pa_cons (pv 1) (pa_cons (pv 2) pa_nil)))))
    (pss_cons (ps_asg (pe_cal G.answered (hr.mono (by decide)) pass0 (pa_cons (pv 0) (pa_cons (pv 1) (pa_cons (pv 2) pa_nil)))) (pg_tup (by rfl) (pgs_cons (pg_name (i := 3) sc_support.nd rfl (Or.inl rfl)) (pgs_cons (pg_name (i := 4) sc_support.nd rfl (Or.inl rfl)) pgs_nil))))
    (pss_one (ps_ret (pe_callB (cr_sortM rfl) (by rfl) B.sorted (by decide +kernel) (pa_cons (pe_callTy (cr_setL rfl) (by rfl) B.set (by decide +kernel) (pa_cons (pv 4) pa_nil)) pa_nil)))))), ?_⟩
    refine ⟨_, rfl, _, rfl, _, rfl, a, b, t, W, now, rfl, hT, hW, fun H1 s1 => ?_⟩
    refine ⟨_, rfl, _, rfl, _, rfl, a, b, t, W, now, rfl, hT.same s1, hW.same s1, hN, hF, fun q1 l H2 s2 hq1 hl => ?_⟩
    refine ⟨q1, _, rfl, SqT.of hq1, rfl, _, _, rfl, _, _, rfl, rfl, ?_⟩
    have ln := evQ_len (W := W) (now := now) (fun z => by obtain ⟨_, _, _, _, _, _, _, _, h4⟩ := id hW; exact (h4 z).1) hF
    have s12 := s1.trans s2
    generalize (evQ W now t).2 = xs at q hl ln
    have ek : (xs.map (Sum.inl : Int → Key)).map kV = xs.map V.int := by rw [List.map_map]; rfl
    refine ⟨_, rfl, l, xs.map Sum.inl, rfl, SqL.of (by rw [ek]; exact hl), by rw [List.length_map]; omega, fun p n hp hn => ?_⟩
    refine ⟨p, _, n, rfl, upd_same, .inr ⟨xs, fun k => kIn_iff, fun ys p2 hp2 ha hm hln => ?_⟩⟩
    have s3 := s12.trans (sameAt (Same.refl H2) hp (o := SetMO w p (kIn (xs.map Sum.inl)) n))
    exact q p2 ys _ (s3.trans (sameAt (Same.refl _) hp2)) (none_of s3 hp2) upd_same ha (by rw [List.length_map] at hn; omega) hm
end
end Ash

set_option Elab.async false
set_option linter.all false
set_option maxRecDepth 100000
set_option maxHeartbeats 4000000
namespace Ash
open PySem PySem.Spec PyProof.Rows L2 SrtT
open C8 (pss_cut)
def gt2 (t u : T3) : Bool := if t.1 = u.1 then (if t.2.1 = u.2.1 then false else decide (u.2.1 < t.2.1)) else decide (u.1 < t.1)
def lt2' (t u : T3) : Bool := if t.1 = u.1 then (if t.2.1 = u.2.1 then false else decide (t.2.1 < u.2.1)) else decide (t.1 < u.1)
/-- the next one of those that fit, if it is better -/
def betT (fit : T3 → Bool) (g : T3 → T3 → Bool) (f : Option T3) (t : T3) : Option T3 := if fit t = true then (match f with
  | none => some t
  | some u => if g t u = true then some t else some u) else f
/-- the best one of those that fit -/
structure IsBest (fit : T3 → Bool) (g : T3 → T3 → Bool) (T : List T3) (o : Option T3) : Prop where
  no : o = none → ∀ t ∈ T, fit t = false
  yes : ∀ u, o = some u → u ∈ T ∧ fit u = true ∧ ∀ t ∈ T, fit t = true → g t u = false
theorem best_fold {fit : T3 → Bool} {g : T3 → T3 → Bool} (hr : ∀ t, g t t = false) (ht : ∀ t u v, g t u = false → g u v = false → g t v = false) (ha : ∀ t u, g t u = true → g u t = false) : ∀ (T : List T3), IsBest fit g T (T.foldl (betT fit g) none) := by
  have step : ∀ (S T : List T3) (o : Option T3), IsBest fit g S o → IsBest fit g (S ++ T) (T.foldl (betT fit g) o) := fun S T => by
    induction T generalizing S with
    | nil => intro o h; rw [List.append_nil]; exact h
    | cons t T ih =>
      intro o h
      have e : S ++ t :: T = (S ++ [t]) ++ T := by simp
      rw [e]
      refine ih (S ++ [t]) (betT fit g o t) ?_
      unfold betT
      by_cases c : fit t = true
      · rw [if_pos c]
        cases o with
        | none =>
          refine ⟨fun z => (nomatch z), fun u hu => ?_⟩
          cases hu
          refine ⟨by simp, c, fun x hx fx => ?_⟩
          rcases List.mem_append.mp hx with hx | hx
          · rw [h.no rfl x hx] at fx
            cases fx
          · rw [List.mem_singleton.mp hx]
            exact hr t
        | some v =>
          obtain ⟨y1, y2, y3⟩ := h.yes v rfl
          by_cases c2 : g t v = true
          · show IsBest fit g (S ++ [t]) (if g t v = true then some t else some v)
            rw [if_pos c2]
            refine ⟨fun z => (nomatch z), fun u hu => ?_⟩
            cases hu
            refine ⟨by simp, c, fun x hx fx => ?_⟩
            rcases List.mem_append.mp hx with hx | hx
            · exact ht x v t (y3 x hx fx) (ha t v c2)
            · rw [List.mem_singleton.mp hx]
              exact hr t
          · show IsBest fit g (S ++ [t]) (if g t v = true then some t else some v)
            rw [if_neg c2]
            refine ⟨fun z => (nomatch z), fun u hu => ?_⟩
            cases hu
            refine ⟨List.mem_append_left _ y1, y2, fun x hx fx => ?_⟩
            rcases List.mem_append.mp hx with hx | hx
            · exact y3 x hx fx
            · rw [List.mem_singleton.mp hx]
              exact Bool.eq_false_iff.mpr c2
      · rw [if_neg c]
        refine ⟨fun z x hx => ?_, fun u hu => ?_⟩
        · rcases List.mem_append.mp hx with hx | hx
          · exact h.no z x hx
          · rw [List.mem_singleton.mp hx]
            exact Bool.eq_false_iff.mpr c
        · obtain ⟨y1, y2, y3⟩ := h.yes u hu
          refine ⟨List.mem_append_left _ y1, y2, fun x hx fx => ?_⟩
          rcases List.mem_append.mp hx with hx | hx
          · exact y3 x hx fx
          · rw [List.mem_singleton.mp hx] at fx
            exact absurd fx c
  intro T
  have := step [] T none ⟨fun _ t ht => (nomatch ht), fun u hu => (nomatch hu)⟩
  exact this
theorem best_same {fit : T3 → Bool} {g : T3 → T3 → Bool} {T W : List T3} {o o' : Option T3} (hp : W.Perm T) (hn : ((T).map (·.2.1)).Nodup) (hg : ∀ t u, g t u = false → g u t = false → t.2.1 = u.2.1) (a : IsBest fit g T o) (b : IsBest fit g W o') : o = o' := by
  cases o with
  | none =>
    cases o' with
    | none => rfl
    | some u =>
      obtain ⟨y1, y2, _⟩ := b.yes u rfl
      rw [a.no rfl u (hp.mem_iff.mp y1)] at y2
      cases y2
  | some t =>
    obtain ⟨x1, x2, x3⟩ := a.yes t rfl
    cases o' with
    | none =>
      rw [b.no rfl t (hp.mem_iff.mpr x1)] at x2
      cases x2
    | some u =>
      obtain ⟨y1, y2, y3⟩ := b.yes u rfl
      have e := hg t u (y3 t (hp.mem_iff.mpr x1) x2) (x3 u (hp.mem_iff.mp y1) y2)
      have : t = u := by
        obtain ⟨i, hi, ei⟩ := List.getElem_of_mem x1
        obtain ⟨j, hj, ej⟩ := List.getElem_of_mem (hp.mem_iff.mp y1)
        have : i = j := nd_ix (x := t.2.1) hn (by rw [List.getElem?_map, List.getElem?_eq_getElem hi, ei]; rfl) (by rw [List.getElem?_map, List.getElem?_eq_getElem hj, ej, e]; rfl)
        subst this
        rw [← ei, ← ej]
      rw [this]
theorem gt2_no {t u : T3} : gt2 t u = false ↔ ¬ (u.1 < t.1 ∨ (t.1 = u.1 ∧ u.2.1 < t.2.1)) := by
  unfold gt2
  split
  · split
    · simp; omega
    · simp; omega
  · simp; omega
theorem lt2_no {t u : T3} : lt2' t u = false ↔ ¬ (t.1 < u.1 ∨ (t.1 = u.1 ∧ t.2.1 < u.2.1)) := by
  unfold lt2'
  split
  · split
    · simp; omega
    · simp; omega
  · simp; omega
/-- the last one of those up to m, in an ascending list, is the best one -/
theorem last_best {W : List T3} {m : Int} (hs : W.Pairwise fun a b => lex3 a b = true) : IsBest (fun t => decide (t.1 ≤ m)) gt2 W (lastR W m) := by
  have hf := hs.filter (fun t => decide (t.1 ≤ m))
  refine ⟨fun z t ht => ?_, fun u hu => ?_⟩
  · have e : W.filter (fun t => decide (t.1 ≤ m)) = [] := List.getLast?_eq_none_iff.mp z
    refine Bool.eq_false_iff.mpr fun c => ?_
    have : t ∈ W.filter (fun t => decide (t.1 ≤ m)) := List.mem_filter.mpr ⟨ht, c⟩
    rw [e] at this
    cases this
  · have hu : (W.filter (fun t => decide (t.1 ≤ m))).getLast? = some u := hu
    have hm := List.mem_of_getLast? hu
    refine ⟨(List.mem_filter.mp hm).1, (List.mem_filter.mp hm).2, fun t ht ft => ?_⟩
    have htm : t ∈ W.filter (fun t => decide (t.1 ≤ m)) := List.mem_filter.mpr ⟨ht, ft⟩
    obtain ⟨i, hi, ei⟩ := List.getElem_of_mem htm
    rw [List.getLast?_eq_getElem?] at hu
    obtain ⟨hj, ej⟩ := List.getElem?_eq_some_iff.mp hu
    rw [gt2_no]
    by_cases c : i = (W.filter (fun t => decide (t.1 ≤ m))).length - 1
    · subst c
      rw [ei] at ej
      rw [ej]
      omega
    · have := List.pairwise_iff_getElem.mp hf i _ hi hj (by omega)
      rw [ei, ej, lex3_iff] at this
      omega
theorem next_best {W : List T3} {m : Int} (hs : W.Pairwise fun a b => lex3 a b = true) : IsBest (fun t => decide (m ≤ t.1)) lt2' W (nextR W m) := by
  have hf := hs.filter (fun t => decide (m ≤ t.1))
  refine ⟨fun z t ht => ?_, fun u hu => ?_⟩
  · have e : W.filter (fun t => decide (m ≤ t.1)) = [] := List.head?_eq_none_iff.mp z
    refine Bool.eq_false_iff.mpr fun c => ?_
    have : t ∈ W.filter (fun t => decide (m ≤ t.1)) := List.mem_filter.mpr ⟨ht, c⟩
    rw [e] at this
    cases this
  · have hu : (W.filter (fun t => decide (m ≤ t.1))).head? = some u := hu
    have hm := List.mem_of_head? hu
    refine ⟨(List.mem_filter.mp hm).1, (List.mem_filter.mp hm).2, fun t ht ft => ?_⟩
    have htm : t ∈ W.filter (fun t => decide (m ≤ t.1)) := List.mem_filter.mpr ⟨ht, ft⟩
    obtain ⟨i, hi, ei⟩ := List.getElem_of_mem htm
    rw [List.head?_eq_getElem?] at hu
    obtain ⟨hj, ej⟩ := List.getElem?_eq_some_iff.mp hu
    rw [lt2_no]
    by_cases c : i = 0
    · subst c
      rw [ei] at ej
      rw [ej]
      omega
    · have := List.pairwise_iff_getElem.mp hf 0 i hj hi (by omega)
      rw [ei, ej, lex3_iff] at this
      omega
def bestL (T : List T3) (m : Int) : Option T3 := T.foldl (betT (fun t => decide (t.1 ≤ m)) gt2) none
def bestN (T : List T3) (m : Int) : Option T3 := T.foldl (betT (fun t => decide (m ≤ t.1)) lt2') none
theorem bestL_is {T W : List T3} {m : Int} (hp : W.Perm T) (hn : (T.map (·.2.1)).Nodup) (hs : W.Pairwise fun a b => lex3 a b = true) : bestL T m = lastR W m :=
  best_same hp hn (fun t u h1 h2 => by rw [gt2_no] at h1 h2; omega) (best_fold (fun t => by rw [gt2_no]; omega) (fun t u v h1 h2 => by rw [gt2_no] at *; omega) (fun t u h => by
    rw [gt2_no]
    have : ¬ gt2 t u = false := by rw [h]; simp
    rw [gt2_no] at this
    omega) T) (last_best hs)
theorem bestN_is {T W : List T3} {m : Int} (hp : W.Perm T) (hn : (T.map (·.2.1)).Nodup) (hs : W.Pairwise fun a b => lex3 a b = true) : bestN T m = nextR W m :=
  best_same hp hn (fun t u h1 h2 => by rw [lt2_no] at h1 h2; omega) (best_fold (fun t => by rw [lt2_no]; omega) (fun t u v h1 h2 => by rw [lt2_no] at *; omega) (fun t u h => by
    rw [lt2_no]
    have : ¬ lt2' t u = false := by rw [h]; simp
    rw [lt2_no] at this
    omega) T) (next_best hs)
theorem bet_no {fit : T3 → Bool} {g : T3 → T3 → Bool} {f : Option T3} {t : T3} (h : ¬ fit t = true) : betT fit g f t = f := if_neg h
theorem bet_none {fit : T3 → Bool} {g : T3 → T3 → Bool} {t : T3} (h : fit t = true) : betT fit g none t = some t := if_pos h
theorem bet_some {fit : T3 → Bool} {g : T3 → T3 → Bool} {t u : T3} (h : fit t = true) : betT fit g (some u) t = if g t u = true then some t else some u := if_pos h
def spLLast (g : List T3 → Int → Option T3) : Sp := fun vs H Q _ => ∃ (a : Addr) (ys : List V) (T : List T3) (m : Int), vs = [.ref a, .int m] ∧ H a = some (.lst ys) ∧ TrAt H ys T ∧ ∀ v H', Same H H' → RowV H' v (g T m) → Q v H'
section
variable {P : Program} {w : World} {K : PySem.W.Frag} {mg : Str → Option Value} {base : Heap} {C : TC} {CW : Addr}
abbrev s_l_last : Stmt := topS 73
theorem sc_l_last : FnScope ["rows", "moment", "found", "row"] ["rows", "moment"] (defScope s_l_last) := ⟨rfl, rfl, rfl, by decide +kernel, rfl, by decide +kernel, by decide +kernel⟩
theorem ok_llast {f : Addr} {fd : FuncData} (F : Fun K "_law_last" "_law_last" s_l_last f fd) (B : Blt mg) : FnOk P w K mg base CX0 1 f fd ["rows", "moment"] (spLLast bestL) := by
  refine F.ok sc_l_last (fun vs H Q E h => ?_) (fun cdv A outer s H vs Q E hr h => ?_)
  · obtain ⟨a, ys, T, m, rfl, _⟩ := h
    rfl
  · obtain ⟨a, ys, T, m, rfl, ha, hT, q⟩ := h
    refine ⟨_, (pss_cons (ps_set (i := 2) sc_l_last.nd rfl (Or.inl rfl) pe_non)
    (pss_cons (ps_for PassesOwn.never rfl (pi_list (pv 0)) (pg_name (i := 3) sc_l_last.nd rfl (Or.inl rfl))
      (pss_one (ps_if (PW.pt (pw_and (pt_cmpR op_le (pe_ix ix_tup (pv 3) pe_int (fun _ _ => rfl)) (pv 1) (nomark _)) (pw_and1 (PW.pt (pw_or (pt_cmpR op_isN (pv 2) pe_non (nomark _)) (pw_or1 (pt_cmpR (op_gtT hr.units0) (pe_tup (pa_cons (pe_ix ix_tup (pv 3) pe_int (fun _ _ => rfl)) (pa_cons (pe_ix ix_tup (pv 3) pe_int (fun _ _ => rfl)) pa_nil))) (pe_tup (pa_cons (pe_ix ix_tup (pv 2) pe_int (fun _ _ => rfl)) (pa_cons (pe_ix ix_tup (pv 2) pe_int (fun _ _ => rfl)) pa_nil))) (nomark _))))))))
        (pss_one (ps_set (i := 2) sc_l_last.nd rfl (Or.inl rfl) (pv 3)))
        pss_nil)))
    (pss_one (ps_ret (pv 2))))), ?_⟩
    refine ⟨_, rfl, a, rfl, ⟨_, SqL.of ha⟩, for_list (K := K) (a := a) (xs := ys) (fun i σ H1 => (∃ v b, σ = [some (.ref a), some (.int m), some v, b] ∧ RowV H1 v ((T.take i).foldl (betT (fun t => decide (t.1 ≤ m)) gt2) none)) ∧ Same H H1) ⟨⟨_, _, rfl, rfl⟩, Same.refl H⟩ (fun i σ H1 _ hv => SqL.of (hv.2 _ _ ha)) ?_ ?_⟩
    · rintro i y σ H1 hi ⟨⟨v, b, rfl, hv⟩, s1⟩
      have hil : i < T.length := by rw [← hT.1]; exact (List.getElem?_eq_some_iff.mp hi).1
      obtain ⟨t, ht⟩ : ∃ t, T[i]? = some t := ⟨_, List.getElem?_eq_getElem hil⟩
      obtain ⟨e, rfl, he⟩ := hT.2 i y t hi ht
      have he1 := s1 _ _ he
      have st : (T.take (i + 1)).foldl (betT (fun t => decide (t.1 ≤ m)) gt2) none = betT (fun t => decide (t.1 ≤ m)) gt2 ((T.take i).foldl (betT (fun t => decide (t.1 ≤ m)) gt2) none) t := by
        rw [list_take ht, List.foldl_append]
        rfl
      generalize (T.take i).foldl (betT (fun t => decide (t.1 ≤ m)) gt2) none = f at hv st
      refine ⟨_, rfl, _, _, _, _, rfl, rfl, SqT.of he1, rfl, _, rfl, _, _, rfl, rfl, _, rfl, ?_⟩
      refine ite2 (fun c1 => ?_) (fun c1 => ?_)
      · refine ⟨_, rfl, rfl, _, rfl, ?_⟩
        cases f with
        | none =>
          rw [bet_none c1] at st
          have hv : v = .non := hv
          subst hv
          refine ite2 (fun _ => ?_) (fun c => absurd rfl c)
          exact ⟨_, rfl, ⟨_, _, rfl, by rw [st]; exact ⟨e, rfl, he1⟩⟩, s1⟩
        | some u =>
          obtain ⟨e2, rfl, he2⟩ := hv
          refine ite2 (fun c => absurd (of_decide_eq_true c) (fun z => nomatch z)) (fun _ => ?_)
          refine ⟨_, rfl, _, _, _, _, rfl, rfl, SqT.of he1, rfl, _, rfl, _, _, _, _, rfl, rfl, SqT.of he1, rfl, (by show 2 ≤ sizeLine; decide), fun p hp => ?_⟩
          have s2 : Same H1 (upd H1 p (.tup [.int t.1, .int t.2.1])) := sameAt (Same.refl H1) hp
          have he3 := s2 _ _ he2
          refine ⟨_, rfl, _, _, _, _, rfl, rfl, SqT.of he3, rfl, _, rfl, _, _, _, _, rfl, rfl, SqT.of he3, rfl, (by show 2 ≤ sizeLine; decide), fun p2 hp2 => ?_⟩
          have s3 : Same (upd H1 p (.tup [.int t.1, .int t.2.1])) (upd (upd H1 p (.tup [.int t.1, .int t.2.1])) p2 (.tup [.int u.1, .int u.2.1])) := sameAt (Same.refl _) hp2
          have s13 := s1.trans (s2.trans s3)
          refine ⟨p, p2, _, _, _, _, rfl, rfl, SqT.of (s3 _ _ upd_same), SqT.of upd_same, _, rfl, ?_⟩
          rw [bet_some c1] at st
          refine ite2 (fun c2 => ?_) (fun c2 => ?_)
          · rw [if_pos (show gt2 t u = true from c2)] at st
            exact ⟨_, rfl, ⟨_, _, rfl, by rw [st]; exact ⟨e, rfl, s3 _ _ (s2 _ _ he1)⟩⟩, s13⟩
          · rw [if_neg (show ¬ gt2 t u = true from c2)] at st
            exact ⟨⟨_, _, rfl, by rw [st]; exact ⟨e2, rfl, s3 _ _ he3⟩⟩, s13⟩
      · rw [bet_no c1] at st
        exact ⟨⟨_, _, rfl, by rw [st]; exact hv⟩, s1⟩
    · rintro σ H1 ⟨⟨v, b, rfl, hv⟩, s1⟩
      rw [hT.1, List.take_length] at hv
      exact ⟨_, rfl, q v H1 s1 hv⟩
abbrev s_l_next : Stmt := topS 74
theorem sc_l_next : FnScope ["rows", "moment", "found", "row"] ["rows", "moment"] (defScope s_l_next) := ⟨rfl, rfl, rfl, by decide +kernel, rfl, by decide +kernel, by decide +kernel⟩
theorem ok_lnext {f : Addr} {fd : FuncData} (F : Fun K "_law_next" "_law_next" s_l_next f fd) (B : Blt mg) : FnOk P w K mg base CX0 1 f fd ["rows", "moment"] (spLLast bestN) := by
  refine F.ok sc_l_next (fun vs H Q E h => ?_) (fun cdv A outer s H vs Q E hr h => ?_)
  · obtain ⟨a, ys, T, m, rfl, _⟩ := h
    rfl
  · obtain ⟨a, ys, T, m, rfl, ha, hT, q⟩ := h
    refine ⟨_, (pss_cons (ps_set (i := 2) sc_l_next.nd rfl (Or.inl rfl) pe_non)
    (pss_cons (ps_for PassesOwn.never rfl (pi_list (pv 0)) (pg_name (i := 3) sc_l_next.nd rfl (Or.inl rfl))
      (pss_one (ps_if (PW.pt (pw_and (pt_cmpR op_ge (pe_ix ix_tup (pv 3) pe_int (fun _ _ => rfl)) (pv 1) (nomark _)) (pw_and1 (PW.pt (pw_or (pt_cmpR op_isN (pv 2) pe_non (nomark _)) (pw_or1 (pt_cmpR (op_ltT hr.units0) (pe_tup (pa_cons (pe_ix ix_tup (pv 3) pe_int (fun _ _ => rfl)) (pa_cons (pe_ix ix_tup (pv 3) pe_int (fun _ _ => rfl)) pa_nil))) (pe_tup (pa_cons (pe_ix ix_tup (pv 2) pe_int (fun _ _ => rfl)) (pa_cons (pe_ix ix_tup (pv 2) pe_int (fun _ _ => rfl)) pa_nil))) (nomark _))))))))
        (pss_one (ps_set (i := 2) sc_l_next.nd rfl (Or.inl rfl) (pv 3)))
        pss_nil)))
    (pss_one (ps_ret (pv 2))))), ?_⟩
    refine ⟨_, rfl, a, rfl, ⟨_, SqL.of ha⟩, for_list (K := K) (a := a) (xs := ys) (fun i σ H1 => (∃ v b, σ = [some (.ref a), some (.int m), some v, b] ∧ RowV H1 v ((T.take i).foldl (betT (fun t => decide (m ≤ t.1)) lt2') none)) ∧ Same H H1) ⟨⟨_, _, rfl, rfl⟩, Same.refl H⟩ (fun i σ H1 _ hv => SqL.of (hv.2 _ _ ha)) ?_ ?_⟩
    · rintro i y σ H1 hi ⟨⟨v, b, rfl, hv⟩, s1⟩
      have hil : i < T.length := by rw [← hT.1]; exact (List.getElem?_eq_some_iff.mp hi).1
      obtain ⟨t, ht⟩ : ∃ t, T[i]? = some t := ⟨_, List.getElem?_eq_getElem hil⟩
      obtain ⟨e, rfl, he⟩ := hT.2 i y t hi ht
      have he1 := s1 _ _ he
      have st : (T.take (i + 1)).foldl (betT (fun t => decide (m ≤ t.1)) lt2') none = betT (fun t => decide (m ≤ t.1)) lt2' ((T.take i).foldl (betT (fun t => decide (m ≤ t.1)) lt2') none) t := by
        rw [list_take ht, List.foldl_append]
        rfl
      generalize (T.take i).foldl (betT (fun t => decide (m ≤ t.1)) lt2') none = f at hv st
      refine ⟨_, rfl, _, _, _, _, rfl, rfl, SqT.of he1, rfl, _, rfl, _, _, rfl, rfl, _, rfl, ?_⟩
      refine ite2 (fun c1 => ?_) (fun c1 => ?_)
      · refine ⟨_, rfl, rfl, _, rfl, ?_⟩
        cases f with
        | none =>
          rw [bet_none c1] at st
          have hv : v = .non := hv
          subst hv
          refine ite2 (fun _ => ?_) (fun c => absurd rfl c)
          exact ⟨_, rfl, ⟨_, _, rfl, by rw [st]; exact ⟨e, rfl, he1⟩⟩, s1⟩
        | some u =>
          obtain ⟨e2, rfl, he2⟩ := hv
          refine ite2 (fun c => absurd (of_decide_eq_true c) (fun z => nomatch z)) (fun _ => ?_)
          refine ⟨_, rfl, _, _, _, _, rfl, rfl, SqT.of he1, rfl, _, rfl, _, _, _, _, rfl, rfl, SqT.of he1, rfl, (by show 2 ≤ sizeLine; decide), fun p hp => ?_⟩
          have s2 : Same H1 (upd H1 p (.tup [.int t.1, .int t.2.1])) := sameAt (Same.refl H1) hp
          have he3 := s2 _ _ he2
          refine ⟨_, rfl, _, _, _, _, rfl, rfl, SqT.of he3, rfl, _, rfl, _, _, _, _, rfl, rfl, SqT.of he3, rfl, (by show 2 ≤ sizeLine; decide), fun p2 hp2 => ?_⟩
          have s3 : Same (upd H1 p (.tup [.int t.1, .int t.2.1])) (upd (upd H1 p (.tup [.int t.1, .int t.2.1])) p2 (.tup [.int u.1, .int u.2.1])) := sameAt (Same.refl _) hp2
          have s13 := s1.trans (s2.trans s3)
          refine ⟨p, p2, [t.1, t.2.1], [u.1, u.2.1], rfl, rfl, SqT.of (s3 _ _ upd_same), SqT.of upd_same, _, rfl, ?_⟩
          rw [bet_some c1] at st
          refine ite2 (fun c2 => ?_) (fun c2 => ?_)
          · rw [if_pos (show lt2' t u = true from c2)] at st
            exact ⟨_, rfl, ⟨_, _, rfl, by rw [st]; exact ⟨e, rfl, s3 _ _ (s2 _ _ he1)⟩⟩, s13⟩
          · rw [if_neg (show ¬ lt2' t u = true from c2)] at st
            exact ⟨⟨_, _, rfl, by rw [st]; exact ⟨e2, rfl, s3 _ _ he3⟩⟩, s13⟩
      · rw [bet_no c1] at st
        exact ⟨⟨_, _, rfl, by rw [st]; exact hv⟩, s1⟩
    · rintro σ H1 ⟨⟨v, b, rfl, hv⟩, s1⟩
      rw [hT.1, List.take_length] at hv
      exact ⟨_, rfl, q v H1 s1 hv⟩
end
end Ash

set_option Elab.async false
set_option linter.all false
set_option maxRecDepth 100000
set_option maxHeartbeats 4000000
set_option pp.maxSteps 3000
namespace Ash
open PySem PySem.Spec PyProof.Rows L2 SrtT
open C8 (pss_cut)
/-! ### the law's own going through -/
theorem nl_but {H0 H1 : Hp} {sn : Addr} {xs : List V} (hs : H0 sn = some (.lst xs)) (b : But sn H0 H1) : NL H0 H1 := fun c o h n => b c o h fun e => by
  rw [e, hs] at h
  exact n _ (Option.some.inj h).symm
theorem RwAt.but {H0 H1 : Hp} {d sn : Addr} {names : List Str} {A : Str → Addr} {T : Tr} {xs : List V} (R : RwAt H0 d names A T) (hs : H0 sn = some (.lst xs)) (n : ∀ z ∈ names, A z ≠ sn) (b : But sn H0 H1) : RwAt H1 d names A T :=
  ⟨nl_but hs b _ _ R.at_ (fun _ z => nomatch z), fun z hz => by
    obtain ⟨ys, h1, h2⟩ := R.row z hz
    exact ⟨ys, b _ _ h1 (n z hz), h2.tk fun t us q => nl_but hs b _ _ q (fun _ z => nomatch z)⟩, R.inj⟩
theorem but_same {H0 H1 : Hp} {p : Addr} (s : Same H0 H1) : But p H0 H1 := fun c o h _ => s c o h
theorem but_upd {H0 H1 : Hp} {p : Addr} {o : HO} (b : But p H0 H1) : But p H0 (upd H1 p o) := fun c u h n => by rw [upd_ne n]; exact b c u h n
/-- the rows, and what is known of them -/
structure Rk (H : Hp) (d : Addr) (names : List Str) (A : Str → Addr) (T W : Tr) (n : Nat) : Prop where
  R : RwAt H d names A T
  nd : names.Nodup
  n100 : names.length ≤ 100
  nm : ∀ z ∈ names, IsNm z
  g : GoodT names T n
  n4 : n ≤ 400
  w : RowsW names T W
theorem Rk.last {H : Hp} {d : Addr} {names : List Str} {A : Str → Addr} {T W : Tr} {n : Nat} (h : Rk H d names A T W n) {z : Str} (hz : z ∈ names) (m : Int) : bestL (T z) m = lastR (W z) m := bestL_is (h.w.1 z hz).1 (h.g.apart hz) (h.w.1 z hz).2
theorem Rk.next {H : Hp} {d : Addr} {names : List Str} {A : Str → Addr} {T W : Tr} {n : Nat} (h : Rk H d names A T W n) {z : Str} (hz : z ∈ names) (m : Int) : bestN (T z) m = nextR (W z) m := bestN_is (h.w.1 z hz).1 (h.g.apart hz) (h.w.1 z hz).2
theorem Rk.same {H H' : Hp} {d : Addr} {names : List Str} {A : Str → Addr} {T W : Tr} {n : Nat} (h : Rk H d names A T W n) (s : Same H H') : Rk H' d names A T W n := { h with R := h.R.same s }
theorem Rk.but {H H' : Hp} {d sn : Addr} {names : List Str} {A : Str → Addr} {T W : Tr} {n : Nat} {xs : List V} (h : Rk H d names A T W n) (hs : H sn = some (.lst xs)) (nn : ∀ z ∈ names, A z ≠ sn) (b : But sn H H') : Rk H' d names A T W n := { h with R := h.R.but hs nn b }
def spLAns (k : Nat) : Sp := fun vs H Q _ => ∃ (em d sn : Addr) (t : Tm) (names : List Str) (A : Str → Addr) (T W : Tr) (n : Nat) (now : Int) (xs : List Int), vs = [.ref em, .ref d, .int now, .ref sn] ∧ MdAt H em t ∧ Rk H d names A T W n ∧ H sn = some (.lst (xs.map V.int)) ∧ (∀ z ∈ names, A z ≠ sn) ∧ t.InS names ∧ t.dep ≤ (k : Int) ∧ (xs.length : Int) + t.lok ≤ 100 ∧
  ∀ H', But sn H H' → H' sn = some (.lst ((xs ++ (ev W now t).2).map V.int)) → Q (oV (ev W now t).1) H'
section
variable {P : Program} {w : World} {K : PySem.W.Frag} {mg : Str → Option Value} {base : Heap} {C : TC} {CW : Addr} {A0 : AC}
structure GA0 (P : Program) (w : World) (K : PySem.W.Frag) (mg : Str → Option Value) (base : Heap) : Prop where
  law_last : Cal P w K mg base CX0 "_law_last" 1 ["rows", "moment"] (spLLast bestL)
  law_next : Cal P w K mg base CX0 "_law_next" 1 ["rows", "moment"] (spLLast bestN)
structure GA (P : Program) (w : World) (K : PySem.W.Frag) (mg : Str → Option Value) (base : Heap) (k : Nat) : Prop extends GA0 P w K mg base where
  law_answer : Cal P w K mg base CX0 "_law_answer" (k + 2) ["model", "rows", "now", "seen"] (spLAns k)
abbrev s_l_answer : Stmt := topS 77
theorem sc_l_answer : FnScope ["model", "rows", "now", "seen", "first", "row", "second"] ["model", "rows", "now", "seen"] (defScope s_l_answer) := ⟨rfl, rfl, rfl, by decide +kernel, rfl, by decide +kernel, by decide +kernel⟩
theorem ok_lans0 {f : Addr} {fd : FuncData} (F : Fun K "_law_answer" "_law_answer" s_l_answer f fd) : FnOk P w K mg base CX0 (0 + 2) f fd ["model", "rows", "now", "seen"] (spLAns 0) := by
  refine F.ok sc_l_answer (fun vs H Q E h => ?_) (fun cdv A outer s H vs Q E hr h => ?_)
  · obtain ⟨em, d, sn, t, names, Ad, T, W, n, now, xs, rfl, _⟩ := h
    rfl
  · obtain ⟨em, d, sn, t, names, Ad, T, W, n, now, xs, rfl, _, _, _, _, _, hd, _⟩ := h
    have := t.dep_pos
    have hd : t.dep ≤ 0 := hd
    omega
theorem ok_lans {f : Addr} {fd : FuncData} {k : Nat} (F : Fun K "_law_answer" "_law_answer" s_l_answer f fd) (B : Blt mg) (G : GA P w K mg base k) : FnOk P w K mg base CX0 (k + 1 + 2) f fd ["model", "rows", "now", "seen"] (spLAns (k + 1)) := by
  refine F.ok sc_l_answer (fun vs H Q E h => ?_) (fun cdv A outer s H vs Q E hr h => ?_)
  · obtain ⟨em, d, sn, t, names, Ad, T, W, n, now, xs, rfl, _⟩ := h
    rfl
  · obtain ⟨em, d, sn, t, names, Ad, T, W, n, now, xs, rfl, hM, R, hs, hn, hI, hd, hl, q⟩ := h
    have hu := hu_of hr
    refine ⟨_, (pss_cons (ps_if (pt_cmpR op_eq (pe_ix ix_tup (pv 0) pe_int (fun _ _ => rfl)) pe_str (nomark _))
      (pss_one (ps_ret (pv 2)))
      pss_nil)
    (pss_cons (ps_set (i := 4) sc_l_answer.nd rfl (Or.inl rfl) (pe_cal G.law_answer (hr.mono (by omega)) pass0 (pa_cons (pe_ix ix_tup (pv 0) (pe_op op_sub (pe_op op_sub (pe_callB call_len_seq (by rfl) B.len (by decide +kernel) (pa_cons (pv 0) pa_nil)) pe_int) (pe_callTy call_int1 (by rfl) B.int (by decide +kernel) (pa_cons (pe_cmpR op_in_seq (pe_ix ix_tup (pv 0) pe_int (fun _ _ => rfl)) (pe_lst (pa_cons pe_str (pa_cons pe_str (pa_cons pe_str pa_nil)))) rfl) pa_nil))) (fun _ _ => rfl)) (pa_cons (pv 1) (pa_cons (pv 2) (pa_cons (pv 3) pa_nil))))))
    (pss_cons (ps_if (pt_cmpR op_eq (pe_ix ix_tup (pv 0) pe_int (fun _ _ => rfl)) pe_str (nomark _))
      (pss_cons (ps_if (pt_cmpR op_isN (pv 4) pe_non (nomark _))
        (pss_one (ps_ret pe_non))
        pss_nil)
      (pss_one (ps_ret (pe_op op_add (pv 4) (pe_ix ix_tup (pv 0) pe_int (fun _ _ => rfl))))))
      pss_nil)
    (pss_cons (ps_if (pt_cmpR op_in_seq (pe_ix ix_tup (pv 0) pe_int (fun _ _ => rfl)) (pe_lst (pa_cons pe_str (pa_cons pe_str pa_nil))) rfl)
      (pss_cons (ps_if (pt_cmpR op_isN (pv 4) pe_non (nomark _))
        (pss_one (ps_ret pe_non))
        pss_nil)
      (pss_cons (ps_set (i := 5) sc_l_answer.nd rfl (Or.inl rfl) (pe_cal G.law_last (hr.mono (by omega)) pass0 (pa_cons (pe_dget hu (pv 1) (pe_ix ix_tup (pv 0) pe_int (fun _ _ => rfl)) (fun _ _ => rfl)) (pa_cons (pv 4) pa_nil))))
      (pss_cons (ps_if (pt_cmpR op_eq (pe_ix ix_tup (pv 0) pe_int (fun _ _ => rfl)) pe_str (nomark _))
        (pss_one (ps_set (i := 5) sc_l_answer.nd rfl (Or.inl rfl) (pe_cal G.law_next (hr.mono (by omega)) pass0 (pa_cons (pe_dget hu (pv 1) (pe_ix ix_tup (pv 0) pe_int (fun _ _ => rfl)) (fun _ _ => rfl)) (pa_cons (pv 4) pa_nil)))))
        pss_nil)
      (pss_cons (ps_if (pt_cmpR op_isN (pv 5) pe_non (nomark _))
        (pss_one (ps_ret pe_non))
        pss_nil)
      (pss_cons (ps_expr (pe_bm PySem.F.plainAttrs_list PySem.F.slot_list_append PySem.F.type_list_append mt_append (pv 3) (pa_cons (pe_ix ix_tup (pv 5) pe_int (fun _ _ => rfl)) pa_nil)))
      (pss_one (ps_ret (pe_ix ix_tup (pv 5) pe_int (fun _ _ => rfl)))))))))
      pss_nil)
    (pss_cons (ps_if (pt_cmpR op_ne (pe_cmpR op_isN (pv 4) pe_non (nomark _)) (pe_cmpR op_eq (pe_ix ix_tup (pv 0) pe_int (fun _ _ => rfl)) pe_str (nomark _)) (nomark _))
      (pss_one (ps_ret (pv 4)))
      pss_nil)
    (pss_cons (ps_set (i := 6) sc_l_answer.nd rfl (Or.inl rfl) (pe_cal G.law_answer (hr.mono (by omega)) pass0 (pa_cons (pe_ix ix_tup (pv 0) pe_int (fun _ _ => rfl)) (pa_cons (pv 1) (pa_cons (pv 2) (pa_cons (pv 3) pa_nil))))))
    (pss_cons (ps_if (PW.pt (pw_or (pt_cmpR op_isN (pv 4) pe_non (nomark _)) (pw_or1 (pt_cmpR op_isN (pv 6) pe_non (nomark _)))))
      (pss_one (ps_ret (pv 6)))
      pss_nil)
    (pss_cons (ps_if (pt_cmpR op_eq (pe_cmpR op_lt (pv 4) (pv 6) (nomark _)) (pe_cmpR op_eq (pe_ix ix_tup (pv 0) pe_int (fun _ _ => rfl)) pe_str (nomark _)) (nomark _))
      (pss_one (ps_ret (pv 6)))
      pss_nil)
    (pss_one (ps_ret (pv 4))))))))))), ?_⟩
    cases t with
    | now =>
      have hM : H em = some (.tup [.str "now"]) := hM
      refine ⟨_, rfl, _, _, _, _, rfl, rfl, SqT.of hM, rfl, rfl, _, rfl, iteT ⟨_, rfl, ?_⟩⟩
      exact q H (But.refl sn H) (by show H sn = some (.lst ((xs ++ []).map V.int)); rw [List.append_nil]; exact hs)
    | shift n' u =>
      obtain ⟨b, he, hu'⟩ := hM
      have ln := ev_len (W := W) (now := now) u
      have hd : 1 + u.dep ≤ ((k + 1 : Nat) : Int) := hd
      have hl : (xs.length : Int) + (0 + u.lok) ≤ 100 := hl
      refine ⟨_, rfl, _, _, _, _, rfl, rfl, SqT.of he, rfl, rfl, _, rfl, iteF ?_⟩
      refine ⟨_, rfl, _, rfl, _, _, rfl, .inr (SqT.of he), _, _, rfl, rfl, _, rfl, _, _, _, _, rfl, rfl, SqT.of he, rfl, (by show 3 ≤ sizeLine; decide), fun ll hll => ⟨ll, _, rfl, .inl (SqL.of upd_same), rfl, rfl, .inr ⟨_, rfl, _, _, rfl, rfl, _, _, _, .ref b, rfl, rfl, SqT.of (sameAt (Same.refl H) hll _ _ he), rfl, ?_⟩⟩⟩
      have s0 := sameAt (Same.refl H) hll (o := .lst [.str "either", .str "later", .str "earlier"])
      generalize (upd H ll (.lst [.str "either", .str "later", .str "earlier"])) = H0 at s0 ⊢
      refine ⟨_, rfl, _, rfl, _, rfl, b, d, sn, u, names, Ad, T, W, n, now, xs, rfl, hu'.tk (fun t xs h => s0 _ _ h), R.same s0, s0 _ _ hs, hn, hI, (by omega), (by omega), fun H1 b1' h1 => ?_⟩
      have b1 : But sn H H1 := (but_same s0).trans b1'
      have he1 := nl_but hs b1 _ _ he (fun _ z => nomatch z)
      have R1 := R.but hs hn b1
      have q : ∀ H', But sn H H' → H' sn = some (.lst ((xs ++ (moveR (ev W now u) n').2).map V.int)) → Q (oV (moveR (ev W now u) n').1) H' := q
      generalize ev W now u = r at q h1 ⊢
      obtain ⟨r1, r2⟩ := r
      refine ⟨_, rfl, _, _, _, _, rfl, rfl, SqT.of he1, rfl, rfl, _, rfl, iteT ⟨_, rfl, rfl, _, rfl, ?_⟩⟩
      cases r1 with
      | none => exact ite2 (fun _ => q H1 b1 h1) (fun c => absurd rfl c)
      | some m => exact ite2 (fun c => absurd (of_decide_eq_true c) (fun z => nomatch z)) (fun _ => ⟨_, rfl, _, rfl, _, _, _, _, rfl, rfl, SqT.of he1, rfl, _, _, rfl, rfl, q H1 b1 h1⟩)
    | last z u =>
      obtain ⟨b, he, hu'⟩ := hM
      have ln := ev_len (W := W) (now := now) u
      have hd : 1 + u.dep ≤ ((k + 1 : Nat) : Int) := hd
      have hl : (xs.length : Int) + (1 + u.lok) ≤ 100 := hl
      refine ⟨_, rfl, _, _, _, _, rfl, rfl, SqT.of he, rfl, rfl, _, rfl, iteF ?_⟩
      refine ⟨_, rfl, _, rfl, _, _, rfl, .inr (SqT.of he), _, _, rfl, rfl, _, rfl, _, _, _, _, rfl, rfl, SqT.of he, rfl, (by show 3 ≤ sizeLine; decide), fun ll hll => ⟨ll, _, rfl, .inl (SqL.of upd_same), rfl, rfl, .inr ⟨_, rfl, _, _, rfl, rfl, _, _, _, .ref b, rfl, rfl, SqT.of (sameAt (Same.refl H) hll _ _ he), rfl, ?_⟩⟩⟩
      have s0 := sameAt (Same.refl H) hll (o := .lst [.str "either", .str "later", .str "earlier"])
      generalize (upd H ll (.lst [.str "either", .str "later", .str "earlier"])) = H0 at s0 ⊢
      refine ⟨_, rfl, _, rfl, _, rfl, b, d, sn, u, names, Ad, T, W, n, now, xs, rfl, hu'.tk (fun t xs h => s0 _ _ h), R.same s0, s0 _ _ hs, hn, hI.2, (by omega), (by omega), fun H1 b1' h1 => ?_⟩
      have b1 : But sn H H1 := (but_same s0).trans b1'
      have he1 := nl_but hs b1 _ _ he (fun _ z => nomatch z)
      have R1 := R.but hs hn b1
      have q : ∀ H', But sn H H' → H' sn = some (.lst ((xs ++ (lookR (ev W now u) (lastR (W z))).2).map V.int)) → Q (oV (lookR (ev W now u) (lastR (W z))).1) H' := q
      generalize ev W now u = r at q h1 ln ⊢
      obtain ⟨r1, r2⟩ := r
      have ln : (r2.length : Int) ≤ u.lok := ln
      refine ⟨_, rfl, _, _, _, _, rfl, rfl, SqT.of he1, rfl, rfl, _, rfl, iteF ⟨_, rfl, _, _, _, _, rfl, rfl, SqT.of he1, rfl, (by show 2 ≤ sizeLine; decide), fun l2 hl2 => ⟨l2, _, rfl, .inl (SqL.of upd_same), rfl, rfl, _, rfl, iteT ?_⟩⟩⟩
      have s2 := sameAt (Same.refl H1) hl2 (o := .lst [.str "last", .str "next"])
      generalize (upd H1 l2 (.lst [.str "last", .str "next"])) = H2 at s2 ⊢
      have he2 := s2 _ _ he1
      have h2 := s2 _ _ h1
      have b2 : But sn H H2 := b1.trans (but_same s2)
      have R2 := R1.same s2
      refine ⟨_, rfl, rfl, _, rfl, ?_⟩
      cases r1 with
      | none => exact ite2 (fun _ => q H2 b2 h2) (fun c => absurd rfl c)
      | some m =>
        refine ite2 (fun c => absurd (of_decide_eq_true c) (fun z => nomatch z)) (fun _ => ?_)
        have hg := DGet.k (k := Sum.inr z) R2.R.at_
        rw [valV_nm, if_pos hI.1] at hg
        obtain ⟨ys, hy, hT⟩ := R2.R.row z hI.1
        refine ⟨_, rfl, _, rfl, _, _, _, _, rfl, rfl, SqT.of he2, rfl, d, _, rfl, hg, _, rfl, Ad z, ys, T z, m, rfl, hy, hT, fun v0 H3 s3 hv0 => ?_⟩
        have he3 := s3 _ _ he2
        have h3 := s3 _ _ h2
        have b3 : But sn H H3 := b2.trans (but_same s3)
        have R3 := R2.same s3
        rw [R2.last hI.1] at hv0
        refine ⟨_, rfl, _, _, _, _, rfl, rfl, SqT.of he3, rfl, rfl, _, rfl, iteF ?_⟩
        have hv := hv0
        have h4 := h3
        have b4 := b3
        generalize H3 = H4 at hv h4 b4 ⊢
        generalize v0 = v at hv ⊢
        refine ⟨_, rfl, rfl, _, rfl, ?_⟩
        cases hrow : lastR (W z) m with
        | none =>
          rw [hrow] at hv
          have hv : v = .non := hv
          subst hv
          rw [look_none (r := (some m, r2)) (f := lastR (W z)) hrow] at q
          exact ite2 (fun _ => q H4 b4 h4) (fun c => absurd rfl c)
        | some t3 =>
          rw [hrow] at hv
          obtain ⟨e, rfl, hee⟩ := hv
          rw [look_some (r := (some m, r2)) (f := lastR (W z)) hrow] at q
          refine ite2 (fun c => absurd (of_decide_eq_true c) (fun z => nomatch z)) (fun _ => ?_)
          have esn : e ≠ sn := fun z => by rw [z, h4] at hee; cases hee
          have hee' : ∀ {o}, (upd H4 sn o) e = some (.tup (tv t3)) := fun {o} => by rw [upd_ne esn]; exact hee
          refine ⟨_, rfl, .inl ⟨rfl, _, SqL.of h4⟩, _, rfl, _, _, _, _, rfl, rfl, SqT.of hee, rfl, sn, _, _, rfl, rfl, h4, ?_, _, rfl, _, _, _, _, rfl, rfl, SqT.of hee', rfl, q _ (but_upd b4) ?_⟩
          · show ((xs ++ r2).map V.int).length < _
            rw [List.length_map, List.length_append]
            exact small1000 (by omega)
          · rw [upd_same]
            show _ = some (HO.lst ((xs ++ (r2 ++ [t3.2.1])).map V.int))
            rw [← List.append_assoc, List.map_append (l₁ := xs ++ r2)]
            rfl
    | next z u =>
      obtain ⟨b, he, hu'⟩ := hM
      have ln := ev_len (W := W) (now := now) u
      have hd : 1 + u.dep ≤ ((k + 1 : Nat) : Int) := hd
      have hl : (xs.length : Int) + (1 + u.lok) ≤ 100 := hl
      refine ⟨_, rfl, _, _, _, _, rfl, rfl, SqT.of he, rfl, rfl, _, rfl, iteF ?_⟩
      refine ⟨_, rfl, _, rfl, _, _, rfl, .inr (SqT.of he), _, _, rfl, rfl, _, rfl, _, _, _, _, rfl, rfl, SqT.of he, rfl, (by show 3 ≤ sizeLine; decide), fun ll hll => ⟨ll, _, rfl, .inl (SqL.of upd_same), rfl, rfl, .inr ⟨_, rfl, _, _, rfl, rfl, _, _, _, .ref b, rfl, rfl, SqT.of (sameAt (Same.refl H) hll _ _ he), rfl, ?_⟩⟩⟩
      have s0 := sameAt (Same.refl H) hll (o := .lst [.str "either", .str "later", .str "earlier"])
      generalize (upd H ll (.lst [.str "either", .str "later", .str "earlier"])) = H0 at s0 ⊢
      refine ⟨_, rfl, _, rfl, _, rfl, b, d, sn, u, names, Ad, T, W, n, now, xs, rfl, hu'.tk (fun t xs h => s0 _ _ h), R.same s0, s0 _ _ hs, hn, hI.2, (by omega), (by omega), fun H1 b1' h1 => ?_⟩
      have b1 : But sn H H1 := (but_same s0).trans b1'
      have he1 := nl_but hs b1 _ _ he (fun _ z => nomatch z)
      have R1 := R.but hs hn b1
      have q : ∀ H', But sn H H' → H' sn = some (.lst ((xs ++ (lookR (ev W now u) (nextR (W z))).2).map V.int)) → Q (oV (lookR (ev W now u) (nextR (W z))).1) H' := q
      generalize ev W now u = r at q h1 ln ⊢
      obtain ⟨r1, r2⟩ := r
      have ln : (r2.length : Int) ≤ u.lok := ln
      refine ⟨_, rfl, _, _, _, _, rfl, rfl, SqT.of he1, rfl, rfl, _, rfl, iteF ⟨_, rfl, _, _, _, _, rfl, rfl, SqT.of he1, rfl, (by show 2 ≤ sizeLine; decide), fun l2 hl2 => ⟨l2, _, rfl, .inl (SqL.of upd_same), rfl, rfl, _, rfl, iteT ?_⟩⟩⟩
      have s2 := sameAt (Same.refl H1) hl2 (o := .lst [.str "last", .str "next"])
      generalize (upd H1 l2 (.lst [.str "last", .str "next"])) = H2 at s2 ⊢
      have he2 := s2 _ _ he1
      have h2 := s2 _ _ h1
      have b2 : But sn H H2 := b1.trans (but_same s2)
      have R2 := R1.same s2
      refine ⟨_, rfl, rfl, _, rfl, ?_⟩
      cases r1 with
      | none => exact ite2 (fun _ => q H2 b2 h2) (fun c => absurd rfl c)
      | some m =>
        refine ite2 (fun c => absurd (of_decide_eq_true c) (fun z => nomatch z)) (fun _ => ?_)
        have hg := DGet.k (k := Sum.inr z) R2.R.at_
        rw [valV_nm, if_pos hI.1] at hg
        obtain ⟨ys, hy, hT⟩ := R2.R.row z hI.1
        refine ⟨_, rfl, _, rfl, _, _, _, _, rfl, rfl, SqT.of he2, rfl, d, _, rfl, hg, _, rfl, Ad z, ys, T z, m, rfl, hy, hT, fun v0 H3 s3 hv0 => ?_⟩
        have he3 := s3 _ _ he2
        have h3 := s3 _ _ h2
        have b3 : But sn H H3 := b2.trans (but_same s3)
        have R3 := R2.same s3
        have hg3 := DGet.k (k := Sum.inr z) R3.R.at_
        rw [valV_nm, if_pos hI.1] at hg3
        obtain ⟨ys3, hy3, hT3⟩ := R3.R.row z hI.1
        refine ⟨_, rfl, _, _, _, _, rfl, rfl, SqT.of he3, rfl, rfl, _, rfl, iteT ⟨_, rfl, _, rfl, _, _, _, _, rfl, rfl, SqT.of he3, rfl, d, _, rfl, hg3, _, rfl, Ad z, ys3, T z, m, rfl, hy3, hT3, fun v H4 s4 hv => ?_⟩⟩
        rw [R3.next hI.1] at hv
        have h4 := s4 _ _ h3
        have b4 : But sn H H4 := b3.trans (but_same s4)
        refine ⟨_, rfl, rfl, _, rfl, ?_⟩
        cases hrow : nextR (W z) m with
        | none =>
          rw [hrow] at hv
          have hv : v = .non := hv
          subst hv
          rw [look_none (r := (some m, r2)) (f := nextR (W z)) hrow] at q
          exact ite2 (fun _ => q H4 b4 h4) (fun c => absurd rfl c)
        | some t3 =>
          rw [hrow] at hv
          obtain ⟨e, rfl, hee⟩ := hv
          rw [look_some (r := (some m, r2)) (f := nextR (W z)) hrow] at q
          refine ite2 (fun c => absurd (of_decide_eq_true c) (fun z => nomatch z)) (fun _ => ?_)
          have esn : e ≠ sn := fun z => by rw [z, h4] at hee; cases hee
          have hee' : ∀ {o}, (upd H4 sn o) e = some (.tup (tv t3)) := fun {o} => by rw [upd_ne esn]; exact hee
          refine ⟨_, rfl, .inl ⟨rfl, _, SqL.of h4⟩, _, rfl, _, _, _, _, rfl, rfl, SqT.of hee, rfl, sn, _, _, rfl, rfl, h4, ?_, _, rfl, _, _, _, _, rfl, rfl, SqT.of hee', rfl, q _ (but_upd b4) ?_⟩
          · show ((xs ++ r2).map V.int).length < _
            rw [List.length_map, List.length_append]
            exact small1000 (by omega)
          · rw [upd_same]
            show _ = some (HO.lst ((xs ++ (r2 ++ [t3.2.1])).map V.int))
            rw [← List.append_assoc, List.map_append (l₁ := xs ++ r2)]
            rfl
    | either u v =>
      obtain ⟨b, c, he, hu', hv'⟩ := hM
      have ln := ev_len (W := W) (now := now) u
      have ln2 := ev_len (W := W) (now := now) v
      have hd : 1 + Tm.mx u.dep v.dep ≤ ((k + 1 : Nat) : Int) := hd
      have m1 := Tm.mx_l u.dep v.dep
      have m2 := Tm.mx_r u.dep v.dep
      have hl : (xs.length : Int) + (0 + (u.lok + v.lok)) ≤ 100 := hl
      have p3 := v.lok_nn
      refine ⟨_, rfl, _, _, _, _, rfl, rfl, SqT.of he, rfl, rfl, _, rfl, iteF ?_⟩
      refine ⟨_, rfl, _, rfl, _, _, rfl, .inr (SqT.of he), _, _, rfl, rfl, _, rfl, _, _, _, _, rfl, rfl, SqT.of he, rfl, (by show 3 ≤ sizeLine; decide), fun ll hll => ⟨ll, _, rfl, .inl (SqL.of upd_same), rfl, rfl, .inr ⟨_, rfl, _, _, rfl, rfl, _, _, _, .ref b, rfl, rfl, SqT.of (sameAt (Same.refl H) hll _ _ he), rfl, ?_⟩⟩⟩
      have s0 := sameAt (Same.refl H) hll (o := .lst [.str "either", .str "later", .str "earlier"])
      generalize (upd H ll (.lst [.str "either", .str "later", .str "earlier"])) = H0 at s0 ⊢
      refine ⟨_, rfl, _, rfl, _, rfl, b, d, sn, u, names, Ad, T, W, n, now, xs, rfl, hu'.tk (fun t xs h => s0 _ _ h), R.same s0, s0 _ _ hs, hn, hI.1, (by omega), (by omega), fun H1 b1' h1 => ?_⟩
      have b1 : But sn H H1 := (but_same s0).trans b1'
      have he1 := nl_but hs b1 _ _ he (fun _ z => nomatch z)
      have R1 := R.but hs hn b1
      have q : ∀ H', But sn H H' → H' sn = some (.lst ((xs ++ (eithR (ev W now u) (ev W now v)).2).map V.int)) → Q (oV (eithR (ev W now u) (ev W now v)).1) H' := q
      generalize ev W now u = r at q h1 ln ⊢
      obtain ⟨r1, r2⟩ := r
      have ln : (r2.length : Int) ≤ u.lok := ln
      refine ⟨_, rfl, _, _, _, _, rfl, rfl, SqT.of he1, rfl, rfl, _, rfl, iteF ⟨_, rfl, _, _, _, _, rfl, rfl, SqT.of he1, rfl, (by show 2 ≤ sizeLine; decide), fun l2 hl2 => ⟨l2, _, rfl, .inl (SqL.of upd_same), rfl, rfl, _, rfl, iteF ?_⟩⟩⟩
      have s2 := sameAt (Same.refl H1) hl2 (o := .lst [.str "last", .str "next"])
      generalize (upd H1 l2 (.lst [.str "last", .str "next"])) = H2 at s2 ⊢
      have he2 := s2 _ _ he1
      have h2 := s2 _ _ h1
      have b2 : But sn H H2 := b1.trans (but_same s2)
      have R2 := R1.same s2
      refine ⟨_, rfl, rfl, _, rfl, _, _, _, _, rfl, rfl, SqT.of he2, rfl, rfl, rfl, _, rfl, ?_⟩
      cases r1 with
      | some m => exact iteT ⟨_, rfl, q H2 b2 h2⟩
      | none =>
        refine iteF ?_
        refine ⟨_, rfl, _, _, _, _, rfl, rfl, SqT.of he2, rfl, _, rfl, _, rfl, _, rfl, c, d, sn, v, names, Ad, T, W, n, now, xs ++ r2, rfl, (hv'.tk fun t xs h => nl_but hs b2 _ _ h (fun _ z => nomatch z)), R2, h2, hn, hI.2, (by omega), (by rw [List.length_append]; omega), fun H3 b3' h3 => ?_⟩
        have b3 : But sn H H3 := b2.trans b3'
        have he3 := nl_but hs b3 _ _ he (fun _ z => nomatch z)
        rw [List.append_assoc] at h3
        generalize ev W now v = sv at q h3 ln2 ⊢
        obtain ⟨x1, x2⟩ := sv
        exact ⟨_, rfl, rfl, _, rfl, iteT ⟨_, rfl, q H3 b3 h3⟩⟩
    | later u v =>
      obtain ⟨b, c, he, hu', hv'⟩ := hM
      have ln := ev_len (W := W) (now := now) u
      have ln2 := ev_len (W := W) (now := now) v
      have hd : 1 + Tm.mx u.dep v.dep ≤ ((k + 1 : Nat) : Int) := hd
      have m1 := Tm.mx_l u.dep v.dep
      have m2 := Tm.mx_r u.dep v.dep
      have hl : (xs.length : Int) + (0 + (u.lok + v.lok)) ≤ 100 := hl
      have p3 := v.lok_nn
      refine ⟨_, rfl, _, _, _, _, rfl, rfl, SqT.of he, rfl, rfl, _, rfl, iteF ?_⟩
      refine ⟨_, rfl, _, rfl, _, _, rfl, .inr (SqT.of he), _, _, rfl, rfl, _, rfl, _, _, _, _, rfl, rfl, SqT.of he, rfl, (by show 3 ≤ sizeLine; decide), fun ll hll => ⟨ll, _, rfl, .inl (SqL.of upd_same), rfl, rfl, .inr ⟨_, rfl, _, _, rfl, rfl, _, _, _, .ref b, rfl, rfl, SqT.of (sameAt (Same.refl H) hll _ _ he), rfl, ?_⟩⟩⟩
      have s0 := sameAt (Same.refl H) hll (o := .lst [.str "either", .str "later", .str "earlier"])
      generalize (upd H ll (.lst [.str "either", .str "later", .str "earlier"])) = H0 at s0 ⊢
      refine ⟨_, rfl, _, rfl, _, rfl, b, d, sn, u, names, Ad, T, W, n, now, xs, rfl, hu'.tk (fun t xs h => s0 _ _ h), R.same s0, s0 _ _ hs, hn, hI.1, (by omega), (by omega), fun H1 b1' h1 => ?_⟩
      have b1 : But sn H H1 := (but_same s0).trans b1'
      have he1 := nl_but hs b1 _ _ he (fun _ z => nomatch z)
      have R1 := R.but hs hn b1
      have q : ∀ H', But sn H H' → H' sn = some (.lst ((xs ++ (bothR mxI (ev W now u) (ev W now v)).2).map V.int)) → Q (oV (bothR mxI (ev W now u) (ev W now v)).1) H' := q
      generalize ev W now u = r at q h1 ln ⊢
      obtain ⟨r1, r2⟩ := r
      have ln : (r2.length : Int) ≤ u.lok := ln
      refine ⟨_, rfl, _, _, _, _, rfl, rfl, SqT.of he1, rfl, rfl, _, rfl, iteF ⟨_, rfl, _, _, _, _, rfl, rfl, SqT.of he1, rfl, (by show 2 ≤ sizeLine; decide), fun l2 hl2 => ⟨l2, _, rfl, .inl (SqL.of upd_same), rfl, rfl, _, rfl, iteF ?_⟩⟩⟩
      have s2 := sameAt (Same.refl H1) hl2 (o := .lst [.str "last", .str "next"])
      generalize (upd H1 l2 (.lst [.str "last", .str "next"])) = H2 at s2 ⊢
      have he2 := s2 _ _ he1
      have h2 := s2 _ _ h1
      have b2 : But sn H H2 := b1.trans (but_same s2)
      have R2 := R1.same s2
      refine ⟨_, rfl, rfl, _, rfl, _, _, _, _, rfl, rfl, SqT.of he2, rfl, rfl, rfl, _, rfl, ?_⟩
      cases r1 with
      | none => exact iteT ⟨_, rfl, q H2 b2 h2⟩
      | some m =>
        refine iteF ?_
        refine ⟨_, rfl, _, _, _, _, rfl, rfl, SqT.of he2, rfl, _, rfl, _, rfl, _, rfl, c, d, sn, v, names, Ad, T, W, n, now, xs ++ r2, rfl, (hv'.tk fun t xs h => nl_but hs b2 _ _ h (fun _ z => nomatch z)), R2, h2, hn, hI.2, (by omega), (by rw [List.length_append]; omega), fun H3 b3' h3 => ?_⟩
        have b3 : But sn H H3 := b2.trans b3'
        have he3 := nl_but hs b3 _ _ he (fun _ z => nomatch z)
        rw [List.append_assoc] at h3
        generalize ev W now v = sv at q h3 ln2 ⊢
        obtain ⟨x1, x2⟩ := sv
        refine ⟨_, rfl, rfl, _, rfl, iteF ⟨_, rfl, rfl, _, rfl, ?_⟩⟩
        cases x1 with
        | none => exact ite2 (fun _ => ⟨_, rfl, q H3 b3 h3⟩) (fun c => absurd rfl c)
        | some k2 =>
          refine ite2 (fun c => absurd (of_decide_eq_true c) (fun z => nomatch z)) (fun _ => ?_)
          refine ⟨_, rfl, _, rfl, _, _, rfl, rfl, _, rfl, _, _, _, _, rfl, rfl, SqT.of he3, rfl, rfl, rfl, _, rfl, ?_⟩
          have q : ∀ H', But sn H H' → H' sn = some (.lst ((xs ++ (r2 ++ x2)).map V.int)) → Q (.int (mxI m k2)) H' := q
          refine ite2 (fun c => ?_) (fun c => ?_)
          · have cc : m < k2 := of_decide_eq_true (show decide (m < k2) = true from V.bl.inj (of_decide_eq_true c))
            rw [show mxI m k2 = k2 by unfold mxI; rw [if_pos cc]] at q
            exact ⟨_, rfl, q H3 b3 h3⟩
          · have cc : ¬ m < k2 := fun z => c (show decide (V.bl (decide (m < k2)) = V.bl true) = true by rw [decide_eq_true z]; exact decide_eq_true rfl)
            rw [show mxI m k2 = m by unfold mxI; rw [if_neg cc]] at q
            exact ⟨_, rfl, q H3 b3 h3⟩
    | earlier u v =>
      obtain ⟨b, c, he, hu', hv'⟩ := hM
      have ln := ev_len (W := W) (now := now) u
      have ln2 := ev_len (W := W) (now := now) v
      have hd : 1 + Tm.mx u.dep v.dep ≤ ((k + 1 : Nat) : Int) := hd
      have m1 := Tm.mx_l u.dep v.dep
      have m2 := Tm.mx_r u.dep v.dep
      have hl : (xs.length : Int) + (0 + (u.lok + v.lok)) ≤ 100 := hl
      have p3 := v.lok_nn
      refine ⟨_, rfl, _, _, _, _, rfl, rfl, SqT.of he, rfl, rfl, _, rfl, iteF ?_⟩
      refine ⟨_, rfl, _, rfl, _, _, rfl, .inr (SqT.of he), _, _, rfl, rfl, _, rfl, _, _, _, _, rfl, rfl, SqT.of he, rfl, (by show 3 ≤ sizeLine; decide), fun ll hll => ⟨ll, _, rfl, .inl (SqL.of upd_same), rfl, rfl, .inr ⟨_, rfl, _, _, rfl, rfl, _, _, _, .ref b, rfl, rfl, SqT.of (sameAt (Same.refl H) hll _ _ he), rfl, ?_⟩⟩⟩
      have s0 := sameAt (Same.refl H) hll (o := .lst [.str "either", .str "later", .str "earlier"])
      generalize (upd H ll (.lst [.str "either", .str "later", .str "earlier"])) = H0 at s0 ⊢
      refine ⟨_, rfl, _, rfl, _, rfl, b, d, sn, u, names, Ad, T, W, n, now, xs, rfl, hu'.tk (fun t xs h => s0 _ _ h), R.same s0, s0 _ _ hs, hn, hI.1, (by omega), (by omega), fun H1 b1' h1 => ?_⟩
      have b1 : But sn H H1 := (but_same s0).trans b1'
      have he1 := nl_but hs b1 _ _ he (fun _ z => nomatch z)
      have R1 := R.but hs hn b1
      have q : ∀ H', But sn H H' → H' sn = some (.lst ((xs ++ (bothR mnI (ev W now u) (ev W now v)).2).map V.int)) → Q (oV (bothR mnI (ev W now u) (ev W now v)).1) H' := q
      generalize ev W now u = r at q h1 ln ⊢
      obtain ⟨r1, r2⟩ := r
      have ln : (r2.length : Int) ≤ u.lok := ln
      refine ⟨_, rfl, _, _, _, _, rfl, rfl, SqT.of he1, rfl, rfl, _, rfl, iteF ⟨_, rfl, _, _, _, _, rfl, rfl, SqT.of he1, rfl, (by show 2 ≤ sizeLine; decide), fun l2 hl2 => ⟨l2, _, rfl, .inl (SqL.of upd_same), rfl, rfl, _, rfl, iteF ?_⟩⟩⟩
      have s2 := sameAt (Same.refl H1) hl2 (o := .lst [.str "last", .str "next"])
      generalize (upd H1 l2 (.lst [.str "last", .str "next"])) = H2 at s2 ⊢
      have he2 := s2 _ _ he1
      have h2 := s2 _ _ h1
      have b2 : But sn H H2 := b1.trans (but_same s2)
      have R2 := R1.same s2
      refine ⟨_, rfl, rfl, _, rfl, _, _, _, _, rfl, rfl, SqT.of he2, rfl, rfl, rfl, _, rfl, ?_⟩
      cases r1 with
      | none => exact iteT ⟨_, rfl, q H2 b2 h2⟩
      | some m =>
        refine iteF ?_
        refine ⟨_, rfl, _, _, _, _, rfl, rfl, SqT.of he2, rfl, _, rfl, _, rfl, _, rfl, c, d, sn, v, names, Ad, T, W, n, now, xs ++ r2, rfl, (hv'.tk fun t xs h => nl_but hs b2 _ _ h (fun _ z => nomatch z)), R2, h2, hn, hI.2, (by omega), (by rw [List.length_append]; omega), fun H3 b3' h3 => ?_⟩
        have b3 : But sn H H3 := b2.trans b3'
        have he3 := nl_but hs b3 _ _ he (fun _ z => nomatch z)
        rw [List.append_assoc] at h3
        generalize ev W now v = sv at q h3 ln2 ⊢
        obtain ⟨x1, x2⟩ := sv
        refine ⟨_, rfl, rfl, _, rfl, iteF ⟨_, rfl, rfl, _, rfl, ?_⟩⟩
        cases x1 with
        | none => exact ite2 (fun _ => ⟨_, rfl, q H3 b3 h3⟩) (fun c => absurd rfl c)
        | some k2 =>
          refine ite2 (fun c => absurd (of_decide_eq_true c) (fun z => nomatch z)) (fun _ => ?_)
          refine ⟨_, rfl, _, rfl, _, _, rfl, rfl, _, rfl, _, _, _, _, rfl, rfl, SqT.of he3, rfl, rfl, rfl, _, rfl, ?_⟩
          have q : ∀ H', But sn H H' → H' sn = some (.lst ((xs ++ (r2 ++ x2)).map V.int)) → Q (.int (mnI m k2)) H' := q
          refine ite2 (fun c => ?_) (fun c => ?_)
          · have cc : ¬ m < k2 := of_decide_eq_false (show decide (m < k2) = false from V.bl.inj (of_decide_eq_true c))
            rw [show mnI m k2 = k2 by unfold mnI; split <;> omega] at q
            exact ⟨_, rfl, q H3 b3 h3⟩
          · have cc : m < k2 := Decidable.byContradiction fun z => c (show decide (V.bl (decide (m < k2)) = V.bl false) = true by rw [decide_eq_false z]; exact decide_eq_true rfl)
            rw [show mnI m k2 = m by unfold mnI; rw [if_neg (by omega)]] at q
            exact ⟨_, rfl, q H3 b3 h3⟩
end
end Ash

set_option Elab.async false
set_option linter.all false
set_option maxRecDepth 100000
set_option maxHeartbeats 4000000
set_option pp.maxSteps 3000
namespace Ash
open PySem PySem.Spec PyProof.Rows L2 SrtT
open C8 (pss_cut)
def spLDeep : Sp := fun vs H Q _ => ∃ (p s l : Addr) (names : List Str) (many : Int), vs = [.ref p, .ref l, .int many] ∧ PoolAt H p s ∧ l ≠ p ∧ H l = some (.lst (names.map V.str)) ∧ 1 ≤ names.length ∧ names.length ≤ 25 ∧ (∀ z ∈ names, IsNm z) ∧ 0 ≤ many ∧ many ≤ 9 ∧
  ∀ e q H', MqAt H' e q → q.NmS → q.Fit → q.InS names → Pl H H' p s → Q (.ref e) H'
section
variable {P : Program} {w : World} {K : PySem.W.Frag} {mg : Str → Option Value} {base : Heap} {C : TC} {CW : Addr} {A0 : AC}
structure GD (P : Program) (w : World) (K : PySem.W.Frag) (mg : Str → Option Value) (base : Heap) : Prop extends G2w P w K mg base where
  law_term : Cal P w K mg base CX0 "_law_term" (2 + 3) ["pool", "streams", "depth"] (spLTerm 2)
abbrev s_l_deep : Stmt := topS 84
theorem sc_l_deep : FnScope ["pool", "streams", "many", "model", "k", "kind"] ["pool", "streams", "many"] (defScope s_l_deep) := ⟨rfl, rfl, rfl, by decide +kernel, rfl, by decide +kernel, by decide +kernel⟩
theorem ok_ldeep {f : Addr} {fd : FuncData} (F : Fun K "_law_deep" "_law_deep" s_l_deep f fd) (B : Blt mg) (G : GD P w K mg base) : FnOk P w K mg base CX0 7 f fd ["pool", "streams", "many"] spLDeep := by
  refine F.ok sc_l_deep (fun vs H Q E h => ?_) (fun cdv A outer s H vs Q E hr h => ?_)
  · obtain ⟨p, s, l, names, many, rfl, _⟩ := h
    rfl
  · obtain ⟨p, s0, l, names, many, rfl, hP, hlp, hl, n1, n25, hnm, m0, m9, q⟩ := h
    refine ⟨_, (pss_cons (ps_set (i := 3) sc_l_deep.nd rfl (Or.inl rfl) (pe_cal G.law_term (hr.mono (by decide)) pass0 (pa_cons (pv 0) (pa_cons (pv 1) (pa_cons pe_int pa_nil)))))
    (pss_cons (ps_for PassesOwn.never rfl (pi_range1 (by rfl) B.range (pa_cons (pv 2) pa_nil)) (pg_name (i := 4) sc_l_deep.nd rfl (Or.inl rfl))
      (pss_cons (ps_set (i := 5) sc_l_deep.nd rfl (Or.inl rfl) (pe_cal G.law_draw (hr.mono (by decide)) pass0 (pa_cons (pv 0) (pa_cons pe_int pa_nil))))
      (pss_one (ps_if (pt_cmpR op_lt (pv 5) pe_int (nomark _))
        (pss_one (ps_set (i := 3) sc_l_deep.nd rfl (Or.inl rfl) (pe_tup (pa_cons (pe_ix ix_list (pe_lst (pa_cons pe_str (pa_cons pe_str pa_nil))) (pv 5) (fun _ _ => rfl)) (pa_cons (pe_ix ix_list (pv 1) (pe_cal G.law_draw (hr.mono (by decide)) pass0 (pa_cons (pv 0) (pa_cons (pe_callB call_len (by rfl) B.len (by decide +kernel) (pa_cons (pv 1) pa_nil)) pa_nil))) (fun _ _ => rfl)) (pa_cons (pv 3) pa_nil))))))
        (pss_one (ps_set (i := 3) sc_l_deep.nd rfl (Or.inl rfl) (pe_tup (pa_cons (pe_ix ix_list (pe_lst (pa_cons pe_str (pa_cons pe_str pa_nil))) (pe_op op_sub (pv 5) pe_int) (fun _ _ => rfl)) (pa_cons (pv 3) (pa_cons (pe_tup (pa_cons pe_str pa_nil)) pa_nil))))))))))
    (pss_cons (ps_if (pt_cmpR op_eq (pe_cal G.law_draw (hr.mono (by decide)) pass0 (pa_cons (pv 0) (pa_cons pe_int pa_nil))) pe_int (nomark _))
      (pss_one (ps_ret (pv 3)))
      pss_nil)
    (pss_one (ps_ret (pe_tup (pa_cons pe_str (pa_cons (pe_ix ix_list (pv 1) (pe_cal G.law_draw (hr.mono (by decide)) pass0 (pa_cons (pv 0) (pa_cons (pe_callB call_len (by rfl) B.len (by decide +kernel) (pa_cons (pv 1) pa_nil)) pa_nil))) (fun _ _ => rfl)) (pa_cons (pv 3) pa_nil))))))))), ?_⟩
    refine ⟨_, rfl, _, rfl, p, s0, l, names, rfl, hP, hlp, hl, n1, n25, hnm, fun e0 t0 H1 hM0 L0 I0 P1 => ?_⟩
    have sz : t0.dep ≤ 3 ∧ t0.par ≤ 7 ∧ t0.lok ≤ 2 := ⟨L0.dep, L0.par, L0.lok⟩
    refine ⟨_, rfl, _, rfl, (by omega), (by omega), for_range (n := many.toNat) (fun k σ H2 => (∃ x4 x5 em t, σ = [some (.ref p), some (.ref l), some (.int many), some (.ref em), x4, x5] ∧ MdAt H2 em t ∧ t.NmS ∧ t.InS names ∧ t.dep ≤ 3 + (k : Int) ∧ t.par ≤ 7 + 2 * (k : Int) ∧ t.lok ≤ 2 + (k : Int)) ∧ Pl H H2 p s0) ?_ ?_ ?_⟩
    · exact ⟨⟨_, _, e0, t0, rfl, hM0, L0.nm, I0, by omega, by omega, by omega⟩, P1⟩
    · rintro k σ H2 hk ⟨⟨x4, x5, em, t, rfl, hM, hN, hI, z1, z2, z3⟩, P2⟩
      have hl2 := P2.keep hl hlp
      refine ⟨_, rfl, p, s0, 4, rfl, P2.now, (by decide), (by decide), fun kind H3 k0 k4 P3 => ?_⟩
      have hM3 := hM.tk (pl_tk P2.now P3)
      have P23 := P2.trans P3
      have hl3 := P3.keep hl2 hlp
      refine ⟨_, rfl, _, _, rfl, rfl, _, rfl, ?_⟩
      refine ite2 (fun c => ?_) (fun c => ?_)
      · have c : kind < 2 := of_decide_eq_true c
        refine ⟨(by show 2 ≤ sizeLine; decide), fun ll hll => ?_⟩
        have P4 : Pl H (upd H3 ll (.lst [.str "last", .str "next"])) p s0 := P23.new hll
        have hM4 : MdAt (upd H3 ll (.lst [.str "last", .str "next"])) em t := hM3.tk fun t xs h => sameAt (Same.refl H3) hll _ _ h
        have hl4 := sameAt (Same.refl H3) hll (o := .lst [.str "last", .str "next"]) _ _ hl3
        have hll4 : (upd H3 ll (.lst [.str "last", .str "next"])) ll = some (.lst [.str "last", .str "next"]) := upd_same
        generalize (upd H3 ll (.lst [.str "last", .str "next"])) = H4 at P4 hM4 hl4 hll4 ⊢
        obtain ⟨wd, mk, hat, hmk⟩ : ∃ (wd : Str) (mk : Str → Tm → Tm), atI ([.str "last", .str "next"] : List V) kind = some (.str wd) ∧ ((wd = "last" ∧ mk = Tm.last) ∨ (wd = "next" ∧ mk = Tm.next)) := by
          have : kind = 0 ∨ kind = 1 := by omega
          rcases this with rfl | rfl
          · exact ⟨"last", Tm.last, rfl, .inl ⟨rfl, rfl⟩⟩
          · exact ⟨"next", Tm.next, rfl, .inr ⟨rfl, rfl⟩⟩
        refine ⟨_, rfl, _, _, _, _, rfl, rfl, SqL.of hll4, hat, _, rfl, _, rfl, _, rfl, _, _, rfl, .inl ⟨_, SqL.of hl4, rfl⟩, p, s0, _, rfl, P4.now, (by rw [List.length_map]; omega), Int.lt_of_le_of_lt (show ((names.map V.str).length : Int) ≤ 25 by rw [List.length_map]; omega) (by decide), fun g H5 g0 g1 P5 => ?_⟩
        rw [List.length_map] at g1
        obtain ⟨j, rfl⟩ : ∃ j : Nat, g = (j : Int) := ⟨g.toNat, by omega⟩
        have hj : j < names.length := by omega
        have hz : names[j] ∈ names := List.getElem_mem hj
        generalize hzz : names[j] = z at hz
        refine ⟨_, _, _, .str z, rfl, rfl, SqL.of (P5.keep hl4 hlp), atI_nat (by rw [List.getElem?_map, List.getElem?_eq_getElem hj, hzz]; rfl), _, rfl, (by show 3 ≤ sizeLine; decide), fun e he => ?_⟩
        have k5 : MdAt (upd H5 e (.tup [.str wd, .str z, .ref em])) em t := (hM4.tk (pl_tk P4.now P5)).tk fun t xs h => sameAt (Same.refl H5) he _ _ h
        have PF : Pl H (upd H5 e (.tup [.str wd, .str z, .ref em])) p s0 := (P4.trans P5).new he
        rcases hmk with ⟨rfl, rfl⟩ | ⟨rfl, rfl⟩
        · exact ⟨⟨_, _, e, .last z t, rfl, ⟨em, upd_same, k5⟩, ⟨hnm z hz, hN⟩, ⟨hz, hI⟩, by show 1 + t.dep ≤ _; omega, by show 1 + t.par ≤ _; omega, by show 1 + t.lok ≤ _; omega⟩, PF⟩
        · exact ⟨⟨_, _, e, .next z t, rfl, ⟨em, upd_same, k5⟩, ⟨hnm z hz, hN⟩, ⟨hz, hI⟩, by show 1 + t.dep ≤ _; omega, by show 1 + t.par ≤ _; omega, by show 1 + t.lok ≤ _; omega⟩, PF⟩
      · have c : ¬ kind < 2 := fun z => c (decide_eq_true z)
        refine ⟨(by show 2 ≤ sizeLine; decide), fun ll hll => ?_⟩
        have P4 : Pl H (upd H3 ll (.lst [.str "either", .str "earlier"])) p s0 := P23.new hll
        have hM4 : MdAt (upd H3 ll (.lst [.str "either", .str "earlier"])) em t := hM3.tk fun t xs h => sameAt (Same.refl H3) hll _ _ h
        have hll4 : (upd H3 ll (.lst [.str "either", .str "earlier"])) ll = some (.lst [.str "either", .str "earlier"]) := upd_same
        generalize (upd H3 ll (.lst [.str "either", .str "earlier"])) = H4 at P4 hM4 hll4 ⊢
        obtain ⟨wd, mk, hat, hmk⟩ : ∃ (wd : Str) (mk : Tm → Tm → Tm), atI ([.str "either", .str "earlier"] : List V) (kind - 2) = some (.str wd) ∧ ((wd = "either" ∧ mk = Tm.either) ∨ (wd = "earlier" ∧ mk = Tm.earlier)) := by
          have : kind = 2 ∨ kind = 3 := by omega
          rcases this with rfl | rfl
          · exact ⟨"either", Tm.either, rfl, .inl ⟨rfl, rfl⟩⟩
          · exact ⟨"earlier", Tm.earlier, rfl, .inr ⟨rfl, rfl⟩⟩
        refine ⟨_, rfl, _, _, rfl, rfl, _, _, _, _, rfl, rfl, SqL.of hll4, hat, _, rfl, (by show 1 ≤ sizeLine; decide), fun e1 he1 => ⟨(by show 3 ≤ sizeLine; decide), fun e he => ?_⟩⟩
        have s4 : Same H4 (upd (upd H4 e1 (.tup [.str "now"])) e (.tup [.str wd, .ref em, .ref e1])) := (sameAt (Same.refl H4) he1).trans (sameAt (Same.refl _) he)
        have k5 : MdAt (upd (upd H4 e1 (.tup [.str "now"])) e (.tup [.str wd, .ref em, .ref e1])) em t := hM4.tk fun t xs h => s4 _ _ h
        have k6 : MdAt (upd (upd H4 e1 (.tup [.str "now"])) e (.tup [.str wd, .ref em, .ref e1])) e1 .now := sameAt (Same.refl _) he _ _ upd_same
        have PF : Pl H (upd (upd H4 e1 (.tup [.str "now"])) e (.tup [.str wd, .ref em, .ref e1])) p s0 := P4.same s4
        have mx : Tm.mx t.dep (Tm.now).dep ≤ t.dep := by
          have := t.dep_pos
          show Tm.mx t.dep 1 ≤ _
          unfold Tm.mx
          split <;> omega
        rcases hmk with ⟨rfl, rfl⟩ | ⟨rfl, rfl⟩
        · exact ⟨⟨_, _, e, .either t .now, rfl, ⟨em, e1, upd_same, k5, k6⟩, ⟨hN, trivial⟩, ⟨hI, trivial⟩, by show 1 + Tm.mx t.dep (Tm.now).dep ≤ _; omega, by show 1 + (t.par + 1) ≤ _; omega, by show 0 + (t.lok + 0) ≤ _; omega⟩, PF⟩
        · exact ⟨⟨_, _, e, .earlier t .now, rfl, ⟨em, e1, upd_same, k5, k6⟩, ⟨hN, trivial⟩, ⟨hI, trivial⟩, by show 1 + Tm.mx t.dep (Tm.now).dep ≤ _; omega, by show 1 + (t.par + 1) ≤ _; omega, by show 0 + (t.lok + 0) ≤ _; omega⟩, PF⟩
    · rintro σ H2 ⟨⟨x4, x5, em, t, rfl, hM, hN, hI, z1, z2, z3⟩, P2⟩
      have hl2 := P2.keep hl hlp
      have hFt : t.Fit := ⟨by omega, by omega, by omega⟩
      refine ⟨_, rfl, p, s0, 2, rfl, P2.now, (by decide), (by decide), fun x H3 x0 x2 P3 => ⟨rfl, _, rfl, ?_⟩⟩
      have hM3 := hM.tk (pl_tk P2.now P3)
      have P23 := P2.trans P3
      have hl3 := P3.keep hl2 hlp
      refine ite2 (fun _ => ?_) (fun _ => ?_)
      · exact ⟨_, rfl, q em (.tm t) H3 hM3 hN hFt hI P23⟩
      · refine ⟨_, rfl, _, rfl, _, rfl, _, _, rfl, .inl ⟨_, SqL.of hl3, rfl⟩, p, s0, _, rfl, P3.now, (by rw [List.length_map]; omega), Int.lt_of_le_of_lt (show ((names.map V.str).length : Int) ≤ 25 by rw [List.length_map]; omega) (by decide), fun g H5 g0 g1 P5 => ?_⟩
        rw [List.length_map] at g1
        obtain ⟨j, rfl⟩ : ∃ j : Nat, g = (j : Int) := ⟨g.toNat, by omega⟩
        have hj : j < names.length := by omega
        have hz : names[j] ∈ names := List.getElem_mem hj
        generalize hzz : names[j] = z at hz
        refine ⟨_, _, _, .str z, rfl, rfl, SqL.of (P5.keep hl3 hlp), atI_nat (by rw [List.getElem?_map, List.getElem?_eq_getElem hj, hzz]; rfl), _, rfl, (by show 3 ≤ sizeLine; decide), fun e he => ?_⟩
        exact q e (.am (.number z t)) _ ⟨em, upd_same, (hM3.tk (pl_tk P3.now P5)).tk fun t xs h => sameAt (Same.refl H5) he _ _ h⟩ ⟨hnm z hz, hN⟩ hFt ⟨hz, hI⟩ ((P23.trans P5).new he)
end
end Ash

set_option Elab.async false
set_option linter.all false
set_option maxRecDepth 100000
set_option maxHeartbeats 4000000
set_option pp.maxSteps 3000
namespace Ash
open PySem PySem.Spec PyProof.Rows L2 SrtT
open C8 (pss_cut)
def Qn.dep : Qn → Int
  | .tm t => t.dep
  | .am (.number _ t) => t.dep
  | .am (.count _ t u) => Tm.mx t.dep u.dep
  | .am (.total _ t u) => Tm.mx t.dep u.dep
  | .am (.gap t u) => Tm.mx t.dep u.dep
theorem mq_head14 {H : Hp} {e : Addr} {t : Tm} (h : MdAt H e t) : ∃ x r, H e = some (.tup (.str x :: r)) ∧ x ≠ ("number" : Str) ∧ inV (.str x) [.str "count", .str "total", .str "gap"] = false := by
  cases t with
  | now => exact ⟨_, _, h, by decide, rfl⟩
  | shift n u => obtain ⟨b, h, _⟩ := h; exact ⟨_, _, h, by decide, rfl⟩
  | last n u => obtain ⟨b, h, _⟩ := h; exact ⟨_, _, h, by decide, rfl⟩
  | next n u => obtain ⟨b, h, _⟩ := h; exact ⟨_, _, h, by decide, rfl⟩
  | either n u => obtain ⟨b, c, h, _⟩ := h; exact ⟨_, _, h, by decide, rfl⟩
  | later n u => obtain ⟨b, c, h, _⟩ := h; exact ⟨_, _, h, by decide, rfl⟩
  | earlier n u => obtain ⟨b, c, h, _⟩ := h; exact ⟨_, _, h, by decide, rfl⟩
theorem perm_isum {xs ys : List Int} (h : xs.Perm ys) : xs.sum = ys.sum := by
  induction h with
  | nil => rfl
  | cons x _ ih => simp [ih]
  | swap x y l => simp; omega
  | trans _ _ ih1 ih2 => rw [ih1, ih2]
/-- what the law finds when it goes through a question -/
def spLTold : Sp := fun vs H Q _ => ∃ (em d sn : Addr) (q : Qn) (names : List Str) (A : Str → Addr) (T W : Tr) (n : Nat) (now : Int), vs = [.ref em, .ref d, .int now, .ref sn] ∧ MqAt H em q ∧ Rk H d names A T W n ∧ H sn = some (.lst []) ∧ (∀ z ∈ names, A z ≠ sn) ∧ q.InS names ∧ q.Fit ∧
  ∀ (ys : List Int) H', But sn H H' → H' sn = some (.lst (ys.map V.int)) → ys.length ≤ 500 → (∀ z, z ∈ ys ↔ z ∈ (evQ W now q).2) → Q (oV (evQ W now q).1) H'
section
variable {P : Program} {w : World} {K : PySem.W.Frag} {mg : Str → Option Value} {base : Heap} {C : TC} {CW : Addr} {A0 : AC}
abbrev s_l_told : Stmt := topS 80
theorem sc_l_told : FnScope ["model", "rows", "now", "seen", "answer", "row", "low", "high", "counted"] ["model", "rows", "now", "seen"] (defScope s_l_told) := ⟨rfl, rfl, rfl, by decide +kernel, rfl, by decide +kernel, by decide +kernel⟩
theorem ok_ltold {f : Addr} {fd : FuncData} (F : Fun K "_law_told" "_law_told" s_l_told f fd) (B : Blt mg) (G : GA P w K mg base 12) : FnOk P w K mg base CX0 15 f fd ["model", "rows", "now", "seen"] spLTold := by
  refine F.ok sc_l_told (fun vs H Q E h => ?_) (fun cdv A outer s H vs Q E hr h => ?_)
  · obtain ⟨em, d, sn, q, names, Ad, T, W, n, now, rfl, _⟩ := h
    rfl
  · obtain ⟨em, d, sn, m, names, Ad, T, W, n, now, rfl, hM, R, hs, hn, hI, hF, q⟩ := h
    have hu := hu_of hr
    refine ⟨_, (pss_cons (ps_if (pt_cmpR op_eq (pe_ix ix_tup (pv 0) pe_int (fun _ _ => rfl)) pe_str (nomark _))
      (pss_cons (ps_set (i := 4) sc_l_told.nd rfl (Or.inl rfl) (pe_cal G.law_answer (hr.mono (by decide)) pass0 (pa_cons (pe_ix ix_tup (pv 0) pe_int (fun _ _ => rfl)) (pa_cons (pv 1) (pa_cons (pv 2) (pa_cons (pv 3) pa_nil))))))
      (pss_cons (ps_if (pt_cmpR op_isN (pv 4) pe_non (nomark _))
        (pss_one (ps_ret pe_non))
        pss_nil)
      (pss_cons (ps_set (i := 5) sc_l_told.nd rfl (Or.inl rfl) (pe_cal G.law_last (hr.mono (by decide)) pass0 (pa_cons (pe_dget hu (pv 1) (pe_ix ix_tup (pv 0) pe_int (fun _ _ => rfl)) (fun _ _ => rfl)) (pa_cons (pv 4) pa_nil))))
      (pss_cons (ps_if (pt_cmpR op_isN (pv 5) pe_non (nomark _))
        (pss_one (ps_ret pe_non))
        pss_nil)
      (pss_cons (ps_expr (pe_bm PySem.F.plainAttrs_list PySem.F.slot_list_append PySem.F.type_list_append mt_append (pv 3) (pa_cons (pe_ix ix_tup (pv 5) pe_int (fun _ _ => rfl)) pa_nil)))
      (pss_one (ps_ret (pe_ix (show IxR _ (rIxT K) from ix_tup) (pv 5) pe_int (fun _ _ => rfl)))))))))
      pss_nil)
    (pss_cons (ps_if (pt_cmpR op_notIn_seq (pe_ix ix_tup (pv 0) pe_int (fun _ _ => rfl)) (pe_lst (pa_cons pe_str (pa_cons pe_str (pa_cons pe_str pa_nil)))) rfl)
      (pss_one (ps_ret (pe_cal G.law_answer (hr.mono (by decide)) pass0 (pa_cons (pv 0) (pa_cons (pv 1) (pa_cons (pv 2) (pa_cons (pv 3) pa_nil)))))))
      pss_nil)
    (pss_cons (ps_set (i := 6) sc_l_told.nd rfl (Or.inr rfl) (pe_cal G.law_answer (hr.mono (by decide)) pass0 (pa_cons (pe_ix ix_tup (pv 0) (pe_op op_sub (pe_callB call_len_seq (by rfl) B.len (by decide +kernel) (pa_cons (pv 0) pa_nil)) pe_int) (fun _ _ => rfl)) (pa_cons (pv 1) (pa_cons (pv 2) (pa_cons (pv 3) pa_nil))))))
    (pss_cons (ps_if (pt_cmpR op_isN (pv 6) pe_non (nomark _))
      (pss_one (ps_ret pe_non))
      pss_nil)
    (pss_cons (ps_set (i := 7) sc_l_told.nd rfl (Or.inr rfl) (pe_cal G.law_answer (hr.mono (by decide)) pass0 (pa_cons (pe_ix ix_tup (pv 0) (pe_op op_sub (pe_callB call_len_seq (by rfl) B.len (by decide +kernel) (pa_cons (pv 0) pa_nil)) pe_int) (fun _ _ => rfl)) (pa_cons (pv 1) (pa_cons (pv 2) (pa_cons (pv 3) pa_nil))))))
    (pss_cons (ps_if (pt_cmpR op_isN (pv 7) pe_non (nomark _))
      (pss_one (ps_ret pe_non))
      pss_nil)
    (pss_cons (ps_if (pt_cmpR op_eq (pe_ix ix_tup (pv 0) pe_int (fun _ _ => rfl)) pe_str (nomark _))
      (pss_one (ps_ret (pe_op op_sub (pv 7) (pv 6))))
      pss_nil)
    (pss_cons (ps_setLc (i := 8) (own := [("row", 5)]) (g := gName 5) (by rfl) sc_l_told.nd rfl rfl (sw_true rfl rfl rfl (by decide +kernel)) (pi_list (pe_dget hu (pv 1) (pe_ix ix_tup (pv 0) pe_int (fun _ _ => rfl)) (fun _ _ => rfl))) (blkOk_by (own := [("row", 5)]) (N := ["model", "rows", "now", "seen", "answer", "row", "low", "high", "counted"]) (sc := defScope s_l_told) (by decide +kernel)) (fun _ _ _ _ _ => (pg_name (i := 5) sc_l_told.nd rfl (Or.inl rfl))) (fun _ _ _ _ _ => pts_one (pt_chain op_lt op_le (pv 6) (pe_ix (show IxR _ (rIxT K) from ix_tup) (pv 5) pe_int (fun _ _ => rfl)) (pv 7))) (fun _ _ _ _ _ => (pv 5)))
    (pss_cons (ps_for PassesOwn.never rfl (pi_list (pv 8)) (pg_name (i := 5) sc_l_told.nd rfl (Or.inl rfl))
      (pss_one (ps_expr (pe_bm PySem.F.plainAttrs_list PySem.F.slot_list_append PySem.F.type_list_append mt_append (pv 3) (pa_cons (pe_ix ix_tup (pv 5) pe_int (fun _ _ => rfl)) pa_nil)))))
    (pss_cons (ps_if (pt_cmpR op_eq (pe_ix ix_tup (pv 0) pe_int (fun _ _ => rfl)) pe_str (nomark _))
      (pss_one (ps_ret (pe_callB call_len_seq (by rfl) B.len (by decide +kernel) (pa_cons (pv 8) pa_nil))))
      pss_nil)
    (pss_one (ps_ret (pe_callB (cr_sum rfl) (by rfl) B.sum (by decide +kernel) (pa_cons (pe_lc (own := [("row", 5)]) (g := gName 5) (tt := tYes) (by rfl) sc_l_told.nd (pi_list (pv 8)) (blkOk_by (own := [("row", 5)]) (N := ["model", "rows", "now", "seen", "answer", "row", "low", "high", "counted"]) (sc := defScope s_l_told) (by decide +kernel)) (fun _ _ _ _ _ => (pg_name (i := 5) sc_l_told.nd rfl (Or.inl rfl))) (fun _ _ _ _ _ => pts_nil) (fun _ _ _ _ _ => (pe_ix (show IxR _ (rIxT K) from ix_tup) (pv 5) pe_int (fun _ _ => rfl)))) pa_nil)))))))))))))), ?_⟩
    cases m with
    | tm t =>
      have hM : MdAt H em t := hM
      have hF : t.Fit := hF
      obtain ⟨x, r, hx, n1, n2⟩ := mq_head14 hM
      have at0 : atI (V.str x :: r) 0 = some (V.str x) := atI_nat (xs := V.str x :: r) (j := 0) rfl
      refine ⟨_, rfl, _, _, _, _, rfl, rfl, SqT.of hx, at0, rfl, _, rfl, ite2 (fun c => absurd (V.str.inj (of_decide_eq_true c)) n1) fun _ => ?_⟩
      refine ⟨_, rfl, _, _, _, _, rfl, rfl, SqT.of hx, at0, (by show 3 ≤ sizeLine; decide), fun ll hll => ⟨ll, _, rfl, .inl (SqL.of upd_same), rfl, rfl, _, rfl, ?_⟩⟩
      have s0 := sameAt (Same.refl H) hll (o := .lst [.str "count", .str "total", .str "gap"])
      rw [n2]
      refine iteT ⟨_, rfl, _, rfl, _, rfl, _, rfl, em, d, sn, t, names, Ad, T, W, n, now, [], rfl, hM.tk (fun t xs h => s0 _ _ h), R.same s0, s0 _ _ hs, hn, hI, hF.1, (by have := hF.2.2; show ((0 : Nat) : Int) + t.lok ≤ 100; omega), fun H1 b1 h1 => ?_⟩
      have ln := ev_len (W := W) (now := now) t
      have := hF.2.2
      exact q _ H1 ((but_same s0).trans b1) h1 (by rw [List.nil_append]; omega) (fun z => by rw [List.nil_append]; exact Iff.rfl)
    | am m =>
      cases m with
      | number z u =>
        obtain ⟨b, he, hu'⟩ := hM
        have hF : u.Fit := hF
        have ln := ev_len (W := W) (now := now) u
        have l12 := hF.2.2
        refine ⟨_, rfl, _, _, _, _, rfl, rfl, SqT.of he, rfl, rfl, _, rfl, iteT ?_⟩
        refine ⟨_, rfl, _, _, _, _, rfl, rfl, SqT.of he, rfl, _, rfl, _, rfl, _, rfl, b, d, sn, u, names, Ad, T, W, n, now, [], rfl, hu', R, hs, hn, hI.2, hF.1, (by show ((0 : Nat) : Int) + u.lok ≤ 100; omega), fun H1 b1 h1 => ?_⟩
        rw [List.nil_append] at h1
        have q : ∀ (ys : List Int) H', But sn H H' → H' sn = some (.lst (ys.map V.int)) → ys.length ≤ 500 → (∀ z', z' ∈ ys ↔ z' ∈ (lookA (ev W now u) (lastR (W z))).2) → Q (oV (lookA (ev W now u) (lastR (W z))).1) H' := q
        generalize ev W now u = r at q h1 ln ⊢
        obtain ⟨r1, r2⟩ := r
        have ln : (r2.length : Int) ≤ u.lok := ln
        have he1 := nl_but hs b1 _ _ he (fun _ z => nomatch z)
        have R1 := R.but hs hn b1
        refine ⟨_, rfl, rfl, _, rfl, ?_⟩
        cases r1 with
        | none => exact ite2 (fun _ => q r2 H1 b1 h1 (by omega) (fun _ => Iff.rfl)) (fun c => absurd rfl c)
        | some m =>
          refine ite2 (fun c => absurd (of_decide_eq_true c) (fun z => nomatch z)) (fun _ => ?_)
          have hg := DGet.k (k := Sum.inr z) R1.R.at_
          rw [valV_nm, if_pos hI.1] at hg
          obtain ⟨ys, hy, hT⟩ := R1.R.row z hI.1
          refine ⟨_, rfl, _, rfl, _, _, _, _, rfl, rfl, SqT.of he1, rfl, d, _, rfl, hg, _, rfl, Ad z, ys, T z, m, rfl, hy, hT, fun v H3 s3 hv => ?_⟩
          rw [R1.last hI.1] at hv
          have h3 := s3 _ _ h1
          have b3 : But sn H H3 := b1.trans (but_same s3)
          refine ⟨_, rfl, rfl, _, rfl, ?_⟩
          cases hrow : lastR (W z) m with
          | none =>
            rw [hrow] at hv
            have hv : v = .non := hv
            subst hv
            have e : lookA (some m, r2) (lastR (W z)) = (none, r2) := by
              show (match lastR (W z) m with | none => (none, r2) | some t => (some t.2.2, r2 ++ [t.2.1])) = _
              rw [hrow]
            rw [e] at q
            exact ite2 (fun _ => q r2 H3 b3 h3 (by omega) (fun _ => Iff.rfl)) (fun c => absurd rfl c)
          | some t3 =>
            rw [hrow] at hv
            obtain ⟨e, rfl, hee⟩ := hv
            have e' : lookA (some m, r2) (lastR (W z)) = (some t3.2.2, r2 ++ [t3.2.1]) := by
              show (match lastR (W z) m with | none => (none, r2) | some t => (some t.2.2, r2 ++ [t.2.1])) = _
              rw [hrow]
            rw [e'] at q
            refine ite2 (fun c => absurd (of_decide_eq_true c) (fun z => nomatch z)) (fun _ => ?_)
            have esn : e ≠ sn := fun z => by rw [z, h3] at hee; cases hee
            have hee' : ∀ {o}, (upd H3 sn o) e = some (.tup (tv t3)) := fun {o} => by rw [upd_ne esn]; exact hee
            refine ⟨_, rfl, .inl ⟨rfl, _, SqL.of h3⟩, _, rfl, _, _, _, _, rfl, rfl, SqT.of hee, rfl, sn, _, _, rfl, rfl, h3, ?_, _, rfl, _, _, _, _, rfl, rfl, SqT.of hee', rfl, q (r2 ++ [t3.2.1]) _ (but_upd b3) ?_ ?_ (fun _ => Iff.rfl)⟩
            · rw [List.length_map]
              exact small1000 (by omega)
            · rw [upd_same, List.map_append]
              rfl
            · rw [List.length_append]
              show r2.length + 1 ≤ 500
              omega
      | count z u v =>
        obtain ⟨b, c, he, hu', hv'⟩ := hM
        have ln := ev_len (W := W) (now := now) u
        have ln2 := ev_len (W := W) (now := now) v
        have l12 := hF.1.2.2
        have l13 := hF.2.2.2
        refine ⟨_, rfl, _, _, _, _, rfl, rfl, SqT.of he, rfl, rfl, _, rfl, iteF ⟨_, rfl, _, _, _, _, rfl, rfl, SqT.of he, rfl, (by show 3 ≤ sizeLine; decide), fun ll hll => ⟨ll, _, rfl, .inl (SqL.of upd_same), rfl, rfl, _, rfl, iteF ?_⟩⟩⟩
        have s0 := sameAt (Same.refl H) hll (o := .lst [.str "count", .str "total", .str "gap"])
        generalize (upd H ll (.lst [.str "count", .str "total", .str "gap"])) = H0 at s0 ⊢
        have he0 := s0 _ _ he
        refine ⟨_, rfl, _, rfl, _, _, rfl, .inr (SqT.of he0), _, _, rfl, rfl, _, _, _, .ref b, rfl, rfl, SqT.of he0, rfl, _, rfl, _, rfl, _, rfl, b, d, sn, u, names, Ad, T, W, n, now, [], rfl, hu'.tk (fun t xs h => s0 _ _ h), R.same s0, s0 _ _ hs, hn, hI.2.1, hF.1.1, (by show ((0 : Nat) : Int) + u.lok ≤ 100; omega), fun H1 b1' h1 => ?_⟩
        rw [List.nil_append] at h1
        have b1 : But sn H H1 := (but_same s0).trans b1'
        have q : ∀ (ys : List Int) H', But sn H H' → H' sn = some (.lst (ys.map V.int)) → ys.length ≤ 500 → (∀ z', z' ∈ ys ↔ z' ∈ (tellR (ev W now u) (ev W now v) (fun m k => ((some ((betweenR (W z) m k).length : Int), (betweenR (W z) m k).map (·.2.1)) : Rs))).2) → Q (oV (tellR (ev W now u) (ev W now v) (fun m k => ((some ((betweenR (W z) m k).length : Int), (betweenR (W z) m k).map (·.2.1)) : Rs))).1) H' := q
        generalize ev W now u = r at q h1 ln ⊢
        obtain ⟨r1, r2⟩ := r
        have ln : (r2.length : Int) ≤ u.lok := ln
        have he1 := nl_but hs b1 _ _ he (fun _ z => nomatch z)
        have R1 := R.but hs hn b1
        refine ⟨_, rfl, rfl, _, rfl, ?_⟩
        cases r1 with
        | none => exact ite2 (fun _ => q r2 H1 b1 h1 (by omega) (fun _ => Iff.rfl)) (fun c => absurd rfl c)
        | some m =>
          refine ite2 (fun c => absurd (of_decide_eq_true c) (fun z => nomatch z)) (fun _ => ?_)
          refine ⟨_, rfl, _, rfl, _, _, rfl, .inr (SqT.of he1), _, _, rfl, rfl, _, _, _, .ref c, rfl, rfl, SqT.of he1, rfl, _, rfl, _, rfl, _, rfl, c, d, sn, v, names, Ad, T, W, n, now, r2, rfl, hv'.tk (fun t xs h => nl_but hs b1 _ _ h (fun _ z => nomatch z)), R1, h1, hn, hI.2.2, hF.2.1, (by omega), fun H2 b2' h2 => ?_⟩
          have b2 : But sn H H2 := b1.trans b2'
          have he2 := nl_but hs b2 _ _ he (fun _ z => nomatch z)
          have R2 := R.but hs hn b2
          generalize ev W now v = sv at q h2 ln2 ⊢
          obtain ⟨x1, x2⟩ := sv
          have ln2 : (x2.length : Int) ≤ v.lok := ln2
          have lx : (r2 ++ x2).length ≤ 24 := by rw [List.length_append]; omega
          have h2 : H2 sn = some (.lst ((r2 ++ x2).map V.int)) := h2
          refine ⟨_, rfl, rfl, _, rfl, ?_⟩
          cases x1 with
          | none => exact ite2 (fun _ => q (r2 ++ x2) H2 b2 h2 (by omega) (fun _ => Iff.rfl)) (fun c => absurd rfl c)
          | some k2 =>
            refine ite2 (fun c => absurd (of_decide_eq_true c) (fun z => nomatch z)) (fun _ => ?_)
            refine ⟨_, rfl, _, _, _, _, rfl, rfl, SqT.of he2, rfl, rfl, _, rfl, iteF ?_⟩
            have hg := DGet.k (k := Sum.inr z) R2.R.at_
            rw [valV_nm, if_pos hI.1] at hg
            obtain ⟨ys, hy, hT⟩ := R2.R.row z hI.1
            have few : (T z).length ≤ 400 := Nat.le_trans (R.g.few hI.1) R.n4
            have pm : (betweenR (W z) m k2).Perm (betweenR (T z) m k2) := (R.w.1 z hI.1).1.filter _
            refine ⟨_, rfl, _, rfl, _, _, _, _, rfl, rfl, SqT.of he2, rfl, d, _, rfl, hg, Ad z, rfl, ⟨_, SqL.of hy⟩, fun D hD => lc_it (walk_list (xs := ys)) (fun i H5 => (∃ zs, H5 D = some (.lst zs) ∧ TrAt H5 zs (betweenR ((T z).take i) m k2)) ∧ Same H2 H5) ⟨⟨[], upd_same, rfl, fun i v t a b => by simp at a⟩, sameAt (Same.refl H2) hD⟩ (fun i H5 _ hv => SqL.of (hv.2 _ _ hy)) ?_ ?_⟩
            · rintro i x H5 H6 hi ⟨⟨zs, hD5, hT5⟩, s5⟩ ⟨rfl, hx⟩
              have hi2 : i < (T z).length := by rw [← hT.1]; exact hi
              obtain ⟨t3, ht⟩ : ∃ t3, (T z)[i]? = some t3 := ⟨_, List.getElem?_eq_getElem hi2⟩
              obtain ⟨e, rfl, hee⟩ := hT.2 i x t3 hx ht
              have hee1 := s5 _ _ hee
              have tk : ∀ {u} t xs, H6 t = some (.tup xs) → upd H6 D u t = some (.tup xs) := fun {u} t xs q => by rw [upd_ne (ne_of q hD5 (by intro z; cases z))]; exact q
              have lz : zs.length ≤ 400 := by
                rw [hT5.1]
                refine Nat.le_trans (List.length_filter_le _ _) ?_
                rw [List.length_take]
                omega
              have st : betweenR ((T z).take (i + 1)) m k2 = betweenR ((T z).take i) m k2 ++ (if m < t3.1 ∧ t3.1 ≤ k2 then [t3] else []) := by
                unfold betweenR
                rw [list_take ht, List.filter_append, List.filter_cons]
                by_cases c : m < t3.1 ∧ t3.1 ≤ k2
                · rw [if_pos (decide_eq_true c), if_pos c]; rfl
                · rw [if_neg (fun z => c (of_decide_eq_true z)), if_neg c]; rfl
              refine ⟨rfl, _, rfl, _, rfl, _, _, _, _, rfl, rfl, SqT.of hee1, rfl, _, _, rfl, rfl, _, rfl, ?_⟩
              rw [st]
              refine ite2 (fun ca => ?_) (fun ca => ?_)
              · have ca : m < t3.1 := of_decide_eq_true ca
                refine ⟨_, rfl, _, _, rfl, rfl, _, rfl, ?_⟩
                refine ite2 (fun cb => ?_) (fun cb => ?_)
                · rw [if_pos ⟨ca, of_decide_eq_true cb⟩]
                  exact ⟨_, rfl, zs, hD5, small1000 (by omega), ⟨_, upd_same, (hT5.tk tk).snoc (tk _ _ hee1)⟩, sameAt s5 hD⟩
                · rw [if_neg (fun z => cb (decide_eq_true z.2)), List.append_nil]
                  exact ⟨⟨zs, hD5, hT5⟩, s5⟩
              · rw [if_neg (fun z => ca (decide_eq_true z.1)), List.append_nil]
                exact ⟨_, rfl, iteF ⟨⟨zs, hD5, hT5⟩, s5⟩⟩
            rintro H5 ⟨⟨zs, hD5, hT5⟩, s5⟩
            rw [hT.1, List.take_length] at hT5
            have b5 : But sn H H5 := b2.trans (but_same s5)
            have h5 := s5 _ _ h2
            have Dsn : D ≠ sn := fun z => by rw [z] at hD; rw [h2] at hD; cases hD
            have lb : (betweenR (T z) m k2).length ≤ 400 := Nat.le_trans (List.length_filter_le _ _) few
            refine ⟨_, rfl, D, rfl, ⟨_, SqL.of hD5⟩, for_list (K := K) (a := D) (xs := zs) (fun i σ H6 => (∃ x5, σ = [some (.ref em), some (.ref d), some (.int now), some (.ref sn), none, x5, some (.int m), some (.int k2), some (.ref D)]) ∧ But sn H5 H6 ∧ H6 sn = some (.lst ((r2 ++ x2 ++ ((betweenR (T z) m k2).take i).map (fun t : T3 => t.2.1)).map V.int))) ⟨⟨_, rfl⟩, But.refl sn H5, by rw [List.take_zero, List.map_nil, List.append_nil]; exact h5⟩ (fun i σ H6 _ hv => SqL.of (hv.2.1 _ _ hD5 Dsn)) ?_ ?_⟩
            · rintro i x σ H6 hi ⟨⟨x5, rfl⟩, b6, h6⟩
              have hi2 : i < (betweenR (T z) m k2).length := by rw [← hT5.1]; exact (List.getElem?_eq_some_iff.mp hi).1
              obtain ⟨t3, ht⟩ : ∃ t3, (betweenR (T z) m k2)[i]? = some t3 := ⟨_, List.getElem?_eq_getElem hi2⟩
              obtain ⟨e, rfl, hee⟩ := hT5.2 i x t3 hi ht
              have hee1 := nl_but h5 b6 _ _ hee (fun _ z => nomatch z)
              refine ⟨_, rfl, .inl ⟨rfl, _, SqL.of h6⟩, _, rfl, _, _, _, _, rfl, rfl, SqT.of hee1, rfl, sn, _, _, rfl, rfl, h6, ?_, ⟨_, rfl⟩, but_upd b6, ?_⟩
              · rw [List.length_map, List.length_append, List.length_map, List.length_take]
                exact small1000 (by omega)
              · rw [upd_same, list_take ht]
                simp only [List.map_append, List.append_assoc]
                rfl
            rintro σ H6 ⟨⟨x5, rfl⟩, b6, h6⟩
            rw [hT5.1, List.take_length] at h6
            have b06 : But sn H H6 := b5.trans b6
            have he6 := nl_but hs b06 _ _ he (fun _ z => nomatch z)
            have hD6 := b6 _ _ hD5 Dsn
            have hT6 := hT5.tk fun t xs q => nl_but h5 b6 _ _ q (fun _ z => nomatch z)
            have mem : ∀ z', z' ∈ r2 ++ x2 ++ (betweenR (T z) m k2).map (fun t : T3 => t.2.1) ↔ z' ∈ r2 ++ x2 ++ (betweenR (W z) m k2).map (fun t : T3 => t.2.1) := fun z' => by
              rw [List.mem_append (s := r2 ++ x2), List.mem_append (s := r2 ++ x2), ((pm.map (fun t : T3 => t.2.1)).mem_iff (a := z'))]
            have lall : (r2 ++ x2 ++ (betweenR (T z) m k2).map (fun t : T3 => t.2.1)).length ≤ 500 := by
              rw [List.length_append, List.length_map]
              omega
            refine ⟨_, rfl, _, _, _, _, rfl, rfl, SqT.of he6, rfl, rfl, _, rfl, iteT ⟨_, rfl, _, _, rfl, .inl (SqL.of hD6), ?_⟩⟩
            rw [hT6.1, ← pm.length_eq]
            exact q _ H6 b06 h6 lall mem
      | total z u v =>
        obtain ⟨b, c, he, hu', hv'⟩ := hM
        have ln := ev_len (W := W) (now := now) u
        have ln2 := ev_len (W := W) (now := now) v
        have l12 := hF.1.2.2
        have l13 := hF.2.2.2
        refine ⟨_, rfl, _, _, _, _, rfl, rfl, SqT.of he, rfl, rfl, _, rfl, iteF ⟨_, rfl, _, _, _, _, rfl, rfl, SqT.of he, rfl, (by show 3 ≤ sizeLine; decide), fun ll hll => ⟨ll, _, rfl, .inl (SqL.of upd_same), rfl, rfl, _, rfl, iteF ?_⟩⟩⟩
        have s0 := sameAt (Same.refl H) hll (o := .lst [.str "count", .str "total", .str "gap"])
        generalize (upd H ll (.lst [.str "count", .str "total", .str "gap"])) = H0 at s0 ⊢
        have he0 := s0 _ _ he
        refine ⟨_, rfl, _, rfl, _, _, rfl, .inr (SqT.of he0), _, _, rfl, rfl, _, _, _, .ref b, rfl, rfl, SqT.of he0, rfl, _, rfl, _, rfl, _, rfl, b, d, sn, u, names, Ad, T, W, n, now, [], rfl, hu'.tk (fun t xs h => s0 _ _ h), R.same s0, s0 _ _ hs, hn, hI.2.1, hF.1.1, (by show ((0 : Nat) : Int) + u.lok ≤ 100; omega), fun H1 b1' h1 => ?_⟩
        rw [List.nil_append] at h1
        have b1 : But sn H H1 := (but_same s0).trans b1'
        have q : ∀ (ys : List Int) H', But sn H H' → H' sn = some (.lst (ys.map V.int)) → ys.length ≤ 500 → (∀ z', z' ∈ ys ↔ z' ∈ (tellR (ev W now u) (ev W now v) (fun m k => ((some ((betweenR (W z) m k).map (·.2.2)).sum, (betweenR (W z) m k).map (·.2.1)) : Rs))).2) → Q (oV (tellR (ev W now u) (ev W now v) (fun m k => ((some ((betweenR (W z) m k).map (·.2.2)).sum, (betweenR (W z) m k).map (·.2.1)) : Rs))).1) H' := q
        generalize ev W now u = r at q h1 ln ⊢
        obtain ⟨r1, r2⟩ := r
        have ln : (r2.length : Int) ≤ u.lok := ln
        have he1 := nl_but hs b1 _ _ he (fun _ z => nomatch z)
        have R1 := R.but hs hn b1
        refine ⟨_, rfl, rfl, _, rfl, ?_⟩
        cases r1 with
        | none => exact ite2 (fun _ => q r2 H1 b1 h1 (by omega) (fun _ => Iff.rfl)) (fun c => absurd rfl c)
        | some m =>
          refine ite2 (fun c => absurd (of_decide_eq_true c) (fun z => nomatch z)) (fun _ => ?_)
          refine ⟨_, rfl, _, rfl, _, _, rfl, .inr (SqT.of he1), _, _, rfl, rfl, _, _, _, .ref c, rfl, rfl, SqT.of he1, rfl, _, rfl, _, rfl, _, rfl, c, d, sn, v, names, Ad, T, W, n, now, r2, rfl, hv'.tk (fun t xs h => nl_but hs b1 _ _ h (fun _ z => nomatch z)), R1, h1, hn, hI.2.2, hF.2.1, (by omega), fun H2 b2' h2 => ?_⟩
          have b2 : But sn H H2 := b1.trans b2'
          have he2 := nl_but hs b2 _ _ he (fun _ z => nomatch z)
          have R2 := R.but hs hn b2
          generalize ev W now v = sv at q h2 ln2 ⊢
          obtain ⟨x1, x2⟩ := sv
          have ln2 : (x2.length : Int) ≤ v.lok := ln2
          have lx : (r2 ++ x2).length ≤ 24 := by rw [List.length_append]; omega
          have h2 : H2 sn = some (.lst ((r2 ++ x2).map V.int)) := h2
          refine ⟨_, rfl, rfl, _, rfl, ?_⟩
          cases x1 with
          | none => exact ite2 (fun _ => q (r2 ++ x2) H2 b2 h2 (by omega) (fun _ => Iff.rfl)) (fun c => absurd rfl c)
          | some k2 =>
            refine ite2 (fun c => absurd (of_decide_eq_true c) (fun z => nomatch z)) (fun _ => ?_)
            refine ⟨_, rfl, _, _, _, _, rfl, rfl, SqT.of he2, rfl, rfl, _, rfl, iteF ?_⟩
            have hg := DGet.k (k := Sum.inr z) R2.R.at_
            rw [valV_nm, if_pos hI.1] at hg
            obtain ⟨ys, hy, hT⟩ := R2.R.row z hI.1
            have few : (T z).length ≤ 400 := Nat.le_trans (R.g.few hI.1) R.n4
            have pm : (betweenR (W z) m k2).Perm (betweenR (T z) m k2) := (R.w.1 z hI.1).1.filter _
            refine ⟨_, rfl, _, rfl, _, _, _, _, rfl, rfl, SqT.of he2, rfl, d, _, rfl, hg, Ad z, rfl, ⟨_, SqL.of hy⟩, fun D hD => lc_it (walk_list (xs := ys)) (fun i H5 => (∃ zs, H5 D = some (.lst zs) ∧ TrAt H5 zs (betweenR ((T z).take i) m k2)) ∧ Same H2 H5) ⟨⟨[], upd_same, rfl, fun i v t a b => by simp at a⟩, sameAt (Same.refl H2) hD⟩ (fun i H5 _ hv => SqL.of (hv.2 _ _ hy)) ?_ ?_⟩
            · rintro i x H5 H6 hi ⟨⟨zs, hD5, hT5⟩, s5⟩ ⟨rfl, hx⟩
              have hi2 : i < (T z).length := by rw [← hT.1]; exact hi
              obtain ⟨t3, ht⟩ : ∃ t3, (T z)[i]? = some t3 := ⟨_, List.getElem?_eq_getElem hi2⟩
              obtain ⟨e, rfl, hee⟩ := hT.2 i x t3 hx ht
              have hee1 := s5 _ _ hee
              have tk : ∀ {u} t xs, H6 t = some (.tup xs) → upd H6 D u t = some (.tup xs) := fun {u} t xs q => by rw [upd_ne (ne_of q hD5 (by intro z; cases z))]; exact q
              have lz : zs.length ≤ 400 := by
                rw [hT5.1]
                refine Nat.le_trans (List.length_filter_le _ _) ?_
                rw [List.length_take]
                omega
              have st : betweenR ((T z).take (i + 1)) m k2 = betweenR ((T z).take i) m k2 ++ (if m < t3.1 ∧ t3.1 ≤ k2 then [t3] else []) := by
                unfold betweenR
                rw [list_take ht, List.filter_append, List.filter_cons]
                by_cases c : m < t3.1 ∧ t3.1 ≤ k2
                · rw [if_pos (decide_eq_true c), if_pos c]; rfl
                · rw [if_neg (fun z => c (of_decide_eq_true z)), if_neg c]; rfl
              refine ⟨rfl, _, rfl, _, rfl, _, _, _, _, rfl, rfl, SqT.of hee1, rfl, _, _, rfl, rfl, _, rfl, ?_⟩
              rw [st]
              refine ite2 (fun ca => ?_) (fun ca => ?_)
              · have ca : m < t3.1 := of_decide_eq_true ca
                refine ⟨_, rfl, _, _, rfl, rfl, _, rfl, ?_⟩
                refine ite2 (fun cb => ?_) (fun cb => ?_)
                · rw [if_pos ⟨ca, of_decide_eq_true cb⟩]
                  exact ⟨_, rfl, zs, hD5, small1000 (by omega), ⟨_, upd_same, (hT5.tk tk).snoc (tk _ _ hee1)⟩, sameAt s5 hD⟩
                · rw [if_neg (fun z => cb (decide_eq_true z.2)), List.append_nil]
                  exact ⟨⟨zs, hD5, hT5⟩, s5⟩
              · rw [if_neg (fun z => ca (decide_eq_true z.1)), List.append_nil]
                exact ⟨_, rfl, iteF ⟨⟨zs, hD5, hT5⟩, s5⟩⟩
            rintro H5 ⟨⟨zs, hD5, hT5⟩, s5⟩
            rw [hT.1, List.take_length] at hT5
            have b5 : But sn H H5 := b2.trans (but_same s5)
            have h5 := s5 _ _ h2
            have Dsn : D ≠ sn := fun z => by rw [z] at hD; rw [h2] at hD; cases hD
            have lb : (betweenR (T z) m k2).length ≤ 400 := Nat.le_trans (List.length_filter_le _ _) few
            refine ⟨_, rfl, D, rfl, ⟨_, SqL.of hD5⟩, for_list (K := K) (a := D) (xs := zs) (fun i σ H6 => (∃ x5, σ = [some (.ref em), some (.ref d), some (.int now), some (.ref sn), none, x5, some (.int m), some (.int k2), some (.ref D)]) ∧ But sn H5 H6 ∧ H6 sn = some (.lst ((r2 ++ x2 ++ ((betweenR (T z) m k2).take i).map (fun t : T3 => t.2.1)).map V.int))) ⟨⟨_, rfl⟩, But.refl sn H5, by rw [List.take_zero, List.map_nil, List.append_nil]; exact h5⟩ (fun i σ H6 _ hv => SqL.of (hv.2.1 _ _ hD5 Dsn)) ?_ ?_⟩
            · rintro i x σ H6 hi ⟨⟨x5, rfl⟩, b6, h6⟩
              have hi2 : i < (betweenR (T z) m k2).length := by rw [← hT5.1]; exact (List.getElem?_eq_some_iff.mp hi).1
              obtain ⟨t3, ht⟩ : ∃ t3, (betweenR (T z) m k2)[i]? = some t3 := ⟨_, List.getElem?_eq_getElem hi2⟩
              obtain ⟨e, rfl, hee⟩ := hT5.2 i x t3 hi ht
              have hee1 := nl_but h5 b6 _ _ hee (fun _ z => nomatch z)
              refine ⟨_, rfl, .inl ⟨rfl, _, SqL.of h6⟩, _, rfl, _, _, _, _, rfl, rfl, SqT.of hee1, rfl, sn, _, _, rfl, rfl, h6, ?_, ⟨_, rfl⟩, but_upd b6, ?_⟩
              · rw [List.length_map, List.length_append, List.length_map, List.length_take]
                exact small1000 (by omega)
              · rw [upd_same, list_take ht]
                simp only [List.map_append, List.append_assoc]
                rfl
            rintro σ H6 ⟨⟨x5, rfl⟩, b6, h6⟩
            rw [hT5.1, List.take_length] at h6
            have b06 : But sn H H6 := b5.trans b6
            have he6 := nl_but hs b06 _ _ he (fun _ z => nomatch z)
            have hD6 := b6 _ _ hD5 Dsn
            have hT6 := hT5.tk fun t xs q => nl_but h5 b6 _ _ q (fun _ z => nomatch z)
            have mem : ∀ z', z' ∈ r2 ++ x2 ++ (betweenR (T z) m k2).map (fun t : T3 => t.2.1) ↔ z' ∈ r2 ++ x2 ++ (betweenR (W z) m k2).map (fun t : T3 => t.2.1) := fun z' => by
              rw [List.mem_append (s := r2 ++ x2), List.mem_append (s := r2 ++ x2), ((pm.map (fun t : T3 => t.2.1)).mem_iff (a := z'))]
            have lall : (r2 ++ x2 ++ (betweenR (T z) m k2).map (fun t : T3 => t.2.1)).length ≤ 500 := by
              rw [List.length_append, List.length_map]
              omega
            refine ⟨_, rfl, _, _, _, _, rfl, rfl, SqT.of he6, rfl, rfl, _, rfl, iteF ?_⟩
            refine ⟨_, rfl, D, rfl, ⟨_, SqL.of hD6⟩, fun D3 hD3 => lc_it (walk_list (xs := zs)) (fun i H8 => H8 D3 = some (.lst ((((betweenR (T z) m k2).take i).map (fun x : T3 => x.2.2)).map V.int)) ∧ Same H6 H8) ⟨upd_same, sameAt (Same.refl H6) hD3⟩ (fun i H8 _ hv => SqL.of (hv.2 _ _ hD6)) ?_ ?_⟩
            · rintro i x H8 H9 hi ⟨hD8, s8⟩ ⟨rfl, hx⟩
              have hi2 : i < (betweenR (T z) m k2).length := by rw [← hT6.1]; exact hi
              obtain ⟨t3, ht⟩ : ∃ t3, (betweenR (T z) m k2)[i]? = some t3 := ⟨_, List.getElem?_eq_getElem hi2⟩
              obtain ⟨e, rfl, hee⟩ := hT6.2 i x t3 hx ht
              have hee1 := s8 _ _ hee
              refine ⟨rfl, _, rfl, _, _, _, _, rfl, rfl, SqT.of hee1, rfl, _, hD8, ?_, ?_, sameAt s8 hD3⟩
              · rw [List.length_map, List.length_map, List.length_take]
                exact small1000 (by omega)
              · rw [upd_same, list_take ht, List.map_append, List.map_append]
                rfl
            rintro H8 ⟨hD8, s8⟩
            rw [hT6.1, List.take_length] at hD8
            refine ⟨D3, _, rfl, SqL.of hD8, ?_⟩
            rw [← perm_isum (pm.map fun t : T3 => t.2.2)]
            exact q _ H8 (b06.trans (but_same s8)) (s8 _ _ h6) lall mem
      | gap u v =>
        obtain ⟨b, c, he, hu', hv'⟩ := hM
        have ln := ev_len (W := W) (now := now) u
        have ln2 := ev_len (W := W) (now := now) v
        have l12 := hF.1.2.2
        have l13 := hF.2.2.2
        refine ⟨_, rfl, _, _, _, _, rfl, rfl, SqT.of he, rfl, rfl, _, rfl, iteF ⟨_, rfl, _, _, _, _, rfl, rfl, SqT.of he, rfl, (by show 3 ≤ sizeLine; decide), fun ll hll => ⟨ll, _, rfl, .inl (SqL.of upd_same), rfl, rfl, _, rfl, iteF ?_⟩⟩⟩
        have s0 := sameAt (Same.refl H) hll (o := .lst [.str "count", .str "total", .str "gap"])
        generalize (upd H ll (.lst [.str "count", .str "total", .str "gap"])) = H0 at s0 ⊢
        have he0 := s0 _ _ he
        refine ⟨_, rfl, _, rfl, _, _, rfl, .inr (SqT.of he0), _, _, rfl, rfl, _, _, _, .ref b, rfl, rfl, SqT.of he0, rfl, _, rfl, _, rfl, _, rfl, b, d, sn, u, names, Ad, T, W, n, now, [], rfl, hu'.tk (fun t xs h => s0 _ _ h), R.same s0, s0 _ _ hs, hn, hI.1, hF.1.1, (by show ((0 : Nat) : Int) + u.lok ≤ 100; omega), fun H1 b1' h1 => ?_⟩
        rw [List.nil_append] at h1
        have b1 : But sn H H1 := (but_same s0).trans b1'
        have q : ∀ (ys : List Int) H', But sn H H' → H' sn = some (.lst (ys.map V.int)) → ys.length ≤ 500 → (∀ z', z' ∈ ys ↔ z' ∈ (tellR (ev W now u) (ev W now v) (fun m k => ((some (k - m), []) : Rs))).2) → Q (oV (tellR (ev W now u) (ev W now v) (fun m k => ((some (k - m), []) : Rs))).1) H' := q
        generalize ev W now u = r at q h1 ln ⊢
        obtain ⟨r1, r2⟩ := r
        have ln : (r2.length : Int) ≤ u.lok := ln
        have he1 := nl_but hs b1 _ _ he (fun _ z => nomatch z)
        have R1 := R.but hs hn b1
        refine ⟨_, rfl, rfl, _, rfl, ?_⟩
        cases r1 with
        | none => exact ite2 (fun _ => q r2 H1 b1 h1 (by omega) (fun _ => Iff.rfl)) (fun c => absurd rfl c)
        | some m =>
          refine ite2 (fun c => absurd (of_decide_eq_true c) (fun z => nomatch z)) (fun _ => ?_)
          refine ⟨_, rfl, _, rfl, _, _, rfl, .inr (SqT.of he1), _, _, rfl, rfl, _, _, _, .ref c, rfl, rfl, SqT.of he1, rfl, _, rfl, _, rfl, _, rfl, c, d, sn, v, names, Ad, T, W, n, now, r2, rfl, hv'.tk (fun t xs h => nl_but hs b1 _ _ h (fun _ z => nomatch z)), R1, h1, hn, hI.2, hF.2.1, (by omega), fun H2 b2' h2 => ?_⟩
          have b2 : But sn H H2 := b1.trans b2'
          have he2 := nl_but hs b2 _ _ he (fun _ z => nomatch z)
          have R2 := R.but hs hn b2
          generalize ev W now v = sv at q h2 ln2 ⊢
          obtain ⟨x1, x2⟩ := sv
          have ln2 : (x2.length : Int) ≤ v.lok := ln2
          have lx : (r2 ++ x2).length ≤ 24 := by rw [List.length_append]; omega
          have h2 : H2 sn = some (.lst ((r2 ++ x2).map V.int)) := h2
          refine ⟨_, rfl, rfl, _, rfl, ?_⟩
          cases x1 with
          | none => exact ite2 (fun _ => q (r2 ++ x2) H2 b2 h2 (by omega) (fun _ => Iff.rfl)) (fun c => absurd rfl c)
          | some k2 =>
            refine ite2 (fun c => absurd (of_decide_eq_true c) (fun z => nomatch z)) (fun _ => ?_)
            exact ⟨_, rfl, _, _, _, _, rfl, rfl, SqT.of he2, rfl, rfl, _, rfl, iteT ⟨_, rfl, _, rfl, _, _, rfl, rfl, q (r2 ++ x2) H2 b2 h2 (by omega) (fun z => by show _ ↔ z ∈ r2 ++ x2 ++ []; rw [List.append_nil])⟩⟩
end
end Ash

set_option Elab.async false
set_option linter.all false
set_option maxRecDepth 100000
set_option maxHeartbeats 4000000
set_option pp.maxSteps 3000
namespace Ash
open PySem PySem.Spec PyProof.Rows L2 SrtT
open C8 (pss_cut)
/-! ### rows left out -/
theorem RwAt.put {H : Hp} {d e : Addr} {ns : List Str} {A : Str → Addr} {T : Tr} {y : Str} {ys : List V} {ts : List T3} (R : RwAt H d ns A T) (hy : y ∉ ns) (he : H e = some (.lst ys)) (hT : TrAt H ys ts) (hn : ∀ x ∈ ns, A x ≠ e) :
    RwAt (upd H d (.dK (putK (ns.map fun z => ((Sum.inr z : Key), V.ref (A z))) (Sum.inr y) (V.ref e)))) d (ns ++ [y]) (fun x => if x = y then e else A x) (fun x => if x = y then ts else T x) := by
  have hd := R.at_
  have ny : ∀ x ∈ ns, ¬ x = y := fun x hx q => hy (q ▸ hx)
  have ed : e ≠ d := fun q => by rw [q, hd] at he; cases he
  have tk : ∀ {u} t xs, H t = some (.tup xs) → upd H d u t = some (.tup xs) := fun {u} t xs q => by rw [upd_ne (ne_of q hd (by intro z; cases z))]; exact q
  refine ⟨?_, fun x hx => ?_, fun x hx z hz => ?_⟩
  · rw [upd_same, putK_new _ (by rw [valV_nm, if_neg hy]), List.map_append]
    show some (HO.dK (_ ++ [(Sum.inr y, V.ref e)])) = some (HO.dK (_ ++ [(Sum.inr y, V.ref (if y = y then e else A y))]))
    rw [if_pos rfl]
    refine congrArg (fun q => some (HO.dK (q ++ [((Sum.inr y : Key), V.ref e)]))) (List.map_congr_left fun z hz => ?_)
    show (Sum.inr z, V.ref (A z)) = ((Sum.inr z : Key), V.ref (if z = y then e else A z))
    rw [if_neg (ny z hz)]
  · rcases List.mem_append.mp hx with hx | hx
    · obtain ⟨zs, h1, h2⟩ := R.row x hx
      refine ⟨zs, ?_, ?_⟩
      · show upd _ _ _ (if x = y then e else A x) = _
        rw [if_neg (ny x hx), upd_ne (ne_of h1 hd (by intro z; cases z))]
        exact h1
      · show TrAt _ zs (if x = y then ts else T x)
        rw [if_neg (ny x hx)]
        exact h2.tk tk
    · rw [List.mem_singleton.mp hx]
      refine ⟨ys, ?_, ?_⟩
      · show upd _ _ _ (if y = y then e else A y) = _
        rw [if_pos rfl, upd_ne ed]
        exact he
      · show TrAt _ ys (if y = y then ts else T y)
        rw [if_pos rfl]
        exact hT.tk tk
  · show (if x = y then e else A x) = (if z = y then e else A z) → x = z
    rcases List.mem_append.mp hx with hx | hx <;> rcases List.mem_append.mp hz with hz | hz
    · rw [if_neg (ny x hx), if_neg (ny z hz)]
      exact R.inj x hx z hz
    · rw [if_neg (ny x hx), List.mem_singleton.mp hz, if_pos rfl]
      exact fun q => absurd q (hn x hx)
    · rw [List.mem_singleton.mp hx, if_neg (ny z hz), if_pos rfl]
      exact fun q => absurd q.symm (hn z hz)
    · rw [List.mem_singleton.mp hx, List.mem_singleton.mp hz]
      exact fun _ => rfl
theorem ids_keep {names : List Str} {T T' : Tr} {k : T3 → Bool} (h : ∀ z ∈ names, T' z = (T z).filter k) : (idsOf names T').Sublist (idsOf names T) := by
  unfold idsOf
  induction names with
  | nil => exact List.Sublist.refl _
  | cons a r ih =>
    rw [List.flatMap_cons, List.flatMap_cons, h a List.mem_cons_self]
    exact (List.filter_sublist.map _).append (ih fun z hz => h z (List.mem_cons_of_mem _ hz))
theorem good_keep {names : List Str} {T T' : Tr} {k : T3 → Bool} {n : Nat} (G : GoodT names T n) (h : ∀ z ∈ names, T' z = (T z).filter k) : GoodT names T' (idsOf names T').length ∧ (idsOf names T').length ≤ n :=
  ⟨⟨rfl, G.nd.sublist (ids_keep h), fun i hi => G.lo i ((ids_keep h).subset hi)⟩, by rw [← G.len]; exact (ids_keep h).length_le⟩
theorem rows_ex {names : List Str} {T : Tr} {n : Nat} (G : GoodT names T n) : ∃ W, RowsW names T W := by
  refine ⟨fun z => if z ∈ names then (T z).mergeSort (fun a b => !lex3 b a) else [], fun z hz => ?_, fun z hz => if_neg hz⟩
  show (if z ∈ names then _ else _ : List T3).Perm _ ∧ (if z ∈ names then _ else _ : List T3).Pairwise _
  rw [if_pos hz]
  have pm := List.mergeSort_perm (T z) (fun a b => !lex3 b a)
  refine ⟨pm, asc_of ?_ ((pm.map (·.2.1)).symm.nodup (G.apart hz))⟩
  refine (List.pairwise_mergeSort (le := fun a b : T3 => !lex3 b a) (fun a b c h1 h2 => ?_) (fun a b => ?_) (T z)).imp fun {a b} h => ?_
  · have h1 : lex3 b a = false := by simpa using h1
    have h2 : lex3 c b = false := by simpa using h2
    have : lex3 c a = false := by
      rw [lex3_no] at *
      omega
    simp [this]
  · by_cases c : lex3 b a = true
    · have : lex3 a b = false := by
        rw [lex3_no]
        rw [lex3_iff] at c
        omega
      simp [this]
    · simp [Bool.eq_false_iff.mpr c]
  · simpa using h
theorem inV_int (x : Int) : ∀ is : List Int, inV (V.int x) (is.map V.int) = decide (x ∈ is)
  | [] => rfl
  | a :: r => by
    show (eqV (V.int a) (V.int x) || inV (V.int x) (r.map V.int)) = _
    rw [inV_int x r]
    by_cases e : a = x
    · subst e
      simp [eqV]
    · have e' : ¬ x = a := fun z => e z.symm
      simp [eqV, e, e']
def spLWithout : Sp := fun vs H Q _ => ∃ (d l il : Addr) (names : List Str) (A : Str → Addr) (T : Tr) (n : Nat) (is : List Int), vs = [.ref d, .ref l, .ref il] ∧ RwAt H d names A T ∧ H l = some (.lst (names.map V.str)) ∧ H il = some (.lst (is.map V.int)) ∧ names.length ≤ 100 ∧ names.Nodup ∧ GoodT names T n ∧ n ≤ 400 ∧
  ∀ (D : Addr) (A' : Str → Addr) (T' : Tr) H', RwAt H' D names A' T' → (∀ z ∈ names, T' z = (T z).filter fun t => decide (t.2.1 ∉ is)) → Same H H' → Q (.ref D) H'
def spLIsTold (A0 : AC) (C : TC) (CW : Addr) : Sp := fun vs H Q _ => ∃ (em qa d : Addr) (q : Qn) (names : List Str) (A : Str → Addr) (T W : Tr) (n : Nat) (now : Int), vs = [.ref em, .ref qa, .ref d, .int now] ∧ MqAt H em q ∧ QAt A0 C H qa (bq q) ∧ Rk H d names A T W n ∧ q.NmS ∧ q.InS names ∧ q.Fit ∧ ∀ H', Same H H' → Q (.bl true) H'
section
variable {P : Program} {w : World} {K : PySem.W.Frag} {mg : Str → Option Value} {base : Heap} {C : TC} {CW : Addr} {A0 : AC}
abbrev s_l_without : Stmt := topS 82
theorem sc_l_without : FnScope ["rows", "streams", "ids", "found", "stream", "row"] ["rows", "streams", "ids"] (defScope s_l_without) := ⟨rfl, rfl, rfl, by decide +kernel, rfl, by decide +kernel, by decide +kernel⟩
theorem ok_lwithout {f : Addr} {fd : FuncData} (F : Fun K "_law_without" "_law_without" s_l_without f fd) (B : Blt mg) : FnOk P w K mg base CX0 1 f fd ["rows", "streams", "ids"] spLWithout := by
  refine F.ok sc_l_without (fun vs H Q E h => ?_) (fun cdv A outer s H vs Q E hr h => ?_)
  · obtain ⟨d, l, il, names, A, T, n, is, rfl, _⟩ := h
    rfl
  · obtain ⟨d, l, il, names, Ad, T, n, is, rfl, R, hl, hil, n100, hnd, GT, n4, q⟩ := h
    have hu := hu_of hr
    refine ⟨_, (pss_cons (ps_set (i := 3) sc_l_without.nd rfl (Or.inl rfl) pe_dnewK)
    (pss_cons (ps_for PassesOwn.never rfl (pi_list (pv 1)) (pg_name (i := 4) sc_l_without.nd rfl (Or.inl rfl))
      (pss_one (ps_dput hu (pv 3) (pv 4) (pe_lc (own := [("row", 5)]) (g := gName 5) (by rfl) sc_l_without.nd (pi_list (pe_dget hu (pv 0) (pv 4) (fun _ _ => rfl))) (blkOk_by (own := [("row", 5)]) (N := ["rows", "streams", "ids", "found", "stream", "row"]) (sc := defScope s_l_without) (by decide +kernel)) (fun _ _ _ _ _ => (pg_name (i := 5) sc_l_without.nd rfl (Or.inl rfl))) (fun _ _ _ _ _ => pts_one (pt_cmpR (show OpR _ _ (rIn K true) from op_notIn_seq) (pe_ix (show IxR _ (rIxT K) from ix_tup) (pv 5) pe_int (fun _ _ => rfl)) (pv 2) rfl)) (fun _ _ _ _ _ => (pv 5))) rfl)))
    (pss_one (ps_ret (pv 3))))), ?_⟩
    intro D hD
    have dD : d ≠ D := fun q => by rw [← q, R.at_] at hD; cases hD
    have s0 : Same H (upd H D (.dK [])) := sameAt (Same.refl H) hD
    refine ⟨_, rfl, l, rfl, ⟨_, SqL.of (s0 _ _ hl)⟩, for_list (K := K) (a := l) (xs := names.map V.str) (fun i σ H1 => (∃ a b, σ = [some (.ref d), some (.ref l), some (.ref il), some (.ref D), a, b]) ∧ Same H H1 ∧ ∃ A' T', RwAt H1 D (names.take i) A' T' ∧ ∀ z ∈ names.take i, T' z = (T z).filter fun t => decide (t.2.1 ∉ is)) ?_ (fun i σ H1 _ hv => SqL.of (hv.2.1 _ _ hl)) ?_ ?_⟩
    · exact ⟨⟨_, _, rfl⟩, s0, fun _ => D, fun _ => [], ⟨upd_same, (fun z hz => nomatch hz), (fun z hz => nomatch hz)⟩, fun z hz => nomatch hz⟩
    · rintro i y σ H1 hi ⟨⟨a, b, rfl⟩, s1, A', T', R', c'⟩
      obtain ⟨z, hz, rfl⟩ : ∃ z, names[i]? = some z ∧ y = V.str z := by
        rw [List.getElem?_map] at hi
        cases e : names[i]? with
        | none => rw [e] at hi; cases hi
        | some z => rw [e] at hi; exact ⟨z, rfl, (Option.some.inj hi).symm⟩
      have hm : z ∈ names := List.mem_of_getElem? hz
      have R1 := R.same s1
      have hg := DGet.k (k := Sum.inr z) R1.at_
      rw [valV_nm, if_pos hm] at hg
      obtain ⟨ys, hy, hT⟩ := R1.row z hm
      have few : (T z).length ≤ 400 := Nat.le_trans (GT.few hm) n4
      have hil1 := s1 _ _ hil
      refine ⟨_, rfl, _, rfl, d, _, rfl, hg, Ad z, rfl, ⟨_, SqL.of hy⟩, fun D2 hD2 => lc_it (walk_list (xs := ys)) (fun j H2 => (∃ zs, H2 D2 = some (.lst zs) ∧ TrAt H2 zs (((T z).take j).filter fun t => decide (t.2.1 ∉ is))) ∧ Same H1 H2) ⟨⟨[], upd_same, rfl, fun i v t a b => by simp at a⟩, sameAt (Same.refl H1) hD2⟩ (fun j H2 _ hv => SqL.of (hv.2 _ _ hy)) ?_ ?_⟩
      · rintro j x H2 H3 hj ⟨⟨zs, hE, hT2⟩, s2⟩ ⟨rfl, hx⟩
        have hj2 : j < (T z).length := by rw [← hT.1]; exact hj
        obtain ⟨t3, ht⟩ : ∃ t3, (T z)[j]? = some t3 := ⟨_, List.getElem?_eq_getElem hj2⟩
        obtain ⟨e, rfl, he⟩ := hT.2 j x t3 hx ht
        have he1 := s2 _ _ he
        have lz : zs.length ≤ 400 := by
          rw [hT2.1]
          refine Nat.le_trans (List.length_filter_le _ _) ?_
          rw [List.length_take]
          omega
        have tk : ∀ {u} t xs, H3 t = some (.tup xs) → upd H3 D2 u t = some (.tup xs) := fun {u} t xs q => by rw [upd_ne (ne_of q hE (by intro z; cases z))]; exact q
        have inE : inV (V.int t3.2.1) (is.map V.int) = decide (t3.2.1 ∈ is) := by
          exact inV_int _ _
        have st : ((T z).take (j + 1)).filter (fun t => decide (t.2.1 ∉ is)) = ((T z).take j).filter (fun t => decide (t.2.1 ∉ is)) ++ (if t3.2.1 ∈ is then [] else [t3]) := by
          rw [list_take ht, List.filter_append, List.filter_cons]
          by_cases c : t3.2.1 ∈ is
          · rw [if_neg (fun z => (of_decide_eq_true z) c), if_pos c]; rfl
          · rw [if_pos (decide_eq_true c), if_neg c]; rfl
        refine ⟨rfl, _, rfl, _, _, _, _, rfl, rfl, SqT.of he1, rfl, _, rfl, il, _, rfl, .inl (SqL.of (s2 _ _ hil1)), rfl, ?_, _, rfl, ?_⟩
        · rw [List.all_map]
          exact List.all_eq_true.mpr fun _ _ => rfl
        · rw [inE, st]
          by_cases c : t3.2.1 ∈ is
          · rw [decide_eq_true c, if_pos c, List.append_nil]
            exact iteF ⟨⟨zs, hE, hT2⟩, s2⟩
          · rw [decide_eq_false c, if_neg c]
            exact iteT ⟨_, rfl, zs, hE, small1000 (by omega), ⟨_, upd_same, (hT2.tk tk).snoc (tk _ _ he1)⟩, sameAt s2 hD2⟩
      · rintro H2 ⟨⟨zs, hE, hT2⟩, s2⟩
        rw [hT.1, List.take_length] at hT2
        have R2 := R'.same s2
        have hnt : z ∉ names.take i := fun hmm => by
          obtain ⟨j, hj, ej⟩ := List.getElem_of_mem hmm
          rw [List.length_take] at hj
          rw [List.getElem_take] at ej
          have := nd_ix hnd (List.getElem?_eq_some_iff.mpr ⟨by omega, ej⟩) hz
          omega
        have hne : ∀ x ∈ names.take i, A' x ≠ D2 := fun x hx q => by
          obtain ⟨_, h1, _⟩ := R'.row x hx
          rw [q] at h1
          rw [h1] at hD2
          cases hD2
        have tl : (names.take i).length ≤ 100 := by rw [List.length_take]; omega
        refine ⟨_, rfl, _, rfl, D, _, rfl, DPut.k (k := Sum.inr z) R2.at_ (by rw [List.length_map]; exact small1000 (by omega)), ⟨_, _, rfl⟩, ?_, fun x => if x = z then D2 else A' x, fun x => if x = z then (T z).filter (fun t => decide (t.2.1 ∉ is)) else T' x, ?_, ?_⟩
        · exact fun c o hc => by rw [upd_ne (ne_of_none hc hD)]; exact s2 _ _ (s1 _ _ hc)
        · rw [list_take hz]
          exact R2.put hnt hE hT2 hne
        · intro x hx
          rw [list_take hz] at hx
          rcases List.mem_append.mp hx with hx | hx
          · show (if x = z then _ else T' x) = _
            rw [if_neg (fun q => hnt (by rw [← q]; exact hx))]
            exact c' x hx
          · rw [List.mem_singleton.mp hx]
            show (if z = z then _ else _) = _
            rw [if_pos rfl]
    · rintro σ H1 ⟨⟨a, b, rfl⟩, s1, A', T', R', c'⟩
      rw [List.length_map, List.take_length] at R' c'
      exact ⟨_, rfl, q D A' T' H1 R' c' s1⟩
end
end Ash

set_option Elab.async false
set_option linter.all false
set_option maxRecDepth 100000
set_option maxHeartbeats 4000000
set_option pp.maxSteps 3000
namespace Ash
open PySem PySem.Spec PyProof.Rows L2 SrtT
open C8 (pss_cut)
section
variable {P : Program} {w : World} {K : PySem.W.Frag} {mg : Str → Option Value} {base : Heap} {C : TC} {CW : Addr} {A0 : AC}
structure Gi (P : Program) (w : World) (K : PySem.W.Frag) (mg : Str → Option Value) (base : Heap) (A0 : AC) (C : TC) (CW : Addr) : Prop where
  law_told : Cal P w K mg base CX0 "_law_told" 15 ["model", "rows", "now", "seen"] spLTold
  law_same : Cal P w K mg base CX0 "_law_same" 1 ["told", "due"] spSame
  value : Cal P w K mg base CX0 "value" 31 ["question", "world", "now"] (spValue A0 C CW)
  support : Cal P w K mg base CX0 "support" 31 ["question", "world", "now"] (spSupport A0 C CW)
  World : Mak P w K mg base CX0 "World" CW 5 ["self", "rows"] (spWorldInit CW)
abbrev s_l_is_told : Stmt := topS 83
theorem sc_l_is_told : FnScope ["model", "question", "rows", "now", "seen", "due", "world", "told"] ["model", "question", "rows", "now"] (defScope s_l_is_told) := ⟨rfl, rfl, rfl, by decide +kernel, rfl, by decide +kernel, by decide +kernel⟩
theorem ok_listold {f : Addr} {fd : FuncData} (F : Fun K "_law_is_told" "_law_is_told" s_l_is_told f fd) (B : Blt mg) (G : Gi P w K mg base A0 C CW) : FnOk P w K mg base CX0 33 f fd ["model", "question", "rows", "now"] (spLIsTold A0 C CW) := by
  refine F.ok sc_l_is_told (fun vs H Q E h => ?_) (fun cdv A outer s H vs Q E hr h => ?_)
  · obtain ⟨em, qa, d, q, names, A, T, W, n, now, rfl, _⟩ := h
    rfl
  · obtain ⟨em, qa, d, m, names, Ad, T, W, n, now, rfl, hM, hQ, R, hN, hI, hF, q⟩ := h
    refine ⟨_, (pss_cons (ps_set (i := 4) sc_l_is_told.nd rfl (Or.inl rfl) (pe_lst pa_nil))
    (pss_cons (ps_set (i := 5) sc_l_is_told.nd rfl (Or.inl rfl) (pe_cal G.law_told (hr.mono (by decide)) pass0 (pa_cons (pv 0) (pa_cons (pv 2) (pa_cons (pv 3) (pa_cons (pv 4) pa_nil))))))
    (pss_cons (ps_set (i := 6) sc_l_is_told.nd rfl (Or.inl rfl) (pe_mak G.World (hr.mono (by decide)) pass0 (pa_cons (pv 2) pa_nil)))
    (pss_cons (ps_set (i := 7) sc_l_is_told.nd rfl (Or.inl rfl) (pe_cal G.support (hr.mono (by decide)) pass0 (pa_cons (pv 1) (pa_cons (pv 6) (pa_cons (pv 3) pa_nil)))))
    (pss_cons (ps_if (PW.pt (pw_or (pt_not (pt_val (pe_callB call_isi (by rfl) B.isinstance (by decide +kernel) (pa_cons (pv 7) (pa_cons (pe_bltn (v := .ty "list") (by rfl) B.list (by decide +kernel) rfl) pa_nil))))) (pw_or (pt_cmpR (op_neD hr.units) (pv 7) (pe_callB (cr_sortM rfl) (by rfl) B.sorted (by decide +kernel) (pa_cons (pe_callTy (cr_setL rfl) (by rfl) B.set (by decide +kernel) (pa_cons (pv 4) pa_nil)) pa_nil)) (nomark _)) (pw_or1 (pt_not (pt_val (pe_cal G.law_same (hr.mono (by decide)) pass0 (pa_cons (pe_cal G.value (hr.mono (by decide)) pass0 (pa_cons (pv 1) (pa_cons (pv 6) (pa_cons (pv 3) pa_nil)))) (pa_cons (pv 5) pa_nil)))))))))
      (pss_one (ps_ret pe_bl))
      pss_nil)
    (pss_cons (ps_expr (pe_bm PySem.F.plainAttrs_list PySem.F.slot_list_append PySem.F.type_list_append mt_append (pv 7) (pa_cons (pe_un un_neg pe_int) pa_nil)))
    (pss_one (ps_ret (pe_cmpR (op_eqD hr.units) (pe_cal G.support (hr.mono (by decide)) pass0 (pa_cons (pv 1) (pa_cons (pv 6) (pa_cons (pv 3) pa_nil)))) (pe_callB (cr_sortM rfl) (by rfl) B.sorted (by decide +kernel) (pa_cons (pe_callTy (cr_setL rfl) (by rfl) B.set (by decide +kernel) (pa_cons (pv 4) pa_nil)) pa_nil)) (nomark _)))))))))), ?_⟩
    refine ⟨(by show 0 ≤ sizeLine; decide), fun sn hsn => ?_⟩
    have s0 : Same H (upd H sn (.lst [])) := sameAt (Same.refl H) hsn
    have hs0 : (upd H sn (.lst [])) sn = some (.lst []) := upd_same
    have hnA : ∀ z ∈ names, Ad z ≠ sn := fun z hz q => by
      obtain ⟨_, h1, _⟩ := R.R.row z hz
      rw [q, hsn] at h1
      cases h1
    generalize (upd H sn (.lst [])) = H0 at s0 hs0 ⊢
    refine ⟨_, rfl, _, rfl, _, rfl, _, rfl, em, d, sn, m, names, Ad, T, W, n, now, rfl, hM.tk (fun t xs h => s0 _ _ h), R.same s0, hs0, hnA, hI, hF, fun xs H1 b1 h1 lx hmem => ?_⟩
    have sH1 : Same H H1 := fun c o hc => b1 c o (s0 _ _ hc) (fun e => by rw [e, hsn] at hc; cases hc)
    have R1 := R.same sH1
    -- world
    refine ⟨_, rfl, fun wd dx hwd hdx hne => ⟨wd, dx, d, names, Ad, T, n, rfl, upd_same, (R1.R.same (sameAt (sameAt (Same.refl H1) hdx) hwd)).rq, R.n100, R.nd, R.nm, R.g, R.n4, fun H2 W' hW hRW hK => ⟨rfl, ?_⟩⟩⟩
    have s2 : Same H1 H2 := keep_make hK hwd hdx
    have eW : W' = W := rows_same R.w hRW fun z _ => List.Perm.refl _
    rw [eW] at hW
    have h2 := s2 _ _ h1
    have hQ2 := (hQ.same sH1).same s2
    refine ⟨_, rfl, _, rfl, _, rfl, qa, wd, bq m, W, now, rfl, hQ2, hW, bq_nm hN, bq_fit hF, fun p ys H3 s3 hp0 hp hasc hlen hm2 => ?_⟩
    rw [ev_bq] at hm2
    have h3 := s3 _ _ h2
    refine ⟨_, rfl, _, _, _, _, true, rfl, ClsV.ty _, .base (.lst hp), kit_ty (by decide +kernel), _, rfl, iteF ?_⟩
    have ek : (xs.map (Sum.inl : Int → Key)).map kV = xs.map V.int := by rw [List.map_map]; rfl
    refine ⟨_, rfl, _, rfl, sn, xs.map Sum.inl, rfl, SqL.of (by rw [ek]; exact h3), by rw [List.length_map]; omega, fun p2 n2 hp2 hn2 => ?_⟩
    refine ⟨p2, _, n2, rfl, upd_same, .inr ⟨xs, fun k => kIn_iff, fun ys2 p3 hp3 ha2 hm3 hln => ?_⟩⟩
    have s35 : Same H3 (upd (upd H3 p2 (SetMO w p2 (kIn (xs.map Sum.inl)) n2)) p3 (.lst (ys2.map V.int))) := (sameAt (Same.refl _) hp2).trans (sameAt (Same.refl _) hp3)
    have ey : ys = ys2 := asc_same hasc ha2 fun z => ((hm2 z).trans (hmem z).symm).trans (hm3 z).symm
    subst ey
    refine ⟨_, _, .lst (SqL.of (s35 _ _ hp)) (dp_ints ys), .lst (SqL.of upd_same) (dp_ints ys), ints_shaped ys, ints_shaped ys, _, rfl, ?_⟩
    rw [eqv_self (ints_shaped ys)]
    refine iteF ?_
    have s25 := s3.trans s35
    refine ⟨_, rfl, _, rfl, _, rfl, qa, wd, bq m, W, now, rfl, hQ2.same s25, hW.same s25, bq_nm hN, bq_fit hF, fun H6 s6 => ⟨_, rfl, _, _, rfl, ?_⟩⟩
    rw [ev_bq, show decide ((evQ W now m).1 = (evQ W now m).1) = true from decide_eq_true rfl]
    refine ⟨_, rfl, iteF ?_⟩
    have s26 := s25.trans s6
    have s36 := s35.trans s6
    have hp6 := s36 _ _ hp
    -- told.append(-1)
    refine ⟨_, rfl, .inl ⟨rfl, _, SqL.of hp6⟩, _, rfl, p, _, _, rfl, rfl, hp6, (by rw [List.length_map]; exact small1000 (by omega)), ?_⟩
    have nl : NL H6 (upd H6 p (.lst (ys.map V.int ++ [.int (-1)]))) := nl_upd hp6
    have psn : sn ≠ p := fun z => by rw [← z] at hp0; rw [h2] at hp0; cases hp0
    have h7 : (upd H6 p (.lst (ys.map V.int ++ [.int (-1)]))) sn = some (.lst (xs.map V.int)) := by rw [upd_ne psn]; exact s26 _ _ h2
    have hQ7 := (hQ2.same s26).nl nl
    have hW7 := (hW.same s26).nl nl
    have sF : Same H (upd H6 p (.lst (ys.map V.int ++ [.int (-1)]))) := fun c o hc => by
      have hc2 := s2 _ _ (sH1 _ _ hc)
      rw [upd_ne (fun e => by rw [e, hp0] at hc2; cases hc2)]
      exact s26 _ _ hc2
    generalize (upd H6 p (.lst (ys.map V.int ++ [.int (-1)]))) = H7 at h7 hQ7 hW7 sF ⊢
    refine ⟨_, rfl, _, rfl, _, rfl, qa, wd, bq m, W, now, rfl, hQ7, hW7, bq_nm hN, bq_fit hF, fun p4 ys4 H8 s8 hp40 hp4 hasc4 hlen4 hm4 => ?_⟩
    rw [ev_bq] at hm4
    have h8 := s8 _ _ h7
    refine ⟨_, rfl, sn, xs.map Sum.inl, rfl, SqL.of (by rw [ek]; exact h8), by rw [List.length_map]; omega, fun p5 n5 hp5 hn5 => ?_⟩
    refine ⟨p5, _, n5, rfl, upd_same, .inr ⟨xs, fun k => kIn_iff, fun ys6 p6 hp6 ha6 hm6 hln6 => ?_⟩⟩
    have s9 : Same H8 (upd (upd H8 p5 (SetMO w p5 (kIn (xs.map Sum.inl)) n5)) p6 (.lst (ys6.map V.int))) := (sameAt (Same.refl _) hp5).trans (sameAt (Same.refl _) hp6)
    have ey4 : ys4 = ys6 := asc_same hasc4 ha6 fun z => ((hm4 z).trans (hmem z).symm).trans (hm6 z).symm
    subst ey4
    refine ⟨_, _, .lst (SqL.of (s9 _ _ hp4)) (dp_ints ys4), .lst (SqL.of upd_same) (dp_ints ys4), ints_shaped ys4, ints_shaped ys4, ?_⟩
    rw [eqv_self (ints_shaped ys4)]
    exact q _ (sF.trans (s8.trans s9))
end
end Ash

set_option Elab.async false
set_option linter.all false
set_option maxRecDepth 100000
set_option maxHeartbeats 4000000
set_option pp.maxSteps 3000
namespace Ash
open PySem PySem.Spec PyProof.Rows L2 SrtT
open C8 (pss_cut)
theorem scal_oV {a b : Option Int} : scal (oV a) (oV b) = true := by cases a <;> cases b <;> rfl
theorem TrAt.rev {H : Hp} {ys : List V} {ts : List T3} (h : TrAt H ys ts) : TrAt H ys.reverse ts.reverse := by
  refine ⟨by rw [List.length_reverse, List.length_reverse, h.1], fun i v t a b => ?_⟩
  have ha := (List.getElem?_eq_some_iff.mp a).1
  have hb := (List.getElem?_eq_some_iff.mp b).1
  rw [List.length_reverse] at ha hb
  rw [List.getElem?_reverse ha] at a
  rw [List.getElem?_reverse hb] at b
  rw [h.1] at a
  exact h.2 _ v t a b
theorem good_rev {names : List Str} {T : Tr} {n : Nat} (G : GoodT names T n) : GoodT names (fun z => (T z).reverse) n := by
  have pm : (idsOf names fun z => (T z).reverse).Perm (idsOf names T) := by
    unfold idsOf
    have : ∀ l : List Str, (l.flatMap fun z => ((T z).reverse).map (·.2.1)).Perm (l.flatMap fun z => (T z).map (·.2.1)) := fun l => by
      induction l with
      | nil => exact List.Perm.refl _
      | cons a r ih =>
        rw [List.flatMap_cons, List.flatMap_cons]
        exact ((List.reverse_perm (T a)).map _).append ih
    exact this names
  exact ⟨by rw [pm.length_eq]; exact G.len, pm.symm.nodup G.nd, fun i hi => G.lo i (pm.mem_iff.mp hi)⟩
theorem RqAt.put {H : Hp} {d e : Addr} {ns : List Str} {A : Str → Addr} {T : Tr} {y : Str} {ys : List V} (R : RqAt H d ns A T) (hy : y ∉ ns) (he : SeqAt2 H e ys) (hT : TrAt H ys (T y)) :
    RqAt (upd H d (.dK (putK (ns.map fun z => ((Sum.inr z : Key), V.ref (A z))) (Sum.inr y) (V.ref e)))) d (ns ++ [y]) (fun x => if x = y then e else A x) T := by
  have hd := R.at_
  have ny : ∀ x ∈ ns, ¬ x = y := fun x hx q => hy (q ▸ hx)
  have off : ∀ {b zs u}, SeqAt2 H b zs → SeqAt2 (upd H d u) b zs := fun {b zs u} h => h.imp (fun h => by rw [upd_ne (ne_of h hd (by intro z; cases z))]; exact h) (fun h => by rw [upd_ne (ne_of h hd (by intro z; cases z))]; exact h)
  have tk : ∀ {u} t xs, H t = some (.tup xs) → upd H d u t = some (.tup xs) := fun {u} t xs q => by rw [upd_ne (ne_of q hd (by intro z; cases z))]; exact q
  refine ⟨?_, fun x hx => ?_⟩
  · rw [upd_same, putK_new _ (by rw [valV_nm, if_neg hy]), List.map_append]
    show some (HO.dK (_ ++ [(Sum.inr y, V.ref e)])) = some (HO.dK (_ ++ [(Sum.inr y, V.ref (if y = y then e else A y))]))
    rw [if_pos rfl]
    refine congrArg (fun q => some (HO.dK (q ++ [((Sum.inr y : Key), V.ref e)]))) (List.map_congr_left fun z hz => ?_)
    show (Sum.inr z, V.ref (A z)) = ((Sum.inr z : Key), V.ref (if z = y then e else A z))
    rw [if_neg (ny z hz)]
  · rcases List.mem_append.mp hx with hx | hx
    · obtain ⟨zs, h1, h2⟩ := R.row x hx
      refine ⟨zs, ?_, h2.tk tk⟩
      show SeqAt2 _ (if x = y then e else A x) zs
      rw [if_neg (ny x hx)]
      exact off h1
    · rw [List.mem_singleton.mp hx]
      refine ⟨ys, ?_, hT.tk tk⟩
      show SeqAt2 _ (if y = y then e else A y) ys
      rw [if_pos rfl]
      exact off he
/-- all but the pool and two lists stands -/
structure Fr (H0 H : Hp) (p s ot so : Addr) : Prop where
  now : PoolAt H p s
  keep : ∀ c o, H0 c = some o → c ≠ p → c ≠ ot → c ≠ so → H c = some o
theorem Fr.nl {H0 H : Hp} {p s ot so : Addr} {xs ys : List V} (F : Fr H0 H p s ot so) (hp : PoolAt H0 p s) (h1 : H0 ot = some (.lst xs)) (h2 : H0 so = some (.lst ys)) : NL H0 H := fun c o h n => by
  obtain ⟨ns, i, c', k, m, hp, _⟩ := hp
  refine F.keep c o h (fun e => ?_) (fun e => ?_) (fun e => ?_)
  · rw [e, hp] at h; exact n _ (Option.some.inj h).symm
  · rw [e, h1] at h; exact n _ (Option.some.inj h).symm
  · rw [e, h2] at h; exact n _ (Option.some.inj h).symm
theorem ids_take {names : List Str} {T : Tr} {i : Nat} {z : Str} (h : names[i]? = some z) : idsOf (names.take (i + 1)) T = idsOf (names.take i) T ++ (T z).map (·.2.1) := by
  rw [list_take h]
  unfold idsOf
  rw [List.flatMap_append]
  simp
theorem ids_le {names : List Str} {T : Tr} (i : Nat) : (idsOf (names.take i) T).length ≤ (idsOf names T).length := by
  have e : idsOf names T = idsOf (names.take i) T ++ idsOf (names.drop i) T := by
    show names.flatMap _ = _
    unfold idsOf
    rw [← List.flatMap_append, List.take_append_drop]
  rw [e, List.length_append]
  omega
def spLaw (K : PySem.W.Frag) : Sp := fun vs H Q _ => ∃ (a : Addr) (ns : List Int), vs = [.ref a] ∧ SqL K H a (ns.map V.int) ∧ ns.length ≤ 63 ∧ ∀ H', Q (.bl true) H'
section
variable {P : Program} {w : World} {K : PySem.W.Frag} {mg : Str → Option Value} {base : Heap} {C : TC} {CW : Addr} {A0 : AC}
theorem lterm_all (B : Blt mg) (G : G2w P w K mg base) (d1 : D1 K mg "_law_term" s_l_term) : ∀ d, G3t P w K mg base d
  | 0 => { G with law_term := cal_of d1 (fun _ _ _ _ _ _ us hl => match us, hl with | [_, _, _], _ => rfl) fun f fd F => ok_lterm0 F B G }
  | d + 1 => { G with law_term := cal_of d1 (fun _ _ _ _ _ _ us hl => match us, hl with | [_, _, _], _ => rfl) fun f fd F => ok_lterm F B (lterm_all B G d1 d) }
theorem built_all (B : Blt mg) (G : B0 P w K mg base C) (O : Ops P w K mg base C) (d1 : D1 K mg "_law_built" s_l_built) : ∀ d, B1 P w K mg base C d
  | 0 => { G with law_built := cal_of d1 (fun _ _ _ _ _ _ us hl => match us, hl with | [_], _ => rfl) fun f fd F => ok_built0 F }
  | d + 1 => { G with law_built := cal_of d1 (fun _ _ _ _ _ _ us hl => match us, hl with | [_], _ => rfl) fun f fd F => ok_built F B (built_all B G O d1 d) O }
theorem lans_all (B : Blt mg) (G : GA0 P w K mg base) (d1 : D1 K mg "_law_answer" s_l_answer) : ∀ k, GA P w K mg base k
  | 0 => { G with law_answer := cal_of d1 (fun _ _ _ _ _ _ us hl => match us, hl with | [_, _, _, _], _ => rfl) fun f fd F => ok_lans0 F }
  | k + 1 => { G with law_answer := cal_of d1 (fun _ _ _ _ _ _ us hl => match us, hl with | [_, _, _, _], _ => rfl) fun f fd F => ok_lans F B (lans_all B G d1 k) }
structure L14 (P : Program) (w : World) (K : PySem.W.Frag) (mg : Str → Option Value) (base : Heap) (A0 : AC) (C : TC) (CW : Addr) : Prop where
  law_pool : Cal P w K mg base CX0 "_law_pool" 1 ["script"] (spPool K)
  law_draw : CDraw P w K mg base
  law_names : Cal P w K mg base CX0 "_law_names" 2 ["pool", "many"] spNames
  law_moment : Cal P w K mg base CX0 "_law_moment" 2 ["pool"] spMoment
  law_rows : Cal P w K mg base CX0 "_law_rows" 3 ["pool", "streams", "many"] spLWRows
  law_question : Cal P w K mg base CX0 "_law_question" (3 + 5) ["pool", "streams", "depth"] (spLQuest 3)
  law_deep : Cal P w K mg base CX0 "_law_deep" 7 ["pool", "streams", "many"] spLDeep
  law_asked : Cal P w K mg base CX0 "_law_asked" 20 ["model"] (spLAsked A0 C)
  value : Cal P w K mg base CX0 "value" 31 ["question", "world", "now"] (spValue A0 C CW)
  support : Cal P w K mg base CX0 "support" 31 ["question", "world", "now"] (spSupport A0 C CW)
  law_is_told : Cal P w K mg base CX0 "_law_is_told" 33 ["model", "question", "rows", "now"] (spLIsTold A0 C CW)
  law_without : Cal P w K mg base CX0 "_law_without" 1 ["rows", "streams", "ids"] spLWithout
  World : Mak P w K mg base CX0 "World" CW 5 ["self", "rows"] (spWorldInit CW)
abbrev s_law : Stmt := topS 85
theorem sc_law : FnScope ["script", "pool", "streams", "rows", "model", "question", "now", "world", "leant", "answer", "others", "some", "stream", "row", "ids", "fewer", "turned", "gone"] ["script"] (defScope s_law) := ⟨rfl, rfl, rfl, by decide +kernel, rfl, by decide +kernel, by decide +kernel⟩
theorem ok_law {f : Addr} {fd : FuncData} (F : Fun K "law" "law" s_law f fd) (B : Blt mg) (hrev : mg "reversed" = none) (G : L14 P w K mg base A0 C CW) : FnOk P w K mg base CX0 40 f fd ["script"] (spLaw K) := by
  refine F.ok sc_law (fun vs H Q E h => ?_) (fun cdv A outer s H vs Q E hr h => ?_)
  · obtain ⟨a, ns, rfl, _⟩ := h
    rfl
  · obtain ⟨a, ns, rfl, hS, hlen, q⟩ := h
    have hu := hu_of hr
    refine ⟨_, (pss_cons (ps_set (i := 1) sc_law.nd rfl (Or.inl rfl) (pe_cal G.law_pool (hr.mono (by decide)) pass0 (pa_cons (pv 0) pa_nil)))
    (pss_cons (ps_set (i := 2) sc_law.nd rfl (Or.inl rfl) (pe_cal G.law_names (hr.mono (by decide)) pass0 (pa_cons (pv 1) (pa_cons (pe_op op_add pe_int (pe_cal G.law_draw (hr.mono (by decide)) pass0 (pa_cons (pv 1) (pa_cons pe_int pa_nil)))) pa_nil))))
    (pss_cons (ps_set (i := 3) sc_law.nd rfl (Or.inl rfl) (pe_cal G.law_rows (hr.mono (by decide)) pass0 (pa_cons (pv 1) (pa_cons (pv 2) (pa_cons (pe_cal G.law_draw (hr.mono (by decide)) pass0 (pa_cons (pv 1) (pa_cons pe_int pa_nil))) pa_nil)))))
    (pss_cons (ps_set (i := 4) sc_law.nd rfl (Or.inl rfl) (pe_cal G.law_question (hr.mono (by decide)) pass0 (pa_cons (pv 1) (pa_cons (pv 2) (pa_cons pe_int pa_nil)))))
    (pss_cut (ps_if (pt_cmpR op_eq (pe_cal G.law_draw (hr.mono (by decide)) pass0 (pa_cons (pv 1) (pa_cons pe_int pa_nil))) pe_int (nomark _))
      (pss_one (ps_set (i := 4) sc_law.nd rfl (Or.inl rfl) (pe_cal G.law_deep (hr.mono (by decide)) pass0 (pa_cons (pv 1) (pa_cons (pv 2) (pa_cons (pe_op op_add pe_int (pe_cal G.law_draw (hr.mono (by decide)) pass0 (pa_cons (pv 1) (pa_cons pe_int pa_nil)))) pa_nil))))))
      pss_nil)
    (pss_cons (ps_set (i := 5) sc_law.nd rfl (Or.inl rfl) (pe_cal G.law_asked (hr.mono (by decide)) pass0 (pa_cons (pv 4) pa_nil)))
    (pss_cons (ps_for PassesOwn.never rfl (pi_list (pe_lst (pa_cons (pe_cal G.law_moment (hr.mono (by decide)) pass0 (pa_cons (pv 1) pa_nil)) (pa_cons (pe_cal G.law_moment (hr.mono (by decide)) pass0 (pa_cons (pv 1) pa_nil)) pa_nil)))) (pg_name (i := 6) sc_law.nd rfl (Or.inl rfl))
      (pss_cons (ps_if (pt_not (pt_val (pe_cal G.law_is_told (hr.mono (by decide)) pass0 (pa_cons (pv 4) (pa_cons (pv 5) (pa_cons (pv 3) (pa_cons (pv 6) pa_nil)))))))
        (pss_one (ps_ret pe_bl))
        pss_nil)
      (pss_cons (ps_set (i := 7) sc_law.nd rfl (Or.inl rfl) (pe_mak G.World (hr.mono (by decide)) pass0 (pa_cons (pv 3) pa_nil)))
      (pss_cons (ps_set (i := 8) sc_law.nd rfl (Or.inl rfl) (pe_cal G.support (hr.mono (by decide)) pass0 (pa_cons (pv 5) (pa_cons (pv 7) (pa_cons (pv 6) pa_nil)))))
      (pss_cons (ps_set (i := 9) sc_law.nd rfl (Or.inl rfl) (pe_cal G.value (hr.mono (by decide)) pass0 (pa_cons (pv 5) (pa_cons (pv 7) (pa_cons (pv 6) pa_nil)))))
      (pss_cons (ps_set (i := 10) sc_law.nd rfl (Or.inl rfl) (pe_lst pa_nil))
      (pss_cons (ps_set (i := 11) sc_law.nd rfl (Or.inl rfl) (pe_lst pa_nil))
      (pss_cons (ps_for PassesOwn.never rfl (pi_list (pv 2)) (pg_name (i := 12) sc_law.nd rfl (Or.inl rfl))
        (pss_one (ps_for PassesOwn.never rfl (pi_list (pe_dget hu (pv 3) (pv 12) (fun _ _ => rfl))) (pg_name (i := 13) sc_law.nd rfl (Or.inl rfl))
          (pss_one (ps_if (pt_cmpR op_notIn_seq (pe_ix ix_tup (pv 13) pe_int (fun _ _ => rfl)) (pv 8) rfl)
            (pss_cons (ps_expr (pe_bm PySem.F.plainAttrs_list PySem.F.slot_list_append PySem.F.type_list_append mt_append (pv 10) (pa_cons (pe_ix ix_tup (pv 13) pe_int (fun _ _ => rfl)) pa_nil)))
            (pss_one (ps_if (pt_cmpR op_eq (pe_cal G.law_draw (hr.mono (by decide)) pass0 (pa_cons (pv 1) (pa_cons pe_int pa_nil))) pe_int (nomark _))
              (pss_one (ps_expr (pe_bm PySem.F.plainAttrs_list PySem.F.slot_list_append PySem.F.type_list_append mt_append (pv 11) (pa_cons (pe_ix ix_tup (pv 13) pe_int (fun _ _ => rfl)) pa_nil))))
              pss_nil)))
            pss_nil)))))
      (pss_cons (ps_for PassesOwn.never rfl (pi_list (pe_lst (pa_cons (pv 10) (pa_cons (pv 11) pa_nil)))) (pg_name (i := 14) sc_law.nd rfl (Or.inl rfl))
        (pss_cons (ps_set (i := 15) sc_law.nd rfl (Or.inl rfl) (pe_mak G.World (hr.mono (by decide)) pass0 (pa_cons (pe_cal G.law_without (hr.mono (by decide)) pass0 (pa_cons (pv 3) (pa_cons (pv 2) (pa_cons (pv 14) pa_nil)))) pa_nil)))
        (pss_one (ps_if (PW.pt (pw_or (pt_cmpR op_ne (pe_cal G.value (hr.mono (by decide)) pass0 (pa_cons (pv 5) (pa_cons (pv 15) (pa_cons (pv 6) pa_nil)))) (pv 9) (nomark _)) (pw_or1 (pt_cmpR (op_neD hr.units) (pe_cal G.support (hr.mono (by decide)) pass0 (pa_cons (pv 5) (pa_cons (pv 15) (pa_cons (pv 6) pa_nil)))) (pv 8) (nomark _)))))
          (pss_one (ps_ret pe_bl))
          pss_nil))))
      (pss_cons (ps_set (i := 16) sc_law.nd rfl (Or.inl rfl) pe_dnewK)
      (pss_cons (ps_for PassesOwn.never rfl (pi_list (pv 2)) (pg_name (i := 12) sc_law.nd rfl (Or.inl rfl))
        (pss_one (ps_dput hu (pv 16) (pv 12) (RT.pe_tupRev rfl (by rfl) B.tuple (by rfl) hrev (pe_dget hu (pv 3) (pv 12) (fun _ _ => rfl))) rfl)))
      (pss_cons (ps_if (PW.pt (pw_or (pt_cmpR op_ne (pe_cal G.value (hr.mono (by decide)) pass0 (pa_cons (pv 5) (pa_cons (pe_mak G.World (hr.mono (by decide)) pass0 (pa_cons (pv 16) pa_nil)) (pa_cons (pv 6) pa_nil)))) (pv 9) (nomark _)) (pw_or1 (pt_cmpR (op_neD hr.units) (pe_cal G.support (hr.mono (by decide)) pass0 (pa_cons (pv 5) (pa_cons (pe_mak G.World (hr.mono (by decide)) pass0 (pa_cons (pv 16) pa_nil)) (pa_cons (pv 6) pa_nil)))) (pv 8) (nomark _)))))
        (pss_one (ps_ret pe_bl))
        pss_nil)
      (pss_one (ps_if (pt_cmpR op_gt (pe_callB call_len (by rfl) B.len (by decide +kernel) (pa_cons (pv 8) pa_nil)) pe_int (nomark _))
        (pss_cons (ps_set (i := 17) sc_law.nd rfl (Or.inl rfl) (pe_ix ix_list (pv 8) (pe_cal G.law_draw (hr.mono (by decide)) pass0 (pa_cons (pv 1) (pa_cons (pe_callB call_len (by rfl) B.len (by decide +kernel) (pa_cons (pv 8) pa_nil)) pa_nil))) (fun _ _ => rfl)))
        (pss_one (ps_if (pt_not (pt_val (pe_cal G.law_is_told (hr.mono (by decide)) pass0 (pa_cons (pv 4) (pa_cons (pv 5) (pa_cons (pe_cal G.law_without (hr.mono (by decide)) pass0 (pa_cons (pv 3) (pa_cons (pv 2) (pa_cons (pe_lst (pa_cons (pv 17) pa_nil)) pa_nil)))) (pa_cons (pv 6) pa_nil)))))))
          (pss_one (ps_ret pe_bl))
          pss_nil)))
        pss_nil))))))))))))))
    (pss_one (ps_ret pe_bl))))))))), ?_⟩
    refine ⟨_, rfl, a, ns, rfl, hS, fun p s0 H1 hp1 hP1 s1 => ?_⟩
    refine ⟨_, rfl, _, rfl, p, s0, 3, rfl, hP1, (by decide), (by decide), fun y H2 y0 y3 P2 => ⟨_, _, rfl, rfl, p, s0, 1 + y, rfl, P2.now, (by omega), (by omega), fun l names H3 hl0 hl hlen hnd hnm P3 => ?_⟩⟩
    have lp : l ≠ p := fun z => P2.now.ne.1 (z ▸ hl0)
    refine ⟨_, rfl, _, rfl, _, rfl, p, s0, 13, rfl, P3.now, (by decide), (by decide), fun many H4 m0 m13 P4 => ?_⟩
    refine ⟨p, s0, l, names, many, rfl, P4.now, lp, P4.keep hl lp, (by omega), (by omega), hnd, m0, (by omega), fun d Ad T H5 hd0 hA0 R5 G5 _ _ P5 => ?_⟩
    have hl5 := P5.keep (P4.keep hl lp) lp
    have hP5 := P5.now
    have Ap : ∀ z ∈ names, Ad z ≠ p := fun z hz q => P4.now.ne.1 (q ▸ hA0 z hz)
    have dp : d ≠ p := fun z => P4.now.ne.1 (z ▸ hd0)
    clear P5 P4 P3 P2
    refine ⟨_, rfl, _, rfl, p, s0, l, names, rfl, hP5, lp, hl5, (by omega), (by omega), hnm, fun em0 m0' H6 hM6 L6 I6 P6 => ?_⟩
    refine ⟨fun σ H7 => (∃ em m, σ = [some (.ref a), some (.ref p), some (.ref l), some (.ref d), some (.ref em), none, none, none, none, none, none, none, none, none, none, none, none, none] ∧ MqAt H7 em m ∧ m.NmS ∧ m.Fit ∧ m.InS names) ∧ Pl H5 H7 p s0, ?_, ?_⟩
    · refine ⟨_, rfl, p, s0, 6, rfl, P6.now, (by decide), (by decide), fun x H7 x0 x6 P7 => ⟨rfl, _, rfl, ?_⟩⟩
      refine ite2 (fun _ => ?_) (fun _ => ?_)
      · refine ⟨_, rfl, _, rfl, _, rfl, p, s0, 6, rfl, P7.now, (by decide), (by decide), fun y2 H8 y20 y26 P8 => ⟨_, _, rfl, rfl, p, s0, l, names, 4 + y2, rfl, P8.now, lp, P8.keep (P7.keep (P6.keep hl5 lp) lp) lp, (by omega), (by omega), hnm, (by omega), (by omega), fun em m H9 hM9 hN hF hI P9 => ?_⟩⟩
        exact ⟨⟨em, m, rfl, hM9, hN, hF, hI⟩, ((P6.trans P7).trans P8).trans P9⟩
      · exact ⟨⟨em0, m0', rfl, hM6.tk (pl_tk P6.now P7), L6.nm, LevQ.fit (by omega) L6, I6⟩, P6.trans P7⟩
    rintro σ H7 ⟨⟨em, m, rfl, hM7, hN, hF, hI⟩, P7⟩
    have hl7 := P7.keep hl5 lp
    have R7 := R5.pl hP5 Ap P7
    have hP7 := P7.now
    refine ⟨_, rfl, em, m, rfl, hM7, hN, hF, fun qa H8 hQ8 s8 => ?_⟩
    have P8 := hP7.same s8
    refine ⟨_, rfl, p, s0, rfl, P8, fun n1 H9 _ P9 => ⟨_, rfl, p, s0, rfl, P9.now, fun n2 HA _ PA => ⟨(by show 2 ≤ sizeLine; decide), fun nl hnl => ?_⟩⟩⟩
    have sX : Same HA (upd HA nl (.lst [.int n1, .int n2])) := sameAt (Same.refl HA) hnl
    have hnlX : (upd HA nl (.lst [.int n1, .int n2])) nl = some (.lst [.int n1, .int n2]) := upd_same
    have PX : PoolAt (upd HA nl (.lst [.int n1, .int n2])) p s0 := PA.now.same sX
    have nlX : NL H8 (upd HA nl (.lst [.int n1, .int n2])) := fun c o h n => sX _ _ (nl_pl P9.now PA _ _ (nl_pl P8 P9 _ _ h n) n)
    have RX : RwAt (upd HA nl (.lst [.int n1, .int n2])) d names Ad T := (((R7.same s8).pl P8 Ap P9).pl P9.now Ap PA).same sX
    have hlX : (upd HA nl (.lst [.int n1, .int n2])) l = some (.lst (names.map V.str)) := sX _ _ (PA.keep (P9.keep (s8 _ _ hl7) lp) lp)
    have hMX : MqAt (upd HA nl (.lst [.int n1, .int n2])) em m := (hM7.tk fun t xs h => s8 _ _ h).tk fun t xs h => nlX _ _ h (fun _ z => nomatch z)
    have hQX := hQ8.nl nlX
    have np : nl ≠ p := fun z => PA.now.ne.1 (z ▸ hnl)
    generalize (upd HA nl (.lst [.int n1, .int n2])) = HX at hnlX PX RX hlX hMX hQX ⊢
    clear nlX sX PA P9 hQ8 R7 hl7 hM7 s8 P8 hP7 P7 hM6 P6
    obtain ⟨W, hW0⟩ := rows_ex G5
    have few : ∀ z ∈ names, (T z).length ≤ 100 := fun z hz => Nat.le_trans (G5.few hz) (by omega)
    refine ⟨nl, rfl, ⟨_, SqL.of hnlX⟩, for_list (K := K) (a := nl) (xs := [.int n1, .int n2]) (fun i σ H1 => (∃ x6 x7 x8 x9 x10 x11 x12 x13 x14 x15 x16 x17, σ = [some (.ref a), some (.ref p), some (.ref l), some (.ref d), some (.ref em), some (.ref qa), x6, x7, x8, x9, x10, x11, x12, x13, x14, x15, x16, x17]) ∧ Pl HX H1 p s0) ⟨⟨_, _, _, _, _, _, _, _, _, _, _, _, rfl⟩, Pl.refl PX⟩ (fun i σ H1 _ hv => SqL.of (hv.2.keep hnlX np)) ?_ ?_⟩
    · rintro i nv σ H1 hi ⟨⟨x6, x7, x8, x9, x10, x11, x12, x13, x14, x15, x16, x17, rfl⟩, P1⟩
      obtain ⟨now, rfl⟩ : ∃ now, nv = V.int now := by
        match i, hi with
        | 0, hi => exact ⟨n1, (Option.some.inj hi).symm⟩
        | 1, hi => exact ⟨n2, (Option.some.inj hi).symm⟩
      have nl1 := nl_pl PX P1
      have R1 := RX.pl PX Ap P1
      have hl1 := P1.keep hlX lp
      have hM1 : MqAt H1 em m := hMX.tk fun t xs h => nl1 _ _ h (fun _ z => nomatch z)
      have hQ1 := hQX.nl nl1
      have K1 : Rk H1 d names Ad T W many.toNat := ⟨R1, hnd, by omega, hnm, G5, by omega, hW0⟩
      refine ⟨_, rfl, _, rfl, _, rfl, _, rfl, em, qa, d, m, names, Ad, T, W, many.toNat, now, rfl, hM1, hQ1, K1, hN, hI, hF, fun H2 s2 => ⟨_, rfl, iteF ?_⟩⟩
      -- world
      have R2 := R1.same s2
      refine ⟨_, rfl, fun wd dx hwd hdx hne => ⟨wd, dx, d, names, Ad, T, many.toNat, rfl, upd_same, (R2.same (sameAt (sameAt (Same.refl H2) hdx) hwd)).rq, by omega, hnd, hnm, G5, by omega, fun H3 W' hW hRW hK => ⟨rfl, ?_⟩⟩⟩
      have s3 : Same H2 H3 := keep_make hK hwd hdx
      have eW : W' = W := rows_same hW0 hRW fun z _ => List.Perm.refl _
      rw [eW] at hW
      have s13 := s2.trans s3
      have hQ3 := hQ1.same s13
      refine ⟨_, rfl, _, rfl, _, rfl, qa, wd, bq m, W, now, rfl, hQ3, hW, bq_nm hN, bq_fit hF, fun la ys H4 s4 hla0 hla hasc hlen5 hmem => ?_⟩
      rw [ev_bq] at hmem
      refine ⟨_, rfl, _, rfl, _, rfl, qa, wd, bq m, W, now, rfl, hQ3.same s4, hW.same s4, bq_nm hN, bq_fit hF, fun H5' s5 => ?_⟩
      rw [ev_bq]
      have s15 := s13.trans (s4.trans s5)
      have hla5 := s5 _ _ hla
      have P15 : Pl HX H5' p s0 := P1.same s15
      refine ⟨(by show 0 ≤ sizeLine; decide), fun ot hot0 => ⟨(by show 0 ≤ sizeLine; decide), fun so hso0 => ?_⟩⟩
      have sot : ot ≠ so := fun z => by rw [← z, upd_same] at hso0; cases hso0
      have hso5 : H5' so = none := none_of (sameAt (Same.refl H5') hot0) hso0
      have s57 : Same H5' (upd (upd H5' ot (.lst [])) so (.lst [])) := (sameAt (Same.refl _) hot0).trans (sameAt (Same.refl _) hso0)
      have hot : (upd (upd H5' ot (.lst [])) so (.lst [])) ot = some (.lst []) := by rw [upd_ne sot, upd_same]
      have hso : (upd (upd H5' ot (.lst [])) so (.lst [])) so = some (.lst []) := upd_same
      generalize (upd (upd H5' ot (.lst [])) so (.lst [])) = H7 at s57 hot hso ⊢
      have s17 := s15.trans s57
      have P17 : Pl HX H7 p s0 := P1.same s17
      have R7 := R1.same s17
      have hl7 := s17 _ _ hl1
      have hla7 := s57 _ _ hla5
      have hl5 := s15 _ _ hl1
      have oln : ot ≠ l ∧ so ≠ l := ⟨(fun z => by rw [z, hl5] at hot0; cases hot0), (fun z => by rw [z, hl5] at hso5; cases hso5)⟩
      have ola : ot ≠ la ∧ so ≠ la := ⟨(fun z => by rw [z, hla5] at hot0; cases hot0), (fun z => by rw [z, hla5] at hso5; cases hso5)⟩
      have R5 := R1.same s15
      have oA : ∀ z ∈ names, ot ≠ Ad z ∧ so ≠ Ad z := fun z hz => by
        obtain ⟨_, h1, _⟩ := R5.row z hz
        exact ⟨(fun q => by rw [q, h1] at hot0; cases hot0), (fun q => by rw [q, h1] at hso5; cases hso5)⟩
      have op : ot ≠ p ∧ so ≠ p := ⟨fun q => P15.now.ne.1 (q ▸ hot0), fun q => P15.now.ne.1 (q ▸ hso5)⟩
      have os : ot ≠ s0 ∧ so ≠ s0 := ⟨fun q => P15.now.ne.2 (q ▸ hot0), fun q => P15.now.ne.2 (q ▸ hso5)⟩
      have lap : la ≠ p := fun q => by
        have hp3 := (P1.same s13).now.ne.1
        exact hp3 (q ▸ hla0)
      have tot : (idsOf names T).length ≤ 100 := by rw [G5.len]; omega
      refine ⟨_, rfl, l, rfl, ⟨_, SqL.of hl7⟩, for_list (K := K) (a := l) (xs := names.map V.str) (fun i σ H1 => (∃ x12 x13, σ = [some (.ref a), some (.ref p), some (.ref l), some (.ref d), some (.ref em), some (.ref qa), some (.int now), some (.ref wd), some (.ref la), some (oV (evQ W now m).1), some (.ref ot), some (.ref so), x12, x13, x14, x15, x16, x17]) ∧ Fr H7 H1 p s0 ot so ∧ ∃ L1 L2 : List Int, H1 ot = some (.lst (L1.map V.int)) ∧ H1 so = some (.lst (L2.map V.int)) ∧ L1.length ≤ (idsOf (names.take i) T).length ∧ L2.length ≤ (idsOf (names.take i) T).length ∧ (∀ z ∈ L1, z ∉ ys) ∧ ∀ z ∈ L2, z ∉ ys) ?_ (fun i σ H1 _ hv => SqL.of (hv.2.1.keep _ _ hl7 lp oln.1.symm oln.2.symm)) ?_ ?_⟩
      · exact ⟨⟨_, _, rfl⟩, ⟨P17.now, fun c o h _ _ _ => h⟩, [], [], hot, hso, Nat.zero_le _, Nat.zero_le _, (fun z hz => nomatch hz), fun z hz => nomatch hz⟩
      · rintro i y σ H8 hi ⟨⟨x12, x13, rfl⟩, F8, L1, L2, hot8, hso8, ll1, ll2, hn1, hn2⟩
        obtain ⟨z, hz, rfl⟩ : ∃ z, names[i]? = some z ∧ y = V.str z := by
          rw [List.getElem?_map] at hi
          cases e : names[i]? with
          | none => rw [e] at hi; cases hi
          | some z => rw [e] at hi; exact ⟨z, rfl, (Option.some.inj hi).symm⟩
        have hm : z ∈ names := List.mem_of_getElem? hz
        have e1 : (idsOf (names.take (i + 1)) T).length = (idsOf (names.take i) T).length + (T z).length := by rw [ids_take hz, List.length_append, List.length_map]
        have e2 := ids_le (names := names) (T := T) (i + 1)
        obtain ⟨rs, hy7, hT7⟩ := R7.row z hm
        have nl78 := F8.nl P17.now hot hso
        have hd8 := nl78 _ _ R7.at_ (fun _ z => nomatch z)
        have hg := DGet.k (k := Sum.inr z) hd8
        rw [valV_nm, if_pos hm] at hg
        have hy8 := F8.keep _ _ hy7 (Ap z hm) (oA z hm).1.symm (oA z hm).2.symm
        refine ⟨_, rfl, _, rfl, d, _, rfl, hg, Ad z, rfl, ⟨_, SqL.of hy8⟩, for_list (K := K) (a := Ad z) (xs := rs) (fun j σ H9 => (∃ x13, σ = [some (.ref a), some (.ref p), some (.ref l), some (.ref d), some (.ref em), some (.ref qa), some (.int now), some (.ref wd), some (.ref la), some (oV (evQ W now m).1), some (.ref ot), some (.ref so), some (.str z), x13, x14, x15, x16, x17]) ∧ Fr H7 H9 p s0 ot so ∧ ∃ L1 L2 : List Int, H9 ot = some (.lst (L1.map V.int)) ∧ H9 so = some (.lst (L2.map V.int)) ∧ L1.length ≤ (idsOf (names.take i) T).length + j ∧ L2.length ≤ (idsOf (names.take i) T).length + j ∧ (∀ z ∈ L1, z ∉ ys) ∧ ∀ z ∈ L2, z ∉ ys) ?_ (fun j σ H9 _ hv => SqL.of (hv.2.1.keep _ _ hy7 (Ap z hm) (oA z hm).1.symm (oA z hm).2.symm)) ?_ ?_⟩
        · exact ⟨⟨_, rfl⟩, F8, L1, L2, hot8, hso8, ll1, ll2, hn1, hn2⟩
        · rintro j x σ H9 hj ⟨⟨x13, rfl⟩, F9, M1, M2, ho9, hs9, l1, l2, g1, g2⟩
          have hj2 : j < (T z).length := by rw [← hT7.1]; exact (List.getElem?_eq_some_iff.mp hj).1
          obtain ⟨t3, ht⟩ : ∃ t3, (T z)[j]? = some t3 := ⟨_, List.getElem?_eq_getElem hj2⟩
          obtain ⟨e, rfl, he⟩ := hT7.2 j x t3 hj ht
          have nl9 := F9.nl P17.now hot hso
          have he9 := nl9 _ _ he (fun _ z => nomatch z)
          have hla9 := F9.keep _ _ hla7 lap ola.1.symm ola.2.symm
          refine ⟨_, rfl, _, _, _, _, rfl, rfl, SqT.of he9, rfl, _, rfl, la, _, rfl, .inl (SqL.of hla9), rfl, ?_, _, rfl, ?_⟩
          · rw [List.all_map]
            exact List.all_eq_true.mpr fun _ _ => rfl
          rw [inV_int]
          by_cases c : t3.2.1 ∈ ys
          · rw [decide_eq_true c]
            exact iteF ⟨⟨_, rfl⟩, F9, M1, M2, ho9, hs9, by omega, by omega, g1, g2⟩
          · rw [decide_eq_false c]
            have hs10 : (upd H9 ot (.lst (M1.map V.int ++ [.int t3.2.1]))) so = some (.lst (M2.map V.int)) := by rw [upd_ne (Ne.symm sot)]; exact hs9
            have ho10 : (upd H9 ot (.lst (M1.map V.int ++ [.int t3.2.1]))) ot = some (.lst ((M1 ++ [t3.2.1]).map V.int)) := by
              rw [upd_same, List.map_append]
              rfl
            have F10 : Fr H7 (upd H9 ot (.lst (M1.map V.int ++ [.int t3.2.1]))) p s0 ot so := ⟨F9.now.off op.1 os.1, fun c o h n1 n2 n3 => by rw [upd_ne n2]; exact F9.keep c o h n1 n2 n3⟩
            refine iteT ⟨_, rfl, .inl ⟨rfl, _, SqL.of ho9⟩, _, rfl, _, _, _, _, rfl, rfl, SqT.of he9, rfl, ot, _, _, rfl, rfl, ho9, (by rw [List.length_map]; exact small1000 (by omega)), ?_⟩
            generalize (upd H9 ot (.lst (M1.map V.int ++ [.int t3.2.1]))) = H10 at hs10 ho10 F10 ⊢
            refine ⟨_, rfl, p, s0, 2, rfl, F10.now, (by decide), (by decide), fun x H11 x0 x2 P11 => ⟨rfl, _, rfl, ?_⟩⟩
            have ho11 := P11.keep ho10 op.1
            have hs11 := P11.keep hs10 op.2
            have F11 : Fr H7 H11 p s0 ot so := ⟨P11.now, fun c o h n1 n2 n3 => P11.keep (F10.keep c o h n1 n2 n3) n1⟩
            have g1' : ∀ z ∈ M1 ++ [t3.2.1], z ∉ ys := fun z hz => by
              rcases List.mem_append.mp hz with hz | hz
              · exact g1 z hz
              · rw [List.mem_singleton.mp hz]; exact c
            have g2' : ∀ z ∈ M2 ++ [t3.2.1], z ∉ ys := fun z hz => by
              rcases List.mem_append.mp hz with hz | hz
              · exact g2 z hz
              · rw [List.mem_singleton.mp hz]; exact c
            refine ite2 (fun _ => ?_) (fun _ => ?_)
            · have he11 := (F11.nl P17.now hot hso) _ _ he (fun _ z => nomatch z)
              refine ⟨_, rfl, .inl ⟨rfl, _, SqL.of hs11⟩, _, rfl, _, _, _, _, rfl, rfl, SqT.of he11, rfl, so, _, _, rfl, rfl, hs11, (by rw [List.length_map]; exact small1000 (by omega)), ⟨_, rfl⟩, ⟨F11.now.off op.2 os.2, fun c o h n1 n2 n3 => by rw [upd_ne n3]; exact F11.keep c o h n1 n2 n3⟩, M1 ++ [t3.2.1], M2 ++ [t3.2.1], ?_, ?_, ?_, ?_, g1', g2'⟩
              · rw [upd_ne sot]
                exact ho11
              · rw [upd_same, List.map_append]
                rfl
              · rw [List.length_append]; show M1.length + 1 ≤ _; omega
              · rw [List.length_append]; show M2.length + 1 ≤ _; omega
            · exact ⟨⟨_, rfl⟩, F11, M1 ++ [t3.2.1], M2, ho11, hs11, by rw [List.length_append]; show M1.length + 1 ≤ _; omega, by omega, g1', g2⟩
        · rintro σ H9 ⟨⟨x13, rfl⟩, F9, M1, M2, ho9, hs9, l1, l2, g1, g2⟩
          rw [hT7.1] at l1 l2
          exact ⟨⟨_, _, rfl⟩, F9, M1, M2, ho9, hs9, by omega, by omega, g1, g2⟩
      · rintro σ H8 ⟨⟨x12, x13, rfl⟩, F8, L1, L2, hot8, hso8, ll1, ll2, hn1, hn2⟩
        rw [List.length_map, List.take_length] at ll1 ll2
        have l1' : L1.length ≤ 100 := by omega
        have l2' : L2.length ≤ 100 := by omega
        have nl78 := F8.nl P17.now hot hso
        have hl8 := F8.keep _ _ hl7 lp oln.1.symm oln.2.symm
        have hla8 := F8.keep _ _ hla7 lap ola.1.symm ola.2.symm
        have R8 : RwAt H8 d names Ad T := ⟨nl78 _ _ R7.at_ (fun _ z => nomatch z), fun z hz => by
          obtain ⟨rs, h1, h2⟩ := R7.row z hz
          exact ⟨rs, F8.keep _ _ h1 (Ap z hz) (oA z hz).1.symm (oA z hz).2.symm, h2.tk fun t us q => nl78 _ _ q (fun _ z => nomatch z)⟩, R7.inj⟩
        have hM8 : MqAt H8 em m := (hM1.tk fun t xs h => s17 _ _ h).tk fun t xs h => nl78 _ _ h (fun _ z => nomatch z)
        have hQ8 := (hQ1.same s17).nl nl78
        have PX8 : Pl HX H8 p s0 := ⟨F8.now, P17.op, P17.os, fun c o h n => F8.keep c o (P17.keep h n) n (fun e => by have := P15.keep h n; rw [e, hot0] at this; cases this) (fun e => by have := P15.keep h n; rw [e, hso5] at this; cases this)⟩
        clear F8 hl7 hla7 R7 oln ola oA nl78 hla5
        refine ⟨_, rfl, _, rfl, (by show 2 ≤ sizeLine; decide), fun il hil => ?_⟩
        have s8 : Same H8 (upd H8 il (.lst [.ref ot, .ref so])) := sameAt (Same.refl H8) hil
        have hil9 : (upd H8 il (.lst [.ref ot, .ref so])) il = some (.lst [.ref ot, .ref so]) := upd_same
        generalize (upd H8 il (.lst [.ref ot, .ref so])) = H9 at s8 hil9 ⊢
        have PX9 : Pl HX H9 p s0 := PX8.same s8
        have hl9 := s8 _ _ hl8
        have hla9 := s8 _ _ hla8
        have R9 := R8.same s8
        have hM9 : MqAt H9 em m := hM8.tk fun t xs h => s8 _ _ h
        have hQ9 := hQ8.same s8
        have two : ∀ (i : Nat) y, ([.ref ot, .ref so] : List V)[i]? = some y → ∃ o Lo, y = V.ref o ∧ H9 o = some (.lst (List.map V.int Lo)) ∧ (∀ z ∈ Lo, z ∉ ys) ∧ Lo.length ≤ 100 := fun i y h => by
          match i, h with
          | 0, h => exact ⟨ot, L1, (Option.some.inj h).symm, s8 _ _ hot8, hn1, l1'⟩
          | 1, h => exact ⟨so, L2, (Option.some.inj h).symm, s8 _ _ hso8, hn2, l2'⟩
        refine ⟨il, rfl, ⟨_, SqL.of hil9⟩, for_list (K := K) (a := il) (xs := [.ref ot, .ref so]) (fun i σ H1 => (∃ x14 x15, σ = [some (.ref a), some (.ref p), some (.ref l), some (.ref d), some (.ref em), some (.ref qa), some (.int now), some (.ref wd), some (.ref la), some (oV (evQ W now m).1), some (.ref ot), some (.ref so), x12, x13, x14, x15, x16, x17]) ∧ Same H9 H1) ⟨⟨_, _, rfl⟩, Same.refl H9⟩ (fun i σ H1 _ hv => SqL.of (hv.2 _ _ hil9)) ?_ ?_⟩
        · rintro i y σ HA' hi ⟨⟨x14, x15, rfl⟩, sA⟩
          obtain ⟨o, Lo, rfl, ho, hno, llo⟩ := two i y hi
          refine ⟨_, rfl, _, rfl, _, rfl, d, l, o, names, Ad, T, many.toNat, Lo, rfl, R9.same sA, sA _ _ hl9, sA _ _ ho, by omega, hnd, G5, by omega, fun D A' T' HB R' c' sB => ?_⟩
          obtain ⟨gk, gn⟩ := good_keep G5 c'
          refine fun wd2 dx2 hwd2 hdx2 hne2 => ⟨wd2, dx2, D, names, A', T', (idsOf names T').length, rfl, upd_same, (R'.same (sameAt (sameAt (Same.refl HB) hdx2) hwd2)).rq, by omega, hnd, hnm, gk, by omega, fun HC W2 hW2 hRW2 hK2 => ⟨rfl, ?_⟩⟩
          have sC : Same HB HC := keep_make hK2 hwd2 hdx2
          have eW2 : W2 = keepW (fun i => decide (i ∉ Lo)) W := rows_keep hW0 hRW2 c'
          have e2 : evQ W2 now (bq m) = ((evQ W now m).1, (evQ W now m).2) := by
            rw [eW2, ev_bq]
            exact evQ_keep (k := fun i => decide (i ∉ Lo)) m fun i hi => decide_eq_true (p := i ∉ Lo) fun hL => hno i hL ((hmem i).mpr hi)
          have s9C := sA.trans (sB.trans sC)
          refine ⟨_, rfl, _, rfl, _, rfl, qa, wd2, bq m, W2, now, rfl, hQ9.same s9C, hW2, bq_nm hN, bq_fit hF, fun HJ sJ => ⟨_, rfl, scal_oV, _, rfl, ?_⟩⟩
          rw [e2]
          refine ite2 (fun c => absurd (show (!decide (oV _ = oV _)) = true from c) (by rw [decide_eq_true rfl]; decide)) (fun _ => ?_)
          refine ⟨_, rfl, _, rfl, _, rfl, qa, wd2, bq m, W2, now, rfl, (hQ9.same s9C).same sJ, hW2.same sJ, bq_nm hN, bq_fit hF, fun lb zs HK sK hlb0 hlb hascb _ hmemb => ?_⟩
          rw [e2] at hmemb
          have s9K := s9C.trans (sJ.trans sK)
          have ez : zs = ys := asc_same hascb hasc fun z => (hmemb z).trans (hmem z).symm
          rw [ez] at hlb
          refine ⟨_, rfl, _, _, .lst (SqL.of hlb) (dp_ints _), .lst (SqL.of (s9K _ _ hla9)) (dp_ints _), ints_shaped _, ints_shaped _, _, rfl, ?_⟩
          rw [eqv_self (ints_shaped _)]
          exact iteF ⟨⟨_, _, rfl⟩, s9K⟩
        rintro σ HA' ⟨⟨x14, x15, rfl⟩, sA⟩
        have PXA := PX9.same sA
        have hlA := sA _ _ hl9
        have hlaA := sA _ _ hla9
        have RA := R9.same sA
        have hMA : MqAt HA' em m := hM9.tk fun t xs h => sA _ _ h
        have hQA := hQ9.same sA
        clear sA two hil9 hl9 hla9 R9 hM9 hQ9 PX9 s8 hil hl8 hla8 R8 hM8 hQ8 PX8 hot8 hso8
        -- turned
        refine fun tD htD => ?_
        have sT0 : Same HA' (upd HA' tD (.dK [])) := sameAt (Same.refl HA') htD
        refine ⟨_, rfl, l, rfl, ⟨_, SqL.of (sT0 _ _ hlA)⟩, for_list (K := K) (a := l) (xs := names.map V.str) (fun i σ H1 => (∃ x12, σ = [some (.ref a), some (.ref p), some (.ref l), some (.ref d), some (.ref em), some (.ref qa), some (.int now), some (.ref wd), some (.ref la), some (oV (evQ W now m).1), some (.ref ot), some (.ref so), x12, x13, x14, x15, some (.ref tD), x17]) ∧ Same HA' H1 ∧ ∃ A' : Str → Addr, RqAt H1 tD (names.take i) A' (fun z => (T z).reverse)) ?_ (fun i σ H1 _ hv => SqL.of (hv.2.1 _ _ hlA)) ?_ ?_⟩
        · exact ⟨⟨_, rfl⟩, sT0, fun _ => tD, upd_same, (fun z hz => nomatch hz)⟩
        · rintro i y σ HB hi ⟨⟨x12', rfl⟩, sB, A', RB⟩
          obtain ⟨z, hz, rfl⟩ : ∃ z, names[i]? = some z ∧ y = V.str z := by
            rw [List.getElem?_map] at hi
            cases e : names[i]? with
            | none => rw [e] at hi; cases hi
            | some z => rw [e] at hi; exact ⟨z, rfl, (Option.some.inj hi).symm⟩
          have hm : z ∈ names := List.mem_of_getElem? hz
          have RB1 := RA.same sB
          have hg := DGet.k (k := Sum.inr z) RB1.at_
          rw [valV_nm, if_pos hm] at hg
          obtain ⟨rs, hy, hT⟩ := RB1.row z hm
          have hnt : z ∉ names.take i := fun hmm => by
            obtain ⟨j, hj, ej⟩ := List.getElem_of_mem hmm
            rw [List.length_take] at hj
            rw [List.getElem_take] at ej
            have := nd_ix hnd (List.getElem?_eq_some_iff.mpr ⟨by omega, ej⟩) hz
            omega
          refine ⟨_, rfl, _, rfl, d, _, rfl, hg, Ad z, rs, rfl, SqL.of hy, fun q1 hq1 => ?_⟩
          have sq : Same HB (upd HB q1 (.tup rs.reverse)) := sameAt (Same.refl HB) hq1
          have RB2 := RB.same sq
          refine ⟨_, rfl, _, rfl, tD, _, rfl, DPut.k (k := Sum.inr z) RB2.at_ (by rw [List.length_map, List.length_take]; exact small1000 (by omega)), ⟨_, rfl⟩, ?_, fun x => if x = z then q1 else A' x, ?_⟩
          · exact fun c o hc => by rw [upd_ne (ne_of_none hc htD)]; exact sq _ _ (sB _ _ hc)
          · rw [list_take hz]
            exact RB2.put hnt (.inr upd_same) ((hT.rev).tk fun t xs h => sq _ _ h)
        rintro σ HB ⟨⟨x12', rfl⟩, sB, A', RB⟩
        rw [List.length_map, List.take_length] at RB
        have sBl := sB
        -- the world of the turned rows, twice
        refine ⟨_, rfl, _, rfl, fun wd3 dx3 hwd3 hdx3 hne3 => ⟨wd3, dx3, tD, names, A', fun z => (T z).reverse, many.toNat, rfl, upd_same, RB.same (sameAt (sameAt (Same.refl HB) hdx3) hwd3), by omega, hnd, hnm, good_rev G5, by omega, fun HC W3 hW3 hRW3 hK3 => ⟨rfl, ?_⟩⟩⟩
        have sC : Same HB HC := keep_make hK3 hwd3 hdx3
        have eW3 : W3 = W := rows_same hW0 hRW3 fun z _ => List.reverse_perm _
        have e3 : evQ W3 now (bq m) = ((evQ W now m).1, (evQ W now m).2) := by rw [eW3, ev_bq]
        have sAC := sB.trans sC
        refine ⟨_, rfl, qa, wd3, bq m, W3, now, rfl, hQA.same sAC, hW3, bq_nm hN, bq_fit hF, fun HD sD => ⟨_, rfl, scal_oV, _, rfl, ?_⟩⟩
        rw [e3]
        refine ite2 (fun c => absurd (show (!decide (oV _ = oV _)) = true from c) (by rw [decide_eq_true rfl]; decide)) (fun _ => ?_)
        have RD := (RB.same sC).same sD
        refine ⟨_, rfl, _, rfl, fun wd4 dx4 hwd4 hdx4 hne4 => ⟨wd4, dx4, tD, names, A', fun z => (T z).reverse, many.toNat, rfl, upd_same, RD.same (sameAt (sameAt (Same.refl HD) hdx4) hwd4), by omega, hnd, hnm, good_rev G5, by omega, fun HE W4 hW4 hRW4 hK4 => ⟨rfl, ?_⟩⟩⟩
        have sE : Same HD HE := keep_make hK4 hwd4 hdx4
        have eW4 : W4 = W := rows_same hW0 hRW4 fun z _ => List.reverse_perm _
        have e4 : evQ W4 now (bq m) = ((evQ W now m).1, (evQ W now m).2) := by rw [eW4, ev_bq]
        have sAE := sAC.trans (sD.trans sE)
        refine ⟨_, rfl, qa, wd4, bq m, W4, now, rfl, hQA.same sAE, hW4, bq_nm hN, bq_fit hF, fun lb zs HF sF hlb0 hlb hascb _ hmemb => ?_⟩
        rw [e4] at hmemb
        have sAF := sAE.trans sF
        have ez : zs = ys := asc_same hascb hasc fun z => (hmemb z).trans (hmem z).symm
        rw [ez] at hlb
        refine ⟨_, rfl, _, _, .lst (SqL.of hlb) (dp_ints _), .lst (SqL.of (sAF _ _ hlaA)) (dp_ints _), ints_shaped _, ints_shaped _, _, rfl, ?_⟩
        rw [eqv_self (ints_shaped _)]
        refine iteF ?_
        have PXF := PXA.same sAF
        have hlF := sAF _ _ hlA
        have hlaF := sAF _ _ hlaA
        have RF := RA.same sAF
        have hMF : MqAt HF em m := hMA.tk fun t xs h => sAF _ _ h
        have hQF := hQA.same sAF
        refine ⟨_, rfl, _, _, rfl, .inl ⟨_, SqL.of hlaF, rfl⟩, _, _, rfl, rfl, _, rfl, ?_⟩
        refine ite2 (fun c => ?_) (fun _ => ?_)
        · have c : (0 : Int) < ((ys.map V.int).length : Int) := of_decide_eq_true c
          rw [List.length_map] at c
          refine ⟨_, rfl, _, rfl, _, rfl, _, _, rfl, .inl ⟨_, SqL.of hlaF, rfl⟩, p, s0, _, rfl, PXF.now, (by rw [List.length_map]; omega), (by rw [List.length_map]; omega), fun g HG g0 g1 PG => ?_⟩
          rw [List.length_map] at g1
          obtain ⟨j, rfl⟩ : ∃ j : Nat, g = (j : Int) := ⟨g.toNat, by omega⟩
          have hj : j < ys.length := by omega
          refine ⟨_, _, _, .int ys[j], rfl, rfl, SqL.of (PG.keep hlaF lap), atI_nat (by rw [List.getElem?_map, List.getElem?_eq_getElem hj]; rfl), ?_⟩
          have nlG := nl_pl PXF.now PG
          have RG := RF.pl PXF.now Ap PG
          have hlG := PG.keep hlF lp
          refine ⟨_, rfl, _, rfl, _, rfl, _, rfl, _, rfl, (by show 1 ≤ sizeLine; decide), fun gl hgl => ?_⟩
          have sH : Same HG (upd HG gl (.lst [.int ys[j]])) := sameAt (Same.refl HG) hgl
          refine ⟨d, l, gl, names, Ad, T, many.toNat, [ys[j]], rfl, RG.same sH, sH _ _ hlG, upd_same, by omega, hnd, G5, by omega, fun D A5 T5 HI R5' c5 sI => ?_⟩
          obtain ⟨gk, gn⟩ := good_keep G5 c5
          obtain ⟨W5, hW5⟩ := rows_ex gk
          have sGI := sH.trans sI
          have hMI : MqAt HI em m := (hMF.tk fun t xs h => nlG _ _ h (fun _ z => nomatch z)).tk fun t xs h => sGI _ _ h
          have hQI := (hQF.nl nlG).same sGI
          refine ⟨_, rfl, em, qa, D, m, names, A5, T5, W5, (idsOf names T5).length, now, rfl, hMI, hQI, ⟨R5', hnd, by omega, hnm, gk, by omega, hW5⟩, hN, hI, hF, fun HJ sJ => ⟨_, rfl, iteF ?_⟩⟩
          exact ⟨⟨_, _, _, _, _, _, _, _, _, _, _, _, rfl⟩, (PXF.trans PG).same (sGI.trans sJ)⟩
        · exact ⟨⟨_, _, _, _, _, _, _, _, _, _, _, _, rfl⟩, PXF⟩
    · rintro σ H1 ⟨_, P1⟩
      exact q H1
end
end Ash

set_option Elab.async false
set_option linter.all false
set_option maxRecDepth 100000
set_option maxHeartbeats 4000000
namespace Ash
open PySem PySem.Spec PyProof.Rows L2
/-! ### the facts of the seven classes, put together -/
theorem is7 {C : TC} {p : Addr → Prop} (h1 : p C.now) (h2 : p C.last) (h3 : p C.next) (h4 : p C.shift) (h5 : p C.either) (h6 : p C.later) (h7 : p C.earlier) : ∀ a, C.Is a → p a := fun a ha => by
  rcases ha with rfl | rfl | rfl | rfl | rfl | rfl | rfl
  · exact h1
  · exact h2
  · exact h3
  · exact h4
  · exact h5
  · exact h6
  · exact h7
theorem na10 {K : PySem.W.Frag} {a : Addr} (h1 : NoAttr K a "stream") (h2 : NoAttr K a "term") (h3 : NoAttr K a "first") (h4 : NoAttr K a "second") (h5 : NoAttr K a "amount") (h6 : NoAttr K a "spelling") (h7 : NoAttr K a "depth") (h8 : NoAttr K a "parts") (h9 : NoAttr K a "looks") (h10 : NoAttr K a "choices") : ∀ f ∈ ATTRS, NoAttr K a f := fun f hf => by
  simp only [ATTRS, List.mem_cons, List.not_mem_nil, or_false] at hf
  rcases hf with rfl | rfl | rfl | rfl | rfl | rfl | rfl | rfl | rfl | rfl
  · exact h1
  · exact h2
  · exact h3
  · exact h4
  · exact h5
  · exact h6
  · exact h7
  · exact h8
  · exact h9
  · exact h10
theorem kit_me {K : PySem.W.Frag} {a : Addr} : PySem.W.kitOne K (.ref a) (.ref a) = some (decide (a = a)) := by
  unfold PySem.W.kitOne
  simp
theorem ne_sub {K : PySem.W.Frag} {a b : Addr} (h1 : PySem.W.subIn K (.ref a) (.ref a) = some true) (h2 : PySem.W.subIn K (.ref a) (.ref b) = some false) : a ≠ b := fun e => by
  rw [← e, h1] at h2
  cases h2
theorem kit_no {K : PySem.W.Frag} {a b : Addr} (n : a ≠ b) (h2 : PySem.W.isClsIn K b = true) (h3 : PySem.W.typeIn K (.ref b) = some (.type "type")) (h4 : PySem.W.subIn K (.ref a) (.ref b) = some false) : PySem.W.kitOne K (.ref a) (.ref b) = some (decide (a = b)) := by
  have h2' : (PySem.W.clsIn K b).isSome = true := h2
  rw [decide_eq_false n]
  simp [PySem.W.kitOne, PySem.W.kitCls, n, h2', h3, h4]
theorem is4 {A : AC} {p : Addr → Prop} (h1 : p A.number) (h2 : p A.count) (h3 : p A.total) (h4 : p A.gap) : ∀ a, A.Is a → p a := fun a ha => by
  rcases ha with rfl | rfl | rfl | rfl
  · exact h1
  · exact h2
  · exact h3
  · exact h4
theorem na5 {K : PySem.W.Frag} {a : Addr} (h1 : NoAttr K a "stream") (h2 : NoAttr K a "term") (h3 : NoAttr K a "first") (h4 : NoAttr K a "last") (h5 : NoAttr K a "spelling") : ∀ f ∈ AATTRS, NoAttr K a f := fun f hf => by
  simp only [AATTRS, List.mem_cons, List.not_mem_nil, or_false] at hf
  rcases hf with rfl | rfl | rfl | rfl | rfl
  · exact h1
  · exact h2
  · exact h3
  · exact h4
  · exact h5
theorem kit_no0 {K : PySem.W.Frag} {a b : Addr} (n : a ≠ b) (h2 : PySem.W.isClsIn K b = true) (h3 : PySem.W.typeIn K (.ref b) = some (.type "type")) (h4 : PySem.W.subIn K (.ref a) (.ref b) = some false) : PySem.W.kitOne K (.ref a) (.ref b) = some false := by
  have h := kit_no n h2 h3 h4
  rw [decide_eq_false n] at h
  exact h
example : PySem.dunder (Operator.info .BitOr).2 = "__or__" := by rfl
example : dunderR (Operator.info .BitOr).2 = "__ror__" := by rfl
example : PySem.dunder (Operator.info .Sub).2 = "__sub__" := by rfl
example : PySem.dunder (Operator.info .Add).2 = "__add__" := by rfl
example : dunderR (Operator.info .Add).2 = "__radd__" := by rfl
end Ash

set_option Elab.async false
set_option linter.all false
set_option maxRecDepth 100000
set_option maxHeartbeats 4000000
namespace Ash
open PySem PySem.Spec PyProof.Rows L2
section
variable {P : Program} {w : World} {K : PySem.W.Frag} {mg : Str → Option Value} {base : Heap}
theorem all_ok {CW cA cB cC cD cE cF cG aA aB aC aD fadd fior flat fear : Addr}
    (nrev : mg "reversed" = none)
    (B : Blt mg)
    (Cs : Cst mg)
    (TW : Cw K mg CW)
    (wi : BkI K CW)
    (mkW : PySem.W.makesIn K CW = true)
    (kW : PySem.W.keepIn K (.ref CW) = true)
    (nm0 : mg "Now" = some (.ref cA))
    (cl0 : Cls K cA)
    (b0 : BkI K cA)
    (ic0 : PySem.W.isClsIn K cA = true)
    (ti0 : PySem.W.typeIn K (.ref cA) = some (.type "type"))
    (sf0 : PySem.W.selfFirst K cA = true)
    (at0 : PySem.W.findIn K (.ref cA) "__add__" = some (some (.ref fadd)))
    (rt0 : PySem.W.findIn K (.ref cA) "__radd__" = some none)
    (si0 : PySem.W.subIn K (.type "int") (.ref cA) = some false)
    (or0 : PySem.W.findIn K (.ref cA) "__or__" = some (some (.ref fior)))
    (ro0 : PySem.W.findIn K (.ref cA) "__ror__" = some none)
    (la0 : PySem.W.findIn K (.ref cA) "later" = some (some (.ref flat)))
    (ea0 : PySem.W.findIn K (.ref cA) "earlier" = some (some (.ref fear)))
    (n0_0 : NoAttr K cA "stream")
    (n0_1 : NoAttr K cA "term")
    (n0_2 : NoAttr K cA "first")
    (n0_3 : NoAttr K cA "second")
    (n0_4 : NoAttr K cA "amount")
    (n0_5 : NoAttr K cA "spelling")
    (n0_6 : NoAttr K cA "depth")
    (n0_7 : NoAttr K cA "parts")
    (n0_8 : NoAttr K cA "looks")
    (n0_9 : NoAttr K cA "choices")
    (s0_0 : PySem.W.subIn K (.ref cA) (.ref cA) = some true)
    (s0_1 : PySem.W.subIn K (.ref cA) (.ref cB) = some false)
    (s0_2 : PySem.W.subIn K (.ref cA) (.ref cC) = some false)
    (s0_3 : PySem.W.subIn K (.ref cA) (.ref cD) = some false)
    (s0_4 : PySem.W.subIn K (.ref cA) (.ref cE) = some false)
    (s0_5 : PySem.W.subIn K (.ref cA) (.ref cF) = some false)
    (s0_6 : PySem.W.subIn K (.ref cA) (.ref cG) = some false)
    (nm1 : mg "Last" = some (.ref cB))
    (cl1 : Cls K cB)
    (b1 : BkI K cB)
    (ic1 : PySem.W.isClsIn K cB = true)
    (ti1 : PySem.W.typeIn K (.ref cB) = some (.type "type"))
    (sf1 : PySem.W.selfFirst K cB = true)
    (at1 : PySem.W.findIn K (.ref cB) "__add__" = some (some (.ref fadd)))
    (rt1 : PySem.W.findIn K (.ref cB) "__radd__" = some none)
    (si1 : PySem.W.subIn K (.type "int") (.ref cB) = some false)
    (or1 : PySem.W.findIn K (.ref cB) "__or__" = some (some (.ref fior)))
    (ro1 : PySem.W.findIn K (.ref cB) "__ror__" = some none)
    (la1 : PySem.W.findIn K (.ref cB) "later" = some (some (.ref flat)))
    (ea1 : PySem.W.findIn K (.ref cB) "earlier" = some (some (.ref fear)))
    (n1_0 : NoAttr K cB "stream")
    (n1_1 : NoAttr K cB "term")
    (n1_2 : NoAttr K cB "first")
    (n1_3 : NoAttr K cB "second")
    (n1_4 : NoAttr K cB "amount")
    (n1_5 : NoAttr K cB "spelling")
    (n1_6 : NoAttr K cB "depth")
    (n1_7 : NoAttr K cB "parts")
    (n1_8 : NoAttr K cB "looks")
    (n1_9 : NoAttr K cB "choices")
    (s1_0 : PySem.W.subIn K (.ref cB) (.ref cA) = some false)
    (s1_1 : PySem.W.subIn K (.ref cB) (.ref cB) = some true)
    (s1_2 : PySem.W.subIn K (.ref cB) (.ref cC) = some false)
    (s1_3 : PySem.W.subIn K (.ref cB) (.ref cD) = some false)
    (s1_4 : PySem.W.subIn K (.ref cB) (.ref cE) = some false)
    (s1_5 : PySem.W.subIn K (.ref cB) (.ref cF) = some false)
    (s1_6 : PySem.W.subIn K (.ref cB) (.ref cG) = some false)
    (nm2 : mg "Next" = some (.ref cC))
    (cl2 : Cls K cC)
    (b2 : BkI K cC)
    (ic2 : PySem.W.isClsIn K cC = true)
    (ti2 : PySem.W.typeIn K (.ref cC) = some (.type "type"))
    (sf2 : PySem.W.selfFirst K cC = true)
    (at2 : PySem.W.findIn K (.ref cC) "__add__" = some (some (.ref fadd)))
    (rt2 : PySem.W.findIn K (.ref cC) "__radd__" = some none)
    (si2 : PySem.W.subIn K (.type "int") (.ref cC) = some false)
    (or2 : PySem.W.findIn K (.ref cC) "__or__" = some (some (.ref fior)))
    (ro2 : PySem.W.findIn K (.ref cC) "__ror__" = some none)
    (la2 : PySem.W.findIn K (.ref cC) "later" = some (some (.ref flat)))
    (ea2 : PySem.W.findIn K (.ref cC) "earlier" = some (some (.ref fear)))
    (n2_0 : NoAttr K cC "stream")
    (n2_1 : NoAttr K cC "term")
    (n2_2 : NoAttr K cC "first")
    (n2_3 : NoAttr K cC "second")
    (n2_4 : NoAttr K cC "amount")
    (n2_5 : NoAttr K cC "spelling")
    (n2_6 : NoAttr K cC "depth")
    (n2_7 : NoAttr K cC "parts")
    (n2_8 : NoAttr K cC "looks")
    (n2_9 : NoAttr K cC "choices")
    (s2_0 : PySem.W.subIn K (.ref cC) (.ref cA) = some false)
    (s2_1 : PySem.W.subIn K (.ref cC) (.ref cB) = some false)
    (s2_2 : PySem.W.subIn K (.ref cC) (.ref cC) = some true)
    (s2_3 : PySem.W.subIn K (.ref cC) (.ref cD) = some false)
    (s2_4 : PySem.W.subIn K (.ref cC) (.ref cE) = some false)
    (s2_5 : PySem.W.subIn K (.ref cC) (.ref cF) = some false)
    (s2_6 : PySem.W.subIn K (.ref cC) (.ref cG) = some false)
    (nm3 : mg "Shift" = some (.ref cD))
    (cl3 : Cls K cD)
    (b3 : BkI K cD)
    (ic3 : PySem.W.isClsIn K cD = true)
    (ti3 : PySem.W.typeIn K (.ref cD) = some (.type "type"))
    (sf3 : PySem.W.selfFirst K cD = true)
    (at3 : PySem.W.findIn K (.ref cD) "__add__" = some (some (.ref fadd)))
    (rt3 : PySem.W.findIn K (.ref cD) "__radd__" = some none)
    (si3 : PySem.W.subIn K (.type "int") (.ref cD) = some false)
    (or3 : PySem.W.findIn K (.ref cD) "__or__" = some (some (.ref fior)))
    (ro3 : PySem.W.findIn K (.ref cD) "__ror__" = some none)
    (la3 : PySem.W.findIn K (.ref cD) "later" = some (some (.ref flat)))
    (ea3 : PySem.W.findIn K (.ref cD) "earlier" = some (some (.ref fear)))
    (n3_0 : NoAttr K cD "stream")
    (n3_1 : NoAttr K cD "term")
    (n3_2 : NoAttr K cD "first")
    (n3_3 : NoAttr K cD "second")
    (n3_4 : NoAttr K cD "amount")
    (n3_5 : NoAttr K cD "spelling")
    (n3_6 : NoAttr K cD "depth")
    (n3_7 : NoAttr K cD "parts")
    (n3_8 : NoAttr K cD "looks")
    (n3_9 : NoAttr K cD "choices")
    (s3_0 : PySem.W.subIn K (.ref cD) (.ref cA) = some false)
    (s3_1 : PySem.W.subIn K (.ref cD) (.ref cB) = some false)
    (s3_2 : PySem.W.subIn K (.ref cD) (.ref cC) = some false)
    (s3_3 : PySem.W.subIn K (.ref cD) (.ref cD) = some true)
    (s3_4 : PySem.W.subIn K (.ref cD) (.ref cE) = some false)
    (s3_5 : PySem.W.subIn K (.ref cD) (.ref cF) = some false)
    (s3_6 : PySem.W.subIn K (.ref cD) (.ref cG) = some false)
    (nm4 : mg "Either" = some (.ref cE))
    (cl4 : Cls K cE)
    (b4 : BkI K cE)
    (ic4 : PySem.W.isClsIn K cE = true)
    (ti4 : PySem.W.typeIn K (.ref cE) = some (.type "type"))
    (sf4 : PySem.W.selfFirst K cE = true)
    (at4 : PySem.W.findIn K (.ref cE) "__add__" = some (some (.ref fadd)))
    (rt4 : PySem.W.findIn K (.ref cE) "__radd__" = some none)
    (si4 : PySem.W.subIn K (.type "int") (.ref cE) = some false)
    (or4 : PySem.W.findIn K (.ref cE) "__or__" = some (some (.ref fior)))
    (ro4 : PySem.W.findIn K (.ref cE) "__ror__" = some none)
    (la4 : PySem.W.findIn K (.ref cE) "later" = some (some (.ref flat)))
    (ea4 : PySem.W.findIn K (.ref cE) "earlier" = some (some (.ref fear)))
    (n4_0 : NoAttr K cE "stream")
    (n4_1 : NoAttr K cE "term")
    (n4_2 : NoAttr K cE "first")
    (n4_3 : NoAttr K cE "second")
    (n4_4 : NoAttr K cE "amount")
    (n4_5 : NoAttr K cE "spelling")
    (n4_6 : NoAttr K cE "depth")
    (n4_7 : NoAttr K cE "parts")
    (n4_8 : NoAttr K cE "looks")
    (n4_9 : NoAttr K cE "choices")
    (s4_0 : PySem.W.subIn K (.ref cE) (.ref cA) = some false)
    (s4_1 : PySem.W.subIn K (.ref cE) (.ref cB) = some false)
    (s4_2 : PySem.W.subIn K (.ref cE) (.ref cC) = some false)
    (s4_3 : PySem.W.subIn K (.ref cE) (.ref cD) = some false)
    (s4_4 : PySem.W.subIn K (.ref cE) (.ref cE) = some true)
    (s4_5 : PySem.W.subIn K (.ref cE) (.ref cF) = some false)
    (s4_6 : PySem.W.subIn K (.ref cE) (.ref cG) = some false)
    (nm5 : mg "Later" = some (.ref cF))
    (cl5 : Cls K cF)
    (b5 : BkI K cF)
    (ic5 : PySem.W.isClsIn K cF = true)
    (ti5 : PySem.W.typeIn K (.ref cF) = some (.type "type"))
    (sf5 : PySem.W.selfFirst K cF = true)
    (at5 : PySem.W.findIn K (.ref cF) "__add__" = some (some (.ref fadd)))
    (rt5 : PySem.W.findIn K (.ref cF) "__radd__" = some none)
    (si5 : PySem.W.subIn K (.type "int") (.ref cF) = some false)
    (or5 : PySem.W.findIn K (.ref cF) "__or__" = some (some (.ref fior)))
    (ro5 : PySem.W.findIn K (.ref cF) "__ror__" = some none)
    (la5 : PySem.W.findIn K (.ref cF) "later" = some (some (.ref flat)))
    (ea5 : PySem.W.findIn K (.ref cF) "earlier" = some (some (.ref fear)))
    (n5_0 : NoAttr K cF "stream")
    (n5_1 : NoAttr K cF "term")
    (n5_2 : NoAttr K cF "first")
    (n5_3 : NoAttr K cF "second")
    (n5_4 : NoAttr K cF "amount")
    (n5_5 : NoAttr K cF "spelling")
    (n5_6 : NoAttr K cF "depth")
    (n5_7 : NoAttr K cF "parts")
    (n5_8 : NoAttr K cF "looks")
    (n5_9 : NoAttr K cF "choices")
    (s5_0 : PySem.W.subIn K (.ref cF) (.ref cA) = some false)
    (s5_1 : PySem.W.subIn K (.ref cF) (.ref cB) = some false)
    (s5_2 : PySem.W.subIn K (.ref cF) (.ref cC) = some false)
    (s5_3 : PySem.W.subIn K (.ref cF) (.ref cD) = some false)
    (s5_4 : PySem.W.subIn K (.ref cF) (.ref cE) = some false)
    (s5_5 : PySem.W.subIn K (.ref cF) (.ref cF) = some true)
    (s5_6 : PySem.W.subIn K (.ref cF) (.ref cG) = some false)
    (nm6 : mg "Earlier" = some (.ref cG))
    (cl6 : Cls K cG)
    (b6 : BkI K cG)
    (ic6 : PySem.W.isClsIn K cG = true)
    (ti6 : PySem.W.typeIn K (.ref cG) = some (.type "type"))
    (sf6 : PySem.W.selfFirst K cG = true)
    (at6 : PySem.W.findIn K (.ref cG) "__add__" = some (some (.ref fadd)))
    (rt6 : PySem.W.findIn K (.ref cG) "__radd__" = some none)
    (si6 : PySem.W.subIn K (.type "int") (.ref cG) = some false)
    (or6 : PySem.W.findIn K (.ref cG) "__or__" = some (some (.ref fior)))
    (ro6 : PySem.W.findIn K (.ref cG) "__ror__" = some none)
    (la6 : PySem.W.findIn K (.ref cG) "later" = some (some (.ref flat)))
    (ea6 : PySem.W.findIn K (.ref cG) "earlier" = some (some (.ref fear)))
    (n6_0 : NoAttr K cG "stream")
    (n6_1 : NoAttr K cG "term")
    (n6_2 : NoAttr K cG "first")
    (n6_3 : NoAttr K cG "second")
    (n6_4 : NoAttr K cG "amount")
    (n6_5 : NoAttr K cG "spelling")
    (n6_6 : NoAttr K cG "depth")
    (n6_7 : NoAttr K cG "parts")
    (n6_8 : NoAttr K cG "looks")
    (n6_9 : NoAttr K cG "choices")
    (s6_0 : PySem.W.subIn K (.ref cG) (.ref cA) = some false)
    (s6_1 : PySem.W.subIn K (.ref cG) (.ref cB) = some false)
    (s6_2 : PySem.W.subIn K (.ref cG) (.ref cC) = some false)
    (s6_3 : PySem.W.subIn K (.ref cG) (.ref cD) = some false)
    (s6_4 : PySem.W.subIn K (.ref cG) (.ref cE) = some false)
    (s6_5 : PySem.W.subIn K (.ref cG) (.ref cF) = some false)
    (s6_6 : PySem.W.subIn K (.ref cG) (.ref cG) = some true)
    (mk0 : PySem.W.makesIn K cA = true)
    (kp0 : PySem.W.keepIn K (.ref cA) = true)
    (mk1 : PySem.W.makesIn K cB = true)
    (kp1 : PySem.W.keepIn K (.ref cB) = true)
    (mk2 : PySem.W.makesIn K cC = true)
    (kp2 : PySem.W.keepIn K (.ref cC) = true)
    (mk3 : PySem.W.makesIn K cD = true)
    (kp3 : PySem.W.keepIn K (.ref cD) = true)
    (mk4 : PySem.W.makesIn K cE = true)
    (kp4 : PySem.W.keepIn K (.ref cE) = true)
    (mk5 : PySem.W.makesIn K cF = true)
    (kp5 : PySem.W.keepIn K (.ref cF) = true)
    (mk6 : PySem.W.makesIn K cG = true)
    (kp6 : PySem.W.keepIn K (.ref cG) = true)
    (i1 : PySem.W.findIn K (.type "int") "__add__" = some (some (.builtin "int.__add__")))
    (i2 : PySem.W.findIn K (.type "int") "__radd__" = some (some (.builtin "int.__radd__")))
    (anm0 : mg "Number" = some (.ref aA))
    (acl0 : Cls K aA)
    (ab0 : BkI K aA)
    (aic0 : PySem.W.isClsIn K aA = true)
    (ati0 : PySem.W.typeIn K (.ref aA) = some (.type "type"))
    (an0_0 : NoAttr K aA "stream")
    (an0_1 : NoAttr K aA "term")
    (an0_2 : NoAttr K aA "first")
    (an0_3 : NoAttr K aA "last")
    (an0_4 : NoAttr K aA "spelling")
    (as0_0 : PySem.W.subIn K (.ref aA) (.ref aA) = some true)
    (as0_1 : PySem.W.subIn K (.ref aA) (.ref aB) = some false)
    (as0_2 : PySem.W.subIn K (.ref aA) (.ref aC) = some false)
    (as0_3 : PySem.W.subIn K (.ref aA) (.ref aD) = some false)
    (at0_0 : PySem.W.subIn K (.ref aA) (.ref cA) = some false)
    (at0_1 : PySem.W.subIn K (.ref aA) (.ref cB) = some false)
    (at0_2 : PySem.W.subIn K (.ref aA) (.ref cC) = some false)
    (at0_3 : PySem.W.subIn K (.ref aA) (.ref cD) = some false)
    (at0_4 : PySem.W.subIn K (.ref aA) (.ref cE) = some false)
    (at0_5 : PySem.W.subIn K (.ref aA) (.ref cF) = some false)
    (at0_6 : PySem.W.subIn K (.ref aA) (.ref cG) = some false)
    (amk0 : PySem.W.makesIn K aA = true)
    (akp0 : PySem.W.keepIn K (.ref aA) = true)
    (anm1 : mg "Count" = some (.ref aB))
    (acl1 : Cls K aB)
    (ab1 : BkI K aB)
    (aic1 : PySem.W.isClsIn K aB = true)
    (ati1 : PySem.W.typeIn K (.ref aB) = some (.type "type"))
    (an1_0 : NoAttr K aB "stream")
    (an1_1 : NoAttr K aB "term")
    (an1_2 : NoAttr K aB "first")
    (an1_3 : NoAttr K aB "last")
    (an1_4 : NoAttr K aB "spelling")
    (as1_0 : PySem.W.subIn K (.ref aB) (.ref aA) = some false)
    (as1_1 : PySem.W.subIn K (.ref aB) (.ref aB) = some true)
    (as1_2 : PySem.W.subIn K (.ref aB) (.ref aC) = some false)
    (as1_3 : PySem.W.subIn K (.ref aB) (.ref aD) = some false)
    (at1_0 : PySem.W.subIn K (.ref aB) (.ref cA) = some false)
    (at1_1 : PySem.W.subIn K (.ref aB) (.ref cB) = some false)
    (at1_2 : PySem.W.subIn K (.ref aB) (.ref cC) = some false)
    (at1_3 : PySem.W.subIn K (.ref aB) (.ref cD) = some false)
    (at1_4 : PySem.W.subIn K (.ref aB) (.ref cE) = some false)
    (at1_5 : PySem.W.subIn K (.ref aB) (.ref cF) = some false)
    (at1_6 : PySem.W.subIn K (.ref aB) (.ref cG) = some false)
    (amk1 : PySem.W.makesIn K aB = true)
    (akp1 : PySem.W.keepIn K (.ref aB) = true)
    (anm2 : mg "Total" = some (.ref aC))
    (acl2 : Cls K aC)
    (ab2 : BkI K aC)
    (aic2 : PySem.W.isClsIn K aC = true)
    (ati2 : PySem.W.typeIn K (.ref aC) = some (.type "type"))
    (an2_0 : NoAttr K aC "stream")
    (an2_1 : NoAttr K aC "term")
    (an2_2 : NoAttr K aC "first")
    (an2_3 : NoAttr K aC "last")
    (an2_4 : NoAttr K aC "spelling")
    (as2_0 : PySem.W.subIn K (.ref aC) (.ref aA) = some false)
    (as2_1 : PySem.W.subIn K (.ref aC) (.ref aB) = some false)
    (as2_2 : PySem.W.subIn K (.ref aC) (.ref aC) = some true)
    (as2_3 : PySem.W.subIn K (.ref aC) (.ref aD) = some false)
    (at2_0 : PySem.W.subIn K (.ref aC) (.ref cA) = some false)
    (at2_1 : PySem.W.subIn K (.ref aC) (.ref cB) = some false)
    (at2_2 : PySem.W.subIn K (.ref aC) (.ref cC) = some false)
    (at2_3 : PySem.W.subIn K (.ref aC) (.ref cD) = some false)
    (at2_4 : PySem.W.subIn K (.ref aC) (.ref cE) = some false)
    (at2_5 : PySem.W.subIn K (.ref aC) (.ref cF) = some false)
    (at2_6 : PySem.W.subIn K (.ref aC) (.ref cG) = some false)
    (amk2 : PySem.W.makesIn K aC = true)
    (akp2 : PySem.W.keepIn K (.ref aC) = true)
    (anm3 : mg "Gap" = some (.ref aD))
    (acl3 : Cls K aD)
    (ab3 : BkI K aD)
    (aic3 : PySem.W.isClsIn K aD = true)
    (ati3 : PySem.W.typeIn K (.ref aD) = some (.type "type"))
    (an3_0 : NoAttr K aD "stream")
    (an3_1 : NoAttr K aD "term")
    (an3_2 : NoAttr K aD "first")
    (an3_3 : NoAttr K aD "last")
    (an3_4 : NoAttr K aD "spelling")
    (as3_0 : PySem.W.subIn K (.ref aD) (.ref aA) = some false)
    (as3_1 : PySem.W.subIn K (.ref aD) (.ref aB) = some false)
    (as3_2 : PySem.W.subIn K (.ref aD) (.ref aC) = some false)
    (as3_3 : PySem.W.subIn K (.ref aD) (.ref aD) = some true)
    (at3_0 : PySem.W.subIn K (.ref aD) (.ref cA) = some false)
    (at3_1 : PySem.W.subIn K (.ref aD) (.ref cB) = some false)
    (at3_2 : PySem.W.subIn K (.ref aD) (.ref cC) = some false)
    (at3_3 : PySem.W.subIn K (.ref aD) (.ref cD) = some false)
    (at3_4 : PySem.W.subIn K (.ref aD) (.ref cE) = some false)
    (at3_5 : PySem.W.subIn K (.ref aD) (.ref cF) = some false)
    (at3_6 : PySem.W.subIn K (.ref aD) (.ref cG) = some false)
    (amk3 : PySem.W.makesIn K aD = true)
    (akp3 : PySem.W.keepIn K (.ref aD) = true)
    (d_is_integer : D1 K mg "is_integer" s_is_integer)
    (d_is_natural : D1 K mg "is_natural" s_is_natural)
    (d_is_name : D1 K mg "is_name" s_is_name)
    (d_are_integers : D1 K mg "are_integers" s_are_integers)
    (d_is_row : D1 K mg "is_row" s_is_row)
    (d_are_rows : D1 K mg "are_rows" s_are_rows)
    (d_first_twice : D1 K mg "first_twice" s_first_twice)
    (d_is_rows : D1 K mg "is_rows" s_is_rows)
    (d_is_term : D1 K mg "is_term" s_is_term)
    (d_is_look : D1 K mg "is_look" s_is_look)
    (d_checked_stream : D1 K mg "checked_stream" s_checked_stream)
    (d_checked_term : D1 K mg "checked_term" s_checked_term)
    (d_sizes : D1 K mg "sizes" s_sizes)
    (d_shifted : D1 K mg "shifted" s_shifted)
    (d_last_row : D1 K mg "last_row" s_last_row)
    (d_next_row : D1 K mg "next_row" s_next_row)
    (d_moved : D1 K mg "moved" s_moved)
    (d_looked : D1 K mg "looked" s_looked)
    (d_followed_either : D1 K mg "followed_either" s_followed_either)
    (d_followed_both : D1 K mg "followed_both" s_followed_both)
    (d_followed : D1 K mg "followed" s_followed)
    (d_is_amount : D1 K mg "is_amount" s_is_amount)
    (d_told_between : D1 K mg "told_between" s_told_between)
    (d_is_question : D1 K mg "is_question" s_is_question)
    (d_check : D1 K mg "check" s_check)
    (d_answered : D1 K mg "answered" s_answered)
    (d_value : D1 K mg "value" s_value)
    (d__law_pool : D1 K mg "_law_pool" s_l_pool)
    (d__law_draw : D1 K mg "_law_draw" s_l_draw)
    (d__law_names : D1 K mg "_law_names" s_l_names)
    (d__law_moment : D1 K mg "_law_moment" s_l_moment)
    (d__law_rows : D1 K mg "_law_rows" s_l_rows)
    (d__law_term : D1 K mg "_law_term" s_l_term)
    (d__law_built : D1 K mg "_law_built" s_l_built)
    (d_support : D1 K mg "support" s_support)
    (d__law_question : D1 K mg "_law_question" s_l_question)
    (d__law_asked : D1 K mg "_law_asked" s_l_asked)
    (d__law_same : D1 K mg "_law_same" s_l_same)
    (d__law_last : D1 K mg "_law_last" s_l_last)
    (d__law_next : D1 K mg "_law_next" s_l_next)
    (d__law_answer : D1 K mg "_law_answer" s_l_answer)
    (d__law_told : D1 K mg "_law_told" s_l_told)
    (d__law_is_told : D1 K mg "_law_is_told" s_l_is_told)
    (d__law_without : D1 K mg "_law_without" s_l_without)
    (d__law_deep : D1 K mg "_law_deep" s_l_deep)
    (m_WI : DM K CW "__init__" "World.__init__" s_World_init)
    (m_WR : DM K CW "rows" "World.rows" s_World_rows)
    (m_NI : DM K cA "__init__" "Now.__init__" s_Now_init)
    (m_LI : DM K cB "__init__" "Last.__init__" s_Last_init)
    (m_XI : DM K cC "__init__" "Next.__init__" s_Next_init)
    (m_SI : DM K cD "__init__" "Shift.__init__" s_Shift_init)
    (m_EI : DM K cE "__init__" "Either.__init__" s_Either_init)
    (m_JI : DM K cF "__init__" "Later.__init__" s_Later_init)
    (m_KI : DM K cG "__init__" "Earlier.__init__" s_Earlier_init)
    (m_nuI : DM K aA "__init__" "Number.__init__" s_Number_init)
    (m_coI : DM K aB "__init__" "Count.__init__" s_Count_init)
    (m_toI : DM K aC "__init__" "Total.__init__" s_Total_init)
    (m_gaI : DM K aD "__init__" "Gap.__init__" s_Gap_init)
    (m_add : DQ K cA fadd "__add__" "Term.__add__" s_Term_add)
    (m_ior : DQ K cA fior "__or__" "Term.__or__" s_Term_or)
    (m_lat : DQ K cA flat "later" "Term.later" s_Term_later)
    (m_ear : DQ K cA fear "earlier" "Term.earlier" s_Term_earlier)
    {f : Addr} {fd : FuncData} (F_law : Fun K "law" "law" s_law f fd) : FnOk P w K mg base CX0 40 f fd ["script"] (spLaw K) := by
  have TT : TF K mg (⟨cA, cB, cC, cD, cE, cF, cG⟩ : TC) := { cl := is7 (cl0) (cl1) (cl2) (cl3) (cl4) (cl5) (cl6), no := is7 (na10 n0_0 n0_1 n0_2 n0_3 n0_4 n0_5 n0_6 n0_7 n0_8 n0_9) (na10 n1_0 n1_1 n1_2 n1_3 n1_4 n1_5 n1_6 n1_7 n1_8 n1_9) (na10 n2_0 n2_1 n2_2 n2_3 n2_4 n2_5 n2_6 n2_7 n2_8 n2_9) (na10 n3_0 n3_1 n3_2 n3_3 n3_4 n3_5 n3_6 n3_7 n3_8 n3_9) (na10 n4_0 n4_1 n4_2 n4_3 n4_4 n4_5 n4_6 n4_7 n4_8 n4_9) (na10 n5_0 n5_1 n5_2 n5_3 n5_4 n5_5 n5_6 n5_7 n5_8 n5_9) (na10 n6_0 n6_1 n6_2 n6_3 n6_4 n6_5 n6_6 n6_7 n6_8 n6_9), ty := is7 (⟨b0.ha, b0.hn, b0.ht, b0.hm⟩) (⟨b1.ha, b1.hn, b1.ht, b1.hm⟩) (⟨b2.ha, b2.hn, b2.ht, b2.hm⟩) (⟨b3.ha, b3.hn, b3.ht, b3.hm⟩) (⟨b4.ha, b4.hn, b4.ht, b4.hm⟩) (⟨b5.ha, b5.hn, b5.ht, b5.hm⟩) (⟨b6.ha, b6.hn, b6.ht, b6.hm⟩), one := is7 (p := fun a => ∀ b, ((⟨cA, cB, cC, cD, cE, cF, cG⟩ : TC)).Is b → PySem.W.kitOne K (.ref a) (.ref b) = some (decide (a = b))) (is7 (C := (⟨cA, cB, cC, cD, cE, cF, cG⟩ : TC)) (p := fun b => PySem.W.kitOne K (.ref cA) (.ref b) = some (decide (cA = b))) (kit_me) (kit_no (ne_sub s0_0 s0_1) ic1 ti1 s0_1) (kit_no (ne_sub s0_0 s0_2) ic2 ti2 s0_2) (kit_no (ne_sub s0_0 s0_3) ic3 ti3 s0_3) (kit_no (ne_sub s0_0 s0_4) ic4 ti4 s0_4) (kit_no (ne_sub s0_0 s0_5) ic5 ti5 s0_5) (kit_no (ne_sub s0_0 s0_6) ic6 ti6 s0_6)) (is7 (C := (⟨cA, cB, cC, cD, cE, cF, cG⟩ : TC)) (p := fun b => PySem.W.kitOne K (.ref cB) (.ref b) = some (decide (cB = b))) (kit_no (ne_sub s1_1 s1_0) ic0 ti0 s1_0) (kit_me) (kit_no (ne_sub s1_1 s1_2) ic2 ti2 s1_2) (kit_no (ne_sub s1_1 s1_3) ic3 ti3 s1_3) (kit_no (ne_sub s1_1 s1_4) ic4 ti4 s1_4) (kit_no (ne_sub s1_1 s1_5) ic5 ti5 s1_5) (kit_no (ne_sub s1_1 s1_6) ic6 ti6 s1_6)) (is7 (C := (⟨cA, cB, cC, cD, cE, cF, cG⟩ : TC)) (p := fun b => PySem.W.kitOne K (.ref cC) (.ref b) = some (decide (cC = b))) (kit_no (ne_sub s2_2 s2_0) ic0 ti0 s2_0) (kit_no (ne_sub s2_2 s2_1) ic1 ti1 s2_1) (kit_me) (kit_no (ne_sub s2_2 s2_3) ic3 ti3 s2_3) (kit_no (ne_sub s2_2 s2_4) ic4 ti4 s2_4) (kit_no (ne_sub s2_2 s2_5) ic5 ti5 s2_5) (kit_no (ne_sub s2_2 s2_6) ic6 ti6 s2_6)) (is7 (C := (⟨cA, cB, cC, cD, cE, cF, cG⟩ : TC)) (p := fun b => PySem.W.kitOne K (.ref cD) (.ref b) = some (decide (cD = b))) (kit_no (ne_sub s3_3 s3_0) ic0 ti0 s3_0) (kit_no (ne_sub s3_3 s3_1) ic1 ti1 s3_1) (kit_no (ne_sub s3_3 s3_2) ic2 ti2 s3_2) (kit_me) (kit_no (ne_sub s3_3 s3_4) ic4 ti4 s3_4) (kit_no (ne_sub s3_3 s3_5) ic5 ti5 s3_5) (kit_no (ne_sub s3_3 s3_6) ic6 ti6 s3_6)) (is7 (C := (⟨cA, cB, cC, cD, cE, cF, cG⟩ : TC)) (p := fun b => PySem.W.kitOne K (.ref cE) (.ref b) = some (decide (cE = b))) (kit_no (ne_sub s4_4 s4_0) ic0 ti0 s4_0) (kit_no (ne_sub s4_4 s4_1) ic1 ti1 s4_1) (kit_no (ne_sub s4_4 s4_2) ic2 ti2 s4_2) (kit_no (ne_sub s4_4 s4_3) ic3 ti3 s4_3) (kit_me) (kit_no (ne_sub s4_4 s4_5) ic5 ti5 s4_5) (kit_no (ne_sub s4_4 s4_6) ic6 ti6 s4_6)) (is7 (C := (⟨cA, cB, cC, cD, cE, cF, cG⟩ : TC)) (p := fun b => PySem.W.kitOne K (.ref cF) (.ref b) = some (decide (cF = b))) (kit_no (ne_sub s5_5 s5_0) ic0 ti0 s5_0) (kit_no (ne_sub s5_5 s5_1) ic1 ti1 s5_1) (kit_no (ne_sub s5_5 s5_2) ic2 ti2 s5_2) (kit_no (ne_sub s5_5 s5_3) ic3 ti3 s5_3) (kit_no (ne_sub s5_5 s5_4) ic4 ti4 s5_4) (kit_me) (kit_no (ne_sub s5_5 s5_6) ic6 ti6 s5_6)) (is7 (C := (⟨cA, cB, cC, cD, cE, cF, cG⟩ : TC)) (p := fun b => PySem.W.kitOne K (.ref cG) (.ref b) = some (decide (cG = b))) (kit_no (ne_sub s6_6 s6_0) ic0 ti0 s6_0) (kit_no (ne_sub s6_6 s6_1) ic1 ti1 s6_1) (kit_no (ne_sub s6_6 s6_2) ic2 ti2 s6_2) (kit_no (ne_sub s6_6 s6_3) ic3 ti3 s6_3) (kit_no (ne_sub s6_6 s6_4) ic4 ti4 s6_4) (kit_no (ne_sub s6_6 s6_5) ic5 ti5 s6_5) (kit_me)) |> (fun h a b ha hb => h a ha b hb), Now := nm0, Last := nm1, Next := nm2, Shift := nm3, Either := nm4, Later := nm5, Earlier := nm6 }
  have DD : TD (⟨cA, cB, cC, cD, cE, cF, cG⟩ : TC) := ⟨by
    show [cA, cB, cC, cD, cE, cF, cG].Nodup
    simp only [List.nodup_cons, List.mem_cons, List.not_mem_nil, or_false, not_or, List.nodup_nil, and_true, not_false_eq_true]
    exact ⟨⟨(ne_sub s0_0 s0_1), (ne_sub s0_0 s0_2), (ne_sub s0_0 s0_3), (ne_sub s0_0 s0_4), (ne_sub s0_0 s0_5), (ne_sub s0_0 s0_6)⟩, ⟨(ne_sub s1_1 s1_2), (ne_sub s1_1 s1_3), (ne_sub s1_1 s1_4), (ne_sub s1_1 s1_5), (ne_sub s1_1 s1_6)⟩, ⟨(ne_sub s2_2 s2_3), (ne_sub s2_2 s2_4), (ne_sub s2_2 s2_5), (ne_sub s2_2 s2_6)⟩, ⟨(ne_sub s3_3 s3_4), (ne_sub s3_3 s3_5), (ne_sub s3_3 s3_6)⟩, ⟨(ne_sub s4_4 s4_5), (ne_sub s4_4 s4_6)⟩, (ne_sub s5_5 s5_6)⟩⟩
  have ANd : [aA, aB, aC, aD].Nodup := by
    simp only [List.nodup_cons, List.mem_cons, List.not_mem_nil, or_false, not_or, List.nodup_nil, and_true, not_false_eq_true]
    exact ⟨⟨(ne_sub as0_0 as0_1), (ne_sub as0_0 as0_2), (ne_sub as0_0 as0_3)⟩, ⟨(ne_sub as1_1 as1_2), (ne_sub as1_1 as1_3)⟩, (ne_sub as2_2 as2_3)⟩
  have AF0 : AF K mg (⟨aA, aB, aC, aD⟩ : AC) (⟨cA, cB, cC, cD, cE, cF, cG⟩ : TC) := { cl := is4 (acl0) (acl1) (acl2) (acl3), no := is4 (na5 an0_0 an0_1 an0_2 an0_3 an0_4) (na5 an1_0 an1_1 an1_2 an1_3 an1_4) (na5 an2_0 an2_1 an2_2 an2_3 an2_4) (na5 an3_0 an3_1 an3_2 an3_3 an3_4), ty := is4 (⟨ab0.ha, ab0.hn, ab0.ht, ab0.hm⟩) (⟨ab1.ha, ab1.hn, ab1.ht, ab1.hm⟩) (⟨ab2.ha, ab2.hn, ab2.ht, ab2.hm⟩) (⟨ab3.ha, ab3.hn, ab3.ht, ab3.hm⟩), one := (is4 (p := fun a => ∀ b, (⟨aA, aB, aC, aD⟩ : AC).Is b → PySem.W.kitOne K (.ref a) (.ref b) = some (decide (a = b))) (is4 (A := ⟨aA, aB, aC, aD⟩) (p := fun b => PySem.W.kitOne K (.ref aA) (.ref b) = some (decide (aA = b))) (kit_me) (kit_no (ne_sub as0_0 as0_1) aic1 ati1 as0_1) (kit_no (ne_sub as0_0 as0_2) aic2 ati2 as0_2) (kit_no (ne_sub as0_0 as0_3) aic3 ati3 as0_3)) (is4 (A := ⟨aA, aB, aC, aD⟩) (p := fun b => PySem.W.kitOne K (.ref aB) (.ref b) = some (decide (aB = b))) (kit_no (ne_sub as1_1 as1_0) aic0 ati0 as1_0) (kit_me) (kit_no (ne_sub as1_1 as1_2) aic2 ati2 as1_2) (kit_no (ne_sub as1_1 as1_3) aic3 ati3 as1_3)) (is4 (A := ⟨aA, aB, aC, aD⟩) (p := fun b => PySem.W.kitOne K (.ref aC) (.ref b) = some (decide (aC = b))) (kit_no (ne_sub as2_2 as2_0) aic0 ati0 as2_0) (kit_no (ne_sub as2_2 as2_1) aic1 ati1 as2_1) (kit_me) (kit_no (ne_sub as2_2 as2_3) aic3 ati3 as2_3)) (is4 (A := ⟨aA, aB, aC, aD⟩) (p := fun b => PySem.W.kitOne K (.ref aD) (.ref b) = some (decide (aD = b))) (kit_no (ne_sub as3_3 as3_0) aic0 ati0 as3_0) (kit_no (ne_sub as3_3 as3_1) aic1 ati1 as3_1) (kit_no (ne_sub as3_3 as3_2) aic2 ati2 as3_2) (kit_me))) |> (fun h a b ha hb => h a ha b hb), noT := (is4 (p := fun a => ∀ b, ((⟨cA, cB, cC, cD, cE, cF, cG⟩ : TC)).Is b → PySem.W.kitOne K (.ref a) (.ref b) = some false) (is7 (C := (⟨cA, cB, cC, cD, cE, cF, cG⟩ : TC)) (p := fun b => PySem.W.kitOne K (.ref aA) (.ref b) = some false) (kit_no0 (ne_sub as0_0 at0_0) ic0 ti0 at0_0) (kit_no0 (ne_sub as0_0 at0_1) ic1 ti1 at0_1) (kit_no0 (ne_sub as0_0 at0_2) ic2 ti2 at0_2) (kit_no0 (ne_sub as0_0 at0_3) ic3 ti3 at0_3) (kit_no0 (ne_sub as0_0 at0_4) ic4 ti4 at0_4) (kit_no0 (ne_sub as0_0 at0_5) ic5 ti5 at0_5) (kit_no0 (ne_sub as0_0 at0_6) ic6 ti6 at0_6)) (is7 (C := (⟨cA, cB, cC, cD, cE, cF, cG⟩ : TC)) (p := fun b => PySem.W.kitOne K (.ref aB) (.ref b) = some false) (kit_no0 (ne_sub as1_1 at1_0) ic0 ti0 at1_0) (kit_no0 (ne_sub as1_1 at1_1) ic1 ti1 at1_1) (kit_no0 (ne_sub as1_1 at1_2) ic2 ti2 at1_2) (kit_no0 (ne_sub as1_1 at1_3) ic3 ti3 at1_3) (kit_no0 (ne_sub as1_1 at1_4) ic4 ti4 at1_4) (kit_no0 (ne_sub as1_1 at1_5) ic5 ti5 at1_5) (kit_no0 (ne_sub as1_1 at1_6) ic6 ti6 at1_6)) (is7 (C := (⟨cA, cB, cC, cD, cE, cF, cG⟩ : TC)) (p := fun b => PySem.W.kitOne K (.ref aC) (.ref b) = some false) (kit_no0 (ne_sub as2_2 at2_0) ic0 ti0 at2_0) (kit_no0 (ne_sub as2_2 at2_1) ic1 ti1 at2_1) (kit_no0 (ne_sub as2_2 at2_2) ic2 ti2 at2_2) (kit_no0 (ne_sub as2_2 at2_3) ic3 ti3 at2_3) (kit_no0 (ne_sub as2_2 at2_4) ic4 ti4 at2_4) (kit_no0 (ne_sub as2_2 at2_5) ic5 ti5 at2_5) (kit_no0 (ne_sub as2_2 at2_6) ic6 ti6 at2_6)) (is7 (C := (⟨cA, cB, cC, cD, cE, cF, cG⟩ : TC)) (p := fun b => PySem.W.kitOne K (.ref aD) (.ref b) = some false) (kit_no0 (ne_sub as3_3 at3_0) ic0 ti0 at3_0) (kit_no0 (ne_sub as3_3 at3_1) ic1 ti1 at3_1) (kit_no0 (ne_sub as3_3 at3_2) ic2 ti2 at3_2) (kit_no0 (ne_sub as3_3 at3_3) ic3 ti3 at3_3) (kit_no0 (ne_sub as3_3 at3_4) ic4 ti4 at3_4) (kit_no0 (ne_sub as3_3 at3_5) ic5 ti5 at3_5) (kit_no0 (ne_sub as3_3 at3_6) ic6 ti6 at3_6))) |> (fun h a b ha hb => h a ha b hb), Number := anm0, Count := anm1, Total := anm2, Gap := anm3, nd := ANd }
  have OI : OpI K ((⟨cA, cB, cC, cD, cE, cF, cG⟩ : TC)).Is .Add fadd := { sf := is7 (sf0) (sf1) (sf2) (sf3) (sf4) (sf5) (sf6), at_ := is7 (at0) (at1) (at2) (at3) (at4) (at5) (at6), rt := is7 (rt0) (rt1) (rt2) (rt3) (rt4) (rt5) (rt6), fn := m_add.ex.choose_spec.1.fn, sub := is7 (si0) (si1) (si2) (si3) (si4) (si5) (si6), i1 := ⟨_, i1⟩, i2 := ⟨_, i2⟩ }
  have sub7 : ∀ a b, ((⟨cA, cB, cC, cD, cE, cF, cG⟩ : TC)).Is a → ((⟨cA, cB, cC, cD, cE, cF, cG⟩ : TC)).Is b → a ≠ b → PySem.W.subIn K (.ref b) (.ref a) = some false := fun a b ha hb => is7 (C := (⟨cA, cB, cC, cD, cE, cF, cG⟩ : TC)) (p := fun a => ∀ b, ((⟨cA, cB, cC, cD, cE, cF, cG⟩ : TC)).Is b → a ≠ b → PySem.W.subIn K (.ref b) (.ref a) = some false) (is7 (C := (⟨cA, cB, cC, cD, cE, cF, cG⟩ : TC)) (p := fun b => cA ≠ b → PySem.W.subIn K (.ref b) (.ref cA) = some false) (fun h => absurd rfl h) (fun _ => s1_0) (fun _ => s2_0) (fun _ => s3_0) (fun _ => s4_0) (fun _ => s5_0) (fun _ => s6_0)) (is7 (C := (⟨cA, cB, cC, cD, cE, cF, cG⟩ : TC)) (p := fun b => cB ≠ b → PySem.W.subIn K (.ref b) (.ref cB) = some false) (fun _ => s0_1) (fun h => absurd rfl h) (fun _ => s2_1) (fun _ => s3_1) (fun _ => s4_1) (fun _ => s5_1) (fun _ => s6_1)) (is7 (C := (⟨cA, cB, cC, cD, cE, cF, cG⟩ : TC)) (p := fun b => cC ≠ b → PySem.W.subIn K (.ref b) (.ref cC) = some false) (fun _ => s0_2) (fun _ => s1_2) (fun h => absurd rfl h) (fun _ => s3_2) (fun _ => s4_2) (fun _ => s5_2) (fun _ => s6_2)) (is7 (C := (⟨cA, cB, cC, cD, cE, cF, cG⟩ : TC)) (p := fun b => cD ≠ b → PySem.W.subIn K (.ref b) (.ref cD) = some false) (fun _ => s0_3) (fun _ => s1_3) (fun _ => s2_3) (fun h => absurd rfl h) (fun _ => s4_3) (fun _ => s5_3) (fun _ => s6_3)) (is7 (C := (⟨cA, cB, cC, cD, cE, cF, cG⟩ : TC)) (p := fun b => cE ≠ b → PySem.W.subIn K (.ref b) (.ref cE) = some false) (fun _ => s0_4) (fun _ => s1_4) (fun _ => s2_4) (fun _ => s3_4) (fun h => absurd rfl h) (fun _ => s5_4) (fun _ => s6_4)) (is7 (C := (⟨cA, cB, cC, cD, cE, cF, cG⟩ : TC)) (p := fun b => cF ≠ b → PySem.W.subIn K (.ref b) (.ref cF) = some false) (fun _ => s0_5) (fun _ => s1_5) (fun _ => s2_5) (fun _ => s3_5) (fun _ => s4_5) (fun h => absurd rfl h) (fun _ => s6_5)) (is7 (C := (⟨cA, cB, cC, cD, cE, cF, cG⟩ : TC)) (p := fun b => cG ≠ b → PySem.W.subIn K (.ref b) (.ref cG) = some false) (fun _ => s0_6) (fun _ => s1_6) (fun _ => s2_6) (fun _ => s3_6) (fun _ => s4_6) (fun _ => s5_6) (fun h => absurd rfl h)) a ha b hb
  have OO : OpF K ((⟨cA, cB, cC, cD, cE, cF, cG⟩ : TC)).Is .BitOr fior := { sf := is7 (sf0) (sf1) (sf2) (sf3) (sf4) (sf5) (sf6), at_ := is7 (or0) (or1) (or2) (or3) (or4) (or5) (or6), rt := is7 (ro0) (ro1) (ro2) (ro3) (ro4) (ro5) (ro6), fn := m_ior.ex.choose_spec.1.fn, sub := sub7 }
  have ML : MethF K ((⟨cA, cB, cC, cD, cE, cF, cG⟩ : TC)).Is "later" flat := { at_ := is7 (⟨cl0, la0⟩) (⟨cl1, la1⟩) (⟨cl2, la2⟩) (⟨cl3, la3⟩) (⟨cl4, la4⟩) (⟨cl5, la5⟩) (⟨cl6, la6⟩), fn := m_lat.ex.choose_spec.1.fn, kp := m_lat.ex.choose_spec.1.kp }
  have ME : MethF K ((⟨cA, cB, cC, cD, cE, cF, cG⟩ : TC)).Is "earlier" fear := { at_ := is7 (⟨cl0, ea0⟩) (⟨cl1, ea1⟩) (⟨cl2, ea2⟩) (⟨cl3, ea3⟩) (⟨cl4, ea4⟩) (⟨cl5, ea5⟩) (⟨cl6, ea6⟩), fn := m_ear.ex.choose_spec.1.fn, kp := m_ear.ex.choose_spec.1.kp }
  have c_is_integer := cal_of (P := P) (w := w) (base := base) (ps := ["thing"]) d_is_integer (fun _ _ _ _ _ _ us hl => match us, hl with | [_], _ => rfl) fun f fd F => ok_is_integer F B
  have k1 : K1 P w K mg base := ⟨c_is_integer⟩
  have c_is_natural := cal_of (P := P) (w := w) (base := base) (ps := ["thing"]) d_is_natural (fun _ _ _ _ _ _ us hl => match us, hl with | [_], _ => rfl) fun f fd F => ok_is_natural F B k1
  have c_is_name := cal_of (P := P) (w := w) (base := base) (ps := ["thing"]) d_is_name (fun _ _ _ _ _ _ us hl => match us, hl with | [_], _ => rfl) fun f fd F => ok_is_name F B Cs
  have k2 : K2 P w K mg base := ⟨k1, c_is_natural, c_is_name⟩
  have c_are_integers := cal_of (P := P) (w := w) (base := base) (ps := ["things"]) d_are_integers (fun _ _ _ _ _ _ us hl => match us, hl with | [_], _ => rfl) fun f fd F => ok_are_integers F B k2
  have c_is_row := cal_of (P := P) (w := w) (base := base) (ps := ["thing"]) d_is_row (fun _ _ _ _ _ _ us hl => match us, hl with | [_], _ => rfl) fun f fd F => ok_is_row F B
  have k3 : K3 P w K mg base := ⟨k2, c_are_integers, c_is_row⟩
  have c_are_rows := cal_of (P := P) (w := w) (base := base) (ps := ["things"]) d_are_rows (fun _ _ _ _ _ _ us hl => match us, hl with | [_], _ => rfl) fun f fd F => ok_are_rows F B k3
  have c_first_twice := cal_of (P := P) (w := w) (base := base) (ps := ["numbers"]) d_first_twice (fun _ _ _ _ _ _ us hl => match us, hl with | [_], _ => rfl) fun f fd F => ok_twice F B
  have w1 : W1 P w K mg base := ⟨k3, c_are_rows, c_first_twice⟩
  have c_is_rows := cal_of (P := P) (w := w) (base := base) (ps := ["thing"]) d_is_rows (fun _ _ _ _ _ _ us hl => match us, hl with | [_], _ => rfl) fun f fd F => ok_is_rows F B w1
  have w2 : W2 P w K mg base := ⟨w1, c_is_rows⟩
  obtain ⟨fWI, fdWI, mWI, FWI⟩ := m_WI.ex
  have bWI : Binds K fdWI ["self", "rows"] [] := FWI.binds (ps := ["self", "rows"]) fun _ _ _ _ _ _ us hl => match us, hl with | [_, _], _ => rfl
  have oWI := ok_world_init (P := P) (w := w) (base := base) FWI B Cs TW w2
  obtain ⟨fWR, fdWR, mWR, FWR⟩ := m_WR.ex
  have bWR : Binds K fdWR ["self", "stream"] [] := FWR.binds (ps := ["self", "stream"]) fun _ _ _ _ _ _ us hl => match us, hl with | [_, _], _ => rfl
  have oWR := ok_world_rows (P := P) (w := w) (base := base) FWR B TW k2
  have c_is_term := cal_of (P := P) (w := w) (base := base) (ps := ["thing"]) d_is_term (fun _ _ _ _ _ _ us hl => match us, hl with | [_], _ => rfl) fun f fd F => ok_is_term F B TT
  have c_is_look := cal_of (P := P) (w := w) (base := base) (ps := ["thing"]) d_is_look (fun _ _ _ _ _ _ us hl => match us, hl with | [_], _ => rfl) fun f fd F => ok_is_look F B TT DD
  have t1 : T1 P w K mg base (⟨cA, cB, cC, cD, cE, cF, cG⟩ : TC) := ⟨w2, c_is_term, c_is_look⟩
  have c_checked_stream := cal_of (P := P) (w := w) (base := base) (ps := ["stream"]) d_checked_stream (fun _ _ _ _ _ _ us hl => match us, hl with | [_], _ => rfl) fun f fd F => ok_cstream F B t1
  have c_checked_term := cal_of (P := P) (w := w) (base := base) (ps := ["term"]) d_checked_term (fun _ _ _ _ _ _ us hl => match us, hl with | [_], _ => rfl) fun f fd F => ok_cterm F B t1
  have c_sizes := cal_of (P := P) (w := w) (base := base) (ps := ["children", "looks", "choices"]) d_sizes (fun _ _ _ _ _ _ us hl => match us, hl with | [_, _, _], _ => rfl) fun f fd F => ok_sizes F B Cs TT
  have t2 : T2 P w K mg base (⟨cA, cB, cC, cD, cE, cF, cG⟩ : TC) := ⟨t1, c_checked_stream, c_checked_term, c_sizes⟩
  obtain ⟨fNI, fdNI, mNI, FNI⟩ := m_NI.ex
  have bNI : Binds K fdNI ["self"] [] := FNI.binds (ps := ["self"]) fun _ _ _ _ _ _ us hl => match us, hl with | [_], _ => rfl
  have oNI := ok_now (P := P) (w := w) (base := base) FNI B TT t2
  obtain ⟨fLI, fdLI, mLI, FLI⟩ := m_LI.ex
  have bLI : Binds K fdLI ["self", "stream", "term"] [] := FLI.binds (ps := ["self", "stream", "term"]) fun _ _ _ _ _ _ us hl => match us, hl with | [_, _, _], _ => rfl
  have oLI := ok_last (P := P) (w := w) (base := base) FLI B TT t2
  obtain ⟨fXI, fdXI, mXI, FXI⟩ := m_XI.ex
  have bXI : Binds K fdXI ["self", "stream", "term"] [] := FXI.binds (ps := ["self", "stream", "term"]) fun _ _ _ _ _ _ us hl => match us, hl with | [_, _, _], _ => rfl
  have oXI := ok_next (P := P) (w := w) (base := base) FXI B TT t2
  obtain ⟨fSI, fdSI, mSI, FSI⟩ := m_SI.ex
  have bSI : Binds K fdSI ["self", "term", "amount"] [] := FSI.binds (ps := ["self", "term", "amount"]) fun _ _ _ _ _ _ us hl => match us, hl with | [_, _, _], _ => rfl
  have oSI := ok_shift (P := P) (w := w) (base := base) FSI B TT t2
  obtain ⟨fEI, fdEI, mEI, FEI⟩ := m_EI.ex
  have bEI : Binds K fdEI ["self", "first", "second"] [] := FEI.binds (ps := ["self", "first", "second"]) fun _ _ _ _ _ _ us hl => match us, hl with | [_, _, _], _ => rfl
  have oEI := ok_either (P := P) (w := w) (base := base) FEI B TT t2
  obtain ⟨fJI, fdJI, mJI, FJI⟩ := m_JI.ex
  have bJI : Binds K fdJI ["self", "first", "second"] [] := FJI.binds (ps := ["self", "first", "second"]) fun _ _ _ _ _ _ us hl => match us, hl with | [_, _, _], _ => rfl
  have oJI := ok_later (P := P) (w := w) (base := base) FJI B TT t2
  obtain ⟨fKI, fdKI, mKI, FKI⟩ := m_KI.ex
  have bKI : Binds K fdKI ["self", "first", "second"] [] := FKI.binds (ps := ["self", "first", "second"]) fun _ _ _ _ _ _ us hl => match us, hl with | [_, _, _], _ => rfl
  have oKI := ok_earlier (P := P) (w := w) (base := base) FKI B TT t2
  have t3 : T3s P w K mg base (⟨cA, cB, cC, cD, cE, cF, cG⟩ : TC) CW := ⟨t2, ⟨fSI, fdSI, ⟨mk3, mSI.at_, mSI.fn, kp3⟩, nm3, bSI, oSI⟩, ⟨fWR, fdWR, mWR, bWR, oWR⟩⟩
  have c_shifted := cal_of (P := P) (w := w) (base := base) (ps := ["term", "amount"]) d_shifted (fun _ _ _ _ _ _ us hl => match us, hl with | [_, _], _ => rfl) fun f fd F => ok_shifted F B TT DD t3
  have c_last_row := cal_of (P := P) (w := w) (base := base) (ps := ["world", "stream", "moment"]) d_last_row (fun _ _ _ _ _ _ us hl => match us, hl with | [_, _, _], _ => rfl) fun f fd F => ok_lastrow F B TW t3
  have c_next_row := cal_of (P := P) (w := w) (base := base) (ps := ["world", "stream", "moment"]) d_next_row (fun _ _ _ _ _ _ us hl => match us, hl with | [_, _, _], _ => rfl) fun f fd F => ok_nextrow F B TW t3
  have a1 : A1 P w K mg base (⟨cA, cB, cC, cD, cE, cF, cG⟩ : TC) CW := ⟨t3, c_last_row, c_next_row⟩
  have fo := fol_all B Cs TT DD a1 d_moved d_looked d_followed_either d_followed_both d_followed 12
  have c_is_amount := cal_of (P := P) (w := w) (base := base) (ps := ["thing"]) d_is_amount (fun _ _ _ _ _ _ us hl => match us, hl with | [_], _ => rfl) fun f fd F => ok_isam F B AF0
  have c_lookedA := cal_of (P := P) (w := w) (base := base) (ps := ["question", "world", "now", "place"]) d_looked (fun _ _ _ _ _ _ us hl => match us, hl with | [_, _, _, _], _ => rfl) fun f fd F => ok_lookedA F B TT AF0 fo
  have c_told_between := cal_of (P := P) (w := w) (base := base) (ps := ["question", "world", "now"]) d_told_between (fun _ _ _ _ _ _ us hl => match us, hl with | [_, _, _], _ => rfl) fun f fd F => ok_told F B TT AF0 TW fo
  have u0 : U0 P w K mg base (⟨aA, aB, aC, aD⟩ : AC) (⟨cA, cB, cC, cD, cE, cF, cG⟩ : TC) CW := ⟨fo, c_is_amount, c_lookedA, c_told_between⟩
  have c_is_question := cal_of (P := P) (w := w) (base := base) (ps := ["thing"]) d_is_question (fun _ _ _ _ _ _ us hl => match us, hl with | [_], _ => rfl) fun f fd F => ok_isq F B AF0 u0
  have u1 : U1 P w K mg base (⟨aA, aB, aC, aD⟩ : AC) (⟨cA, cB, cC, cD, cE, cF, cG⟩ : TC) CW := ⟨u0, c_is_question⟩
  have c_check := cal_of (P := P) (w := w) (base := base) (ps := ["question", "world", "now"]) d_check (fun _ _ _ _ _ _ us hl => match us, hl with | [_, _, _], _ => rfl) fun f fd F => ok_check F B TW wi u1
  have c_answered := cal_of (P := P) (w := w) (base := base) (ps := ["question", "world", "now"]) d_answered (fun _ _ _ _ _ _ us hl => match us, hl with | [_, _, _], _ => rfl) fun f fd F => ok_answered F B Cs AF0 u1
  have u2 : U2 P w K mg base (⟨aA, aB, aC, aD⟩ : AC) (⟨cA, cB, cC, cD, cE, cF, cG⟩ : TC) CW := ⟨u1, c_check, c_answered⟩
  have c_value := cal_of (P := P) (w := w) (base := base) (ps := ["question", "world", "now"]) d_value (fun _ _ _ _ _ _ us hl => match us, hl with | [_, _, _], _ => rfl) fun f fd F => ok_value F B u2
  have v3 : V3 P w K mg base (⟨cA, cB, cC, cD, cE, cF, cG⟩ : TC) CW := ⟨fo, c_shifted⟩
  have v4 : V4 P w K mg base (⟨cA, cB, cC, cD, cE, cF, cG⟩ : TC) CW := ⟨v3, ⟨fEI, fdEI, ⟨mk4, mEI.at_, mEI.fn, kp4⟩, nm4, bEI, oEI⟩, ⟨fJI, fdJI, ⟨mk5, mJI.at_, mJI.fn, kp5⟩, nm5, bJI, oJI⟩, ⟨fKI, fdKI, ⟨mk6, mKI.at_, mKI.fn, kp6⟩, nm6, bKI, oKI⟩⟩
  obtain ⟨fdadd, madd, Fadd⟩ := m_add.ex
  have badd : Binds K fdadd ["self", "other"] [] := Fadd.binds (ps := ["self", "other"]) fun _ _ _ _ _ _ us hl => match us, hl with | [_, _], _ => rfl
  have oAdd := ok_tadd (P := P) (w := w) (base := base) Fadd B v3
  obtain ⟨fdior, mior, Fior⟩ := m_ior.ex
  have bior : Binds K fdior ["self", "other"] [] := Fior.binds (ps := ["self", "other"]) fun _ _ _ _ _ _ us hl => match us, hl with | [_, _], _ => rfl
  have oOr := ok_tor (P := P) (w := w) (base := base) Fior B v4
  obtain ⟨fdlat, mlat, Flat⟩ := m_lat.ex
  have blat : Binds K fdlat ["self", "other"] [] := Flat.binds (ps := ["self", "other"]) fun _ _ _ _ _ _ us hl => match us, hl with | [_, _], _ => rfl
  have oLat := ok_tlater (P := P) (w := w) (base := base) Flat B v4
  obtain ⟨fdear, mear, Fear⟩ := m_ear.ex
  have bear : Binds K fdear ["self", "other"] [] := Fear.binds (ps := ["self", "other"]) fun _ _ _ _ _ _ us hl => match us, hl with | [_, _], _ => rfl
  have oEar := ok_tearlier (P := P) (w := w) (base := base) Fear B v4
  have c__law_pool := cal_of (P := P) (w := w) (base := base) (ps := ["script"]) d__law_pool (fun _ _ _ _ _ _ us hl => match us, hl with | [_], _ => rfl) fun f fd F => ok_pool F B
  have c__law_draw := cal_of (P := P) (w := w) (base := base) (ps := ["pool", "many"]) d__law_draw (fun _ _ _ _ _ _ us hl => match us, hl with | [_, _], _ => rfl) fun f fd F => ok_draw F B
  have g1 : G1 P w K mg base := ⟨c__law_draw⟩
  have c__law_names := cal_of (P := P) (w := w) (base := base) (ps := ["pool", "many"]) d__law_names (fun _ _ _ _ _ _ us hl => match us, hl with | [_, _], _ => rfl) fun f fd F => ok_names F B g1
  have c__law_moment := cal_of (P := P) (w := w) (base := base) (ps := ["pool"]) d__law_moment (fun _ _ _ _ _ _ us hl => match us, hl with | [_], _ => rfl) fun f fd F => ok_moment F B g1
  have g2 : G2w P w K mg base := ⟨g1, c__law_moment⟩
  have c__law_rows := cal_of (P := P) (w := w) (base := base) (ps := ["pool", "streams", "many"]) d__law_rows (fun _ _ _ _ _ _ us hl => match us, hl with | [_, _, _], _ => rfl) fun f fd F => ok_wrows F B g2
  have ops : Ops P w K mg base (⟨cA, cB, cC, cD, cE, cF, cG⟩ : TC) := ⟨⟨_, _, OI, oAdd, badd⟩, ⟨_, _, OO, oOr, bior⟩, ⟨_, _, ML, oLat, blat⟩, ⟨_, _, ME, oEar, bear⟩⟩
  have b0 : B0 P w K mg base (⟨cA, cB, cC, cD, cE, cF, cG⟩ : TC) := ⟨⟨fNI, fdNI, ⟨mk0, mNI.at_, mNI.fn, kp0⟩, nm0, bNI, oNI⟩, ⟨fLI, fdLI, ⟨mk1, mLI.at_, mLI.fn, kp1⟩, nm1, bLI, oLI⟩, ⟨fXI, fdXI, ⟨mk2, mXI.at_, mXI.fn, kp2⟩, nm2, bXI, oXI⟩⟩
  obtain ⟨fnuI, fdnuI, mnuI, FnuI⟩ := m_nuI.ex
  have bnuI : Binds K fdnuI ["self", "stream", "term"] [] := FnuI.binds (ps := ["self", "stream", "term"]) fun _ _ _ _ _ _ us hl => match us, hl with | [_, _, _], _ => rfl
  have oNu := ok_number (P := P) (w := w) (base := base) FnuI B TT AF0 t2
  obtain ⟨fcoI, fdcoI, mcoI, FcoI⟩ := m_coI.ex
  have bcoI : Binds K fdcoI ["self", "stream", "first", "last"] [] := FcoI.binds (ps := ["self", "stream", "first", "last"]) fun _ _ _ _ _ _ us hl => match us, hl with | [_, _, _, _], _ => rfl
  have oCo := ok_count (P := P) (w := w) (base := base) FcoI B TT AF0 t2
  obtain ⟨ftoI, fdtoI, mtoI, FtoI⟩ := m_toI.ex
  have btoI : Binds K fdtoI ["self", "stream", "first", "last"] [] := FtoI.binds (ps := ["self", "stream", "first", "last"]) fun _ _ _ _ _ _ us hl => match us, hl with | [_, _, _, _], _ => rfl
  have oTo := ok_total (P := P) (w := w) (base := base) FtoI B TT AF0 t2
  obtain ⟨fgaI, fdgaI, mgaI, FgaI⟩ := m_gaI.ex
  have bgaI : Binds K fdgaI ["self", "first", "last"] [] := FgaI.binds (ps := ["self", "first", "last"]) fun _ _ _ _ _ _ us hl => match us, hl with | [_, _, _], _ => rfl
  have oGa := ok_gap (P := P) (w := w) (base := base) FgaI B TT AF0 t2
  have c_support := cal_of (P := P) (w := w) (base := base) (ps := ["question", "world", "now"]) d_support (fun _ _ _ _ _ _ us hl => match us, hl with | [_, _, _], _ => rfl) fun f fd F => ok_support F B u2
  have mkWo : Mak P w K mg base CX0 "World" CW 5 ["self", "rows"] (spWorldInit CW) := ⟨fWI, fdWI, ⟨mkW, mWI.at_, mWI.fn, kW⟩, TW.c, bWI, oWI⟩
  have gq : Gq P w K mg base 3 := ⟨g2, (lterm_all B g2 d__law_term 4).law_term, (lterm_all B g2 d__law_term 3).law_term⟩
  have ga : Ga P w K mg base (⟨aA, aB, aC, aD⟩ : AC) (⟨cA, cB, cC, cD, cE, cF, cG⟩ : TC) := ⟨built_all B b0 ops d__law_built 12, ⟨fnuI, fdnuI, ⟨amk0, mnuI.at_, mnuI.fn, akp0⟩, anm0, bnuI, oNu⟩, ⟨fcoI, fdcoI, ⟨amk1, mcoI.at_, mcoI.fn, akp1⟩, anm1, bcoI, oCo⟩, ⟨ftoI, fdtoI, ⟨amk2, mtoI.at_, mtoI.fn, akp2⟩, anm2, btoI, oTo⟩, ⟨fgaI, fdgaI, ⟨amk3, mgaI.at_, mgaI.fn, akp3⟩, anm3, bgaI, oGa⟩⟩
  have c__law_question := cal_of (P := P) (w := w) (base := base) (ps := ["pool", "streams", "depth"]) d__law_question (fun _ _ _ _ _ _ us hl => match us, hl with | [_, _, _], _ => rfl) fun f fd F => ok_lquest F B gq
  have c__law_asked := cal_of (P := P) (w := w) (base := base) (ps := ["model"]) d__law_asked (fun _ _ _ _ _ _ us hl => match us, hl with | [_], _ => rfl) fun f fd F => ok_lasked F B ga
  have c__law_same := cal_of (P := P) (w := w) (base := base) (ps := ["told", "due"]) d__law_same (fun _ _ _ _ _ _ us hl => match us, hl with | [_, _], _ => rfl) fun f fd F => ok_same F B
  have c__law_last := cal_of (P := P) (w := w) (base := base) (ps := ["rows", "moment"]) d__law_last (fun _ _ _ _ _ _ us hl => match us, hl with | [_, _], _ => rfl) fun f fd F => ok_llast F B
  have c__law_next := cal_of (P := P) (w := w) (base := base) (ps := ["rows", "moment"]) d__law_next (fun _ _ _ _ _ _ us hl => match us, hl with | [_, _], _ => rfl) fun f fd F => ok_lnext F B
  have ga0 : GA0 P w K mg base := ⟨c__law_last, c__law_next⟩
  have c__law_told := cal_of (P := P) (w := w) (base := base) (ps := ["model", "rows", "now", "seen"]) d__law_told (fun _ _ _ _ _ _ us hl => match us, hl with | [_, _, _, _], _ => rfl) fun f fd F => ok_ltold F B (lans_all B ga0 d__law_answer 12)
  have gi : Gi P w K mg base (⟨aA, aB, aC, aD⟩ : AC) (⟨cA, cB, cC, cD, cE, cF, cG⟩ : TC) CW := ⟨c__law_told, c__law_same, c_value, c_support, mkWo⟩
  have c__law_is_told := cal_of (P := P) (w := w) (base := base) (ps := ["model", "question", "rows", "now"]) d__law_is_told (fun _ _ _ _ _ _ us hl => match us, hl with | [_, _, _, _], _ => rfl) fun f fd F => ok_listold F B gi
  have c__law_without := cal_of (P := P) (w := w) (base := base) (ps := ["rows", "streams", "ids"]) d__law_without (fun _ _ _ _ _ _ us hl => match us, hl with | [_, _, _], _ => rfl) fun f fd F => ok_lwithout F B
  have gd : GD P w K mg base := ⟨g2, (lterm_all B g2 d__law_term 2).law_term⟩
  have c__law_deep := cal_of (P := P) (w := w) (base := base) (ps := ["pool", "streams", "many"]) d__law_deep (fun _ _ _ _ _ _ us hl => match us, hl with | [_, _, _], _ => rfl) fun f fd F => ok_ldeep F B gd
  have gl : L14 P w K mg base (⟨aA, aB, aC, aD⟩ : AC) (⟨cA, cB, cC, cD, cE, cF, cG⟩ : TC) CW := ⟨c__law_pool, c__law_draw, c__law_names, c__law_moment, c__law_rows, c__law_question, c__law_deep, c__law_asked, c_value, c_support, c__law_is_told, c__law_without, mkWo⟩
  exact ok_law F_law B nrev gl
end
theorem all_mk {P : Program} {w : World} {K : PySem.W.Frag} {h : Heap} {mg : Str → Option Value} {fa CW cA cB cC cD cE cF cG aA aB aC aD fadd fior flat fear f4 : Addr} {oc4 kV4 dc4 pm4 cd4 ct4 : Value} {od4 an4 : Option Addr} {sl4 : Array (Option Value)} (X : K.In h) (G : h.Ns mainGlobals mg) (hfa : mg "law" = some (.ref fa))
    (a4 : PySem.W.nsIn K mainGlobals "law" = some (some (.ref f4))) (l4 : K.lookup f4 = some ⟨oc4, od4, .func (PySem.W.fnOf "law" "law" (defArgs s_law) (defBody s_law) (defScope s_law) .none kV4 dc4 pm4 an4 cd4 ct4), sl4⟩) (c4 : PySem.W.codeIn K cd4 "law" = true) (k4 : PySem.W.keepIn K (.ref f4) = true)
    (nrev : mg "reversed" = none)
    (B : Blt mg)
    (Cs : Cst mg)
    (TW : Cw K mg CW)
    (wi : BkI K CW)
    (mkW : PySem.W.makesIn K CW = true)
    (kW : PySem.W.keepIn K (.ref CW) = true)
    (nm0 : mg "Now" = some (.ref cA))
    (cl0 : Cls K cA)
    (b0 : BkI K cA)
    (ic0 : PySem.W.isClsIn K cA = true)
    (ti0 : PySem.W.typeIn K (.ref cA) = some (.type "type"))
    (sf0 : PySem.W.selfFirst K cA = true)
    (at0 : PySem.W.findIn K (.ref cA) "__add__" = some (some (.ref fadd)))
    (rt0 : PySem.W.findIn K (.ref cA) "__radd__" = some none)
    (si0 : PySem.W.subIn K (.type "int") (.ref cA) = some false)
    (or0 : PySem.W.findIn K (.ref cA) "__or__" = some (some (.ref fior)))
    (ro0 : PySem.W.findIn K (.ref cA) "__ror__" = some none)
    (la0 : PySem.W.findIn K (.ref cA) "later" = some (some (.ref flat)))
    (ea0 : PySem.W.findIn K (.ref cA) "earlier" = some (some (.ref fear)))
    (n0_0 : NoAttr K cA "stream")
    (n0_1 : NoAttr K cA "term")
    (n0_2 : NoAttr K cA "first")
    (n0_3 : NoAttr K cA "second")
    (n0_4 : NoAttr K cA "amount")
    (n0_5 : NoAttr K cA "spelling")
    (n0_6 : NoAttr K cA "depth")
    (n0_7 : NoAttr K cA "parts")
    (n0_8 : NoAttr K cA "looks")
    (n0_9 : NoAttr K cA "choices")
    (s0_0 : PySem.W.subIn K (.ref cA) (.ref cA) = some true)
    (s0_1 : PySem.W.subIn K (.ref cA) (.ref cB) = some false)
    (s0_2 : PySem.W.subIn K (.ref cA) (.ref cC) = some false)
    (s0_3 : PySem.W.subIn K (.ref cA) (.ref cD) = some false)
    (s0_4 : PySem.W.subIn K (.ref cA) (.ref cE) = some false)
    (s0_5 : PySem.W.subIn K (.ref cA) (.ref cF) = some false)
    (s0_6 : PySem.W.subIn K (.ref cA) (.ref cG) = some false)
    (nm1 : mg "Last" = some (.ref cB))
    (cl1 : Cls K cB)
    (b1 : BkI K cB)
    (ic1 : PySem.W.isClsIn K cB = true)
    (ti1 : PySem.W.typeIn K (.ref cB) = some (.type "type"))
    (sf1 : PySem.W.selfFirst K cB = true)
    (at1 : PySem.W.findIn K (.ref cB) "__add__" = some (some (.ref fadd)))
    (rt1 : PySem.W.findIn K (.ref cB) "__radd__" = some none)
    (si1 : PySem.W.subIn K (.type "int") (.ref cB) = some false)
    (or1 : PySem.W.findIn K (.ref cB) "__or__" = some (some (.ref fior)))
    (ro1 : PySem.W.findIn K (.ref cB) "__ror__" = some none)
    (la1 : PySem.W.findIn K (.ref cB) "later" = some (some (.ref flat)))
    (ea1 : PySem.W.findIn K (.ref cB) "earlier" = some (some (.ref fear)))
    (n1_0 : NoAttr K cB "stream")
    (n1_1 : NoAttr K cB "term")
    (n1_2 : NoAttr K cB "first")
    (n1_3 : NoAttr K cB "second")
    (n1_4 : NoAttr K cB "amount")
    (n1_5 : NoAttr K cB "spelling")
    (n1_6 : NoAttr K cB "depth")
    (n1_7 : NoAttr K cB "parts")
    (n1_8 : NoAttr K cB "looks")
    (n1_9 : NoAttr K cB "choices")
    (s1_0 : PySem.W.subIn K (.ref cB) (.ref cA) = some false)
    (s1_1 : PySem.W.subIn K (.ref cB) (.ref cB) = some true)
    (s1_2 : PySem.W.subIn K (.ref cB) (.ref cC) = some false)
    (s1_3 : PySem.W.subIn K (.ref cB) (.ref cD) = some false)
    (s1_4 : PySem.W.subIn K (.ref cB) (.ref cE) = some false)
    (s1_5 : PySem.W.subIn K (.ref cB) (.ref cF) = some false)
    (s1_6 : PySem.W.subIn K (.ref cB) (.ref cG) = some false)
    (nm2 : mg "Next" = some (.ref cC))
    (cl2 : Cls K cC)
    (b2 : BkI K cC)
    (ic2 : PySem.W.isClsIn K cC = true)
    (ti2 : PySem.W.typeIn K (.ref cC) = some (.type "type"))
    (sf2 : PySem.W.selfFirst K cC = true)
    (at2 : PySem.W.findIn K (.ref cC) "__add__" = some (some (.ref fadd)))
    (rt2 : PySem.W.findIn K (.ref cC) "__radd__" = some none)
    (si2 : PySem.W.subIn K (.type "int") (.ref cC) = some false)
    (or2 : PySem.W.findIn K (.ref cC) "__or__" = some (some (.ref fior)))
    (ro2 : PySem.W.findIn K (.ref cC) "__ror__" = some none)
    (la2 : PySem.W.findIn K (.ref cC) "later" = some (some (.ref flat)))
    (ea2 : PySem.W.findIn K (.ref cC) "earlier" = some (some (.ref fear)))
    (n2_0 : NoAttr K cC "stream")
    (n2_1 : NoAttr K cC "term")
    (n2_2 : NoAttr K cC "first")
    (n2_3 : NoAttr K cC "second")
    (n2_4 : NoAttr K cC "amount")
    (n2_5 : NoAttr K cC "spelling")
    (n2_6 : NoAttr K cC "depth")
    (n2_7 : NoAttr K cC "parts")
    (n2_8 : NoAttr K cC "looks")
    (n2_9 : NoAttr K cC "choices")
    (s2_0 : PySem.W.subIn K (.ref cC) (.ref cA) = some false)
    (s2_1 : PySem.W.subIn K (.ref cC) (.ref cB) = some false)
    (s2_2 : PySem.W.subIn K (.ref cC) (.ref cC) = some true)
    (s2_3 : PySem.W.subIn K (.ref cC) (.ref cD) = some false)
    (s2_4 : PySem.W.subIn K (.ref cC) (.ref cE) = some false)
    (s2_5 : PySem.W.subIn K (.ref cC) (.ref cF) = some false)
    (s2_6 : PySem.W.subIn K (.ref cC) (.ref cG) = some false)
    (nm3 : mg "Shift" = some (.ref cD))
    (cl3 : Cls K cD)
    (b3 : BkI K cD)
    (ic3 : PySem.W.isClsIn K cD = true)
    (ti3 : PySem.W.typeIn K (.ref cD) = some (.type "type"))
    (sf3 : PySem.W.selfFirst K cD = true)
    (at3 : PySem.W.findIn K (.ref cD) "__add__" = some (some (.ref fadd)))
    (rt3 : PySem.W.findIn K (.ref cD) "__radd__" = some none)
    (si3 : PySem.W.subIn K (.type "int") (.ref cD) = some false)
    (or3 : PySem.W.findIn K (.ref cD) "__or__" = some (some (.ref fior)))
    (ro3 : PySem.W.findIn K (.ref cD) "__ror__" = some none)
    (la3 : PySem.W.findIn K (.ref cD) "later" = some (some (.ref flat)))
    (ea3 : PySem.W.findIn K (.ref cD) "earlier" = some (some (.ref fear)))
    (n3_0 : NoAttr K cD "stream")
    (n3_1 : NoAttr K cD "term")
    (n3_2 : NoAttr K cD "first")
    (n3_3 : NoAttr K cD "second")
    (n3_4 : NoAttr K cD "amount")
    (n3_5 : NoAttr K cD "spelling")
    (n3_6 : NoAttr K cD "depth")
    (n3_7 : NoAttr K cD "parts")
    (n3_8 : NoAttr K cD "looks")
    (n3_9 : NoAttr K cD "choices")
    (s3_0 : PySem.W.subIn K (.ref cD) (.ref cA) = some false)
    (s3_1 : PySem.W.subIn K (.ref cD) (.ref cB) = some false)
    (s3_2 : PySem.W.subIn K (.ref cD) (.ref cC) = some false)
    (s3_3 : PySem.W.subIn K (.ref cD) (.ref cD) = some true)
    (s3_4 : PySem.W.subIn K (.ref cD) (.ref cE) = some false)
    (s3_5 : PySem.W.subIn K (.ref cD) (.ref cF) = some false)
    (s3_6 : PySem.W.subIn K (.ref cD) (.ref cG) = some false)
    (nm4 : mg "Either" = some (.ref cE))
    (cl4 : Cls K cE)
    (b4 : BkI K cE)
    (ic4 : PySem.W.isClsIn K cE = true)
    (ti4 : PySem.W.typeIn K (.ref cE) = some (.type "type"))
    (sf4 : PySem.W.selfFirst K cE = true)
    (at4 : PySem.W.findIn K (.ref cE) "__add__" = some (some (.ref fadd)))
    (rt4 : PySem.W.findIn K (.ref cE) "__radd__" = some none)
    (si4 : PySem.W.subIn K (.type "int") (.ref cE) = some false)
    (or4 : PySem.W.findIn K (.ref cE) "__or__" = some (some (.ref fior)))
    (ro4 : PySem.W.findIn K (.ref cE) "__ror__" = some none)
    (la4 : PySem.W.findIn K (.ref cE) "later" = some (some (.ref flat)))
    (ea4 : PySem.W.findIn K (.ref cE) "earlier" = some (some (.ref fear)))
    (n4_0 : NoAttr K cE "stream")
    (n4_1 : NoAttr K cE "term")
    (n4_2 : NoAttr K cE "first")
    (n4_3 : NoAttr K cE "second")
    (n4_4 : NoAttr K cE "amount")
    (n4_5 : NoAttr K cE "spelling")
    (n4_6 : NoAttr K cE "depth")
    (n4_7 : NoAttr K cE "parts")
    (n4_8 : NoAttr K cE "looks")
    (n4_9 : NoAttr K cE "choices")
    (s4_0 : PySem.W.subIn K (.ref cE) (.ref cA) = some false)
    (s4_1 : PySem.W.subIn K (.ref cE) (.ref cB) = some false)
    (s4_2 : PySem.W.subIn K (.ref cE) (.ref cC) = some false)
    (s4_3 : PySem.W.subIn K (.ref cE) (.ref cD) = some false)
    (s4_4 : PySem.W.subIn K (.ref cE) (.ref cE) = some true)
    (s4_5 : PySem.W.subIn K (.ref cE) (.ref cF) = some false)
    (s4_6 : PySem.W.subIn K (.ref cE) (.ref cG) = some false)
    (nm5 : mg "Later" = some (.ref cF))
    (cl5 : Cls K cF)
    (b5 : BkI K cF)
    (ic5 : PySem.W.isClsIn K cF = true)
    (ti5 : PySem.W.typeIn K (.ref cF) = some (.type "type"))
    (sf5 : PySem.W.selfFirst K cF = true)
    (at5 : PySem.W.findIn K (.ref cF) "__add__" = some (some (.ref fadd)))
    (rt5 : PySem.W.findIn K (.ref cF) "__radd__" = some none)
    (si5 : PySem.W.subIn K (.type "int") (.ref cF) = some false)
    (or5 : PySem.W.findIn K (.ref cF) "__or__" = some (some (.ref fior)))
    (ro5 : PySem.W.findIn K (.ref cF) "__ror__" = some none)
    (la5 : PySem.W.findIn K (.ref cF) "later" = some (some (.ref flat)))
    (ea5 : PySem.W.findIn K (.ref cF) "earlier" = some (some (.ref fear)))
    (n5_0 : NoAttr K cF "stream")
    (n5_1 : NoAttr K cF "term")
    (n5_2 : NoAttr K cF "first")
    (n5_3 : NoAttr K cF "second")
    (n5_4 : NoAttr K cF "amount")
    (n5_5 : NoAttr K cF "spelling")
    (n5_6 : NoAttr K cF "depth")
    (n5_7 : NoAttr K cF "parts")
    (n5_8 : NoAttr K cF "looks")
    (n5_9 : NoAttr K cF "choices")
    (s5_0 : PySem.W.subIn K (.ref cF) (.ref cA) = some false)
    (s5_1 : PySem.W.subIn K (.ref cF) (.ref cB) = some false)
    (s5_2 : PySem.W.subIn K (.ref cF) (.ref cC) = some false)
    (s5_3 : PySem.W.subIn K (.ref cF) (.ref cD) = some false)
    (s5_4 : PySem.W.subIn K (.ref cF) (.ref cE) = some false)
    (s5_5 : PySem.W.subIn K (.ref cF) (.ref cF) = some true)
    (s5_6 : PySem.W.subIn K (.ref cF) (.ref cG) = some false)
    (nm6 : mg "Earlier" = some (.ref cG))
    (cl6 : Cls K cG)
    (b6 : BkI K cG)
    (ic6 : PySem.W.isClsIn K cG = true)
    (ti6 : PySem.W.typeIn K (.ref cG) = some (.type "type"))
    (sf6 : PySem.W.selfFirst K cG = true)
    (at6 : PySem.W.findIn K (.ref cG) "__add__" = some (some (.ref fadd)))
    (rt6 : PySem.W.findIn K (.ref cG) "__radd__" = some none)
    (si6 : PySem.W.subIn K (.type "int") (.ref cG) = some false)
    (or6 : PySem.W.findIn K (.ref cG) "__or__" = some (some (.ref fior)))
    (ro6 : PySem.W.findIn K (.ref cG) "__ror__" = some none)
    (la6 : PySem.W.findIn K (.ref cG) "later" = some (some (.ref flat)))
    (ea6 : PySem.W.findIn K (.ref cG) "earlier" = some (some (.ref fear)))
    (n6_0 : NoAttr K cG "stream")
    (n6_1 : NoAttr K cG "term")
    (n6_2 : NoAttr K cG "first")
    (n6_3 : NoAttr K cG "second")
    (n6_4 : NoAttr K cG "amount")
    (n6_5 : NoAttr K cG "spelling")
    (n6_6 : NoAttr K cG "depth")
    (n6_7 : NoAttr K cG "parts")
    (n6_8 : NoAttr K cG "looks")
    (n6_9 : NoAttr K cG "choices")
    (s6_0 : PySem.W.subIn K (.ref cG) (.ref cA) = some false)
    (s6_1 : PySem.W.subIn K (.ref cG) (.ref cB) = some false)
    (s6_2 : PySem.W.subIn K (.ref cG) (.ref cC) = some false)
    (s6_3 : PySem.W.subIn K (.ref cG) (.ref cD) = some false)
    (s6_4 : PySem.W.subIn K (.ref cG) (.ref cE) = some false)
    (s6_5 : PySem.W.subIn K (.ref cG) (.ref cF) = some false)
    (s6_6 : PySem.W.subIn K (.ref cG) (.ref cG) = some true)
    (mk0 : PySem.W.makesIn K cA = true)
    (kp0 : PySem.W.keepIn K (.ref cA) = true)
    (mk1 : PySem.W.makesIn K cB = true)
    (kp1 : PySem.W.keepIn K (.ref cB) = true)
    (mk2 : PySem.W.makesIn K cC = true)
    (kp2 : PySem.W.keepIn K (.ref cC) = true)
    (mk3 : PySem.W.makesIn K cD = true)
    (kp3 : PySem.W.keepIn K (.ref cD) = true)
    (mk4 : PySem.W.makesIn K cE = true)
    (kp4 : PySem.W.keepIn K (.ref cE) = true)
    (mk5 : PySem.W.makesIn K cF = true)
    (kp5 : PySem.W.keepIn K (.ref cF) = true)
    (mk6 : PySem.W.makesIn K cG = true)
    (kp6 : PySem.W.keepIn K (.ref cG) = true)
    (i1 : PySem.W.findIn K (.type "int") "__add__" = some (some (.builtin "int.__add__")))
    (i2 : PySem.W.findIn K (.type "int") "__radd__" = some (some (.builtin "int.__radd__")))
    (anm0 : mg "Number" = some (.ref aA))
    (acl0 : Cls K aA)
    (ab0 : BkI K aA)
    (aic0 : PySem.W.isClsIn K aA = true)
    (ati0 : PySem.W.typeIn K (.ref aA) = some (.type "type"))
    (an0_0 : NoAttr K aA "stream")
    (an0_1 : NoAttr K aA "term")
    (an0_2 : NoAttr K aA "first")
    (an0_3 : NoAttr K aA "last")
    (an0_4 : NoAttr K aA "spelling")
    (as0_0 : PySem.W.subIn K (.ref aA) (.ref aA) = some true)
    (as0_1 : PySem.W.subIn K (.ref aA) (.ref aB) = some false)
    (as0_2 : PySem.W.subIn K (.ref aA) (.ref aC) = some false)
    (as0_3 : PySem.W.subIn K (.ref aA) (.ref aD) = some false)
    (at0_0 : PySem.W.subIn K (.ref aA) (.ref cA) = some false)
    (at0_1 : PySem.W.subIn K (.ref aA) (.ref cB) = some false)
    (at0_2 : PySem.W.subIn K (.ref aA) (.ref cC) = some false)
    (at0_3 : PySem.W.subIn K (.ref aA) (.ref cD) = some false)
    (at0_4 : PySem.W.subIn K (.ref aA) (.ref cE) = some false)
    (at0_5 : PySem.W.subIn K (.ref aA) (.ref cF) = some false)
    (at0_6 : PySem.W.subIn K (.ref aA) (.ref cG) = some false)
    (amk0 : PySem.W.makesIn K aA = true)
    (akp0 : PySem.W.keepIn K (.ref aA) = true)
    (anm1 : mg "Count" = some (.ref aB))
    (acl1 : Cls K aB)
    (ab1 : BkI K aB)
    (aic1 : PySem.W.isClsIn K aB = true)
    (ati1 : PySem.W.typeIn K (.ref aB) = some (.type "type"))
    (an1_0 : NoAttr K aB "stream")
    (an1_1 : NoAttr K aB "term")
    (an1_2 : NoAttr K aB "first")
    (an1_3 : NoAttr K aB "last")
    (an1_4 : NoAttr K aB "spelling")
    (as1_0 : PySem.W.subIn K (.ref aB) (.ref aA) = some false)
    (as1_1 : PySem.W.subIn K (.ref aB) (.ref aB) = some true)
    (as1_2 : PySem.W.subIn K (.ref aB) (.ref aC) = some false)
    (as1_3 : PySem.W.subIn K (.ref aB) (.ref aD) = some false)
    (at1_0 : PySem.W.subIn K (.ref aB) (.ref cA) = some false)
    (at1_1 : PySem.W.subIn K (.ref aB) (.ref cB) = some false)
    (at1_2 : PySem.W.subIn K (.ref aB) (.ref cC) = some false)
    (at1_3 : PySem.W.subIn K (.ref aB) (.ref cD) = some false)
    (at1_4 : PySem.W.subIn K (.ref aB) (.ref cE) = some false)
    (at1_5 : PySem.W.subIn K (.ref aB) (.ref cF) = some false)
    (at1_6 : PySem.W.subIn K (.ref aB) (.ref cG) = some false)
    (amk1 : PySem.W.makesIn K aB = true)
    (akp1 : PySem.W.keepIn K (.ref aB) = true)
    (anm2 : mg "Total" = some (.ref aC))
    (acl2 : Cls K aC)
    (ab2 : BkI K aC)
    (aic2 : PySem.W.isClsIn K aC = true)
    (ati2 : PySem.W.typeIn K (.ref aC) = some (.type "type"))
    (an2_0 : NoAttr K aC "stream")
    (an2_1 : NoAttr K aC "term")
    (an2_2 : NoAttr K aC "first")
    (an2_3 : NoAttr K aC "last")
    (an2_4 : NoAttr K aC "spelling")
    (as2_0 : PySem.W.subIn K (.ref aC) (.ref aA) = some false)
    (as2_1 : PySem.W.subIn K (.ref aC) (.ref aB) = some false)
    (as2_2 : PySem.W.subIn K (.ref aC) (.ref aC) = some true)
    (as2_3 : PySem.W.subIn K (.ref aC) (.ref aD) = some false)
    (at2_0 : PySem.W.subIn K (.ref aC) (.ref cA) = some false)
    (at2_1 : PySem.W.subIn K (.ref aC) (.ref cB) = some false)
    (at2_2 : PySem.W.subIn K (.ref aC) (.ref cC) = some false)
    (at2_3 : PySem.W.subIn K (.ref aC) (.ref cD) = some false)
    (at2_4 : PySem.W.subIn K (.ref aC) (.ref cE) = some false)
    (at2_5 : PySem.W.subIn K (.ref aC) (.ref cF) = some false)
    (at2_6 : PySem.W.subIn K (.ref aC) (.ref cG) = some false)
    (amk2 : PySem.W.makesIn K aC = true)
    (akp2 : PySem.W.keepIn K (.ref aC) = true)
    (anm3 : mg "Gap" = some (.ref aD))
    (acl3 : Cls K aD)
    (ab3 : BkI K aD)
    (aic3 : PySem.W.isClsIn K aD = true)
    (ati3 : PySem.W.typeIn K (.ref aD) = some (.type "type"))
    (an3_0 : NoAttr K aD "stream")
    (an3_1 : NoAttr K aD "term")
    (an3_2 : NoAttr K aD "first")
    (an3_3 : NoAttr K aD "last")
    (an3_4 : NoAttr K aD "spelling")
    (as3_0 : PySem.W.subIn K (.ref aD) (.ref aA) = some false)
    (as3_1 : PySem.W.subIn K (.ref aD) (.ref aB) = some false)
    (as3_2 : PySem.W.subIn K (.ref aD) (.ref aC) = some false)
    (as3_3 : PySem.W.subIn K (.ref aD) (.ref aD) = some true)
    (at3_0 : PySem.W.subIn K (.ref aD) (.ref cA) = some false)
    (at3_1 : PySem.W.subIn K (.ref aD) (.ref cB) = some false)
    (at3_2 : PySem.W.subIn K (.ref aD) (.ref cC) = some false)
    (at3_3 : PySem.W.subIn K (.ref aD) (.ref cD) = some false)
    (at3_4 : PySem.W.subIn K (.ref aD) (.ref cE) = some false)
    (at3_5 : PySem.W.subIn K (.ref aD) (.ref cF) = some false)
    (at3_6 : PySem.W.subIn K (.ref aD) (.ref cG) = some false)
    (amk3 : PySem.W.makesIn K aD = true)
    (akp3 : PySem.W.keepIn K (.ref aD) = true)
    (d_is_integer : D1 K mg "is_integer" s_is_integer)
    (d_is_natural : D1 K mg "is_natural" s_is_natural)
    (d_is_name : D1 K mg "is_name" s_is_name)
    (d_are_integers : D1 K mg "are_integers" s_are_integers)
    (d_is_row : D1 K mg "is_row" s_is_row)
    (d_are_rows : D1 K mg "are_rows" s_are_rows)
    (d_first_twice : D1 K mg "first_twice" s_first_twice)
    (d_is_rows : D1 K mg "is_rows" s_is_rows)
    (d_is_term : D1 K mg "is_term" s_is_term)
    (d_is_look : D1 K mg "is_look" s_is_look)
    (d_checked_stream : D1 K mg "checked_stream" s_checked_stream)
    (d_checked_term : D1 K mg "checked_term" s_checked_term)
    (d_sizes : D1 K mg "sizes" s_sizes)
    (d_shifted : D1 K mg "shifted" s_shifted)
    (d_last_row : D1 K mg "last_row" s_last_row)
    (d_next_row : D1 K mg "next_row" s_next_row)
    (d_moved : D1 K mg "moved" s_moved)
    (d_looked : D1 K mg "looked" s_looked)
    (d_followed_either : D1 K mg "followed_either" s_followed_either)
    (d_followed_both : D1 K mg "followed_both" s_followed_both)
    (d_followed : D1 K mg "followed" s_followed)
    (d_is_amount : D1 K mg "is_amount" s_is_amount)
    (d_told_between : D1 K mg "told_between" s_told_between)
    (d_is_question : D1 K mg "is_question" s_is_question)
    (d_check : D1 K mg "check" s_check)
    (d_answered : D1 K mg "answered" s_answered)
    (d_value : D1 K mg "value" s_value)
    (d__law_pool : D1 K mg "_law_pool" s_l_pool)
    (d__law_draw : D1 K mg "_law_draw" s_l_draw)
    (d__law_names : D1 K mg "_law_names" s_l_names)
    (d__law_moment : D1 K mg "_law_moment" s_l_moment)
    (d__law_rows : D1 K mg "_law_rows" s_l_rows)
    (d__law_term : D1 K mg "_law_term" s_l_term)
    (d__law_built : D1 K mg "_law_built" s_l_built)
    (d_support : D1 K mg "support" s_support)
    (d__law_question : D1 K mg "_law_question" s_l_question)
    (d__law_asked : D1 K mg "_law_asked" s_l_asked)
    (d__law_same : D1 K mg "_law_same" s_l_same)
    (d__law_last : D1 K mg "_law_last" s_l_last)
    (d__law_next : D1 K mg "_law_next" s_l_next)
    (d__law_answer : D1 K mg "_law_answer" s_l_answer)
    (d__law_told : D1 K mg "_law_told" s_l_told)
    (d__law_is_told : D1 K mg "_law_is_told" s_l_is_told)
    (d__law_without : D1 K mg "_law_without" s_l_without)
    (d__law_deep : D1 K mg "_law_deep" s_l_deep)
    (m_WI : DM K CW "__init__" "World.__init__" s_World_init)
    (m_WR : DM K CW "rows" "World.rows" s_World_rows)
    (m_NI : DM K cA "__init__" "Now.__init__" s_Now_init)
    (m_LI : DM K cB "__init__" "Last.__init__" s_Last_init)
    (m_XI : DM K cC "__init__" "Next.__init__" s_Next_init)
    (m_SI : DM K cD "__init__" "Shift.__init__" s_Shift_init)
    (m_EI : DM K cE "__init__" "Either.__init__" s_Either_init)
    (m_JI : DM K cF "__init__" "Later.__init__" s_Later_init)
    (m_KI : DM K cG "__init__" "Earlier.__init__" s_Earlier_init)
    (m_nuI : DM K aA "__init__" "Number.__init__" s_Number_init)
    (m_coI : DM K aB "__init__" "Count.__init__" s_Count_init)
    (m_toI : DM K aC "__init__" "Total.__init__" s_Total_init)
    (m_gaI : DM K aD "__init__" "Gap.__init__" s_Gap_init)
    (m_add : DQ K cA fadd "__add__" "Term.__add__" s_Term_add)
    (m_ior : DQ K cA fior "__or__" "Term.__or__" s_Term_or)
    (m_lat : DQ K cA flat "later" "Term.later" s_Term_later)
    (m_ear : DQ K cA fear "earlier" "Term.earlier" s_Term_earlier)
    : ∃ fd : FuncData, (∀ (s : Shared) (v : Value), BindsTo s fd ⟨[v], []⟩ [("script", v)]) ∧ ∀ base : Heap, K.In base → base.Ns mainGlobals mg → FnOk P w K mg base CX0 40 fa fd ["script"] (spLaw K) := by
  have e := hfa.symm.trans (PySem.W.mg_of X G a4)
  cases e
  exact ⟨PySem.W.fnOf "law" "law" (defArgs s_law) (defBody s_law) (defScope s_law) .none kV4 dc4 pm4 an4 cd4 ct4, fun s v => .of_eq rfl, fun base _ _ => all_ok nrev B Cs TW wi mkW kW nm0 cl0 b0 ic0 ti0 sf0 at0 rt0 si0 or0 ro0 la0 ea0 n0_0 n0_1 n0_2 n0_3 n0_4 n0_5 n0_6 n0_7 n0_8 n0_9 s0_0 s0_1 s0_2 s0_3 s0_4 s0_5 s0_6 nm1 cl1 b1 ic1 ti1 sf1 at1 rt1 si1 or1 ro1 la1 ea1 n1_0 n1_1 n1_2 n1_3 n1_4 n1_5 n1_6 n1_7 n1_8 n1_9 s1_0 s1_1 s1_2 s1_3 s1_4 s1_5 s1_6 nm2 cl2 b2 ic2 ti2 sf2 at2 rt2 si2 or2 ro2 la2 ea2 n2_0 n2_1 n2_2 n2_3 n2_4 n2_5 n2_6 n2_7 n2_8 n2_9 s2_0 s2_1 s2_2 s2_3 s2_4 s2_5 s2_6 nm3 cl3 b3 ic3 ti3 sf3 at3 rt3 si3 or3 ro3 la3 ea3 n3_0 n3_1 n3_2 n3_3 n3_4 n3_5 n3_6 n3_7 n3_8 n3_9 s3_0 s3_1 s3_2 s3_3 s3_4 s3_5 s3_6 nm4 cl4 b4 ic4 ti4 sf4 at4 rt4 si4 or4 ro4 la4 ea4 n4_0 n4_1 n4_2 n4_3 n4_4 n4_5 n4_6 n4_7 n4_8 n4_9 s4_0 s4_1 s4_2 s4_3 s4_4 s4_5 s4_6 nm5 cl5 b5 ic5 ti5 sf5 at5 rt5 si5 or5 ro5 la5 ea5 n5_0 n5_1 n5_2 n5_3 n5_4 n5_5 n5_6 n5_7 n5_8 n5_9 s5_0 s5_1 s5_2 s5_3 s5_4 s5_5 s5_6 nm6 cl6 b6 ic6 ti6 sf6 at6 rt6 si6 or6 ro6 la6 ea6 n6_0 n6_1 n6_2 n6_3 n6_4 n6_5 n6_6 n6_7 n6_8 n6_9 s6_0 s6_1 s6_2 s6_3 s6_4 s6_5 s6_6 mk0 kp0 mk1 kp1 mk2 kp2 mk3 kp3 mk4 kp4 mk5 kp5 mk6 kp6 i1 i2 anm0 acl0 ab0 aic0 ati0 an0_0 an0_1 an0_2 an0_3 an0_4 as0_0 as0_1 as0_2 as0_3 at0_0 at0_1 at0_2 at0_3 at0_4 at0_5 at0_6 amk0 akp0 anm1 acl1 ab1 aic1 ati1 an1_0 an1_1 an1_2 an1_3 an1_4 as1_0 as1_1 as1_2 as1_3 at1_0 at1_1 at1_2 at1_3 at1_4 at1_5 at1_6 amk1 akp1 anm2 acl2 ab2 aic2 ati2 an2_0 an2_1 an2_2 an2_3 an2_4 as2_0 as2_1 as2_2 as2_3 at2_0 at2_1 at2_2 at2_3 at2_4 at2_5 at2_6 amk2 akp2 anm3 acl3 ab3 aic3 ati3 an3_0 an3_1 an3_2 an3_3 an3_4 as3_0 as3_1 as3_2 as3_3 at3_0 at3_1 at3_2 at3_3 at3_4 at3_5 at3_6 amk3 akp3 d_is_integer d_is_natural d_is_name d_are_integers d_is_row d_are_rows d_first_twice d_is_rows d_is_term d_is_look d_checked_stream d_checked_term d_sizes d_shifted d_last_row d_next_row d_moved d_looked d_followed_either d_followed_both d_followed d_is_amount d_told_between d_is_question d_check d_answered d_value d__law_pool d__law_draw d__law_names d__law_moment d__law_rows d__law_term d__law_built d_support d__law_question d__law_asked d__law_same d__law_last d__law_next d__law_answer d__law_told d__law_is_told d__law_without d__law_deep m_WI m_WR m_NI m_LI m_XI m_SI m_EI m_JI m_KI m_nuI m_coI m_toI m_gaI m_add m_ior m_lat m_ear (fun_mk l4 c4 k4)⟩
theorem walk {l : PySem.W.OpenLaw} {q : Program} {loose : List Str} {XP : (Str → Option Value) → Heap → Prop} {YP : World → Heap → Prop} {d : DefRec} {K : Params → PySem.W.Frag} (hn : l.most = some 63) (hdf : d.params.defaults = [])
    (hY : ∀ (w : World) (h : Heap), YP w h → (K w.params).In h)
    (F : ∀ (w : World) (mg : Str → Option Value) (fa : Addr) (h : Heap), (K w.params).In h → h.Ns mainGlobals mg → mg d.name = some (.ref fa) →
      ∃ fd : FuncData, (∀ (s : Shared) (u : Value), BindsTo s fd ⟨[u], []⟩ [("script", u)]) ∧ ∀ base : Heap, (K w.params).In base → base.Ns mainGlobals mg → FnOk l.prog w (K w.params) mg base CX0 40 fa fd ["script"] (spLaw (K w.params))) :
    PySem.W.WalkO q loose XP YP l.row.toRowW d [] (fun f vs => PySem.call f vs) :=
  L2.walk_of (n := 63) (k := 40) (x := "script") (CX := fun _ => CX0) (sp := fun w => spLaw (K w.params)) hn (by decide) hdf ⟨rfl, by decide, by decide⟩ hY F (fun _ _ a ns hl _ hS => ⟨a, ns, rfl, hS, hl, fun _ => rfl⟩) fun _ _ _ _ _ z => z
end Ash

set_option Elab.async false
open PySem PySem.W PyProof.Rows
/-! names that are taken: the head makes no twins of these parts of the heap -/
theorem PySem.W.Fast.tw803653341087590233 : True := trivial
theorem PySem.W.Fast.tw11180128784831563532 : True := trivial
theorem PySem.W.Fast.tw6725368693216711094 : True := trivial
theorem PySem.W.Fast.tw4996385988706223450 : True := trivial
theorem PySem.W.Fast.tw6680324081864373639 : True := trivial
theorem PySem.W.Fast.tw10044490456689826283 : True := trivial
theorem PySem.W.Fast.tw6202086784188677038 : True := trivial
theorem PySem.W.Fast.tw3454249995784251675 : True := trivial
theorem PySem.W.Fast.tw17334271741820262591 : True := trivial
theorem PySem.W.Fast.tw4519515087482306858 : True := trivial
theorem PySem.W.Fast.tw14740497556637527870 : True := trivial
theorem PySem.W.Fast.tw5832009367431748411 : True := trivial
theorem PySem.W.Fast.tw13219722950670257295 : True := trivial
theorem PySem.W.Fast.tw6974687123468386658 : True := trivial
theorem PySem.W.Fast.tw2344447889210612417 : True := trivial
theorem PySem.W.Fast.tw9814996457106802595 : True := trivial
theorem PySem.W.Fast.tw7036256696616197630 : True := trivial
theorem PySem.W.Fast.tw13762764420584678216 : True := trivial
theorem PySem.W.Fast.tw11873420514275010934 : True := trivial
theorem PySem.W.Fast.tw6230414380983531347 : True := trivial
theorem PySem.W.Fast.tw14365078004446354867 : True := trivial
theorem PySem.W.Fast.tw14230889510376610029 : True := trivial
theorem PySem.W.Fast.tw7311443723091279004 : True := trivial
theorem PySem.W.Fast.tw3325620951934119245 : True := trivial
theorem PySem.W.Fast.tw5215978516567840026 : True := trivial
theorem PySem.W.Fast.tw5608352654814480960 : True := trivial
theorem PySem.W.Fast.tw17178976430648174328 : True := trivial
theorem PySem.W.Fast.tw17531103860736891766 : True := trivial
theorem PySem.W.Fast.tw17078184189065826954 : True := trivial
theorem PySem.W.Fast.tw15520882303286876992 : True := trivial
theorem PySem.W.Fast.tw8196159013545082950 : True := trivial
theorem PySem.W.Fast.tw15478695445358941143 : True := trivial
theorem PySem.W.Fast.tw12973495176004498831 : True := trivial
theorem PySem.W.Fast.tw4363336604149822376 : True := trivial
theorem PySem.W.Fast.tw1171893842298235384 : True := trivial
theorem PySem.W.Fast.tw13666845955603726897 : True := trivial
theorem PySem.W.Fast.tw17828541297170677934 : True := trivial
theorem PySem.W.Fast.tw1781115667859839249 : True := trivial
theorem PySem.W.Fast.tw15825946172120977142 : True := trivial
theorem PySem.W.Fast.tw10701106200528026194 : True := trivial
theorem PySem.W.Fast.tw619175449114353683 : True := trivial
theorem PySem.W.Fast.tw13238609255030014924 : True := trivial
theorem PySem.W.Fast.tw5292840656138221371 : True := trivial
theorem PySem.W.Fast.tw17877176766870773464 : True := trivial
theorem PySem.W.Fast.tw9310259202861353150 : True := trivial
theorem PySem.W.Fast.tw14414765654237574339 : True := trivial
theorem PySem.W.Fast.tw4619991143652019626 : True := trivial
theorem PySem.W.Fast.tw1797679262884015215 : True := trivial
theorem PySem.W.Fast.tw11247395914712438371 : True := trivial
theorem PySem.W.Fast.tw13085907858232814043 : True := trivial
theorem PySem.W.Fast.tw13038305311785556341 : True := trivial
theorem PySem.W.Fast.tw14923060483672210048 : True := trivial
theorem PySem.W.Fast.tw1985909855665688575 : True := trivial
theorem PySem.W.Fast.tw12164952195212438658 : True := trivial
theorem PySem.W.Fast.tw5941784303504977207 : True := trivial
theorem PySem.W.Fast.tw14369175349002825101 : True := trivial
theorem PySem.W.Fast.tw7542093018103161486 : True := trivial
theorem PySem.W.Fast.tw10560629595317802011 : True := trivial
theorem PySem.W.Fast.tw10703814396067446481 : True := trivial
theorem PySem.W.Fast.tw7412528867946332800 : True := trivial
theorem PySem.W.Fast.tw13891466620960307325 : True := trivial
theorem PySem.W.Fast.tw18190616318626097538 : True := trivial
theorem PySem.W.Fast.tw15522488348902656460 : True := trivial
theorem PySem.W.Fast.tw888334408067467753 : True := trivial
theorem PySem.W.Fast.tw7824869619412411472 : True := trivial
theorem PySem.W.Fast.tw8279891146621590305 : True := trivial
theorem PySem.W.Fast.tw16011479134129310681 : True := trivial
theorem PySem.W.Fast.tw16941793683491109443 : True := trivial
theorem PySem.W.Fast.tw10285564130619218171 : True := trivial
theorem PySem.W.Fast.tw17419209488191967047 : True := trivial
theorem PySem.W.Fast.tw6515610500858329806 : True := trivial
theorem PySem.W.Fast.tw6464570408197657960 : True := trivial
theorem PySem.W.Fast.tw2371087308719549048 : True := trivial
theorem PySem.W.Fast.tw658159727683375574 : True := trivial
theorem PySem.W.Fast.tw11340487166552451959 : True := trivial
theorem PySem.W.Fast.tw11347212367663593211 : True := trivial
theorem PySem.W.Fast.tw18362658331077903997 : True := trivial
theorem PySem.W.Fast.tw15905639621238568294 : True := trivial
theorem PySem.W.Fast.tw14647540870674993355 : True := trivial
theorem PySem.W.Fast.tw10335734844529023058 : True := trivial
theorem PySem.W.Fast.tw4685957216348755257 : True := trivial
theorem PySem.W.Fast.tw5080502836038813740 : True := trivial
theorem PySem.W.Fast.tw1473935384771979041 : True := trivial
theorem PySem.W.Fast.tw319183262208690514 : True := trivial
theorem PySem.W.Fast.tw1580442802418567614 : True := trivial
theorem PySem.W.Fast.tw5339722830960861268 : True := trivial
theorem PySem.W.Fast.tw5009919114018659384 : True := trivial
theorem PySem.W.Fast.tw8290763235288883378 : True := trivial
theorem PySem.W.Fast.tw13113214691791454383 : True := trivial
theorem PySem.W.Fast.tw6168612537065896668 : True := trivial
theorem PySem.W.Fast.tw12720350209779996242 : True := trivial
theorem PySem.W.Fast.tw3937940544804037639 : True := trivial
theorem PySem.W.Fast.tw2806420296988070721 : True := trivial
theorem PySem.W.Fast.tw10044479592350573711 : True := trivial
theorem PySem.W.Fast.tw12116387630066504319 : True := trivial
theorem PySem.W.Fast.tw9026858357819529899 : True := trivial
theorem PySem.W.Fast.tw6070092393857707322 : True := trivial
theorem PySem.W.Fast.tw16742834949406789278 : True := trivial
theorem PySem.W.Fast.tw2190249661559362162 : True := trivial
theorem PySem.W.Fast.tw8454484883708840166 : True := trivial
theorem PySem.W.Fast.tw1281278673573017723 : True := trivial
theorem PySem.W.Fast.tw4195408151344022475 : True := trivial
theorem PySem.W.Fast.tw5294200154177445188 : True := trivial
theorem PySem.W.Fast.tw9602084401290281606 : True := trivial
theorem PySem.W.Fast.tw9334634741501357194 : True := trivial
theorem PySem.W.Fast.tw15382377648641168887 : True := trivial
theorem PySem.W.Fast.tw83254205999789016 : True := trivial
theorem PySem.W.Fast.tw6625283236792249906 : True := trivial
theorem PySem.W.Fast.tw13226582863170405208 : True := trivial
theorem PySem.W.Fast.tw14674000667901455287 : True := trivial
theorem PySem.W.Fast.tw10757440512008951008 : True := trivial
theorem PySem.W.Fast.tw4429818861859486700 : True := trivial
theorem PySem.W.Fast.tw11771781716371632770 : True := trivial
theorem PySem.W.Fast.tw2251238648433239842 : True := trivial
theorem PySem.W.Fast.tw15111002016735402703 : True := trivial
theorem PySem.W.Fast.tw608867035478841246 : True := trivial
theorem PySem.W.Fast.tw12221198630540351697 : True := trivial
theorem PySem.W.Fast.tw792600814671138291 : True := trivial
theorem PySem.W.Fast.tw6601646891550977783 : True := trivial
theorem PySem.W.Fast.tw1982673647810735626 : True := trivial
theorem PySem.W.Fast.tw4464559820618498059 : True := trivial
theorem PySem.W.Fast.tw2904449216302318474 : True := trivial
theorem PySem.W.Fast.tw1412328145654962816 : True := trivial
theorem PySem.W.Fast.tw16552389501592092583 : True := trivial
theorem PySem.W.Fast.tw16372402103968993275 : True := trivial
theorem PySem.W.Fast.tw10171095608399267659 : True := trivial
theorem PySem.W.Fast.tw14301899168591979534 : True := trivial
theorem PySem.W.Fast.tw7290713776537936782 : True := trivial
theorem PySem.W.Fast.tw16887265676319501217 : True := trivial
theorem PySem.W.Fast.tw6682757325590251809 : True := trivial
theorem PySem.W.Fast.tw702592242484112236 : True := trivial
theorem PySem.W.Fast.tw9647321588010928423 : True := trivial
theorem PySem.W.Fast.tw10057486342597576454 : True := trivial
theorem PySem.W.Fast.tw16427118136038132417 : True := trivial
theorem PySem.W.Fast.tw5313127765985571061 : True := trivial
theorem PySem.W.Fast.tw1623697918964536909 : True := trivial
theorem PySem.W.Fast.tw8381164819030626552 : True := trivial
theorem PySem.W.Fast.tw6542713514963705442 : True := trivial
theorem PySem.W.Fast.tw14140770959513843722 : True := trivial
theorem PySem.W.Fast.tw15878909648080056976 : True := trivial
theorem PySem.W.Fast.tw608513419631810754 : True := trivial
theorem PySem.W.Fast.tw2747107354513422963 : True := trivial
theorem PySem.W.Fast.tw7750255869531769216 : True := trivial
theorem PySem.W.Fast.tw13160371286241085665 : True := trivial
theorem PySem.W.Fast.tw17494599137516720152 : True := trivial
theorem PySem.W.Fast.tw4630979235994122074 : True := trivial
theorem PySem.W.Fast.tw8424219990912128322 : True := trivial
theorem PySem.W.Fast.tw4536059888298950446 : True := trivial
theorem PySem.W.Fast.tw11909236907532104886 : True := trivial
theorem PySem.W.Fast.tw12571631236620906276 : True := trivial
theorem PySem.W.Fast.tw649171111709374916 : True := trivial
theorem PySem.W.Fast.tw9900887534073167915 : True := trivial
theorem PySem.W.Fast.tw16265937935674363199 : True := trivial
theorem PySem.W.Fast.tw10619723910168514066 : True := trivial
theorem PySem.W.Fast.tw5927062588192977094 : True := trivial
theorem PySem.W.Fast.tw7080315564604689397 : True := trivial
theorem PySem.W.Fast.tw1532908653687495535 : True := trivial
theorem PySem.W.Fast.tw18426537766842959344 : True := trivial
theorem PySem.W.Fast.tw3076560185096837143 : True := trivial
theorem PySem.W.Fast.tw16591661594323469278 : True := trivial
theorem PySem.W.Fast.tw17734751432270814833 : True := trivial
theorem PySem.W.Fast.tw4510989621920418025 : True := trivial
theorem PySem.W.Fast.tw2252045753473996377 : True := trivial
theorem PySem.W.Fast.tw809245936670890039 : True := trivial
theorem PySem.W.Fast.tw17572522567965992085 : True := trivial
theorem PySem.W.Fast.tw3943814512717908082 : True := trivial
theorem PySem.W.Fast.tw16911282154799060505 : True := trivial
theorem PySem.W.Fast.tw8092015739714241605 : True := trivial
theorem PySem.W.Fast.tw6866305914969604685 : True := trivial
theorem PySem.W.Fast.tw2534692034942026311 : True := trivial
theorem PySem.W.Fast.tw8622593835194775704 : True := trivial
theorem PySem.W.Fast.tw6763091491555031767 : True := trivial
theorem PySem.W.Fast.tw12474709067380855896 : True := trivial
theorem PySem.W.Fast.tw3625908713009422844 : True := trivial
theorem PySem.W.Fast.tw16307990105238085514 : True := trivial
theorem PySem.W.Fast.tw14280436035193748152 : True := trivial
theorem PySem.W.Fast.tw1608815008154693491 : True := trivial
theorem PySem.W.Fast.tw9108134329398787719 : True := trivial
theorem PySem.W.Fast.tw3626725971880990259 : True := trivial
theorem PySem.W.Fast.tw12047420915572938665 : True := trivial
theorem PySem.W.Fast.tw13970463624270393993 : True := trivial
theorem PySem.W.Fast.tw14743689246722301006 : True := trivial
theorem PySem.W.Fast.tw12942347679659545013 : True := trivial
theorem PySem.W.Fast.tw10073786528851974730 : True := trivial
theorem PySem.W.Fast.tw8395667868828727904 : True := trivial
theorem PySem.W.Fast.tw8709412199004474773 : True := trivial
theorem PySem.W.Fast.tw10993656713326956456 : True := trivial
theorem PySem.W.Fast.tw8854214684697013286 : True := trivial
theorem PySem.W.Fast.tw7705172401090355850 : True := trivial
theorem PySem.W.Fast.tw10195506481532668784 : True := trivial
theorem PySem.W.Fast.tw4308711286174001589 : True := trivial
theorem PySem.W.Fast.tw6765494269088996793 : True := trivial
theorem PySem.W.Fast.tw14676369325234924633 : True := trivial
theorem PySem.W.Fast.tw12257314117473186016 : True := trivial
theorem PySem.W.Fast.tw14619648271164372279 : True := trivial
theorem PySem.W.Fast.tw14921484567796436267 : True := trivial
theorem PySem.W.Fast.tw6078680173570555017 : True := trivial
theorem PySem.W.Fast.tw3284459295464085625 : True := trivial
theorem PySem.W.Fast.tw17949384105302565103 : True := trivial
theorem PySem.W.Fast.tw13498359936549367173 : True := trivial
theorem PySem.W.Fast.tw11593729321708180267 : True := trivial
theorem PySem.W.Fast.tw4153503237608571390 : True := trivial
theorem PySem.W.Fast.tw6672711472827776770 : True := trivial
theorem PySem.W.Fast.tw10893129348115620816 : True := trivial
theorem PySem.W.Fast.tw12416988589072604252 : True := trivial
theorem PySem.W.Fast.tw5376563242563251012 : True := trivial
theorem PySem.W.Fast.tw10303275758149699850 : True := trivial
theorem PySem.W.Fast.tw7454430031741642988 : True := trivial
theorem PySem.W.Fast.tw2540630516262399674 : True := trivial
theorem PySem.W.Fast.tw211421330287964835 : True := trivial
theorem PySem.W.Fast.tw113322833272754134 : True := trivial
theorem PySem.W.Fast.tw1113499793892954302 : True := trivial
theorem PySem.W.Fast.tw2828956239007830507 : True := trivial
theorem PySem.W.Fast.tw11484629059405983391 : True := trivial
theorem PySem.W.Fast.tw17740371255200503504 : True := trivial
theorem PySem.W.Fast.tw17834224895108358729 : True := trivial
theorem PySem.W.Fast.tw1403058994230531517 : True := trivial
theorem PySem.W.Fast.tw17604073353070181877 : True := trivial
theorem PySem.W.Fast.tw11008809335799854601 : True := trivial
theorem PySem.W.Fast.tw4760704653051639112 : True := trivial
theorem PySem.W.Fast.tw8728899977519505845 : True := trivial
theorem PySem.W.Fast.tw5823232655134209283 : True := trivial
theorem PySem.W.Fast.tw11152067696679622839 : True := trivial
theorem PySem.W.Fast.tw5243223731143309572 : True := trivial
theorem PySem.W.Fast.tw2608822692707396750 : True := trivial
theorem PySem.W.Fast.tw11042758281752094169 : True := trivial
theorem PySem.W.Fast.tw15646985513711771389 : True := trivial
theorem PySem.W.Fast.tw14314360338652097458 : True := trivial
theorem PySem.W.Fast.tw6095141116191446083 : True := trivial
theorem PySem.W.Fast.tw3372183753300470876 : True := trivial
theorem PySem.W.Fast.tw2731661291180488238 : True := trivial
theorem PySem.W.Fast.tw17442776878153962276 : True := trivial
theorem PySem.W.Fast.tw9626215191398092516 : True := trivial
theorem PySem.W.Fast.tw17673619601060001067 : True := trivial
theorem PySem.W.Fast.tw14864329297170120330 : True := trivial
theorem PySem.W.Fast.tw13874753248442102451 : True := trivial
theorem PySem.W.Fast.tw17906692230595665361 : True := trivial
theorem PySem.W.Fast.tw10934496513051040985 : True := trivial
theorem PySem.W.Fast.tw1430574376046231230 : True := trivial
theorem PySem.W.Fast.tw11506538622925370677 : True := trivial
theorem PySem.W.Fast.tw11135163958821832518 : True := trivial
theorem PySem.W.Fast.tw3623236138221535715 : True := trivial
theorem PySem.W.Fast.tw10111142470904704947 : True := trivial
theorem PySem.W.Fast.tw11187069310050205611 : True := trivial
theorem PySem.W.Fast.tw9401927277743228271 : True := trivial
theorem PySem.W.Fast.tw12664254992893067693 : True := trivial
theorem PySem.W.Fast.tw6188170560861810985 : True := trivial
theorem PySem.W.Fast.tw14977928998072834053 : True := trivial
theorem PySem.W.Fast.tw629008177405658474 : True := trivial
theorem PySem.W.Fast.tw12180260796430204452 : True := trivial
theorem PySem.W.Fast.tw9695552846366839234 : True := trivial
theorem PySem.W.Fast.tw16238773387063994228 : True := trivial
theorem PySem.W.Fast.tw2557911048083690226 : True := trivial
theorem PySem.W.Fast.tw7163768972442773080 : True := trivial
theorem PySem.W.Fast.tw16325150400796107807 : True := trivial
theorem PySem.W.Fast.tw10610056171541610819 : True := trivial
theorem PySem.W.Fast.tw1892957644989472179 : True := trivial
theorem PySem.W.Fast.tw4315992574198408796 : True := trivial
theorem PySem.W.Fast.tw3272037051163632542 : True := trivial
theorem PySem.W.Fast.tw14806194479580490818 : True := trivial
theorem PySem.W.Fast.tw10626169032540718482 : True := trivial
theorem PySem.W.Fast.tw13858793867880095351 : True := trivial
theorem PySem.W.Fast.tw8525261698776317419 : True := trivial
theorem PySem.W.Fast.tw18114107881441898537 : True := trivial
theorem PySem.W.Fast.tw10844693048968160095 : True := trivial
theorem PySem.W.Fast.tw5460914337058263126 : True := trivial
theorem PySem.W.Fast.tw17475899364651933331 : True := trivial
theorem PySem.W.Fast.tw6568831569084836505 : True := trivial
theorem PySem.W.Fast.tw662315629998742425 : True := trivial
theorem PySem.W.Fast.tw10520753172964168307 : True := trivial
theorem PySem.W.Fast.tw918203974179491206 : True := trivial
theorem PySem.W.Fast.tw4377507820518332774 : True := trivial
theorem PySem.W.Fast.tw7859818633680485262 : True := trivial
theorem PySem.W.Fast.tw401068533180646470 : True := trivial
theorem PySem.W.Fast.tw16164538633102078578 : True := trivial
theorem PySem.W.Fast.tw4304357138357835675 : True := trivial
theorem PySem.W.Fast.tw8869470731813410004 : True := trivial
theorem PySem.W.Fast.tw4618747918372362408 : True := trivial
theorem PySem.W.Fast.tw4265861119654434052 : True := trivial
theorem PySem.W.Fast.tw11133858109482056318 : True := trivial
theorem PySem.W.Fast.tw1014647526506467321 : True := trivial
theorem PySem.W.Fast.tw12618072976438200359 : True := trivial
theorem PySem.W.Fast.tw13981113493133733319 : True := trivial
theorem PySem.W.Fast.tw9870169714789561995 : True := trivial
theorem PySem.W.Fast.tw10905280591095852106 : True := trivial
theorem PySem.W.Fast.tw7110356051540816921 : True := trivial
theorem PySem.W.Fast.tw12873461231584671754 : True := trivial
theorem PySem.W.Fast.tw6450567864819416920 : True := trivial
theorem PySem.W.Fast.tw2306639608851728667 : True := trivial
theorem PySem.W.Fast.tw11035121179012142406 : True := trivial
theorem PySem.W.Fast.tw2678009375082274536 : True := trivial
theorem PySem.W.Fast.tw12971043960717180503 : True := trivial
theorem PySem.W.Fast.tw8277904813760962949 : True := trivial
theorem PySem.W.Fast.tw3005751075467087011 : True := trivial
theorem PySem.W.Fast.tw3871474395213060478 : True := trivial
theorem PySem.W.Fast.tw16962450724053942152 : True := trivial
theorem PySem.W.Fast.tw8024672345404587417 : True := trivial
theorem PySem.W.Fast.tw12630398499589759610 : True := trivial
theorem PySem.W.Fast.tw14809123839388307606 : True := trivial
theorem PySem.W.Fast.tw18408614054264921391 : True := trivial
theorem PySem.W.Fast.tw17327103540612763027 : True := trivial
theorem PySem.W.Fast.tw7176921159863333104 : True := trivial
theorem PySem.W.Fast.tw14921099716768623993 : True := trivial
theorem PySem.W.Fast.tw8368975806212566684 : True := trivial
theorem PySem.W.Fast.tw1457030293284728255 : True := trivial
theorem PySem.W.Fast.tw15919218252430283165 : True := trivial
theorem PySem.W.Fast.tw4839896657624971494 : True := trivial
theorem PySem.W.Fast.tw4781619094919294605 : True := trivial
theorem PySem.W.Fast.tw13522126592962606875 : True := trivial
theorem PySem.W.Fast.tw1751404860036142785 : True := trivial
theorem PySem.W.Fast.tw12849872067990845054 : True := trivial
theorem PySem.W.Fast.tw16235420463680160401 : True := trivial
theorem PySem.W.Fast.tw15756582320880712504 : True := trivial
theorem PySem.W.Fast.tw12265710468377083608 : True := trivial
theorem PySem.W.Fast.tw12606274780451835397 : True := trivial
theorem PySem.W.Fast.tw476669436260160409 : True := trivial
theorem PySem.W.Fast.tw1975994484570037230 : True := trivial
theorem PySem.W.Fast.tw14309844394771607673 : True := trivial
theorem PySem.W.Fast.tw4808904557877905626 : True := trivial
theorem PySem.W.Fast.tw18168555673811125176 : True := trivial
theorem PySem.W.Fast.tw15860083301385988424 : True := trivial
theorem PySem.W.Fast.tw13782371320103884854 : True := trivial
theorem PySem.W.Fast.tw3020022355429660493 : True := trivial
theorem PySem.W.Fast.tw15548987910107743068 : True := trivial
theorem PySem.W.Fast.tw928004888907801983 : True := trivial
theorem PySem.W.Fast.tw275691842477483138 : True := trivial
theorem PySem.W.Fast.tw14363236379245962912 : True := trivial
theorem PySem.W.Fast.tw9745241542415054701 : True := trivial
theorem PySem.W.Fast.tw7882475244616498659 : True := trivial
theorem PySem.W.Fast.tw10167492997124646288 : True := trivial
theorem PySem.W.Fast.tw14558043963328614934 : True := trivial
theorem PySem.W.Fast.tw16887021932023966172 : True := trivial
theorem PySem.W.Fast.tw16649563393920818665 : True := trivial
theorem PySem.W.Fast.tw7722655908798293780 : True := trivial
theorem PySem.W.Fast.tw6101569863906641484 : True := trivial
theorem PySem.W.Fast.tw1328651037678175828 : True := trivial
theorem PySem.W.Fast.tw7494459571189556657 : True := trivial
theorem PySem.W.Fast.tw13164822322043720228 : True := trivial
theorem PySem.W.Fast.tw1330575319861484288 : True := trivial
theorem PySem.W.Fast.tw16842337499952528990 : True := trivial
theorem PySem.W.Fast.tw13061423589754085685 : True := trivial
theorem PySem.W.Fast.tw8975079929743626496 : True := trivial
theorem PySem.W.Fast.tw1733693700822832398 : True := trivial
theorem PySem.W.Fast.tw3007696197339665715 : True := trivial
theorem PySem.W.Fast.tw3384463718051859127 : True := trivial
theorem PySem.W.Fast.tw14165611600582896442 : True := trivial
theorem PySem.W.Fast.tw4967225598211362603 : True := trivial
theorem PySem.W.Fast.tw3799568891801905409 : True := trivial
theorem PySem.W.Fast.tw10543550461547385357 : True := trivial
theorem PySem.W.Fast.tw3889061794331386160 : True := trivial
theorem PySem.W.Fast.tw5653683519541314136 : True := trivial
theorem PySem.W.Fast.tw13221432277256115068 : True := trivial
theorem PySem.W.Fast.tw2223724827461056572 : True := trivial
theorem PySem.W.Fast.tw7142692295578211944 : True := trivial
theorem PySem.W.Fast.tw4437048802642863730 : True := trivial
theorem PySem.W.Fast.tw6394240485039517894 : True := trivial
theorem PySem.W.Fast.tw17400448263991317978 : True := trivial
theorem PySem.W.Fast.tw10254917213764358311 : True := trivial
theorem PySem.W.Fast.tw575744895787933716 : True := trivial
theorem PySem.W.Fast.tw2215725219784150364 : True := trivial
theorem PySem.W.Fast.tw572505140139610694 : True := trivial
theorem PySem.W.Fast.tw4566854665368159194 : True := trivial
theorem PySem.W.Fast.tw13454666470429488075 : True := trivial
theorem PySem.W.Fast.tw16870002385100258047 : True := trivial
theorem PySem.W.Fast.tw8941102250838309931 : True := trivial
theorem PySem.W.Fast.tw4397912189811576771 : True := trivial
theorem PySem.W.Fast.tw6660781895737524023 : True := trivial
theorem PySem.W.Fast.tw13058833517316800487 : True := trivial
theorem PySem.W.Fast.tw6646928882555636464 : True := trivial
theorem PySem.W.Fast.tw4445566063163070441 : True := trivial
theorem PySem.W.Fast.tw14877746893496765238 : True := trivial
theorem PySem.W.Fast.tw1309186512838591679 : True := trivial
theorem PySem.W.Fast.tw9200330819949789847 : True := trivial
theorem PySem.W.Fast.tw12079736297418275061 : True := trivial
theorem PySem.W.Fast.tw11626372034767869705 : True := trivial
theorem PySem.W.Fast.tw5009082625045747426 : True := trivial
theorem PySem.W.Fast.tw166825235563707404 : True := trivial
theorem PySem.W.Fast.tw7025226691579008597 : True := trivial
theorem PySem.W.Fast.tw17860352917012488921 : True := trivial
theorem PySem.W.Fast.tw5917915483283723592 : True := trivial
theorem PySem.W.Fast.tw4254877277822975373 : True := trivial
theorem PySem.W.Fast.tw18398221559956606471 : True := trivial
theorem PySem.W.Fast.tw22872315755423861 : True := trivial
theorem PySem.W.Fast.tw16505987870513513883 : True := trivial
theorem PySem.W.Fast.tw7680523764145292968 : True := trivial
theorem PySem.W.Fast.tw14580406509713878544 : True := trivial
theorem PySem.W.Fast.tw16319063573063271835 : True := trivial
theorem PySem.W.Fast.tw14597766092566576756 : True := trivial
theorem PySem.W.Fast.tw6799968178706150889 : True := trivial
theorem PySem.W.Fast.tw3172494808593546428 : True := trivial
theorem PySem.W.Fast.tw16476786008801869375 : True := trivial
theorem PySem.W.Fast.tw14060303026306597658 : True := trivial
theorem PySem.W.Fast.tw14599043957820819622 : True := trivial
theorem PySem.W.Fast.tw8700496760571179581 : True := trivial
theorem PySem.W.Fast.tw10617224316704614195 : True := trivial
theorem PySem.W.Fast.tw2230297262155854850 : True := trivial
theorem PySem.W.Fast.tw10246805730283921498 : True := trivial
theorem PySem.W.Fast.tw1306549473891675938 : True := trivial
theorem PySem.W.Fast.tw2665110414235251311 : True := trivial
theorem PySem.W.Fast.tw9636503684642312924 : True := trivial
theorem PySem.W.Fast.tw10978093654126623195 : True := trivial
theorem PySem.W.Fast.tw14501989815064675894 : True := trivial
theorem PySem.W.Fast.tw5932876074703145415 : True := trivial
theorem PySem.W.Fast.tw12774915147838012207 : True := trivial
theorem PySem.W.Fast.tw6350889882859228515 : True := trivial
theorem PySem.W.Fast.tw1106077323330867130 : True := trivial
theorem PySem.W.Fast.tw14758922011883387275 : True := trivial
theorem PySem.W.Fast.tw4629882306444500060 : True := trivial
theorem PySem.W.Fast.tw3336063692036855999 : True := trivial
theorem PySem.W.Fast.tw10651214339727905723 : True := trivial
theorem PySem.W.Fast.tw10203706370106790867 : True := trivial
theorem PySem.W.Fast.tw3549121650126094324 : True := trivial
theorem PySem.W.Fast.tw9981322769503581930 : True := trivial
theorem PySem.W.Fast.tw3252828581146932343 : True := trivial
theorem PySem.W.Fast.tw5985848785924886968 : True := trivial
theorem PySem.W.Fast.tw199813554645610404 : True := trivial
theorem PySem.W.Fast.tw468429725072766416 : True := trivial
theorem PySem.W.Fast.tw3208617009818062760 : True := trivial
theorem PySem.W.Fast.tw13572417487860326105 : True := trivial
theorem PySem.W.Fast.tw8278331460225246950 : True := trivial
theorem PySem.W.Fast.tw5929793782598227175 : True := trivial
theorem PySem.W.Fast.tw10838990694395550950 : True := trivial
theorem PySem.W.Fast.tw3521580439542963665 : True := trivial
theorem PySem.W.Fast.tw16093527762596428485 : True := trivial
theorem PySem.W.Fast.tw10789364213708421126 : True := trivial
theorem PySem.W.Fast.tw13411631043963880557 : True := trivial
theorem PySem.W.Fast.tw4832817969254628274 : True := trivial
theorem PySem.W.Fast.tw10411606038215104680 : True := trivial
theorem PySem.W.Fast.tw13652543476978041953 : True := trivial
theorem PySem.W.Fast.tw17486034861144725605 : True := trivial
theorem PySem.W.Fast.tw12570522145846828880 : True := trivial
theorem PySem.W.Fast.tw7549230989917154003 : True := trivial
theorem PySem.W.Fast.tw13673401854672830605 : True := trivial
theorem PySem.W.Fast.tw12682021071557541601 : True := trivial
theorem PySem.W.Fast.tw9816190085555980451 : True := trivial
theorem PySem.W.Fast.tw1093672604690619194 : True := trivial
theorem PySem.W.Fast.tw10731940869831737439 : True := trivial
theorem PySem.W.Fast.tw1396570384020517147 : True := trivial
theorem PySem.W.Fast.tw4512897014177938450 : True := trivial
theorem PySem.W.Fast.tw17225445601764084126 : True := trivial
theorem PySem.W.Fast.tw15495375361541860523 : True := trivial
theorem PySem.W.Fast.tw17811730507944301026 : True := trivial
theorem PySem.W.Fast.tw3532757478527256313 : True := trivial
theorem PySem.W.Fast.tw3385014532564939286 : True := trivial
theorem PySem.W.Fast.tw17634311010565222486 : True := trivial
theorem PySem.W.Fast.tw16982581745800903285 : True := trivial
theorem PySem.W.Fast.tw8847476866309916307 : True := trivial
theorem PySem.W.Fast.tw15937866179310031938 : True := trivial
theorem PySem.W.Fast.tw3237224204518457780 : True := trivial
theorem PySem.W.Fast.tw1751598216384463052 : True := trivial
theorem PySem.W.Fast.tw7021945957040935359 : True := trivial
theorem PySem.W.Fast.tw15949715837208195594 : True := trivial
theorem PySem.W.Fast.tw2228362935430196609 : True := trivial
theorem PySem.W.Fast.tw16033983574661697359 : True := trivial
theorem PySem.W.Fast.tw8596798108205910989 : True := trivial
theorem PySem.W.Fast.tw10601042185671899832 : True := trivial
theorem PySem.W.Fast.tw15384956042142148162 : True := trivial
theorem PySem.W.Fast.tw6532530093991990311 : True := trivial
theorem PySem.W.Fast.tw10456631333053713046 : True := trivial
theorem PySem.W.Fast.tw6747275688699858567 : True := trivial
theorem PySem.W.Fast.tw3451378941442143060 : True := trivial
theorem PySem.W.Fast.tw2907076136992874909 : True := trivial
theorem PySem.W.Fast.tw15807109016169430856 : True := trivial
theorem PySem.W.Fast.tw16623507798641436369 : True := trivial
theorem PySem.W.Fast.tw4084136354189767182 : True := trivial
theorem PySem.W.Fast.tw4637457131682279092 : True := trivial
theorem PySem.W.Fast.tw2586788653521222458 : True := trivial
theorem PySem.W.Fast.tw133444309018624343 : True := trivial
theorem PySem.W.Fast.tw18322866913205441271 : True := trivial
theorem PySem.W.Fast.tw2363098408670074327 : True := trivial
theorem PySem.W.Fast.tw14130590797217149585 : True := trivial
theorem PySem.W.Fast.tw4455843574006467995 : True := trivial
theorem PySem.W.Fast.tw5113648592672482876 : True := trivial
theorem PySem.W.Fast.tw12433515855184324498 : True := trivial
theorem PySem.W.Fast.tw14779840626414134788 : True := trivial
theorem PySem.W.Fast.tw9797649168116214566 : True := trivial
theorem PySem.W.Fast.tw3103065907907581008 : True := trivial
theorem PySem.W.Fast.tw11476821345164525367 : True := trivial
theorem PySem.W.Fast.tw5086246427973191602 : True := trivial
theorem PySem.W.Fast.tw14635544743146339836 : True := trivial
theorem PySem.W.Fast.tw10002089633067451538 : True := trivial
theorem PySem.W.Fast.tw5870978446216339267 : True := trivial
theorem PySem.W.Fast.tw8103482247099875103 : True := trivial
theorem PySem.W.Fast.tw9523600438956762438 : True := trivial
theorem PySem.W.Fast.tw14550302879134820011 : True := trivial
theorem PySem.W.Fast.tw16963831832515716560 : True := trivial
theorem PySem.W.Fast.tw14260710101142605097 : True := trivial
theorem PySem.W.Fast.tw1923147472115415923 : True := trivial
theorem PySem.W.Fast.tw11400857073384999085 : True := trivial
theorem PySem.W.Fast.tw9716888096639264964 : True := trivial
theorem PySem.W.Fast.tw5947077534482685661 : True := trivial
theorem PySem.W.Fast.tw13630800727162686680 : True := trivial
theorem PySem.W.Fast.tw1264961881883556315 : True := trivial
theorem PySem.W.Fast.tw9094797938252525665 : True := trivial
theorem PySem.W.Fast.tw6537032319072303151 : True := trivial
theorem PySem.W.Fast.tw11624956056087501712 : True := trivial
theorem PySem.W.Fast.tw15266789589808946476 : True := trivial
theorem PySem.W.Fast.tw9487354758870246950 : True := trivial
theorem PySem.W.Fast.tw7000210886398827407 : True := trivial
theorem PySem.W.Fast.tw14087568098048440210 : True := trivial
theorem PySem.W.Fast.tw256876340202553074 : True := trivial
theorem PySem.W.Fast.tw936556356357067569 : True := trivial
theorem PySem.W.Fast.tw7879202097775132136 : True := trivial
theorem PySem.W.Fast.tw7133762410392231338 : True := trivial
theorem PySem.W.Fast.tw5660183623796131819 : True := trivial
theorem PySem.W.Fast.tw10811270223861366368 : True := trivial
theorem PySem.W.Fast.tw11150162785569783141 : True := trivial
theorem PySem.W.Fast.tw2879732775999166189 : True := trivial
theorem PySem.W.Fast.tw5134760521144239485 : True := trivial
theorem PySem.W.Fast.tw12851302453805734956 : True := trivial
theorem PySem.W.Fast.tw1703510231031830584 : True := trivial
theorem PySem.W.Fast.tw9449468905750346994 : True := trivial
theorem PySem.W.Fast.tw9809098813735269814 : True := trivial
theorem PySem.W.Fast.tw3931179803249445193 : True := trivial
theorem PySem.W.Fast.tw491660822337644293 : True := trivial
theorem PySem.W.Fast.tw15526233526313046821 : True := trivial
theorem PySem.W.Fast.tw1538558753889873116 : True := trivial
theorem PySem.W.Fast.tw12750215055172601493 : True := trivial
theorem PySem.W.Fast.tw6458747798000707989 : True := trivial
theorem PySem.W.Fast.tw10913565882865575105 : True := trivial
theorem PySem.W.Fast.tw6915152466483859123 : True := trivial
theorem PySem.W.Fast.tw14074287444915823001 : True := trivial
theorem PySem.W.Fast.tw12700989876882031109 : True := trivial
theorem PySem.W.Fast.tw14375259204436663556 : True := trivial
theorem PySem.W.Fast.tw9316995878465683469 : True := trivial
theorem PySem.W.Fast.tw16720285557880225721 : True := trivial
theorem PySem.W.Fast.tw2702565512074455676 : True := trivial
theorem PySem.W.Fast.tw16007989141970338951 : True := trivial
theorem PySem.W.Fast.tw1460772193700297475 : True := trivial
theorem PySem.W.Fast.tw2249585083545607501 : True := trivial
theorem PySem.W.Fast.tw12326291765238137160 : True := trivial
theorem PySem.W.Fast.tw138395296848125242 : True := trivial
theorem PySem.W.Fast.tw9133700294775100182 : True := trivial
theorem PySem.W.Fast.tw5186821504720447076 : True := trivial
theorem PySem.W.Fast.tw11913689203314782881 : True := trivial
theorem PySem.W.Fast.tw392848756016235801 : True := trivial
theorem PySem.W.Fast.tw14286828683472702949 : True := trivial
theorem PySem.W.Fast.tw9134785523135470163 : True := trivial
theorem PySem.W.Fast.tw9626160559321385383 : True := trivial
theorem PySem.W.Fast.tw12189072736738370168 : True := trivial
theorem PySem.W.Fast.tw11724745278671474040 : True := trivial
theorem PySem.W.Fast.tw14443301945144971676 : True := trivial
theorem PySem.W.Fast.tw16728037799410605193 : True := trivial
theorem PySem.W.Fast.tw2990943595071237020 : True := trivial
theorem PySem.W.Fast.tw16919320045024125856 : True := trivial
theorem PySem.W.Fast.tw8507266086529389926 : True := trivial
theorem PySem.W.Fast.tw5050530084468972952 : True := trivial
theorem PySem.W.Fast.tw13156053926807104927 : True := trivial
theorem PySem.W.Fast.tw11659753869948356841 : True := trivial
theorem PySem.W.Fast.tw2519551442137132707 : True := trivial
theorem PySem.W.Fast.tw12633598476330502737 : True := trivial
theorem PySem.W.Fast.tw14145842642509988105 : True := trivial
theorem PySem.W.Fast.tw2361692496675583603 : True := trivial
theorem PySem.W.Fast.tw14977541140318094437 : True := trivial
theorem PySem.W.Fast.tw4798788301344011687 : True := trivial
theorem PySem.W.Fast.tw11469668056434107830 : True := trivial
theorem PySem.W.Fast.tw1656000135636579542 : True := trivial
theorem PySem.W.Fast.tw16296326248927870132 : True := trivial
theorem PySem.W.Fast.tw320362373298113312 : True := trivial
theorem PySem.W.Fast.tw10756472725213741453 : True := trivial
theorem PySem.W.Fast.tw14251187504430381004 : True := trivial
theorem PySem.W.Fast.tw6370121031760953779 : True := trivial
theorem PySem.W.Fast.tw16367974840291311430 : True := trivial
theorem PySem.W.Fast.tw5884934711673867513 : True := trivial
theorem PySem.W.Fast.tw17444377195916392550 : True := trivial
theorem PySem.W.Fast.tw9423246147259847472 : True := trivial
theorem PySem.W.Fast.tw5778285665077635999 : True := trivial
theorem PySem.W.Fast.tw9541157773713008297 : True := trivial
theorem PySem.W.Fast.tw14838287079462121073 : True := trivial
theorem PySem.W.Fast.tw580268601683877114 : True := trivial
theorem PySem.W.Fast.tw8781169321399663733 : True := trivial
theorem PySem.W.Fast.tw16398012666547619670 : True := trivial
theorem PySem.W.Fast.tw1217449296822002004 : True := trivial
theorem PySem.W.Fast.tw1037945077323164404 : True := trivial
theorem PySem.W.Fast.tw6408069747710178703 : True := trivial
theorem PySem.W.Fast.tw13111235643444354774 : True := trivial
theorem PySem.W.Fast.tw17107005149368762484 : True := trivial
theorem PySem.W.Fast.tw2372791783836604604 : True := trivial
theorem PySem.W.Fast.tw14220047029871618689 : True := trivial
theorem PySem.W.Fast.tw15467245063892464689 : True := trivial
theorem PySem.W.Fast.tw2244731408398285604 : True := trivial
theorem PySem.W.Fast.tw13523696139085143496 : True := trivial
theorem PySem.W.Fast.tw9953804685325083754 : True := trivial
theorem PySem.W.Fast.tw693282397919713416 : True := trivial
theorem PySem.W.Fast.tw8054144709108895196 : True := trivial
theorem PySem.W.Fast.tw4427265873947754661 : True := trivial
theorem PySem.W.Fast.tw129949923426482061 : True := trivial
theorem PySem.W.Fast.tw11569744961558960975 : True := trivial
theorem PySem.W.Fast.tw3077161789174805033 : True := trivial
theorem PySem.W.Fast.tw4382472190963510746 : True := trivial
theorem PySem.W.Fast.tw13738509879496824102 : True := trivial
theorem PySem.W.Fast.tw13493339892179048834 : True := trivial
theorem PySem.W.Fast.tw10231768871280699102 : True := trivial
theorem PySem.W.Fast.tw17369862911560857799 : True := trivial
theorem PySem.W.Fast.tw4492955978886935745 : True := trivial
theorem PySem.W.Fast.tw16051731230240661808 : True := trivial
theorem PySem.W.Fast.tw13897652270736619167 : True := trivial
theorem PySem.W.Fast.tw2137106824520259538 : True := trivial
theorem PySem.W.Fast.tw4957581277199158356 : True := trivial
theorem PySem.W.Fast.tw11148367353282245279 : True := trivial
theorem PySem.W.Fast.tw4299323909022765971 : True := trivial
theorem PySem.W.Fast.tw1076889836141866904 : True := trivial
theorem PySem.W.Fast.tw3392146307101455482 : True := trivial
theorem PySem.W.Fast.tw18044572532933312919 : True := trivial
theorem PySem.W.Fast.tw6609481790429514632 : True := trivial
theorem PySem.W.Fast.tw923673965914364418 : True := trivial
theorem PySem.W.Fast.tw4313997476391600787 : True := trivial
theorem PySem.W.Fast.tw8572148007855916172 : True := trivial
theorem PySem.W.Fast.tw10382255311339778494 : True := trivial
theorem PySem.W.Fast.tw14613747965423524757 : True := trivial
theorem PySem.W.Fast.tw10696755875303832611 : True := trivial
theorem PySem.W.Fast.tw14727448370606137513 : True := trivial
theorem PySem.W.Fast.tw9325028804815145245 : True := trivial
theorem PySem.W.Fast.tw13116489959020544631 : True := trivial
theorem PySem.W.Fast.tw17613878268437771470 : True := trivial
theorem PySem.W.Fast.tw18069713339993695828 : True := trivial
theorem PySem.W.Fast.tw13220333967248162414 : True := trivial
theorem PySem.W.Fast.tw9666955619838816682 : True := trivial
theorem PySem.W.Fast.tw2757378042012778524 : True := trivial
theorem PySem.W.Fast.tw15541352327327474693 : True := trivial
theorem PySem.W.Fast.tw741022153219099220 : True := trivial
theorem PySem.W.Fast.tw12975806346723591188 : True := trivial
theorem PySem.W.Fast.tw16856640794307292204 : True := trivial
theorem PySem.W.Fast.tw6371679008897880853 : True := trivial
theorem PySem.W.Fast.tw7177701701204716305 : True := trivial
theorem PySem.W.Fast.tw3141607310511877664 : True := trivial
theorem PySem.W.Fast.tw15752579779095761467 : True := trivial
theorem PySem.W.Fast.tw13261269936407772718 : True := trivial
theorem PySem.W.Fast.tw12057071033142422065 : True := trivial
theorem PySem.W.Fast.tw4562311104023998914 : True := trivial
theorem PySem.W.Fast.tw15210566309014863975 : True := trivial
theorem PySem.W.Fast.tw1551456361972837998 : True := trivial
theorem PySem.W.Fast.tw9158136889380998141 : True := trivial
theorem PySem.W.Fast.tw17265353980303824746 : True := trivial
theorem PySem.W.Fast.tw13294401644368199021 : True := trivial
theorem PySem.W.Fast.tw3162280252745796831 : True := trivial
theorem PySem.W.Fast.tw14450004873009267307 : True := trivial
theorem PySem.W.Fast.tw5357404194419597652 : True := trivial
theorem PySem.W.Fast.tw9640321211775086547 : True := trivial
theorem PySem.W.Fast.tw16815916119691551613 : True := trivial
theorem PySem.W.Fast.tw6101098776257666458 : True := trivial
theorem PySem.W.Fast.tw14417299952419239657 : True := trivial
theorem PySem.W.Fast.tw18130588668485125353 : True := trivial
theorem PySem.W.Fast.tw17499718427327647769 : True := trivial
theorem PySem.W.Fast.tw9965554505518664392 : True := trivial
theorem PySem.W.Fast.tw2434111757760918616 : True := trivial
theorem PySem.W.Fast.tw15955193326851067888 : True := trivial
theorem PySem.W.Fast.tw15135945439305543744 : True := trivial
theorem PySem.W.Fast.tw15276253140094708256 : True := trivial
theorem PySem.W.Fast.tw13942722140525063532 : True := trivial
theorem PySem.W.Fast.tw12629600441582319704 : True := trivial
theorem PySem.W.Fast.tw2519112944369894769 : True := trivial
theorem PySem.W.Fast.tw5911018137736890021 : True := trivial
theorem PySem.W.Fast.tw10354988641022556582 : True := trivial
theorem PySem.W.Fast.tw13564536000761033359 : True := trivial
theorem PySem.W.Fast.tw17931637964116441695 : True := trivial
theorem PySem.W.Fast.tw17350202361047741650 : True := trivial
theorem PySem.W.Fast.tw17566436822818192969 : True := trivial
theorem PySem.W.Fast.tw1942637500507350184 : True := trivial
theorem PySem.W.Fast.tw18037044640351725122 : True := trivial
theorem PySem.W.Fast.tw14549778549284379693 : True := trivial
theorem PySem.W.Fast.tw6645979555049009482 : True := trivial
theorem PySem.W.Fast.tw13464170943116821651 : True := trivial
theorem PySem.W.Fast.tw2658570097231968528 : True := trivial
theorem PySem.W.Fast.tw14149729776570354274 : True := trivial
theorem PySem.W.Fast.tw14392568641586038855 : True := trivial
theorem PySem.W.Fast.tw9899960610216843239 : True := trivial
theorem PySem.W.Fast.tw17459572280084362410 : True := trivial
theorem PySem.W.Fast.tw11027084807561915617 : True := trivial
theorem PySem.W.Fast.tw1054813430049572400 : True := trivial
theorem PySem.W.Fast.tw1938984158831424842 : True := trivial
theorem PySem.W.Fast.tw7593861784561740589 : True := trivial
theorem PySem.W.Fast.tw15777057740982629630 : True := trivial
theorem PySem.W.Fast.tw6496004825486446081 : True := trivial
theorem PySem.W.Fast.tw6980044359577394044 : True := trivial
theorem PySem.W.Fast.tw13538492895873042112 : True := trivial
theorem PySem.W.Fast.tw1404573808250411955 : True := trivial
theorem PySem.W.Fast.tw11636162522137195529 : True := trivial
theorem PySem.W.Fast.tw5011232700526529971 : True := trivial
theorem PySem.W.Fast.tw9107292808324052701 : True := trivial
theorem PySem.W.Fast.tw7225969461036302727 : True := trivial
theorem PySem.W.Fast.tw14944382250712185861 : True := trivial
theorem PySem.W.Fast.tw6123846312172696754 : True := trivial
theorem PySem.W.Fast.tw9949246257424521455 : True := trivial
theorem PySem.W.Fast.tw13581160992523430957 : True := trivial
theorem PySem.W.Fast.tw8641205107082075080 : True := trivial
theorem PySem.W.Fast.tw2227480402914071933 : True := trivial
theorem PySem.W.Fast.tw15495710762609339418 : True := trivial
theorem PySem.W.Fast.tw2422462569263751307 : True := trivial
theorem PySem.W.Fast.tw2442137889938320609 : True := trivial
theorem PySem.W.Fast.tw10645036634485397306 : True := trivial
theorem PySem.W.Fast.tw11634632048227984729 : True := trivial
theorem PySem.W.Fast.tw7730304695552737969 : True := trivial
theorem PySem.W.Fast.tw3232600888538196 : True := trivial
theorem PySem.W.Fast.tw12665757884292342417 : True := trivial
theorem PySem.W.Fast.tw13416739341001698564 : True := trivial
theorem PySem.W.Fast.tw8268542895100150062 : True := trivial
theorem PySem.W.Fast.tw16165809176117533576 : True := trivial
theorem PySem.W.Fast.tw9108278010779221549 : True := trivial
theorem PySem.W.Fast.tw12552525501872452101 : True := trivial
theorem PySem.W.Fast.tw8981422534363377243 : True := trivial
theorem PySem.W.Fast.tw4400333250133942058 : True := trivial
theorem PySem.W.Fast.tw18153136789399225084 : True := trivial
theorem PySem.W.Fast.tw2942931914227827603 : True := trivial
theorem PySem.W.Fast.tw11384113141932843688 : True := trivial
theorem PySem.W.Fast.tw12025246256304959845 : True := trivial
theorem PySem.W.Fast.tw5200520378393471203 : True := trivial
theorem PySem.W.Fast.tw7024506738603343149 : True := trivial
theorem PySem.W.Fast.tw13910017653437030196 : True := trivial
theorem PySem.W.Fast.tw18001522178067898300 : True := trivial
theorem PySem.W.Fast.tw6095486382026254607 : True := trivial
theorem PySem.W.Fast.tw15554451597044525379 : True := trivial
theorem PySem.W.Fast.tw12074916443882629209 : True := trivial
theorem PySem.W.Fast.tw340712420070766406 : True := trivial
theorem PySem.W.Fast.tw3179726257787405855 : True := trivial
theorem PySem.W.Fast.tw8474828380688436881 : True := trivial
theorem PySem.W.Fast.tw5219490998304325588 : True := trivial
theorem PySem.W.Fast.tw12499302354885064639 : True := trivial
theorem PySem.W.Fast.tw9053010170808266803 : True := trivial
theorem PySem.W.Fast.tw11161297833627181807 : True := trivial
theorem PySem.W.Fast.tw7998676010900525368 : True := trivial
theorem PySem.W.Fast.tw14882464624401148191 : True := trivial
theorem PySem.W.Fast.tw18149342646058988101 : True := trivial
theorem PySem.W.Fast.tw6735150274922814006 : True := trivial
theorem PySem.W.Fast.tw1543714568630987333 : True := trivial
theorem PySem.W.Fast.tw13316627966749399366 : True := trivial
theorem PySem.W.Fast.tw11796121808582585261 : True := trivial
theorem PySem.W.Fast.tw8138759781853938314 : True := trivial
theorem PySem.W.Fast.tw9003067087359145110 : True := trivial
theorem PySem.W.Fast.tw2054863356017403549 : True := trivial
theorem PySem.W.Fast.tw14054195430766804757 : True := trivial
theorem PySem.W.Fast.tw563762265360755656 : True := trivial
theorem PySem.W.Fast.tw10983300209681544254 : True := trivial
theorem PySem.W.Fast.tw14732619108876063910 : True := trivial
theorem PySem.W.Fast.tw3312697551069410924 : True := trivial
theorem PySem.W.Fast.tw13409126337184755222 : True := trivial
theorem PySem.W.Fast.tw17585468133345962790 : True := trivial
theorem PySem.W.Fast.tw17378224071225114522 : True := trivial
theorem PySem.W.Fast.tw4112938097897603750 : True := trivial
theorem PySem.W.Fast.tw14323671546241937450 : True := trivial
theorem PySem.W.Fast.tw2698060090254135908 : True := trivial
theorem PySem.W.Fast.tw9502901704746273656 : True := trivial
theorem PySem.W.Fast.tw12862584496204417557 : True := trivial
theorem PySem.W.Fast.tw4013008853546890420 : True := trivial
theorem PySem.W.Fast.tw16258355846550922911 : True := trivial
theorem PySem.W.Fast.tw3322710867907160699 : True := trivial
theorem PySem.W.Fast.tw5722473793047173188 : True := trivial
theorem PySem.W.Fast.tw4477154161999304400 : True := trivial
theorem PySem.W.Fast.tw6073860040141005583 : True := trivial
theorem PySem.W.Fast.tw13096642941411363856 : True := trivial
theorem PySem.W.Fast.tw6899909995985069964 : True := trivial
theorem PySem.W.Fast.tw3119336715310149409 : True := trivial
theorem PySem.W.Fast.tw1864659411401586284 : True := trivial
theorem PySem.W.Fast.tw397816114645112374 : True := trivial
theorem PySem.W.Fast.tw10426552627672150605 : True := trivial
theorem PySem.W.Fast.tw15902538456583760450 : True := trivial
theorem PySem.W.Fast.tw13420656360453267244 : True := trivial
theorem PySem.W.Fast.tw11177676109466336738 : True := trivial
theorem PySem.W.Fast.tw8853863518610693523 : True := trivial
theorem PySem.W.Fast.tw8102712482186819700 : True := trivial
theorem PySem.W.Fast.tw11709085826813211992 : True := trivial
theorem PySem.W.Fast.tw15957046071008629164 : True := trivial
theorem PySem.W.Fast.tw14622204865919036946 : True := trivial
theorem PySem.W.Fast.tw13452622677899715128 : True := trivial
theorem PySem.W.Fast.tw8589938887302773682 : True := trivial
theorem PySem.W.Fast.tw13955101646980340479 : True := trivial
theorem PySem.W.Fast.tw9430340576796062654 : True := trivial
theorem PySem.W.Fast.tw7725720066165413053 : True := trivial
theorem PySem.W.Fast.tw993324382343667897 : True := trivial
theorem PySem.W.Fast.tw5201417871904978528 : True := trivial
theorem PySem.W.Fast.tw10149413507989335238 : True := trivial
theorem PySem.W.Fast.tw8399537018852777043 : True := trivial
theorem PySem.W.Fast.tw17800411061558604580 : True := trivial
theorem PySem.W.Fast.tw4344934328878162014 : True := trivial
theorem PySem.W.Fast.tw14518889602184877471 : True := trivial
theorem PySem.W.Fast.tw4912133397967030119 : True := trivial
theorem PySem.W.Fast.tw16204035005634909262 : True := trivial
theorem PySem.W.Fast.tw9149371520209273128 : True := trivial
theorem PySem.W.Fast.tw12720833389994916992 : True := trivial
theorem PySem.W.Fast.tw1989728582378768674 : True := trivial
theorem PySem.W.Fast.tw4773198800368714228 : True := trivial
theorem PySem.W.Fast.tw2073960002880254721 : True := trivial
theorem PySem.W.Fast.tw16117541722166800301 : True := trivial
theorem PySem.W.Fast.tw3570978101884401535 : True := trivial
theorem PySem.W.Fast.tw13920445343940726521 : True := trivial
theorem PySem.W.Fast.tw14771860942864312143 : True := trivial
theorem PySem.W.Fast.tw7184422884620375116 : True := trivial
theorem PySem.W.Fast.tw2782671595259837965 : True := trivial
theorem PySem.W.Fast.tw11474988638723237293 : True := trivial
theorem PySem.W.Fast.tw1277711185002055104 : True := trivial
theorem PySem.W.Fast.tw717862184625075456 : True := trivial
theorem PySem.W.Fast.tw14901258053388645665 : True := trivial
theorem PySem.W.Fast.tw17438526046271713520 : True := trivial
theorem PySem.W.Fast.tw16740012844505998305 : True := trivial
theorem PySem.W.Fast.tw10288759083988205751 : True := trivial
theorem PySem.W.Fast.tw11360774857880967711 : True := trivial
theorem PySem.W.Fast.tw9987077600406844449 : True := trivial
theorem PySem.W.Fast.tw16664205676288807550 : True := trivial
theorem PySem.W.Fast.tw11949519146972920732 : True := trivial
theorem PySem.W.Fast.tw559480865722749277 : True := trivial
theorem PySem.W.Fast.tw4578987040401305736 : True := trivial
theorem PySem.W.Fast.tw1427401035795821197 : True := trivial
theorem PySem.W.Fast.tw9703096904103467657 : True := trivial
theorem PySem.W.Fast.tw10500736740364600756 : True := trivial
theorem PySem.W.Fast.tw14910589796918875312 : True := trivial
theorem PySem.W.Fast.tw14787556665066276543 : True := trivial
theorem PySem.W.Fast.tw16323172560073297959 : True := trivial
theorem PySem.W.Fast.tw110592300796037782 : True := trivial
theorem PySem.W.Fast.tw6582052536357078769 : True := trivial
theorem PySem.W.Fast.tw16541851654987619680 : True := trivial
theorem PySem.W.Fast.tw1241486034397006398 : True := trivial
theorem PySem.W.Fast.tw13226597250889308899 : True := trivial
theorem PySem.W.Fast.tw12807759293984191558 : True := trivial
theorem PySem.W.Fast.tw6000006029186502122 : True := trivial
theorem PySem.W.Fast.tw13624455018814343444 : True := trivial
theorem PySem.W.Fast.tw17447998664663305937 : True := trivial
theorem PySem.W.Fast.tw1919381547074607264 : True := trivial
theorem PySem.W.Fast.tw18111263378931366918 : True := trivial
theorem PySem.W.Fast.tw16514182010797451961 : True := trivial
theorem PySem.W.Fast.tw875885447361409958 : True := trivial
theorem PySem.W.Fast.tw3252353875300224370 : True := trivial
theorem PySem.W.Fast.tw9484513725436193041 : True := trivial
theorem PySem.W.Fast.tw14546726052966020269 : True := trivial
theorem PySem.W.Fast.tw10276074121888280257 : True := trivial
theorem PySem.W.Fast.tw16273348223808649238 : True := trivial
theorem PySem.W.Fast.tw7667488827548774374 : True := trivial
theorem PySem.W.Fast.tw11015242854455023637 : True := trivial
theorem PySem.W.Fast.tw2143954687718947624 : True := trivial
theorem PySem.W.Fast.tw11816040132045606973 : True := trivial
theorem PySem.W.Fast.tw6598428892354716141 : True := trivial
theorem PySem.W.Fast.tw15249244123582672719 : True := trivial
theorem PySem.W.Fast.tw3377659171737996799 : True := trivial
theorem PySem.W.Fast.tw14158525321196339780 : True := trivial
theorem PySem.W.Fast.tw11571470420304347664 : True := trivial
theorem PySem.W.Fast.tw18032974566755514261 : True := trivial
theorem PySem.W.Fast.tw14006718339011191999 : True := trivial
theorem PySem.W.Fast.tw8349209328262490702 : True := trivial
theorem PySem.W.Fast.tw9671979161392496953 : True := trivial
theorem PySem.W.Fast.tw2548388874763833217 : True := trivial
theorem PySem.W.Fast.tw12834612697268204575 : True := trivial
theorem PySem.W.Fast.tw17674832719399196806 : True := trivial
theorem PySem.W.Fast.tw1257166347066992537 : True := trivial
theorem PySem.W.Fast.tw7003840764796535448 : True := trivial
theorem PySem.W.Fast.tw18170066690707250650 : True := trivial
theorem PySem.W.Fast.tw1151794393480182264 : True := trivial
theorem PySem.W.Fast.tw1505825354301911030 : True := trivial
theorem PySem.W.Fast.tw9644130498877241395 : True := trivial
theorem PySem.W.Fast.tw4394244561893241515 : True := trivial
theorem PySem.W.Fast.tw16515701111699247349 : True := trivial
theorem PySem.W.Fast.tw239292006730880281 : True := trivial
theorem PySem.W.Fast.tw15758428400269622139 : True := trivial
theorem PySem.W.Fast.tw11083623132095010405 : True := trivial
theorem PySem.W.Fast.tw7230817535766558574 : True := trivial
theorem PySem.W.Fast.tw562623250577632104 : True := trivial
theorem PySem.W.Fast.tw1917534234640499299 : True := trivial
theorem PySem.W.Fast.tw12026408731004318265 : True := trivial
theorem PySem.W.Fast.tw10584925407222901033 : True := trivial
theorem PySem.W.Fast.tw1575751143733834748 : True := trivial
theorem PySem.W.Fast.tw12174142914881888285 : True := trivial
theorem PySem.W.Fast.tw7218339825348238395 : True := trivial
theorem PySem.W.Fast.tw5144928831394313742 : True := trivial
theorem PySem.W.Fast.tw5265829687287002355 : True := trivial
theorem PySem.W.Fast.tw14790275289249661608 : True := trivial
theorem PySem.W.Fast.tw8565810227623164661 : True := trivial
theorem PySem.W.Fast.tw10931538040074907742 : True := trivial
theorem PySem.W.Fast.tw4822038459910261767 : True := trivial
theorem PySem.W.Fast.tw5424046984660162894 : True := trivial
theorem PySem.W.Fast.tw370835361926620330 : True := trivial
theorem PySem.W.Fast.tw11579843622805571811 : True := trivial
theorem PySem.W.Fast.tw3406451409501079771 : True := trivial
theorem PySem.W.Fast.tw14689020512589621092 : True := trivial
theorem PySem.W.Fast.tw8782018054388336268 : True := trivial
theorem PySem.W.Fast.tw11755901707404578233 : True := trivial
theorem PySem.W.Fast.tw6008956153742140715 : True := trivial
theorem PySem.W.Fast.tw17478206937516727314 : True := trivial
theorem PySem.W.Fast.tw4362777905247340957 : True := trivial
theorem PySem.W.Fast.tw6268690038232312641 : True := trivial
theorem PySem.W.Fast.tw16609100362580715024 : True := trivial
theorem PySem.W.Fast.tw8898941866258133573 : True := trivial
theorem PySem.W.Fast.tw15950431454048054022 : True := trivial
theorem PySem.W.Fast.tw7736098721682531256 : True := trivial
theorem PySem.W.Fast.tw17544731576321777199 : True := trivial
theorem PySem.W.Fast.tw917723047735011775 : True := trivial
theorem PySem.W.Fast.tw15489290452420824997 : True := trivial
theorem PySem.W.Fast.tw11731185024723473466 : True := trivial
theorem PySem.W.Fast.tw11951617221315146229 : True := trivial
theorem PySem.W.Fast.tw11537327786793612471 : True := trivial
theorem PySem.W.Fast.tw11930545117431742900 : True := trivial
theorem PySem.W.Fast.tw8741603782149305249 : True := trivial
theorem PySem.W.Fast.tw7653884850119182485 : True := trivial
theorem PySem.W.Fast.tw5681638560730421116 : True := trivial
theorem PySem.W.Fast.tw6523023502074630520 : True := trivial
theorem PySem.W.Fast.tw17755414551000019334 : True := trivial
theorem PySem.W.Fast.tw17482489284035343876 : True := trivial
theorem PySem.W.Fast.tw1396880412857610144 : True := trivial
theorem PySem.W.Fast.tw5244883658510743766 : True := trivial
theorem PySem.W.Fast.tw9204725438302931675 : True := trivial
theorem PySem.W.Fast.tw8992648156132162446 : True := trivial
theorem PySem.W.Fast.tw13983552525616182192 : True := trivial
theorem PySem.W.Fast.tw17693138095562344726 : True := trivial
theorem PySem.W.Fast.tw4175784474772798928 : True := trivial
theorem PySem.W.Fast.tw3484563016853082646 : True := trivial
theorem PySem.W.Fast.tw13232543345959417375 : True := trivial
theorem PySem.W.Fast.tw11763015393828043237 : True := trivial
theorem PySem.W.Fast.tw7732369333822458071 : True := trivial
theorem PySem.W.Fast.tw3488710752628088006 : True := trivial
theorem PySem.W.Fast.tw17034865447765098746 : True := trivial
theorem PySem.W.Fast.tw6980378725493882779 : True := trivial
theorem PySem.W.Fast.tw5062969916275910229 : True := trivial
theorem PySem.W.Fast.tw14829135453717133491 : True := trivial
theorem PySem.W.Fast.tw14091281664353009837 : True := trivial
theorem PySem.W.Fast.tw11273005589846132684 : True := trivial
theorem PySem.W.Fast.tw5454932695146240444 : True := trivial
theorem PySem.W.Fast.tw2152726954829792318 : True := trivial
theorem PySem.W.Fast.tw4238481771631981237 : True := trivial
theorem PySem.W.Fast.tw14427941776266171076 : True := trivial
theorem PySem.W.Fast.tw11119617640493662070 : True := trivial
theorem PySem.W.Fast.tw13440315940387855615 : True := trivial
theorem PySem.W.Fast.tw16341826037039099522 : True := trivial
theorem PySem.W.Fast.tw1575526067700116751 : True := trivial
theorem PySem.W.Fast.tw5662692377698122783 : True := trivial
theorem PySem.W.Fast.tw15734824349768622134 : True := trivial
theorem PySem.W.Fast.tw9300063758952965160 : True := trivial
theorem PySem.W.Fast.tw9055160878379368170 : True := trivial
theorem PySem.W.Fast.tw3093716258341353479 : True := trivial
theorem PySem.W.Fast.tw11899186069423558484 : True := trivial
theorem PySem.W.Fast.tw2867422536504854500 : True := trivial
theorem PySem.W.Fast.tw8127278919483524255 : True := trivial
theorem PySem.W.Fast.tw3834004082122314546 : True := trivial
theorem PySem.W.Fast.tw17799082197417789288 : True := trivial
theorem PySem.W.Fast.tw12522259247686803871 : True := trivial
theorem PySem.W.Fast.tw13344926473995968198 : True := trivial
theorem PySem.W.Fast.tw14705985698169654070 : True := trivial
theorem PySem.W.Fast.tw8403913067875990917 : True := trivial
theorem PySem.W.Fast.tw15915714251812529105 : True := trivial
theorem PySem.W.Fast.tw3912813975463830235 : True := trivial
theorem PySem.W.Fast.tw4941429882786066817 : True := trivial
theorem PySem.W.Fast.tw13657023590096949321 : True := trivial
theorem PySem.W.Fast.tw900900620337591870 : True := trivial
theorem PySem.W.Fast.tw1792357837720615233 : True := trivial
theorem PySem.W.Fast.tw2267995249547876340 : True := trivial
theorem PySem.W.Fast.tw4773700243785010204 : True := trivial
theorem PySem.W.Fast.tw2438035716595924415 : True := trivial
theorem PySem.W.Fast.tw5632975729848689657 : True := trivial
theorem PySem.W.Fast.tw17543680490742860471 : True := trivial
theorem PySem.W.Fast.tw14976485436808910827 : True := trivial
theorem PySem.W.Fast.tw15913359880902011275 : True := trivial
theorem PySem.W.Fast.tw1032484890445140665 : True := trivial
theorem PySem.W.Fast.tw12993167165475913361 : True := trivial
theorem PySem.W.Fast.tw16397428153625680822 : True := trivial
theorem PySem.W.Fast.tw1357353824267916792 : True := trivial
theorem PySem.W.Fast.tw574280887680783178 : True := trivial
theorem PySem.W.Fast.tw13973382539118828042 : True := trivial
theorem PySem.W.Fast.tw16203233298509973050 : True := trivial
theorem PySem.W.Fast.tw13793418050740871060 : True := trivial
theorem PySem.W.Fast.tw2635543242714519635 : True := trivial
theorem PySem.W.Fast.tw12017923885560196794 : True := trivial
theorem PySem.W.Fast.tw17480219538260948662 : True := trivial
theorem PySem.W.Fast.tw1113521443938371467 : True := trivial
theorem PySem.W.Fast.tw3358347832796336983 : True := trivial
theorem PySem.W.Fast.tw12977576884046494014 : True := trivial
theorem PySem.W.Fast.tw6028414637247914686 : True := trivial
theorem PySem.W.Fast.tw17266366180243293740 : True := trivial
theorem PySem.W.Fast.tw11856540354494265054 : True := trivial
theorem PySem.W.Fast.tw16927570549752952807 : True := trivial
theorem PySem.W.Fast.tw9779856148615456866 : True := trivial
theorem PySem.W.Fast.tw12840206891779910873 : True := trivial
theorem PySem.W.Fast.tw1254051163469768824 : True := trivial
theorem PySem.W.Fast.tw15641120908678688010 : True := trivial
theorem PySem.W.Fast.tw17500998301355709838 : True := trivial
theorem PySem.W.Fast.tw11604145224172909314 : True := trivial
theorem PySem.W.Fast.tw1255773713416458620 : True := trivial
theorem PySem.W.Fast.tw5716183481287967897 : True := trivial
theorem PySem.W.Fast.tw5819915379738063699 : True := trivial
theorem PySem.W.Fast.tw3072336376677648503 : True := trivial
theorem PySem.W.Fast.tw1799377707393782101 : True := trivial
theorem PySem.W.Fast.tw9264856260623755685 : True := trivial
theorem PySem.W.Fast.tw13265436836144027380 : True := trivial
theorem PySem.W.Fast.tw16025655654532651726 : True := trivial
theorem PySem.W.Fast.tw1673912837016007398 : True := trivial
theorem PySem.W.Fast.tw8620424765574273926 : True := trivial
theorem PySem.W.Fast.tw8261879243322304312 : True := trivial
theorem PySem.W.Fast.tw16733870861532256626 : True := trivial
theorem PySem.W.Fast.tw17436774779965465796 : True := trivial
theorem PySem.W.Fast.tw14488804090668580087 : True := trivial
theorem PySem.W.Fast.tw13094094546846018237 : True := trivial
theorem PySem.W.Fast.tw2150154812573691633 : True := trivial
theorem PySem.W.Fast.tw13691976709060650156 : True := trivial
theorem PySem.W.Fast.tw11212276094022673835 : True := trivial
theorem PySem.W.Fast.tw14346503212483396654 : True := trivial
theorem PySem.W.Fast.tw5488875156383739162 : True := trivial
theorem PySem.W.Fast.tw14264841205945183952 : True := trivial
theorem PySem.W.Fast.tw13156170710362047264 : True := trivial
theorem PySem.W.Fast.tw15500209803241502131 : True := trivial
theorem PySem.W.Fast.tw2958597149653531632 : True := trivial
theorem PySem.W.Fast.tw13685229940395199260 : True := trivial
theorem PySem.W.Fast.tw9950167646209221661 : True := trivial
theorem PySem.W.Fast.tw2833815950235159158 : True := trivial
theorem PySem.W.Fast.tw15187313229642995428 : True := trivial
theorem PySem.W.Fast.tw14804038523304817662 : True := trivial
theorem PySem.W.Fast.tw5732861338710351381 : True := trivial
theorem PySem.W.Fast.tw12298719404868738432 : True := trivial
theorem PySem.W.Fast.tw3024815746458201396 : True := trivial
theorem PySem.W.Fast.tw7827125394439016616 : True := trivial
theorem PySem.W.Fast.tw16715414533424449829 : True := trivial
theorem PySem.W.Fast.tw2639213920154604467 : True := trivial
theorem PySem.W.Fast.tw17117180660768251340 : True := trivial
theorem PySem.W.Fast.tw1519427003580227841 : True := trivial
theorem PySem.W.Fast.tw16273922461442642365 : True := trivial
theorem PySem.W.Fast.tw12814486175121490502 : True := trivial
theorem PySem.W.Fast.tw10892580187453555171 : True := trivial
theorem PySem.W.Fast.tw9011323448776936523 : True := trivial
theorem PySem.W.Fast.tw14130286388966705256 : True := trivial
theorem PySem.W.Fast.tw3475748644285766469 : True := trivial
theorem PySem.W.Fast.tw6400341179365732810 : True := trivial
theorem PySem.W.Fast.tw2105045233645547835 : True := trivial
theorem PySem.W.Fast.tw3886597219733565187 : True := trivial
theorem PySem.W.Fast.tw525548122548249738 : True := trivial
theorem PySem.W.Fast.tw868115862361649385 : True := trivial
theorem PySem.W.Fast.tw16994848613142449243 : True := trivial
theorem PySem.W.Fast.tw12211319645519891951 : True := trivial
theorem PySem.W.Fast.tw1654908981633497097 : True := trivial
theorem PySem.W.Fast.tw14076593589452814417 : True := trivial
theorem PySem.W.Fast.tw16914937528504874166 : True := trivial
theorem PySem.W.Fast.tw9785603468277249774 : True := trivial
theorem PySem.W.Fast.tw16926558983709569165 : True := trivial
theorem PySem.W.Fast.tw10555870800915952653 : True := trivial
theorem PySem.W.Fast.tw16779415646457840091 : True := trivial
theorem PySem.W.Fast.tw17913186903422888658 : True := trivial
theorem PySem.W.Fast.tw6890225451752218180 : True := trivial
theorem PySem.W.Fast.tw6470468354291869599 : True := trivial
theorem PySem.W.Fast.tw8083081233016783451 : True := trivial
theorem PySem.W.Fast.tw4628488868523972377 : True := trivial
theorem PySem.W.Fast.tw2876648073368539270 : True := trivial
theorem PySem.W.Fast.tw6775377375272145841 : True := trivial
theorem PySem.W.Fast.tw1012877741953106438 : True := trivial
theorem PySem.W.Fast.tw14199472194386113568 : True := trivial
theorem PySem.W.Fast.tw18256338354777935340 : True := trivial
theorem PySem.W.Fast.tw5648815764151680110 : True := trivial
theorem PySem.W.Fast.tw16706872074684870656 : True := trivial
theorem PySem.W.Fast.tw11874554691416127264 : True := trivial
theorem PySem.W.Fast.tw4636220952390923315 : True := trivial
theorem PySem.W.Fast.tw14691599073962696162 : True := trivial
theorem PySem.W.Fast.tw17555191800789669014 : True := trivial
theorem PySem.W.Fast.tw396794798609408813 : True := trivial
theorem PySem.W.Fast.tw3944330047129497104 : True := trivial
theorem PySem.W.Fast.tw6134373967895010276 : True := trivial
theorem PySem.W.Fast.tw15432872332137188078 : True := trivial
theorem PySem.W.Fast.tw4789561814157537453 : True := trivial
theorem PySem.W.Fast.tw3032043593969914141 : True := trivial
theorem PySem.W.Fast.tw13269530935900178990 : True := trivial
theorem PySem.W.Fast.tw11164297139250385778 : True := trivial
theorem PySem.W.Fast.tw8608633109672532168 : True := trivial
theorem PySem.W.Fast.tw9681821804792433497 : True := trivial
theorem PySem.W.Fast.tw2740202665897321383 : True := trivial
theorem PySem.W.Fast.tw10610852334057101413 : True := trivial
theorem PySem.W.Fast.tw17394846265049732540 : True := trivial
theorem PySem.W.Fast.tw11623807183421864891 : True := trivial
theorem PySem.W.Fast.tw818289906099939901 : True := trivial
theorem PySem.W.Fast.tw1018447707917614501 : True := trivial
theorem PySem.W.Fast.tw7186714401816460175 : True := trivial
theorem PySem.W.Fast.tw10018299249267330392 : True := trivial
theorem PySem.W.Fast.tw18379431947807928349 : True := trivial
theorem PySem.W.Fast.tw15596746054767282901 : True := trivial
theorem PySem.W.Fast.tw5153116188353024210 : True := trivial
theorem PySem.W.Fast.tw5581409096262440775 : True := trivial
theorem PySem.W.Fast.tw16936450175583113830 : True := trivial
theorem PySem.W.Fast.tw18121510814500676195 : True := trivial
theorem PySem.W.Fast.tw13548466784467447119 : True := trivial
theorem PySem.W.Fast.tw1097155434587313409 : True := trivial
theorem PySem.W.Fast.tw1345767995301217020 : True := trivial
theorem PySem.W.Fast.tw14692766724569844422 : True := trivial
theorem PySem.W.Fast.tw653650324827071401 : True := trivial
theorem PySem.W.Fast.tw359223460161095865 : True := trivial
theorem PySem.W.Fast.tw14297330139080018303 : True := trivial
theorem PySem.W.Fast.tw5206445562615009324 : True := trivial
theorem PySem.W.Fast.tw14702364270361062965 : True := trivial
theorem PySem.W.Fast.tw5521715491724751596 : True := trivial
theorem PySem.W.Fast.tw5750434673303813650 : True := trivial
theorem PySem.W.Fast.tw1488592156346907795 : True := trivial
theorem PySem.W.Fast.tw7366969435779271342 : True := trivial
theorem PySem.W.Fast.tw499148246544470490 : True := trivial
theorem PySem.W.Fast.tw10619308168237400394 : True := trivial
theorem PySem.W.Fast.tw14949437296055551427 : True := trivial
theorem PySem.W.Fast.tw8657781114015976645 : True := trivial
theorem PySem.W.Fast.tw8524509294961000331 : True := trivial
theorem PySem.W.Fast.tw15203381029111767937 : True := trivial
theorem PySem.W.Fast.tw17203205182882551255 : True := trivial
theorem PySem.W.Fast.tw14411030266171989425 : True := trivial
theorem PySem.W.Fast.tw10112496085254451710 : True := trivial
theorem PySem.W.Fast.tw12583203304232160910 : True := trivial
theorem PySem.W.Fast.tw448358499782377683 : True := trivial
theorem PySem.W.Fast.tw6750059415439982674 : True := trivial
theorem PySem.W.Fast.tw3236386796914735261 : True := trivial
theorem PySem.W.Fast.tw13168721053290120366 : True := trivial
theorem PySem.W.Fast.tw10255569468891776716 : True := trivial
theorem PySem.W.Fast.tw9188143269333167133 : True := trivial
theorem PySem.W.Fast.tw16050064014383362271 : True := trivial
theorem PySem.W.Fast.tw494137514287990473 : True := trivial
theorem PySem.W.Fast.tw14465287013588482754 : True := trivial
theorem PySem.W.Fast.tw12059379563540457816 : True := trivial
theorem PySem.W.Fast.tw517610470471293999 : True := trivial
theorem PySem.W.Fast.tw14207056029209378957 : True := trivial
theorem PySem.W.Fast.tw13312833699731291900 : True := trivial
theorem PySem.W.Fast.tw4050337807463933652 : True := trivial
theorem PySem.W.Fast.tw618071366145007111 : True := trivial
theorem PySem.W.Fast.tw15085205251807577712 : True := trivial
theorem PySem.W.Fast.tw6945742212663981367 : True := trivial
theorem PySem.W.Fast.tw9616717858738529302 : True := trivial
theorem PySem.W.Fast.tw8501475192256316404 : True := trivial
theorem PySem.W.Fast.tw13657022090127463585 : True := trivial
theorem PySem.W.Fast.tw11763803131152194929 : True := trivial
theorem PySem.W.Fast.tw6616999346699860451 : True := trivial
theorem PySem.W.Fast.tw952511281008961014 : True := trivial
theorem PySem.W.Fast.tw10236313305601907506 : True := trivial
theorem PySem.W.Fast.tw5983683641556749290 : True := trivial
theorem PySem.W.Fast.tw14598797638615078710 : True := trivial
theorem PySem.W.Fast.tw8563579344872124410 : True := trivial
theorem PySem.W.Fast.tw6781791295359646094 : True := trivial
theorem PySem.W.Fast.tw6842200786916068199 : True := trivial
theorem PySem.W.Fast.tw904532579361724122 : True := trivial
theorem PySem.W.Fast.tw17955084161790390684 : True := trivial
theorem PySem.W.Fast.tw15578185607504386782 : True := trivial
theorem PySem.W.Fast.tw12363224934039985166 : True := trivial
theorem PySem.W.Fast.tw5122735989726959478 : True := trivial
theorem PySem.W.Fast.tw5806470814761400368 : True := trivial
theorem PySem.W.Fast.tw9872590590805291593 : True := trivial
theorem PySem.W.Fast.tw9837015126619688773 : True := trivial
theorem PySem.W.Fast.tw10935886855077367891 : True := trivial
theorem PySem.W.Fast.tw12569385389814436095 : True := trivial
theorem PySem.W.Fast.tw10384779593517582678 : True := trivial
theorem PySem.W.Fast.tw16557296878422450189 : True := trivial
theorem PySem.W.Fast.tw2780197804526680691 : True := trivial
theorem PySem.W.Fast.tw12592348159502662680 : True := trivial
theorem PySem.W.Fast.tw14497275312820685072 : True := trivial
theorem PySem.W.Fast.tw6439207482618202646 : True := trivial
theorem PySem.W.Fast.tw6545568652637137505 : True := trivial
theorem PySem.W.Fast.tw12553705107170887382 : True := trivial
theorem PySem.W.Fast.tw5915813357204007802 : True := trivial
theorem PySem.W.Fast.tw18154317467953242683 : True := trivial
theorem PySem.W.Fast.tw17538442229881382603 : True := trivial
theorem PySem.W.Fast.tw3862179484272859054 : True := trivial
theorem PySem.W.Fast.tw9154260259245832139 : True := trivial
theorem PySem.W.Fast.tw3070679053643330357 : True := trivial
theorem PySem.W.Fast.tw8598250011043124942 : True := trivial
theorem PySem.W.Fast.tw3956929661216823107 : True := trivial
theorem PySem.W.Fast.tw10461465658834507649 : True := trivial
theorem PySem.W.Fast.tw7491104679794283631 : True := trivial
theorem PySem.W.Fast.tw6490347175489646796 : True := trivial
theorem PySem.W.Fast.tw12442577396141250290 : True := trivial
theorem PySem.W.Fast.tw11647777839235572563 : True := trivial
theorem PySem.W.Fast.tw5211891312760266539 : True := trivial
theorem PySem.W.Fast.tw12388541801550749730 : True := trivial
theorem PySem.W.Fast.tw14612895085475944671 : True := trivial
theorem PySem.W.Fast.tw8493532256624543666 : True := trivial
theorem PySem.W.Fast.tw16240561895951792207 : True := trivial
theorem PySem.W.Fast.tw1874960312967215069 : True := trivial
theorem PySem.W.Fast.tw8514178708786198436 : True := trivial
theorem PySem.W.Fast.tw12541345602320000483 : True := trivial
theorem PySem.W.Fast.tw16293622045926424059 : True := trivial
theorem PySem.W.Fast.tw12020470776137934686 : True := trivial
theorem PySem.W.Fast.tw17547543479711059147 : True := trivial
theorem PySem.W.Fast.tw630196807379325822 : True := trivial
theorem PySem.W.Fast.tw439859159282191698 : True := trivial
theorem PySem.W.Fast.tw3532064231229451721 : True := trivial
theorem PySem.W.Fast.tw18391281923691030993 : True := trivial
theorem PySem.W.Fast.tw8975271129680606682 : True := trivial
theorem PySem.W.Fast.tw6820011001523235508 : True := trivial
theorem PySem.W.Fast.tw6758803669887413788 : True := trivial
theorem PySem.W.Fast.tw4299334343778434242 : True := trivial
theorem PySem.W.Fast.tw6758521653418849625 : True := trivial
theorem PySem.W.Fast.tw13041327226124595025 : True := trivial
theorem PySem.W.Fast.tw7188819979204928555 : True := trivial
theorem PySem.W.Fast.tw607951882894958306 : True := trivial
theorem PySem.W.Fast.tw12683632111446559888 : True := trivial
theorem PySem.W.Fast.tw1643295390625499756 : True := trivial
theorem PySem.W.Fast.tw11819235849419156603 : True := trivial
theorem PySem.W.Fast.tw7634349003324075455 : True := trivial
theorem PySem.W.Fast.tw9757385288315756829 : True := trivial
theorem PySem.W.Fast.tw2971794448604462800 : True := trivial
theorem PySem.W.Fast.tw4872664160711966187 : True := trivial
theorem PySem.W.Fast.tw10254542183979121750 : True := trivial
theorem PySem.W.Fast.tw132227154756339454 : True := trivial
theorem PySem.W.Fast.tw10638289500258605701 : True := trivial
theorem PySem.W.Fast.tw15934736335777801045 : True := trivial
theorem PySem.W.Fast.tw11286051229263455283 : True := trivial
theorem PySem.W.Fast.tw17626940015423215334 : True := trivial
theorem PySem.W.Fast.tw8096257751447271458 : True := trivial
theorem PySem.W.Fast.tw7738588993881038929 : True := trivial
theorem PySem.W.Fast.tw16821535036389840027 : True := trivial
theorem PySem.W.Fast.tw12880928462219966385 : True := trivial
theorem PySem.W.Fast.tw16067402889222775577 : True := trivial
theorem PySem.W.Fast.tw11063894683110065694 : True := trivial
theorem PySem.W.Fast.tw4651641942862194993 : True := trivial
theorem PySem.W.Fast.tw16014472329201107867 : True := trivial
theorem PySem.W.Fast.tw1826232878630173725 : True := trivial
theorem PySem.W.Fast.tw10933850567456224815 : True := trivial
theorem PySem.W.Fast.tw10986294174031666766 : True := trivial
theorem PySem.W.Fast.tw10415258554190846894 : True := trivial
theorem PySem.W.Fast.tw9902641573315304389 : True := trivial
theorem PySem.W.Fast.tw12121098513556180682 : True := trivial
theorem PySem.W.Fast.tw7891713266392114183 : True := trivial
theorem PySem.W.Fast.tw8028613161398464068 : True := trivial
theorem PySem.W.Fast.tw5224934257978143000 : True := trivial
theorem PySem.W.Fast.tw17419292162408821582 : True := trivial
theorem PySem.W.Fast.tw5540313047814450276 : True := trivial
theorem PySem.W.Fast.tw13053361660297875816 : True := trivial
theorem PySem.W.Fast.tw5594805263730505901 : True := trivial
theorem PySem.W.Fast.tw6698559942084907150 : True := trivial
theorem PySem.W.Fast.tw8967698239679699917 : True := trivial
theorem PySem.W.Fast.tw10642562609878445124 : True := trivial
theorem PySem.W.Fast.tw5141048796333745084 : True := trivial
theorem PySem.W.Fast.tw12343124904690391063 : True := trivial
theorem PySem.W.Fast.tw14711054343329088531 : True := trivial
theorem PySem.W.Fast.tw3514530884551203298 : True := trivial
theorem PySem.W.Fast.tw15763521188269118601 : True := trivial
theorem PySem.W.Fast.tw12691566573330840822 : True := trivial
theorem PySem.W.Fast.tw15825417054466126974 : True := trivial
theorem PySem.W.Fast.tw14916228480150118931 : True := trivial
theorem PySem.W.Fast.tw12157400471956022169 : True := trivial
theorem PySem.W.Fast.tw11605081094799685342 : True := trivial
theorem PySem.W.Fast.tw13863498019611111978 : True := trivial
theorem PySem.W.Fast.tw16452550323089245167 : True := trivial
theorem PySem.W.Fast.tw12933638003290338798 : True := trivial
theorem PySem.W.Fast.tw17857894875259545175 : True := trivial
theorem PySem.W.Fast.tw13802315596200016275 : True := trivial
theorem PySem.W.Fast.tw12786177277162975276 : True := trivial
theorem PySem.W.Fast.tw12731238212037059551 : True := trivial
theorem PySem.W.Fast.tw2370195428091491423 : True := trivial
theorem PySem.W.Fast.tw13527247596342602405 : True := trivial
theorem PySem.W.Fast.tw17951474058913516976 : True := trivial
theorem PySem.W.Fast.tw14496154401337692735 : True := trivial
theorem PySem.W.Fast.tw17070232879484239068 : True := trivial
theorem PySem.W.Fast.tw17145668580897996724 : True := trivial
theorem PySem.W.Fast.tw12794838332531008030 : True := trivial
theorem PySem.W.Fast.tw7841637176295447058 : True := trivial
theorem PySem.W.Fast.tw2942810918584482085 : True := trivial
theorem PySem.W.Fast.tw2357288936071745484 : True := trivial
theorem PySem.W.Fast.tw7899415520215540531 : True := trivial
theorem PySem.W.Fast.tw10368370691742376360 : True := trivial
theorem PySem.W.Fast.tw5847574407019943449 : True := trivial
theorem PySem.W.Fast.tw5594866286965149515 : True := trivial
theorem PySem.W.Fast.tw6428688186114816663 : True := trivial
theorem PySem.W.Fast.tw16753935042891352190 : True := trivial
theorem PySem.W.Fast.tw10552780043726282562 : True := trivial
theorem PySem.W.Fast.tw11184297744511062753 : True := trivial
theorem PySem.W.Fast.tw8288694114674526765 : True := trivial
theorem PySem.W.Fast.tw12864873443947440042 : True := trivial
theorem PySem.W.Fast.tw12359267214748899295 : True := trivial
theorem PySem.W.Fast.tw12750455491111503316 : True := trivial
theorem PySem.W.Fast.tw15473333753235304049 : True := trivial
theorem PySem.W.Fast.tw8086519172151746839 : True := trivial
theorem PySem.W.Fast.tw4690917626897728177 : True := trivial
theorem PySem.W.Fast.tw9988845489284376718 : True := trivial
theorem PySem.W.Fast.tw16917248296103181866 : True := trivial
theorem PySem.W.Fast.tw1866495307745220399 : True := trivial
theorem PySem.W.Fast.tw709839419954525393 : True := trivial
theorem PySem.W.Fast.tw11079653825052021222 : True := trivial
theorem PySem.W.Fast.tw829695253548649319 : True := trivial
theorem PySem.W.Fast.tw4272297205636064220 : True := trivial
theorem PySem.W.Fast.tw5960361775262766578 : True := trivial
theorem PySem.W.Fast.tw13874747724752606257 : True := trivial
theorem PySem.W.Fast.tw8614443463607470870 : True := trivial
theorem PySem.W.Fast.tw8466253955273412639 : True := trivial
theorem PySem.W.Fast.tw3642351760401917887 : True := trivial
theorem PySem.W.Fast.tw13229260779018382210 : True := trivial
theorem PySem.W.Fast.tw18352293846461373335 : True := trivial
theorem PySem.W.Fast.tw14762341046056587878 : True := trivial
theorem PySem.W.Fast.tw4866106865251870146 : True := trivial
theorem PySem.W.Fast.tw9292635035868362151 : True := trivial
theorem PySem.W.Fast.tw9402609376470175990 : True := trivial
theorem PySem.W.Fast.tw10391728588048924325 : True := trivial
theorem PySem.W.Fast.tw187151356487930415 : True := trivial
theorem PySem.W.Fast.tw9745632572558620739 : True := trivial
theorem PySem.W.Fast.tw16522476067304583572 : True := trivial
theorem PySem.W.Fast.tw10293242335290791864 : True := trivial
theorem PySem.W.Fast.tw17117714384266390356 : True := trivial
theorem PySem.W.Fast.tw3605248925767868817 : True := trivial
theorem PySem.W.Fast.tw16818802847346137036 : True := trivial
theorem PySem.W.Fast.tw8620827127536180277 : True := trivial
theorem PySem.W.Fast.tw12640169189061811402 : True := trivial
theorem PySem.W.Fast.tw2775744777107617759 : True := trivial
theorem PySem.W.Fast.tw9153980317704407246 : True := trivial
theorem PySem.W.Fast.tw10204201495532804291 : True := trivial
theorem PySem.W.Fast.tw11661290434457569170 : True := trivial
theorem PySem.W.Fast.tw8512870236589435675 : True := trivial
theorem PySem.W.Fast.tw3112754230893819844 : True := trivial
theorem PySem.W.Fast.tw11491701314119649757 : True := trivial
theorem PySem.W.Fast.tw4776586870826138297 : True := trivial
theorem PySem.W.Fast.tw6708740210745570209 : True := trivial
theorem PySem.W.Fast.tw17764562688656542090 : True := trivial
theorem PySem.W.Fast.tw383837222715590982 : True := trivial
theorem PySem.W.Fast.tw8505710175772404509 : True := trivial
theorem PySem.W.Fast.tw7270346656603809090 : True := trivial
theorem PySem.W.Fast.tw15108920316044842580 : True := trivial
theorem PySem.W.Fast.tw749538242135234548 : True := trivial
theorem PySem.W.Fast.tw1088631147944047912 : True := trivial
theorem PySem.W.Fast.tw13016275641045004784 : True := trivial
theorem PySem.W.Fast.tw5518556999699463305 : True := trivial
theorem PySem.W.Fast.tw10595591452648311112 : True := trivial
theorem PySem.W.Fast.tw538705907018642008 : True := trivial
theorem PySem.W.Fast.tw7928881658438773144 : True := trivial
theorem PySem.W.Fast.tw14715907639032592456 : True := trivial
theorem PySem.W.Fast.tw2451399516285561237 : True := trivial
theorem PySem.W.Fast.tw14951821137645727637 : True := trivial
theorem PySem.W.Fast.tw17940579162380980249 : True := trivial
theorem PySem.W.Fast.tw18026394477497869189 : True := trivial
theorem PySem.W.Fast.tw11038526330354563994 : True := trivial
theorem PySem.W.Fast.tw6895381060611185055 : True := trivial
theorem PySem.W.Fast.tw10067599197602265506 : True := trivial
theorem PySem.W.Fast.tw17165530597282187273 : True := trivial
theorem PySem.W.Fast.tw13693163144893908803 : True := trivial
theorem PySem.W.Fast.tw16790097457097273332 : True := trivial
theorem PySem.W.Fast.tw1200848521695908446 : True := trivial
theorem PySem.W.Fast.tw12045371771343119963 : True := trivial
theorem PySem.W.Fast.tw10474831146442065366 : True := trivial
theorem PySem.W.Fast.tw10966158405016045067 : True := trivial
theorem PySem.W.Fast.tw1488305163991816735 : True := trivial
theorem PySem.W.Fast.tw18316568816711059356 : True := trivial
theorem PySem.W.Fast.tw7861698475657822757 : True := trivial
theorem PySem.W.Fast.tw3837430112150007739 : True := trivial
theorem PySem.W.Fast.tw12060055824828580748 : True := trivial
theorem PySem.W.Fast.tw8698616976064158772 : True := trivial
theorem PySem.W.Fast.tw9461863450395919565 : True := trivial
theorem PySem.W.Fast.tw4862682673194106621 : True := trivial
theorem PySem.W.Fast.tw12286123770027165244 : True := trivial
theorem PySem.W.Fast.tw789819550745046442 : True := trivial
theorem PySem.W.Fast.tw4842691854246518336 : True := trivial
theorem PySem.W.Fast.tw13461219236602582322 : True := trivial
theorem PySem.W.Fast.tw10447773113130122892 : True := trivial
theorem PySem.W.Fast.tw5402895736486105895 : True := trivial
theorem PySem.W.Fast.tw1597295447649604575 : True := trivial
theorem PySem.W.Fast.tw10924289545467504140 : True := trivial
theorem PySem.W.Fast.tw8740625827825704249 : True := trivial
theorem PySem.W.Fast.tw14815158103607668766 : True := trivial
theorem PySem.W.Fast.tw174766823039248024 : True := trivial
theorem PySem.W.Fast.tw7831228295878098008 : True := trivial
theorem PySem.W.Fast.tw10583170732664516608 : True := trivial
theorem PySem.W.Fast.tw9154504843570484814 : True := trivial
theorem PySem.W.Fast.tw3531415171825985866 : True := trivial
theorem PySem.W.Fast.tw6395952099390299737 : True := trivial
theorem PySem.W.Fast.tw5449482106940107694 : True := trivial
theorem PySem.W.Fast.tw3465062845563182323 : True := trivial
theorem PySem.W.Fast.tw710084369664053829 : True := trivial
theorem PySem.W.Fast.tw5848849426933516968 : True := trivial
theorem PySem.W.Fast.tw18190680194442073673 : True := trivial
theorem PySem.W.Fast.tw10853939361136161183 : True := trivial
theorem PySem.W.Fast.tw11940110789686364681 : True := trivial
theorem PySem.W.Fast.tw9679193388996000374 : True := trivial
theorem PySem.W.Fast.tw18123276371720701154 : True := trivial
theorem PySem.W.Fast.tw6661664419909990191 : True := trivial
theorem PySem.W.Fast.tw14517262073106585744 : True := trivial
theorem PySem.W.Fast.tw895425183142669898 : True := trivial
theorem PySem.W.Fast.tw15042587319937061800 : True := trivial
theorem PySem.W.Fast.tw898773658527796467 : True := trivial
theorem PySem.W.Fast.tw6308211830074050233 : True := trivial
theorem PySem.W.Fast.tw5558815283893379620 : True := trivial
theorem PySem.W.Fast.tw13242530150852425996 : True := trivial
theorem PySem.W.Fast.tw5930392165476338870 : True := trivial
theorem PySem.W.Fast.tw15421665885603510800 : True := trivial
theorem PySem.W.Fast.tw15960568225713232287 : True := trivial
theorem PySem.W.Fast.tw11870137616903100493 : True := trivial
theorem PySem.W.Fast.tw9032941676359180244 : True := trivial
theorem PySem.W.Fast.tw7067555651744672811 : True := trivial
theorem PySem.W.Fast.tw208005399872667530 : True := trivial
theorem PySem.W.Fast.tw5062615764074591155 : True := trivial
theorem PySem.W.Fast.tw2222032560162666421 : True := trivial
theorem PySem.W.Fast.tw2494470130781792477 : True := trivial
theorem PySem.W.Fast.tw2476486248778439018 : True := trivial
theorem PySem.W.Fast.tw9052840639883379472 : True := trivial
theorem PySem.W.Fast.tw5515646809854134331 : True := trivial
theorem PySem.W.Fast.tw8708439841752585000 : True := trivial
theorem PySem.W.Fast.tw4773531431123444911 : True := trivial
theorem PySem.W.Fast.tw12073794568923256396 : True := trivial
theorem PySem.W.Fast.tw9341336376400242991 : True := trivial
theorem PySem.W.Fast.tw4197726555533725694 : True := trivial
theorem PySem.W.Fast.tw5206616263464469336 : True := trivial
theorem PySem.W.Fast.tw960978964248781670 : True := trivial
theorem PySem.W.Fast.tw8228137610627309166 : True := trivial
theorem PySem.W.Fast.tw7126508517282979125 : True := trivial
theorem PySem.W.Fast.tw2563764216836330107 : True := trivial
theorem PySem.W.Fast.tw17505158087636080628 : True := trivial
theorem PySem.W.Fast.tw4213131418859229612 : True := trivial
theorem PySem.W.Fast.tw5286716121148460801 : True := trivial
theorem PySem.W.Fast.tw13901103292178342942 : True := trivial
theorem PySem.W.Fast.tw9425335939884824991 : True := trivial
theorem PySem.W.Fast.tw12264178524078813314 : True := trivial
theorem PySem.W.Fast.tw6825122816253994276 : True := trivial
theorem PySem.W.Fast.tw11999300488836132173 : True := trivial
theorem PySem.W.Fast.tw654710811726135855 : True := trivial
theorem PySem.W.Fast.tw15781266008814180852 : True := trivial
theorem PySem.W.Fast.tw6357534543892488575 : True := trivial
theorem PySem.W.Fast.tw9339262922211436500 : True := trivial
theorem PySem.W.Fast.tw6172294881121274035 : True := trivial
theorem PySem.W.Fast.tw15183788392590303683 : True := trivial
theorem PySem.W.Fast.tw15137060919518238057 : True := trivial
theorem PySem.W.Fast.tw12348548581297784790 : True := trivial
theorem PySem.W.Fast.tw15474115722901750869 : True := trivial
theorem PySem.W.Fast.tw2808353450123324 : True := trivial
theorem PySem.W.Fast.tw15416010085003479438 : True := trivial
theorem PySem.W.Fast.tw5309898759724002175 : True := trivial
theorem PySem.W.Fast.tw10785868514455432529 : True := trivial
theorem PySem.W.Fast.tw16854748571544547176 : True := trivial
theorem PySem.W.Fast.tw17982411554136573685 : True := trivial
theorem PySem.W.Fast.tw7562456994285041589 : True := trivial
theorem PySem.W.Fast.tw1246104586487369625 : True := trivial
theorem PySem.W.Fast.tw7770817020763717335 : True := trivial
theorem PySem.W.Fast.tw5062115270764260570 : True := trivial
theorem PySem.W.Fast.tw10490184541237461061 : True := trivial
theorem PySem.W.Fast.tw11336696350190105038 : True := trivial
theorem PySem.W.Fast.tw9443525857366675802 : True := trivial
theorem PySem.W.Fast.tw3422572728000041788 : True := trivial
theorem PySem.W.Fast.tw9657318913537337157 : True := trivial
theorem PySem.W.Fast.tw9338733586216653370 : True := trivial
theorem PySem.W.Fast.tw10831488011899140965 : True := trivial
theorem PySem.W.Fast.tw14975745792890105646 : True := trivial
theorem PySem.W.Fast.tw6441148554636998466 : True := trivial
theorem PySem.W.Fast.tw4742569759408237765 : True := trivial
theorem PySem.W.Fast.tw18357876434704798594 : True := trivial
theorem PySem.W.Fast.tw6866500425841101602 : True := trivial
theorem PySem.W.Fast.tw17947964542450001695 : True := trivial
theorem PySem.W.Fast.tw9241304446945192259 : True := trivial
theorem PySem.W.Fast.tw5868854397341427791 : True := trivial
theorem PySem.W.Fast.tw13735038605047103109 : True := trivial
theorem PySem.W.Fast.tw6973094343015876445 : True := trivial
theorem PySem.W.Fast.tw10690614339028794550 : True := trivial
theorem PySem.W.Fast.tw11006713807434344651 : True := trivial
theorem PySem.W.Fast.tw15003138519913883371 : True := trivial
theorem PySem.W.Fast.tw15499195186920932213 : True := trivial
theorem PySem.W.Fast.tw13956204433491355675 : True := trivial
theorem PySem.W.Fast.tw3658708923903866600 : True := trivial
theorem PySem.W.Fast.tw12537111914648005407 : True := trivial
theorem PySem.W.Fast.tw1221625258320912706 : True := trivial
theorem PySem.W.Fast.tw4955999383176515328 : True := trivial
theorem PySem.W.Fast.tw15885159697645422887 : True := trivial
theorem PySem.W.Fast.tw456234552879401328 : True := trivial
theorem PySem.W.Fast.tw16070700530570059238 : True := trivial
theorem PySem.W.Fast.tw12647698441278216548 : True := trivial
theorem PySem.W.Fast.tw4966795869545537223 : True := trivial
theorem PySem.W.Fast.tw3085322541639519153 : True := trivial
theorem PySem.W.Fast.tw9253495346844493371 : True := trivial
theorem PySem.W.Fast.tw18229673679397196809 : True := trivial
theorem PySem.W.Fast.tw12809237342252439255 : True := trivial
theorem PySem.W.Fast.tw16442256419133131345 : True := trivial
theorem PySem.W.Fast.tw14271188878011206852 : True := trivial
theorem PySem.W.Fast.tw7355280233010527606 : True := trivial
theorem PySem.W.Fast.tw12094766872507857456 : True := trivial
theorem PySem.W.Fast.tw15682467426632464862 : True := trivial
theorem PySem.W.Fast.tw5081617754878880119 : True := trivial
theorem PySem.W.Fast.tw7536318869968782010 : True := trivial
theorem PySem.W.Fast.tw4536680920353957288 : True := trivial
theorem PySem.W.Fast.tw15625335669561704473 : True := trivial
theorem PySem.W.Fast.tw12401409637801571664 : True := trivial
theorem PySem.W.Fast.tw8010962136984578871 : True := trivial
theorem PySem.W.Fast.tw15084435902924628307 : True := trivial
theorem PySem.W.Fast.tw12268340057806681599 : True := trivial
theorem PySem.W.Fast.tw4644288776131646716 : True := trivial
theorem PySem.W.Fast.tw2970989010069196365 : True := trivial
theorem PySem.W.Fast.tw693603648327605265 : True := trivial
theorem PySem.W.Fast.tw13694540556680363562 : True := trivial
theorem PySem.W.Fast.tw15630934391982372325 : True := trivial
theorem PySem.W.Fast.tw4333417893163519812 : True := trivial
theorem PySem.W.Fast.tw16566981460356279475 : True := trivial
theorem PySem.W.Fast.tw232444152019559160 : True := trivial
theorem PySem.W.Fast.tw7227077293326197142 : True := trivial
theorem PySem.W.Fast.tw6598651504597619395 : True := trivial
theorem PySem.W.Fast.tw8469321454085738868 : True := trivial
theorem PySem.W.Fast.tw6206944438265013959 : True := trivial
theorem PySem.W.Fast.tw10198001060940731007 : True := trivial
theorem PySem.W.Fast.tw110580714464462227 : True := trivial
theorem PySem.W.Fast.tw17250309913852740509 : True := trivial
theorem PySem.W.Fast.tw3276057989409990774 : True := trivial
theorem PySem.W.Fast.tw3577505630527498956 : True := trivial
theorem PySem.W.Fast.tw13730659996840810410 : True := trivial
theorem PySem.W.Fast.tw8115389492349091895 : True := trivial
theorem PySem.W.Fast.tw1090253328089392130 : True := trivial
theorem PySem.W.Fast.tw10955175082582415438 : True := trivial
theorem PySem.W.Fast.tw15951939291545979330 : True := trivial
theorem PySem.W.Fast.tw13726951741257770088 : True := trivial
theorem PySem.W.Fast.tw13225744997634168874 : True := trivial
theorem PySem.W.Fast.tw6477212248151281794 : True := trivial
theorem PySem.W.Fast.tw2613827046849577350 : True := trivial
theorem PySem.W.Fast.tw5333618836211431642 : True := trivial
theorem PySem.W.Fast.tw9789238360466212960 : True := trivial
theorem PySem.W.Fast.tw4567573585865303148 : True := trivial
theorem PySem.W.Fast.tw6804868129157945528 : True := trivial
theorem PySem.W.Fast.tw10167886438856430955 : True := trivial
theorem PySem.W.Fast.tw8786260175803892870 : True := trivial
theorem PySem.W.Fast.tw17133065513915779724 : True := trivial
theorem PySem.W.Fast.tw13181441641553732885 : True := trivial
theorem PySem.W.Fast.tw8727561444178728977 : True := trivial
theorem PySem.W.Fast.tw3349749806832251846 : True := trivial
theorem PySem.W.Fast.tw2970358564047493285 : True := trivial
theorem PySem.W.Fast.tw4622588769937028877 : True := trivial
theorem PySem.W.Fast.tw1323348288878831672 : True := trivial
theorem PySem.W.Fast.tw8688052812228911818 : True := trivial
theorem PySem.W.Fast.tw5061511516589296363 : True := trivial
theorem PySem.W.Fast.tw10033742380989190170 : True := trivial
theorem PySem.W.Fast.tw1322876059004071556 : True := trivial
theorem PySem.W.Fast.tw14620044033331904806 : True := trivial
theorem PySem.W.Fast.tw10562501497229452007 : True := trivial
theorem PySem.W.Fast.tw4555992739457955890 : True := trivial
theorem PySem.W.Fast.tw2138898770790716593 : True := trivial
theorem PySem.W.Fast.tw324599641320261674 : True := trivial
theorem PySem.W.Fast.tw6993625930826072245 : True := trivial
theorem PySem.W.Fast.tw4357053556355753427 : True := trivial
theorem PySem.W.Fast.tw7838496473831290918 : True := trivial
theorem PySem.W.Fast.tw16300443134848502976 : True := trivial
theorem PySem.W.Fast.tw15271990853484269077 : True := trivial
theorem PySem.W.Fast.tw7589550271240813717 : True := trivial
theorem PySem.W.Fast.tw14782070420878900265 : True := trivial
theorem PySem.W.Fast.tw16517186850124091001 : True := trivial
theorem PySem.W.Fast.tw234816335249090404 : True := trivial
theorem PySem.W.Fast.tw491372400118503314 : True := trivial
theorem PySem.W.Fast.tw5990104534659705546 : True := trivial
theorem PySem.W.Fast.tw3767552408836902735 : True := trivial
theorem PySem.W.Fast.tw8091186386275839302 : True := trivial
theorem PySem.W.Fast.tw9127681355527251012 : True := trivial
theorem PySem.W.Fast.tw16474402040205151242 : True := trivial
theorem PySem.W.Fast.tw5305952423696797476 : True := trivial
theorem PySem.W.Fast.tw2995383103292489668 : True := trivial
theorem PySem.W.Fast.tw1479452229775022103 : True := trivial
theorem PySem.W.Fast.tw13427881824912749123 : True := trivial
theorem PySem.W.Fast.tw4452373324388375320 : True := trivial
theorem PySem.W.Fast.tw18421731106564459982 : True := trivial
theorem PySem.W.Fast.tw5991622942054872570 : True := trivial
theorem PySem.W.Fast.tw16170629832970996314 : True := trivial
theorem PySem.W.Fast.tw12588406686865106686 : True := trivial
theorem PySem.W.Fast.tw17544010600003964692 : True := trivial
theorem PySem.W.Fast.tw8444531012352584644 : True := trivial
theorem PySem.W.Fast.tw11335231479910449388 : True := trivial
theorem PySem.W.Fast.tw11978580614594361215 : True := trivial
theorem PySem.W.Fast.tw10519951785492034923 : True := trivial
theorem PySem.W.Fast.tw2745875573568342084 : True := trivial
theorem PySem.W.Fast.tw5731374812471260334 : True := trivial
theorem PySem.W.Fast.tw5969086252443604613 : True := trivial
theorem PySem.W.Fast.tw18180995688144036459 : True := trivial
theorem PySem.W.Fast.tw13407655485860344434 : True := trivial
theorem PySem.W.Fast.tw17837201218550990014 : True := trivial
theorem PySem.W.Fast.tw16169837506376765578 : True := trivial
theorem PySem.W.Fast.tw16730597426426966694 : True := trivial
theorem PySem.W.Fast.tw9271936450098936389 : True := trivial
theorem PySem.W.Fast.tw14616171754096090366 : True := trivial
theorem PySem.W.Fast.tw10459267527381401175 : True := trivial
theorem PySem.W.Fast.tw2540939331599861899 : True := trivial
theorem PySem.W.Fast.tw12448144956555659313 : True := trivial
theorem PySem.W.Fast.tw9195911863084395327 : True := trivial
theorem PySem.W.Fast.tw10491007747233085954 : True := trivial
theorem PySem.W.Fast.tw594140952425912905 : True := trivial
theorem PySem.W.Fast.tw4708851081605175620 : True := trivial
theorem PySem.W.Fast.tw17640840328464747054 : True := trivial
theorem PySem.W.Fast.tw10219225145891637267 : True := trivial
theorem PySem.W.Fast.tw8391007232886331273 : True := trivial
theorem PySem.W.Fast.tw7900801527530996624 : True := trivial
theorem PySem.W.Fast.tw15632272172856588119 : True := trivial
theorem PySem.W.Fast.tw2574456807920203847 : True := trivial
theorem PySem.W.Fast.tw7663088427113494217 : True := trivial
theorem PySem.W.Fast.tw16124644140156265490 : True := trivial
theorem PySem.W.Fast.tw10050412811476948398 : True := trivial
theorem PySem.W.Fast.tw18338796779828647224 : True := trivial
theorem PySem.W.Fast.tw5451137430925269127 : True := trivial
theorem PySem.W.Fast.tw12336242635725923616 : True := trivial
theorem PySem.W.Fast.tw7036707775142545185 : True := trivial
theorem PySem.W.Fast.tw14646630935950249540 : True := trivial
theorem PySem.W.Fast.tw11801401007047462614 : True := trivial
theorem PySem.W.Fast.tw16718062325000007254 : True := trivial
theorem PySem.W.Fast.tw1579599655155058880 : True := trivial
theorem PySem.W.Fast.tw269464026390774282 : True := trivial
theorem PySem.W.Fast.tw12120849255290367026 : True := trivial
theorem PySem.W.Fast.tw1544620720947082872 : True := trivial
theorem PySem.W.Fast.tw18404721130788088243 : True := trivial
theorem PySem.W.Fast.tw7726769823647607592 : True := trivial
theorem PySem.W.Fast.tw16452058814154075489 : True := trivial
theorem PySem.W.Fast.tw18154135131605468034 : True := trivial
theorem PySem.W.Fast.tw15768496615636594533 : True := trivial
theorem PySem.W.Fast.tw8397185516325122798 : True := trivial
theorem PySem.W.Fast.tw15476355897296529899 : True := trivial
theorem PySem.W.Fast.tw16665335764751454127 : True := trivial
theorem PySem.W.Fast.tw14431442605040708848 : True := trivial
theorem PySem.W.Fast.tw16097569349861263957 : True := trivial
theorem PySem.W.Fast.tw14101000460584012730 : True := trivial
theorem PySem.W.Fast.tw7748441380156849163 : True := trivial
theorem PySem.W.Fast.tw1917784639246141804 : True := trivial
theorem PySem.W.Fast.tw1750399184726825000 : True := trivial
theorem PySem.W.Fast.tw7134432501901947377 : True := trivial
theorem PySem.W.Fast.tw12240151430307454863 : True := trivial
theorem PySem.W.Fast.tw1455684129892644891 : True := trivial
theorem PySem.W.Fast.tw902034143517343032 : True := trivial
theorem PySem.W.Fast.tw517696299419031998 : True := trivial
theorem PySem.W.Fast.tw11801321345593189875 : True := trivial
theorem PySem.W.Fast.tw9592305230204249161 : True := trivial
theorem PySem.W.Fast.tw4031556696651847813 : True := trivial
theorem PySem.W.Fast.tw14839735921878374171 : True := trivial
theorem PySem.W.Fast.tw5655435162394073243 : True := trivial
theorem PySem.W.Fast.tw11098816943284551748 : True := trivial
theorem PySem.W.Fast.tw4806980687638533726 : True := trivial
theorem PySem.W.Fast.tw9100908501043842233 : True := trivial
theorem PySem.W.Fast.tw11532301417525904251 : True := trivial
theorem PySem.W.Fast.tw2298943661750487703 : True := trivial
theorem PySem.W.Fast.tw9242101796807444327 : True := trivial
theorem PySem.W.Fast.tw6178523944790572532 : True := trivial
theorem PySem.W.Fast.tw6750708693847272103 : True := trivial
theorem PySem.W.Fast.tw6473925473861152866 : True := trivial
theorem PySem.W.Fast.tw4614741562170467795 : True := trivial
theorem PySem.W.Fast.tw17889529908854681423 : True := trivial
theorem PySem.W.Fast.tw16246609459451310195 : True := trivial
theorem PySem.W.Fast.tw12770343473246929035 : True := trivial
theorem PySem.W.Fast.tw13380225919320988153 : True := trivial
theorem PySem.W.Fast.tw11814705425041200951 : True := trivial
theorem PySem.W.Fast.tw8622475992917382475 : True := trivial
theorem PySem.W.Fast.tw17298361215276323281 : True := trivial
theorem PySem.W.Fast.tw5612269961151682989 : True := trivial
theorem PySem.W.Fast.tw8201546800189332841 : True := trivial
theorem PySem.W.Fast.tw6493089032922836120 : True := trivial
theorem PySem.W.Fast.tw7826102092647134686 : True := trivial
theorem PySem.W.Fast.tw14369716295493070215 : True := trivial
theorem PySem.W.Fast.tw13190175466059645645 : True := trivial
theorem PySem.W.Fast.tw13284705692221010793 : True := trivial
theorem PySem.W.Fast.tw4242477770959567636 : True := trivial
theorem PySem.W.Fast.tw14079759710251471112 : True := trivial
theorem PySem.W.Fast.tw11722798359668286952 : True := trivial
theorem PySem.W.Fast.tw18176149729855590527 : True := trivial
theorem PySem.W.Fast.tw5981560995911044303 : True := trivial
theorem PySem.W.Fast.tw10266205662853597513 : True := trivial
theorem PySem.W.Fast.tw6448399879024934228 : True := trivial
theorem PySem.W.Fast.tw3646539636329191134 : True := trivial
theorem PySem.W.Fast.tw18325401001661366869 : True := trivial
theorem PySem.W.Fast.tw1286776803442940407 : True := trivial
theorem PySem.W.Fast.tw12395676237302061920 : True := trivial
theorem PySem.W.Fast.tw15275346403856107507 : True := trivial
theorem PySem.W.Fast.tw11402054907959031489 : True := trivial
theorem PySem.W.Fast.tw11119342281851679710 : True := trivial
theorem PySem.W.Fast.tw6390409961448700140 : True := trivial
theorem PySem.W.Fast.tw13965950409297355332 : True := trivial
theorem PySem.W.Fast.tw11225175513987853433 : True := trivial
theorem PySem.W.Fast.tw8892008071797327856 : True := trivial
theorem PySem.W.Fast.tw1373779041628069174 : True := trivial
theorem PySem.W.Fast.tw6482825294446424713 : True := trivial
theorem PySem.W.Fast.tw1730442097972269901 : True := trivial
theorem PySem.W.Fast.tw9143835406971987916 : True := trivial
theorem PySem.W.Fast.tw184533464003437002 : True := trivial
theorem PySem.W.Fast.tw6919457971250654019 : True := trivial
theorem PySem.W.Fast.tw7256502564462732030 : True := trivial
theorem PySem.W.Fast.tw13902132819474332615 : True := trivial
theorem PySem.W.Fast.tw8018389542926694759 : True := trivial
theorem PySem.W.Fast.tw6399314640606574949 : True := trivial
theorem PySem.W.Fast.tw11797505095718198850 : True := trivial
theorem PySem.W.Fast.tw11874035335856196391 : True := trivial
theorem PySem.W.Fast.tw1736382772136011782 : True := trivial
theorem PySem.W.Fast.tw18128392559873807808 : True := trivial
theorem PySem.W.Fast.tw5713327480082547748 : True := trivial
theorem PySem.W.Fast.tw15028833691800055408 : True := trivial
theorem PySem.W.Fast.tw8983563356644064117 : True := trivial
theorem PySem.W.Fast.tw7348663223163797566 : True := trivial
theorem PySem.W.Fast.tw6524848308786500847 : True := trivial
theorem PySem.W.Fast.tw4802499070804239845 : True := trivial
theorem PySem.W.Fast.tw12052711144028338642 : True := trivial
theorem PySem.W.Fast.tw6497819491524598849 : True := trivial
theorem PySem.W.Fast.tw12825428602580325285 : True := trivial
theorem PySem.W.Fast.tw15398325665178702636 : True := trivial
theorem PySem.W.Fast.tw11455523376381476918 : True := trivial
theorem PySem.W.Fast.tw16642539856095077993 : True := trivial
theorem PySem.W.Fast.tw18182950150736006666 : True := trivial
theorem PySem.W.Fast.tw6488002575060383489 : True := trivial
theorem PySem.W.Fast.tw13708249757385041419 : True := trivial
theorem PySem.W.Fast.tw6091794845927857836 : True := trivial
theorem PySem.W.Fast.tw9048344061134683564 : True := trivial
theorem PySem.W.Fast.tw12214934910107472537 : True := trivial
theorem PySem.W.Fast.tw6415115951795327680 : True := trivial
theorem PySem.W.Fast.tw2720809078219275111 : True := trivial
theorem PySem.W.Fast.tw594896729269651662 : True := trivial
theorem PySem.W.Fast.tw8685782370674861751 : True := trivial
theorem PySem.W.Fast.tw7795863137065632445 : True := trivial
theorem PySem.W.Fast.tw12719946271149413752 : True := trivial
theorem PySem.W.Fast.tw10656088158579154902 : True := trivial
theorem PySem.W.Fast.tw12635421806192174516 : True := trivial
theorem PySem.W.Fast.tw15687343901965596016 : True := trivial
theorem PySem.W.Fast.tw13504826095776130179 : True := trivial
theorem PySem.W.Fast.tw9176433475756261531 : True := trivial
theorem PySem.W.Fast.tw2861270674178760920 : True := trivial
theorem PySem.W.Fast.tw676543605507273646 : True := trivial
theorem PySem.W.Fast.tw1533454926888368957 : True := trivial
theorem PySem.W.Fast.tw4078738681856599193 : True := trivial
theorem PySem.W.Fast.tw11292342244120189360 : True := trivial
theorem PySem.W.Fast.tw5467818691054643062 : True := trivial
theorem PySem.W.Fast.tw14546932305695882522 : True := trivial
theorem PySem.W.Fast.tw2078693325194546445 : True := trivial
theorem PySem.W.Fast.tw13363743074862903030 : True := trivial
theorem PySem.W.Fast.tw3729706363783192227 : True := trivial
theorem PySem.W.Fast.tw6367402195255957361 : True := trivial
theorem PySem.W.Fast.tw11890759617448682200 : True := trivial
theorem PySem.W.Fast.tw14649092528135583917 : True := trivial
theorem PySem.W.Fast.tw13034146813751075588 : True := trivial
theorem PySem.W.Fast.tw6620005317446873275 : True := trivial
theorem PySem.W.Fast.tw17333903588561235174 : True := trivial
theorem PySem.W.Fast.tw6292470557340451382 : True := trivial
theorem PySem.W.Fast.tw12433690682835540087 : True := trivial
theorem PySem.W.Fast.tw2115189103787989559 : True := trivial
theorem PySem.W.Fast.tw10163858928404486267 : True := trivial
theorem PySem.W.Fast.tw7634609798287889431 : True := trivial
theorem PySem.W.Fast.tw9733202496534561333 : True := trivial
theorem PySem.W.Fast.tw5488660093775460053 : True := trivial
theorem PySem.W.Fast.tw338607932135094942 : True := trivial
theorem PySem.W.Fast.tw9358789860401431512 : True := trivial
theorem PySem.W.Fast.tw1089284733500752407 : True := trivial
theorem PySem.W.Fast.tw3687352046640369375 : True := trivial
theorem PySem.W.Fast.tw5247131087566348927 : True := trivial
theorem PySem.W.Fast.tw13351700669186029739 : True := trivial
theorem PySem.W.Fast.tw10011674468407866215 : True := trivial
theorem PySem.W.Fast.tw4547053690152408384 : True := trivial
theorem PySem.W.Fast.tw12392079437857322312 : True := trivial
theorem PySem.W.Fast.tw1260615203233568846 : True := trivial
theorem PySem.W.Fast.tw15335259338954188755 : True := trivial
theorem PySem.W.Fast.tw1106928211326292370 : True := trivial
theorem PySem.W.Fast.tw13753211352729001402 : True := trivial
theorem PySem.W.Fast.tw6650492036066902017 : True := trivial
theorem PySem.W.Fast.tw14318533462349150476 : True := trivial
theorem PySem.W.Fast.tw8150278638261153521 : True := trivial
theorem PySem.W.Fast.tw12625947243529199366 : True := trivial
theorem PySem.W.Fast.tw12448483622370514888 : True := trivial
theorem PySem.W.Fast.tw8761509465364885717 : True := trivial
theorem PySem.W.Fast.tw7219273335318809060 : True := trivial
theorem PySem.W.Fast.tw16828458507371455603 : True := trivial
theorem PySem.W.Fast.tw9887673431057051164 : True := trivial
theorem PySem.W.Fast.tw2827784259772089752 : True := trivial
theorem PySem.W.Fast.tw17664079101013434897 : True := trivial
theorem PySem.W.Fast.tw13289936592996155942 : True := trivial
theorem PySem.W.Fast.tw1155359744217727025 : True := trivial
theorem PySem.W.Fast.tw18163991840026545772 : True := trivial
theorem PySem.W.Fast.tw11307675703936950741 : True := trivial
theorem PySem.W.Fast.tw16456943936047823215 : True := trivial
theorem PySem.W.Fast.tw10649127112941037621 : True := trivial
theorem PySem.W.Fast.tw3182746016399545258 : True := trivial
theorem PySem.W.Fast.tw6665733511977118270 : True := trivial
theorem PySem.W.Fast.tw7017642408678361082 : True := trivial
theorem PySem.W.Fast.tw7949392790568157201 : True := trivial
theorem PySem.W.Fast.tw11546446509358382090 : True := trivial
theorem PySem.W.Fast.tw17173037064557134733 : True := trivial
theorem PySem.W.Fast.tw7886312711509043625 : True := trivial
theorem PySem.W.Fast.tw12446647226912644286 : True := trivial
theorem PySem.W.Fast.tw7132844562050315785 : True := trivial
theorem PySem.W.Fast.tw4496404829155035855 : True := trivial
theorem PySem.W.Fast.tw15103414406608971157 : True := trivial
theorem PySem.W.Fast.tw815063587197288924 : True := trivial
theorem PySem.W.Fast.tw10679056868483276392 : True := trivial
theorem PySem.W.Fast.tw8696909192601285111 : True := trivial
theorem PySem.W.Fast.tw15956431366859265912 : True := trivial
theorem PySem.W.Fast.tw10687312530545883326 : True := trivial
theorem PySem.W.Fast.tw17514136574108351736 : True := trivial
theorem PySem.W.Fast.tw12717188275199143104 : True := trivial
theorem PySem.W.Fast.tw5030681610560295065 : True := trivial
theorem PySem.W.Fast.tw6166081939014128414 : True := trivial
theorem PySem.W.Fast.tw168394485554406674 : True := trivial
theorem PySem.W.Fast.tw17805481573832977845 : True := trivial
theorem PySem.W.Fast.tw3246389495798250846 : True := trivial
theorem PySem.W.Fast.tw6768098540861155835 : True := trivial
theorem PySem.W.Fast.tw3934372474768776484 : True := trivial
theorem PySem.W.Fast.tw15262682473781545936 : True := trivial
theorem PySem.W.Fast.tw16294311530752324285 : True := trivial
theorem PySem.W.Fast.tw12261210784736412146 : True := trivial
theorem PySem.W.Fast.tw10296909312287885525 : True := trivial
theorem PySem.W.Fast.tw16504695892075587823 : True := trivial
theorem PySem.W.Fast.tw5392466328188315823 : True := trivial
theorem PySem.W.Fast.tw5184236827690497124 : True := trivial
theorem PySem.W.Fast.tw4163915544969058925 : True := trivial
theorem PySem.W.Fast.tw1204596451832787641 : True := trivial
theorem PySem.W.Fast.tw5511653731583907243 : True := trivial
theorem PySem.W.Fast.tw18271369062055996964 : True := trivial
theorem PySem.W.Fast.tw2262056657361745965 : True := trivial
theorem PySem.W.Fast.tw8432057616624601754 : True := trivial
theorem PySem.W.Fast.tw13322060067249079954 : True := trivial
theorem PySem.W.Fast.tw13296732914350072340 : True := trivial
theorem PySem.W.Fast.tw145105087397653787 : True := trivial
theorem PySem.W.Fast.tw7550819784207490538 : True := trivial
theorem PySem.W.Fast.tw8806882215410982604 : True := trivial
theorem PySem.W.Fast.tw7263984972318435335 : True := trivial
theorem PySem.W.Fast.tw6837684833687314462 : True := trivial
theorem PySem.W.Fast.tw1600525778365939933 : True := trivial
theorem PySem.W.Fast.tw4295749576740388420 : True := trivial
theorem PySem.W.Fast.tw1174429269522426992 : True := trivial
theorem PySem.W.Fast.tw11365274659136007395 : True := trivial
theorem PySem.W.Fast.tw6056859055208933045 : True := trivial
theorem PySem.W.Fast.tw1798263500416137096 : True := trivial
theorem PySem.W.Fast.tw15970938354672929708 : True := trivial
theorem PySem.W.Fast.tw6007161154478846229 : True := trivial
theorem PySem.W.Fast.tw18178976545587214720 : True := trivial
theorem PySem.W.Fast.tw12899521451959453186 : True := trivial
theorem PySem.W.Fast.tw4949183954798403736 : True := trivial
theorem PySem.W.Fast.tw5152770834041743537 : True := trivial
theorem PySem.W.Fast.tw16530943993133581873 : True := trivial
theorem PySem.W.Fast.tw17983080654496142857 : True := trivial
theorem PySem.W.Fast.tw6736626842009234389 : True := trivial
theorem PySem.W.Fast.tw14072267518170654936 : True := trivial
theorem PySem.W.Fast.tw858674959121444541 : True := trivial
theorem PySem.W.Fast.tw13873474129680248544 : True := trivial
theorem PySem.W.Fast.tw12967102045143461905 : True := trivial
theorem PySem.W.Fast.tw18083993232767079977 : True := trivial
theorem PySem.W.Fast.tw7728906400849083617 : True := trivial
theorem PySem.W.Fast.tw16091706048402233124 : True := trivial
theorem PySem.W.Fast.tw2498741408942312689 : True := trivial
theorem PySem.W.Fast.tw16198690513126017119 : True := trivial
theorem PySem.W.Fast.tw2116483880112503229 : True := trivial
theorem PySem.W.Fast.tw4940707135736810052 : True := trivial
theorem PySem.W.Fast.tw8446927687176315201 : True := trivial
theorem PySem.W.Fast.tw15752297435027575637 : True := trivial
theorem PySem.W.Fast.tw16660083963089810849 : True := trivial
theorem PySem.W.Fast.tw12242353723029928867 : True := trivial
theorem PySem.W.Fast.tw14933805193639585512 : True := trivial
theorem PySem.W.Fast.tw18333783826422124473 : True := trivial
theorem PySem.W.Fast.tw9274156830329076827 : True := trivial
theorem PySem.W.Fast.tw15977765702106044137 : True := trivial
theorem PySem.W.Fast.tw1039438804776083471 : True := trivial
theorem PySem.W.Fast.tw6385104931455691175 : True := trivial
theorem PySem.W.Fast.tw5782812481685351782 : True := trivial
theorem PySem.W.Fast.tw11359711007669108387 : True := trivial
theorem PySem.W.Fast.tw12121329197010988036 : True := trivial
theorem PySem.W.Fast.tw13359437059174279373 : True := trivial
theorem PySem.W.Fast.tw2244726162608252559 : True := trivial
theorem PySem.W.Fast.tw9962741278561464804 : True := trivial
theorem PySem.W.Fast.tw592456959144346425 : True := trivial
theorem PySem.W.Fast.tw9229538835896849894 : True := trivial
theorem PySem.W.Fast.tw3433153831145074859 : True := trivial
theorem PySem.W.Fast.tw15725891645708795976 : True := trivial
theorem PySem.W.Fast.tw1565759890204363594 : True := trivial
theorem PySem.W.Fast.tw17139679213440959515 : True := trivial
theorem PySem.W.Fast.tw9640287546447059102 : True := trivial
theorem PySem.W.Fast.tw8748403929870998075 : True := trivial
theorem PySem.W.Fast.tw5889300603142950301 : True := trivial
theorem PySem.W.Fast.tw115286372509465070 : True := trivial
theorem PySem.W.Fast.tw15263007682109406548 : True := trivial
theorem PySem.W.Fast.tw10758671768929556261 : True := trivial
theorem PySem.W.Fast.tw16386748646848406960 : True := trivial
theorem PySem.W.Fast.tw12597473614672811196 : True := trivial
theorem PySem.W.Fast.tw3802611601104508176 : True := trivial
theorem PySem.W.Fast.tw554356481433512733 : True := trivial
theorem PySem.W.Fast.tw11772672861296988933 : True := trivial
theorem PySem.W.Fast.tw7915319955118475678 : True := trivial
theorem PySem.W.Fast.tw7158210272044246153 : True := trivial
theorem PySem.W.Fast.tw3442657053058873915 : True := trivial
theorem PySem.W.Fast.tw5073650710603747929 : True := trivial
theorem PySem.W.Fast.tw16672879453121292090 : True := trivial
theorem PySem.W.Fast.tw10110050023252650269 : True := trivial
theorem PySem.W.Fast.tw12536329721273910638 : True := trivial
theorem PySem.W.Fast.tw16959182111901633230 : True := trivial
theorem PySem.W.Fast.tw7785399040314220491 : True := trivial
theorem PySem.W.Fast.tw17536918479358243797 : True := trivial
theorem PySem.W.Fast.tw9551484355684699180 : True := trivial
theorem PySem.W.Fast.tw17062030088505380258 : True := trivial
theorem PySem.W.Fast.tw1255044888007212457 : True := trivial
theorem PySem.W.Fast.tw7011052449167990447 : True := trivial
theorem PySem.W.Fast.tw11372692698570433743 : True := trivial
theorem PySem.W.Fast.tw10290704986980937556 : True := trivial
theorem PySem.W.Fast.tw11640409536474478387 : True := trivial
theorem PySem.W.Fast.tw2861527528830742919 : True := trivial
theorem PySem.W.Fast.tw11235826417704373544 : True := trivial
theorem PySem.W.Fast.tw11574493796387662939 : True := trivial
theorem PySem.W.Fast.tw10693564731078625652 : True := trivial
theorem PySem.W.Fast.tw13863674526435048140 : True := trivial
theorem PySem.W.Fast.tw9723906943538201777 : True := trivial
theorem PySem.W.Fast.tw12131946252737273025 : True := trivial
theorem PySem.W.Fast.tw1895051120814469258 : True := trivial
theorem PySem.W.Fast.tw2328169241557198760 : True := trivial
theorem PySem.W.Fast.tw16359739851822480640 : True := trivial
theorem PySem.W.Fast.tw8008079633275107837 : True := trivial
theorem PySem.W.Fast.tw5088114235331677856 : True := trivial
theorem PySem.W.Fast.tw4942282538150341208 : True := trivial
theorem PySem.W.Fast.tw10249840673525080698 : True := trivial
theorem PySem.W.Fast.tw13988975149971801214 : True := trivial
theorem PySem.W.Fast.tw14683930161163807011 : True := trivial
theorem PySem.W.Fast.tw4710776415146125799 : True := trivial
theorem PySem.W.Fast.tw17587296560358788576 : True := trivial
theorem PySem.W.Fast.tw9367246460957358594 : True := trivial
theorem PySem.W.Fast.tw10524501601114444835 : True := trivial
theorem PySem.W.Fast.tw3637589104431810244 : True := trivial
theorem PySem.W.Fast.tw13053549574992010438 : True := trivial
theorem PySem.W.Fast.tw8984680192351883928 : True := trivial
theorem PySem.W.Fast.tw6838715457846249674 : True := trivial
theorem PySem.W.Fast.tw2349783584255109967 : True := trivial
theorem PySem.W.Fast.tw14142100667900756400 : True := trivial
theorem PySem.W.Fast.tw13446286728210164227 : True := trivial
theorem PySem.W.Fast.tw2171358790968428251 : True := trivial
theorem PySem.W.Fast.tw8924683128541228522 : True := trivial
theorem PySem.W.Fast.tw5543876299035008028 : True := trivial
theorem PySem.W.Fast.tw14258489342544911300 : True := trivial
theorem PySem.W.Fast.tw16726436505028201346 : True := trivial
theorem PySem.W.Fast.tw10749608137575402342 : True := trivial
theorem PySem.W.Fast.tw17729178628865948793 : True := trivial
theorem PySem.W.Fast.tw1208870337666351223 : True := trivial
theorem PySem.W.Fast.tw9004757274868363429 : True := trivial
theorem PySem.W.Fast.tw5043493208721768311 : True := trivial
theorem PySem.W.Fast.tw5432969660775909922 : True := trivial
theorem PySem.W.Fast.tw8577527957323101422 : True := trivial
theorem PySem.W.Fast.tw12202133566116038999 : True := trivial
theorem PySem.W.Fast.tw11594650858819986650 : True := trivial
theorem PySem.W.Fast.tw7858213739746001251 : True := trivial
theorem PySem.W.Fast.tw16116118635495420089 : True := trivial
theorem PySem.W.Fast.tw1271850290027714715 : True := trivial
theorem PySem.W.Fast.tw1198631260446381233 : True := trivial
theorem PySem.W.Fast.tw9985315794628900240 : True := trivial
theorem PySem.W.Fast.tw13838691606129302852 : True := trivial
theorem PySem.W.Fast.tw7904665447048527671 : True := trivial
theorem PySem.W.Fast.tw9905765761603479708 : True := trivial
theorem PySem.W.Fast.tw9622028249271085864 : True := trivial
theorem PySem.W.Fast.tw9882686968210792059 : True := trivial
theorem PySem.W.Fast.tw14995098548153865286 : True := trivial
theorem PySem.W.Fast.tw13348037725029631742 : True := trivial
theorem PySem.W.Fast.tw1831827949937753618 : True := trivial
theorem PySem.W.Fast.tw9447112550030298686 : True := trivial
theorem PySem.W.Fast.tw13015712728736120746 : True := trivial
theorem PySem.W.Fast.tw15071307861913994643 : True := trivial
theorem PySem.W.Fast.tw7389504957379972275 : True := trivial
theorem PySem.W.Fast.tw14914321495812786249 : True := trivial
theorem PySem.W.Fast.tw1577177345419942285 : True := trivial
theorem PySem.W.Fast.tw16111876830094591470 : True := trivial
theorem PySem.W.Fast.tw15277744612826470707 : True := trivial
theorem PySem.W.Fast.tw5788951011207101560 : True := trivial
theorem PySem.W.Fast.tw15525711578015843655 : True := trivial
theorem PySem.W.Fast.tw2338652800602415492 : True := trivial
theorem PySem.W.Fast.tw18441921870211128321 : True := trivial
theorem PySem.W.Fast.tw6014944480157227821 : True := trivial
theorem PySem.W.Fast.tw6989307365678928319 : True := trivial
theorem PySem.W.Fast.tw11293992887752789485 : True := trivial
theorem PySem.W.Fast.tw11403163407412209990 : True := trivial
theorem PySem.W.Fast.tw11313637000949425554 : True := trivial
theorem PySem.W.Fast.tw10413126877137919018 : True := trivial
theorem PySem.W.Fast.tw1449086776419629158 : True := trivial
theorem PySem.W.Fast.tw11225630937783118189 : True := trivial
theorem PySem.W.Fast.tw679715032552957172 : True := trivial
theorem PySem.W.Fast.tw13124314320207167308 : True := trivial
theorem PySem.W.Fast.tw6264889037758626393 : True := trivial
theorem PySem.W.Fast.tw11255628239474976639 : True := trivial
theorem PySem.W.Fast.tw5435799956766692948 : True := trivial
theorem PySem.W.Fast.tw9284380637409960876 : True := trivial
theorem PySem.W.Fast.tw3119727456527031935 : True := trivial
theorem PySem.W.Fast.tw2285954091066173903 : True := trivial
theorem PySem.W.Fast.tw16654927890381333313 : True := trivial
theorem PySem.W.Fast.tw15380640576717989297 : True := trivial
theorem PySem.W.Fast.tw12577721392401297099 : True := trivial
theorem PySem.W.Fast.tw18300089085615525609 : True := trivial
theorem PySem.W.Fast.tw8595971315306583072 : True := trivial
theorem PySem.W.Fast.tw9987134142304085794 : True := trivial
theorem PySem.W.Fast.tw15692659439608629515 : True := trivial
theorem PySem.W.Fast.tw7152764306420078817 : True := trivial
theorem PySem.W.Fast.tw11697452285118526162 : True := trivial
theorem PySem.W.Fast.tw2596548920785093994 : True := trivial
theorem PySem.W.Fast.tw14826178064647477069 : True := trivial
theorem PySem.W.Fast.tw10368010610354827641 : True := trivial
theorem PySem.W.Fast.tw821685466486449176 : True := trivial
theorem PySem.W.Fast.tw1084289725788886268 : True := trivial
theorem PySem.W.Fast.tw16953629150720230670 : True := trivial
theorem PySem.W.Fast.tw17280771543560591217 : True := trivial
theorem PySem.W.Fast.tw7649241230547510790 : True := trivial
theorem PySem.W.Fast.tw5067758201922203376 : True := trivial
theorem PySem.W.Fast.tw14741216833770235205 : True := trivial
theorem PySem.W.Fast.tw11688607027919831337 : True := trivial
theorem PySem.W.Fast.tw17093158776654872862 : True := trivial
theorem PySem.W.Fast.tw12420297749274336491 : True := trivial
theorem PySem.W.Fast.tw14528944278472933217 : True := trivial
theorem PySem.W.Fast.tw14698883991064471812 : True := trivial
theorem PySem.W.Fast.tw8496180556318600582 : True := trivial
theorem PySem.W.Fast.tw16242027757616859171 : True := trivial
theorem PySem.W.Fast.tw11537726096740454355 : True := trivial
theorem PySem.W.Fast.tw13589898186861329087 : True := trivial
theorem PySem.W.Fast.tw4491576308477813283 : True := trivial
theorem PySem.W.Fast.tw8871603137025352777 : True := trivial
theorem PySem.W.Fast.tw10040315953538111034 : True := trivial
theorem PySem.W.Fast.tw7188788110630236209 : True := trivial
theorem PySem.W.Fast.tw11838415956139641441 : True := trivial
theorem PySem.W.Fast.tw199788090141728570 : True := trivial
theorem PySem.W.Fast.tw7811003422772288499 : True := trivial
theorem PySem.W.Fast.tw17878577429119270445 : True := trivial
theorem PySem.W.Fast.tw5524037238793074627 : True := trivial
theorem PySem.W.Fast.tw5766097622659770618 : True := trivial
theorem PySem.W.Fast.tw13199900046336336672 : True := trivial
theorem PySem.W.Fast.tw858693895617624848 : True := trivial
theorem PySem.W.Fast.tw8427496124821777237 : True := trivial
theorem PySem.W.Fast.tw7944018047666153389 : True := trivial
theorem PySem.W.Fast.tw9430051218761838556 : True := trivial
theorem PySem.W.Fast.tw16180811677182738174 : True := trivial
theorem PySem.W.Fast.tw6297409073841628638 : True := trivial
theorem PySem.W.Fast.tw3694259629120326960 : True := trivial
theorem PySem.W.Fast.tw6435968560084225346 : True := trivial
theorem PySem.W.Fast.tw9012443735376315200 : True := trivial
theorem PySem.W.Fast.tw3302945500654894556 : True := trivial
theorem PySem.W.Fast.tw11077896625188655902 : True := trivial
theorem PySem.W.Fast.tw16237158365534701014 : True := trivial
theorem PySem.W.Fast.tw5471071988060062536 : True := trivial
theorem PySem.W.Fast.tw215755325962868101 : True := trivial
theorem PySem.W.Fast.tw15685015934296430517 : True := trivial
theorem PySem.W.Fast.tw6396485033749092008 : True := trivial
theorem PySem.W.Fast.tw16576473434248298738 : True := trivial
theorem PySem.W.Fast.tw16894852336944991863 : True := trivial
theorem PySem.W.Fast.tw3898411567074765 : True := trivial
theorem PySem.W.Fast.tw2341817433646458185 : True := trivial
theorem PySem.W.Fast.tw12390633555060928312 : True := trivial
theorem PySem.W.Fast.tw8239180292633878725 : True := trivial
theorem PySem.W.Fast.tw6477300906883547978 : True := trivial
theorem PySem.W.Fast.tw8337027130680036271 : True := trivial
theorem PySem.W.Fast.tw1500885731019754391 : True := trivial
theorem PySem.W.Fast.tw11503006327702758292 : True := trivial
theorem PySem.W.Fast.tw861641593715856634 : True := trivial
theorem PySem.W.Fast.tw12191501992321679916 : True := trivial
theorem PySem.W.Fast.tw15336423383219557621 : True := trivial
theorem PySem.W.Fast.tw4584660181039572523 : True := trivial
theorem PySem.W.Fast.tw11314074724740437728 : True := trivial
theorem PySem.W.Fast.tw13868488758531378623 : True := trivial
theorem PySem.W.Fast.tw16101417934727637838 : True := trivial
theorem PySem.W.Fast.tw1772961008071295582 : True := trivial
theorem PySem.W.Fast.tw16570521951082284036 : True := trivial
theorem PySem.W.Fast.tw16309842317698641531 : True := trivial
theorem PySem.W.Fast.tw301483550222648549 : True := trivial
theorem PySem.W.Fast.tw321694740894027745 : True := trivial
theorem PySem.W.Fast.tw13407491066206554982 : True := trivial
theorem PySem.W.Fast.tw15114159598722238568 : True := trivial
theorem PySem.W.Fast.tw17400721462090408101 : True := trivial
theorem PySem.W.Fast.tw18396094154300285886 : True := trivial
theorem PySem.W.Fast.tw12186483213209594180 : True := trivial
theorem PySem.W.Fast.tw9087400115814379665 : True := trivial
theorem PySem.W.Fast.tw6545892943924045507 : True := trivial
theorem PySem.W.Fast.tw11169496105812189211 : True := trivial
theorem PySem.W.Fast.tw636586611263686530 : True := trivial
theorem PySem.W.Fast.tw4965799040813716270 : True := trivial
theorem PySem.W.Fast.tw15767578942440099237 : True := trivial
theorem PySem.W.Fast.tw12594062357420642824 : True := trivial
theorem PySem.W.Fast.tw6220973378525056105 : True := trivial
theorem PySem.W.Fast.tw4969020144655302795 : True := trivial
theorem PySem.W.Fast.tw6737412043261157477 : True := trivial
theorem PySem.W.Fast.tw14103852862196136227 : True := trivial
theorem PySem.W.Fast.tw13984518975192734422 : True := trivial
theorem PySem.W.Fast.tw16099370078161368236 : True := trivial
theorem PySem.W.Fast.tw3776831854368051735 : True := trivial
theorem PySem.W.Fast.tw8190690442221939139 : True := trivial
theorem PySem.W.Fast.tw17239039657257481014 : True := trivial
theorem PySem.W.Fast.tw12791698216506346579 : True := trivial
theorem PySem.W.Fast.tw17868494925115999107 : True := trivial
theorem PySem.W.Fast.tw2188407941937453168 : True := trivial
theorem PySem.W.Fast.tw4869045913953634676 : True := trivial
theorem PySem.W.Fast.tw15476351606202819979 : True := trivial
theorem PySem.W.Fast.tw13704449504791219153 : True := trivial
theorem PySem.W.Fast.tw11090882602562602616 : True := trivial
theorem PySem.W.Fast.tw4745085138202739849 : True := trivial
theorem PySem.W.Fast.tw7957627328444371513 : True := trivial
theorem PySem.W.Fast.tw7973696554037837593 : True := trivial
theorem PySem.W.Fast.tw7314887581164085924 : True := trivial
theorem PySem.W.Fast.tw11820970821687934199 : True := trivial
theorem PySem.W.Fast.tw5263251828047556224 : True := trivial
theorem PySem.W.Fast.tw14524147973748129672 : True := trivial
theorem PySem.W.Fast.tw4490833532940844580 : True := trivial
theorem PySem.W.Fast.tw2558307069351056429 : True := trivial
theorem PySem.W.Fast.tw342792474432855699 : True := trivial
theorem PySem.W.Fast.tw13379524312770635157 : True := trivial
theorem PySem.W.Fast.tw2909839242402165071 : True := trivial
theorem PySem.W.Fast.tw3765112444773754617 : True := trivial
theorem PySem.W.Fast.tw830022138655332474 : True := trivial
theorem PySem.W.Fast.tw16013970278936780134 : True := trivial
theorem PySem.W.Fast.tw5817032438559364730 : True := trivial
theorem PySem.W.Fast.tw2902468258338616625 : True := trivial
theorem PySem.W.Fast.tw11330066455922995047 : True := trivial
theorem PySem.W.Fast.tw2426355732046870955 : True := trivial
theorem PySem.W.Fast.tw16116080200471046170 : True := trivial
theorem PySem.W.Fast.tw17410892186622107449 : True := trivial
theorem PySem.W.Fast.tw313533115672217391 : True := trivial
theorem PySem.W.Fast.tw1700767090615230237 : True := trivial
theorem PySem.W.Fast.tw2004851302862293350 : True := trivial
theorem PySem.W.Fast.tw3939337156503322202 : True := trivial
theorem PySem.W.Fast.tw7363805087496502652 : True := trivial
theorem PySem.W.Fast.tw7504981007397392368 : True := trivial
theorem PySem.W.Fast.tw6376057650182200065 : True := trivial
theorem PySem.W.Fast.tw962349004000148522 : True := trivial
theorem PySem.W.Fast.tw4565303223391280087 : True := trivial
theorem PySem.W.Fast.tw8723603164836416994 : True := trivial
theorem PySem.W.Fast.tw14847600224370219183 : True := trivial
theorem PySem.W.Fast.tw11746901487794670966 : True := trivial
theorem PySem.W.Fast.tw14542048544788231455 : True := trivial
theorem PySem.W.Fast.tw10765165054123062146 : True := trivial
theorem PySem.W.Fast.tw7618783049122978446 : True := trivial
theorem PySem.W.Fast.tw10540572263442762872 : True := trivial
theorem PySem.W.Fast.tw13363555655010717727 : True := trivial
theorem PySem.W.Fast.tw8459729991191090545 : True := trivial
theorem PySem.W.Fast.tw5189686960084958599 : True := trivial
theorem PySem.W.Fast.tw9896920819980520459 : True := trivial
theorem PySem.W.Fast.tw4595175116293839736 : True := trivial
theorem PySem.W.Fast.tw14494651191826314228 : True := trivial
theorem PySem.W.Fast.tw10909899979646189015 : True := trivial
theorem PySem.W.Fast.tw1215203043515750038 : True := trivial
theorem PySem.W.Fast.tw7975439263574879617 : True := trivial
theorem PySem.W.Fast.tw10371940232442052470 : True := trivial
theorem PySem.W.Fast.tw8880114358322067732 : True := trivial
theorem PySem.W.Fast.tw7106018941835037035 : True := trivial
theorem PySem.W.Fast.tw1727276590559820777 : True := trivial
theorem PySem.W.Fast.tw10159740395475068291 : True := trivial
theorem PySem.W.Fast.tw3940614887390173324 : True := trivial
theorem PySem.W.Fast.tw5630027218834058859 : True := trivial
theorem PySem.W.Fast.tw8945834978122080303 : True := trivial
theorem PySem.W.Fast.tw615403294288964203 : True := trivial
theorem PySem.W.Fast.tw11815435568852053322 : True := trivial
theorem PySem.W.Fast.tw11912467469924668880 : True := trivial
theorem PySem.W.Fast.tw13541196828672044315 : True := trivial
theorem PySem.W.Fast.tw211900525787994311 : True := trivial
theorem PySem.W.Fast.tw2755948440630733922 : True := trivial
theorem PySem.W.Fast.tw6983333019554763503 : True := trivial
theorem PySem.W.Fast.tw7425199071046269241 : True := trivial
theorem PySem.W.Fast.tw2821871574300406047 : True := trivial
theorem PySem.W.Fast.tw4554716929127107174 : True := trivial
theorem PySem.W.Fast.tw10648819148961546586 : True := trivial
theorem PySem.W.Fast.tw14036455565640145705 : True := trivial
theorem PySem.W.Fast.tw5467529116620007354 : True := trivial
theorem PySem.W.Fast.tw16317563343663867072 : True := trivial
theorem PySem.W.Fast.tw2667153499983709724 : True := trivial
theorem PySem.W.Fast.tw10694044085922350734 : True := trivial
theorem PySem.W.Fast.tw6198869927415763775 : True := trivial
theorem PySem.W.Fast.tw7585546450514142981 : True := trivial
theorem PySem.W.Fast.tw7875467621917303076 : True := trivial
theorem PySem.W.Fast.tw5153293586429197426 : True := trivial
theorem PySem.W.Fast.tw1060814022626723607 : True := trivial
theorem PySem.W.Fast.tw14611240244271637246 : True := trivial
theorem PySem.W.Fast.tw7362150077144325052 : True := trivial
theorem PySem.W.Fast.tw8929006398707896103 : True := trivial
theorem PySem.W.Fast.tw5148346290339814863 : True := trivial
theorem PySem.W.Fast.tw8841992264168041885 : True := trivial
theorem PySem.W.Fast.tw13340179031821085961 : True := trivial
theorem PySem.W.Fast.tw1404884006063863686 : True := trivial
theorem PySem.W.Fast.tw7578324131187828489 : True := trivial
theorem PySem.W.Fast.tw5646844009241513343 : True := trivial
theorem PySem.W.Fast.tw12375883740812783061 : True := trivial
theorem PySem.W.Fast.tw11257237925027520888 : True := trivial
theorem PySem.W.Fast.tw8458508042734361967 : True := trivial
theorem PySem.W.Fast.tw5021426837356892994 : True := trivial
theorem PySem.W.Fast.tw4846943219465235161 : True := trivial
theorem PySem.W.Fast.tw14668149964621221671 : True := trivial
theorem PySem.W.Fast.tw3616402552092637496 : True := trivial
theorem PySem.W.Fast.tw989283945992519723 : True := trivial
theorem PySem.W.Fast.tw3944437523986769983 : True := trivial
theorem PySem.W.Fast.tw11141201156279341816 : True := trivial
theorem PySem.W.Fast.tw8057279498858037358 : True := trivial
theorem PySem.W.Fast.tw12613805550283844027 : True := trivial
theorem PySem.W.Fast.tw5201441988066012058 : True := trivial
theorem PySem.W.Fast.tw2146322428339352781 : True := trivial
theorem PySem.W.Fast.tw1994237496714970311 : True := trivial
theorem PySem.W.Fast.tw16973579486329783794 : True := trivial
theorem PySem.W.Fast.tw9141486625445812040 : True := trivial
theorem PySem.W.Fast.tw17884957849688956946 : True := trivial
theorem PySem.W.Fast.tw18195340807450312684 : True := trivial
theorem PySem.W.Fast.tw3855337838754854158 : True := trivial
theorem PySem.W.Fast.tw8783778047777603677 : True := trivial
theorem PySem.W.Fast.tw3047226018124391064 : True := trivial
theorem PySem.W.Fast.tw9487534983218524301 : True := trivial
theorem PySem.W.Fast.tw13428398079941220568 : True := trivial
theorem PySem.W.Fast.tw15756843355631969341 : True := trivial
theorem PySem.W.Fast.tw9383690152338398375 : True := trivial
theorem PySem.W.Fast.tw15075759875761907329 : True := trivial
theorem PySem.W.Fast.tw10004362934901990334 : True := trivial
theorem PySem.W.Fast.tw17031204074182599959 : True := trivial
theorem PySem.W.Fast.tw10949192318886475686 : True := trivial
theorem PySem.W.Fast.tw6905571003602909015 : True := trivial
theorem PySem.W.Fast.tw9057873465133345089 : True := trivial
theorem PySem.W.Fast.tw15041851189101112028 : True := trivial
theorem PySem.W.Fast.tw2379578704031850775 : True := trivial
theorem PySem.W.Fast.tw11561872137952365274 : True := trivial
theorem PySem.W.Fast.tw11341891411956553049 : True := trivial
theorem PySem.W.Fast.tw1890266176766935270 : True := trivial
theorem PySem.W.Fast.tw18442161561152826358 : True := trivial
theorem PySem.W.Fast.tw1379018620249985453 : True := trivial
theorem PySem.W.Fast.tw14170876489119563209 : True := trivial
theorem PySem.W.Fast.tw7264883922028602627 : True := trivial
theorem PySem.W.Fast.tw10281379535451313828 : True := trivial
theorem PySem.W.Fast.tw14056517434470819958 : True := trivial
theorem PySem.W.Fast.tw7192319426699362474 : True := trivial
theorem PySem.W.Fast.tw10298210634414668618 : True := trivial
theorem PySem.W.Fast.tw16143106990772128032 : True := trivial
theorem PySem.W.Fast.tw8890370019444558218 : True := trivial
theorem PySem.W.Fast.tw10611802436957861154 : True := trivial
theorem PySem.W.Fast.tw8911454134301665725 : True := trivial
theorem PySem.W.Fast.tw6071219016983765694 : True := trivial
theorem PySem.W.Fast.tw11914325748339700365 : True := trivial
theorem PySem.W.Fast.tw9231155193466667797 : True := trivial
theorem PySem.W.Fast.tw12717932015585515812 : True := trivial
theorem PySem.W.Fast.tw17561729599993069653 : True := trivial
theorem PySem.W.Fast.tw1794454573079617264 : True := trivial
theorem PySem.W.Fast.tw15025720108904785982 : True := trivial
theorem PySem.W.Fast.tw2105056306843943989 : True := trivial
theorem PySem.W.Fast.tw11498577923824878129 : True := trivial
theorem PySem.W.Fast.tw16123870321514300516 : True := trivial
theorem PySem.W.Fast.tw11732029895636563225 : True := trivial
theorem PySem.W.Fast.tw662018838227465525 : True := trivial
theorem PySem.W.Fast.tw11888919371680276558 : True := trivial
theorem PySem.W.Fast.tw9216819773521169417 : True := trivial
theorem PySem.W.Fast.tw14191125714904847460 : True := trivial
theorem PySem.W.Fast.tw17684571038578206707 : True := trivial
theorem PySem.W.Fast.tw2567311166251447814 : True := trivial
theorem PySem.W.Fast.tw942472643467705311 : True := trivial
theorem PySem.W.Fast.tw15018216945702710510 : True := trivial
theorem PySem.W.Fast.tw8745208615786487157 : True := trivial
theorem PySem.W.Fast.tw4130722860062439887 : True := trivial
theorem PySem.W.Fast.tw9967540887352409525 : True := trivial
theorem PySem.W.Fast.tw5004197096067877655 : True := trivial
theorem PySem.W.Fast.tw11867548187737409823 : True := trivial
theorem PySem.W.Fast.tw2106113448905214502 : True := trivial
theorem PySem.W.Fast.tw13066376553754460123 : True := trivial
theorem PySem.W.Fast.tw3641270332237038440 : True := trivial
theorem PySem.W.Fast.tw13509305456124108119 : True := trivial
theorem PySem.W.Fast.tw4577736355693598323 : True := trivial
theorem PySem.W.Fast.tw4520445177718419731 : True := trivial
theorem PySem.W.Fast.tw13552103746701505528 : True := trivial
theorem PySem.W.Fast.tw8853164400122959819 : True := trivial
theorem PySem.W.Fast.tw5973707179452379410 : True := trivial
theorem PySem.W.Fast.tw3759430312293003177 : True := trivial
theorem PySem.W.Fast.tw4622905193202207429 : True := trivial
theorem PySem.W.Fast.tw4620262237918940654 : True := trivial
theorem PySem.W.Fast.tw1064315186144754790 : True := trivial
theorem PySem.W.Fast.tw7884978415806644044 : True := trivial
theorem PySem.W.Fast.tw1975675606557762349 : True := trivial
theorem PySem.W.Fast.tw17158839289921003086 : True := trivial
theorem PySem.W.Fast.tw9012441983239901083 : True := trivial
theorem PySem.W.Fast.tw10452063403992565943 : True := trivial
theorem PySem.W.Fast.tw12685740527652430955 : True := trivial
theorem PySem.W.Fast.tw12179346229739791740 : True := trivial
theorem PySem.W.Fast.tw5556036538138248565 : True := trivial
theorem PySem.W.Fast.tw16509568183213661536 : True := trivial
theorem PySem.W.Fast.tw17860097708767829413 : True := trivial
theorem PySem.W.Fast.tw3301281079247111156 : True := trivial
theorem PySem.W.Fast.tw349336408218185681 : True := trivial
theorem PySem.W.Fast.tw17017261299129804095 : True := trivial
theorem PySem.W.Fast.tw15295115273701708678 : True := trivial
theorem PySem.W.Fast.tw7703077275836782169 : True := trivial
theorem PySem.W.Fast.tw12165194975329071716 : True := trivial
theorem PySem.W.Fast.tw5166494759207375400 : True := trivial
theorem PySem.W.Fast.tw5644524350627397214 : True := trivial
theorem PySem.W.Fast.tw679975226193671759 : True := trivial
theorem PySem.W.Fast.tw3147977154049566091 : True := trivial
theorem PySem.W.Fast.tw7972696416535958335 : True := trivial
theorem PySem.W.Fast.tw7138918436751588870 : True := trivial
theorem PySem.W.Fast.tw5273688882537811541 : True := trivial
theorem PySem.W.Fast.tw8140015031315491401 : True := trivial
theorem PySem.W.Fast.tw533296931841033772 : True := trivial
theorem PySem.W.Fast.tw9986886616698073274 : True := trivial
theorem PySem.W.Fast.tw6307430262380502600 : True := trivial
theorem PySem.W.Fast.tw8285383044622834320 : True := trivial
theorem PySem.W.Fast.tw9204187998330888863 : True := trivial
theorem PySem.W.Fast.tw2232533430782690810 : True := trivial
theorem PySem.W.Fast.tw572767001011831028 : True := trivial
theorem PySem.W.Fast.tw17683419133564614637 : True := trivial
theorem PySem.W.Fast.tw4692125359520514158 : True := trivial
theorem PySem.W.Fast.tw645854373825146475 : True := trivial
theorem PySem.W.Fast.tw7729327056403307151 : True := trivial
theorem PySem.W.Fast.tw5905895977584962196 : True := trivial
theorem PySem.W.Fast.tw6409302078201847138 : True := trivial
theorem PySem.W.Fast.tw8659281933003172061 : True := trivial
theorem PySem.W.Fast.tw383351161017781151 : True := trivial
theorem PySem.W.Fast.tw4712089294124453471 : True := trivial
theorem PySem.W.Fast.tw4434457240371896368 : True := trivial
theorem PySem.W.Fast.tw11416188234292172336 : True := trivial
theorem PySem.W.Fast.tw6983511479449179773 : True := trivial
theorem PySem.W.Fast.tw6296228454390778346 : True := trivial
theorem PySem.W.Fast.tw14448855623226412186 : True := trivial
theorem PySem.W.Fast.tw10647956584454433534 : True := trivial
theorem PySem.W.Fast.tw6921618039209254816 : True := trivial
theorem PySem.W.Fast.tw9042761477093004813 : True := trivial
theorem PySem.W.Fast.tw5582902821102017866 : True := trivial
theorem PySem.W.Fast.tw13790078493687088629 : True := trivial
theorem PySem.W.Fast.tw4975810019833006232 : True := trivial
theorem PySem.W.Fast.tw15945361547568896504 : True := trivial
theorem PySem.W.Fast.tw8668993101341964757 : True := trivial
theorem PySem.W.Fast.tw9015658391745982954 : True := trivial
theorem PySem.W.Fast.tw1104109088527067484 : True := trivial
theorem PySem.W.Fast.tw1929037863066235477 : True := trivial
theorem PySem.W.Fast.tw2450530712797524455 : True := trivial
theorem PySem.W.Fast.tw15832160307289731436 : True := trivial
theorem PySem.W.Fast.tw10594692705070437336 : True := trivial
theorem PySem.W.Fast.tw4773382100058918441 : True := trivial
theorem PySem.W.Fast.tw9750364042719079132 : True := trivial
theorem PySem.W.Fast.tw4278815212450206599 : True := trivial
theorem PySem.W.Fast.tw8880212272111490959 : True := trivial
theorem PySem.W.Fast.tw18099331177680976733 : True := trivial
theorem PySem.W.Fast.tw18006035970884410820 : True := trivial
theorem PySem.W.Fast.tw13444198193677580762 : True := trivial
theorem PySem.W.Fast.tw17084435644109717130 : True := trivial
theorem PySem.W.Fast.tw15174935640513040204 : True := trivial
theorem PySem.W.Fast.tw717052867508205537 : True := trivial
theorem PySem.W.Fast.tw17855202556057870125 : True := trivial
theorem PySem.W.Fast.tw690709866937795038 : True := trivial
theorem PySem.W.Fast.tw9151976005586462933 : True := trivial
theorem PySem.W.Fast.tw7005839631143522023 : True := trivial
theorem PySem.W.Fast.tw4370323191493321364 : True := trivial
theorem PySem.W.Fast.tw14545010233046543405 : True := trivial
theorem PySem.W.Fast.tw10402267496845786728 : True := trivial
theorem PySem.W.Fast.tw13063257970840897082 : True := trivial
theorem PySem.W.Fast.tw15372199444504544833 : True := trivial
theorem PySem.W.Fast.tw14448306602656420307 : True := trivial
theorem PySem.W.Fast.tw2588729153183294457 : True := trivial
theorem PySem.W.Fast.tw13257525931489889124 : True := trivial
theorem PySem.W.Fast.tw7610442989834927220 : True := trivial
theorem PySem.W.Fast.tw3569686783324187509 : True := trivial
theorem PySem.W.Fast.tw8754858101583647488 : True := trivial
theorem PySem.W.Fast.tw2537986382020137604 : True := trivial
theorem PySem.W.Fast.tw7658174243293910017 : True := trivial
theorem PySem.W.Fast.tw13536720459585205588 : True := trivial
theorem PySem.W.Fast.tw11779111733086543411 : True := trivial
theorem PySem.W.Fast.tw5075161614660868604 : True := trivial
theorem PySem.W.Fast.tw9714760830213039284 : True := trivial
theorem PySem.W.Fast.tw1491124633317671674 : True := trivial
theorem PySem.W.Fast.tw12689252622624514247 : True := trivial
theorem PySem.W.Fast.tw13232010559955403619 : True := trivial
theorem PySem.W.Fast.tw8816158275292400158 : True := trivial
theorem PySem.W.Fast.tw1298917479653410569 : True := trivial
theorem PySem.W.Fast.tw5501958229440377322 : True := trivial
theorem PySem.W.Fast.tw2325916934611331863 : True := trivial
theorem PySem.W.Fast.tw11477758987915505816 : True := trivial
theorem PySem.W.Fast.tw11283023479727996613 : True := trivial
theorem PySem.W.Fast.tw516238894300946785 : True := trivial
theorem PySem.W.Fast.tw7495265187158015977 : True := trivial
theorem PySem.W.Fast.tw11580918186928705881 : True := trivial
theorem PySem.W.Fast.tw16560028381425993232 : True := trivial
theorem PySem.W.Fast.tw3689258833731824030 : True := trivial
theorem PySem.W.Fast.tw3743489272646354181 : True := trivial
theorem PySem.W.Fast.tw4626805534789477899 : True := trivial
theorem PySem.W.Fast.tw7424742623095381200 : True := trivial
theorem PySem.W.Fast.tw2810640375835328895 : True := trivial
theorem PySem.W.Fast.tw4039923819636226317 : True := trivial
theorem PySem.W.Fast.tw11320974766088919421 : True := trivial
theorem PySem.W.Fast.tw16461334781916387197 : True := trivial
theorem PySem.W.Fast.tw15563816983983865435 : True := trivial
theorem PySem.W.Fast.tw26738616510387278 : True := trivial
theorem PySem.W.Fast.tw8907565073363897588 : True := trivial
theorem PySem.W.Fast.tw9043649656699267494 : True := trivial
theorem PySem.W.Fast.tw4525213660089128406 : True := trivial
theorem PySem.W.Fast.tw6045846185299972412 : True := trivial
theorem PySem.W.Fast.tw5409438298695461489 : True := trivial
theorem PySem.W.Fast.tw5678194650363579148 : True := trivial
theorem PySem.W.Fast.tw3805186728971732835 : True := trivial
theorem PySem.W.Fast.tw6212697755067491310 : True := trivial
theorem PySem.W.Fast.tw628673762247272881 : True := trivial
theorem PySem.W.Fast.tw13174696998036319070 : True := trivial
theorem PySem.W.Fast.tw7780012330804567151 : True := trivial
theorem PySem.W.Fast.tw5137056841551881613 : True := trivial
theorem PySem.W.Fast.tw9386680945033401464 : True := trivial
theorem PySem.W.Fast.tw7320617058618865267 : True := trivial
theorem PySem.W.Fast.tw8963217762898269553 : True := trivial
theorem PySem.W.Fast.tw10234226578841985397 : True := trivial
theorem PySem.W.Fast.tw1306085089589329004 : True := trivial
theorem PySem.W.Fast.tw7609038823253752641 : True := trivial
theorem PySem.W.Fast.tw16556316755141419956 : True := trivial
theorem PySem.W.Fast.tw5533221365028501395 : True := trivial
theorem PySem.W.Fast.tw9888404790497695276 : True := trivial
theorem PySem.W.Fast.tw7923903310934706123 : True := trivial
theorem PySem.W.Fast.tw17267925258123615570 : True := trivial
theorem PySem.W.Fast.tw16832721294140237343 : True := trivial
theorem PySem.W.Fast.tw12748729828971946622 : True := trivial
theorem PySem.W.Fast.tw16499380080257875229 : True := trivial
theorem PySem.W.Fast.tw17473454323597393549 : True := trivial
theorem PySem.W.Fast.tw4296373606169196930 : True := trivial
theorem PySem.W.Fast.tw214298768084531395 : True := trivial
theorem PySem.W.Fast.tw15438368746724842425 : True := trivial
theorem PySem.W.Fast.tw123698224873744096 : True := trivial
theorem PySem.W.Fast.tw3470112642791985101 : True := trivial
theorem PySem.W.Fast.tw4361349421825797302 : True := trivial
theorem PySem.W.Fast.tw18113441543675708712 : True := trivial
theorem PySem.W.Fast.tw2646697441303228746 : True := trivial
theorem PySem.W.Fast.tw11578653577837744462 : True := trivial
theorem PySem.W.Fast.tw593461214812524708 : True := trivial
theorem PySem.W.Fast.tw4012070198601213377 : True := trivial
theorem PySem.W.Fast.tw11089712482201477193 : True := trivial
theorem PySem.W.Fast.tw5186447233826449578 : True := trivial
theorem PySem.W.Fast.tw9718916613844515953 : True := trivial
theorem PySem.W.Fast.tw10631302013538975691 : True := trivial
theorem PySem.W.Fast.tw5108747845908168950 : True := trivial
theorem PySem.W.Fast.tw12603934526460668539 : True := trivial
theorem PySem.W.Fast.tw7872151048881423222 : True := trivial
theorem PySem.W.Fast.tw17659853756405232708 : True := trivial
theorem PySem.W.Fast.tw4544108476947411802 : True := trivial
theorem PySem.W.Fast.tw15404450044253800328 : True := trivial
theorem PySem.W.Fast.tw7980624174245931847 : True := trivial
theorem PySem.W.Fast.tw2655147466431482550 : True := trivial
theorem PySem.W.Fast.tw13875607082507971923 : True := trivial
theorem PySem.W.Fast.tw10348300888309659959 : True := trivial
theorem PySem.W.Fast.tw17989903325600357099 : True := trivial
theorem PySem.W.Fast.tw4239746269093961866 : True := trivial
theorem PySem.W.Fast.tw11101923052658471373 : True := trivial
theorem PySem.W.Fast.tw8454793861739737500 : True := trivial
theorem PySem.W.Fast.tw7976434459550639234 : True := trivial
theorem PySem.W.Fast.tw3153893684347698595 : True := trivial
theorem PySem.W.Fast.tw15260286216732785503 : True := trivial
theorem PySem.W.Fast.tw2582599134086726063 : True := trivial
theorem PySem.W.Fast.tw17121523392332723218 : True := trivial
theorem PySem.W.Fast.tw18060059952800167056 : True := trivial
theorem PySem.W.Fast.tw11172273497145930442 : True := trivial
theorem PySem.W.Fast.tw11382613192998388609 : True := trivial
theorem PySem.W.Fast.tw16147163452801507116 : True := trivial
theorem PySem.W.Fast.tw12251862220117796913 : True := trivial
theorem PySem.W.Fast.tw18320775794772882168 : True := trivial
theorem PySem.W.Fast.tw9731010817907650501 : True := trivial
theorem PySem.W.Fast.tw1752503515807200200 : True := trivial
theorem PySem.W.Fast.tw17704623585242243909 : True := trivial
theorem PySem.W.Fast.tw7446404979949487561 : True := trivial
theorem PySem.W.Fast.tw10367246392014797164 : True := trivial
theorem PySem.W.Fast.tw10554968246810629194 : True := trivial
theorem PySem.W.Fast.tw9639035824800142493 : True := trivial
theorem PySem.W.Fast.tw14282252403575248859 : True := trivial
theorem PySem.W.Fast.tw15704206025259820490 : True := trivial
theorem PySem.W.Fast.tw272912612740452044 : True := trivial
theorem PySem.W.Fast.tw2735655094615426333 : True := trivial
theorem PySem.W.Fast.tw8135532129333902838 : True := trivial
theorem PySem.W.Fast.tw5990378557737255719 : True := trivial
theorem PySem.W.Fast.tw5125873538606618619 : True := trivial
theorem PySem.W.Fast.tw8574422351544832159 : True := trivial
theorem PySem.W.Fast.tw12362823470892206685 : True := trivial
theorem PySem.W.Fast.tw3998032936642598649 : True := trivial
theorem PySem.W.Fast.tw10232459987625232038 : True := trivial
theorem PySem.W.Fast.tw4493394117635663520 : True := trivial
theorem PySem.W.Fast.tw17575122046333344752 : True := trivial
theorem PySem.W.Fast.tw8913668612804195525 : True := trivial
theorem PySem.W.Fast.tw4103767784525226392 : True := trivial
theorem PySem.W.Fast.tw14121733817180669259 : True := trivial
theorem PySem.W.Fast.tw6976689617706954977 : True := trivial
theorem PySem.W.Fast.tw1895859274465282031 : True := trivial
theorem PySem.W.Fast.tw4511402710031080432 : True := trivial
theorem PySem.W.Fast.tw1375387688863357667 : True := trivial
theorem PySem.W.Fast.tw14099732770105295001 : True := trivial
theorem PySem.W.Fast.tw6753384803105443999 : True := trivial
theorem PySem.W.Fast.tw10191396886898296162 : True := trivial
theorem PySem.W.Fast.tw14121223705966719517 : True := trivial
theorem PySem.W.Fast.tw7440389868673073857 : True := trivial
theorem PySem.W.Fast.tw17629734058846718626 : True := trivial
theorem PySem.W.Fast.tw16739295980788939192 : True := trivial
theorem PySem.W.Fast.tw1937620754105689124 : True := trivial
theorem PySem.W.Fast.tw4442206628611041400 : True := trivial
theorem PySem.W.Fast.tw8238093101232325286 : True := trivial
theorem PySem.W.Fast.tw3156974874707861093 : True := trivial
theorem PySem.W.Fast.tw11109522481004551299 : True := trivial
theorem PySem.W.Fast.tw9115011691485589398 : True := trivial
theorem PySem.W.Fast.tw2683797373061264046 : True := trivial
theorem PySem.W.Fast.tw6730366919976707529 : True := trivial
theorem PySem.W.Fast.tw12117447129233892208 : True := trivial
theorem PySem.W.Fast.tw13433657071154346267 : True := trivial
theorem PySem.W.Fast.tw7794380952760228725 : True := trivial
theorem PySem.W.Fast.tw16082701792323815401 : True := trivial
theorem PySem.W.Fast.tw17536256510362585005 : True := trivial
theorem PySem.W.Fast.tw13335426549369919815 : True := trivial
theorem PySem.W.Fast.tw10837648726170661897 : True := trivial
theorem PySem.W.Fast.tw12648587856490250512 : True := trivial
theorem PySem.W.Fast.tw12241122102729731314 : True := trivial
theorem PySem.W.Fast.tw8205112227236081050 : True := trivial
theorem PySem.W.Fast.tw12775585452211251206 : True := trivial
theorem PySem.W.Fast.tw17484085065446969938 : True := trivial
theorem PySem.W.Fast.tw1075790938150570380 : True := trivial
theorem PySem.W.Fast.tw17925933554755624101 : True := trivial
theorem PySem.W.Fast.tw13584446049172226712 : True := trivial
theorem PySem.W.Fast.tw4540832675407823997 : True := trivial
theorem PySem.W.Fast.tw4818489354298500511 : True := trivial
theorem PySem.W.Fast.tw15526672320264957147 : True := trivial
theorem PySem.W.Fast.tw5864789758065396749 : True := trivial
theorem PySem.W.Fast.tw14870919311503873610 : True := trivial
theorem PySem.W.Fast.tw12965917752770664498 : True := trivial
theorem PySem.W.Fast.tw4974906113940066247 : True := trivial
theorem PySem.W.Fast.tw5111445345341835785 : True := trivial
theorem PySem.W.Fast.tw17595485217009380260 : True := trivial
theorem PySem.W.Fast.tw4186040094648122759 : True := trivial
theorem PySem.W.Fast.tw2320181109522395532 : True := trivial
theorem PySem.W.Fast.tw17834564425031440870 : True := trivial
theorem PySem.W.Fast.tw16764187527484742934 : True := trivial
theorem PySem.W.Fast.tw11322165377270350277 : True := trivial
theorem PySem.W.Fast.tw17167256500150698679 : True := trivial
theorem PySem.W.Fast.tw13171613216518560463 : True := trivial
theorem PySem.W.Fast.tw13465168558872880937 : True := trivial
theorem PySem.W.Fast.tw7555858266481328208 : True := trivial
theorem PySem.W.Fast.tw6779419656018861318 : True := trivial
theorem PySem.W.Fast.tw12360353647589921185 : True := trivial
theorem PySem.W.Fast.tw13544937479733027598 : True := trivial
theorem PySem.W.Fast.tw9896381982068085939 : True := trivial
theorem PySem.W.Fast.tw4886125483636211080 : True := trivial
theorem PySem.W.Fast.tw8604147864744105080 : True := trivial
theorem PySem.W.Fast.tw5330326774955524746 : True := trivial
theorem PySem.W.Fast.tw5878980147909732440 : True := trivial
theorem PySem.W.Fast.tw9965151069992065910 : True := trivial
theorem PySem.W.Fast.tw1274943025874581163 : True := trivial
theorem PySem.W.Fast.tw6996317590842739213 : True := trivial
theorem PySem.W.Fast.tw14568942299879029497 : True := trivial
theorem PySem.W.Fast.tw5179970922545247669 : True := trivial
theorem PySem.W.Fast.tw7883318059249394485 : True := trivial
theorem PySem.W.Fast.tw5998042888443421499 : True := trivial
theorem PySem.W.Fast.tw11645088096990126570 : True := trivial
theorem PySem.W.Fast.tw17790024393185002635 : True := trivial
theorem PySem.W.Fast.tw8503464174949250105 : True := trivial
theorem PySem.W.Fast.tw18418973247654666923 : True := trivial
theorem PySem.W.Fast.tw18094891775990173365 : True := trivial
theorem PySem.W.Fast.tw13812805873596497170 : True := trivial
theorem PySem.W.Fast.tw3214682614570064163 : True := trivial
theorem PySem.W.Fast.tw8057936598642135954 : True := trivial
theorem PySem.W.Fast.tw14654298756489086172 : True := trivial
theorem PySem.W.Fast.tw8134787841930609764 : True := trivial
theorem PySem.W.Fast.tw13497222216592671087 : True := trivial
theorem PySem.W.Fast.tw7203911986096911305 : True := trivial
theorem PySem.W.Fast.tw6992388453817063536 : True := trivial
theorem PySem.W.Fast.tw6165547887727051797 : True := trivial
theorem PySem.W.Fast.tw1776426460557417147 : True := trivial
theorem PySem.W.Fast.tw12865853623129397984 : True := trivial
theorem PySem.W.Fast.tw2600364978512304987 : True := trivial
theorem PySem.W.Fast.tw4463952689892962662 : True := trivial
theorem PySem.W.Fast.tw3875317191922417720 : True := trivial
theorem PySem.W.Fast.tw14826043467709767000 : True := trivial
theorem PySem.W.Fast.tw209504938233042238 : True := trivial
theorem PySem.W.Fast.tw4334875765729754637 : True := trivial
theorem PySem.W.Fast.tw6017959222010756223 : True := trivial
theorem PySem.W.Fast.tw9408191922356580783 : True := trivial
theorem PySem.W.Fast.tw9592377439569538222 : True := trivial
theorem PySem.W.Fast.tw9512528030283367834 : True := trivial
theorem PySem.W.Fast.tw16941818106885711497 : True := trivial
theorem PySem.W.Fast.tw5965727082518984608 : True := trivial
theorem PySem.W.Fast.tw16861093516030214499 : True := trivial
theorem PySem.W.Fast.tw1338703998363453142 : True := trivial
theorem PySem.W.Fast.tw4987282844227687812 : True := trivial
theorem PySem.W.Fast.tw16452552035524281958 : True := trivial
theorem PySem.W.Fast.tw6589694861936113894 : True := trivial
theorem PySem.W.Fast.tw16931399842598885292 : True := trivial
theorem PySem.W.Fast.tw17699857231137031743 : True := trivial
theorem PySem.W.Fast.tw10906696129964485745 : True := trivial
theorem PySem.W.Fast.tw11171331643145359541 : True := trivial
theorem PySem.W.Fast.tw1712208955537866609 : True := trivial
theorem PySem.W.Fast.tw14960100933560412675 : True := trivial
theorem PySem.W.Fast.tw14261277231252376942 : True := trivial
theorem PySem.W.Fast.tw7730645247015624017 : True := trivial
theorem PySem.W.Fast.tw17433997306323042145 : True := trivial
theorem PySem.W.Fast.tw3880076890620654695 : True := trivial
theorem PySem.W.Fast.tw10510588528337571695 : True := trivial
theorem PySem.W.Fast.tw12686882046658168873 : True := trivial
theorem PySem.W.Fast.tw4039327037338762218 : True := trivial
theorem PySem.W.Fast.tw5250748560380019508 : True := trivial
theorem PySem.W.Fast.tw4373613060134569051 : True := trivial
theorem PySem.W.Fast.tw7767650402077941485 : True := trivial
theorem PySem.W.Fast.tw3191586606638471379 : True := trivial
theorem PySem.W.Fast.tw740494274686652058 : True := trivial
theorem PySem.W.Fast.tw10124630854645966081 : True := trivial
theorem PySem.W.Fast.tw2626151613698694037 : True := trivial
theorem PySem.W.Fast.tw16594171170480854 : True := trivial
theorem PySem.W.Fast.tw14587892615644447434 : True := trivial
theorem PySem.W.Fast.tw3966965068347622993 : True := trivial
theorem PySem.W.Fast.tw4070298448846312841 : True := trivial
theorem PySem.W.Fast.tw11308895505531522952 : True := trivial
theorem PySem.W.Fast.tw201737877466643755 : True := trivial
theorem PySem.W.Fast.tw11537306196194311978 : True := trivial
theorem PySem.W.Fast.tw13916296498724012093 : True := trivial
theorem PySem.W.Fast.tw15788167436703098755 : True := trivial
theorem PySem.W.Fast.tw16105098317276894738 : True := trivial
theorem PySem.W.Fast.tw18216907148801221339 : True := trivial
theorem PySem.W.Fast.tw2354562206710701756 : True := trivial
theorem PySem.W.Fast.tw11916385897852474653 : True := trivial
theorem PySem.W.Fast.tw5401759206118943502 : True := trivial
theorem PySem.W.Fast.tw4926414764912186576 : True := trivial
theorem PySem.W.Fast.tw6240683460873516723 : True := trivial
theorem PySem.W.Fast.tw734809652576816678 : True := trivial
theorem PySem.W.Fast.tw13134766095663463402 : True := trivial
theorem PySem.W.Fast.tw7207228668092625923 : True := trivial
theorem PySem.W.Fast.tw5226772050467070680 : True := trivial
theorem PySem.W.Fast.tw10010808540799694858 : True := trivial
theorem PySem.W.Fast.tw7988102371382502899 : True := trivial
theorem PySem.W.Fast.tw6680298748778101186 : True := trivial
theorem PySem.W.Fast.tw1835291945212415978 : True := trivial
theorem PySem.W.Fast.tw7633748764243869601 : True := trivial
theorem PySem.W.Fast.tw877426705773758519 : True := trivial
theorem PySem.W.Fast.tw3964904082681990145 : True := trivial
theorem PySem.W.Fast.tw3028346240910201918 : True := trivial
theorem PySem.W.Fast.tw6887300034926401840 : True := trivial
theorem PySem.W.Fast.tw10413738358396042776 : True := trivial
theorem PySem.W.Fast.tw4812387884770862227 : True := trivial
theorem PySem.W.Fast.tw1969590214476003420 : True := trivial
theorem PySem.W.Fast.tw6599798060682162729 : True := trivial
theorem PySem.W.Fast.tw6762649759648072525 : True := trivial
theorem PySem.W.Fast.tw477710740639064003 : True := trivial
theorem PySem.W.Fast.tw17188703462278802660 : True := trivial
theorem PySem.W.Fast.tw11854093930622836097 : True := trivial
theorem PySem.W.Fast.tw9429010590719269209 : True := trivial
theorem PySem.W.Fast.tw17714926404812306505 : True := trivial
theorem PySem.W.Fast.tw6104890390135823282 : True := trivial
theorem PySem.W.Fast.tw7093100268790863364 : True := trivial
theorem PySem.W.Fast.tw10032045505062838257 : True := trivial
theorem PySem.W.Fast.tw16170276051610952579 : True := trivial
theorem PySem.W.Fast.tw17616741339203799805 : True := trivial
theorem PySem.W.Fast.tw5811592081716603839 : True := trivial
theorem PySem.W.Fast.tw3332330629627264709 : True := trivial
theorem PySem.W.Fast.tw10704999435065425814 : True := trivial
theorem PySem.W.Fast.tw10853705802612627713 : True := trivial
theorem PySem.W.Fast.tw9890914904040952416 : True := trivial
theorem PySem.W.Fast.tw1414833058670398360 : True := trivial
theorem PySem.W.Fast.tw3124984944105835955 : True := trivial
theorem PySem.W.Fast.tw10258349756917112722 : True := trivial
theorem PySem.W.Fast.tw9006770351638684765 : True := trivial
theorem PySem.W.Fast.tw6652722439649373230 : True := trivial
theorem PySem.W.Fast.tw15258230011450701723 : True := trivial
theorem PySem.W.Fast.tw4375411212330398657 : True := trivial
theorem PySem.W.Fast.tw17428234043254456471 : True := trivial
theorem PySem.W.Fast.tw8022253691871093706 : True := trivial
theorem PySem.W.Fast.tw7494234011567401657 : True := trivial
theorem PySem.W.Fast.tw17950680939808146951 : True := trivial
theorem PySem.W.Fast.tw10290602932498183249 : True := trivial
theorem PySem.W.Fast.tw3322634166404188627 : True := trivial
theorem PySem.W.Fast.tw760381100735924925 : True := trivial
theorem PySem.W.Fast.tw819666587546160026 : True := trivial
theorem PySem.W.Fast.tw9854606718060392824 : True := trivial
theorem PySem.W.Fast.tw11257634075179784670 : True := trivial
theorem PySem.W.Fast.tw10179408428605422273 : True := trivial
theorem PySem.W.Fast.tw15508588048532577559 : True := trivial
theorem PySem.W.Fast.tw18039109147127092201 : True := trivial
theorem PySem.W.Fast.tw14262405708750431118 : True := trivial
theorem PySem.W.Fast.tw16995167823231416366 : True := trivial
theorem PySem.W.Fast.tw14174391172472647487 : True := trivial
theorem PySem.W.Fast.tw6701734986814985979 : True := trivial
theorem PySem.W.Fast.tw15261678749840207157 : True := trivial
theorem PySem.W.Fast.tw16598378378479303218 : True := trivial
theorem PySem.W.Fast.tw9260677099511619648 : True := trivial
theorem PySem.W.Fast.tw5124917328704195618 : True := trivial
theorem PySem.W.Fast.tw6978972091671762304 : True := trivial
theorem PySem.W.Fast.tw15644931277270419394 : True := trivial
theorem PySem.W.Fast.tw176501142990745574 : True := trivial
theorem PySem.W.Fast.tw807039596311392477 : True := trivial
theorem PySem.W.Fast.tw12595470854603709034 : True := trivial
theorem PySem.W.Fast.tw826346665291717269 : True := trivial
theorem PySem.W.Fast.tw11245348286195088235 : True := trivial
theorem PySem.W.Fast.tw16526739208391127007 : True := trivial
theorem PySem.W.Fast.tw11701206337897290644 : True := trivial
theorem PySem.W.Fast.tw14568177372399062190 : True := trivial
theorem PySem.W.Fast.tw12348364069297344611 : True := trivial
theorem PySem.W.Fast.tw13365481593846416353 : True := trivial
theorem PySem.W.Fast.tw17024387310018429470 : True := trivial
theorem PySem.W.Fast.tw10517130062706117325 : True := trivial
theorem PySem.W.Fast.tw2561627238646712788 : True := trivial
theorem PySem.W.Fast.tw4333922426764805733 : True := trivial
theorem PySem.W.Fast.tw1758300756997034153 : True := trivial
theorem PySem.W.Fast.tw14560760837995871289 : True := trivial
theorem PySem.W.Fast.tw14762769390899056771 : True := trivial
theorem PySem.W.Fast.tw7709576954967706713 : True := trivial
theorem PySem.W.Fast.tw17152026875705453465 : True := trivial
theorem PySem.W.Fast.tw7929214583672752863 : True := trivial
theorem PySem.W.Fast.tw11617488192598242544 : True := trivial
theorem PySem.W.Fast.tw4428248710931980213 : True := trivial
theorem PySem.W.Fast.tw749238453738993322 : True := trivial
theorem PySem.W.Fast.tw6900267550672567582 : True := trivial
theorem PySem.W.Fast.tw9129196990181738914 : True := trivial
theorem PySem.W.Fast.tw8388312742729679929 : True := trivial
theorem PySem.W.Fast.tw17809485263504846299 : True := trivial
theorem PySem.W.Fast.tw3691514825354526903 : True := trivial
theorem PySem.W.Fast.tw10857440857513349448 : True := trivial
theorem PySem.W.Fast.tw72740665059168481 : True := trivial
theorem PySem.W.Fast.tw5105039368197520780 : True := trivial
theorem PySem.W.Fast.tw10781040887132045119 : True := trivial
theorem PySem.W.Fast.tw17388106522545400913 : True := trivial
theorem PySem.W.Fast.tw16250492124804920592 : True := trivial
theorem PySem.W.Fast.tw2362519693598536412 : True := trivial
theorem PySem.W.Fast.tw15406131462530149142 : True := trivial
theorem PySem.W.Fast.tw2518021238833165308 : True := trivial
theorem PySem.W.Fast.tw17934655917438348769 : True := trivial
theorem PySem.W.Fast.tw5647292954432823443 : True := trivial
theorem PySem.W.Fast.tw6876488069627767276 : True := trivial
theorem PySem.W.Fast.tw16909794034017389203 : True := trivial
theorem PySem.W.Fast.tw16399114660808698473 : True := trivial
theorem PySem.W.Fast.tw11148872468533749601 : True := trivial
theorem PySem.W.Fast.tw411591672897443447 : True := trivial
theorem PySem.W.Fast.tw3363160792698577501 : True := trivial
theorem PySem.W.Fast.tw16476683354193606991 : True := trivial
theorem PySem.W.Fast.tw16805030290877111038 : True := trivial
theorem PySem.W.Fast.tw11193964157844098985 : True := trivial
theorem PySem.W.Fast.tw9102546844900631575 : True := trivial
theorem PySem.W.Fast.tw10599492475744065252 : True := trivial
theorem PySem.W.Fast.tw8431217305945134631 : True := trivial
theorem PySem.W.Fast.tw12238033179926690864 : True := trivial
theorem PySem.W.Fast.tw13756292994051493250 : True := trivial
theorem PySem.W.Fast.tw10265496256473806392 : True := trivial
theorem PySem.W.Fast.tw5856228124619575759 : True := trivial
theorem PySem.W.Fast.tw18064407111042309583 : True := trivial
theorem PySem.W.Fast.tw71856361332011471 : True := trivial
theorem PySem.W.Fast.tw4495007561001974131 : True := trivial
theorem PySem.W.Fast.tw13068748273186702514 : True := trivial
theorem PySem.W.Fast.tw806901258809596421 : True := trivial
theorem PySem.W.Fast.tw7697389555295166941 : True := trivial
theorem PySem.W.Fast.tw3915819714732024516 : True := trivial
theorem PySem.W.Fast.tw9481912591765871188 : True := trivial
theorem PySem.W.Fast.tw143076705087669149 : True := trivial
theorem PySem.W.Fast.tw8763796537734863576 : True := trivial
theorem PySem.W.Fast.tw4377805893321735415 : True := trivial
theorem PySem.W.Fast.tw6984232818969887197 : True := trivial
theorem PySem.W.Fast.tw9995268559177232858 : True := trivial
theorem PySem.W.Fast.tw7176673720531919713 : True := trivial
theorem PySem.W.Fast.tw13405586495842249310 : True := trivial
theorem PySem.W.Fast.tw335628790507479488 : True := trivial
theorem PySem.W.Fast.tw4156614616966818603 : True := trivial
theorem PySem.W.Fast.tw7193247950535440841 : True := trivial
theorem PySem.W.Fast.tw10757075254889727888 : True := trivial
theorem PySem.W.Fast.tw4353667867467454257 : True := trivial
theorem PySem.W.Fast.tw12907774861339179651 : True := trivial
theorem PySem.W.Fast.tw16545856362943140674 : True := trivial
theorem PySem.W.Fast.tw7744260396442681063 : True := trivial
theorem PySem.W.Fast.tw7423625844789123300 : True := trivial
theorem PySem.W.Fast.tw3550957264845692141 : True := trivial
theorem PySem.W.Fast.tw7101194638712343488 : True := trivial
theorem PySem.W.Fast.tw5320776900127363221 : True := trivial
theorem PySem.W.Fast.tw13734497532520308639 : True := trivial
theorem PySem.W.Fast.tw17762693355411834695 : True := trivial
theorem PySem.W.Fast.tw10569401129858670419 : True := trivial
theorem PySem.W.Fast.tw3170562733683641132 : True := trivial
theorem PySem.W.Fast.tw10145730088000899232 : True := trivial
theorem PySem.W.Fast.tw8885253555130022806 : True := trivial
theorem PySem.W.Fast.tw11479214025955566577 : True := trivial
theorem PySem.W.Fast.tw1902773433801709749 : True := trivial
theorem PySem.W.Fast.tw10763804539978610211 : True := trivial
theorem PySem.W.Fast.tw17736734503162286632 : True := trivial
theorem PySem.W.Fast.tw16514366826234385744 : True := trivial
theorem PySem.W.Fast.tw12664463044463814059 : True := trivial
theorem PySem.W.Fast.tw14469747258372588356 : True := trivial
theorem PySem.W.Fast.tw14028616487432614903 : True := trivial
theorem PySem.W.Fast.tw14380234582459304871 : True := trivial
theorem PySem.W.Fast.tw5943065093659614864 : True := trivial
theorem PySem.W.Fast.tw12373572435443282788 : True := trivial
theorem PySem.W.Fast.tw3713156674687330480 : True := trivial
theorem PySem.W.Fast.tw1725858807768138605 : True := trivial
theorem PySem.W.Fast.tw13839836639855870558 : True := trivial
theorem PySem.W.Fast.tw17540352657814588779 : True := trivial
theorem PySem.W.Fast.tw2529753565604428057 : True := trivial
theorem PySem.W.Fast.tw16783318796584649280 : True := trivial
theorem PySem.W.Fast.tw85811418728516853 : True := trivial
theorem PySem.W.Fast.tw3967197019875720925 : True := trivial
theorem PySem.W.Fast.tw11492055267499770328 : True := trivial
theorem PySem.W.Fast.tw15652090561196914307 : True := trivial
theorem PySem.W.Fast.tw11382514964659434767 : True := trivial
theorem PySem.W.Fast.tw6890830808411493824 : True := trivial
theorem PySem.W.Fast.tw9712281870954785351 : True := trivial
theorem PySem.W.Fast.tw4612365699289416405 : True := trivial
theorem PySem.W.Fast.tw10981287709430622227 : True := trivial
theorem PySem.W.Fast.tw5221438309374404272 : True := trivial
theorem PySem.W.Fast.tw13554957961014620118 : True := trivial
theorem PySem.W.Fast.tw1071324502822340337 : True := trivial
theorem PySem.W.Fast.tw15972570721769437376 : True := trivial
theorem PySem.W.Fast.tw10445237416069400327 : True := trivial
theorem PySem.W.Fast.tw18416050664168087323 : True := trivial
theorem PySem.W.Fast.tw2767895295748309101 : True := trivial
theorem PySem.W.Fast.tw17267660770822234592 : True := trivial
theorem PySem.W.Fast.tw6381934910640739050 : True := trivial
theorem PySem.W.Fast.tw12752331455626584377 : True := trivial
theorem PySem.W.Fast.tw7710976464242296538 : True := trivial
theorem PySem.W.Fast.tw7937634656818632745 : True := trivial
theorem PySem.W.Fast.tw5947264123003120770 : True := trivial
theorem PySem.W.Fast.tw7209129429366272737 : True := trivial
theorem PySem.W.Fast.tw14854197016775679924 : True := trivial
theorem PySem.W.Fast.tw13652247307956272871 : True := trivial
theorem PySem.W.Fast.tw2843334386931691837 : True := trivial
theorem PySem.W.Fast.tw11555708193533316508 : True := trivial
theorem PySem.W.Fast.tw13817545344642070611 : True := trivial
theorem PySem.W.Fast.tw3406401386174273557 : True := trivial
theorem PySem.W.Fast.tw16979187751214624938 : True := trivial
theorem PySem.W.Fast.tw3136143253703449887 : True := trivial
theorem PySem.W.Fast.tw1820110921835834933 : True := trivial
theorem PySem.W.Fast.tw2233123671033355629 : True := trivial
theorem PySem.W.Fast.tw11139363394377030640 : True := trivial
theorem PySem.W.Fast.tw2393741069948290061 : True := trivial
theorem PySem.W.Fast.tw13628135515631648438 : True := trivial
theorem PySem.W.Fast.tw5896152972169410082 : True := trivial
theorem PySem.W.Fast.tw11902362701006904319 : True := trivial
theorem PySem.W.Fast.tw5558304247859435445 : True := trivial
theorem PySem.W.Fast.tw12347280389896751312 : True := trivial
theorem PySem.W.Fast.tw16575865561537843338 : True := trivial
theorem PySem.W.Fast.tw10100637636123631774 : True := trivial
theorem PySem.W.Fast.tw7689418923961175272 : True := trivial
theorem PySem.W.Fast.tw14646169886235714904 : True := trivial
theorem PySem.W.Fast.tw13176645101026300412 : True := trivial
theorem PySem.W.Fast.tw13531120944822985855 : True := trivial
theorem PySem.W.Fast.tw11582667370157859857 : True := trivial
theorem PySem.W.Fast.tw5722404708331606737 : True := trivial
theorem PySem.W.Fast.tw10714044651253251928 : True := trivial
theorem PySem.W.Fast.tw1754823344884339374 : True := trivial
theorem PySem.W.Fast.tw8777545991091657889 : True := trivial
theorem PySem.W.Fast.tw14950675086044141671 : True := trivial
theorem PySem.W.Fast.tw12931503133895342175 : True := trivial
theorem PySem.W.Fast.tw3135719867588161186 : True := trivial
theorem PySem.W.Fast.tw1553787232628136700 : True := trivial
theorem PySem.W.Fast.tw5377664697456724824 : True := trivial
theorem PySem.W.Fast.tw11684132116039702495 : True := trivial
theorem PySem.W.Fast.tw526304720471753310 : True := trivial
theorem PySem.W.Fast.tw1978821275079442900 : True := trivial
theorem PySem.W.Fast.tw10966183793090212249 : True := trivial
theorem PySem.W.Fast.tw4523636346265807564 : True := trivial
theorem PySem.W.Fast.tw7879649096727224713 : True := trivial
theorem PySem.W.Fast.tw16683652043042998765 : True := trivial
theorem PySem.W.Fast.tw10771739546641522645 : True := trivial
theorem PySem.W.Fast.tw8214760747720923670 : True := trivial
theorem PySem.W.Fast.tw15772506480356994470 : True := trivial
theorem PySem.W.Fast.tw4688784130697424346 : True := trivial
theorem PySem.W.Fast.tw322432136162549952 : True := trivial
theorem PySem.W.Fast.tw1635436144597468837 : True := trivial
theorem PySem.W.Fast.tw7082865740121453187 : True := trivial
theorem PySem.W.Fast.tw16586030954670575123 : True := trivial
theorem PySem.W.Fast.tw7976629658794802180 : True := trivial
theorem PySem.W.Fast.tw10902588481925680369 : True := trivial
theorem PySem.W.Fast.tw9844321214791082175 : True := trivial
theorem PySem.W.Fast.tw9466408239316657131 : True := trivial
theorem PySem.W.Fast.tw9142386444713718621 : True := trivial
theorem PySem.W.Fast.tw11364274859911865926 : True := trivial
theorem PySem.W.Fast.tw10300276920240376568 : True := trivial
theorem PySem.W.Fast.tw9173510979190952481 : True := trivial
theorem PySem.W.Fast.tw653113706714903846 : True := trivial
theorem PySem.W.Fast.tw394117953633782583 : True := trivial
theorem PySem.W.Fast.tw17832858098559613539 : True := trivial
theorem PySem.W.Fast.tw341061145125932362 : True := trivial
theorem PySem.W.Fast.tw15269544053042722776 : True := trivial
theorem PySem.W.Fast.tw16602412490505889413 : True := trivial
theorem PySem.W.Fast.tw5536408944141461838 : True := trivial
theorem PySem.W.Fast.tw8602497301052654736 : True := trivial
theorem PySem.W.Fast.tw18010850802399974499 : True := trivial
theorem PySem.W.Fast.tw5373978816658129607 : True := trivial
theorem PySem.W.Fast.tw14975939145563769472 : True := trivial
theorem PySem.W.Fast.tw10389920753469974759 : True := trivial
theorem PySem.W.Fast.tw11631969031520355923 : True := trivial
theorem PySem.W.Fast.tw5471618082541964491 : True := trivial
theorem PySem.W.Fast.tw7282328363770501146 : True := trivial
theorem PySem.W.Fast.tw18413317415561192884 : True := trivial
theorem PySem.W.Fast.tw8503042297689594481 : True := trivial
theorem PySem.W.Fast.tw9688932349433406039 : True := trivial
theorem PySem.W.Fast.tw18401368720882841033 : True := trivial
theorem PySem.W.Fast.tw13347419875467171175 : True := trivial
theorem PySem.W.Fast.tw1985421164185799102 : True := trivial
theorem PySem.W.Fast.tw17279695070119087353 : True := trivial
theorem PySem.W.Fast.tw1985915507183424764 : True := trivial
theorem PySem.W.Fast.tw4050182403614640996 : True := trivial
theorem PySem.W.Fast.tw2331639548086517750 : True := trivial
theorem PySem.W.Fast.tw5696199136185655562 : True := trivial
theorem PySem.W.Fast.tw12580524073866559253 : True := trivial
theorem PySem.W.Fast.tw18276434028879814784 : True := trivial
theorem PySem.W.Fast.tw17374801523383510615 : True := trivial
theorem PySem.W.Fast.tw12737843477005808943 : True := trivial
theorem PySem.W.Fast.tw12711718796806321956 : True := trivial
theorem PySem.W.Fast.tw8961697337952773554 : True := trivial
theorem PySem.W.Fast.tw15788070122226044970 : True := trivial
theorem PySem.W.Fast.tw10204825909514510734 : True := trivial
theorem PySem.W.Fast.tw5402845036612718435 : True := trivial
theorem PySem.W.Fast.tw10573692750186439471 : True := trivial
theorem PySem.W.Fast.tw13891553292394930795 : True := trivial
theorem PySem.W.Fast.tw15221268231519934952 : True := trivial
theorem PySem.W.Fast.tw6404255590168959142 : True := trivial
theorem PySem.W.Fast.tw10778870878569003032 : True := trivial
theorem PySem.W.Fast.tw16095824408808878532 : True := trivial
theorem PySem.W.Fast.tw5621187853796476530 : True := trivial
theorem PySem.W.Fast.tw7031540708401749234 : True := trivial
theorem PySem.W.Fast.tw18067897934915072625 : True := trivial
theorem PySem.W.Fast.tw5155069678002265112 : True := trivial
theorem PySem.W.Fast.tw9735163015728669640 : True := trivial
theorem PySem.W.Fast.tw15758491240445344341 : True := trivial
theorem PySem.W.Fast.tw3348320380012803578 : True := trivial
theorem PySem.W.Fast.tw13011346386082063162 : True := trivial
theorem PySem.W.Fast.tw11020964503630975874 : True := trivial
theorem PySem.W.Fast.tw13407698301638417885 : True := trivial
theorem PySem.W.Fast.tw13940579080467181038 : True := trivial
theorem PySem.W.Fast.tw12995381249921571359 : True := trivial
theorem PySem.W.Fast.tw7095928202526140439 : True := trivial
theorem PySem.W.Fast.tw9636882034478411620 : True := trivial
theorem PySem.W.Fast.tw8617144051929109933 : True := trivial
theorem PySem.W.Fast.tw8928243569991069287 : True := trivial
theorem PySem.W.Fast.tw2761101812518299665 : True := trivial
theorem PySem.W.Fast.tw6346017707512237100 : True := trivial
theorem PySem.W.Fast.tw15669225829768210101 : True := trivial
theorem PySem.W.Fast.tw9266884784724269788 : True := trivial
theorem PySem.W.Fast.tw145200553648492762 : True := trivial
theorem PySem.W.Fast.tw13690488038382438949 : True := trivial
theorem PySem.W.Fast.tw1750278525429276999 : True := trivial
theorem PySem.W.Fast.tw8239282445419312479 : True := trivial
theorem PySem.W.Fast.tw12426752313104383253 : True := trivial
theorem PySem.W.Fast.tw10862217081189712601 : True := trivial
theorem PySem.W.Fast.tw15737167644706198842 : True := trivial
theorem PySem.W.Fast.tw17512675931930451397 : True := trivial
theorem PySem.W.Fast.tw7553267115555884864 : True := trivial
theorem PySem.W.Fast.tw8055237919901579231 : True := trivial
theorem PySem.W.Fast.tw5593948272141744280 : True := trivial
theorem PySem.W.Fast.tw15579947521110899241 : True := trivial
theorem PySem.W.Fast.tw2805323609429176516 : True := trivial
theorem PySem.W.Fast.tw7002030653805716934 : True := trivial
theorem PySem.W.Fast.tw12399484999665545592 : True := trivial
theorem PySem.W.Fast.tw8873094254742242191 : True := trivial
theorem PySem.W.Fast.tw4306428656373854666 : True := trivial
theorem PySem.W.Fast.tw9650562562830119754 : True := trivial
theorem PySem.W.Fast.tw8521039998465647308 : True := trivial
theorem PySem.W.Fast.tw955932120656078849 : True := trivial
theorem PySem.W.Fast.tw3739757607393731698 : True := trivial
theorem PySem.W.Fast.tw5409179725450361335 : True := trivial
theorem PySem.W.Fast.tw1391623328900520148 : True := trivial
theorem PySem.W.Fast.tw15869108511838433154 : True := trivial
theorem PySem.W.Fast.tw12697633549535862329 : True := trivial
theorem PySem.W.Fast.tw12888625350382921338 : True := trivial
theorem PySem.W.Fast.tw696256763785498965 : True := trivial
theorem PySem.W.Fast.tw14682832822604315120 : True := trivial
theorem PySem.W.Fast.tw13893329846176410269 : True := trivial
theorem PySem.W.Fast.tw3462361436231550163 : True := trivial
theorem PySem.W.Fast.tw16227790010338177417 : True := trivial
theorem PySem.W.Fast.tw12752230483456935083 : True := trivial
theorem PySem.W.Fast.tw5949283191763780480 : True := trivial
theorem PySem.W.Fast.tw9972524585639067466 : True := trivial
theorem PySem.W.Fast.tw10516819378653637569 : True := trivial
theorem PySem.W.Fast.tw12959553261294762158 : True := trivial
theorem PySem.W.Fast.tw14602593799014004261 : True := trivial
theorem PySem.W.Fast.tw16628335326061858117 : True := trivial
theorem PySem.W.Fast.tw5593098473582937997 : True := trivial
theorem PySem.W.Fast.tw12426409772989967630 : True := trivial
theorem PySem.W.Fast.tw3284089514755655391 : True := trivial
theorem PySem.W.Fast.tw12575984467086648519 : True := trivial
theorem PySem.W.Fast.tw14731143667663487307 : True := trivial
theorem PySem.W.Fast.tw7681779984698954712 : True := trivial
theorem PySem.W.Fast.tw13786853649811564139 : True := trivial
theorem PySem.W.Fast.tw13599621611239013714 : True := trivial
theorem PySem.W.Fast.tw1546898625951751513 : True := trivial
theorem PySem.W.Fast.tw11229505381300818927 : True := trivial
theorem PySem.W.Fast.tw11455678412903816944 : True := trivial
theorem PySem.W.Fast.tw976213864411326454 : True := trivial
theorem PySem.W.Fast.tw12019957751995777352 : True := trivial
theorem PySem.W.Fast.tw8771692007641456391 : True := trivial
theorem PySem.W.Fast.tw15664413059565607122 : True := trivial
theorem PySem.W.Fast.tw1479504825993036244 : True := trivial
theorem PySem.W.Fast.tw1296747014276591411 : True := trivial
theorem PySem.W.Fast.tw6613655390784274249 : True := trivial
theorem PySem.W.Fast.tw1181750988428987517 : True := trivial
theorem PySem.W.Fast.tw3467258673261046432 : True := trivial
theorem PySem.W.Fast.tw4168525966219780665 : True := trivial
theorem PySem.W.Fast.tw9123991472758253601 : True := trivial
theorem PySem.W.Fast.tw11603251038247909375 : True := trivial
theorem PySem.W.Fast.tw18002529184513273798 : True := trivial
theorem PySem.W.Fast.tw2096139610412023829 : True := trivial
theorem PySem.W.Fast.tw10876430536468287709 : True := trivial
theorem PySem.W.Fast.tw11669067229441036472 : True := trivial
theorem PySem.W.Fast.tw11093167504622870174 : True := trivial
theorem PySem.W.Fast.tw2143357545139666999 : True := trivial
theorem PySem.W.Fast.tw5663976603314978824 : True := trivial
theorem PySem.W.Fast.tw10733849984421617171 : True := trivial
theorem PySem.W.Fast.tw1956627273096076008 : True := trivial
theorem PySem.W.Fast.tw217835054862549300 : True := trivial
theorem PySem.W.Fast.tw4678962547110340084 : True := trivial
theorem PySem.W.Fast.tw16012756303225137444 : True := trivial
theorem PySem.W.Fast.tw18321643893037831812 : True := trivial
theorem PySem.W.Fast.tw10453914375360573317 : True := trivial
theorem PySem.W.Fast.tw5376535690898809751 : True := trivial
theorem PySem.W.Fast.tw1389066946947781857 : True := trivial
theorem PySem.W.Fast.tw9264807789465880522 : True := trivial
theorem PySem.W.Fast.tw2946858476418385020 : True := trivial
theorem PySem.W.Fast.tw2469891793502235220 : True := trivial
theorem PySem.W.Fast.tw2884526091893483991 : True := trivial
theorem PySem.W.Fast.tw9099627631310885226 : True := trivial
theorem PySem.W.Fast.tw4782530749184935585 : True := trivial
theorem PySem.W.Fast.tw11279097463629585068 : True := trivial
theorem PySem.W.Fast.tw5965693896771781256 : True := trivial
theorem PySem.W.Fast.tw11024023841418178461 : True := trivial
theorem PySem.W.Fast.tw9821773991237419114 : True := trivial
theorem PySem.W.Fast.tw10938052352701869115 : True := trivial
theorem PySem.W.Fast.tw8387294617800420646 : True := trivial
theorem PySem.W.Fast.tw5908610980178088328 : True := trivial
theorem PySem.W.Fast.tw9777437338464121997 : True := trivial
theorem PySem.W.Fast.tw15994686440761395231 : True := trivial
theorem PySem.W.Fast.tw14986847555311454867 : True := trivial
theorem PySem.W.Fast.tw14711137670886687693 : True := trivial
theorem PySem.W.Fast.tw12931326858921150743 : True := trivial
theorem PySem.W.Fast.tw3765069467866334117 : True := trivial
theorem PySem.W.Fast.tw6936796926522091419 : True := trivial
theorem PySem.W.Fast.tw6298154182592641326 : True := trivial
theorem PySem.W.Fast.tw5005212590319462153 : True := trivial
theorem PySem.W.Fast.tw14792038854653601540 : True := trivial
theorem PySem.W.Fast.tw1488319569902738127 : True := trivial
theorem PySem.W.Fast.tw16693330073746410276 : True := trivial
theorem PySem.W.Fast.tw13236217533683870269 : True := trivial
theorem PySem.W.Fast.tw765948238263411752 : True := trivial
theorem PySem.W.Fast.tw2017047844231650148 : True := trivial
theorem PySem.W.Fast.tw5109470326913193081 : True := trivial
theorem PySem.W.Fast.tw878556686559193585 : True := trivial
theorem PySem.W.Fast.tw2763538028148965016 : True := trivial
theorem PySem.W.Fast.tw18110120661223445374 : True := trivial
theorem PySem.W.Fast.tw10002911624318118597 : True := trivial
theorem PySem.W.Fast.tw1770003512296267937 : True := trivial
theorem PySem.W.Fast.tw17268993318729027500 : True := trivial
theorem PySem.W.Fast.tw1578685980126365107 : True := trivial
theorem PySem.W.Fast.tw18062718196999560748 : True := trivial
theorem PySem.W.Fast.tw6221684726978702190 : True := trivial
theorem PySem.W.Fast.tw11007557927067879451 : True := trivial
theorem PySem.W.Fast.tw15535890637148288813 : True := trivial
theorem PySem.W.Fast.tw11198809114103111180 : True := trivial
theorem PySem.W.Fast.tw6366934796205126200 : True := trivial
theorem PySem.W.Fast.tw1734659567939604735 : True := trivial
theorem PySem.W.Fast.tw12671320197982940071 : True := trivial
theorem PySem.W.Fast.tw9196281944237516052 : True := trivial
theorem PySem.W.Fast.tw10778010212054868641 : True := trivial
theorem PySem.W.Fast.tw2198096379017157748 : True := trivial
theorem PySem.W.Fast.tw236019732475179326 : True := trivial
theorem PySem.W.Fast.tw10857007868676674976 : True := trivial
theorem PySem.W.Fast.tw1854620393850152195 : True := trivial
theorem PySem.W.Fast.tw2596808526847037351 : True := trivial
theorem PySem.W.Fast.tw13838431886352788757 : True := trivial
theorem PySem.W.Fast.tw9773071688918863628 : True := trivial
theorem PySem.W.Fast.tw12428942729534300915 : True := trivial
theorem PySem.W.Fast.tw8834538850431071855 : True := trivial
theorem PySem.W.Fast.tw17464134047410096912 : True := trivial
theorem PySem.W.Fast.tw7256112264215554637 : True := trivial
theorem PySem.W.Fast.tw7902142611222422829 : True := trivial
theorem PySem.W.Fast.tw1201471234660387473 : True := trivial
theorem PySem.W.Fast.tw4858154115885900671 : True := trivial
theorem PySem.W.Fast.tw13633951139879776331 : True := trivial
theorem PySem.W.Fast.tw3732438920233498952 : True := trivial
theorem PySem.W.Fast.tw4946021276806962640 : True := trivial
theorem PySem.W.Fast.tw12013751568631636561 : True := trivial
theorem PySem.W.Fast.tw2070179781209741163 : True := trivial
theorem PySem.W.Fast.tw11130835039999362012 : True := trivial
theorem PySem.W.Fast.tw2695876119567917173 : True := trivial
theorem PySem.W.Fast.tw4436080442415652843 : True := trivial
theorem PySem.W.Fast.tw9859165634395735759 : True := trivial
theorem PySem.W.Fast.tw5205924471819730352 : True := trivial
theorem PySem.W.Fast.tw3423518929984564624 : True := trivial
theorem PySem.W.Fast.tw9387336581609353729 : True := trivial
theorem PySem.W.Fast.tw10400548956863150230 : True := trivial
theorem PySem.W.Fast.tw14127491650131963167 : True := trivial
theorem PySem.W.Fast.tw1119650223843907002 : True := trivial
theorem PySem.W.Fast.tw8891329907583408159 : True := trivial
theorem PySem.W.Fast.tw2128161705646647906 : True := trivial
theorem PySem.W.Fast.tw7625481399924460464 : True := trivial
theorem PySem.W.Fast.tw3996656552347210803 : True := trivial
theorem PySem.W.Fast.tw10107133111582032392 : True := trivial
theorem PySem.W.Fast.tw11230645147502659523 : True := trivial
theorem PySem.W.Fast.tw13834336583506865065 : True := trivial
theorem PySem.W.Fast.tw9979443012578217832 : True := trivial
theorem PySem.W.Fast.tw13801849174455690998 : True := trivial
theorem PySem.W.Fast.tw12828864635181273139 : True := trivial
theorem PySem.W.Fast.tw3975880452727970211 : True := trivial
theorem PySem.W.Fast.tw15962108169955917890 : True := trivial
theorem PySem.W.Fast.tw4076645498579460025 : True := trivial
theorem PySem.W.Fast.tw9690450797161786865 : True := trivial
theorem PySem.W.Fast.tw8710418650761867963 : True := trivial
theorem PySem.W.Fast.tw1578309623658002594 : True := trivial
theorem PySem.W.Fast.tw14534954592838004032 : True := trivial
theorem PySem.W.Fast.tw7882658446042719167 : True := trivial
theorem PySem.W.Fast.tw10909743067026866249 : True := trivial
theorem PySem.W.Fast.tw14768381906642117300 : True := trivial
theorem PySem.W.Fast.tw13519723374165748531 : True := trivial
theorem PySem.W.Fast.tw12350006223187053618 : True := trivial
theorem PySem.W.Fast.tw11823116301031983277 : True := trivial
theorem PySem.W.Fast.tw2383847056991902582 : True := trivial
theorem PySem.W.Fast.tw16270174630323243208 : True := trivial
theorem PySem.W.Fast.tw4041169014127828885 : True := trivial
theorem PySem.W.Fast.tw2705325312505137641 : True := trivial
theorem PySem.W.Fast.tw1752490044949014205 : True := trivial
theorem PySem.W.Fast.tw7750484667080498834 : True := trivial
theorem PySem.W.Fast.tw9707259516920441655 : True := trivial
theorem PySem.W.Fast.tw7166569332867667047 : True := trivial
theorem PySem.W.Fast.tw12181934450405398426 : True := trivial
theorem PySem.W.Fast.tw12842047106854441816 : True := trivial
theorem PySem.W.Fast.tw11603551583995416073 : True := trivial
theorem PySem.W.Fast.tw13661831790161734501 : True := trivial
theorem PySem.W.Fast.tw14224919354044829474 : True := trivial
theorem PySem.W.Fast.tw7202247666600427152 : True := trivial
theorem PySem.W.Fast.tw6787781335634972920 : True := trivial
theorem PySem.W.Fast.tw12878688908353673015 : True := trivial
theorem PySem.W.Fast.tw18182068273222407059 : True := trivial
theorem PySem.W.Fast.tw16946484213393334707 : True := trivial
theorem PySem.W.Fast.tw10019916129556707764 : True := trivial
theorem PySem.W.Fast.tw13095806379478781789 : True := trivial
theorem PySem.W.Fast.tw272240194515923014 : True := trivial
theorem PySem.W.Fast.tw17529079054056864885 : True := trivial
theorem PySem.W.Fast.tw725718020518814638 : True := trivial
theorem PySem.W.Fast.tw213616826492089017 : True := trivial
theorem PySem.W.Fast.tw7609948023649284333 : True := trivial
theorem PySem.W.Fast.tw14128831235322296381 : True := trivial
theorem PySem.W.Fast.tw17161473192426086325 : True := trivial
theorem PySem.W.Fast.tw957993949735104649 : True := trivial
theorem PySem.W.Fast.tw6235597282623663696 : True := trivial
theorem PySem.W.Fast.tw14507355838843151173 : True := trivial
theorem PySem.W.Fast.tw14056187294104135050 : True := trivial
theorem PySem.W.Fast.tw8837154731523217032 : True := trivial
theorem PySem.W.Fast.tw7024642222646471531 : True := trivial
theorem PySem.W.Fast.tw15778600826682473112 : True := trivial
theorem PySem.W.Fast.tw11888539076957091111 : True := trivial
theorem PySem.W.Fast.tw4758588818433869243 : True := trivial
theorem PySem.W.Fast.tw6585382764803502589 : True := trivial
theorem PySem.W.Fast.tw7320949051455162960 : True := trivial
theorem PySem.W.Fast.tw5339072280113267240 : True := trivial
theorem PySem.W.Fast.tw5203849529959005537 : True := trivial
theorem PySem.W.Fast.tw17437770365808368898 : True := trivial
theorem PySem.W.Fast.tw6716998264538443735 : True := trivial
theorem PySem.W.Fast.tw4515470849575124163 : True := trivial
theorem PySem.W.Fast.tw10620202466325069425 : True := trivial
theorem PySem.W.Fast.tw4527823458935891223 : True := trivial
theorem PySem.W.Fast.tw12477264056285497695 : True := trivial
theorem PySem.W.Fast.tw4531734213755164235 : True := trivial
theorem PySem.W.Fast.tw1557699347509671211 : True := trivial
theorem PySem.W.Fast.tw17829205736665129607 : True := trivial
theorem PySem.W.Fast.tw1337313632927842826 : True := trivial
theorem PySem.W.Fast.tw13034316324523641042 : True := trivial
theorem PySem.W.Fast.tw7168672844547613757 : True := trivial
theorem PySem.W.Fast.tw13567039590460087190 : True := trivial
theorem PySem.W.Fast.tw3184829120896604510 : True := trivial
theorem PySem.W.Fast.tw17180361058939482405 : True := trivial
theorem PySem.W.Fast.tw6812437214486661004 : True := trivial
theorem PySem.W.Fast.tw5569660683735078164 : True := trivial
theorem PySem.W.Fast.tw11206385944938511137 : True := trivial
theorem PySem.W.Fast.tw16978720373630689566 : True := trivial
theorem PySem.W.Fast.tw14115356966834956145 : True := trivial
theorem PySem.W.Fast.tw13350988585952739259 : True := trivial
theorem PySem.W.Fast.tw7369674693281229952 : True := trivial
theorem PySem.W.Fast.tw10491663594158211011 : True := trivial
theorem PySem.W.Fast.tw15671137344310379003 : True := trivial
theorem PySem.W.Fast.tw18202021547442009974 : True := trivial
theorem PySem.W.Fast.tw13782890412081660209 : True := trivial
theorem PySem.W.Fast.tw14167099570774062624 : True := trivial
theorem PySem.W.Fast.tw17906055902199533214 : True := trivial
theorem PySem.W.Fast.tw8189977700719420909 : True := trivial
theorem PySem.W.Fast.tw10997743039735361686 : True := trivial
theorem PySem.W.Fast.tw17982665922698159904 : True := trivial
theorem PySem.W.Fast.tw17582735208285854452 : True := trivial
theorem PySem.W.Fast.tw8845352381501324572 : True := trivial
theorem PySem.W.Fast.tw15875617943040891288 : True := trivial
theorem PySem.W.Fast.tw5291799807675297555 : True := trivial
theorem PySem.W.Fast.tw17930408792270545285 : True := trivial
theorem PySem.W.Fast.tw4215845260475831850 : True := trivial
theorem PySem.W.Fast.tw10121906633623502946 : True := trivial
theorem PySem.W.Fast.tw13518938688203632704 : True := trivial
theorem PySem.W.Fast.tw219715628275448104 : True := trivial
theorem PySem.W.Fast.tw9120239056698944190 : True := trivial
theorem PySem.W.Fast.tw18381848567791161711 : True := trivial
theorem PySem.W.Fast.tw4408093129715609429 : True := trivial
theorem PySem.W.Fast.tw16211156555970734287 : True := trivial
theorem PySem.W.Fast.tw8464357636796171813 : True := trivial
theorem PySem.W.Fast.tw5292760939407247674 : True := trivial
theorem PySem.W.Fast.tw14453106613679138943 : True := trivial
theorem PySem.W.Fast.tw8594691595472703663 : True := trivial
theorem PySem.W.Fast.tw10312458888525737182 : True := trivial
theorem PySem.W.Fast.tw7819333080210132525 : True := trivial
theorem PySem.W.Fast.tw15760156768813693193 : True := trivial
theorem PySem.W.Fast.tw9938596880542896084 : True := trivial
theorem PySem.W.Fast.tw2019584925778313982 : True := trivial
theorem PySem.W.Fast.tw5597621526383527305 : True := trivial
theorem PySem.W.Fast.tw6069801327861928271 : True := trivial
theorem PySem.W.Fast.tw14410039575271201842 : True := trivial
theorem PySem.W.Fast.tw14367561168932778249 : True := trivial
theorem PySem.W.Fast.tw16326934650405030592 : True := trivial
theorem PySem.W.Fast.tw7498046957764538933 : True := trivial
theorem PySem.W.Fast.tw13917795890740740684 : True := trivial
theorem PySem.W.Fast.tw2032799967323392204 : True := trivial
theorem PySem.W.Fast.tw5679802387920740046 : True := trivial
theorem PySem.W.Fast.tw18377280110608077765 : True := trivial
theorem PySem.W.Fast.tw16673541275483304489 : True := trivial
theorem PySem.W.Fast.tw3451703231208184779 : True := trivial
theorem PySem.W.Fast.tw12903258083577669232 : True := trivial
theorem PySem.W.Fast.tw9731993766470528431 : True := trivial
theorem PySem.W.Fast.tw2942552948821467972 : True := trivial
theorem PySem.W.Fast.tw1351636120640265010 : True := trivial
theorem PySem.W.Fast.tw9199916491569767018 : True := trivial
theorem PySem.W.Fast.tw15272714598239727234 : True := trivial
theorem PySem.W.Fast.tw11247395120362093104 : True := trivial
theorem PySem.W.Fast.tw7139732491550331467 : True := trivial
theorem PySem.W.Fast.tw4355008197186616380 : True := trivial
theorem PySem.W.Fast.tw8807537396663640458 : True := trivial
theorem PySem.W.Fast.tw3143881195248270361 : True := trivial
theorem PySem.W.Fast.tw7707165402699698695 : True := trivial
theorem PySem.W.Fast.tw1422804841800906650 : True := trivial
theorem PySem.W.Fast.tw15968051427179207721 : True := trivial
theorem PySem.W.Fast.tw9610252031539655119 : True := trivial
theorem PySem.W.Fast.tw2092042515030303430 : True := trivial
theorem PySem.W.Fast.tw14522887085250626577 : True := trivial
theorem PySem.W.Fast.tw2235527152966995682 : True := trivial
theorem PySem.W.Fast.tw15498620530577855115 : True := trivial
theorem PySem.W.Fast.tw237541083310451274 : True := trivial
theorem PySem.W.Fast.tw514383522427629481 : True := trivial
theorem PySem.W.Fast.tw15471222411655855606 : True := trivial
theorem PySem.W.Fast.tw14950320134675390924 : True := trivial
theorem PySem.W.Fast.tw1729798109617648878 : True := trivial
theorem PySem.W.Fast.tw16468807246663482915 : True := trivial
theorem PySem.W.Fast.tw8494732010942563425 : True := trivial
theorem PySem.W.Fast.tw8895178427129105629 : True := trivial
theorem PySem.W.Fast.tw10730417323591165434 : True := trivial
theorem PySem.W.Fast.tw15419714594529407984 : True := trivial
theorem PySem.W.Fast.tw10296966273448798680 : True := trivial
theorem PySem.W.Fast.tw12927326872336231710 : True := trivial
theorem PySem.W.Fast.tw4718783449742271431 : True := trivial
theorem PySem.W.Fast.tw6050366705663894692 : True := trivial
theorem PySem.W.Fast.tw3984284119354809567 : True := trivial
theorem PySem.W.Fast.tw4338395452279688108 : True := trivial
theorem PySem.W.Fast.tw14118933893961007549 : True := trivial
theorem PySem.W.Fast.tw12114373977830053777 : True := trivial
theorem PySem.W.Fast.tw13031989639427245567 : True := trivial
theorem PySem.W.Fast.tw17273315934485694854 : True := trivial
theorem PySem.W.Fast.tw10011015001945504914 : True := trivial
theorem PySem.W.Fast.tw16296763373116429805 : True := trivial
theorem PySem.W.Fast.tw3205212456671305463 : True := trivial
theorem PySem.W.Fast.tw4433504255218662486 : True := trivial
theorem PySem.W.Fast.tw11608435723594510078 : True := trivial
theorem PySem.W.Fast.tw9566459758630470942 : True := trivial
theorem PySem.W.Fast.tw18379502271800580808 : True := trivial
theorem PySem.W.Fast.tw17245463545065331934 : True := trivial
theorem PySem.W.Fast.tw8291633587768478493 : True := trivial
theorem PySem.W.Fast.tw8566055373876112297 : True := trivial
theorem PySem.W.Fast.tw12101804852124574171 : True := trivial
theorem PySem.W.Fast.tw8565063130793067965 : True := trivial
theorem PySem.W.Fast.tw254214509204088696 : True := trivial
theorem PySem.W.Fast.tw12498530357200047051 : True := trivial
theorem PySem.W.Fast.tw9520329272978848743 : True := trivial
theorem PySem.W.Fast.tw1048283384457077921 : True := trivial
theorem PySem.W.Fast.tw17783905423060581976 : True := trivial
theorem PySem.W.Fast.tw5602567389012264761 : True := trivial
theorem PySem.W.Fast.tw1276820396612124444 : True := trivial
theorem PySem.W.Fast.tw7145000284252398012 : True := trivial
theorem PySem.W.Fast.tw15141241316878061759 : True := trivial
theorem PySem.W.Fast.tw3780532061245303692 : True := trivial
theorem PySem.W.Fast.tw6916204951261026152 : True := trivial
theorem PySem.W.Fast.tw9971419128265404478 : True := trivial
theorem PySem.W.Fast.tw12794273763013513774 : True := trivial
theorem PySem.W.Fast.tw12837504985959665134 : True := trivial
theorem PySem.W.Fast.tw17503243352849366024 : True := trivial
theorem PySem.W.Fast.tw4907359263035583414 : True := trivial
theorem PySem.W.Fast.tw8656864737703996068 : True := trivial
theorem PySem.W.Fast.tw13041974848954466733 : True := trivial
theorem PySem.W.Fast.tw2965104697174847699 : True := trivial
theorem PySem.W.Fast.tw1122229125921991858 : True := trivial
theorem PySem.W.Fast.tw11265317930014398177 : True := trivial
theorem PySem.W.Fast.tw17833884173074943364 : True := trivial
theorem PySem.W.Fast.tw8532813337216046253 : True := trivial
theorem PySem.W.Fast.tw11218252507023084845 : True := trivial
theorem PySem.W.Fast.tw10210676960765757337 : True := trivial
theorem PySem.W.Fast.tw17766328024176928556 : True := trivial
theorem PySem.W.Fast.tw814976316125150387 : True := trivial
theorem PySem.W.Fast.tw11605768256566176685 : True := trivial
theorem PySem.W.Fast.tw12237488056536554747 : True := trivial
theorem PySem.W.Fast.tw5596604911622743189 : True := trivial
theorem PySem.W.Fast.tw4121451387580293157 : True := trivial
theorem PySem.W.Fast.tw13754668054620692433 : True := trivial
theorem PySem.W.Fast.tw3592866280714583501 : True := trivial
theorem PySem.W.Fast.tw16005426024327989270 : True := trivial
theorem PySem.W.Fast.tw17871771161354639339 : True := trivial
theorem PySem.W.Fast.tw14593445521870305417 : True := trivial
theorem PySem.W.Fast.tw10377876673017952703 : True := trivial
theorem PySem.W.Fast.tw11648735430170993434 : True := trivial
theorem PySem.W.Fast.tw2843434103735204843 : True := trivial
theorem PySem.W.Fast.tw7397682200373899060 : True := trivial
theorem PySem.W.Fast.tw8943326404157261640 : True := trivial
theorem PySem.W.Fast.tw7050587024884563547 : True := trivial
theorem PySem.W.Fast.tw16955258783121623067 : True := trivial
theorem PySem.W.Fast.tw14948007983101398342 : True := trivial
theorem PySem.W.Fast.tw14896824637665264049 : True := trivial
theorem PySem.W.Fast.tw3714057536168158294 : True := trivial
theorem PySem.W.Fast.tw6982336168584355501 : True := trivial
theorem PySem.W.Fast.tw2347856177336226057 : True := trivial
theorem PySem.W.Fast.tw5159443192238368621 : True := trivial
theorem PySem.W.Fast.tw11001930618279750946 : True := trivial
theorem PySem.W.Fast.tw14140360061749403983 : True := trivial
theorem PySem.W.Fast.tw10030252561552921648 : True := trivial
theorem PySem.W.Fast.tw14057705145414154745 : True := trivial
theorem PySem.W.Fast.tw16648588840935466210 : True := trivial
theorem PySem.W.Fast.tw15270668346533389907 : True := trivial
theorem PySem.W.Fast.tw14883568754913962625 : True := trivial
theorem PySem.W.Fast.tw11014106554376833983 : True := trivial
theorem PySem.W.Fast.tw12633582236444892500 : True := trivial
theorem PySem.W.Fast.tw9220308147658457815 : True := trivial
theorem PySem.W.Fast.tw11589527709103647480 : True := trivial
theorem PySem.W.Fast.tw328988090901938083 : True := trivial
theorem PySem.W.Fast.tw10306687390812824071 : True := trivial
theorem PySem.W.Fast.tw17817886956345192990 : True := trivial
theorem PySem.W.Fast.tw1159956834568084746 : True := trivial
theorem PySem.W.Fast.tw17417332381799538268 : True := trivial
theorem PySem.W.Fast.tw12741499548897890215 : True := trivial
theorem PySem.W.Fast.tw3775653781292068263 : True := trivial
theorem PySem.W.Fast.tw3682699395286004606 : True := trivial
theorem PySem.W.Fast.tw420859699557550086 : True := trivial
theorem PySem.W.Fast.tw12351556016148328799 : True := trivial
theorem PySem.W.Fast.tw18045683924322252330 : True := trivial
theorem PySem.W.Fast.tw4866063586354140394 : True := trivial
theorem PySem.W.Fast.tw5550252091201425309 : True := trivial
theorem PySem.W.Fast.tw9104645563824758505 : True := trivial
theorem PySem.W.Fast.tw4054027300108342028 : True := trivial
theorem PySem.W.Fast.tw8430619211399573157 : True := trivial
theorem PySem.W.Fast.tw10641577170622576461 : True := trivial
theorem PySem.W.Fast.tw4632337860959140920 : True := trivial
theorem PySem.W.Fast.tw14145514237679062121 : True := trivial
theorem PySem.W.Fast.tw14438846132474356856 : True := trivial
theorem PySem.W.Fast.tw8018414106313302520 : True := trivial
theorem PySem.W.Fast.tw5097741052475084865 : True := trivial
theorem PySem.W.Fast.tw14822368979164078550 : True := trivial
theorem PySem.W.Fast.tw8948959602411820951 : True := trivial
theorem PySem.W.Fast.tw12582305952113087586 : True := trivial
theorem PySem.W.Fast.tw3229843679462983160 : True := trivial
theorem PySem.W.Fast.tw875808229757531375 : True := trivial
theorem PySem.W.Fast.tw11367527229596879513 : True := trivial
theorem PySem.W.Fast.tw7620302278180413285 : True := trivial
theorem PySem.W.Fast.tw17143775312123308639 : True := trivial
theorem PySem.W.Fast.tw18174044924022837704 : True := trivial
theorem PySem.W.Fast.tw12253804117399545940 : True := trivial
theorem PySem.W.Fast.tw14783902362087947848 : True := trivial
theorem PySem.W.Fast.tw9410474142143648417 : True := trivial
theorem PySem.W.Fast.tw4871211378646233070 : True := trivial
theorem PySem.W.Fast.tw6432339632163647969 : True := trivial
theorem PySem.W.Fast.tw5630910978139882642 : True := trivial
theorem PySem.W.Fast.tw2781087477330302371 : True := trivial
theorem PySem.W.Fast.tw9602132059246927982 : True := trivial
theorem PySem.W.Fast.tw1588307529714773252 : True := trivial
theorem PySem.W.Fast.tw16251280057659031692 : True := trivial
theorem PySem.W.Fast.tw14570114832805456856 : True := trivial
theorem PySem.W.Fast.tw15855504440851885233 : True := trivial
theorem PySem.W.Fast.tw5094081889629299674 : True := trivial
theorem PySem.W.Fast.tw6927480233375287048 : True := trivial
theorem PySem.W.Fast.tw3152341049675403204 : True := trivial
theorem PySem.W.Fast.tw11188538962043591113 : True := trivial
theorem PySem.W.Fast.tw2257519550002653409 : True := trivial
theorem PySem.W.Fast.tw3068372525812647999 : True := trivial
theorem PySem.W.Fast.tw18332855499209855647 : True := trivial
theorem PySem.W.Fast.tw10914794709024662945 : True := trivial
theorem PySem.W.Fast.tw15791516397155537762 : True := trivial
theorem PySem.W.Fast.tw13508841668324107444 : True := trivial
theorem PySem.W.Fast.tw652860249262587044 : True := trivial
theorem PySem.W.Fast.tw1856623442088683443 : True := trivial
theorem PySem.W.Fast.tw11274464959103028444 : True := trivial
theorem PySem.W.Fast.tw13547768415390924878 : True := trivial
theorem PySem.W.Fast.tw10437584984328626715 : True := trivial
theorem PySem.W.Fast.tw2647110988306560635 : True := trivial
theorem PySem.W.Fast.tw3204087539217513752 : True := trivial
theorem PySem.W.Fast.tw12191348064896659318 : True := trivial
theorem PySem.W.Fast.tw5838960944055939144 : True := trivial
theorem PySem.W.Fast.tw17602158230304998092 : True := trivial
theorem PySem.W.Fast.tw4160389953532340974 : True := trivial
theorem PySem.W.Fast.tw9415945592334622525 : True := trivial
theorem PySem.W.Fast.tw15733393189918132501 : True := trivial
theorem PySem.W.Fast.tw9033547430608468965 : True := trivial
theorem PySem.W.Fast.tw2262272463570708948 : True := trivial
theorem PySem.W.Fast.tw7833884647407870817 : True := trivial
theorem PySem.W.Fast.tw1713366266211708165 : True := trivial
theorem PySem.W.Fast.tw14054545187383091716 : True := trivial
theorem PySem.W.Fast.tw12024313089901327117 : True := trivial
theorem PySem.W.Fast.tw5084534145019492326 : True := trivial
theorem PySem.W.Fast.tw10576282591235910811 : True := trivial
theorem PySem.W.Fast.tw15544492123630710510 : True := trivial
theorem PySem.W.Fast.tw4301003171859674087 : True := trivial
theorem PySem.W.Fast.tw318212489786384310 : True := trivial
theorem PySem.W.Fast.tw12225035110970737928 : True := trivial
theorem PySem.W.Fast.tw12564806059523154425 : True := trivial
theorem PySem.W.Fast.tw4743245601815894820 : True := trivial
theorem PySem.W.Fast.tw2405251825029326806 : True := trivial
theorem PySem.W.Fast.tw3675127420691489717 : True := trivial
theorem PySem.W.Fast.tw18068537754648640036 : True := trivial
theorem PySem.W.Fast.tw8414519740424268707 : True := trivial
theorem PySem.W.Fast.tw12950560678716058575 : True := trivial
theorem PySem.W.Fast.tw5882916825716418277 : True := trivial
theorem PySem.W.Fast.tw9375919925342842812 : True := trivial
theorem PySem.W.Fast.tw5657575190208319087 : True := trivial
theorem PySem.W.Fast.tw7584661056217257302 : True := trivial
theorem PySem.W.Fast.tw15843563445376034276 : True := trivial
theorem PySem.W.Fast.tw16876997312886751543 : True := trivial
theorem PySem.W.Fast.tw5147717755395131129 : True := trivial
theorem PySem.W.Fast.tw9921128992950427360 : True := trivial
theorem PySem.W.Fast.tw6413887885608361179 : True := trivial
theorem PySem.W.Fast.tw3433322960740246910 : True := trivial
theorem PySem.W.Fast.tw7791605641561214143 : True := trivial
theorem PySem.W.Fast.tw6653103978354280018 : True := trivial
theorem PySem.W.Fast.tw17196152630231241142 : True := trivial
theorem PySem.W.Fast.tw12181314804899135568 : True := trivial
theorem PySem.W.Fast.tw15661981472055248453 : True := trivial
theorem PySem.W.Fast.tw1356352366451904073 : True := trivial
theorem PySem.W.Fast.tw6938286334000137655 : True := trivial
theorem PySem.W.Fast.tw3681503094875809501 : True := trivial
theorem PySem.W.Fast.tw3755837833834518087 : True := trivial
theorem PySem.W.Fast.tw17284551430259720554 : True := trivial
theorem PySem.W.Fast.tw2730714581889700340 : True := trivial
theorem PySem.W.Fast.tw13425631542332721214 : True := trivial
theorem PySem.W.Fast.tw13634633456787193002 : True := trivial
theorem PySem.W.Fast.tw14410826965120719295 : True := trivial
theorem PySem.W.Fast.tw12426879760777147436 : True := trivial
theorem PySem.W.Fast.tw4381915827852148661 : True := trivial
theorem PySem.W.Fast.tw7151656813768142836 : True := trivial
theorem PySem.W.Fast.tw6938067112931318105 : True := trivial
theorem PySem.W.Fast.tw5391883799462416234 : True := trivial
theorem PySem.W.Fast.tw6744390937281551238 : True := trivial
theorem PySem.W.Fast.tw9804961258694674026 : True := trivial
theorem PySem.W.Fast.tw17960775721512556846 : True := trivial
theorem PySem.W.Fast.tw1475599572047609311 : True := trivial
theorem PySem.W.Fast.tw3116642760266214567 : True := trivial
theorem PySem.W.Fast.tw17296483662013672248 : True := trivial
theorem PySem.W.Fast.tw6264750751919010438 : True := trivial
theorem PySem.W.Fast.tw16538741198439690214 : True := trivial
theorem PySem.W.Fast.tw14633941358870757624 : True := trivial
theorem PySem.W.Fast.tw10367989607146432288 : True := trivial
theorem PySem.W.Fast.tw5174809449968638035 : True := trivial
theorem PySem.W.Fast.tw6388685162450305239 : True := trivial
theorem PySem.W.Fast.tw8908474494183495852 : True := trivial
theorem PySem.W.Fast.tw9179692289757665792 : True := trivial
theorem PySem.W.Fast.tw7978337608525876775 : True := trivial
theorem PySem.W.Fast.tw11635078229742335915 : True := trivial
theorem PySem.W.Fast.tw8795382675681820042 : True := trivial
theorem PySem.W.Fast.tw12113587218116900735 : True := trivial
theorem PySem.W.Fast.tw771142889040753547 : True := trivial
theorem PySem.W.Fast.tw5345520713337043162 : True := trivial
theorem PySem.W.Fast.tw16602414897547995775 : True := trivial
theorem PySem.W.Fast.tw11335655132468393861 : True := trivial
theorem PySem.W.Fast.tw5443899356763978342 : True := trivial
theorem PySem.W.Fast.tw15433797868502315048 : True := trivial
theorem PySem.W.Fast.tw11628546283229048497 : True := trivial
theorem PySem.W.Fast.tw7332894798591237217 : True := trivial
theorem PySem.W.Fast.tw1433768367622782986 : True := trivial
theorem PySem.W.Fast.tw13710811683803215244 : True := trivial
theorem PySem.W.Fast.tw13636496979017276230 : True := trivial
theorem PySem.W.Fast.tw6552036969338478560 : True := trivial
theorem PySem.W.Fast.tw2154283268312762284 : True := trivial
theorem PySem.W.Fast.tw10119622425969479113 : True := trivial
theorem PySem.W.Fast.tw15066816275130964962 : True := trivial
theorem PySem.W.Fast.tw6726019999228563882 : True := trivial
theorem PySem.W.Fast.tw8548285790879207773 : True := trivial
theorem PySem.W.Fast.tw335870726448827455 : True := trivial
theorem PySem.W.Fast.tw18064084091414188732 : True := trivial
theorem PySem.W.Fast.tw3543484478526019665 : True := trivial
theorem PySem.W.Fast.tw2727294203097060471 : True := trivial
theorem PySem.W.Fast.tw12655828528234524300 : True := trivial
theorem PySem.W.Fast.tw6556276939429574201 : True := trivial
theorem PySem.W.Fast.tw14271702035476906376 : True := trivial
theorem PySem.W.Fast.tw2880717689264503979 : True := trivial
theorem PySem.W.Fast.tw202471151216169745 : True := trivial
theorem PySem.W.Fast.tw13761490886218498728 : True := trivial
theorem PySem.W.Fast.tw1254263079482194581 : True := trivial
theorem PySem.W.Fast.tw1755191258359645269 : True := trivial
theorem PySem.W.Fast.tw12852248645827947330 : True := trivial
theorem PySem.W.Fast.tw7849330115374110980 : True := trivial
theorem PySem.W.Fast.tw9711180031337060396 : True := trivial
theorem PySem.W.Fast.tw13633185041397340887 : True := trivial
theorem PySem.W.Fast.tw6701522729170370914 : True := trivial
theorem PySem.W.Fast.tw5872868697501998755 : True := trivial
theorem PySem.W.Fast.tw7039367117452722613 : True := trivial
theorem PySem.W.Fast.tw824056029141201638 : True := trivial
theorem PySem.W.Fast.tw17591591854281418082 : True := trivial
theorem PySem.W.Fast.tw10297295125583458657 : True := trivial
theorem PySem.W.Fast.tw1737061317380834353 : True := trivial
theorem PySem.W.Fast.tw14530676321810994626 : True := trivial
theorem PySem.W.Fast.tw16752338877561729387 : True := trivial
theorem PySem.W.Fast.tw8679293398249519552 : True := trivial
theorem PySem.W.Fast.tw14743973981535873522 : True := trivial
theorem PySem.W.Fast.tw9938540383947117861 : True := trivial
theorem PySem.W.Fast.tw10297358927522768194 : True := trivial
theorem PySem.W.Fast.tw256064769504294641 : True := trivial
theorem PySem.W.Fast.tw1465889788219239436 : True := trivial
theorem PySem.W.Fast.tw13520164189134404888 : True := trivial
theorem PySem.W.Fast.tw16838286694535992024 : True := trivial
theorem PySem.W.Fast.tw3364754308765979664 : True := trivial
theorem PySem.W.Fast.tw9288019635457804331 : True := trivial
theorem PySem.W.Fast.tw6646477941189756766 : True := trivial
theorem PySem.W.Fast.tw10363599545960766194 : True := trivial
theorem PySem.W.Fast.tw12879805115846828268 : True := trivial
theorem PySem.W.Fast.tw872900461546713712 : True := trivial
theorem PySem.W.Fast.tw13101805693963159193 : True := trivial
theorem PySem.W.Fast.tw1455675178782579529 : True := trivial
theorem PySem.W.Fast.tw13841365304032092575 : True := trivial
theorem PySem.W.Fast.tw11111732527300855484 : True := trivial
theorem PySem.W.Fast.tw8434791609217300672 : True := trivial
theorem PySem.W.Fast.tw3595735452143127723 : True := trivial
theorem PySem.W.Fast.tw15687152984660015869 : True := trivial
theorem PySem.W.Fast.tw4430086367548975606 : True := trivial
theorem PySem.W.Fast.tw1833355658168306031 : True := trivial
theorem PySem.W.Fast.tw17798089704219251859 : True := trivial
theorem PySem.W.Fast.tw17302571708613211390 : True := trivial
theorem PySem.W.Fast.tw16060851654640274063 : True := trivial
theorem PySem.W.Fast.tw13994551475023004823 : True := trivial
theorem PySem.W.Fast.tw13816892235623680801 : True := trivial
set_option maxRecDepth 100000 in
set_option maxHeartbeats 0 in
theorem PySem.Challenge.cw_asofhall_k14_whole_answers_and_support_holds : PySem.Challenge.rw_asofhall_k14_whole_answers_and_support.Holds := by
  w_on; o_law; k_head; (case hw => w_witness2)
  k_fill
  refine Ash.walk (l := PySem.Challenge.rw_asofhall_k14_whole_answers_and_support) rfl rfl (fun w h Y => PySem.W.kIn_of Y) ?F
  case F =>
    intro w mg fa h KX G hmg
    refine' Ash.all_mk KX G hmg ?law0 ?law1 ?law2 ?law3
      (PySem.W.mg_none_of KX G ?h_nrev)
      { len := (PySem.W.mg_none_of KX G ?h_B_len), int := (PySem.W.mg_none_of KX G ?h_B_int), bool := (PySem.W.mg_none_of KX G ?h_B_bool), str := (PySem.W.mg_none_of KX G ?h_B_str), list := (PySem.W.mg_none_of KX G ?h_B_list), tuple := (PySem.W.mg_none_of KX G ?h_B_tuple), dict := (PySem.W.mg_none_of KX G ?h_B_dict), isinstance := (PySem.W.mg_none_of KX G ?h_B_isinstance), all := (PySem.W.mg_none_of KX G ?h_B_all), range := (PySem.W.mg_none_of KX G ?h_B_range), enumerate := (PySem.W.mg_none_of KX G ?h_B_enumerate), sorted := (PySem.W.mg_none_of KX G ?h_B_sorted), min := (PySem.W.mg_none_of KX G ?h_B_min), max := (PySem.W.mg_none_of KX G ?h_B_max), set := (PySem.W.mg_none_of KX G ?h_B_set), sum := (PySem.W.mg_none_of KX G ?h_B_sum), abs := (PySem.W.mg_none_of KX G ?h_B_abs) }
      ⟨(Ash.ex_str KX G ?h_Cs_0), (Ash.ex_int KX G ?h_Cs_1), (Ash.ex_int KX G ?h_Cs_2), (Ash.ex_int KX G ?h_Cs_3), (Ash.ex_int KX G ?h_Cs_4), (Ash.ex_int KX G ?h_Cs_5), (Ash.ex_int KX G ?h_Cs_6), (Ash.ex_int KX G ?h_Cs_7)⟩
      ⟨⟨?h_TW_0_0, ?h_TW_0_1, ?h_TW_0_2, ?h_TW_0_3⟩, ?h_TW_1, ?h_TW_2, (PySem.W.mg_of KX G ?h_TW_3)⟩
      ⟨?h_wi_0, ?h_wi_1, ?h_wi_2, ?h_wi_3⟩
      ?h_mkW
      ?h_kW
      (PySem.W.mg_of KX G ?h_nm0)
      ⟨?h_cl0_0, ?h_cl0_1, ?h_cl0_2, ?h_cl0_3⟩
      ⟨?h_b0_0, ?h_b0_1, ?h_b0_2, ?h_b0_3⟩
      ?h_ic0
      ?h_ti0
      ?h_sf0
      ?h_at0
      ?h_rt0
      ?h_si0
      ?h_or0
      ?h_ro0
      ?h_la0
      ?h_ea0
      ?h_n0_0
      ?h_n0_1
      ?h_n0_2
      ?h_n0_3
      ?h_n0_4
      ?h_n0_5
      ?h_n0_6
      ?h_n0_7
      ?h_n0_8
      ?h_n0_9
      ?h_s0_0
      ?h_s0_1
      ?h_s0_2
      ?h_s0_3
      ?h_s0_4
      ?h_s0_5
      ?h_s0_6
      (PySem.W.mg_of KX G ?h_nm1)
      ⟨?h_cl1_0, ?h_cl1_1, ?h_cl1_2, ?h_cl1_3⟩
      ⟨?h_b1_0, ?h_b1_1, ?h_b1_2, ?h_b1_3⟩
      ?h_ic1
      ?h_ti1
      ?h_sf1
      ?h_at1
      ?h_rt1
      ?h_si1
      ?h_or1
      ?h_ro1
      ?h_la1
      ?h_ea1
      ?h_n1_0
      ?h_n1_1
      ?h_n1_2
      ?h_n1_3
      ?h_n1_4
      ?h_n1_5
      ?h_n1_6
      ?h_n1_7
      ?h_n1_8
      ?h_n1_9
      ?h_s1_0
      ?h_s1_1
      ?h_s1_2
      ?h_s1_3
      ?h_s1_4
      ?h_s1_5
      ?h_s1_6
      (PySem.W.mg_of KX G ?h_nm2)
      ⟨?h_cl2_0, ?h_cl2_1, ?h_cl2_2, ?h_cl2_3⟩
      ⟨?h_b2_0, ?h_b2_1, ?h_b2_2, ?h_b2_3⟩
      ?h_ic2
      ?h_ti2
      ?h_sf2
      ?h_at2
      ?h_rt2
      ?h_si2
      ?h_or2
      ?h_ro2
      ?h_la2
      ?h_ea2
      ?h_n2_0
      ?h_n2_1
      ?h_n2_2
      ?h_n2_3
      ?h_n2_4
      ?h_n2_5
      ?h_n2_6
      ?h_n2_7
      ?h_n2_8
      ?h_n2_9
      ?h_s2_0
      ?h_s2_1
      ?h_s2_2
      ?h_s2_3
      ?h_s2_4
      ?h_s2_5
      ?h_s2_6
      (PySem.W.mg_of KX G ?h_nm3)
      ⟨?h_cl3_0, ?h_cl3_1, ?h_cl3_2, ?h_cl3_3⟩
      ⟨?h_b3_0, ?h_b3_1, ?h_b3_2, ?h_b3_3⟩
      ?h_ic3
      ?h_ti3
      ?h_sf3
      ?h_at3
      ?h_rt3
      ?h_si3
      ?h_or3
      ?h_ro3
      ?h_la3
      ?h_ea3
      ?h_n3_0
      ?h_n3_1
      ?h_n3_2
      ?h_n3_3
      ?h_n3_4
      ?h_n3_5
      ?h_n3_6
      ?h_n3_7
      ?h_n3_8
      ?h_n3_9
      ?h_s3_0
      ?h_s3_1
      ?h_s3_2
      ?h_s3_3
      ?h_s3_4
      ?h_s3_5
      ?h_s3_6
      (PySem.W.mg_of KX G ?h_nm4)
      ⟨?h_cl4_0, ?h_cl4_1, ?h_cl4_2, ?h_cl4_3⟩
      ⟨?h_b4_0, ?h_b4_1, ?h_b4_2, ?h_b4_3⟩
      ?h_ic4
      ?h_ti4
      ?h_sf4
      ?h_at4
      ?h_rt4
      ?h_si4
      ?h_or4
      ?h_ro4
      ?h_la4
      ?h_ea4
      ?h_n4_0
      ?h_n4_1
      ?h_n4_2
      ?h_n4_3
      ?h_n4_4
      ?h_n4_5
      ?h_n4_6
      ?h_n4_7
      ?h_n4_8
      ?h_n4_9
      ?h_s4_0
      ?h_s4_1
      ?h_s4_2
      ?h_s4_3
      ?h_s4_4
      ?h_s4_5
      ?h_s4_6
      (PySem.W.mg_of KX G ?h_nm5)
      ⟨?h_cl5_0, ?h_cl5_1, ?h_cl5_2, ?h_cl5_3⟩
      ⟨?h_b5_0, ?h_b5_1, ?h_b5_2, ?h_b5_3⟩
      ?h_ic5
      ?h_ti5
      ?h_sf5
      ?h_at5
      ?h_rt5
      ?h_si5
      ?h_or5
      ?h_ro5
      ?h_la5
      ?h_ea5
      ?h_n5_0
      ?h_n5_1
      ?h_n5_2
      ?h_n5_3
      ?h_n5_4
      ?h_n5_5
      ?h_n5_6
      ?h_n5_7
      ?h_n5_8
      ?h_n5_9
      ?h_s5_0
      ?h_s5_1
      ?h_s5_2
      ?h_s5_3
      ?h_s5_4
      ?h_s5_5
      ?h_s5_6
      (PySem.W.mg_of KX G ?h_nm6)
      ⟨?h_cl6_0, ?h_cl6_1, ?h_cl6_2, ?h_cl6_3⟩
      ⟨?h_b6_0, ?h_b6_1, ?h_b6_2, ?h_b6_3⟩
      ?h_ic6
      ?h_ti6
      ?h_sf6
      ?h_at6
      ?h_rt6
      ?h_si6
      ?h_or6
      ?h_ro6
      ?h_la6
      ?h_ea6
      ?h_n6_0
      ?h_n6_1
      ?h_n6_2
      ?h_n6_3
      ?h_n6_4
      ?h_n6_5
      ?h_n6_6
      ?h_n6_7
      ?h_n6_8
      ?h_n6_9
      ?h_s6_0
      ?h_s6_1
      ?h_s6_2
      ?h_s6_3
      ?h_s6_4
      ?h_s6_5
      ?h_s6_6
      ?h_mk0
      ?h_kp0
      ?h_mk1
      ?h_kp1
      ?h_mk2
      ?h_kp2
      ?h_mk3
      ?h_kp3
      ?h_mk4
      ?h_kp4
      ?h_mk5
      ?h_kp5
      ?h_mk6
      ?h_kp6
      ?h_i1
      ?h_i2
      (PySem.W.mg_of KX G ?h_anm0)
      ⟨?h_acl0_0, ?h_acl0_1, ?h_acl0_2, ?h_acl0_3⟩
      ⟨?h_ab0_0, ?h_ab0_1, ?h_ab0_2, ?h_ab0_3⟩
      ?h_aic0
      ?h_ati0
      ?h_an0_0
      ?h_an0_1
      ?h_an0_2
      ?h_an0_3
      ?h_an0_4
      ?h_as0_0
      ?h_as0_1
      ?h_as0_2
      ?h_as0_3
      ?h_at0_0
      ?h_at0_1
      ?h_at0_2
      ?h_at0_3
      ?h_at0_4
      ?h_at0_5
      ?h_at0_6
      ?h_amk0
      ?h_akp0
      (PySem.W.mg_of KX G ?h_anm1)
      ⟨?h_acl1_0, ?h_acl1_1, ?h_acl1_2, ?h_acl1_3⟩
      ⟨?h_ab1_0, ?h_ab1_1, ?h_ab1_2, ?h_ab1_3⟩
      ?h_aic1
      ?h_ati1
      ?h_an1_0
      ?h_an1_1
      ?h_an1_2
      ?h_an1_3
      ?h_an1_4
      ?h_as1_0
      ?h_as1_1
      ?h_as1_2
      ?h_as1_3
      ?h_at1_0
      ?h_at1_1
      ?h_at1_2
      ?h_at1_3
      ?h_at1_4
      ?h_at1_5
      ?h_at1_6
      ?h_amk1
      ?h_akp1
      (PySem.W.mg_of KX G ?h_anm2)
      ⟨?h_acl2_0, ?h_acl2_1, ?h_acl2_2, ?h_acl2_3⟩
      ⟨?h_ab2_0, ?h_ab2_1, ?h_ab2_2, ?h_ab2_3⟩
      ?h_aic2
      ?h_ati2
      ?h_an2_0
      ?h_an2_1
      ?h_an2_2
      ?h_an2_3
      ?h_an2_4
      ?h_as2_0
      ?h_as2_1
      ?h_as2_2
      ?h_as2_3
      ?h_at2_0
      ?h_at2_1
      ?h_at2_2
      ?h_at2_3
      ?h_at2_4
      ?h_at2_5
      ?h_at2_6
      ?h_amk2
      ?h_akp2
      (PySem.W.mg_of KX G ?h_anm3)
      ⟨?h_acl3_0, ?h_acl3_1, ?h_acl3_2, ?h_acl3_3⟩
      ⟨?h_ab3_0, ?h_ab3_1, ?h_ab3_2, ?h_ab3_3⟩
      ?h_aic3
      ?h_ati3
      ?h_an3_0
      ?h_an3_1
      ?h_an3_2
      ?h_an3_3
      ?h_an3_4
      ?h_as3_0
      ?h_as3_1
      ?h_as3_2
      ?h_as3_3
      ?h_at3_0
      ?h_at3_1
      ?h_at3_2
      ?h_at3_3
      ?h_at3_4
      ?h_at3_5
      ?h_at3_6
      ?h_amk3
      ?h_akp3
      (Ash.d1 KX G ?h_d_is_integer_0 ?h_d_is_integer_1 ?h_d_is_integer_2 ?h_d_is_integer_3)
      (Ash.d1 KX G ?h_d_is_natural_0 ?h_d_is_natural_1 ?h_d_is_natural_2 ?h_d_is_natural_3)
      (Ash.d1 KX G ?h_d_is_name_0 ?h_d_is_name_1 ?h_d_is_name_2 ?h_d_is_name_3)
      (Ash.d1 KX G ?h_d_are_integers_0 ?h_d_are_integers_1 ?h_d_are_integers_2 ?h_d_are_integers_3)
      (Ash.d1 KX G ?h_d_is_row_0 ?h_d_is_row_1 ?h_d_is_row_2 ?h_d_is_row_3)
      (Ash.d1 KX G ?h_d_are_rows_0 ?h_d_are_rows_1 ?h_d_are_rows_2 ?h_d_are_rows_3)
      (Ash.d1 KX G ?h_d_first_twice_0 ?h_d_first_twice_1 ?h_d_first_twice_2 ?h_d_first_twice_3)
      (Ash.d1 KX G ?h_d_is_rows_0 ?h_d_is_rows_1 ?h_d_is_rows_2 ?h_d_is_rows_3)
      (Ash.d1 KX G ?h_d_is_term_0 ?h_d_is_term_1 ?h_d_is_term_2 ?h_d_is_term_3)
      (Ash.d1 KX G ?h_d_is_look_0 ?h_d_is_look_1 ?h_d_is_look_2 ?h_d_is_look_3)
      (Ash.d1 KX G ?h_d_checked_stream_0 ?h_d_checked_stream_1 ?h_d_checked_stream_2 ?h_d_checked_stream_3)
      (Ash.d1 KX G ?h_d_checked_term_0 ?h_d_checked_term_1 ?h_d_checked_term_2 ?h_d_checked_term_3)
      (Ash.d1 KX G ?h_d_sizes_0 ?h_d_sizes_1 ?h_d_sizes_2 ?h_d_sizes_3)
      (Ash.d1 KX G ?h_d_shifted_0 ?h_d_shifted_1 ?h_d_shifted_2 ?h_d_shifted_3)
      (Ash.d1 KX G ?h_d_last_row_0 ?h_d_last_row_1 ?h_d_last_row_2 ?h_d_last_row_3)
      (Ash.d1 KX G ?h_d_next_row_0 ?h_d_next_row_1 ?h_d_next_row_2 ?h_d_next_row_3)
      (Ash.d1 KX G ?h_d_moved_0 ?h_d_moved_1 ?h_d_moved_2 ?h_d_moved_3)
      (Ash.d1 KX G ?h_d_looked_0 ?h_d_looked_1 ?h_d_looked_2 ?h_d_looked_3)
      (Ash.d1 KX G ?h_d_followed_either_0 ?h_d_followed_either_1 ?h_d_followed_either_2 ?h_d_followed_either_3)
      (Ash.d1 KX G ?h_d_followed_both_0 ?h_d_followed_both_1 ?h_d_followed_both_2 ?h_d_followed_both_3)
      (Ash.d1 KX G ?h_d_followed_0 ?h_d_followed_1 ?h_d_followed_2 ?h_d_followed_3)
      (Ash.d1 KX G ?h_d_is_amount_0 ?h_d_is_amount_1 ?h_d_is_amount_2 ?h_d_is_amount_3)
      (Ash.d1 KX G ?h_d_told_between_0 ?h_d_told_between_1 ?h_d_told_between_2 ?h_d_told_between_3)
      (Ash.d1 KX G ?h_d_is_question_0 ?h_d_is_question_1 ?h_d_is_question_2 ?h_d_is_question_3)
      (Ash.d1 KX G ?h_d_check_0 ?h_d_check_1 ?h_d_check_2 ?h_d_check_3)
      (Ash.d1 KX G ?h_d_answered_0 ?h_d_answered_1 ?h_d_answered_2 ?h_d_answered_3)
      (Ash.d1 KX G ?h_d_value_0 ?h_d_value_1 ?h_d_value_2 ?h_d_value_3)
      (Ash.d1 KX G ?h_d__law_pool_0 ?h_d__law_pool_1 ?h_d__law_pool_2 ?h_d__law_pool_3)
      (Ash.d1 KX G ?h_d__law_draw_0 ?h_d__law_draw_1 ?h_d__law_draw_2 ?h_d__law_draw_3)
      (Ash.d1 KX G ?h_d__law_names_0 ?h_d__law_names_1 ?h_d__law_names_2 ?h_d__law_names_3)
      (Ash.d1 KX G ?h_d__law_moment_0 ?h_d__law_moment_1 ?h_d__law_moment_2 ?h_d__law_moment_3)
      (Ash.d1 KX G ?h_d__law_rows_0 ?h_d__law_rows_1 ?h_d__law_rows_2 ?h_d__law_rows_3)
      (Ash.d1 KX G ?h_d__law_term_0 ?h_d__law_term_1 ?h_d__law_term_2 ?h_d__law_term_3)
      (Ash.d1 KX G ?h_d__law_built_0 ?h_d__law_built_1 ?h_d__law_built_2 ?h_d__law_built_3)
      (Ash.d1 KX G ?h_d_support_0 ?h_d_support_1 ?h_d_support_2 ?h_d_support_3)
      (Ash.d1 KX G ?h_d__law_question_0 ?h_d__law_question_1 ?h_d__law_question_2 ?h_d__law_question_3)
      (Ash.d1 KX G ?h_d__law_asked_0 ?h_d__law_asked_1 ?h_d__law_asked_2 ?h_d__law_asked_3)
      (Ash.d1 KX G ?h_d__law_same_0 ?h_d__law_same_1 ?h_d__law_same_2 ?h_d__law_same_3)
      (Ash.d1 KX G ?h_d__law_last_0 ?h_d__law_last_1 ?h_d__law_last_2 ?h_d__law_last_3)
      (Ash.d1 KX G ?h_d__law_next_0 ?h_d__law_next_1 ?h_d__law_next_2 ?h_d__law_next_3)
      (Ash.d1 KX G ?h_d__law_answer_0 ?h_d__law_answer_1 ?h_d__law_answer_2 ?h_d__law_answer_3)
      (Ash.d1 KX G ?h_d__law_told_0 ?h_d__law_told_1 ?h_d__law_told_2 ?h_d__law_told_3)
      (Ash.d1 KX G ?h_d__law_is_told_0 ?h_d__law_is_told_1 ?h_d__law_is_told_2 ?h_d__law_is_told_3)
      (Ash.d1 KX G ?h_d__law_without_0 ?h_d__law_without_1 ?h_d__law_without_2 ?h_d__law_without_3)
      (Ash.d1 KX G ?h_d__law_deep_0 ?h_d__law_deep_1 ?h_d__law_deep_2 ?h_d__law_deep_3)
      (Ash.dm ?h_m_WI_0 ?h_m_WI_1 ?h_m_WI_2 ?h_m_WI_3 ?h_m_WI_4)
      (Ash.dm ?h_m_WR_0 ?h_m_WR_1 ?h_m_WR_2 ?h_m_WR_3 ?h_m_WR_4)
      (Ash.dm ?h_m_NI_0 ?h_m_NI_1 ?h_m_NI_2 ?h_m_NI_3 ?h_m_NI_4)
      (Ash.dm ?h_m_LI_0 ?h_m_LI_1 ?h_m_LI_2 ?h_m_LI_3 ?h_m_LI_4)
      (Ash.dm ?h_m_XI_0 ?h_m_XI_1 ?h_m_XI_2 ?h_m_XI_3 ?h_m_XI_4)
      (Ash.dm ?h_m_SI_0 ?h_m_SI_1 ?h_m_SI_2 ?h_m_SI_3 ?h_m_SI_4)
      (Ash.dm ?h_m_EI_0 ?h_m_EI_1 ?h_m_EI_2 ?h_m_EI_3 ?h_m_EI_4)
      (Ash.dm ?h_m_JI_0 ?h_m_JI_1 ?h_m_JI_2 ?h_m_JI_3 ?h_m_JI_4)
      (Ash.dm ?h_m_KI_0 ?h_m_KI_1 ?h_m_KI_2 ?h_m_KI_3 ?h_m_KI_4)
      (Ash.dm ?h_m_nuI_0 ?h_m_nuI_1 ?h_m_nuI_2 ?h_m_nuI_3 ?h_m_nuI_4)
      (Ash.dm ?h_m_coI_0 ?h_m_coI_1 ?h_m_coI_2 ?h_m_coI_3 ?h_m_coI_4)
      (Ash.dm ?h_m_toI_0 ?h_m_toI_1 ?h_m_toI_2 ?h_m_toI_3 ?h_m_toI_4)
      (Ash.dm ?h_m_gaI_0 ?h_m_gaI_1 ?h_m_gaI_2 ?h_m_gaI_3 ?h_m_gaI_4)
      (Ash.dq ?h_m_add_0 ?h_m_add_1 ?h_m_add_2 ?h_m_add_3 ?h_m_add_4)
      (Ash.dq ?h_m_ior_0 ?h_m_ior_1 ?h_m_ior_2 ?h_m_ior_3 ?h_m_ior_4)
      (Ash.dq ?h_m_lat_0 ?h_m_lat_1 ?h_m_lat_2 ?h_m_lat_3 ?h_m_lat_4)
      (Ash.dq ?h_m_ear_0 ?h_m_ear_1 ?h_m_ear_2 ?h_m_ear_3 ?h_m_ear_4)
    (case h_Cs_0 => k_is)
    (case h_Cs_1 => k_is)
    (case h_Cs_2 => k_is)
    (case h_Cs_3 => k_is)
    (case h_Cs_4 => k_is)
    (case h_Cs_5 => k_is)
    (case h_Cs_6 => k_is)
    (case h_Cs_7 => k_is)
    (case h_TW_3 => k_is)
    (case h_nm0 => k_is)
    (case h_nm1 => k_is)
    (case h_nm2 => k_is)
    (case h_nm3 => k_is)
    (case h_nm4 => k_is)
    (case h_nm5 => k_is)
    (case h_nm6 => k_is)
    (case h_anm0 => k_is)
    (case h_anm1 => k_is)
    (case h_anm2 => k_is)
    (case h_anm3 => k_is)
    (case law0 => k_is)
    (case law1 => k_is)
    (case law2 => k_is)
    (case law3 => k_is)
    (case h_nrev => k_is)
    (case h_B_len => k_is)
    (case h_B_int => k_is)
    (case h_B_bool => k_is)
    (case h_B_str => k_is)
    (case h_B_list => k_is)
    (case h_B_tuple => k_is)
    (case h_B_dict => k_is)
    (case h_B_isinstance => k_is)
    (case h_B_all => k_is)
    (case h_B_range => k_is)
    (case h_B_enumerate => k_is)
    (case h_B_sorted => k_is)
    (case h_B_min => k_is)
    (case h_B_max => k_is)
    (case h_B_set => k_is)
    (case h_B_sum => k_is)
    (case h_B_abs => k_is)
    (case h_TW_0_0 => k_is)
    (case h_TW_0_1 => k_is)
    (case h_TW_0_2 => k_is)
    (case h_TW_0_3 => k_is)
    (case h_TW_1 => delta L2.NoAttr; k_is)
    (case h_TW_2 => delta L2.NoAttr; k_is)
    (case h_wi_0 => k_is)
    (case h_wi_1 => k_is)
    (case h_wi_2 => k_is)
    (case h_wi_3 => k_is)
    (case h_mkW => k_is)
    (case h_kW => k_is)
    (case h_cl0_0 => k_is)
    (case h_cl0_1 => k_is)
    (case h_cl0_2 => k_is)
    (case h_cl0_3 => k_is)
    (case h_b0_0 => k_is)
    (case h_b0_1 => k_is)
    (case h_b0_2 => k_is)
    (case h_b0_3 => k_is)
    (case h_ic0 => k_is)
    (case h_ti0 => k_is)
    (case h_sf0 => k_is)
    (case h_at0 => k_is)
    (case h_rt0 => k_is)
    (case h_si0 => k_is)
    (case h_or0 => k_is)
    (case h_ro0 => k_is)
    (case h_la0 => k_is)
    (case h_ea0 => k_is)
    (case h_n0_0 => delta L2.NoAttr; k_is)
    (case h_n0_1 => delta L2.NoAttr; k_is)
    (case h_n0_2 => delta L2.NoAttr; k_is)
    (case h_n0_3 => delta L2.NoAttr; k_is)
    (case h_n0_4 => delta L2.NoAttr; k_is)
    (case h_n0_5 => delta L2.NoAttr; k_is)
    (case h_n0_6 => delta L2.NoAttr; k_is)
    (case h_n0_7 => delta L2.NoAttr; k_is)
    (case h_n0_8 => delta L2.NoAttr; k_is)
    (case h_n0_9 => delta L2.NoAttr; k_is)
    (case h_s0_0 => k_is)
    (case h_s0_1 => k_is)
    (case h_s0_2 => k_is)
    (case h_s0_3 => k_is)
    (case h_s0_4 => k_is)
    (case h_s0_5 => k_is)
    (case h_s0_6 => k_is)
    (case h_cl1_0 => k_is)
    (case h_cl1_1 => k_is)
    (case h_cl1_2 => k_is)
    (case h_cl1_3 => k_is)
    (case h_b1_0 => k_is)
    (case h_b1_1 => k_is)
    (case h_b1_2 => k_is)
    (case h_b1_3 => k_is)
    (case h_ic1 => k_is)
    (case h_ti1 => k_is)
    (case h_sf1 => k_is)
    (case h_at1 => k_is)
    (case h_rt1 => k_is)
    (case h_si1 => k_is)
    (case h_or1 => k_is)
    (case h_ro1 => k_is)
    (case h_la1 => k_is)
    (case h_ea1 => k_is)
    (case h_n1_0 => delta L2.NoAttr; k_is)
    (case h_n1_1 => delta L2.NoAttr; k_is)
    (case h_n1_2 => delta L2.NoAttr; k_is)
    (case h_n1_3 => delta L2.NoAttr; k_is)
    (case h_n1_4 => delta L2.NoAttr; k_is)
    (case h_n1_5 => delta L2.NoAttr; k_is)
    (case h_n1_6 => delta L2.NoAttr; k_is)
    (case h_n1_7 => delta L2.NoAttr; k_is)
    (case h_n1_8 => delta L2.NoAttr; k_is)
    (case h_n1_9 => delta L2.NoAttr; k_is)
    (case h_s1_0 => k_is)
    (case h_s1_1 => k_is)
    (case h_s1_2 => k_is)
    (case h_s1_3 => k_is)
    (case h_s1_4 => k_is)
    (case h_s1_5 => k_is)
    (case h_s1_6 => k_is)
    (case h_cl2_0 => k_is)
    (case h_cl2_1 => k_is)
    (case h_cl2_2 => k_is)
    (case h_cl2_3 => k_is)
    (case h_b2_0 => k_is)
    (case h_b2_1 => k_is)
    (case h_b2_2 => k_is)
    (case h_b2_3 => k_is)
    (case h_ic2 => k_is)
    (case h_ti2 => k_is)
    (case h_sf2 => k_is)
    (case h_at2 => k_is)
    (case h_rt2 => k_is)
    (case h_si2 => k_is)
    (case h_or2 => k_is)
    (case h_ro2 => k_is)
    (case h_la2 => k_is)
    (case h_ea2 => k_is)
    (case h_n2_0 => delta L2.NoAttr; k_is)
    (case h_n2_1 => delta L2.NoAttr; k_is)
    (case h_n2_2 => delta L2.NoAttr; k_is)
    (case h_n2_3 => delta L2.NoAttr; k_is)
    (case h_n2_4 => delta L2.NoAttr; k_is)
    (case h_n2_5 => delta L2.NoAttr; k_is)
    (case h_n2_6 => delta L2.NoAttr; k_is)
    (case h_n2_7 => delta L2.NoAttr; k_is)
    (case h_n2_8 => delta L2.NoAttr; k_is)
    (case h_n2_9 => delta L2.NoAttr; k_is)
    (case h_s2_0 => k_is)
    (case h_s2_1 => k_is)
    (case h_s2_2 => k_is)
    (case h_s2_3 => k_is)
    (case h_s2_4 => k_is)
    (case h_s2_5 => k_is)
    (case h_s2_6 => k_is)
    (case h_cl3_0 => k_is)
    (case h_cl3_1 => k_is)
    (case h_cl3_2 => k_is)
    (case h_cl3_3 => k_is)
    (case h_b3_0 => k_is)
    (case h_b3_1 => k_is)
    (case h_b3_2 => k_is)
    (case h_b3_3 => k_is)
    (case h_ic3 => k_is)
    (case h_ti3 => k_is)
    (case h_sf3 => k_is)
    (case h_at3 => k_is)
    (case h_rt3 => k_is)
    (case h_si3 => k_is)
    (case h_or3 => k_is)
    (case h_ro3 => k_is)
    (case h_la3 => k_is)
    (case h_ea3 => k_is)
    (case h_n3_0 => delta L2.NoAttr; k_is)
    (case h_n3_1 => delta L2.NoAttr; k_is)
    (case h_n3_2 => delta L2.NoAttr; k_is)
    (case h_n3_3 => delta L2.NoAttr; k_is)
    (case h_n3_4 => delta L2.NoAttr; k_is)
    (case h_n3_5 => delta L2.NoAttr; k_is)
    (case h_n3_6 => delta L2.NoAttr; k_is)
    (case h_n3_7 => delta L2.NoAttr; k_is)
    (case h_n3_8 => delta L2.NoAttr; k_is)
    (case h_n3_9 => delta L2.NoAttr; k_is)
    (case h_s3_0 => k_is)
    (case h_s3_1 => k_is)
    (case h_s3_2 => k_is)
    (case h_s3_3 => k_is)
    (case h_s3_4 => k_is)
    (case h_s3_5 => k_is)
    (case h_s3_6 => k_is)
    (case h_cl4_0 => k_is)
    (case h_cl4_1 => k_is)
    (case h_cl4_2 => k_is)
    (case h_cl4_3 => k_is)
    (case h_b4_0 => k_is)
    (case h_b4_1 => k_is)
    (case h_b4_2 => k_is)
    (case h_b4_3 => k_is)
    (case h_ic4 => k_is)
    (case h_ti4 => k_is)
    (case h_sf4 => k_is)
    (case h_at4 => k_is)
    (case h_rt4 => k_is)
    (case h_si4 => k_is)
    (case h_or4 => k_is)
    (case h_ro4 => k_is)
    (case h_la4 => k_is)
    (case h_ea4 => k_is)
    (case h_n4_0 => delta L2.NoAttr; k_is)
    (case h_n4_1 => delta L2.NoAttr; k_is)
    (case h_n4_2 => delta L2.NoAttr; k_is)
    (case h_n4_3 => delta L2.NoAttr; k_is)
    (case h_n4_4 => delta L2.NoAttr; k_is)
    (case h_n4_5 => delta L2.NoAttr; k_is)
    (case h_n4_6 => delta L2.NoAttr; k_is)
    (case h_n4_7 => delta L2.NoAttr; k_is)
    (case h_n4_8 => delta L2.NoAttr; k_is)
    (case h_n4_9 => delta L2.NoAttr; k_is)
    (case h_s4_0 => k_is)
    (case h_s4_1 => k_is)
    (case h_s4_2 => k_is)
    (case h_s4_3 => k_is)
    (case h_s4_4 => k_is)
    (case h_s4_5 => k_is)
    (case h_s4_6 => k_is)
    (case h_cl5_0 => k_is)
    (case h_cl5_1 => k_is)
    (case h_cl5_2 => k_is)
    (case h_cl5_3 => k_is)
    (case h_b5_0 => k_is)
    (case h_b5_1 => k_is)
    (case h_b5_2 => k_is)
    (case h_b5_3 => k_is)
    (case h_ic5 => k_is)
    (case h_ti5 => k_is)
    (case h_sf5 => k_is)
    (case h_at5 => k_is)
    (case h_rt5 => k_is)
    (case h_si5 => k_is)
    (case h_or5 => k_is)
    (case h_ro5 => k_is)
    (case h_la5 => k_is)
    (case h_ea5 => k_is)
    (case h_n5_0 => delta L2.NoAttr; k_is)
    (case h_n5_1 => delta L2.NoAttr; k_is)
    (case h_n5_2 => delta L2.NoAttr; k_is)
    (case h_n5_3 => delta L2.NoAttr; k_is)
    (case h_n5_4 => delta L2.NoAttr; k_is)
    (case h_n5_5 => delta L2.NoAttr; k_is)
    (case h_n5_6 => delta L2.NoAttr; k_is)
    (case h_n5_7 => delta L2.NoAttr; k_is)
    (case h_n5_8 => delta L2.NoAttr; k_is)
    (case h_n5_9 => delta L2.NoAttr; k_is)
    (case h_s5_0 => k_is)
    (case h_s5_1 => k_is)
    (case h_s5_2 => k_is)
    (case h_s5_3 => k_is)
    (case h_s5_4 => k_is)
    (case h_s5_5 => k_is)
    (case h_s5_6 => k_is)
    (case h_cl6_0 => k_is)
    (case h_cl6_1 => k_is)
    (case h_cl6_2 => k_is)
    (case h_cl6_3 => k_is)
    (case h_b6_0 => k_is)
    (case h_b6_1 => k_is)
    (case h_b6_2 => k_is)
    (case h_b6_3 => k_is)
    (case h_ic6 => k_is)
    (case h_ti6 => k_is)
    (case h_sf6 => k_is)
    (case h_at6 => k_is)
    (case h_rt6 => k_is)
    (case h_si6 => k_is)
    (case h_or6 => k_is)
    (case h_ro6 => k_is)
    (case h_la6 => k_is)
    (case h_ea6 => k_is)
    (case h_n6_0 => delta L2.NoAttr; k_is)
    (case h_n6_1 => delta L2.NoAttr; k_is)
    (case h_n6_2 => delta L2.NoAttr; k_is)
    (case h_n6_3 => delta L2.NoAttr; k_is)
    (case h_n6_4 => delta L2.NoAttr; k_is)
    (case h_n6_5 => delta L2.NoAttr; k_is)
    (case h_n6_6 => delta L2.NoAttr; k_is)
    (case h_n6_7 => delta L2.NoAttr; k_is)
    (case h_n6_8 => delta L2.NoAttr; k_is)
    (case h_n6_9 => delta L2.NoAttr; k_is)
    (case h_s6_0 => k_is)
    (case h_s6_1 => k_is)
    (case h_s6_2 => k_is)
    (case h_s6_3 => k_is)
    (case h_s6_4 => k_is)
    (case h_s6_5 => k_is)
    (case h_s6_6 => k_is)
    (case h_mk0 => k_is)
    (case h_kp0 => k_is)
    (case h_mk1 => k_is)
    (case h_kp1 => k_is)
    (case h_mk2 => k_is)
    (case h_kp2 => k_is)
    (case h_mk3 => k_is)
    (case h_kp3 => k_is)
    (case h_mk4 => k_is)
    (case h_kp4 => k_is)
    (case h_mk5 => k_is)
    (case h_kp5 => k_is)
    (case h_mk6 => k_is)
    (case h_kp6 => k_is)
    (case h_i1 => k_is)
    (case h_i2 => k_is)
    (case h_acl0_0 => k_is)
    (case h_acl0_1 => k_is)
    (case h_acl0_2 => k_is)
    (case h_acl0_3 => k_is)
    (case h_ab0_0 => k_is)
    (case h_ab0_1 => k_is)
    (case h_ab0_2 => k_is)
    (case h_ab0_3 => k_is)
    (case h_aic0 => k_is)
    (case h_ati0 => k_is)
    (case h_an0_0 => delta L2.NoAttr; k_is)
    (case h_an0_1 => delta L2.NoAttr; k_is)
    (case h_an0_2 => delta L2.NoAttr; k_is)
    (case h_an0_3 => delta L2.NoAttr; k_is)
    (case h_an0_4 => delta L2.NoAttr; k_is)
    (case h_as0_0 => k_is)
    (case h_as0_1 => k_is)
    (case h_as0_2 => k_is)
    (case h_as0_3 => k_is)
    (case h_at0_0 => k_is)
    (case h_at0_1 => k_is)
    (case h_at0_2 => k_is)
    (case h_at0_3 => k_is)
    (case h_at0_4 => k_is)
    (case h_at0_5 => k_is)
    (case h_at0_6 => k_is)
    (case h_amk0 => k_is)
    (case h_akp0 => k_is)
    (case h_acl1_0 => k_is)
    (case h_acl1_1 => k_is)
    (case h_acl1_2 => k_is)
    (case h_acl1_3 => k_is)
    (case h_ab1_0 => k_is)
    (case h_ab1_1 => k_is)
    (case h_ab1_2 => k_is)
    (case h_ab1_3 => k_is)
    (case h_aic1 => k_is)
    (case h_ati1 => k_is)
    (case h_an1_0 => delta L2.NoAttr; k_is)
    (case h_an1_1 => delta L2.NoAttr; k_is)
    (case h_an1_2 => delta L2.NoAttr; k_is)
    (case h_an1_3 => delta L2.NoAttr; k_is)
    (case h_an1_4 => delta L2.NoAttr; k_is)
    (case h_as1_0 => k_is)
    (case h_as1_1 => k_is)
    (case h_as1_2 => k_is)
    (case h_as1_3 => k_is)
    (case h_at1_0 => k_is)
    (case h_at1_1 => k_is)
    (case h_at1_2 => k_is)
    (case h_at1_3 => k_is)
    (case h_at1_4 => k_is)
    (case h_at1_5 => k_is)
    (case h_at1_6 => k_is)
    (case h_amk1 => k_is)
    (case h_akp1 => k_is)
    (case h_acl2_0 => k_is)
    (case h_acl2_1 => k_is)
    (case h_acl2_2 => k_is)
    (case h_acl2_3 => k_is)
    (case h_ab2_0 => k_is)
    (case h_ab2_1 => k_is)
    (case h_ab2_2 => k_is)
    (case h_ab2_3 => k_is)
    (case h_aic2 => k_is)
    (case h_ati2 => k_is)
    (case h_an2_0 => delta L2.NoAttr; k_is)
    (case h_an2_1 => delta L2.NoAttr; k_is)
    (case h_an2_2 => delta L2.NoAttr; k_is)
    (case h_an2_3 => delta L2.NoAttr; k_is)
    (case h_an2_4 => delta L2.NoAttr; k_is)
    (case h_as2_0 => k_is)
    (case h_as2_1 => k_is)
    (case h_as2_2 => k_is)
    (case h_as2_3 => k_is)
    (case h_at2_0 => k_is)
    (case h_at2_1 => k_is)
    (case h_at2_2 => k_is)
    (case h_at2_3 => k_is)
    (case h_at2_4 => k_is)
    (case h_at2_5 => k_is)
    (case h_at2_6 => k_is)
    (case h_amk2 => k_is)
    (case h_akp2 => k_is)
    (case h_acl3_0 => k_is)
    (case h_acl3_1 => k_is)
    (case h_acl3_2 => k_is)
    (case h_acl3_3 => k_is)
    (case h_ab3_0 => k_is)
    (case h_ab3_1 => k_is)
    (case h_ab3_2 => k_is)
    (case h_ab3_3 => k_is)
    (case h_aic3 => k_is)
    (case h_ati3 => k_is)
    (case h_an3_0 => delta L2.NoAttr; k_is)
    (case h_an3_1 => delta L2.NoAttr; k_is)
    (case h_an3_2 => delta L2.NoAttr; k_is)
    (case h_an3_3 => delta L2.NoAttr; k_is)
    (case h_an3_4 => delta L2.NoAttr; k_is)
    (case h_as3_0 => k_is)
    (case h_as3_1 => k_is)
    (case h_as3_2 => k_is)
    (case h_as3_3 => k_is)
    (case h_at3_0 => k_is)
    (case h_at3_1 => k_is)
    (case h_at3_2 => k_is)
    (case h_at3_3 => k_is)
    (case h_at3_4 => k_is)
    (case h_at3_5 => k_is)
    (case h_at3_6 => k_is)
    (case h_amk3 => k_is)
    (case h_akp3 => k_is)
    (case h_d_is_integer_0 => k_is)
    (case h_d_is_integer_1 => k_is)
    (case h_d_is_integer_2 => k_is)
    (case h_d_is_integer_3 => k_is)
    (case h_d_is_natural_0 => k_is)
    (case h_d_is_natural_1 => k_is)
    (case h_d_is_natural_2 => k_is)
    (case h_d_is_natural_3 => k_is)
    (case h_d_is_name_0 => k_is)
    (case h_d_is_name_1 => k_is)
    (case h_d_is_name_2 => k_is)
    (case h_d_is_name_3 => k_is)
    (case h_d_are_integers_0 => k_is)
    (case h_d_are_integers_1 => k_is)
    (case h_d_are_integers_2 => k_is)
    (case h_d_are_integers_3 => k_is)
    (case h_d_is_row_0 => k_is)
    (case h_d_is_row_1 => k_is)
    (case h_d_is_row_2 => k_is)
    (case h_d_is_row_3 => k_is)
    (case h_d_are_rows_0 => k_is)
    (case h_d_are_rows_1 => k_is)
    (case h_d_are_rows_2 => k_is)
    (case h_d_are_rows_3 => k_is)
    (case h_d_first_twice_0 => k_is)
    (case h_d_first_twice_1 => k_is)
    (case h_d_first_twice_2 => k_is)
    (case h_d_first_twice_3 => k_is)
    (case h_d_is_rows_0 => k_is)
    (case h_d_is_rows_1 => k_is)
    (case h_d_is_rows_2 => k_is)
    (case h_d_is_rows_3 => k_is)
    (case h_d_is_term_0 => k_is)
    (case h_d_is_term_1 => k_is)
    (case h_d_is_term_2 => k_is)
    (case h_d_is_term_3 => k_is)
    (case h_d_is_look_0 => k_is)
    (case h_d_is_look_1 => k_is)
    (case h_d_is_look_2 => k_is)
    (case h_d_is_look_3 => k_is)
    (case h_d_checked_stream_0 => k_is)
    (case h_d_checked_stream_1 => k_is)
    (case h_d_checked_stream_2 => k_is)
    (case h_d_checked_stream_3 => k_is)
    (case h_d_checked_term_0 => k_is)
    (case h_d_checked_term_1 => k_is)
    (case h_d_checked_term_2 => k_is)
    (case h_d_checked_term_3 => k_is)
    (case h_d_sizes_0 => k_is)
    (case h_d_sizes_1 => k_is)
    (case h_d_sizes_2 => k_is)
    (case h_d_sizes_3 => k_is)
    (case h_d_shifted_0 => k_is)
    (case h_d_shifted_1 => k_is)
    (case h_d_shifted_2 => k_is)
    (case h_d_shifted_3 => k_is)
    (case h_d_last_row_0 => k_is)
    (case h_d_last_row_1 => k_is)
    (case h_d_last_row_2 => k_is)
    (case h_d_last_row_3 => k_is)
    (case h_d_next_row_0 => k_is)
    (case h_d_next_row_1 => k_is)
    (case h_d_next_row_2 => k_is)
    (case h_d_next_row_3 => k_is)
    (case h_d_moved_0 => k_is)
    (case h_d_moved_1 => k_is)
    (case h_d_moved_2 => k_is)
    (case h_d_moved_3 => k_is)
    (case h_d_looked_0 => k_is)
    (case h_d_looked_1 => k_is)
    (case h_d_looked_2 => k_is)
    (case h_d_looked_3 => k_is)
    (case h_d_followed_either_0 => k_is)
    (case h_d_followed_either_1 => k_is)
    (case h_d_followed_either_2 => k_is)
    (case h_d_followed_either_3 => k_is)
    (case h_d_followed_both_0 => k_is)
    (case h_d_followed_both_1 => k_is)
    (case h_d_followed_both_2 => k_is)
    (case h_d_followed_both_3 => k_is)
    (case h_d_followed_0 => k_is)
    (case h_d_followed_1 => k_is)
    (case h_d_followed_2 => k_is)
    (case h_d_followed_3 => k_is)
    (case h_d_is_amount_0 => k_is)
    (case h_d_is_amount_1 => k_is)
    (case h_d_is_amount_2 => k_is)
    (case h_d_is_amount_3 => k_is)
    (case h_d_told_between_0 => k_is)
    (case h_d_told_between_1 => k_is)
    (case h_d_told_between_2 => k_is)
    (case h_d_told_between_3 => k_is)
    (case h_d_is_question_0 => k_is)
    (case h_d_is_question_1 => k_is)
    (case h_d_is_question_2 => k_is)
    (case h_d_is_question_3 => k_is)
    (case h_d_check_0 => k_is)
    (case h_d_check_1 => k_is)
    (case h_d_check_2 => k_is)
    (case h_d_check_3 => k_is)
    (case h_d_answered_0 => k_is)
    (case h_d_answered_1 => k_is)
    (case h_d_answered_2 => k_is)
    (case h_d_answered_3 => k_is)
    (case h_d_value_0 => k_is)
    (case h_d_value_1 => k_is)
    (case h_d_value_2 => k_is)
    (case h_d_value_3 => k_is)
    (case h_d__law_pool_0 => k_is)
    (case h_d__law_pool_1 => k_is)
    (case h_d__law_pool_2 => k_is)
    (case h_d__law_pool_3 => k_is)
    (case h_d__law_draw_0 => k_is)
    (case h_d__law_draw_1 => k_is)
    (case h_d__law_draw_2 => k_is)
    (case h_d__law_draw_3 => k_is)
    (case h_d__law_names_0 => k_is)
    (case h_d__law_names_1 => k_is)
    (case h_d__law_names_2 => k_is)
    (case h_d__law_names_3 => k_is)
    (case h_d__law_moment_0 => k_is)
    (case h_d__law_moment_1 => k_is)
    (case h_d__law_moment_2 => k_is)
    (case h_d__law_moment_3 => k_is)
    (case h_d__law_rows_0 => k_is)
    (case h_d__law_rows_1 => k_is)
    (case h_d__law_rows_2 => k_is)
    (case h_d__law_rows_3 => k_is)
    (case h_d__law_term_0 => k_is)
    (case h_d__law_term_1 => k_is)
    (case h_d__law_term_2 => k_is)
    (case h_d__law_term_3 => k_is)
    (case h_d__law_built_0 => k_is)
    (case h_d__law_built_1 => k_is)
    (case h_d__law_built_2 => k_is)
    (case h_d__law_built_3 => k_is)
    (case h_d_support_0 => k_is)
    (case h_d_support_1 => k_is)
    (case h_d_support_2 => k_is)
    (case h_d_support_3 => k_is)
    (case h_d__law_question_0 => k_is)
    (case h_d__law_question_1 => k_is)
    (case h_d__law_question_2 => k_is)
    (case h_d__law_question_3 => k_is)
    (case h_d__law_asked_0 => k_is)
    (case h_d__law_asked_1 => k_is)
    (case h_d__law_asked_2 => k_is)
    (case h_d__law_asked_3 => k_is)
    (case h_d__law_same_0 => k_is)
    (case h_d__law_same_1 => k_is)
    (case h_d__law_same_2 => k_is)
    (case h_d__law_same_3 => k_is)
    (case h_d__law_last_0 => k_is)
    (case h_d__law_last_1 => k_is)
    (case h_d__law_last_2 => k_is)
    (case h_d__law_last_3 => k_is)
    (case h_d__law_next_0 => k_is)
    (case h_d__law_next_1 => k_is)
    (case h_d__law_next_2 => k_is)
    (case h_d__law_next_3 => k_is)
    (case h_d__law_answer_0 => k_is)
    (case h_d__law_answer_1 => k_is)
    (case h_d__law_answer_2 => k_is)
    (case h_d__law_answer_3 => k_is)
    (case h_d__law_told_0 => k_is)
    (case h_d__law_told_1 => k_is)
    (case h_d__law_told_2 => k_is)
    (case h_d__law_told_3 => k_is)
    (case h_d__law_is_told_0 => k_is)
    (case h_d__law_is_told_1 => k_is)
    (case h_d__law_is_told_2 => k_is)
    (case h_d__law_is_told_3 => k_is)
    (case h_d__law_without_0 => k_is)
    (case h_d__law_without_1 => k_is)
    (case h_d__law_without_2 => k_is)
    (case h_d__law_without_3 => k_is)
    (case h_d__law_deep_0 => k_is)
    (case h_d__law_deep_1 => k_is)
    (case h_d__law_deep_2 => k_is)
    (case h_d__law_deep_3 => k_is)
    (case h_m_WI_0 => k_is)
    (case h_m_WI_1 => k_is)
    (case h_m_WI_2 => k_is)
    (case h_m_WI_3 => k_is)
    (case h_m_WI_4 => k_is)
    (case h_m_WR_0 => k_is)
    (case h_m_WR_1 => k_is)
    (case h_m_WR_2 => k_is)
    (case h_m_WR_3 => k_is)
    (case h_m_WR_4 => k_is)
    (case h_m_NI_0 => k_is)
    (case h_m_NI_1 => k_is)
    (case h_m_NI_2 => k_is)
    (case h_m_NI_3 => k_is)
    (case h_m_NI_4 => k_is)
    (case h_m_LI_0 => k_is)
    (case h_m_LI_1 => k_is)
    (case h_m_LI_2 => k_is)
    (case h_m_LI_3 => k_is)
    (case h_m_LI_4 => k_is)
    (case h_m_XI_0 => k_is)
    (case h_m_XI_1 => k_is)
    (case h_m_XI_2 => k_is)
    (case h_m_XI_3 => k_is)
    (case h_m_XI_4 => k_is)
    (case h_m_SI_0 => k_is)
    (case h_m_SI_1 => k_is)
    (case h_m_SI_2 => k_is)
    (case h_m_SI_3 => k_is)
    (case h_m_SI_4 => k_is)
    (case h_m_EI_0 => k_is)
    (case h_m_EI_1 => k_is)
    (case h_m_EI_2 => k_is)
    (case h_m_EI_3 => k_is)
    (case h_m_EI_4 => k_is)
    (case h_m_JI_0 => k_is)
    (case h_m_JI_1 => k_is)
    (case h_m_JI_2 => k_is)
    (case h_m_JI_3 => k_is)
    (case h_m_JI_4 => k_is)
    (case h_m_KI_0 => k_is)
    (case h_m_KI_1 => k_is)
    (case h_m_KI_2 => k_is)
    (case h_m_KI_3 => k_is)
    (case h_m_KI_4 => k_is)
    (case h_m_nuI_0 => k_is)
    (case h_m_nuI_1 => k_is)
    (case h_m_nuI_2 => k_is)
    (case h_m_nuI_3 => k_is)
    (case h_m_nuI_4 => k_is)
    (case h_m_coI_0 => k_is)
    (case h_m_coI_1 => k_is)
    (case h_m_coI_2 => k_is)
    (case h_m_coI_3 => k_is)
    (case h_m_coI_4 => k_is)
    (case h_m_toI_0 => k_is)
    (case h_m_toI_1 => k_is)
    (case h_m_toI_2 => k_is)
    (case h_m_toI_3 => k_is)
    (case h_m_toI_4 => k_is)
    (case h_m_gaI_0 => k_is)
    (case h_m_gaI_1 => k_is)
    (case h_m_gaI_2 => k_is)
    (case h_m_gaI_3 => k_is)
    (case h_m_gaI_4 => k_is)
    (case h_m_add_0 => k_is)
    (case h_m_add_1 => k_is)
    (case h_m_add_2 => k_is)
    (case h_m_add_3 => k_is)
    (case h_m_add_4 => k_is)
    (case h_m_ior_0 => k_is)
    (case h_m_ior_1 => k_is)
    (case h_m_ior_2 => k_is)
    (case h_m_ior_3 => k_is)
    (case h_m_ior_4 => k_is)
    (case h_m_lat_0 => k_is)
    (case h_m_lat_1 => k_is)
    (case h_m_lat_2 => k_is)
    (case h_m_lat_3 => k_is)
    (case h_m_lat_4 => k_is)
    (case h_m_ear_0 => k_is)
    (case h_m_ear_1 => k_is)
    (case h_m_ear_2 => k_is)
    (case h_m_ear_3 => k_is)
    (case h_m_ear_4 => k_is)

