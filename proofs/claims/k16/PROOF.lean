import PyProof.Rows.All
import Wide.All
import OpenK.AllK
import Wide.FinOn
import PyProof.EqAt
import PyProof.EqKinds
import PyProof.TupleCall
import KE.KExcSuper
import HandS.ForMost
import HandS.ForExc
import HandS.ExcInit
import HandS.IsInst
import HandS.Wide
import HandS.Star
import HandS.CallSlots
import HandS.DictComp
import HandS.OwnEq
import HandS.Codes
import HandS.Defaults
import HandS.Walk
import PySem.Challenge.RW_asofhall_k16_whole_moved_and_mirrored
import PyProof.Rows.SortShellAny
import HandS.SetFor
import HandS.SetKeys
import HandS.SortRule
import HandS.More
import HandS.Deep
import PyProof.InstNe
import OpenK.KOwn
import OpenK.KOps
import HandS.Sort
import OpenK.KMeth
import HandS.SlotsOwn
import KE.KOpsOwn
import KE.DatumOrd
import HandS.SortKw
import HandS.TupLe
set_option Elab.async false
set_option linter.all false
set_option maxRecDepth 100000
set_option maxHeartbeats 4000000
namespace PySem
namespace BadX
open PySem.W PySem.Calls PyProof.Rows PySem.HandSPX
/-- super().__init__(text); self.fl = par -/
def shape (tx par fl : Str) (p0 p1 p2 p3 p4 p5 p6 p7 p8 p9 : Pos) (j : Nat) : List Stmt :=
  [.Expr (.Call (.Attribute (.Call (.Name "super" p0) [] [] p1) "__init__" p2) [.Constant (.str tx) j p3] [] p4) p5,
   .Assign [.Attribute (.Name "self" p6) fl p7] (.Name par p8) p9]
def sco (par : Str) : Scope := { kind := .function, names := [(PySem.Str.ofString "self", .local), (par, .local), (PySem.Str.ofString "__class__", .free), (PySem.Str.ofString "super", .globalImplicit)], isGenerator := false, isCoroutine := false, more := [] }
/-- what the written part says of an own error's class at C, its __init__ at fI, whose one field is fl -/
structure Txt (P : Program) (K : Frag) (mg : Str → Option Value) (par fl : Str) (C fI : Addr) : Prop where
  cls : ∃ nm q N bs bm sn sub ab col dd k0 k1 k2 k3 k5, K.lookup C = some (excClassObj nm q C N bs bm true sn sub ab col dd k0 k1 k2 k3 k5 "ValueError.__new__") ∧ refsVE bm = true
  sa : findIn K (.ref C) "__setattr__" = some (some (.builtin "object.__setattr__"))
  ga : findIn K (.ref C) "__getattribute__" = some (some (.builtin "BaseException.__getattribute__"))
  gg : findIn K (.ref C) "__getattr__" = some none
  noN : findIn K (.ref C) fl = some none
  iC : findIn K (.ref C) "__init__" = some (some (.ref fI))
  tC : typeIn K (.ref fI) = some (.type "function")
  kC : keepIn K (.ref C) = true
  exC : subIn K (.ref C) (.type "BaseException") = some true
  veC : subIn K (.ref C) (.type "ValueError") = some true
  slf : mroIn K C (.ref C) = some true
  tyC : typeIn K (.ref C) = some (.type "type")
  hdC : hasDictIn K C = true
  te : exmOne K (.ref C) (.ref C) = some true
  along : ks_superIn K C C "__init__" = some (some (.builtin "ValueError.__init__"))
  opq : nsIn K cStatics "thirdparty.any" = some none
  sup : mg "super" = none
  top : (P.main.scope.names.lookup ("super" : Str)).isSome = false
  fn : ∃ (oc : Value) (od : Option Addr) (qual tx : Str) (doc pm : Value) (an : Option Addr) (cda cc : Addr) (ct : Value) (osl : Array (Option Value)) (pa : Arguments) (p0 p1 p2 p3 p4 p5 p6 p7 p8 p9 : Pos) (j : Nat) (a0 : Arg),
    K.lookup fI = some ⟨oc, od, .func (ksFn "__init__" qual pa (shape tx par fl p0 p1 p2 p3 p4 p5 p6 p7 p8 p9 j) (sco par) .none .none doc pm an (.ref cda) ct cc), osl⟩ ∧ codeIn K (.ref cda) qual = true ∧
    (pa.posonlyargs ++ pa.args).head? = some a0 ∧ a0.arg = "self" ∧
    (∀ (s : Shared) (u v : Value), BindsTo s (ksFn "__init__" qual pa (shape tx par fl p0 p1 p2 p3 p4 p5 p6 p7 p8 p9 j) (sco par) .none .none doc pm an (.ref cda) ct cc) ⟨[u, v], []⟩ [("self", u), (par, v)]) ∧
    (∃ ccl cdd vs ccs file tf, K.lookup cda = some ⟨ccl, cdd, .fields vs, ccs⟩ ∧ vs[2]? = some (.str file tf) ∧ ((P.main.file : Str) == file) = true) ∧
    (p2.endLine == p4.line) = true ∧
    (∃ cl cld csl, K.lookup cc = some ⟨cl, cld, .cell (some (.ref C)), csl⟩)
/-- what __init__ leaves of a fresh exception at x -/
structure Left (fl : Str) (h h' : Heap) (x C dx t1 : Addr) (v : Value) : Prop where
  keep : ∀ b o, b ≠ x → h.get? b = some o → h'.get? b = some o
  obj : h'.get? x = some { cls := .ref C, dict := some dx, data := .fields #[.ref t1, .none, .none, .none, .bool false, .none] }
  dbig : h.objs.size ≤ dx
  dne : dx ≠ x
  ns : h'.Ns1 dx (fun y => if y = fl then some v else none)
section
variable {prog : Program} {w : World} {A : Around} {E : Value → Shared → Prop} {R : Result → Shared → Prop} {s : Shared} {K : Frag} {mg mb : Str → Option Value} {C fI : Addr} {par fl : Str}
/-- the wrapper of ValueError.__init__, bound to x, called -/
theorem call_bound {h : Heap} {g : Array GenState} {d : Drawn} {t : Nat} {os : OsState} {u x t0 : Addr} {rest : List Value} {Q : Value → Shared → Prop} {nm q : Str} {N : Addr} {bs bm : List Value} {sn : List Str} {sub : List Value} {ab : Bool} {col : Option Bool} {dd : Option Addr} {k0 k1 k2 k3 k5 : Option Value}
    (hC : h.get? C = some (excClassObj nm q C N bs bm true sn sub ab col dd k0 k1 k2 k3 k5 "ValueError.__new__")) (hx : h.get? x = some (excO C t0)) (hu : h.get? u = some (kxs_mw "ValueError.__init__" x)) (hr : rest.length ≤ sizeLine)
    (hq : ∀ h', (∀ b o, b ≠ x → h.get? b = some o → h'.get? b = some o) → h'.get? x = some (excO C h.objs.size) → Q .none ⟨h', g, d, t, os⟩) :
    wpAny (model prog w) A (call (.ref u) rest) Q E ⟨h, g, d, t, os⟩ := by
  have FB := F.excBase_ValueError
  refine wpAny_call (codeAny_of_tree ?_)
  show wpAny _ A.in1 (callAny (.ref u) ⟨rest, []⟩) _ _ _
  simp only [callAny]
  refine wpAny_bind (wpAny_load hu ?_)
  have c1 : (Value.type "method-wrapper" == Value.type "method" || Value.type "method-wrapper" == Value.type "builtin_function_or_method" || Value.type "method-wrapper" == Value.type "method-wrapper") = true := by decide
  simp only [kxs_mw, c1, if_true]
  refine KFB.if_so (by decide) (wpAny_bind (check_bound_init FB.toExcCallFacts hC hx rfl (wpAny_bind (wpAny_pure (wpAny_pure ⟨plainId_quiet FB.init.plain _, codeAny_builtin FB.initEntry ?_⟩)))))
  exact exc_init_tree (cls := .ref C) (t0 := t0) (dv := none) (c2 := .none) (c3 := .none) (b4 := .bool false) hx hr fun h' k e' _ => hq h' k e'
theorem init_ok {x t0 : Addr} {v : Value} (T : Txt prog K mg par fl C fI) (X : K.In s.heap) (G : s.heap.Ns mainGlobals mg) (B : s.heap.Ns builtinsNs mb) (hb : mb "super" = some (.type "super")) (hlim : s.heap.NoLimit)
    (hx : s.heap.get? x = some (excO C t0)) (hnx : K.lookup x = none) (hroom : A.depth < recursionLimit) (hp1 : (par == ("__debug__" : Str)) = false) (hp2 : ¬ par = "self")
    (hloc : (sco par).names.lookup par = some .local) (hks : (sco par).names.lookup ("super" : Str) = some .globalImplicit) (hkc : (sco par).names.lookup ("__class__" : Str) = some .free)
    (hq : ∀ h' tk t1 dx, Left fl s.heap h' x C dx t1 v → R (.ok (.ret .none)) { s with heap := h', toks := tk }) :
    codeAny (model prog w) A (.call (.ref fI) ⟨[.ref x, v], []⟩) R s := by
  obtain ⟨oc, od, qual, tx, doc, pm, an, cda, cc, ct, osl, pa, p0, p1, p2, p3, p4, p5, p6, p7, p8, p9, j, a0, ho, hcd, ha0, ha1, hbd, ⟨ccl, cdd, vs, ccs, file, tf, hcode, hvs, hfile⟩, hpe, ⟨cl, cld, csl, hcell⟩⟩ := T.fn
  obtain ⟨nm, q, N, bs, bm, sn, sub, ab, col, dd, k0, k1, k2, k3, k5, hC, hbm⟩ := T.cls
  have hcl : clsIn K C = some { name := nm, bases := bs, mro := .ref C :: bm, ns := N, qualname := q, hasDict := true, slotNames := sn, subclasses := sub, abstract := ab, collection := col, hasDel := false } := by unfold clsIn; rw [hC] <;> rfl
  refine ks_codeAny_call_defAt (binds := [("self", .ref x), (par, v)]) hroom (X _ _ ho) rfl hlim (codeRec_of X hcd) rfl (hbd s (.ref x) v) ?_ ?_ (fun h₁ hns hk₁ => ?_)
  · intro y hy
    have : y ∈ [(PySem.Str.ofString "self", NameKind.local), (par, .local), (PySem.Str.ofString "__class__", .free), (PySem.Str.ofString "super", .globalImplicit)] := hy
    simp only [List.mem_cons, List.not_mem_nil, or_false] at this
    rcases this with rfl | rfl | rfl | rfl <;> (intro z; cases z)
  · intro y hy
    simp only [List.mem_cons, List.not_mem_nil, or_false] at hy
    rcases hy with rfl | rfl
    · exact (by rfl : (sco par).names.lookup ("self" : Str) = some .local)
    · exact hloc
  have hself : ([(("self" : Str), Value.ref x), (par, v)] : List (Str × Value)).reverse.lookup ("self" : Str) = some (Value.ref x) := by
    show List.lookup ("self" : Str) [(par, v), (("self" : Str), Value.ref x)] = _
    have e1 : (("self" : Str) == par) = false := by simpa using fun z => hp2 z.symm
    simp [List.lookup, e1]
  have hpar : ([(("self" : Str), Value.ref x), (par, v)] : List (Str × Value)).reverse.lookup par = some v := by
    show List.lookup par [(par, v), (("self" : Str), Value.ref x)] = _
    simp [List.lookup]
  have X₁ : K.In h₁ := X.keeps hk₁
  have hx₁ := hk₁ _ _ hx
  refine ks_wpAt_execs_cons (ks_wpAt_Expr_any (ks_wpAt_MethodCall (pl := ?pl) ?_ ?he))
  case he =>
    rw [arm_eval_Call]
    unfold methodCall methodCallPos
    rw [hpe]
    with_unfolding_all rfl
  refine ks_wpAt_super_base (hks := hks) (hkc := hkc) (by decide +kernel) rfl (X₁ _ _ ho) rfl ha0 rfl (X₁ _ _ hcode) rfl hvs hfile T.top ?_
  refine ks_loadName_global rfl hks (loadGlobal_builtin (G.keeps hk₁) T.sup (B.keeps hk₁) hb ⟨rfl, ?_⟩)
  refine wpAny_loadName_free rfl hkc rfl ⟨_, X₁ _ _ hcell, rfl⟩ ?_
  rw [ha1]
  refine wpAny_loadName_local rfl rfl hns hself ?_
  refine ks_wpAny_isType_cls (X₁ _ _ hC) rfl ⟨rfl, ?_⟩
  refine ks_wpAny_call_super (X₁ _ _ hC) rfl hx₁ rfl (fun c e => by cases e) (looks_mroIn X₁ T.slf) (fun h₂ e₂ k₂ => ?_)
  have X₂ : K.In h₂ := X₁.keeps k₂
  have hx₂ := k₂ _ _ hx₁
  have I₂ : InstAt h₂ x (excO C t0) C none := ⟨hx₂, rfl, rfl, trivial⟩
  have hal := T.along
  unfold ks_superIn at hal
  rw [hcl] at hal
  refine kxs_getMethod kxs_ValueError e₂ (looks_opaque X₂ T.opq) (l₀ := .ref C :: bm) ?_ rfl X₂ hal (I₂.type.andThen (looks_subIn X₂ T.veC)) (ks_ne X₂ I₂ hcl) (by decide +kernel) ?_
  · exact fun A Q E s k q => wpAny_bind ((looks_clsIn X₂ hcl) A _ E s k (wpAny_pure q))
  have hu : (h₂.push (kxs_mw "ValueError.__init__" x)).get? h₂.objs.size = some (kxs_mw "ValueError.__init__" x) := Heap.get?_push_at rfl rfl
  have k₃ : ∀ b o, h₂.get? b = some o → (h₂.push (kxs_mw "ValueError.__init__" x)).get? b = some o := fun b o e => Heap.get?_push_of_some _ e
  let H₃ := h₂.push (kxs_mw "ValueError.__init__" x)
  refine kxs_callWith1 (i := "ValueError.__init__") (x := x) (u := h₂.objs.size) (h₀ := Att.noObjs H₃) (L := h₂.objs.size + 7) (news := [(h₂.objs.size, kxs_mw "ValueError.__init__" x)]) (fun q hq => ?_) (List.Mem.head _) ?_
  · rcases List.mem_cons.mp hq with rfl | hq
    · exact ⟨hu, by show h₂.objs.size ≠ h₂.objs.size + 7; omega, Att.noObjs_get _ _⟩
    · cases hq
  refine wpAny_items_cons (Constant_str ?_)
  refine wpAny_items_nil ⟨hu, ?_⟩
  have X₃ : K.In (h₂.push (kxs_mw "ValueError.__init__" x)) := X₂.keeps k₃
  refine call_bound (X₃ _ _ hC) (k₃ _ _ hx₂) hu (by rw [sizeLine_eq]; exact (by decide : 1 ≤ 16777216)) fun h₄ k₄ e₄ => ?_
  -- self.fl = par
  have k14 : ∀ b o, b ≠ x → h₁.get? b = some o → h₄.get? b = some o := fun b o hb e => k₄ b o hb (k₃ b o (k₂ b o e))
  have xL : s.heap.objs.size ≠ x := Nat.ne_of_gt (Heap.lt_size hx)
  obtain ⟨oL, es, ep, hL, hr⟩ := hns
  have hns₄ : h₄.Ns s.heap.objs.size (fun y => ([(("self" : Str), Value.ref x), (par, v)] : List (Str × Value)).reverse.lookup y) := ⟨oL, es, ep, k14 _ _ xL hL, hr⟩
  have X₄ : K.In h₄ := fun a o e => k₄ a o (fun z => by rw [z, hnx] at e; cases e) (X₃ a o e)
  refine wpAt_of_wpAny (wpAny_execs_cons (plainObj_wpAny_Assign_Attribute ?_))
  refine wpAny_Name (wpAny_loadName_local rfl hloc hns₄ hpar ?_) hp1
  refine wpAny_Name (wpAny_loadName_local rfl rfl hns₄ hself ?_) (by decide)
  refine set_plain X₄ (ox := excO C h₂.objs.size.succ) (od := none) ⟨?_, rfl, rfl, trivial⟩ T.sa ?_
  · show h₄.get? x = some (excO C h₂.objs.size.succ)
    rw [e₄, Heap.size_push]
  have e₄' : h₄.get? x = some (excO C h₂.objs.size.succ) := by
    rw [e₄, Heap.size_push]
  refine exc_osa X₄ e₄' hcl (show refsVE (.ref C :: bm) = true from hbm) rfl T.noN (fun h₅ tk₅ dx k₅ dn dne hx₅ hn₅ => ?_)
  have z1 : s.heap.objs.size < h₄.objs.size := Heap.lt_size (k14 _ _ xL hL)
  refine wpAny_execs_nil (hq h₅ tk₅ _ dx ⟨fun b o hb e => k₅ b o hb (k14 b o hb (hk₁ b o e)), hx₅, Nat.le_of_lt (Nat.lt_of_lt_of_le z1 dn), dne, hn₅⟩)
theorem one_le (v : Value) : [v].length ≤ sizeLine := by
  rw [sizeLine_eq]
  exact (by decide : 1 ≤ 16777216)
/-- a made error -/
structure Made (fl : Str) (h h' : Heap) (e C d : Addr) (v : Value) : Prop where
  keep : ∀ b o, h.get? b = some o → h'.get? b = some o
  new : h.objs.size ≤ e
  obj : ∃ oe vs, h'.get? e = some oe ∧ oe.cls = .ref C ∧ oe.dict = some d ∧ oe.data = .fields vs ∧ vs[1]? = some .none
  dbig : h.objs.size ≤ d
  dne : d ≠ e
  ns : h'.Ns1 d (fun y => if y = fl then some v else none)
/-- the names of such an __init__ -/
structure Par (par : Str) : Prop where
  p1 : (par == ("__debug__" : Str)) = false
  p2 : ¬ par = "self"
  p3 : (sco par).names.lookup par = some .local
  p4 : (sco par).names.lookup ("super" : Str) = some .globalImplicit
  p5 : (sco par).names.lookup ("__class__" : Str) = some .free
theorem made_ok {v : Value} (T : Txt prog K mg par fl C fI) (p : Par par) (X : K.In s.heap) (G : s.heap.Ns mainGlobals mg) (B : s.heap.Ns builtinsNs mb) (hb : mb "super" = some (.type "super")) (hlim : s.heap.NoLimit) (hroom : A.depth + 1 < recursionLimit)
    (hq : ∀ h' tk e d, Made fl s.heap h' e C d v → R (.ok (.ret (.ref e))) { s with heap := h', toks := tk }) :
    codeAny (model prog w) A (.call (.ref C) ⟨[v], []⟩) R s := by
  obtain ⟨nm, q, N, bs, bm, sn, sub, ab, col, dd, k0, k1, k2, k3, k5, hC, hbm⟩ := T.cls
  obtain ⟨hp, g, dr, tk, os⟩ := s
  let hp2 := (hp.push (kdv_tup [v])).push (excO C hp.objs.size)
  have k : ∀ b o, hp.get? b = some o → hp2.get? b = some o := fun b o e => Heap.get?_push_of_some _ (Heap.get?_push_of_some _ e)
  have hget : hp2.get? (hp.objs.size + 1) = some (excO C hp.objs.size) := by
    show ((hp.push (kdv_tup [v])).push (excO C hp.objs.size)).get? (hp.objs.size + 1) = _
    heap_get
  have hsz : hp2.objs.size = hp.objs.size + 2 := by
    show ((hp.push (kdv_tup [v])).push (excO C hp.objs.size)).objs.size = _
    rw [Heap.size_push, Heap.size_push]
  have hnx : K.lookup (hp.objs.size + 1) = none := by
    cases e : K.lookup (hp.objs.size + 1) with
    | none => rfl
    | some o => exact absurd (Nat.lt_of_succ_lt (Heap.lt_size (show hp.get? _ = some o from X _ _ e))) (Nat.lt_irrefl _)
  refine call_own F.excBase_ValueError (fun Y => refsVE_contains Y bm hbm) (X _ _ hC) (looks_findIn X T.iC) (fun self => bind_fn X self T.tC) (one_le v) ?_
  refine init_ok (s := ⟨hp2, g, dr, tk, os⟩) T (X.keeps k) (G.keeps k) (B.keeps k) hb (hlim.keeps k) hget hnx (show A.depth + 1 < recursionLimit from hroom) p.p1 p.p2 p.p3 p.p4 p.p5 fun h' tk' t1 dx ⟨k', hx, dn, dne, hns⟩ => ?_
  have old : ∀ b o, hp.get? b = some o → h'.get? b = some o := fun b o e => k' b o (Nat.ne_of_lt (Nat.lt_succ_of_lt (Heap.lt_size e))) (k b o e)
  have dn' : hp2.objs.size ≤ dx := dn
  rw [hsz] at dn'
  exact ⟨rfl, hq h' tk' (hp.objs.size + 1) dx ⟨old, Nat.le_succ _, ⟨_, _, hx, rfl, rfl, rfl, rfl⟩, (by show hp.objs.size ≤ dx; omega), dne, hns⟩⟩
end
end BadX
end PySem
namespace L2
open PySem PySem.Spec PyProof.Rows
theorem relO_one {v : V} {v' : Value} (r : RelV v v') (fl f : Str) : RelO (List.lookup f [(fl, v)]) (if f = fl then some v' else none) := by
  by_cases hw : f = fl
  · subst hw
    rw [if_pos rfl]
    have q : List.lookup f [(f, v)] = some v := by simp [List.lookup]
    rw [q]
    exact r
  · rw [if_neg hw]
    have qw : (f == fl) = false := by simpa using hw
    have q2 : List.lookup f [(fl, v)] = none := by simp [List.lookup, qw]
    rw [q2]
    trivial
section
variable {X : Cx} {C fI : Addr}
/-- Cls(e), an own error with the one field fl -/
def tMkB (fl : Str) (C : Addr) (ta : TA) : St → Hp → XK → Prop := fun σ H Q => ta σ H fun vs H1 => ∃ v, vs = [v] ∧ ∀ d, H1 d = none → Q (.ref C) (some d) (upd H1 d (.xd [(fl, v)]))
theorem pmk_bad {x par fl : Str} {a : Expr} {ta : TA} {p pos : Pos} {k : Nat} (T : PySem.BadX.Txt X.prog X.K X.mg par fl C fI) (pr : PySem.BadX.Par par) (hm : X.mg x = some (.ref C)) (hr : Room k X.A) (ha : PA X [a] ta) (hg : Gl X x)
    (hdb : (x == ("__debug__" : Str)) = false := by decide)
    (he : starEach (a :: []) X.env = (false, eval a X.env) :: starEach [] X.env := by rfl) (hpl : (backTo pos (starEach [] X.env)).any (·.1) = false := by rfl) :
    PMk X (.Call (.Name x p) [a] [] pos) (tMkB fl C ta) := by
  intro pins s σ H Q I h
  refine wpAny_Call_Name_kw (ld_glob I hg hm ?_ hdb)
  refine PySem.W.callWith_K (h₀ := X.base) I.ok.mod.kin T.kC (thn (ha.run pos pins s σ H _ I h) fun us s1 hh => ?_) he hpl
  obtain ⟨vs, H1, I1, r1, v, ev, q1⟩ := hh
  subst ev
  refine ⟨I1.kIn, ?_⟩
  cases r1 with
  | cons rv rn =>
    rename_i v' us'
    cases rn
    show wpAny _ _ (call (.ref C) [v']) _ _ _
    have hlim := I1.nolimit
    obtain ⟨mb, hb1, hb2⟩ := I1.mod.blt
    have Gn : s1.heap.Ns mainGlobals X.mg := I1.mod.glob.keeps I1.bk
    have Bn : s1.heap.Ns builtinsNs mb := hb1.keeps I1.bk
    have hbs : mb "super" = some (.type "super") := (hb2 _ (by decide +kernel)).trans (by first | boot_by_name | rfl | kernel_rfl)
    obtain ⟨hp, g, dr, tk, os⟩ := s1
    refine wpAny_call (PySem.BadX.made_ok T pr I1.kIn Gn Bn hbs hlim (by have := hr.dp; omega) fun h' tk' e d M => ?_)
    show MkP X pins σ Q (.ref e) ⟨h', g, dr, tk', os⟩
    obtain ⟨oe, fv, hoe, hc, hd, hdat, h1⟩ := M.obj
    have hns := M.ns
    obtain ⟨G', g1, g2⟩ := restrict h' fun b => decide (b ≠ e)
    have gk : ∀ b, b ≠ e → G'.get? b = h'.get? b := fun b hb => g1 b (decide_eq_true hb)
    have ge : G'.get? e = none := g2 e (by simp)
    have old : ∀ b o, hp.get? b = some o → G'.get? b = some o := fun b o q => (gk b (Nat.ne_of_lt (Nat.lt_of_lt_of_le (Heap.lt_size q) M.new))).trans (M.keep b o q)
    have ob : ObjOk X.prog X.w (upd H1 d (.xd [(fl, v)])) G' d (.xd [(fl, v)]) :=
      ⟨_, hns.at (fun o q => (gk d M.dne).trans q), fun f => relO_one rv fl f⟩
    have J : Inv X pins σ (upd H1 d (.xd [(fl, v)])) ⟨G', g, dr, tk', os⟩ := I1.laid (t' := tk') old M.dbig ob
    refine ⟨e, oe, fv, ⟨G', g, dr, tk', os⟩, _, .ref C, some d, rfl, J, fun b o q => ?_, ge, hoe, ⟨hc, hd⟩, hdat, h1, ?_, rfl, I1.bare, raises_own T.exC T.tyC, q1 d (I1.hok.fresh M.dbig)⟩
    · by_cases hb : b = e
      · have q' : G'.get? b = some o := q
        rw [hb, ge] at q'; cases q'
      · exact (gk b hb).symm.trans q
    · rw [upd_ne (Ne.symm M.dne)]
      exact I1.hok.fresh M.new
/-- raise Cls(e) -/
def tRaiseB (fl : Str) (C : Addr) (W : WX) (ta : TA) : TS := fun _ σ H => tMkB fl C ta σ H fun cls d H' => W cls d σ H'
theorem ps_raiseB {x par fl : Str} {a : Expr} {ta : TA} {W : WX} {p pos pos2 : Pos} {k : Nat} (hc : X.calm = true) (T : PySem.BadX.Txt X.prog X.K X.mg par fl C fI) (pr : PySem.BadX.Par par) (hm : X.mg x = some (.ref C)) (hr : Room k X.A) (tk : Takes X W) (ha : PA X [a] ta) (hg : Gl X x)
    (hdb : (x == ("__debug__" : Str)) = false := by decide)
    (he : starEach (a :: []) X.env = (false, eval a X.env) :: starEach [] X.env := by rfl) (hpl : (backTo pos (starEach [] X.env)).any (·.1) = false := by rfl) :
    PS X (.Raise (some (.Call (.Name x p) [a] [] pos)) none pos2) (tRaiseB fl C W ta) := ps_raise hc tk (pmk_bad T pr hm hr ha hg hdb he hpl)
end
end L2

set_option Elab.async false
set_option linter.all false
set_option maxRecDepth 100000
set_option maxHeartbeats 4000000
namespace Ash
open PySem PySem.Spec PyProof.Rows L2
abbrev topS (i : Nat) : Stmt := PySem.Challenge.pw_asofhall_k16_whole_moved_and_mirrored.main.body.getD i (.Pass ⟨0, 0, 0, 0⟩)
/-- a def of the top by its name, with its promise -/
structure Cal (P : Program) (w : World) (K : PySem.W.Frag) (mg : Str → Option Value) (base : Heap) (CX : CXT) (x : Str) (k : Nat) (ps : List Str) (sp : Sp) : Prop where
  ex : ∃ f fd, mg x = some (.ref f) ∧ PySem.W.keepIn K (.ref f) = true ∧ Binds K fd ps [] ∧ FnOk P w K mg base CX k f fd ps sp
section
variable {X : Cx} {CX : CXT} {k j : Nat} {ps : List Str} {sp : Sp} {E : XK} {x : Str} {p pos : Pos} {e : Expr} {es : List Expr} {t : TA}
theorem pe_cal (G : Cal X.prog X.w X.K X.mg X.base CX x k ps sp) (hr : Room k X.A) (hx : Passes CX X E) (ha : PA X (e :: es) t) (hg : Gl X x := by rfl)
    (hdb : (x == ("__debug__" : Str)) = false := by decide) (he : starEach (e :: es) X.env = (false, eval e X.env) :: starEach es X.env := by rfl) (hpl : (backTo pos (starEach es X.env)).any (·.1) = false := by rfl) :
    PE X (.Call (.Name x p) (e :: es) [] pos) (tCall sp [] E t) := by
  obtain ⟨f, fd, hm, hk, hb, F⟩ := G.ex
  exact pe_call F hr hg hm hk hb .nil hx ha hdb he hpl
theorem pe_calS {E : L2.St → XK} (G : Cal X.prog X.w X.K X.mg X.base CX x k ps sp) (hr : Room k X.A) (hx : ∀ σ, PassesAt CX X σ (E σ)) (ha : PA X (e :: es) t) (hg : Gl X x := by rfl)
    (hdb : (x == ("__debug__" : Str)) = false := by decide) (he : starEach (e :: es) X.env = (false, eval e X.env) :: starEach es X.env := by rfl) (hpl : (backTo pos (starEach es X.env)).any (·.1) = false := by rfl) :
    PE X (.Call (.Name x p) (e :: es) [] pos) (tCallSD sp [] E t) := by
  obtain ⟨f, fd, hm, hk, hb, F⟩ := G.ex
  exact pe_callSD F hr hg hm hk hb .nil hx ha hdb he hpl
/-- a class by its name, with its __init__'s promise -/
structure Mak (P : Program) (w : World) (K : PySem.W.Frag) (mg : Str → Option Value) (base : Heap) (CX : CXT) (x : Str) (C : Addr) (k : Nat) (ps : List Str) (sp : Sp) : Prop where
  ex : ∃ f fd, Mk K C f ∧ mg x = some (.ref C) ∧ Binds K fd ps [] ∧ FnOk P w K mg base CX k f fd ps sp
theorem pe_mak {C : Addr} (G : Mak X.prog X.w X.K X.mg X.base CX x C k ps sp) (hr : Room (k + 1) X.A) (hx : Passes CX X E) (ha : PA X (e :: es) t) (hg : Gl X x := by rfl)
    (hdb : (x == ("__debug__" : Str)) = false := by decide) (he : starEach (e :: es) X.env = (false, eval e X.env) :: starEach es X.env := by rfl) (hpl : (backTo pos (starEach es X.env)).any (·.1) = false := by rfl) :
    PE X (.Call (.Name x p) (e :: es) [] pos) (tMake C sp [] E t) := by
  obtain ⟨f, fd, M, hm, hb, F⟩ := G.ex
  exact pe_make M F hr hg hm hb .nil hx ha hdb he hpl
/-- int(n) of an int -/
theorem call_intI : CallR X (.type "int") (fun xs H Q => ∃ i, xs = [.int i] ∧ Q (.int i) H) := by
  intro pins s σ H xs us Q I r h
  exact call_int1 pins s σ H xs us Q I r (.inl h)
end
/-- what is wanted of an exception at any slots of the def -/
def WEl (X : Cx) (W : WX) : XK := fun cls d H => ∀ σ : L2.St, σ.length = X.N.length → W cls d σ H
theorem passW {X : Cx} {W : WX} (tk : Takes X W) : Passes (L2.CX X.prog X.w) X (WEl X W) := fun _ σ _ _ e s' I c => tk e s' (XE.of_call I (fun cls d H' h => h σ I.len) c)
theorem passE {X : Cx} {E : XK} (tk : Takes X (fun cls d _ H => E cls d H)) : Passes (L2.CX X.prog X.w) X E := passes_call tk fun _ _ _ _ h => h
/-- a method of a class, with its promise -/
structure Met (P : Program) (w : World) (K : PySem.W.Frag) (mg : Str → Option Value) (base : Heap) (CX : CXT) (C : Addr) (m : Str) (k : Nat) (ps : List Str) (sp : Sp) : Prop where
  ex : ∃ f fd, Meth K C m f ∧ Binds K fd ps [] ∧ FnOk P w K mg base CX k f fd ps sp
/-- a dict comprehension over a walk: as lc_it -/
theorem dc_it {J : It} {n : Nat} {W0 : Hp → Prop} {Y : Nat → Hp → V → Hp → Prop} (wk : Walk J n W0 Y) {g : TG} {tt : TT} {tk tv : TE} {vs : List Nat} {σ : L2.St} {H1 : Hp} {D : Addr} {Qd : Hp → Prop} (Pv : Nat → Hp → Prop) (h0 : Pv 0 (upd H1 D (.dK []))) (hG : ∀ i H, i ≤ n → Pv i H → W0 H)
    (hs : ∀ i x H H', i < n → Pv i H → Y i H x H' → g x (wipe σ vs) H' fun σ2 H2 => wipe σ2 vs = wipe σ vs ∧ tt σ2 H2 fun b H3 =>
      if b = true then tk σ2 H3 fun y H4 => tv σ2 H4 fun z H5 => ∃ kvs k, y = kV k ∧ H5 D = some (.dK kvs) ∧ kvs.length < sizeLine ∧ Pv (i + 1) (upd H5 D (.dK (putK kvs k z))) else Pv (i + 1) H3) (hd : ∀ H, Pv n H → Qd H) :
    ∃ W : Nat → Nat → Hp → Prop, (∃ m, W 0 m (upd H1 D (.dK []))) ∧ ∀ i m H, W i m H →
      (J.stop i H ∧ Qd H) ∨ (J.go i H ∧ ∃ Nx : Hp → Prop, (∀ H', Nx H' → ∃ m', m' < m ∧ W (i + 1) m' H') ∧ ∀ x H', J.yld i H x H' → g x (wipe σ vs) H' fun σ2 H2 => wipe σ2 vs = wipe σ vs ∧ tt σ2 H2 fun b H3 =>
        if b = true then tk σ2 H3 fun y H4 => tv σ2 H4 fun z H5 => ∃ kvs k, y = kV k ∧ H5 D = some (.dK kvs) ∧ kvs.length < sizeLine ∧ Nx (upd H5 D (.dK (putK kvs k z))) else Nx H3) := by
  refine ⟨fun i m H => (m + i = n) ∧ Pv i H, ⟨n, rfl, h0⟩, ?_⟩
  rintro i m H ⟨hm, pv⟩
  by_cases c : i < n
  · refine .inr ⟨wk.goes i H c (hG i H (by omega) pv), Pv (i + 1), fun H' pv' => ⟨m - 1, by omega, by omega, pv'⟩, fun x H' y => ?_⟩
    exact hs i x H H' c pv (wk.yields i H x H' c (hG i H (by omega) pv) y)
  · have : i = n := by omega
    subst this
    exact .inl ⟨wk.stops H (hG _ H (Nat.le_refl _) pv), hd H pv⟩
/-- the built-in names that the top leaves alone -/
structure Blt (mg : Str → Option Value) : Prop where
  len : mg "len" = none
  int : mg "int" = none
  bool : mg "bool" = none
  str : mg "str" = none
  list : mg "list" = none
  tuple : mg "tuple" = none
  dict : mg "dict" = none
  isinstance : mg "isinstance" = none
  all : mg "all" = none
  range : mg "range" = none
  enumerate : mg "enumerate" = none
  sorted : mg "sorted" = none
  min : mg "min" = none
  max : mg "max" = none
  set : mg "set" = none
  sum : mg "sum" = none
  abs : mg "abs" = none
/-- data without depth -/
def flatD : PyData → Bool
  | .none => true
  | .bool _ => true
  | .int _ => true
  | .str x => PyData.strOk x
  | _ => false
theorem flat_lay : ∀ {ds : List PyData}, ds.all flatD = true → PyData.canLayAll0 ds = true ∧ PyData.depthAll ds ≤ 1
  | [], _ => by simp [PyData.canLayAll0, PyData.depthAll]
  | d :: ds, h => by
    rw [List.all_cons, Bool.and_eq_true] at h
    obtain ⟨h1, h2⟩ := flat_lay h.2
    cases d with
    | none => simp [PyData.canLayAll0, PyData.depthAll, PyData.canLay0, PyData.depth, h1, h2]
    | bool b => simp [PyData.canLayAll0, PyData.depthAll, PyData.canLay0, PyData.depth, h1, h2]
    | int b => simp [PyData.canLayAll0, PyData.depthAll, PyData.canLay0, PyData.depth, h1, h2]
    | str b =>
      have hb : PyData.strOk b = true := h.1
      simp [PyData.canLayAll0, PyData.depthAll, PyData.canLay0, PyData.depth, h1, h2, hb]
    | _ => exact absurd h.1 (by simp [flatD])
theorem shaped_flat {ds : List PyData} (h : ds.all flatD = true) : SeqAt.shaped (.tuple ds) = true := by
  obtain ⟨h1, h2⟩ := flat_lay h
  unfold SeqAt.shaped
  simp [PyData.canLay0, PyData.depth, h1]
  omega
/-- all but p stands -/
def But (p : Addr) (H H' : Hp) : Prop := ∀ b o, H b = some o → b ≠ p → H' b = some o
theorem But.refl (p : Addr) (H : Hp) : But p H H := fun _ _ h _ => h
theorem But.trans {p : Addr} {H H1 H2 : Hp} (a : But p H H1) (b : But p H1 H2) : But p H H2 := fun c o h n => b c o (a c o h n) n
theorem But.upd {p : Addr} {H H' : Hp} {o : HO} (a : But p H H') : But p H (L2.upd H' p o) := fun c u h n => by rw [upd_ne n]; exact a c u h n
theorem But.new {p q : Addr} {H H' : Hp} {o : HO} (a : But p H H') (h : H' q = none) (hp : H q = none ∨ q ≠ p := by first | exact .inl ‹_› | exact .inr ‹_›) : But p H (L2.upd H' q o) := fun c u hc n => by
  rw [upd_ne]
  · exact a c u hc n
  · intro z
    subst z
    rw [a c u hc n] at h
    cases h
theorem But.at {p q : Addr} {H H' : Hp} {o : HO} (a : But p H H') (h : H q = none) : But p H (L2.upd H' q o) := fun c u hc n => by
  rw [upd_ne (ne_of_none hc h)]
  exact a c u hc n
theorem sameAt {q : Addr} {H H' : Hp} {o : HO} (a : Same H H') (h : H q = none) : Same H (L2.upd H' q o) := fun c u hc => by
  rw [upd_ne (ne_of_none hc h)]
  exact a c u hc
theorem But.same {p : Addr} {H H' : Hp} (a : Same H H') : But p H H' := fun c o h _ => a c o h
theorem Same.new {q : Addr} {H H' : Hp} {o : HO} (a : Same H H') (h : H' q = none) : Same H (upd H' q o) := fun c u hc => by
  rw [upd_ne (ne_of_none (a c u hc) h)]
  exact a c u hc
theorem But.seq {K : PySem.W.Frag} {p a : Addr} {H H' : Hp} {xs : List V} (e : But p H H') (hn : ∀ o, H p = some o → ∀ ys, o ≠ .lst ys → True) (h : H a = some (.lst xs)) (n : a ≠ p) : SqL K H' a xs := .of (e _ _ h n)
end Ash

set_option Elab.async false
set_option linter.all false
set_option maxRecDepth 100000
set_option maxHeartbeats 4000000
namespace Ash
open PySem PySem.Spec PyProof.Rows L2
open C8 (pss_cut)
/-- the pool of drawn numbers at p, the script's copy at s -/
def PoolAt (H : Hp) (p s : Addr) : Prop := ∃ (ns : List Int) (i c k n : Int), H p = some (.lst [.ref s, .int i, .int c, .int k, .int n]) ∧ H s = some (.lst (ns.map V.int)) ∧ 0 ≤ i ∧ s ≠ p
theorem PoolAt.same {H H' : Hp} {p s : Addr} (h : PoolAt H p s) (e : Same H H') : PoolAt H' p s := by
  obtain ⟨ns, i, c, k, n, h1, h2, h3, h4⟩ := h
  exact ⟨ns, i, c, k, n, e _ _ h1, e _ _ h2, h3, h4⟩
theorem PoolAt.off {H : Hp} {p s q : Addr} {o : HO} (h : PoolAt H p s) (hp : q ≠ p) (hs : q ≠ s) : PoolAt (L2.upd H q o) p s := by
  obtain ⟨ns, i, c, k, n, h1, h2, h3, h4⟩ := h
  exact ⟨ns, i, c, k, n, by rw [upd_ne hp.symm]; exact h1, by rw [upd_ne hs.symm]; exact h2, h3, h4⟩
/-- from H0 to H nothing that was tracked has changed but the pool -/
structure Pl (H0 H : Hp) (p s : Addr) : Prop where
  now : PoolAt H p s
  op : H0 p ≠ none
  os : H0 s ≠ none
  but : But p H0 H
section
variable {H0 H H1 : Hp} {p s q : Addr} {o : HO}
theorem PoolAt.ne (h : PoolAt H p s) : H p ≠ none ∧ H s ≠ none := by
  obtain ⟨ns, i, c, k, n, h1, h2, h3, h4⟩ := h
  rw [h1, h2]
  exact ⟨Option.some_ne_none _, Option.some_ne_none _⟩
theorem Pl.refl (h : PoolAt H p s) : Pl H H p s := ⟨h, h.ne.1, h.ne.2, But.refl p H⟩
theorem Pl.at (h : Pl H0 H p s) (hq : H0 q = none) : Pl H0 (L2.upd H q o) p s :=
  ⟨h.now.off (fun z => h.op (z ▸ hq)) (fun z => h.os (z ▸ hq)), h.op, h.os, h.but.at hq⟩
theorem Pl.keep (h : Pl H0 H p s) {b : Addr} {u : HO} (e : H0 b = some u) (n : b ≠ p) : H b = some u := h.but b u e n
theorem Pl.free (h : Pl H0 H p s) (hq : H q = none) : H0 q = none := by
  cases e : H0 q with
  | none => rfl
  | some u =>
    by_cases hp : q = p
    · exact absurd (hp ▸ hq) h.now.ne.1
    · rw [h.but q u e hp] at hq
      cases hq
theorem Pl.trans (a : Pl H0 H p s) (b : Pl H H1 p s) : Pl H0 H1 p s := ⟨b.now, a.op, a.os, a.but.trans b.but⟩
/-- a new thing -/
theorem Pl.new (h : Pl H0 H p s) (hq : H q = none) : Pl H0 (L2.upd H q o) p s := h.at (h.free hq)
theorem Pl.same (h : Pl H0 H p s) (e : Same H H1) : Pl H0 H1 p s := ⟨h.now.same e, h.op, h.os, fun b u hb n => e b u (h.but b u hb n)⟩
end
def spPool (K : PySem.W.Frag) : Sp := fun vs H Q _ => ∃ (a : Addr) (ns : List Int), vs = [.ref a] ∧ SqL K H a (ns.map V.int) ∧ ∀ p s H', H p = none → PoolAt H' p s → Same H H' → Q (.ref p) H'
def spDraw : Sp := fun vs H Q _ => ∃ (p s : Addr) (many : Int), vs = [.ref p, .int many] ∧ PoolAt H p s ∧ 0 < many ∧ many < 2 ^ 200 ∧ ∀ (d : Int) H', 0 ≤ d → d < many → Pl H H' p s → Q (.int d) H'
section
variable {P : Program} {w : World} {K : PySem.W.Frag} {mg : Str → Option Value} {base : Heap}
abbrev s_l_pool : Stmt := topS 68
theorem sc_l_pool : FnScope ["script"] ["script"] (defScope s_l_pool) := ⟨rfl, rfl, rfl, by decide +kernel, rfl, by decide +kernel, by decide +kernel⟩
theorem ok_pool {f : Addr} {fd : FuncData} (F : Fun K "_law_pool" "_law_pool" s_l_pool f fd) (B : Blt mg) : FnOk P w K mg base CX0 1 f fd ["script"] (spPool K) := by
  refine F.ok sc_l_pool (fun vs H Q E h => ?_) (fun cdv A outer s H vs Q E hr h => ?_)
  · obtain ⟨a, ns, rfl, _⟩ := h
    rfl
  · obtain ⟨a, ns, rfl, hS, k⟩ := h
    refine ⟨_, (pss_one (ps_ret (pe_lst (pa_cons (pe_callTy call_list_of (by rfl) B.list (by decide +kernel) (pa_cons (pv 0) pa_nil)) (pa_cons pe_int (pa_cons pe_int (pa_cons pe_int (pa_cons pe_int pa_nil)))))))), ?_⟩
    refine ⟨_, rfl, _, _, rfl, .inl hS, fun l hl => ⟨(by show 5 ≤ sizeLine; decide), fun p hp => ?_⟩⟩
    have hpl : l ≠ p := fun z => by rw [z, upd_same] at hp; cases hp
    have hp0 : H p = none := by rw [upd_ne (Ne.symm hpl)] at hp; exact hp
    refine k p l _ hp0 ⟨ns, _, _, _, _, upd_same, (by rw [upd_ne hpl, upd_same]), (by decide), hpl⟩ ?_
    exact Same.new (Same.new (Same.refl H) hl) hp
abbrev s_l_draw : Stmt := topS 69
theorem sc_l_draw : FnScope ["pool", "many", "cell", "digit", "number"] ["pool", "many"] (defScope s_l_draw) := ⟨rfl, rfl, rfl, by decide +kernel, rfl, by decide +kernel, by decide +kernel⟩
theorem ok_draw {f : Addr} {fd : FuncData} (F : Fun K "_law_draw" "_law_draw" s_l_draw f fd) (B : Blt mg) : FnOk P w K mg base CX0 1 f fd ["pool", "many"] spDraw := by
  refine F.ok sc_l_draw (fun vs H Q E h => ?_) (fun cdv A outer s H vs Q E hr h => ?_)
  · obtain ⟨p, _, many, rfl, _⟩ := h
    rfl
  · obtain ⟨p, s, many, rfl, hPP, hm, hm2, kk⟩ := h
    obtain ⟨ns, i, c, k, n, hp, hs, hi, hsp⟩ := id hPP
    refine ⟨_, (pss_cons (ps_asg (pe_op op_add (pe_ix ix_list (pv 0) pe_int (fun _ _ => rfl)) pe_int) (pg_sub (pv 0) pe_int set_list))
    (pss_cut (ps_if (PW.pt (pw_and (pt_cmpR op_eq (pe_ix ix_list (pv 0) pe_int (fun _ _ => rfl)) pe_int (nomark _)) (pw_and1 (pt_cmpR op_lt (pe_ix ix_list (pv 0) pe_int (fun _ _ => rfl)) (pe_callB call_len_seq (by rfl) B.len (by decide +kernel) (pa_cons (pe_ix ix_list (pv 0) pe_int (fun _ _ => rfl)) pa_nil)) (nomark _)))))
      (pss_cons (ps_set (i := 2) sc_l_draw.nd rfl (Or.inl rfl) (pe_callB call_abs (by rfl) B.abs (by decide +kernel) (pa_cons (pe_callTy call_intI (by rfl) B.int (by decide +kernel) (pa_cons (pe_ix ix_list (pe_ix ix_list (pv 0) pe_int (fun _ _ => rfl)) (pe_ix ix_list (pv 0) pe_int (fun _ _ => rfl)) (fun _ _ => rfl)) pa_nil)) pa_nil)))
      (pss_cons (ps_asg (pe_op op_add (pe_ix ix_list (pv 0) pe_int (fun _ _ => rfl)) pe_int) (pg_sub (pv 0) pe_int set_list))
      (pss_one (ps_if (pt_cmpR op_ge (pv 2) (pe_op op_pow pe_int pe_int) (nomark _))
        (pss_one (ps_asg (pv 2) (pg_sub (pv 0) pe_int set_list)))
        (pss_one (ps_asg (pe_op op_mod (pe_callTy call_intI (by rfl) B.int (by decide +kernel) (pa_cons (pe_op op_add (pe_op op_add (pe_op op_mul (pe_ix ix_list (pv 0) pe_int (fun _ _ => rfl)) pe_int) (pv 2)) pe_int) pa_nil)) pe_int) (pg_sub (pv 0) pe_int set_list)))))))
      pss_nil)
    (pss_cons (ps_if (pt_cmpR op_gt (pe_ix ix_list (pv 0) pe_int (fun _ _ => rfl)) pe_int (nomark _))
      (pss_cons (ps_set (i := 3) sc_l_draw.nd rfl (Or.inl rfl) (pe_op op_mod (pe_callTy call_intI (by rfl) B.int (by decide +kernel) (pa_cons (pe_ix ix_list (pv 0) pe_int (fun _ _ => rfl)) pa_nil)) (pv 1)))
      (pss_cons (ps_asg (pe_op op_fdivW (pe_callTy call_intI (by rfl) B.int (by decide +kernel) (pa_cons (pe_ix ix_list (pv 0) pe_int (fun _ _ => rfl)) pa_nil)) (pv 1)) (pg_sub (pv 0) pe_int set_list))
      (pss_one (ps_ret (pv 3)))))
      pss_nil)
    (pss_cons (ps_set (i := 4) sc_l_draw.nd rfl (Or.inl rfl) (pe_op op_mod (pe_op op_mul (pe_callTy call_intI (by rfl) B.int (by decide +kernel) (pa_cons (pe_op op_add (pe_op op_add (pe_ix ix_list (pv 0) pe_int (fun _ _ => rfl)) (pe_op op_mul (pe_ix ix_list (pv 0) pe_int (fun _ _ => rfl)) pe_int)) pe_int) pa_nil)) pe_int) pe_int))
    (pss_cons (ps_set (i := 4) sc_l_draw.nd rfl (Or.inl rfl) (pe_op op_mod (pe_callTy call_intI (by rfl) B.int (by decide +kernel) (pa_cons (pe_op op_mul (pv 4) (pe_op op_add (pe_op op_fdiv (pv 4) pe_int) pe_int)) pa_nil)) pe_int))
    (pss_cons (ps_set (i := 4) sc_l_draw.nd rfl (Or.inl rfl) (pe_op op_mod (pe_callTy call_intI (by rfl) B.int (by decide +kernel) (pa_cons (pe_op op_mul (pv 4) (pe_op op_add (pe_op op_fdiv (pv 4) pe_int) pe_int)) pa_nil)) pe_int))
    (pss_cons (ps_asg (pv 4) (pg_sub (pv 0) pe_int set_list))
    (pss_one (ps_ret (pe_op op_mod (pe_callTy call_intI (by rfl) B.int (by decide +kernel) (pa_cons (pe_op op_fdiv (pv 4) pe_int) pa_nil)) (pv 1))))))))))), ?_⟩
    refine ⟨_, rfl, _, _, _, _, rfl, rfl, SqL.of hp, rfl, _, _, rfl, rfl, _, rfl, _, _, _, _, rfl, rfl, hp, rfl, ?_⟩
    refine ⟨fun σ H1 => (∃ cell, σ = [some (.ref p), some (.int many), cell, none, none]) ∧ ∃ (i c k n : Int), H1 p = some (.lst [.ref s, .int i, .int c, .int k, .int n]) ∧ H1 s = some (.lst (ns.map V.int)) ∧ 0 ≤ i ∧ But p H H1, ?_, ?_⟩
    · generalize eH : upd H p (.lst _) = H1
      have hp1 : H1 p = some (.lst [.ref s, .int i, .int c, .int (k + 1), .int n]) := by rw [← eH]; exact upd_same
      have hs1 : H1 s = some (.lst (ns.map V.int)) := by rw [← eH, upd_ne hsp]; exact hs
      have hb1 : But p H H1 := by rw [← eH]; exact (But.refl p H).upd
      clear eH
      refine ⟨_, rfl, _, _, _, _, rfl, rfl, SqL.of hp1, rfl, rfl, _, rfl, ?_⟩
      refine ite2 (fun c2 => ?_) (fun c2 => ?_)
      · refine ⟨_, rfl, _, _, _, _, rfl, rfl, SqL.of hp1, rfl, _, rfl, _, _, _, _, rfl, rfl, SqL.of hp1, rfl, _, _, rfl, .inl (SqL.of hs1), _, _, rfl, rfl, _, rfl, ?_⟩
        refine ite2 (fun c3 => ?_) (fun c3 => ?_)
        · have c3' : i < (ns.map V.int).length := of_decide_eq_true c3
          obtain ⟨j, rfl⟩ : ∃ j : Nat, i = (j : Int) := ⟨i.toNat, by omega⟩
          have hj : j < ns.length := by rw [List.length_map] at c3'; omega
          refine ⟨_, rfl, _, _, _, _, rfl, rfl, SqL.of hp1, rfl, _, rfl, _, _, _, _, rfl, rfl, SqL.of hp1, rfl, _, _, _, V.int ns[j], rfl, rfl, SqL.of hs1, atI_nat (by rw [List.getElem?_map, List.getElem?_eq_getElem hj]; rfl), _, rfl, _, rfl, ?_⟩
          refine ⟨_, rfl, _, _, _, _, rfl, rfl, SqL.of hp1, rfl, _, _, rfl, rfl, _, rfl, _, _, _, _, rfl, rfl, hp1, rfl, ?_⟩
          refine ⟨_, rfl, _, _, rfl, rfl, ⟨by decide, by decide, by decide⟩, _, _, rfl, rfl, _, rfl, ?_⟩
          refine ite2 (fun c4 => ?_) (fun c4 => ?_)
          · refine ⟨_, rfl, _, rfl, _, _, _, _, rfl, rfl, upd_same, rfl, ⟨_, rfl⟩, _, _, _, _, upd_same, (by rw [upd_ne hsp, upd_ne hsp]; exact hs1), (by omega), hb1.upd.upd⟩
          · refine ⟨_, rfl, _, _, _, _, rfl, rfl, SqL.of upd_same, rfl, _, _, rfl, rfl, .inr ⟨by decide, by decide⟩, _, rfl, _, _, rfl, rfl, _, _, rfl, rfl, _, rfl, _, _, rfl, rfl, (by show (0 : Int) < 2147483647; decide), _, rfl, _, _, _, _, rfl, rfl, upd_same, rfl, ⟨_, rfl⟩, _, _, _, _, upd_same, (by rw [upd_ne hsp, upd_ne hsp]; exact hs1), (by omega), hb1.upd.upd⟩
        · exact ⟨⟨_, rfl⟩, _, _, _, _, hp1, hs1, hi, hb1⟩
      · exact ⟨⟨_, rfl⟩, _, _, _, _, hp1, hs1, hi, hb1⟩
    · rintro σ' H1 ⟨⟨cell, rfl⟩, i, c, k, n, hp1, hs1, hi, hb1⟩
      refine ⟨_, rfl, _, _, _, _, rfl, rfl, SqL.of hp1, rfl, _, _, rfl, rfl, _, rfl, ?_⟩
      refine ite2 (fun c2 => ?_) (fun c2 => ?_)
      · refine ⟨_, rfl, _, _, _, _, rfl, rfl, SqL.of hp1, rfl, _, rfl, _, rfl, _, _, rfl, rfl, hm, _, rfl, _, _, _, _, rfl, rfl, SqL.of hp1, rfl, _, rfl, _, rfl, _, _, rfl, rfl, wide_div (b := 200) hm (by omega) (by decide) (by decide), _, rfl, _, _, _, _, rfl, rfl, hp1, rfl, _, rfl, ?_⟩
        refine kk _ _ (Int.emod_nonneg _ (by omega)) (Int.emod_lt_of_pos _ hm) ⟨⟨ns, _, _, _, _, upd_same, (by rw [upd_ne hsp]; exact hs1), hi, hsp⟩, hPP.ne.1, hPP.ne.2, hb1.upd⟩
      · refine ⟨_, rfl, _, _, _, _, rfl, rfl, SqL.of hp1, rfl, _, rfl, _, _, _, _, rfl, rfl, SqL.of hp1, rfl, _, _, rfl, rfl, .inr ⟨by decide, by decide⟩, _, _, rfl, rfl, _, _, rfl, rfl, _, rfl, _, _, rfl, rfl, .inr ⟨by decide, by decide⟩, _, _, rfl, rfl, (by show (0 : Int) < 2147483647; decide), ?_⟩
        generalize ea : (n + k * 104729 + 1) * 48271 % 2147483647 = a
        have a0 : 0 ≤ a := by rw [← ea]; exact Int.emod_nonneg _ (by decide)
        have a1 : a < 2147483647 := by rw [← ea]; exact Int.emod_lt_of_pos _ (by decide)
        refine ⟨_, rfl, _, rfl, _, _, rfl, rfl, ⟨by decide, by decide⟩, _, _, rfl, rfl, _, _, rfl, rfl, .inl ⟨by omega, by omega⟩, _, rfl, _, _, rfl, rfl, (by show (0 : Int) < 2147483629; decide), ?_⟩
        generalize eb : a * (a / 1009 + 69621) % 2147483629 = b
        have b0 : 0 ≤ b := by rw [← eb]; exact Int.emod_nonneg _ (by decide)
        have b1 : b < 2147483629 := by rw [← eb]; exact Int.emod_lt_of_pos _ (by decide)
        refine ⟨_, rfl, _, rfl, _, _, rfl, rfl, ⟨by decide, by decide⟩, _, _, rfl, rfl, _, _, rfl, rfl, .inl ⟨by omega, by omega⟩, _, rfl, _, _, rfl, rfl, (by show (0 : Int) < 2147483399; decide), ?_⟩
        refine ⟨_, rfl, _, rfl, _, _, _, _, rfl, rfl, hp1, rfl, _, rfl, _, _, rfl, rfl, ⟨by decide, by decide⟩, _, rfl, _, rfl, _, _, rfl, rfl, hm, ?_⟩
        refine kk _ _ (Int.emod_nonneg _ (by omega)) (Int.emod_lt_of_pos _ hm) ⟨⟨ns, _, _, _, _, upd_same, (by rw [upd_ne hsp]; exact hs1), hi, hsp⟩, hPP.ne.1, hPP.ne.2, hb1.upd⟩
end
end Ash

set_option Elab.async false
set_option linter.all false
set_option maxRecDepth 100000
set_option maxHeartbeats 4000000
namespace Ash
open PySem PySem.Spec PyProof.Rows L2
open C8 (pss_cut)
/-! ### names -/
def LET : List Nat := [97, 98, 99, 100, 101, 102, 103, 104, 105, 106, 107, 108, 109, 110, 111, 112, 113, 114, 115, 116, 117, 118, 119, 120, 121, 122]
abbrev abc : Str := "abcdefghijklmnopqrstuvwxyz"
theorem abc_let : abc.cps.toList = LET := by decide +kernel
theorem abc_size : abc.cps.size = 26 := by decide +kernel
/-- a name: 1 to 8 letters -/
def IsNm (z : Str) : Prop := 1 ≤ z.length ∧ z.length ≤ 8 ∧ ∀ c ∈ z.cps.toList, c ∈ LET
theorem let_small : ∀ c ∈ LET, c < 0x110000 := by decide
theorem nm_ok {z : Str} (h : IsNm z) : PyData.strOk z = true := by
  unfold PyData.strOk
  rw [← Array.all_toList, List.all_eq_true]
  exact fun c hc => decide_eq_true (let_small c (h.2.2 c hc))
theorem append_length (a b : Str) : (a ++ b).length = a.length + b.length := by
  show (a.cps ++ b.cps).size = a.cps.size + b.cps.size
  rw [Array.size_append]
theorem append_list (a b : Str) : (a ++ b).cps.toList = a.cps.toList ++ b.cps.toList := by
  show (a.cps ++ b.cps).toList = _
  rw [Array.toList_append]
theorem one_nm {c : Nat} (h : c ∈ LET) : IsNm ⟨#[c]⟩ := ⟨Nat.le_refl 1, (by show 1 ≤ 8; decide), fun d hd => by
  have e : d = c := by simpa using hd
  rw [e]
  exact h⟩
theorem inV_str {z : Str} : ∀ {l : List Str}, inV (.str z) (l.map V.str) = decide (z ∈ l)
  | [] => by simp [inV]
  | a :: l => by
    have ih := inV_str (z := z) (l := l)
    unfold inV at ih ⊢
    rw [List.map_cons, List.any_cons, ih]
    show ((a == z) || decide (z ∈ l)) = decide (z ∈ a :: l)
    by_cases h : a = z
    · subst h
      simp
    · have h' : ¬ z = a := fun q => h q.symm
      by_cases h2 : z ∈ l <;> simp [h, h', h2]
theorem flat_strs (l : List Str) : (l.map V.str).all flatV = true := by
  induction l with
  | nil => rfl
  | cons a l ih =>
    rw [List.map_cons, List.all_cons, ih]
    rfl
theorem sub_len {α : Type} [DecidableEq α] : ∀ {l m : List α}, l.Nodup → (∀ x ∈ l, x ∈ m) → l.length ≤ m.length
  | [], m, _, _ => Nat.zero_le _
  | a :: l, m, hn, h => by
    obtain ⟨h1, h2⟩ := List.nodup_cons.mp hn
    have ha : a ∈ m := h a List.mem_cons_self
    have ih := sub_len (l := l) (m := m.erase a) h2 fun x hx => (List.mem_erase_of_ne (fun z => h1 (by rw [← z]; exact hx))).mpr (h x (List.mem_cons_of_mem _ hx))
    rw [List.length_erase_of_mem ha] at ih
    have : 0 < m.length := List.length_pos_of_mem ha
    rw [List.length_cons]
    omega
theorem atI_natC {α : Type} {xs : List α} {j : Nat} (h : j < xs.length) : atI xs (j : Int) = some xs[j] := by
  unfold atI ixN
  rw [if_pos (by omega), if_pos (by omega), Option.bind_some, Int.toNat_natCast]
  exact List.getElem?_eq_getElem h
theorem let_strs : (LET.map fun c => (⟨#[c]⟩ : Str)).Nodup := by decide +kernel
theorem not_all {l : List Str} (hl : l.length ≤ 25) (h : ∀ c ∈ LET, (⟨#[c]⟩ : Str) ∈ l) : False := by
  have := sub_len let_strs (m := l) fun x hx => by
    obtain ⟨c, hc, rfl⟩ := List.mem_map.mp hx
    exact h c hc
  have e : (LET.map fun c => (⟨#[c]⟩ : Str)).length = 26 := by decide +kernel
  omega
def spNames : Sp := fun vs H Q _ => ∃ (p s : Addr) (many : Int), vs = [.ref p, .int many] ∧ PoolAt H p s ∧ 0 ≤ many ∧ many ≤ 25 ∧
  ∀ (q : Addr) (l : List Str) H', H q = none → H' q = some (.lst (l.map V.str)) → l.length = many.toNat → l.Nodup → (∀ z ∈ l, IsNm z) → Pl H H' p s → Q (.ref q) H'
section
variable {P : Program} {w : World} {K : PySem.W.Frag} {mg : Str → Option Value} {base : Heap}
abbrev CDraw (P : Program) (w : World) (K : PySem.W.Frag) (mg : Str → Option Value) (base : Heap) : Prop := Cal P w K mg base CX0 "_law_draw" 1 ["pool", "many"] spDraw
structure G1 (P : Program) (w : World) (K : PySem.W.Frag) (mg : Str → Option Value) (base : Heap) : Prop where
  law_draw : CDraw P w K mg base
/-- the words of the wordings -/
def WORDS : List Str := ["last", "at", "now", "next", "or", "to", "from", "number"]
theorem words_nm : ∀ z ∈ WORDS, IsNm z := fun z hz => by
  have q : ∀ z ∈ WORDS, (1 ≤ z.length ∧ z.length ≤ 8) ∧ (z.cps.toList.all fun c => decide (c ∈ LET)) = true := by decide +kernel
  obtain ⟨⟨h1, h2⟩, h3⟩ := q z hz
  exact ⟨h1, h2, fun c hc => of_decide_eq_true (List.all_eq_true.mp h3 c hc)⟩
theorem joinL_one : ∀ cs : List Nat, TL.joinL [] (cs.map fun c => [c]) = cs
  | [] => rfl
  | [c] => rfl
  | c :: d :: r => by
    show [c] ++ ([] ++ TL.joinL [] ((d :: r).map fun c => [c])) = _
    rw [joinL_one (d :: r)]
    rfl
theorem join_one (cs : List Nat) : (Txt.join "" (cs.map fun c => (⟨#[c]⟩ : Str))).cps.toList = cs := by
  have e := TL.tl_join "" (cs.map fun c => (⟨#[c]⟩ : Str))
  have e2 : (cs.map fun c => (⟨#[c]⟩ : Str)).map TL.tl = cs.map fun c => [c] := by
    rw [List.map_map]
    rfl
  rw [e2, show TL.tl ("" : Str) = [] from rfl, joinL_one] at e
  exact (congrArg TL.tl (TL.join_eq "" _)).trans e
theorem sum_ones (cs : List Nat) : (((cs.map fun c => (⟨#[c]⟩ : Str)).map (·.length)).sum) = cs.length := by
  induction cs with
  | nil => rfl
  | cons c r ih =>
    rw [List.map_cons, List.map_cons, List.sum_cons, ih, List.length_cons]
    show 1 + r.length = _
    omega
abbrev s_l_names : Stmt := topS 70
theorem sc_l_names : FnScope ["pool", "many", "letters", "words", "names", "k", "name", "letter", "at"] ["pool", "many"] (defScope s_l_names) := ⟨rfl, rfl, rfl, by decide +kernel, rfl, by decide +kernel, by decide +kernel⟩
theorem ok_names {f : Addr} {fd : FuncData} (F : Fun K "_law_names" "_law_names" s_l_names f fd) (B : Blt mg) (G : G1 P w K mg base) : FnOk P w K mg base CX0 2 f fd ["pool", "many"] spNames := by
  refine F.ok sc_l_names (fun vs H Q E h => ?_) (fun cdv A outer s H vs Q E hr h => ?_)
  · obtain ⟨p, _, many, rfl, _⟩ := h
    rfl
  · obtain ⟨p, s0, many, rfl, hP, hm, hm2, kk⟩ := h
    refine ⟨_, (pss_cons (ps_set (i := 2) sc_l_names.nd rfl (Or.inr rfl) pe_str)
    (pss_cons (ps_set (i := 3) sc_l_names.nd rfl (Or.inl rfl) (pe_lst (pa_cons pe_str (pa_cons pe_str (pa_cons pe_str (pa_cons pe_str (pa_cons pe_str (pa_cons pe_str (pa_cons pe_str (pa_cons pe_str pa_nil))))))))))
    (pss_cons (ps_set (i := 4) sc_l_names.nd rfl (Or.inl rfl) (pe_lst pa_nil))
    (pss_cons (ps_for PassesOwn.never rfl (pi_range1 (by rfl) B.range (pa_cons (pv 1) pa_nil)) (pg_name (i := 5) sc_l_names.nd rfl (Or.inl rfl))
      (pss_cons (ps_set (i := 6) sc_l_names.nd rfl (Or.inl rfl) (pe_ix ix_list (pv 3) (pe_cal G.law_draw (hr.mono (by decide)) pass0 (pa_cons (pv 0) (pa_cons pe_int pa_nil))) (fun _ _ => rfl)))
      (pss_cut (ps_if (pt_cmpR op_gt (pe_cal G.law_draw (hr.mono (by decide)) pass0 (pa_cons (pv 0) (pa_cons pe_int pa_nil))) pe_int (nomark _))
        (pss_one (ps_set (i := 6) sc_l_names.nd rfl (Or.inl rfl) (pe_bm PySem.F.plainAttrs_str PySem.F.slot_str_join PySem.F.type_str_join mt_join pe_str (pa_cons (pe_lc (own := [("at", 8)]) (g := gName 8) (tt := tYes) (by rfl) sc_l_names.nd (pi_range1 (by rfl) B.range (pa_cons (pe_op op_add pe_int (pe_cal G.law_draw (hr.mono (by decide)) pass0 (pa_cons (pv 0) (pa_cons pe_int pa_nil)))) pa_nil)) (blkOk_by (own := [("at", 8)]) (N := ["pool", "many", "letters", "words", "names", "k", "name", "letter", "at"]) (sc := defScope s_l_names) (by decide +kernel)) (fun _ _ _ _ _ => (pg_name (i := 8) sc_l_names.nd rfl (Or.inl rfl))) (fun _ _ _ _ _ => pts_nil) (fun _ _ _ _ _ => (pe_ix ix_str (pv 2) (pe_cal G.law_draw (hr.mono (by decide)) pass0 (pa_cons (pv 0) (pa_cons pe_int pa_nil))) (fun _ _ => rfl)))) pa_nil))))
        pss_nil)
      (pss_cut (ps_for PassesOwn.never rfl (pi_str (pv 2)) (pg_name (i := 7) sc_l_names.nd rfl (Or.inl rfl))
        (pss_one (ps_if (PW.pt (pw_and (pt_cmpR op_in_seq (pv 6) (pv 4) rfl) (pw_and1 (pt_cmpR op_notIn_seq (pv 7) (pv 4) rfl))))
          (pss_one (ps_set (i := 6) sc_l_names.nd rfl (Or.inl rfl) (pv 7)))
          pss_nil)))
      (pss_one (ps_expr (pe_bm PySem.F.plainAttrs_list PySem.F.slot_list_append PySem.F.type_list_append mt_append (pv 4) (pa_cons (pv 6) pa_nil))))))))
    (pss_one (ps_ret (pv 4))))))), ?_⟩
    refine ⟨(by show 8 ≤ sizeLine; decide), fun lw hlw => ⟨(by show 0 ≤ sizeLine; decide), fun q hq => ?_⟩⟩
    have PW : Pl H (upd H lw (.lst [.str "last", .str "at", .str "now", .str "next", .str "or", .str "to", .str "from", .str "number"])) p s0 := (Pl.refl hP).at hlw
    have hw0 : (upd H lw (.lst [.str "last", .str "at", .str "now", .str "next", .str "or", .str "to", .str "from", .str "number"])) lw = some (.lst (WORDS.map V.str)) := upd_same
    generalize (upd H lw (.lst [.str "last", .str "at", .str "now", .str "next", .str "or", .str "to", .str "from", .str "number"])) = HW at PW hw0 hq ⊢
    have hqH : H q = none := PW.free hq
    have lwp : lw ≠ p := fun z => hP.ne.1 (z ▸ hlw)
    have lwq : lw ≠ q := ne_of_none hw0 hq
    have hr1 : Room 1 _ := hr.mono (by decide)
    refine ⟨_, rfl, _, rfl, (by omega), (by omega), for_range (n := many.toNat) (fun i σ H1 => (∃ a b c d, σ = [some (.ref p), some (.int many), some (.str abc), some (.ref lw), some (.ref q), a, b, c, d]) ∧ ∃ l : List Str, H1 q = some (.lst (l.map V.str)) ∧ l.length = i ∧ l.Nodup ∧ (∀ z ∈ l, IsNm z) ∧ Pl H H1 p s0 ∧ H1 lw = some (.lst (WORDS.map V.str))) ?_ ?_ ?_⟩
    · exact ⟨⟨_, _, _, _, rfl⟩, [], upd_same, rfl, List.nodup_nil, (fun z hz => nomatch hz), PW.new hq, by rw [upd_ne lwq]; exact hw0⟩
    · rintro i σ H1 hi ⟨⟨a, b, c, d, rfl⟩, l, hl, hlen, hnd, hnm, PL, hw1⟩
      have hqp : q ≠ p := fun z => hP.ne.1 (z ▸ hqH)
      refine ⟨_, rfl, _, rfl, p, s0, 8, rfl, PL.now, (by decide), (by decide), fun x H2 x0 x8 P2 => ?_⟩
      obtain ⟨g, rfl⟩ : ∃ g : Nat, x = (g : Int) := ⟨x.toNat, by omega⟩
      have hg : g < WORDS.length := by show g < 8; omega
      have hw2 := P2.keep hw1 lwp
      refine ⟨_, _, _, .str WORDS[g], rfl, rfl, SqL.of hw2, atI_nat (by rw [List.getElem?_map, List.getElem?_eq_getElem hg]; rfl), ?_⟩
      -- name
      refine ⟨fun σ H3 => (∃ k nm d e, σ = [some (.ref p), some (.int many), some (.str abc), some (.ref lw), some (.ref q), k, some (.str nm), d, e] ∧ IsNm nm) ∧ Pl H1 H3 p s0, ?_, ?_⟩
      · refine ⟨_, rfl, p, s0, 3, rfl, P2.now, (by decide), (by decide), fun y H3 y0 y3 P3 => ⟨_, _, rfl, rfl, _, rfl, ?_⟩⟩
        have P13 := P2.trans P3
        refine ite2 (fun c2 => ?_) (fun c2 => ?_)
        · refine ⟨rfl, _, rfl, p, s0, 8, rfl, P3.now, (by decide), (by decide), fun n H4 n0 n8 P4 => ⟨_, _, rfl, rfl, _, rfl, (by omega), (by omega), fun D hD => ?_⟩⟩
          have P14 := P13.trans P4
          refine lc_range (n := (1 + n).toNat) (fun j H5 => (∃ cs : List Nat, H5 D = some (.lst ((cs.map fun c => (⟨#[c]⟩ : Str)).map V.str)) ∧ cs.length = j ∧ ∀ c ∈ cs, c ∈ LET) ∧ Pl H1 H5 p s0) ⟨⟨[], upd_same, rfl, fun c hc => nomatch hc⟩, P14.new hD⟩ ?_ ?_
          · rintro j H5 hj ⟨⟨cs, hD5, hcs, hcl⟩, P5⟩
            refine ⟨rfl, _, rfl, _, rfl, p, s0, 26, rfl, P5.now, (by decide), (by decide), fun x H6 x0' x26 P6 => ?_⟩
            obtain ⟨g2, rfl⟩ : ∃ g : Nat, x = (g : Int) := ⟨x.toNat, by omega⟩
            have hg2 : g2 < LET.length := by show g2 < 26; omega
            have Dp : D ≠ p := fun z => P14.now.ne.1 (z ▸ hD)
            refine ⟨_, _, LET[g2], rfl, rfl, (by show abc.cps.size ≤ sizeLine; rw [abc_size]; decide), (by rw [abc_let]; exact atI_natC hg2), _, P6.keep hD5 Dp, (by rw [List.length_map, List.length_map]; exact small1000 (by omega)), ⟨cs ++ [LET[g2]], ?_, by rw [List.length_append, hcs]; rfl, fun c hc => ?_⟩, (P5.trans P6).at (P14.free hD)⟩
            · rw [upd_same, List.map_append, List.map_append]
              rfl
            · rcases List.mem_append.mp hc with h | h
              · exact hcl c h
              · rw [List.mem_singleton.mp h]
                exact List.getElem_mem hg2
          · rintro H5 ⟨⟨cs, hD5, hcs, hcl⟩, P5⟩
            have e1 := join_one cs
            refine ⟨_, D, _, rfl, rfl, .inl (SqL.of hD5), ?_, ?_⟩
            · rw [sum_ones, List.length_map]
              show cs.length + cs.length * 0 ≤ _
              omega
            · refine ⟨⟨_, _, _, _, rfl, ?_⟩, P5⟩
              have hz : (Txt.join "" (cs.map fun c => (⟨#[c]⟩ : Str))).length = cs.length := by
                show (Txt.join "" (cs.map fun c => (⟨#[c]⟩ : Str))).cps.size = _
                rw [← Array.length_toList, e1]
              exact ⟨by rw [hz]; omega, by rw [hz]; omega, fun c hc => hcl c (by rw [← e1]; exact hc)⟩
        · exact ⟨⟨_, _, _, _, rfl, words_nm _ (List.getElem_mem hg)⟩, P13⟩
      rintro σ H3 ⟨⟨k, nm, d, e, rfl, hN⟩, P3⟩
      -- another name
      have hq3 : H3 q = some (.lst (l.map V.str)) := P3.keep hl hqp
      refine ⟨fun σ H4 => (∃ k nm d e, σ = [some (.ref p), some (.int many), some (.str abc), some (.ref lw), some (.ref q), k, some (.str nm), d, e] ∧ IsNm nm ∧ nm ∉ l) ∧ H4 = H3, ?_, ?_⟩
      · refine ⟨_, rfl, _, rfl, for_it (walk_str (z := abc)) (fun j σ H4 => (∃ nm d, σ = [some (.ref p), some (.int many), some (.str abc), some (.ref lw), some (.ref q), k, some (.str nm), d, e] ∧ IsNm nm ∧ (nm ∈ l → ∀ (i : Nat) (x : Nat), i < j → LET[i]? = some x → (⟨#[x]⟩ : Str) ∈ l)) ∧ H4 = H3) ?_ (fun _ _ _ _ _ => trivial) ?_ ?_⟩
        · exact ⟨⟨_, _, rfl, hN, fun _ i x hi => by omega⟩, rfl⟩
        · rintro j x σ H4 H5 hj ⟨⟨nm, d, rfl, hN, hall⟩, rfl⟩ ⟨rfl, c, hc, rfl⟩
          have hc' : LET[j]? = some c := by
            rw [← abc_let, Array.getElem?_toList]
            exact hc
          have hcm : c ∈ LET := List.mem_of_getElem? hc'
          refine ⟨_, rfl, _, rfl, _, _, rfl, .inl (SqL.of hq3), rfl, flat_strs l, _, rfl, ?_⟩
          rw [if_neg (by decide), inV_str]
          refine ite2 (fun c2 => ?_) (fun c2 => ?_)
          · have c2 : nm ∈ l := of_decide_eq_true c2
            refine ⟨_, rfl, _, rfl, _, _, rfl, .inl (SqL.of hq3), rfl, flat_strs l, _, rfl, ?_⟩
            rw [if_pos rfl, inV_str]
            refine ite2 (fun c3 => ?_) (fun c3 => ?_)
            · have c3 : ¬ (⟨#[c]⟩ : Str) ∈ l := by simpa using c3
              exact ⟨_, rfl, ⟨_, _, rfl, one_nm hcm, fun z => absurd z c3⟩, rfl⟩
            · have c3 : (⟨#[c]⟩ : Str) ∈ l := by simpa using c3
              refine ⟨⟨_, _, rfl, hN, fun _ i x hi hx => ?_⟩, rfl⟩
              by_cases hij : i < j
              · exact hall c2 i x hij hx
              · have : i = j := by omega
                subst this
                rw [hc'] at hx
                cases hx
                exact c3
          · have c2 : ¬ nm ∈ l := by simpa using c2
            exact ⟨⟨_, _, rfl, hN, fun z => absurd z c2⟩, rfl⟩
        · rintro σ H4 ⟨⟨nm, d, rfl, hN, hall⟩, rfl⟩
          refine ⟨⟨_, _, _, _, rfl, hN, fun hm => ?_⟩, rfl⟩
          have hl25 : l.length ≤ 25 := by omega
          refine not_all hl25 fun c hc => ?_
          obtain ⟨i, hi, e⟩ := List.getElem_of_mem hc
          exact hall hm i c (by show i < abc.cps.size; rw [abc_size]; exact hi) (by rw [List.getElem?_eq_getElem hi, e])
      rintro σ H4 ⟨⟨k, nm, d, e, rfl, hN, hno⟩, rfl⟩
      refine ⟨_, rfl, .inl ⟨rfl, _, SqL.of hq3⟩, _, rfl, q, _, _, rfl, rfl, hq3, (by rw [List.length_map]; exact small1000 (by omega)), ⟨_, _, _, _, rfl⟩, l ++ [nm], ?_, by rw [List.length_append, hlen]; rfl, ?_, fun z hz => ?_, (PL.trans P3).at hqH, ?_⟩
      · rw [upd_same, List.map_append]
        rfl
      · rw [List.nodup_append]
        exact ⟨hnd, by simp, fun a ha b hb z => hno (by rw [← List.mem_singleton.mp hb, ← z]; exact ha)⟩
      · rcases List.mem_append.mp hz with h | h
        · exact hnm z h
        · rw [List.mem_singleton.mp h]
          exact hN
      · rw [upd_ne lwq]
        exact P3.keep hw1 lwp
    · rintro σ H1 ⟨⟨a, b, c, d, rfl⟩, l, hl, hlen, hnd, hnm, PL, hw1⟩
      exact ⟨_, rfl, kk q l H1 hqH hl hlen hnd hnm PL⟩
end
end Ash

set_option Elab.async false
set_option linter.all false
set_option maxRecDepth 100000
set_option maxHeartbeats 4000000
namespace L2
open PySem PySem.Spec PyProof.Rows
/-! ### sets of keys (ints, texts) that can be walked; sorted(set(xs)) -/
/-- the key that a value is -/
def vK : Value → Key
  | .int k _ => .inl k
  | .str x _ => .inr x
  | _ => .inl 0
theorem vK_of {k : Key} {v : Value} (r : RelV (kV k) v) : vK v = k := by
  cases k with
  | inl i =>
    obtain ⟨t, rfl⟩ := r
    rfl
  | inr x =>
    obtain ⟨t, rfl⟩ := r
    rfl
def GoodM (w : World) (e : Int × Value) : Prop := ∃ k, RelV (kV k) e.2 ∧ e.1 = keyH w k
def eK (e : Int × Value) : Key := vK e.2
/-- among the keys -/
def kIn (ks : List Key) (j : Key) : Bool := ks.any fun x => decide (x = j)
theorem kIn_iff {ks : List Key} {j : Key} : kIn ks j = true ↔ j ∈ ks := by
  unfold kIn
  rw [List.any_eq_true]
  constructor
  · rintro ⟨x, hx, e⟩
    rw [← of_decide_eq_true e]
    exact hx
  · intro h
    exact ⟨j, h, decide_eq_true rfl⟩
theorem kIn_next {ks : List Key} {i : Nat} {z : Key} (hz : ks[i]? = some z) (j : Key) : kIn (ks.take (i + 1)) j = (kIn (ks.take i) j || decide (j = z)) := by
  rw [List.take_add_one, hz]
  unfold kIn
  rw [List.any_append]
  congr 1
  by_cases c : j = z
  · subst c
    simp
  · have c' : ¬ z = j := fun q => c q.symm
    simp [c, c']
/-- the set at a: S its members, n their number; it can be walked -/
def SetM (w : World) (h : Heap) (a : Addr) (S : Key → Bool) (n : Nat) : Prop :=
  ∃ o es ep t, h.get? a = some o ∧ o.ExactSet ∧ o.data = .set es ep t ∧ (∀ e ∈ es.toList, GoodM w e) ∧ (es.toList.map eK).Nodup ∧ (∀ k, S k = true ↔ k ∈ es.toList.map eK) ∧
    es.size < scanBound ∧ t.fits es.size = true ∧ es.size = n ∧ Ris t.place.toList ∧ (w.params.followText "set-order" = true ∨ t.led = true)
section
variable {P : Program} {w : World} {h h' : Heap} {a : Addr} {S : Key → Bool} {n : Nat}
theorem SetM.at (R : SetM w h a S n) (k : ∀ o, h.get? a = some o → h'.get? a = some o) : SetM w h' a S n := by
  obtain ⟨o, es, ep, t, ho, r⟩ := R
  exact ⟨o, es, ep, t, k o ho, r⟩
theorem SetM.congr {S' : Key → Bool} (R : SetM w h a S n) (e : ∀ k, S' k = S k) : SetM w h a S' n := by
  rw [show S' = S from funext e]
  exact R
theorem goodM_elems {l : List (Int × Value)} (g : ∀ e ∈ l, GoodM w e) : ElemsOf (mixKind P w) l := fun e he => by
  obtain ⟨k, h1, h2⟩ := g e he
  exact ⟨⟨k, kV_is h1, h2⟩, key_scan h1⟩
theorem goodM_is {e : Int × Value} (g : GoodM w e) (k : Key) : (mixKind P w).is k e.2 = true ↔ eK e = k := by
  obtain ⟨k0, h1, _⟩ := g
  unfold eK
  rw [vK_of h1]
  constructor
  · intro q
    exact (mixKind P w).inj _ _ _ (kV_is h1) q
  · intro q
    rw [← q]
    exact kV_is h1
theorem goodM_mem {l : List (Int × Value)} (g : ∀ e ∈ l, GoodM w e) (k : Key) : k ∈ l.map eK ↔ ∃ e ∈ l, (mixKind P w).is k e.2 = true := by
  rw [List.mem_map]
  constructor
  · rintro ⟨e, he, q⟩
    exact ⟨e, he, (goodM_is (g e he) k).2 q⟩
  · rintro ⟨e, he, q⟩
    exact ⟨e, he, (goodM_is (g e he) k).1 q⟩
end
section
variable {P : Program} {w : World} {A : Around} {E : Value → Shared → Prop} {s : Shared} {a : Addr} {S : Key → Bool} {n : Nat}
theorem setM_tail {g : Bool → Sem Unit} (hg : ∀ (b : Bool) (s₁ : Shared) (Q' : Unit → Shared → Prop), Q' () s₁ → wpAny (model P w) A (g b) Q' E s₁)
    {o : Obj} {es : Array (Int × Value)} {ep : Nat} {t : SetTable} (ho : s.heap.get? a = some o) (hex : o.ExactSet) (hd : o.data = .set es ep t)
    {fs : Array (Int × Value)} {u : SetTable} {S' : Key → Bool} (gf : ∀ e ∈ fs.toList, GoodM w e) (nf : (fs.toList.map eK).Nodup) (mf : ∀ k, S' k = true ↔ k ∈ fs.toList.map eK)
    (bf : fs.size < scanBound) (ff : u.fits fs.size = true) (rf : Ris u.place.toList) (lf : w.params.followText "set-order" = true ∨ u.led = true) {wasDummy : Bool} {R : Option Bool → Shared → Prop}
    (hR : ∀ h', Heap.SameBut a s.heap h' → SetM w h' a S' fs.size → R (some true) { s with heap := h' }) :
    wpAny (model P w) A (do
        storeSet a fs u
        if (!wasDummy && u.tooFull) = true then do
            g (relayAll u fs (SetTable.grown fs.size)).2.2
            storeSet a (relayAll u fs (SetTable.grown fs.size)).1 (relayAll u fs (SetTable.grown fs.size)).2.1
            pure (some true)
          else pure (some true)) R E s := by
  refine wpAny_bind (wpAny_storeSet_of ho hd ?_ (fits_of_scanBound bf))
  have h1 := store_at (es' := fs) (t' := u) ho hd
  have b1 := Heap.SameBut.update s.heap a (Obj.putSet fs u)
  split
  · have pm := relayAll_perm u fs (SetTable.grown fs.size)
    have f2 := relayAll_fits u fs (SetTable.grown fs.size)
    have r2 := relayAll_ris u fs (SetTable.grown fs.size)
    have l2 := relayAll_led u fs (SetTable.grown fs.size)
    generalize relayAll u fs (SetTable.grown fs.size) = Z at pm f2 r2 l2 ⊢
    obtain ⟨gs, u2, gave⟩ := Z
    dsimp only at pm f2 r2 l2 ⊢
    have sz : gs.size = fs.size := by rw [← Array.length_toList, pm.length_eq, Array.length_toList]
    have bg : gs.size < scanBound := by rw [sz]; exact bf
    refine wpAny_bind (hg _ _ _ ?_)
    refine wpAny_bind (wpAny_storeSet_of h1 rfl ?_ (fits_of_scanBound bg))
    have h2 := store_at (es' := gs) (t' := u2) h1 rfl
    refine wpAny_pure (hR _ (b1.trans (Heap.SameBut.update _ a _)) ?_)
    exact ⟨_, gs, _, u2, h2, hex, rfl, fun e he => gf e (pm.mem_iff.mp he), (pm.map eK).nodup_iff.mpr nf, fun k => (mf k).trans (pm.map eK).mem_iff.symm, bg, f2, sz, r2, lf.imp id fun z => by rw [l2]; exact z⟩
  · exact wpAny_pure (hR _ b1 ⟨_, fs, _, u, h1, hex, rfl, gf, nf, mf, bf, ff, rfl, rf, lf⟩)
theorem setM_add {k : Key} {v : Value} {Q : Bool → Shared → Prop} (rv : RelV (kV k) v) (R : SetM w s.heap a S n) (room : n + 1 < scanBound)
    (hQ : ∀ h', Heap.SameBut a s.heap h' → SetM w h' a (fun j => S j || decide (j = k)) (if S k = true then n else n + 1) → Q (!S k) { s with heap := h' }) :
    wpAny (model P w) A (setAddHashed a v ((mixKind P w).hash k)) Q E s := by
  obtain ⟨o, es, ep, t, ho, hex, hd, g, nd, hm, hb, hf, hn, hr, hl⟩ := R
  have hkey : (mixKind P w).is k v = true := kV_is rv
  have hsc : v.scannable = true := key_scan rv
  have hel : ElemsOf (mixKind P w) es.toList := goodM_elems g
  unfold setAddHashed setAddHashedIn
  refine wpAny_holding (wpAny_bind (wpAny_setState_of ho hd hf ?_))
  dsimp only
  rw [byScan_of hsc hb hel]
  simp only [↓reduceIte]
  unfold setAddByScan
  refine wpAny_bind ?_
  refine wpAny_bind (wpAny_rule ?_)
  refine wpAny_bind (wpAny_setScan_of hkey ho hd hf hel ?_)
  cases hfi : List.findIdx? (fun e => (mixKind P w).is k e.2) es.toList with
  | some j =>
    dsimp only
    obtain ⟨hj, pj, _⟩ := List.findIdx?_eq_some_iff_getElem.mp hfi
    have hSk : S k = true := (hm k).2 ((goodM_mem (P := P) g k).2 ⟨es.toList[j], List.getElem_mem hj, pj⟩)
    refine wpAny_pure (wpAny_pure ?_)
    have q := hQ s.heap (Heap.SameBut.refl a s.heap) ⟨o, es, ep, t, ho, hex, hd, g, nd, fun i => by
      rw [Bool.or_eq_true, decide_eq_true_eq, ← hm i]
      exact ⟨fun z => z.elim id (fun e => e ▸ hSk), .inl⟩, hb, hf, by rw [if_pos hSk]; exact hn, hr, hl⟩
    rw [hSk] at q
    exact q
  | none =>
    dsimp only
    have hnk : k ∉ es.toList.map eK := fun z => by
      obtain ⟨e, he, q⟩ := (goodM_mem (P := P) (w := w) g k).1 z
      have c := List.findIdx?_eq_none_iff.mp hfi e he
      rw [q] at c
      cases c
    have hSk : S k = false := Bool.eq_false_iff.mpr fun q => hnk ((hm k).1 q)
    have hgw : ∀ (b : Bool) {s₁ : Shared} {Q' : Unit → Shared → Prop}, Q' () s₁ → wpAny (model P w) A (match b with | true => rule "set.scan.the-table-gave-way" | false => pure ()) Q' E s₁ :=
      fun b s₁ Q' q => by cases b <;> first | exact wpAny_pure q | exact wpAny_rule q
    have pm := layNew_perm t es ((mixKind P w).hash k) v
    have f1 := layNew_fits t es ((mixKind P w).hash k) v
    have r1 := layNew_ris t es ((mixKind P w).hash k) v hr
    have l1 := layNew_led t es ((mixKind P w).hash k) v
    generalize layNew t es ((mixKind P w).hash k) v = Z at pm f1 r1 l1 ⊢
    obtain ⟨fs, t1, wasDummy, gave⟩ := Z
    dsimp only at pm f1 r1 l1 ⊢
    rw [Array.toList_push] at pm
    have pc : fs.toList.Perm (((mixKind P w).hash k, v) :: es.toList) := pm.trans (List.perm_append_singleton _ _)
    have pk : (fs.toList.map eK).Perm (k :: es.toList.map eK) := by
      have z := pc.map eK
      rw [List.map_cons, show eK ((mixKind P w).hash k, v) = k from vK_of rv] at z
      exact z
    have gf : ∀ e ∈ fs.toList, GoodM w e := fun e he => by
      rcases List.mem_cons.mp (pc.mem_iff.mp he) with z | z
      · rw [z]
        exact ⟨k, rv, rfl⟩
      · exact g e z
    have nf : (fs.toList.map eK).Nodup := pk.nodup_iff.mpr (List.nodup_cons.mpr ⟨hnk, nd⟩)
    have mf : ∀ i, (S i || decide (i = k)) = true ↔ i ∈ fs.toList.map eK := fun i => by
      rw [Bool.or_eq_true, decide_eq_true_eq, hm i, pk.mem_iff, List.mem_cons]
      exact Or.comm
    have sz : fs.size = n + 1 := by rw [← Array.length_toList, pc.length_eq, List.length_cons, Array.length_toList, hn]
    have bf : fs.size < scanBound := by rw [sz]; exact room
    have lf : w.params.followText "set-order" = true ∨ t1.led = true := hl.imp id fun z => by rw [l1]; exact z
    have fin : ∀ h', Heap.SameBut a s.heap h' → SetM w h' a (fun j => S j || decide (j = k)) fs.size → Q true { s with heap := h' } := fun h' sb r => by
      have q := hQ h' sb
      rw [hSk] at q
      rw [sz] at r
      exact q r
    refine wpAny_bind (hgw _ ?_)
    split
    · refine wpAny_bind ?_
      rw [hashByValue_scannable 8 hsc]
      refine wpAny_pure ?_
      refine setM_tail ?_ ho hex hd gf nf mf bf ?_ ?_ ?_ ?_
      · intro b s₁ Q' q; cases b <;> first | exact wpAny_pure q | exact wpAny_rule q
      · first | (split <;> first | exact f1 | exact SetTable.fits_plain_off f1) | exact f1
      · first | (split <;> exact r1) | exact r1
      · first | (split <;> exact lf) | exact lf
      · intro h' sb r; dsimp only; exact wpAny_pure (fin h' sb r)
    · refine wpAny_bind (wpAny_pure ?_)
      simp only [↓reduceIte]
      refine setM_tail ?_ ho hex hd gf nf mf bf f1 r1 lf ?_
      · intro b s₁ Q' q; cases b <;> first | exact wpAny_pure q | exact wpAny_rule q
      · intro h' sb r; dsimp only; exact wpAny_pure (fin h' sb r)
theorem setM_new {h : Heap} {a : Addr} (ho : h.get? a = some { cls := .type "set", dict := none, data := .set #[] 0 (.fresh 0 0 (!w.params.followText "set-order")) }) : SetM w h a (fun _ => false) 0 :=
  ⟨_, #[], 0, _, ho, ⟨rfl, rfl, rfl⟩, rfl, (fun e he => by simp at he), (by simp), (fun k => by simp), (by decide), (by rfl), rfl, List.Pairwise.nil, by
    show _ ∨ (!w.params.followText "set-order") = true
    cases w.params.followText "set-order"
    · exact .inr rfl
    · exact .inl rfl⟩
theorem setM_update {I : Addr} {fp wr : List Addr} {G : Array GenState → Array GenState → Prop} {n : Nat} {Pv : Nat → Value → Prop} {St : Nat → Shared → Prop} {R : Result → Shared → Prop}
    (W : WalksS P w A.in1 I fp wr G n Pv St) (S : Addr) (hSf : S ∉ fp) (ks : List Key) (hn : n = ks.length) (hb : ks.length + 1 < scanBound) (hval : ∀ i v, Pv i v → ∃ k, ks[i]? = some k ∧ RelV (kV k) v) :
    ∀ (m i : Nat) (s : Shared), n - i = m → i ≤ n → St i s → (∃ c, c ≤ i ∧ SetM w s.heap S (kIn (ks.take i)) c) →
      (∀ s' c, Moved (S :: wr) G s s' → c ≤ n → SetM w s'.heap S (kIn ks) c → R (.ok (.ret .none)) s') →
      codeAny (model P w) A (.builtin "set.update.loop" ⟨[.ref S, .ref I], []⟩) R s := by
  have hSw : S ∉ wr := fun h => hSf (W.sub _ h)
  have sub : ∀ b ∈ wr, b ∈ S :: wr := fun b hb => List.mem_cons_of_mem _ hb
  intro m
  induction m with
  | zero =>
    intro i s hm hi hst ⟨c, hc, hS⟩ hR
    obtain rfl : i = n := by omega
    refine codeAny_builtin F.entry_set_update_loop ?_
    rw [Around.under_plainId F.plain_set_update_loop _]
    show wpAny _ A.in1 (pyNext (.ref I) >>= _) _ _ s
    refine wpAny_bind (W.done s _ _ hst fun s' mv => ?_)
    show wpAny _ A.in1 (ret Value.none) _ _ s'
    rw [List.take_of_length_le (show ks.length ≤ i by omega)] at hS
    exact wpAny_pure (hR s' c (mv.mono sub) hc (hS.at fun o e => mv.heap S o hSw e))
  | succ m ih =>
    intro i s hm hi hst ⟨c, hc, hS⟩ hR
    have hlt : i < n := by omega
    refine codeAny_builtin F.entry_set_update_loop ?_
    rw [Around.under_plainId F.plain_set_update_loop _]
    show wpAny _ A.in1 (pyNext (.ref I) >>= _) _ _ s
    refine wpAny_bind (W.item i s _ _ hlt hst fun v s' hP hst' mv => ?_)
    obtain ⟨z, hz, rz⟩ := hval i v hP
    have hS1 : SetM w s'.heap S (kIn (ks.take i)) c := hS.at fun o e => mv.heap S o hSw e
    show wpAny _ A.in1 (holding [v] (setAdd S v) >>= _) _ _ s'
    refine wpAny_bind (wpAny_holding ?_)
    unfold setAdd
    refine wpAny_holding ?_
    refine wpAny_bind ((mixKind P w).pyHash (k := z) (kV_is rz) ?_)
    refine setM_add (s := { s' with toks := s'.toks + 1 }) rz hS1 (by omega) fun h' sb hS2 => ?_
    have hS3 : SetM w h' S (kIn (ks.take (i + 1))) (if kIn (ks.take i) z = true then c else c + 1) := hS2.congr fun j => kIn_next hz j
    have hc3 : (if kIn (ks.take i) z = true then c else c + 1) ≤ i + 1 := by
      split <;> omega
    refine wpAny_pure ⟨plainId_quiet F.plain_set_update_loop _, ih (i + 1) _ (by omega) hlt (W.frame _ s' _ _ hst' (Nat.le_succ _) fun b hb o e => ?_) ⟨_, hc3, hS3⟩ fun s2 c2 mv2 hc2 hS4 => ?_⟩
    · rw [sb.2 b (fun h : b = S => hSf (by rw [← h]; exact hb))]
      exact e
    · refine hR s2 c2 (Moved.trans W.gtrans ((mv.mono sub).then_heap (Nat.le_succ _) fun b o hb e => ?_) mv2) hc2 hS4
      rw [sb.2 b (fun h : b = S => hb (by rw [h]; exact List.mem_cons_self))]
      exact e
end
end L2

set_option Elab.async false
set_option linter.all false
set_option maxRecDepth 100000
set_option maxHeartbeats 4000000
namespace L2
open PySem PySem.Spec PyProof.Rows
section
variable {P : Program} {w : World} {A : Around} {E : Value → Shared → Prop} {s : Shared}
/-- the empty set's object -/
abbrev noSet (w : World) : Obj := { cls := .type "set", dict := none, data := .set #[] 0 (.fresh 0 0 (!w.params.followText "set-order")) }
/-- set(xs) of a list of keys -/
theorem call_setL {l : Addr} {items : Array Value} (ks : List Key) {Q : Value → Shared → Prop} (hh : A.handled = none) (hl : s.heap.IsList l items) (hit : Vals (ks.map kV) items.toList) (hb : ks.length + 1 < scanBound)
    (h : ∀ (h' : Heap) (tk c : Nat), SetM w h' s.heap.objs.size (kIn ks) c → c ≤ ks.length → (∀ b o, s.heap.get? b = some o → h'.get? b = some o) → Q (.ref s.heap.objs.size) { s with heap := h', toks := tk }) :
    wpAny (model P w) A (call (.type "set") [.ref l]) Q E s := by
  have hisz : items.size = ks.length := by
    have q := hit.length
    have q2 : items.toList.length = items.size := Array.length_toList
    rw [List.length_map] at q
    omega
  obtain ⟨c, tl, hmro⟩ := F.called_set.mro
  have hmade := F.called_set.made
  have hsub := F.called_set.sub
  refine wpAny_call (codeAny_of_tree ?_)
  show wpAny _ _ (callAny (.type "set") _) _ _ _
  refine wpAny_pure ⟨Code.quiet_builtin _ (by decide +kernel), codeAny_builtin F.entry_type_call ?_⟩
  rw [Around.under_plain (weight_type_call_type "set" [.ref l] []) rfl]
  have h1 := F.called_set.notType
  have h2 := F.called_set.canCreate
  have hct := F.typeCall_set_1 (.ref l)
  repeat (any_goals (first | assumption | wp_step))
  refine codeAny_mono (code_set_led1 (.ref l) (E := E) (Q₁ := fun obj s₁ => obj = .ref s.heap.objs.size ∧ s₁ = { s with heap := s.heap.push (noSet w) }) ⟨rfl, rfl⟩) fun r s₁ hr => ?_
  cases r with
  | error e => exact hr
  | ok fl =>
    cases fl with
    | ret obj =>
      obtain ⟨rfl, rfl⟩ := hr
      have hS : (s.heap.push (noSet w)).get? s.heap.objs.size = some (noSet w) := Heap.get?_push_size _ rfl
      have hT : Shared.TypeIs { s with heap := s.heap.push (noSet w) } (.ref s.heap.objs.size) "set" := ⟨_, hS, rfl⟩
      have hli := F.called_set.init.lookup
      have hbi := F.called_set.init.bind (.ref s.heap.objs.size)
      repeat (any_goals (first | assumption | wp_step))
      refine codeAny_mono (codeAny_call_builtin (R := wants (fun r s₂ => r = .none ∧ ∃ h' tk c, s₂ = { s with heap := h', toks := tk } ∧ SetM w h' s.heap.objs.size (kIn ks) c ∧ c ≤ ks.length ∧
          (∀ b o, s.heap.get? b = some o → h'.get? b = some o)) E) F.called_set.init.plain F.entry_set_init (check_set_init_1 hT ?_)) fun r₂ s₂ hr₂ => ?_
      · obtain ⟨ol, hol, hcl, nl, hdl⟩ := hl
        obtain ⟨ocls, odict, odata, oslots⟩ := ol
        simp only at hcl hdl
        subst hcl; subst hdl
        have hol' : (s.heap.push (noSet w)).get? l = some { cls := .type "list", dict := odict, data := .seq items nl, slots := oslots } := Heap.get?_push_of_some _ hol
        have hsls := F.sub_list_set
        have hslf := F.sub_list_frozenset
        have hne : (Value.type "list" == Value.type "dict") = false := by decide
        have hl1 : (s.heap.push (noSet w)).IsList l items := ⟨_, hol', rfl, nl, rfl⟩
        unfold Builtin.«set.__init__» noKeywords Builtin.Frozenset.updateFrom
        generalize hPI : pyIter = PI
        wp_walk
        subst hPI
        refine wpAny_pyIter_list hl1 ?_
        refine wpAny_bind (wpAny_runValue ?_)
        have hlS : l < s.heap.objs.size := Heap.lt_size hol
        have hh3 : A.in1.in1.in1.handled = none := by simp [hh]
        have hneI : l ≠ (s.heap.push (noSet w)).objs.size := by
          rw [Heap.size_push]
          exact Nat.ne_of_lt (Nat.lt_succ_of_lt hlS)
        have hSf : s.heap.objs.size ∉ [(s.heap.push (noSet w)).objs.size, l] := by
          rw [Heap.size_push]
          simp only [List.mem_cons, List.mem_singleton, List.not_mem_nil, or_false, not_or]
          exact ⟨Nat.ne_of_lt (Nat.lt_succ_self _), Nat.ne_of_gt hlS⟩
        have hval : ∀ (i : Nat) (v : Value), items[i]? = some v → ∃ k, ks[i]? = some k ∧ RelV (kV k) v := fun i v hv => by
          have hi : i < ks.length := by rw [← hisz]; exact (Array.getElem?_eq_some_iff.mp hv).1
          have e : (ks.map kV)[i]? = some (kV ks[i]) := by rw [List.getElem?_map, List.getElem?_eq_getElem hi]; rfl
          obtain ⟨u, hu, ru⟩ := hit.get e
          rw [Array.getElem?_toList, hv] at hu
          cases hu
          exact ⟨_, List.getElem?_eq_getElem hi, ru⟩
        refine setM_update ((Walks.list hh3 _ l hneI items).toS) s.heap.objs.size hSf ks hisz hb hval (items.size - 0) 0 _ (by omega) (Nat.zero_le _) ⟨⟨_, Heap.get?_push_size _ rfl, rfl, rfl⟩, (hl1.push _)⟩ ?hS0 ?hR
        case hS0 =>
          have hget : ((s.heap.push (noSet w)).push { cls := .type "list_iterator", data := .fields #[.ref l, .int 0 0] }).get? s.heap.objs.size = some (noSet w) := Heap.get?_push_of_some _ hS
          exact ⟨0, Nat.le_refl 0, (setM_new hget).congr fun k => rfl⟩
        case hR =>
          intro s' c' hm hc' hS'
          obtain ⟨h', g2, d', tk', os'⟩ := s'
          have eg : g2 = s.gens := hm.gens
          have ed : d' = s.drawn := hm.drawn
          have eo : os' = s.os := hm.os
          subst eg; subst ed; subst eo
          show wpAny _ _ _ _ _ _
          refine wpAny_pure ?_
          show wpAny _ _ (ret Value.none) _ _ _
          rw [hisz] at hc'
          refine wpAny_pure ⟨rfl, h', tk', c', rfl, hS', hc', fun b o e => ?_⟩
          have hb0 : b < s.heap.objs.size := Heap.lt_size e
          have hb1 : b ≠ s.heap.objs.size := Nat.ne_of_lt hb0
          have hb2 : b ≠ (s.heap.push (noSet w)).objs.size := by
            rw [Heap.size_push]
            exact Nat.ne_of_lt (Nat.lt_succ_of_lt hb0)
          exact hm.heap b o (by simp only [List.mem_cons, List.mem_singleton, List.not_mem_nil, or_false, not_or]; exact ⟨hb1, hb2⟩) (Heap.get?_push_of_some _ (Heap.get?_push_of_some _ e))
      · cases r₂ with
        | error e => exact hr₂
        | ok fl₂ =>
          cases fl₂ with
          | ret r =>
            obtain ⟨rfl, h', tk, c', rfl, hS', hc', hk'⟩ := hr₂
            repeat (any_goals (first | assumption | wp_step))
            exact h _ _ _ hS' hc' hk'
          | _ => exact hr₂.elim
    | _ => exact hr.elim
/-- sorted(set), any kind of keys -/
theorem sorted_setG {κ : PyProof.Rows.KeyKind} (hO : κ.OneLt) {a : Addr} {S : Key → Bool} {n : Nat} {Q : Value → Shared → Prop} (R : SetM w s.heap a S n) (hh : A.handled = none)
    (hK : ∀ vs : List Value, (∀ v ∈ vs, ∃ k, S k = true ∧ RelV (kV k) v) → KeysOf κ (pairsOf vs) ∧ ∀ v₁ v₂ rest, vs = v₁ :: v₂ :: rest → keyKind' (v₁ :: v₂ :: rest).toArray = pure oneType')
    (hQ : ∀ s' p (vs : List Value) (st' : SortSt) (c : Nat), (∀ b o, s.heap.get? b = some o → s'.heap.get? b = some o) → s'.gens = s.gens → s'.os = s.os → s.heap.objs.size ≤ p → s'.heap.get? p = some (seqObj "list" ((arrOf st').map (·.2)) c) →
      (∀ v ∈ vs, ∃ k, S k = true ∧ RelV (kV k) v) → (vs.map vK).Nodup → (∀ k, S k = true ↔ k ∈ vs.map vK) → vs.length = n → (arrOf st').Perm (pairsOf vs) → SortedToK κ (arrOf st') (pairsOf vs).size → Q (.ref p) s') :
    wpAny (model P w) A (call (.builtin "sorted") [.ref a]) Q E s := by
  obtain ⟨o, es, ep, t, ho, hex, hd, g, nd, hm, hb, hf, hn, hr, hl⟩ := R
  refine Calls.call_function_entry kind_sorted plain_sorted entry_sorted (args_sorted1 _) ?_
  unfold Builtin.«sorted»
  refine wpAny_bind (m := checkCount "sorted" 1 1 _) (wpAny_pure ?_)
  refine wpAny_bind (collect_set (A := A.in1) hh ⟨o, ho, hex.1, hd⟩ hf hb hr hl fun s1 vs k1 hz g1 o1 pm => ?_)
  have hvl : vs.length = n := by rw [pm.length_eq, List.length_map, Array.length_toList]; exact hn
  have ev : (es.toList.map (·.2)).map vK = es.toList.map eK := by rw [List.map_map]; rfl
  have pk : (vs.map vK).Perm (es.toList.map eK) := by rw [← ev]; exact pm.map vK
  have hv : ∀ v ∈ vs, ∃ k, S k = true ∧ RelV (kV k) v := fun v hv => by
    obtain ⟨e, he, rfl⟩ := List.mem_map.mp (pm.mem_iff.mp hv)
    obtain ⟨k, h1, _⟩ := g e he
    exact ⟨k, (hm k).2 (List.mem_map.mpr ⟨e, he, vK_of h1⟩), h1⟩
  have hn2 : vs.length ≤ sizeLine := by rw [hvl, ← hn]; exact fits_of_scanBound hb
  refine wpAny_bind (wpAny_newList ?_ hn2)
  have hoL : (s1.heap.push (seqObj "list" vs.toArray 0)).get? s1.heap.objs.size = some (seqObj "list" vs.toArray 0) := Heap.get?_push_size _ rfl
  obtain ⟨q1, q2⟩ := hK vs hv
  refine wpAny_bind (wpAny_holding (wpAny_call_entry slot_list_sort ⟨_, hoL, rfl⟩ entry_list_sort (list_sort_treeKAny hO hoL q1 q2 hn2 fun st' a1 a2 => ⟨_, rfl, ?_⟩) (args_list_sort _)))
  obtain ⟨c, hc⟩ := sortedHeap_at (vs := vs) (out := (arrOf st').map (·.2)) hoL
  refine wpAny_pure ⟨_, rfl, hQ _ s1.heap.objs.size vs st' c (fun b u e => ?_) g1 o1 hz hc hv (pk.nodup_iff.mpr nd) (fun k => by rw [pk.mem_iff, ← hm k]) hvl a1 a2⟩
  have q := k1 b u e
  have hlt := Heap.lt_size q
  show (sortedHeap (s1.heap.push (seqObj "list" vs.toArray 0)) s1.heap.objs.size vs ((arrOf st').map (·.2))).get? b = some u
  rw [sortedHeap_old (Nat.ne_of_lt hlt) (by rw [size_push']; exact Nat.lt_succ_of_lt hlt)]
  exact Heap.get?_push_of_some _ q
end
/-- texts, strictly ascending -/
theorem strs_of_keys : ∀ {vs : List Value}, (∀ v ∈ vs, ∃ x : Str, RelV (.str x) v) → ∃ ss : List Str, StrsAre vs ss ∧ vs.map vK = ss.map Sum.inr
  | [], _ => ⟨[], .nil, rfl⟩
  | v :: vs, h => by
    obtain ⟨ss, h1, h2⟩ := strs_of_keys (vs := vs) fun u hu => h u (List.mem_cons_of_mem _ hu)
    obtain ⟨x, t, rfl⟩ := h v List.mem_cons_self
    exact ⟨x :: ss, .cons x t h1, by rw [List.map_cons, h2]; rfl⟩
theorem ints_of_keys : ∀ {vs : List Value}, (∀ v ∈ vs, ∃ x : Int, RelV (.int x) v) → ∃ ss : List Int, IntsAre vs ss ∧ vs.map vK = ss.map Sum.inl
  | [], _ => ⟨[], .nil, rfl⟩
  | v :: vs, h => by
    obtain ⟨ss, h1, h2⟩ := ints_of_keys (vs := vs) fun u hu => h u (List.mem_cons_of_mem _ hu)
    obtain ⟨x, t, rfl⟩ := h v List.mem_cons_self
    exact ⟨x :: ss, .cons x t h1, by rw [List.map_cons, h2]; rfl⟩
/-- the set of keys at a, that can be walked -/
def SetMO (w : World) (a : Addr) (S : Key → Bool) (n : Nat) : HO := .ext fun h => SetM w h a S n
section
variable {X : Cx}
theorem setMO_new {w : World} {P : Program} {H : Hp} {h : Heap} {a : Addr} {S : Key → Bool} {n : Nat} (R : SetM w h a S n) : ObjOk P w H h a (SetMO w a S n) := by
  have ⟨o, _, _, _, ho, _⟩ := R
  exact ⟨R, ⟨o, ho⟩, fun h1 h2 p k => SetM.at p k⟩
/-- set(xs), xs a list of ints or texts -/
def rSetLs (K : PySem.W.Frag) (w : World) : List V → Hp → VK → Prop := fun xs H Q => ∃ (l : Addr) (ks : List Key), xs = [V.ref l] ∧ SqL K H l (ks.map kV) ∧ ks.length ≤ 1000 ∧ ∀ p n, H p = none → n ≤ ks.length → Q (.ref p) (upd H p (SetMO w p (kIn ks) n))
theorem cr_setL (hc : X.calm = true) : CallR X (.type "set") (rSetLs X.K X.w) := by
  intro pins s σ H xs us Q I r h
  obtain ⟨l, ks, rfl, hl, hk, q⟩ := h
  rw [Vals.ref1 r]
  obtain ⟨its, rv, pl, hz⟩ := I.list hl
  have hn : H s.heap.objs.size = none := I.hok.fresh (Nat.le_refl _)
  refine call_setL (P := X.prog) (w := X.w) ks (I.ok.hd hc) pl.isList (by simpa using rv) (by unfold scanBound; omega) fun h' tk c R hcn k => ?_
  exact ⟨.ref s.heap.objs.size, upd H s.heap.objs.size (SetMO X.w s.heap.objs.size (kIn ks) c), I.laid (t' := tk) k (Nat.le_refl _) (setMO_new R), rfl, q _ c hn hcn⟩
/-- sorted(set) -/
def rSortM (w : World) : List V → Hp → VK → Prop := fun vs H Q => ∃ (a : Addr) (S : Key → Bool) (n : Nat), vs = [V.ref a] ∧ H a = some (SetMO w a S n) ∧
  ((∃ xs : List Str, (∀ k, S k = true ↔ k ∈ xs.map (Sum.inr : Str → Key)) ∧ ∀ (ys : List Str) (p : Addr), H p = none → ys.Nodup → (∀ z, z ∈ ys ↔ z ∈ xs) → sortedS ys = true → ys.length = n → Q (.ref p) (upd H p (.lst (ys.map V.str)))) ∨
   (∃ xs : List Int, (∀ k, S k = true ↔ k ∈ xs.map (Sum.inl : Int → Key)) ∧ ∀ (ys : List Int) (p : Addr), H p = none → ys.Pairwise (· < ·) → (∀ z, z ∈ ys ↔ z ∈ xs) → ys.length = n → Q (.ref p) (upd H p (.lst (ys.map V.int)))))
theorem nodup_inj {α β : Type} {f : α → β} {l : List α} (h : (l.map f).Nodup) : l.Nodup := List.Pairwise.of_map f (fun _ _ hne e => hne (congrArg f e)) h
theorem cr_sortM (hc : X.calm = true) : CallR X (.builtin "sorted") (rSortM X.w) := by
  intro pins s σ H vs us Q I r h
  obtain ⟨a, S, n, rfl, ha, h⟩ := h
  have R : SetM X.w s.heap a S n := (I.hok a _ ha).1
  have nz : n ≤ sizeLine := by
    obtain ⟨o, es, ep, t, _, _, _, _, _, _, hb, _, hn, _⟩ := R
    rw [← hn]
    exact fits_of_scanBound hb
  rw [Vals.ref1 r]
  rcases h with ⟨xs, hx, q⟩ | ⟨xs, hx, q⟩
  · have hstr : ∀ vs : List Value, (∀ v ∈ vs, ∃ k, S k = true ∧ RelV (kV k) v) → ∃ ss : List Str, StrsAre vs ss ∧ vs.map vK = ss.map Sum.inr := fun vs hv => strs_of_keys fun v hm => by
      obtain ⟨k, h1, h2⟩ := hv v hm
      obtain ⟨x, _, rfl⟩ := List.mem_map.mp ((hx k).1 h1)
      exact ⟨x, h2⟩
    refine sorted_setG strKind_oneLt R (I.ok.hd hc) (fun vs hv => ?_) fun s' p vs st' c k g o hp hg hv nd hm hl a1 a2 => ?_
    · obtain ⟨ss, h1, _⟩ := hstr vs hv
      exact ⟨h1.keysOf, fun v₁ v₂ rest e => keyKind_strs (by rw [← e]; exact h1)⟩
    · obtain ⟨ss, h1, h2⟩ := hstr vs hv
      obtain ⟨ys, b1, b2, b3⟩ := sorted_out_str h1 a1 a2
      have ln : ys.length = n := by
        rw [b2.length_eq, ← hl]
        have z := congrArg List.length h2
        rw [List.length_map, List.length_map] at z
        exact z.symm
      have hlen : (ys.map V.str).length ≤ sizeLine := by rw [List.length_map, ln]; exact nz
      have hn : H p = none := I.hok.fresh hp
      have J : Inv X pins σ (upd H p (.lst (ys.map V.str))) { s with heap := s'.heap, gens := s'.gens, drawn := s'.drawn, toks := s'.toks } :=
        I.call (ch := []) (Un.laid k hp hn) (I.hok.laid k hp ⟨hlen, _, c, vals_of_strs b1, hg⟩) (by rw [g]; exact I.bare) (fun _ z => nomatch z)
      have e : s' = { s with heap := s'.heap, gens := s'.gens, drawn := s'.drawn, toks := s'.toks } := by
        cases s'
        cases s
        cases o
        rfl
      rw [e]
      rw [h2] at nd
      refine ⟨.ref p, _, J, rfl, q ys p hn (b2.nodup_iff.mpr (nodup_inj nd)) (fun z => ?_) b3 ln⟩
      have e1 := hm (Sum.inr z)
      rw [h2] at e1
      have e2 := hx (Sum.inr z)
      have inj : ∀ l : List Str, (Sum.inr z : Key) ∈ l.map Sum.inr ↔ z ∈ l := fun l => by simp
      rw [inj] at e1 e2
      rw [b2.mem_iff, ← e1, e2]
  · have hint : ∀ vs : List Value, (∀ v ∈ vs, ∃ k, S k = true ∧ RelV (kV k) v) → ∃ ss : List Int, IntsAre vs ss ∧ vs.map vK = ss.map Sum.inl := fun vs hv => ints_of_keys fun v hm => by
      obtain ⟨k, h1, h2⟩ := hv v hm
      obtain ⟨x, _, rfl⟩ := List.mem_map.mp ((hx k).1 h1)
      exact ⟨x, h2⟩
    refine sorted_setG PyProof.Rows.intKind_oneLt R (I.ok.hd hc) (fun vs hv => ?_) fun s' p vs st' c k g o hp hg hv nd hm hl a1 a2 => ?_
    · obtain ⟨ss, h1, _⟩ := hint vs hv
      exact ⟨h1.keysOfInt, fun v₁ v₂ rest e => keyKind_ints (by rw [← e]; exact h1)⟩
    · obtain ⟨ss, h1, h2⟩ := hint vs hv
      obtain ⟨ys, b1, b2, b3⟩ := sorted_out h1 a1 (sortedTo_of_int a2)
      have ln : ys.length = n := by
        rw [b2.length_eq, ← hl]
        have z := congrArg List.length h2
        rw [List.length_map, List.length_map] at z
        exact z.symm
      have hlen : (ys.map V.int).length ≤ sizeLine := by rw [List.length_map, ln]; exact nz
      have hn : H p = none := I.hok.fresh hp
      have J : Inv X pins σ (upd H p (.lst (ys.map V.int))) { s with heap := s'.heap, gens := s'.gens, drawn := s'.drawn, toks := s'.toks } :=
        I.call (ch := []) (Un.laid k hp hn) (I.hok.laid k hp ⟨hlen, _, c, vals_of_ints b1, hg⟩) (by rw [g]; exact I.bare) (fun _ z => nomatch z)
      have e : s' = { s with heap := s'.heap, gens := s'.gens, drawn := s'.drawn, toks := s'.toks } := by
        cases s'
        cases s
        cases o
        rfl
      rw [e]
      rw [h2] at nd
      refine ⟨.ref p, _, J, rfl, q ys p hn (lt_of_le_nodup ys b3 (b2.nodup_iff.mpr (nodup_inj nd))) (fun z => ?_) ln⟩
      have e1 := hm (Sum.inl z)
      rw [h2] at e1
      have e2 := hx (Sum.inl z)
      have inj : ∀ l : List Int, (Sum.inl z : Key) ∈ l.map Sum.inl ↔ z ∈ l := fun l => by simp
      rw [inj] at e1 e2
      rw [b2.mem_iff, ← e1, e2]
end
end L2

set_option Elab.async false
set_option linter.all false
set_option maxRecDepth 100000
set_option maxHeartbeats 4000000
/-! sorted of triples of ints -/
namespace SrtT
open PySem PyProof.Rows Srt SrtO
abbrev T3 := Int × Int × Int
def lex3 (p q : T3) : Bool := if p.1 = q.1 then (if p.2.1 = q.2.1 then decide (p.2.2 < q.2.2) else decide (p.2.1 < q.2.1)) else decide (p.1 < q.1)
theorem lex3_iff {p q : T3} : lex3 p q = true ↔ p.1 < q.1 ∨ (p.1 = q.1 ∧ (p.2.1 < q.2.1 ∨ (p.2.1 = q.2.1 ∧ p.2.2 < q.2.2))) := by
  unfold lex3
  split
  · split <;> (rw [decide_eq_true_eq]; omega)
  · rw [decide_eq_true_eq]; omega
theorem lex3_no {p q : T3} : lex3 p q = false ↔ ¬ (p.1 < q.1 ∨ (p.1 = q.1 ∧ (p.2.1 < q.2.1 ∨ (p.2.1 = q.2.1 ∧ p.2.2 < q.2.2)))) := by
  rw [← lex3_iff]
  cases lex3 p q <;> simp
theorem swo3 {α : Type} (k : α → T3) : Swo fun v u => lex3 (k v) (k u) := by
  constructor
  · intro x y h
    rw [lex3_no]
    rw [lex3_iff] at h
    omega
  · intro x y z h1 h2
    rw [lex3_no] at h1 h2 ⊢
    omega
/-- v is a tuple of three ints in the heap -/
def Is3 (h : Heap) (v : Value) (p : T3) : Prop := ∃ a o t1 t2 t3 n, v = .ref a ∧ h.get? a = some o ∧ o.cls = .type "tuple" ∧ o.data = .seq #[.int p.1 t1, .int p.2.1 t2, .int p.2.2 t3] n
theorem Is3.stay {h h' : Heap} {v : Value} {p : T3} (i : Is3 h v p) (k : ∀ b o, h.get? b = some o → o.cls = .type "tuple" → h'.get? b = some o) : Is3 h' v p := by
  obtain ⟨a, o, t1, t2, t3, n, e1, e2, e3, e4⟩ := i
  exact ⟨a, o, t1, t2, t3, n, e1, k a o e2 e3, e3, e4⟩
section
variable {prog : Program} {w : World} {A : Around} {E : Value → Shared → Prop} {s : Shared}
theorem cmp3 {vs : List Value} {k : Value → T3} (hp : ∀ v ∈ vs, Is3 s.heap v (k v)) : SrtO.Cmp prog w A s (tuples' true) (fun p => p.1 ∈ vs) (lt2 fun v u => lex3 (k v) (k u)) := by
  intro p q mp mq
  have i1 := hp _ mp
  have i2 := hp _ mq
  show wpAny (model prog w) A (keyLt' (tuples' true) p.1 q.1) (fun r s' => s' = s ∧ r = lex3 (k p.1) (k q.1)) (fun _ _ => False) s
  generalize k p.1 = P at i1 ⊢
  generalize k q.1 = R at i2 ⊢
  obtain ⟨x, y, z⟩ := P
  obtain ⟨x', y', z'⟩ := R
  obtain ⟨a, o, t, u, v, n, e, ho, hc, hd⟩ := i1
  obtain ⟨a', o', t', u', v', n', e', ho', hc', hd'⟩ := i2
  rw [e, e']
  show wpAny _ _ _ (fun r s' => s' = s ∧ r = (if x = x' then (if y = y' then decide (z < z') else decide (y < y')) else decide (x < x'))) _ _
  refine PySem.W.kat_lt ho hd ho' hd' ?_
  show PySem.W.KatLex prog w A true (decide (3 < 3)) _ [(.int x t, .int x' t'), (.int y u, .int y' u'), (.int z v, .int z' v')] 0 s
  refine PySem.W.kat_cons (SeqAt.EqAt.int_int x t x' t' prog w _ _ (PySem.W.kat_go (fun c1 => ?_) fun c1 => ?_))
  · have ex : x = x' := by simpa using c1
    rw [if_pos ex]
    refine PySem.W.kat_yes (PySem.W.kat_cons (SeqAt.EqAt.int_int y u y' u' prog w _ _ (PySem.W.kat_go (fun c2 => ?_) fun c2 => ?_)))
    · have ey : y = y' := by simpa using c2
      rw [if_pos ey]
      refine PySem.W.kat_yes (PySem.W.kat_cons (SeqAt.EqAt.int_int z v z' v' prog w _ _ (PySem.W.kat_go (fun c3 => ?_) fun c3 => ?_)))
      · have ez : z = z' := by simpa using c3
        exact PySem.W.kat_yes (PySem.W.kat_nil ⟨rfl, by rw [ez]; exact (decide_eq_false (Int.lt_irrefl z')).symm⟩)
      · refine PySem.W.kat_no (PySem.W.kat_one _ _ (PyProof.Rows.lt_int ?_))
        exact (⟨rfl, rfl⟩ : s = s ∧ decide (z < z') = decide (z < z'))
    · have ey : ¬ y = y' := by simpa using c2
      rw [if_neg ey]
      refine PySem.W.kat_no (PySem.W.kat_one _ _ (PyProof.Rows.lt_int ?_))
      exact (⟨rfl, rfl⟩ : s = s ∧ decide (y < y') = decide (y < y'))
  · have ex : ¬ x = x' := by simpa using c1
    rw [if_neg ex]
    exact PySem.W.kat_no (oneLt_int ⟨rfl, rfl⟩)
theorem firsts3 {h : Heap} {k : Value → T3} : ∀ {vs : List Value}, (∀ v ∈ vs, Is3 h v (k v)) → ∃ fs : List Value, PySem.W.KatTups h vs fs ∧ fs.length = vs.length ∧ ∀ f ∈ fs, ∃ x t, f = Value.int x t
  | [], _ => ⟨[], PySem.W.KatTups.nil, rfl, fun f hf => nomatch hf⟩
  | v :: vs, hp => by
    obtain ⟨fs, g1, g2, g3⟩ := firsts3 (vs := vs) fun z hz => hp z (List.mem_cons_of_mem v hz)
    obtain ⟨a, o, t1, t2, t3, n, rfl, e2, e3, e4⟩ := hp v List.mem_cons_self
    refine ⟨.int (k (.ref a)).1 t1 :: fs, PySem.W.KatTups.cons e2 e3 e4 rfl g1, congrArg Nat.succ g2, fun f hf => ?_⟩
    rcases List.mem_cons.mp hf with rfl | hf
    · exact ⟨_, _, rfl⟩
    · exact g3 f hf
theorem sortable3 {a : Addr} {vs : List Value} {k : Value → T3} (h0 : 0 < vs.length) (hp : ∀ v ∈ vs, Is3 s.heap v (k v)) (ha : ∀ o, s.heap.get? a = some o → o.cls ≠ .type "tuple") : SortableO prog w A s a vs fun v u => lex3 (k v) (k u) := fun h' keep => by
  have st : ∀ v ∈ vs, Is3 h' v (k v) := fun v hv => (hp v hv).stay fun b o g c => keep b o (fun z => ha o (z ▸ g) c) g
  obtain ⟨fs, g1, g2, g3⟩ := firsts3 st
  refine ⟨tuples' true, fun Q E hq => PySem.W.kat_kind (T := .type "int") g1 (by omega) (fun f hf => ?_) (by rfl) ?_, cmp3 st⟩
  · obtain ⟨x, t, rfl⟩ := g3 f hf
    exact PySem.W.Looks.now
  · rw [show (Value.type "int" != Value.type "tuple") = true from by first | decide +kernel | rfl]
    exact hq
/-- sorted(l) of triples of ints -/
theorem sorted3 {l : Addr} {vs : List Value} {k : Value → T3} {Q : Value → Shared → Prop} (hl : s.heap.IsList l vs.toArray) (hz : vs.length ≤ sizeLine) (hp : ∀ v ∈ vs, Is3 s.heap v (k v))
    (h : ∀ (h' : Heap) (d : Addr) (out : List Value), Srtd (fun v u => lex3 (k v) (k u)) out → Stb (fun v u => lex3 (k v) (k u)) out vs → (∀ b o, s.heap.get? b = some o → h'.get? b = some o) → s.heap.objs.size ≤ d → (∃ n, h'.get? d = some (seqObj "list" out.toArray n)) → Q (.ref d) { s with heap := h' }) :
    wpAny (model prog w) A (call (.builtin "sorted") [.ref l]) Q E s := by
  refine sorted_ord (swo3 k) hl hz (fun h2 h₁ a ha kk => sortable3 (s := { s with heap := h₁ }) (by omega) (fun v hv => (hp v hv).stay fun b o g _ => (kk b o g).2) fun o g c => ?_) fun out hs hb => h _ _ out hs hb (fun b o g => sortedAll_old g) (Nat.le_succ _) (sortedAll_at s.heap vs out.toArray)
  have g' : some o = some (seqObj "list" vs.toArray 0) := g.symm.trans ha
  cases g'
  exact absurd (Value.type.inj c) (by decide)
end
end SrtT
namespace L2
open PySem PySem.Spec PyProof.Rows SrtT
/-- sorted(xs), xs a list of triples of ints (k says which): a new list, sorted -/
def rSorted3 (K : PySem.W.Frag) : List V → Hp → VK → Prop := fun vs H Q => ∃ (a : Addr) (xs : List V) (k : V → T3), vs = [V.ref a] ∧ SqL K H a xs ∧ (∀ x ∈ xs, ∃ t, x = V.ref t ∧ H t = some (.tup [.int (k x).1, .int (k x).2.1, .int (k x).2.2])) ∧
  ∀ ys p, SrtO.Srtd (fun x y => lex3 (k x) (k y)) ys → ys.Perm xs → H p = none → Q (.ref p) (upd H p (.lst ys))
theorem cr_sorted3 {X : Cx} : CallR X (.builtin "sorted") (rSorted3 X.K) := by
  intro pins s σ H vs us Q I r h
  obtain ⟨a, xs, k, rfl, hs, hx, q⟩ := h
  obtain ⟨its, rv, hl, hz⟩ := I.list hs
  rw [Vals.ref1 r]
  obtain ⟨e1, e2⟩ := refs_back rv fun x m => (hx x m).imp fun t ht => ht.1
  refine sorted3 (k := fun u => k (backV u)) hl.isList (by rw [← rv.length]; exact hz) (fun v hv => ?_) fun h' d out g1 g2 kp hd hn => ?_
  · obtain ⟨t, rfl⟩ := e2 v hv
    obtain ⟨t', e, ht⟩ := hx (.ref t) (by rw [e1]; exact List.mem_map.mpr ⟨_, hv, rfl⟩)
    cases e
    obtain ⟨_, its2, r2, o, ho, hc, n, hdt⟩ := I.hok _ _ ht
    cases r2 with
    | cons r2a r2 => cases r2 with
      | cons r2b r2 => cases r2 with
        | cons r2c r2 =>
          cases r2
          obtain ⟨ta, rfl⟩ := r2a
          obtain ⟨tb, rfl⟩ := r2b
          obtain ⟨tc, rfl⟩ := r2c
          exact ⟨t, o, ta, tb, tc, n, rfl, ho, hc, hdt⟩
  · obtain ⟨n, hn⟩ := hn
    have back : ∀ u ∈ out, ∃ a, u = Value.ref a := fun u hu => e2 u (g2.perm.mem_iff.mp hu)
    have pm : (out.map backV).Perm xs := by rw [e1]; exact g2.perm.map backV
    refine ⟨.ref d, upd H d (.lst (out.map backV)), I.laid (t' := s.toks) kp hd ⟨?_, out, n, vals_back back, hn⟩, rfl, q _ d (SrtO.srtd_map g1) pm (I.hok.fresh hd)⟩
    rw [pm.length_eq]
    exact hz
end L2

set_option Elab.async false
set_option linter.all false
set_option maxRecDepth 100000
set_option maxHeartbeats 4000000
namespace L2
open PySem PySem.Spec PyProof.Rows
/-! ### an own __eq__ asked by !=, an own __len__, list(d.values()) -/
/-- a name of a written namespace -/
theorem ns_at {K : PySem.W.Frag} {h : Heap} {N : Addr} {mN : Str → Option Value} {n : Str} {v : Value} (X : K.In h) (G : h.Ns N mN) (e : PySem.W.nsIn K N n = some (some v)) : mN n = some v := by
  obtain ⟨o, es, ep, ho, hd, _, hf⟩ := G
  unfold PySem.W.nsIn at e
  split at e
  case h_2 => cases e
  case h_1 c d es' n' sl q =>
    have z := X _ _ q
    rw [ho] at z
    cases z
    cases hd
    split at e
    case h_2 => split at e <;> cases e
    case h_1 en he =>
      cases e
      rw [← hf]
      unfold nsFind findBy
      rw [← Array.find?_toList, he]
      rfl
/-- a plain class with an own __eq__ and no __ne__ -/
structure NeC (K : PySem.W.Frag) (C f : Addr) : Prop where
  ex : ∃ (nm q : Str) (N : Addr) (bs : List Value) (hd : Bool) (sn : List Str) (sub : List Value) (ab : Bool) (col : Option Bool) (dd : Option Addr) (k0 k1 k2 k3 k5 : Option Value) (nid : String) (fo : Obj),
    K.lookup C = some (excClassObj nm q C N bs [.type "object"] hd sn sub ab col dd k0 k1 k2 k3 k5 nid) ∧ PySem.W.nsOkIn K N = true ∧ PySem.W.nsIn K N "__eq__" = some (some (.ref f)) ∧ PySem.W.nsIn K N "__ne__" = some none ∧ K.lookup f = some fo ∧ fo.cls = .type "function"
theorem obj_eq : ∃ y, typeLookup (.type "object") "__eq__" = pure y := ⟨_, PySem.F.cmp_object.eq.lookup⟩
section
variable {X : Cx} {n : Nat} {CX : CXT} {C f : Addr} {fd : FuncData} {ps : List Str} {R : Addr → Addr → Hp → Prop} {E : XK}
theorem op_neG (F : FnOk X.prog X.w X.K X.mg X.base CX n f fd ps (spEq R)) (Z : NeC X.K C f) (hb : Binds X.K fd ps []) (hx : Passes CX X E) (hr : Room (n + 2) X.A) :
    OpR X (compareOp .NotEq) (fun x y H Q => DIns C R x y H ∧ ∀ H', Ext H H' → Q (.bl false) H') := by
  intro pins s σ H x y v u Q I rx ry hq
  obtain ⟨⟨a, b, dx, dy, fs, gs, rfl, rfl, ha, hb', hR⟩, q⟩ := hq
  cases rx
  cases ry
  obtain ⟨mA, J, _⟩ := ins_get I.hok ha
  obtain ⟨mB, J', _⟩ := ins_get I.hok hb'
  obtain ⟨od, J, _⟩ := J.look
  obtain ⟨od', J', _⟩ := J'.look
  obtain ⟨nm, qn, N, bs, hd, sn, sub, ab, col, dd, k0, k1, k2, k3, k5, nid, fo, z1, z2, z3, z4, z5, z6⟩ := Z.ex
  have XK := I.kIn
  have Gn := Heap.Ns.of_isNs (PySem.W.isNs_of_in XK z2)
  obtain ⟨y0, hy0⟩ := obj_eq
  have Y : s.heap.OwnEqNoNe a C f "object" [.type "object"] := ⟨_, fo, nm, qn, N, bs, hd, sn, sub, ab, col, dd, k0, k1, k2, k3, k5, nid, _, y0, J.at_, J.cls, XK _ _ z1, Gn, ns_at XK Gn z3, XK _ _ z5, z6, PySem.F.mro_object, hy0, PySem.W.ns_none_of XK Gn z4⟩
  obtain ⟨hp, gg, dw, tk, os⟩ := s
  refine compareOp_ne_ownEq PySem.F.cmp_object Y J'.at_ J'.cls hr.in1.units0 ?_
  have hsp : spEq R [.ref a, .ref b] H (fun v H' => v = .bl true ∧ Ext H H') E := ⟨a, b, rfl, hR, fun H' e => ⟨rfl, e⟩⟩
  have e0 : Env0 X.prog X.w X.K X.mg X.base X.A.in1 X.stack ⟨hp, gg, dw, tk, os⟩ H := by
    have e := I.env0
    exact ⟨e.frames, e.mod, e.bs, e.bsz, e.funs, e.frf, e.hok, e.bare⟩
  have hl := F.len _ _ _ _ hsp
  have r2 : Vals [V.ref a, V.ref b] [Value.ref a, Value.ref b] := .cons rfl (.cons rfl .nil)
  refine wpAny_call (codeAny_mono (F.run X.A.in1 X.stack _ H ⟨[.ref a, .ref b], []⟩ [.ref a, .ref b] [.ref a, .ref b] _ E (hr.in1.mono (by omega)) e0 (by
    have := hb ⟨hp, gg, dw, tk, os⟩ [.ref a, .ref b] I.kIn (by simpa using hl)
    simpa using this) r2 hsp) fun r s' hq => ?_)
  cases r with
  | error e => exact hx pins σ H _ e s' I hq
  | ok fl =>
    cases fl with
    | ret w =>
      obtain ⟨z, H', I', rz, ez, ex⟩ := I.after hq
      subst ez
      cases rz
      exact ⟨true, rfl, .bl false, H', I', rfl, q H' ex⟩
    | next => exact False.elim hq
    | brk => exact False.elim hq
    | cont => exact False.elim hq
/-- len(o) by an own __len__ -/
theorem call_lenI {sp : Sp} (F : FnOk X.prog X.w X.K X.mg X.base CX n f fd ["self"] sp) (hs : PySem.W.findIn X.K (.ref C) "__len__" = some (some (.ref f))) (hf : PySem.W.isFn X.K (.ref f) = true) (hb : Binds X.K fd ["self"] []) (hx : Passes CX X E) (hr : Room (n + 1) X.A) :
    CallR X (.builtin "len") (fun xs H Q => ∃ a dx fs, xs = [.ref a] ∧ H a = some (.ins C dx fs) ∧ sp [.ref a] H (fun v H' => ∃ m : Nat, v = .int m ∧ m < 2 ^ 62 ∧ Q (.int m) H') E) := by
  intro pins s σ H xs us Q I r h
  obtain ⟨a, dx, fs, rfl, ha, h⟩ := h
  rw [Vals.ref1 r]
  obtain ⟨mA, J, _⟩ := ins_get I.hok ha
  obtain ⟨od, J, _⟩ := J.look
  obtain ⟨m, hF⟩ := I.fr
  refine PySem.W.len_K hF I.ok.mod.kin J hs hf ?_
  have e0 : Env0 X.prog X.w X.K X.mg X.base X.A.in1 X.stack s H := by
    have e := I.env0
    exact ⟨e.frames, e.mod, e.bs, e.bsz, e.funs, e.frf, e.hok, e.bare⟩
  have hl := F.len _ _ _ _ h
  refine wpAny_call (codeAny_mono (F.run X.A.in1 X.stack _ H ⟨[.ref a], []⟩ [.ref a] [.ref a] _ E (hr.in1.mono (by omega)) e0 (by
    have := hb s [.ref a] I.kIn (by simpa using hl)
    simpa using this) (.cons rfl .nil) h) fun r s' hq => ?_)
  cases r with
  | error e => exact hx pins σ H _ e s' I hq
  | ok fl =>
    cases fl with
    | ret w =>
      obtain ⟨z, H', I', rz, m, ez, hm, q⟩ := I.after hq
      subst ez
      obtain ⟨t, rfl⟩ := rz
      exact ⟨⟨Int.natCast_nonneg m, by omega⟩, .int m, H', I'.tok _, ⟨_, rfl⟩, q⟩
    | next => exact False.elim hq
    | brk => exact False.elim hq
    | cont => exact False.elim hq
/-- the same object -/
def DOne : Eqv := fun x y _ => x = y ∧ ∃ a, x = .ref a
theorem mon_one : Mon DOne := fun _ _ _ _ _ d => d
theorem eqG_one : EqG X 0 DOne := by
  intro A pins s σ H x y u v sb I rx ry d
  obtain ⟨rfl, a, rfl⟩ := d
  cases rx
  cases ry
  exact SeqAt.EqAt.same (A := A) (s := s) (.ref a) X.prog X.w X.xe _ ⟨rfl, H, I, Ext.rfl'⟩
end
section
variable {X : Cx} {o : Expr} {p pos apos mpos : Pos} {td : TE}
/-- list(o.values()) of a dict -/
def tListVals (td : TE) : TE := fun σ H Q => td σ H fun x H1 => ∃ a kvs, x = V.ref a ∧ H1 a = some (.dK kvs) ∧ ∀ l, H1 l = none → Q (.ref l) (upd H1 l (.lst (kvs.map (·.2))))
theorem vals_vals {kvs : List (Key × V)} {vs : List (Key × Value)} (r : KV kvs vs) {us : List Value} (hn : us.length = vs.length) (hu : ∀ (j : Nat) v, us[j]? = some v → ∃ k, vs[j]? = some (k, v)) : Vals (kvs.map (·.2)) us := by
  have e : us = vs.map (·.2) := PySem.W.kdl_vals_eq us hn hu
  subst e
  unfold KV at r
  clear hn hu
  induction r with
  | nil => exact .nil
  | cons h t ih => exact .cons h.2 ih
theorem pe_listVals (hcalm : X.calm = true) (hg : Gl X "list") (hm : X.mg "list" = none) (hd : PE X o td) (hbase : attributeBase o "values" X.env (eval o X.env) = eval o X.env := by rfl) (hline : (apos.endLine == mpos.line) = true := by rfl)
    (hse : starEach [Expr.Call (.Attribute o "values" apos) [] [] mpos] X.env = [(false, eval (Expr.Call (.Attribute o "values" apos) [] [] mpos) X.env)] := by rfl) :
    PE X (.Call (.Name "list" p) [.Call (.Attribute o "values" apos) [] [] mpos] [] pos) (tListVals td) := by
  refine ⟨fun pins s σ H Q I h => ?_⟩
  refine wpAny_Call_Name_kw (ld_blt I hg hm (u := .type "list") (by first | rfl | decide +kernel) ?_ (by first | decide +kernel | decide) (by first | decide +kernel | decide))
  rw [hse]
  refine PySem.callWith_type1 (wpAny_Call_method0_late hbase hline (thn (hd.run pins s σ H _ I h) fun v s1 ⟨x, H1, I1, r1, a, kvs, ex, ha, q⟩ => ?_))
  subst ex
  obtain rfl : v = Value.ref a := r1
  obtain ⟨hz, hsys, vs, rel, dof⟩ := dk_of I1.hok ha
  obtain ⟨ep, dat⟩ := dof.dictAt
  obtain ⟨ob, es, ho, ex, _⟩ := id dat
  refine ⟨"dict", "dict.values", F.plainAttrs_dict, F.slot_dict_values, F.type_dict_values, ⟨ob, ho, ex.1⟩, fun b e => ?_, Calls.callWith_builtin rfl (PySem.evalArgs_none ?_)⟩
  · cases e
    exact ⟨ob, ho, ex.2.1⟩
  refine call_meetsIn F.slot_dict_values ⟨ob, ho, ex.1⟩ F.entry_dict_values (F.args_dict_values_1 _) (meets_dict_values (mixKind X.prog X.w) a hsys) ⟨⟨vs, dof⟩, ?_⟩
  have up : ∀ b u, s1.heap.get? b = some u → (s1.heap.push { cls := .type "dict_values", data := .fields #[.ref a] }).get? b = some u := fun b u e => Heap.get?_push_of_some _ e
  have hlen : vs.length = kvs.length := (KV.length rel).symm
  refine PySem.W.kdl_call (PySem.W.kdl_values (knd := mixKind X.prog X.w) (kvs := vs) (ep := ep)) (I1.ok.hd hcalm) ⟨⟨_, Heap.get?_push_size _ rfl, rfl, rfl⟩, dat.keep up⟩ (by rw [hlen]; exact hz) fun h' tk acc c' hk hD hacc => ?_
  have hv : Vals (kvs.map (·.2)) acc.toList := vals_vals rel (by rw [Array.length_toList]; exact hacc.1) fun j v e => hacc.2 j v (by rw [← Array.getElem?_toList]; exact e)
  refine ⟨.ref _, upd H1 _ (.lst (kvs.map (·.2))), I1.laid (t' := tk) (fun b u e => hk b u (up b u e)) (Nat.le_of_lt (Nat.lt_of_lt_of_le (Nat.lt_succ_self _) (by rw [Heap.size_push]; exact Nat.le_refl _)))
    (show ObjOk X.prog X.w _ _ _ (.lst (kvs.map (·.2))) from ⟨by rw [List.length_map]; exact hz, acc.toList, c', hv, by rw [Array.toArray_toList]; exact hD⟩), rfl, q _ (I1.hok.fresh (Nat.le_of_lt (Nat.lt_of_lt_of_le (Nat.lt_succ_self _) (by rw [Heap.size_push]; exact Nat.le_refl _))))⟩
end
end L2

set_option Elab.async false
set_option linter.all false
set_option maxRecDepth 100000
set_option maxHeartbeats 4000000
namespace L2
open PySem PySem.Spec PyProof.Rows
section
variable {X : Cx} {n : Nat} {CX : CXT} {C f : Addr} {fd : FuncData} {ps : List Str} {sp : Sp} {E : XK}
/-- x op y of two instances of one class, with an own method for it -/
def rOwnOp (C : Addr) (sp : Sp) (E : XK) : R2 := fun x y H Q => ∃ a b dx dy fs gs, x = .ref a ∧ y = .ref b ∧ H a = some (.ins C dx fs) ∧ H b = some (.ins C dy gs) ∧ sp [x, y] H Q E
theorem op_own {op : Operator} (hc : PySem.W.selfFirst X.K C = true) (hs : PySem.W.findIn X.K (.ref C) (PySem.dunder op.info.2) = some (some (.ref f))) (hf : PySem.W.isFn X.K (.ref f) = true)
    (F : FnOk X.prog X.w X.K X.mg X.base CX n f fd ps sp) (hb : Binds X.K fd ps []) (hx : Passes CX X E) (hr : Room n X.A) : OpR X (binaryOp op) (rOwnOp C sp E) := by
  intro pins s σ H x y v u Q I rx ry hq
  obtain ⟨a, b, dx, dy, fs, gs, rfl, rfl, ha, hb', hsp⟩ := hq
  cases rx
  cases ry
  obtain ⟨mA, J, _⟩ := ins_get I.hok ha
  obtain ⟨mB, J', _⟩ := ins_get I.hok hb'
  obtain ⟨od, J, _⟩ := J.look
  obtain ⟨od', J', _⟩ := J'.look
  obtain ⟨m, Fm⟩ := I.fr
  refine PySem.W.binop_K Fm I.ok.mod.kin J J'.type hc hs hf (wpAny_mono (run_fn (us := [.ref a, .ref b]) (vs := [.ref a, .ref b]) F hr hb .nil hx I (.cons rfl (.cons rfl .nil)) hsp) (fun z s' hz => ?_) fun _ _ e => e)
  obtain ⟨zv, H', I', rz, q⟩ := hz
  exact SlX.cmpback rz ⟨zv, H', I', rz, q⟩
end
end L2

set_option Elab.async false
set_option linter.all false
set_option maxRecDepth 100000
set_option maxHeartbeats 4000000
namespace L2
open PySem PySem.Spec PyProof.Rows
/-! ### o.f as a target among others -/
section
variable {X : Cx} {o : Expr} {ta : TE} {f : Str} {pos : Pos}
def gFld (K : PySem.W.Frag) (ta : TE) (f : Str) : TG := fun v σ H Q => ta σ H fun x H1 => ∃ a C dx fs, x = .ref a ∧ H1 a = some (.ins C dx fs) ∧ Cls K C ∧ NoAttr K C f ∧ fs.length < 1000 ∧ Q σ (upd H1 a (.ins C dx (putF f v fs)))
theorem pg_fld (ha : PE X o ta) : PG X (.Attribute o f pos) (gFld X.K ta f) := by
  refine ⟨fun pins s σ H v u Q I r h => ?_⟩
  rw [assign_Attribute]
  refine wpAny_bind (wpAny_holding (thn (ha.run pins s σ H _ I h) fun ov s1 ⟨x, H1, I1, rx, a, C, dx, fs, ex, ea, c, n, l, q⟩ => ?_))
  subst ex
  obtain rfl : ov = Value.ref a := rx
  refine wpAny_bind (wpAny_standAt ?_)
  refine wpAny_bind (wpAny_holding (setattr_ok I1 ea c n l r fun s3 I3 => ?_))
  exact wpAny_release ⟨σ, _, I3, q⟩
end
/-! ### operators of instances of a family of classes -/
section
variable {prog : Program} {w : World} {A : Around} {E : Value → Shared → Prop} {s : Shared} {K : PySem.W.Frag} {x C D L f : Addr} {h₀ : Heap} {m : Str → Option Value} {ox : Obj} {od : Option Obj}
open PySem.W PySem.Calls in
/-- x op y of instances of two classes, none of which is beneath the other -/
theorem binO {op : Operator} {b : Value} {rc rd : Option Value} {g : Addr} {Q : Value → Shared → Prop} (F : Fr h₀ L s.heap m) (X₀ : K.In h₀) (I : InstAt s.heap x ox C od) (hb : Looks (model prog w) s.heap (typeOf b) (.ref D)) (hne : C ≠ D) (hc : selfFirst K C = true) (hd : selfFirst K D = true)
    (hs : findIn K (.ref C) (PySem.dunder op.info.2) = some (some (.ref f))) (hf : isFn K (.ref f) = true) (hr : findIn K (.ref C) (dunderR op.info.2) = some rc) (hp : rc = none ∨ ∃ g : Addr, rc = some (.ref g))
    (gs : findIn K (.ref D) (PySem.dunder op.info.2) = some (some (.ref g))) (gr : findIn K (.ref D) (dunderR op.info.2) = some rd) (gp : rd = none ∨ ∃ g : Addr, rd = some (.ref g)) (hsub : subIn K (.ref D) (.ref C) = some false)
    (h : wpAny (model prog w) A (call (.ref f) [.ref x, b]) (PySem.W.CmpBack Q) E s) : wpAny (model prog w) A (binaryOp op (.ref x) b) Q E s := by
  have X := X₀.keeps F.keep
  obtain ⟨cd, rest, hcd, hm⟩ := ksp_first hc
  obtain ⟨dd, rest', hdd, hm'⟩ := ksp_first hd
  rcases hi : op.info with ⟨sym, nm'⟩
  rw [hi] at hs hr gs gr
  dsimp only at hs hr gs gr
  have one := ksp_try X I hs hf h
  obtain ⟨hh, gg, d, tt, os⟩ := s
  have L1 : Looks (model prog w) hh (typeOf (.ref x)) (.ref C) := I.type
  have L3 : Looks (model prog w) hh (fillsNumberSlot (.ref C) nm') true := fills_K X hcd hm hs
  have L4 : Looks (model prog w) hh (fillsNumberSlot (.ref D) nm') true := fills_K X hdd hm' gs
  have L5 : Looks (model prog w) hh (isSubtype (.ref D) (.ref C)) false := looks_subIn X hsub
  have L6 : Looks (model prog w) hh (numberSlotInPython (.ref C) nm') true := ksp_inPy X hs hr hp
  have L7 : Looks (model prog w) hh (numberSlotInPython (.ref D) nm') true := ksp_inPy X gs gr gp
  have hne' : (Value.ref C == Value.ref D) = false := Bool.eq_false_iff.mpr fun q => by
    have := beq_iff_eq.mp q
    cases this
    exact hne rfl
  simp only [binaryOp, hi]
  refine wpAny_holding (wpAny_bind ?_)
  unfold binaryOp1
  refine wpAny_bind (L1.at (wpAny_bind (hb.at (wpAny_bind (L3.at ?_)))))
  simp only [hne', Bool.false_eq_true, if_false]
  ksp_lk
  refine wpAny_mono one (fun r s' hr' => ?_) fun _ _ e => e
  obtain ⟨v, rfl, hq⟩ := hr'
  ksp_lk
  exact hq
end
/-- what the top says of an operator of a family of classes -/
structure OpF (K : PySem.W.Frag) (S : Addr → Prop) (op : Operator) (f : Addr) : Prop where
  sf : ∀ C, S C → PySem.W.selfFirst K C = true
  at_ : ∀ C, S C → PySem.W.findIn K (.ref C) (PySem.dunder op.info.2) = some (some (.ref f))
  rt : ∀ C, S C → PySem.W.findIn K (.ref C) (dunderR op.info.2) = some none
  fn : PySem.W.isFn K (.ref f) = true
  sub : ∀ C D, S C → S D → C ≠ D → PySem.W.subIn K (.ref D) (.ref C) = some false
section
variable {X : Cx} {n : Nat} {CX : CXT} {f : Addr} {fd : FuncData} {ps : List Str} {sp : Sp} {E : XK} {S : Addr → Prop} {op : Operator}
def rOpF (S : Addr → Prop) (sp : Sp) (E : XK) : R2 := fun x y H Q => ∃ a b C D dx dy fs gs, x = .ref a ∧ y = .ref b ∧ H a = some (.ins C dx fs) ∧ S C ∧ H b = some (.ins D dy gs) ∧ S D ∧ sp [x, y] H Q E
theorem op_fam (O : OpF X.K S op f) (F : FnOk X.prog X.w X.K X.mg X.base CX n f fd ps sp) (hb : Binds X.K fd ps []) (hx : Passes CX X E) (hr : Room n X.A) : OpR X (binaryOp op) (rOpF S sp E) := by
  intro pins s σ H x y v u Q I rx ry hq
  obtain ⟨a, b, C, D, dx, dy, fs, gs, rfl, rfl, ha, sC, hb', sD, hsp⟩ := hq
  cases rx
  cases ry
  obtain ⟨mA, J, _⟩ := ins_get I.hok ha
  obtain ⟨mB, J', _⟩ := ins_get I.hok hb'
  obtain ⟨od, J, _⟩ := J.look
  obtain ⟨od', J', _⟩ := J'.look
  obtain ⟨m, Fm⟩ := I.fr
  have body : wpAny (model X.prog X.w) X.A (call (.ref f) [.ref a, .ref b]) (PySem.W.CmpBack (EP X pins σ Q)) X.xe s := wpAny_mono (run_fn (us := [.ref a, .ref b]) (vs := [.ref a, .ref b]) F hr hb .nil hx I (.cons rfl (.cons rfl .nil)) hsp) (fun z s' hz => by
    obtain ⟨zv, H', I', rz, q⟩ := hz
    exact SlX.cmpback rz ⟨zv, H', I', rz, q⟩) fun _ _ e => e
  by_cases e : C = D
  · subst e
    exact PySem.W.binop_K Fm I.ok.mod.kin J J'.type (O.sf C sC) (O.at_ C sC) O.fn body
  · exact binO Fm I.ok.mod.kin J J'.type e (O.sf C sC) (O.sf D sD) (O.at_ C sC) O.fn (O.rt C sC) (.inl rfl) (O.at_ D sD) (O.rt D sD) (.inl rfl) (O.sub C D sC sD e) body
/-- with an int -/
structure OpI (K : PySem.W.Frag) (S : Addr → Prop) (op : Operator) (f : Addr) : Prop where
  sf : ∀ C, S C → PySem.W.selfFirst K C = true
  at_ : ∀ C, S C → PySem.W.findIn K (.ref C) (PySem.dunder op.info.2) = some (some (.ref f))
  rt : ∀ C, S C → PySem.W.findIn K (.ref C) (dunderR op.info.2) = some none
  fn : PySem.W.isFn K (.ref f) = true
  sub : ∀ C, S C → PySem.W.subIn K (.type "int") (.ref C) = some false
  i1 : ∃ fo, PySem.W.findIn K (.type "int") (PySem.dunder op.info.2) = some fo
  i2 : ∃ ro, PySem.W.findIn K (.type "int") (dunderR op.info.2) = some ro
def rOpI (S : Addr → Prop) (sp : Sp) (E : XK) : R2 := fun x y H Q => ∃ a C dx fs i, x = .ref a ∧ y = .int i ∧ H a = some (.ins C dx fs) ∧ S C ∧ sp [x, y] H Q E
theorem op_int (O : OpI X.K S op f) (F : FnOk X.prog X.w X.K X.mg X.base CX n f fd ps sp) (hb : Binds X.K fd ps []) (hx : Passes CX X E) (hr : Room n X.A) : OpR X (binaryOp op) (rOpI S sp E) := by
  intro pins s σ H x y v u Q I rx ry hq
  obtain ⟨a, C, dx, fs, i, rfl, rfl, ha, sC, hsp⟩ := hq
  cases rx
  obtain ⟨t, rfl⟩ := (show ∃ t, u = Value.int i t from ry)
  obtain ⟨mA, J, _⟩ := ins_get I.hok ha
  obtain ⟨od, J, _⟩ := J.look
  obtain ⟨m, Fm⟩ := I.fr
  obtain ⟨fo, h1⟩ := O.i1
  obtain ⟨ro, h2⟩ := O.i2
  refine PySem.W.ksp_binT (T := "int") Fm I.ok.mod.kin J rfl (O.sf C sC) (O.at_ C sC) O.fn (O.rt C sC) (.inl rfl) h1 h2 (O.sub C sC) (wpAny_mono (run_fn (us := [.ref a, .int i t]) (vs := [.ref a, .int i]) F hr hb .nil hx I (.cons rfl (.cons ⟨t, rfl⟩ .nil)) hsp) (fun z s' hz => ?_) fun _ _ e => e)
  obtain ⟨zv, H', I', rz, q⟩ := hz
  exact SlX.cmpback rz ⟨zv, H', I', rz, q⟩
end
/-! ### methods of a family of classes -/
/-- a method that all of the classes have from one place -/
structure MethF (K : PySem.W.Frag) (S : Addr → Prop) (m : Str) (f : Addr) : Prop where
  at_ : ∀ C, S C → Cls K C ∧ PySem.W.findIn K (.ref C) m = some (some (.ref f))
  fn : PySem.W.isFn K (.ref f) = true
  kp : PySem.W.keepIn K (.ref f) = true
section
variable {X : Cx} {k : Nat} {CX : CXT} {f : Addr} {fd : FuncData} {ps : List Str} {sp : Sp} {E : XK} {S : Addr → Prop} {o e : Expr} {es : List Expr} {m : Str} {ta : TE} {t : TA} {apos pos : Pos}
def tMethF (S : Addr → Prop) (m : Str) (sp : Sp) (E : XK) (ta : TE) (t : TA) : TE := fun σ H Q => ta σ H fun x H1 => ∃ a C dx fs, x = .ref a ∧ H1 a = some (.ins C dx fs) ∧ S C ∧ fs.lookup m = none ∧
  t σ H1 fun vs H2 => sp (x :: vs) H2 Q E
theorem pe_methF {pl : Sem Bool} (he : PE X o ta) (M : MethF X.K S m f) (F : FnOk X.prog X.w X.K X.mg X.base CX k f fd ps sp) (hr : Room k X.A) (hb : Binds X.K fd ps []) (hx : Passes CX X E) (ha : PA X (e :: es) t)
    (hst : starEach (e :: es) X.env = (false, eval e X.env) :: starEach es X.env := by rfl) (hpl : (backTo pos (starEach es X.env)).any (·.1) = false := by rfl)
    (ht : eval (.Call (.Attribute o m apos) (e :: es) [] pos) X.env = (do
      let ov ← eval o X.env
      standAt apos.atName
      let (f, first) ← holding [ov] (getMethod ov m pl)
      callWith pos f first (backTo pos (starEach (e :: es) X.env)) (backToKw pos (keywordEach [] X.env))) := by rfl) :
    PE X (.Call (.Attribute o m apos) (e :: es) [] pos) (tMethF S m sp E ta t) := by
  refine ⟨fun pins s σ H Q I h => ?_⟩
  refine PySem.W.methodCall_KW (pl := pl) (thn (he.run pins s σ H _ I h) fun u s1 ⟨x, H1, I1, rx, a, C, dx, fs, ex, ea, sC, l, q⟩ => ?_) ht
  subst ex
  obtain rfl : u = Value.ref a := rx
  obtain ⟨c, at_⟩ := M.at_ C sC
  have hm : Meth X.K C m f := ⟨at_, M.fn, M.kp⟩
  refine getmeth_ok I1 ea c hm l ?_
  refine PySem.W.callWith_K (first := [.ref a]) (h₀ := X.base) I.ok.mod.kin hm.kp (thn (ha.run pos pins s1 σ H1 _ I1 q) fun us s2 ⟨vs, H2, I2, r, q2⟩ => ⟨I2.kIn, ?_⟩) hst hpl
  exact run_fn (us := .ref a :: us) (vs := .ref a :: vs) F hr hb .nil hx I2 (.cons rfl r) (by simpa using q2)
theorem pe_methF0 {pl : Sem Bool} (he : PE X o ta) (M : MethF X.K S m f) (F : FnOk X.prog X.w X.K X.mg X.base CX k f fd ps sp) (hr : Room k X.A) (hb : Binds X.K fd ps []) (hx : Passes CX X E)
    (ht : eval (.Call (.Attribute o m apos) [] [] pos) X.env = (do
      let ov ← eval o X.env
      standAt apos.atName
      let (f, first) ← holding [ov] (getMethod ov m pl)
      callWith pos f first (backTo pos (starEach [] X.env)) (backToKw pos (keywordEach [] X.env))) := by rfl) :
    PE X (.Call (.Attribute o m apos) [] [] pos) (tMethF S m sp E ta tNil) := by
  refine ⟨fun pins s σ H Q I h => ?_⟩
  refine PySem.W.methodCall_KW (pl := pl) (thn (he.run pins s σ H _ I h) fun u s1 ⟨x, H1, I1, rx, a, C, dx, fs, ex, ea, sC, l, q⟩ => ?_) ht
  subst ex
  obtain rfl : u = Value.ref a := rx
  obtain ⟨c, at_⟩ := M.at_ C sC
  have hm : Meth X.K C m f := ⟨at_, M.fn, M.kp⟩
  refine getmeth_ok I1 ea c hm l ?_
  exact PySem.W.callWith_K0 (first := [.ref a]) I1.kIn hm.kp (run_fn (us := [.ref a]) (vs := [.ref a]) F hr hb .nil hx I1 (.cons rfl .nil) q)
end
/-! ### max(xs, default=d) -/
def mxD : List Int → Int → Int
  | [], d => d
  | y :: ys, _ => PySem.W.maxOf y ys
section
variable {X : Cx}
def rMaxD (K : PySem.W.Frag) : List V → List V → Hp → VK → Prop := fun vs zs H Q => ∃ (a : Addr) (ns : List Int) (d : Int), vs = [V.ref a] ∧ zs = [V.int d] ∧ SqL K H a (ns.map V.int) ∧ Q (.int (mxD ns d)) H
theorem cr_maxD (hc : X.calm = true) (hu : X.A.units + 9 < cLine) : CallRK X (.builtin "max") [Str.ofString "default"] (rMaxD X.K) := by
  intro pins s σ H vs zs us ws Q I r rz h
  obtain ⟨a, ns, d, rfl, rfl, hs, q⟩ := h
  obtain rfl := Vals.ref1 r
  obtain ⟨w1, rfl, e1⟩ := vals1 rz
  obtain ⟨t, rfl⟩ := (show ∃ t, w1 = Value.int d t from e1)
  obtain ⟨its, rv, hL, hz⟩ := I.list hs
  have hH : PySem.W.HoldAll s.heap its.toArray.toList ns := PySem.W.HoldAll.of_ints (by simpa using rv.ints)
  refine PySem.W.max_list_datum_default (I.ok.hd hc) hL.isList hH ?_ (fun e h' tk hk => ?_) fun y ys i v h' tk e hi hv hk => ?_
  · have : PySem.W.Datum.depth Int = 0 := rfl
    omega
  · subst e
    exact ⟨.int d, H, I.kept hk, ⟨_, rfl⟩, q⟩
  · subst e
    obtain ⟨t', rfl⟩ := PySem.W.int_of_holds hv
    exact ⟨.int _, H, I.kept hk, ⟨_, rfl⟩, q⟩
end
end L2

set_option Elab.async false
set_option linter.all false
set_option maxRecDepth 100000
set_option maxHeartbeats 4000000
namespace Ash
open PySem PySem.Spec PyProof.Rows L2
/-! ### moment terms -/
inductive Tm where
  | now
  | last (s : Str) (t : Tm)
  | next (s : Str) (t : Tm)
  | shift (n : Int) (t : Tm)
  | either (a b : Tm)
  | later (a b : Tm)
  | earlier (a b : Tm)
  deriving DecidableEq
namespace Tm
def mx (a b : Int) : Int := if a < b then b else a
def dep : Tm → Int
  | .now => 1
  | .last _ t => 1 + dep t
  | .next _ t => 1 + dep t
  | .shift _ t => 1 + dep t
  | .either a b => 1 + mx (dep a) (dep b)
  | .later a b => 1 + mx (dep a) (dep b)
  | .earlier a b => 1 + mx (dep a) (dep b)
def par : Tm → Int
  | .now => 1
  | .last _ t => 1 + par t
  | .next _ t => 1 + par t
  | .shift _ t => 1 + par t
  | .either a b => 1 + (par a + par b)
  | .later a b => 1 + (par a + par b)
  | .earlier a b => 1 + (par a + par b)
def lok : Tm → Int
  | .now => 0
  | .last _ t => 1 + lok t
  | .next _ t => 1 + lok t
  | .shift _ t => 0 + lok t
  | .either a b => 0 + (lok a + lok b)
  | .later a b => 0 + (lok a + lok b)
  | .earlier a b => 0 + (lok a + lok b)
def cho : Tm → Int
  | .now => 0
  | .last _ t => 1 + cho t
  | .next _ t => 1 + cho t
  | .shift _ t => 0 + cho t
  | .either a b => 0 + (cho a + cho b)
  | .later a b => 1 + (cho a + cho b)
  | .earlier a b => 1 + (cho a + cho b)
def spell : Tm → List V
  | .now => [.str "now"]
  | .last s t => .str "last" :: .str s :: spell t
  | .next s t => .str "next" :: .str s :: spell t
  | .shift n t => .str "shift" :: .int n :: spell t
  | .either a b => .str "either" :: (spell a ++ spell b)
  | .later a b => .str "later" :: (spell a ++ spell b)
  | .earlier a b => .str "earlier" :: (spell a ++ spell b)
/-- not too large -/
def Fit (t : Tm) : Prop := t.dep ≤ 12 ∧ t.par ≤ 40 ∧ t.lok ≤ 12
theorem mx_l (a b : Int) : a ≤ mx a b := by unfold mx; split <;> omega
theorem mx_r (a b : Int) : b ≤ mx a b := by unfold mx; split <;> omega
theorem par_pos : ∀ t : Tm, 1 ≤ t.par
  | .now => by simp [par]
  | .last _ t => by have := par_pos t; simp [par]; omega
  | .next _ t => by have := par_pos t; simp [par]; omega
  | .shift _ t => by have := par_pos t; simp [par]; omega
  | .either a b => by have := par_pos a; have := par_pos b; simp [par]; omega
  | .later a b => by have := par_pos a; have := par_pos b; simp [par]; omega
  | .earlier a b => by have := par_pos a; have := par_pos b; simp [par]; omega
theorem lok_nn : ∀ t : Tm, 0 ≤ t.lok
  | .now => by simp [lok]
  | .last _ t => by have := lok_nn t; simp [lok]; omega
  | .next _ t => by have := lok_nn t; simp [lok]; omega
  | .shift _ t => by have := lok_nn t; simp [lok]; omega
  | .either a b => by have := lok_nn a; have := lok_nn b; simp [lok]; omega
  | .later a b => by have := lok_nn a; have := lok_nn b; simp [lok]; omega
  | .earlier a b => by have := lok_nn a; have := lok_nn b; simp [lok]; omega
theorem dep_pos : ∀ t : Tm, 1 ≤ t.dep
  | .now => by simp [dep]
  | .last _ t => by have := dep_pos t; simp [dep]; omega
  | .next _ t => by have := dep_pos t; simp [dep]; omega
  | .shift _ t => by have := dep_pos t; simp [dep]; omega
  | .either a b => by have := dep_pos a; have := mx_l a.dep b.dep; simp [dep]; omega
  | .later a b => by have := dep_pos a; have := mx_l a.dep b.dep; simp [dep]; omega
  | .earlier a b => by have := dep_pos a; have := mx_l a.dep b.dep; simp [dep]; omega
/-- a spelling is no longer than three times its parts -/
theorem spell_len : ∀ t : Tm, ((spell t).length : Int) ≤ 3 * t.par
  | .now => by simp [spell, par]
  | .last _ t => by have := spell_len t; simp [spell, par]; omega
  | .next _ t => by have := spell_len t; simp [spell, par]; omega
  | .shift _ t => by have := spell_len t; simp [spell, par]; omega
  | .either a b => by have := spell_len a; have := spell_len b; simp [spell, par]; omega
  | .later a b => by have := spell_len a; have := spell_len b; simp [spell, par]; omega
  | .earlier a b => by have := spell_len a; have := spell_len b; simp [spell, par]; omega
/-- all streams are names -/
def Nm : Tm → Prop
  | .now => True
  | .last s t => (1 ≤ s.length ∧ s.length ≤ 8) ∧ Nm t
  | .next s t => (1 ≤ s.length ∧ s.length ≤ 8) ∧ Nm t
  | .shift _ t => Nm t
  | .either a b => Nm a ∧ Nm b
  | .later a b => Nm a ∧ Nm b
  | .earlier a b => Nm a ∧ Nm b
end Tm
/-- the classes of terms -/
structure TC where
  now : Addr
  last : Addr
  next : Addr
  shift : Addr
  either : Addr
  later : Addr
  earlier : Addr
def TC.of (C : TC) : Tm → Addr
  | .now => C.now
  | .last _ _ => C.last
  | .next _ _ => C.next
  | .shift _ _ => C.shift
  | .either _ _ => C.either
  | .later _ _ => C.later
  | .earlier _ _ => C.earlier
/-- one of the classes -/
def TC.Is (C : TC) (a : Addr) : Prop := a = C.now ∨ a = C.last ∨ a = C.next ∨ a = C.shift ∨ a = C.either ∨ a = C.later ∨ a = C.earlier
theorem TC.is_of (C : TC) (t : Tm) : C.Is (C.of t) := by
  cases t
  · exact .inl rfl
  · exact .inr (.inl rfl)
  · exact .inr (.inr (.inl rfl))
  · exact .inr (.inr (.inr (.inl rfl)))
  · exact .inr (.inr (.inr (.inr (.inl rfl))))
  · exact .inr (.inr (.inr (.inr (.inr (.inl rfl)))))
  · exact .inr (.inr (.inr (.inr (.inr (.inr rfl)))))
/-- what stands in each term -/
def fCom (sp : Addr) (t : Tm) : List (Str × V) := [("spelling", .ref sp), ("depth", .int t.dep), ("parts", .int t.par), ("looks", .int t.lok), ("choices", .int t.cho)]
/-- the term t at a -/
def TmAt (C : TC) (H : Hp) : Addr → Tm → Prop
  | a, .now => ∃ dx sp, H a = some (.ins C.now dx (fCom sp .now)) ∧ H sp = some (.tup (Tm.spell .now))
  | a, .last s t => ∃ dx b sp, H a = some (.ins C.last dx (("stream", .str s) :: ("term", .ref b) :: fCom sp (.last s t))) ∧ H sp = some (.tup (Tm.spell (.last s t))) ∧ TmAt C H b t
  | a, .next s t => ∃ dx b sp, H a = some (.ins C.next dx (("stream", .str s) :: ("term", .ref b) :: fCom sp (.next s t))) ∧ H sp = some (.tup (Tm.spell (.next s t))) ∧ TmAt C H b t
  | a, .shift n t => ∃ dx b sp, H a = some (.ins C.shift dx (("term", .ref b) :: ("amount", .int n) :: fCom sp (.shift n t))) ∧ H sp = some (.tup (Tm.spell (.shift n t))) ∧ TmAt C H b t
  | a, .either s t => ∃ dx b c sp, H a = some (.ins C.either dx (("first", .ref b) :: ("second", .ref c) :: fCom sp (.either s t))) ∧ H sp = some (.tup (Tm.spell (.either s t))) ∧ TmAt C H b s ∧ TmAt C H c t
  | a, .later s t => ∃ dx b c sp, H a = some (.ins C.later dx (("first", .ref b) :: ("second", .ref c) :: fCom sp (.later s t))) ∧ H sp = some (.tup (Tm.spell (.later s t))) ∧ TmAt C H b s ∧ TmAt C H c t
  | a, .earlier s t => ∃ dx b c sp, H a = some (.ins C.earlier dx (("first", .ref b) :: ("second", .ref c) :: fCom sp (.earlier s t))) ∧ H sp = some (.tup (Tm.spell (.earlier s t))) ∧ TmAt C H b s ∧ TmAt C H c t
/-- all but lists stands -/
def NL (H H' : Hp) : Prop := ∀ c o, H c = some o → (∀ xs, o ≠ .lst xs) → H' c = some o
theorem NL.trans {H H1 H2 : Hp} (a : NL H H1) (b : NL H1 H2) : NL H H2 := fun c o h n => b c o (a c o h n) n
theorem nl_same {H H' : Hp} (s : Same H H') : NL H H' := fun c o h _ => s c o h
theorem TmAt.nl {C : TC} {H H' : Hp} (n : NL H H') : ∀ {t : Tm} {a : Addr}, TmAt C H a t → TmAt C H' a t
  | .now, a, ⟨dx, sp, h1, h2⟩ => ⟨dx, sp, n _ _ h1 (fun _ z => nomatch z), n _ _ h2 (fun _ z => nomatch z)⟩
  | .last s t, a, ⟨dx, b, sp, h1, h2, h3⟩ => ⟨dx, b, sp, n _ _ h1 (fun _ z => nomatch z), n _ _ h2 (fun _ z => nomatch z), TmAt.nl n h3⟩
  | .next s t, a, ⟨dx, b, sp, h1, h2, h3⟩ => ⟨dx, b, sp, n _ _ h1 (fun _ z => nomatch z), n _ _ h2 (fun _ z => nomatch z), TmAt.nl n h3⟩
  | .shift s t, a, ⟨dx, b, sp, h1, h2, h3⟩ => ⟨dx, b, sp, n _ _ h1 (fun _ z => nomatch z), n _ _ h2 (fun _ z => nomatch z), TmAt.nl n h3⟩
  | .either s t, a, ⟨dx, b, c, sp, h1, h2, h3, h4⟩ => ⟨dx, b, c, sp, n _ _ h1 (fun _ z => nomatch z), n _ _ h2 (fun _ z => nomatch z), TmAt.nl n h3, TmAt.nl n h4⟩
  | .later s t, a, ⟨dx, b, c, sp, h1, h2, h3, h4⟩ => ⟨dx, b, c, sp, n _ _ h1 (fun _ z => nomatch z), n _ _ h2 (fun _ z => nomatch z), TmAt.nl n h3, TmAt.nl n h4⟩
  | .earlier s t, a, ⟨dx, b, c, sp, h1, h2, h3, h4⟩ => ⟨dx, b, c, sp, n _ _ h1 (fun _ z => nomatch z), n _ _ h2 (fun _ z => nomatch z), TmAt.nl n h3, TmAt.nl n h4⟩
theorem TmAt.same {C : TC} {H H' : Hp} {t : Tm} {a : Addr} (h : TmAt C H a t) (s : Same H H') : TmAt C H' a t := h.nl (nl_same s)
/-- what all terms have -/
theorem TmAt.ins {C : TC} {H : Hp} : ∀ {t : Tm} {a : Addr}, TmAt C H a t → ∃ dx fs sp, H a = some (.ins (C.of t) dx fs) ∧ H sp = some (.tup t.spell) ∧ ∃ x y : Str × V, (fs = fCom sp t ∨ fs = x :: y :: fCom sp t ∧ x.1 ∈ [("stream" : Str), "term", "first"] ∧ y.1 ∈ [("term" : Str), "amount", "second"])
  | .now, a, ⟨dx, sp, h1, h2⟩ => ⟨dx, _, sp, h1, h2, ("", .non), ("", .non), .inl rfl⟩
  | .last s t, a, ⟨dx, b, sp, h1, h2, h3⟩ => ⟨dx, _, sp, h1, h2, _, _, .inr ⟨rfl, by simp, by simp⟩⟩
  | .next s t, a, ⟨dx, b, sp, h1, h2, h3⟩ => ⟨dx, _, sp, h1, h2, _, _, .inr ⟨rfl, by simp, by simp⟩⟩
  | .shift s t, a, ⟨dx, b, sp, h1, h2, h3⟩ => ⟨dx, _, sp, h1, h2, _, _, .inr ⟨rfl, by simp, by simp⟩⟩
  | .either s t, a, ⟨dx, b, c, sp, h1, h2, h3, h4⟩ => ⟨dx, _, sp, h1, h2, _, _, .inr ⟨rfl, by simp, by simp⟩⟩
  | .later s t, a, ⟨dx, b, c, sp, h1, h2, h3, h4⟩ => ⟨dx, _, sp, h1, h2, _, _, .inr ⟨rfl, by simp, by simp⟩⟩
  | .earlier s t, a, ⟨dx, b, c, sp, h1, h2, h3, h4⟩ => ⟨dx, _, sp, h1, h2, _, _, .inr ⟨rfl, by simp, by simp⟩⟩
theorem skip2 {x y : Str × V} {l : List (Str × V)} {f : Str} (hx : x.1 ∈ [("stream" : Str), "term", "first"]) (hy : y.1 ∈ [("term" : Str), "amount", "second"]) (hf : f ∉ [("stream" : Str), "term", "first", "amount", "second"]) : List.lookup f (x :: y :: l) = List.lookup f l := by
  obtain ⟨x1, x2⟩ := x
  obtain ⟨y1, y2⟩ := y
  have e1 : (f == x1) = false := by
    refine beq_eq_false_iff_ne.mpr fun z => hf ?_
    subst z
    simp only [List.mem_cons, List.not_mem_nil, or_false] at hx ⊢
    rcases hx with h | h | h <;> simp [h]
  have e2 : (f == y1) = false := by
    refine beq_eq_false_iff_ne.mpr fun z => hf ?_
    subst z
    simp only [List.mem_cons, List.not_mem_nil, or_false] at hy ⊢
    rcases hy with h | h | h <;> simp [h]
  simp only [List.lookup, e1, e2]
/-- the attributes that all terms have -/
structure TmIn (C : TC) (H : Hp) (a : Addr) (t : Tm) (dx : Addr) (fs : List (Str × V)) (sp : Addr) : Prop where
  at_ : H a = some (.ins (C.of t) dx fs)
  spl : H sp = some (.tup t.spell)
  spelling : fs.lookup ("spelling" : Str) = some (.ref sp)
  depth : fs.lookup ("depth" : Str) = some (.int t.dep)
  parts : fs.lookup ("parts" : Str) = some (.int t.par)
  looks : fs.lookup ("looks" : Str) = some (.int t.lok)
  choices : fs.lookup ("choices" : Str) = some (.int t.cho)
  no : ∀ f : Str, f ∉ [("stream" : Str), "term", "first", "amount", "second"] → f ∉ [("spelling" : Str), "depth", "parts", "looks", "choices"] → fs.lookup f = none
theorem fCom_no {sp : Addr} {t : Tm} {f : Str} (h : f ∉ [("spelling" : Str), "depth", "parts", "looks", "choices"]) : (fCom sp t).lookup f = none := by
  simp only [List.mem_cons, List.not_mem_nil, or_false, not_or] at h
  obtain ⟨h1, h2, h3, h4, h5⟩ := h
  simp [fCom, List.lookup, beq_eq_false_iff_ne.mpr h1, beq_eq_false_iff_ne.mpr h2, beq_eq_false_iff_ne.mpr h3, beq_eq_false_iff_ne.mpr h4, beq_eq_false_iff_ne.mpr h5]
theorem TmAt.in_ {C : TC} {H : Hp} {t : Tm} {a : Addr} (h : TmAt C H a t) : ∃ dx fs sp, TmIn C H a t dx fs sp := by
  obtain ⟨dx, fs, sp, h1, h2, x, y, e⟩ := h.ins
  refine ⟨dx, fs, sp, h1, h2, ?_, ?_, ?_, ?_, ?_, fun f n1 n2 => ?_⟩
  · rcases e with rfl | ⟨rfl, ex, ey⟩
    · rfl
    · rw [skip2 ex ey (by decide +kernel)]; rfl
  · rcases e with rfl | ⟨rfl, ex, ey⟩
    · rfl
    · rw [skip2 ex ey (by decide +kernel)]; rfl
  · rcases e with rfl | ⟨rfl, ex, ey⟩
    · rfl
    · rw [skip2 ex ey (by decide +kernel)]; rfl
  · rcases e with rfl | ⟨rfl, ex, ey⟩
    · rfl
    · rw [skip2 ex ey (by decide +kernel)]; rfl
  · rcases e with rfl | ⟨rfl, ex, ey⟩
    · rfl
    · rw [skip2 ex ey (by decide +kernel)]; rfl
  · rcases e with rfl | ⟨rfl, ex, ey⟩
    · exact fCom_no n2
    · rw [skip2 ex ey n1]; exact fCom_no n2
end Ash

set_option Elab.async false
set_option linter.all false
set_option maxRecDepth 100000
set_option maxHeartbeats 4000000
namespace L2
open PySem PySem.Spec PyProof.Rows
def rGtT (K : PySem.W.Frag) : R2 := fun x y H Q => ∃ (a b : Addr) (i j k l : Int), x = .ref a ∧ y = .ref b ∧ SqT K H a [.int i, .int j] ∧ SqT K H b [.int k, .int l] ∧
  Q (.bl (if i = k then (if j = l then false else decide (l < j)) else decide (k < i))) H
/-- (i, j) > (k, l) -/
theorem op_gtT {X : Cx} (hu : X.A.units < cLine) : OpR X (compareOp .Gt) (rGtT X.K) := by
  intro pins s σ H x y v u Q I rx ry h
  obtain ⟨a, b, i0, j0, k0, l0, rfl, rfl, ha, hb, q⟩ := h
  cases rx
  cases ry
  obtain ⟨its, r1, p1, _⟩ := I.tuple ha
  obtain ⟨its2, r2, p2, _⟩ := I.tuple hb
  obtain ⟨ns, hns⟩ : ∃ ns : List Int, ns = [i0, j0] := ⟨_, rfl⟩
  obtain ⟨ms, hms⟩ : ∃ ms : List Int, ms = [k0, l0] := ⟨_, rfl⟩
  have i1 : IntsAre its ns := Vals.ints (by rw [hns]; exact r1)
  have i2 : IntsAre its2 ms := Vals.ints (by rw [hms]; exact r2)
  have e1 : its.toArray.size = ns.length := by rw [List.size_toArray]; exact i1.length
  have e2 : its2.toArray.size = ms.length := by rw [List.size_toArray]; exact i2.length
  have at1 : ∀ j (h1 : j < its.toArray.size), ∃ t, its.toArray[j] = .int (ns.getD j 0) t := fun j h1 => PyProof.Rows.IntsAre.int_at i1 _ _ (by simp at h1; simp [h1])
  have at2 : ∀ j (h1 : j < its2.toArray.size), ∃ t, its2.toArray[j] = .int (ms.getD j 0) t := fun j h1 => PyProof.Rows.IntsAre.int_at i2 _ _ (by simp at h1; simp [h1])
  have R := Ob.RcOp.tuples_gt (A := X.A) (s := s) (e := fun j => decide (ns.getD j 0 = ms.getD j 0)) (r := fun j => decide (ms.getD j 0 < ns.getD j 0)) p1 p2 hu (fun j h1 h2 => by
    obtain ⟨t, et⟩ := at1 j h1
    obtain ⟨t', et'⟩ := at2 j h2
    rw [et, et']
    have z : (ns.getD j 0 == ms.getD j 0) = decide (ns.getD j 0 = ms.getD j 0) := by
      by_cases q : ns.getD j 0 = ms.getD j 0
      · rw [decide_eq_true q]; exact beq_iff_eq.mpr q
      · rw [decide_eq_false q]; exact beq_eq_false_iff_ne.mpr q
    rw [← z]
    exact SeqAt.EqAt.int_int _ _ _ _) (fun j h1 h2 _ => by
    obtain ⟨t, et⟩ := at1 j h1
    obtain ⟨t', et'⟩ := at2 j h2
    rw [et, et']
    exact Ob.RcOp.gt_int _ _ _ _)
  rw [e1, e2, hns, hms] at R
  have z : wpAny (model X.prog X.w) X.A (compareOp .Gt (.ref a) (.ref b)) (EP X pins σ Q) X.xe s := by
    refine R X.prog X.w X.xe (EP X pins σ Q) ⟨.bl _, H, I, rfl, ?_⟩
    have ee : Ob.lexAt (fun j => decide (([i0, j0] : List Int).getD j 0 = ([k0, l0] : List Int).getD j 0)) (fun j => decide (([k0, l0] : List Int).getD j 0 < ([i0, j0] : List Int).getD j 0)) (decide (([i0, j0] : List Int).length > ([k0, l0] : List Int).length)) 0 (min ([i0, j0] : List Int).length ([k0, l0] : List Int).length) = (if i0 = k0 then (if j0 = l0 then false else decide (l0 < j0)) else decide (k0 < i0)) := by
      show Ob.lexAt _ _ _ 0 2 = _
      rw [Ob.lexAt_succ, Ob.lexAt_succ, Ob.lexAt_zero]
      show (if decide (i0 = k0) = true then (if decide (j0 = l0) = true then decide (2 > 2) else decide (l0 < j0)) else decide (k0 < i0)) = _
      by_cases c1 : i0 = k0 <;> by_cases c2 : j0 = l0 <;> simp [c1, c2]
    rw [← ee] at q
    exact q
  exact z
end L2
namespace Ash
open PySem PySem.Spec PyProof.Rows L2 SrtT
open C8 (pss_cut)
/-! ### rows by streams, as data -/
theorem none_of {H H' : Hp} {q : Addr} (s : Same H H') (h : H' q = none) : H q = none := by
  cases e : H q with
  | none => rfl
  | some o => rw [s _ _ e] at h; cases h
theorem list_take {α : Type} {l : List α} {i : Nat} {x : α} (h : l[i]? = some x) : l.take (i + 1) = l.take i ++ [x] := by
  rw [List.take_add_one, h]
  rfl
def tv (t : T3) : List V := [.int t.1, .int t.2.1, .int t.2.2]
/-- ys are tuples of the triples ts -/
def TrAt (H : Hp) (ys : List V) (ts : List T3) : Prop := ys.length = ts.length ∧ ∀ (i : Nat) v t, ys[i]? = some v → ts[i]? = some t → ∃ e, v = .ref e ∧ H e = some (.tup (tv t))
theorem TrAt.tk {H H' : Hp} {ys : List V} {ts : List T3} (h : TrAt H ys ts) (s : ∀ t xs, H t = some (.tup xs) → H' t = some (.tup xs)) : TrAt H' ys ts := ⟨h.1, fun i v t a b => by
  obtain ⟨e, h1, h2⟩ := h.2 i v t a b
  exact ⟨e, h1, s _ _ h2⟩⟩
theorem TrAt.snoc {H : Hp} {ys : List V} {ts : List T3} {e : Addr} {t : T3} (h : TrAt H ys ts) (he : H e = some (.tup (tv t))) : TrAt H (ys ++ [.ref e]) (ts ++ [t]) := by
  refine ⟨by rw [List.length_append, List.length_append, h.1]; rfl, fun i v u a b => ?_⟩
  by_cases hi : i < ys.length
  · rw [List.getElem?_append_left hi] at a
    rw [List.getElem?_append_left (by rw [← h.1]; exact hi)] at b
    exact h.2 i v u a b
  · have hi' : i = ys.length := by
      have := (List.getElem?_eq_some_iff.mp a).1
      rw [List.length_append] at this
      have : i < ys.length + 1 := this
      omega
    subst hi'
    rw [List.getElem?_append_right (Nat.le_refl _), Nat.sub_self] at a
    rw [h.1, List.getElem?_append_right (Nat.le_refl _), Nat.sub_self] at b
    cases a
    cases b
    exact ⟨e, rfl, he⟩
/-- the triple of a tuple -/
def triOf (H : Hp) : V → T3
  | .ref e => match H e with
    | some (.tup [.int a, .int b, .int c]) => (a, b, c)
    | _ => (0, 0, 0)
  | _ => (0, 0, 0)
theorem triOf_at {H : Hp} {e : Addr} {t : T3} (h : H e = some (.tup (tv t))) : triOf H (.ref e) = t := by
  show (match H e with
    | some (.tup [.int a, .int b, .int c]) => (a, b, c)
    | _ => (0, 0, 0)) = t
  rw [h]
  rfl
theorem TrAt.map {H : Hp} {ys : List V} {ts : List T3} (h : TrAt H ys ts) : ys.map (triOf H) = ts := by
  apply List.ext_getElem?
  intro i
  rw [List.getElem?_map]
  by_cases hi : i < ys.length
  · have hj : i < ts.length := by rw [← h.1]; exact hi
    obtain ⟨e, h1, h2⟩ := h.2 i _ _ (List.getElem?_eq_getElem hi) (List.getElem?_eq_getElem hj)
    rw [List.getElem?_eq_getElem hi, List.getElem?_eq_getElem hj, h1, Option.map_some, triOf_at h2]
  · rw [List.getElem?_eq_none (by omega), List.getElem?_eq_none (by rw [← h.1]; omega)]
    rfl
theorem TrAt.get {H : Hp} {ys : List V} {ts : List T3} (h : TrAt H ys ts) {i : Nat} {t : T3} (e : ts[i]? = some t) : ∃ a, ys[i]? = some (.ref a) ∧ H a = some (.tup (tv t)) := by
  have hi : i < ys.length := by rw [h.1]; exact (List.getElem?_eq_some_iff.mp e).1
  obtain ⟨a, h1, h2⟩ := h.2 i _ _ (List.getElem?_eq_getElem hi) e
  exact ⟨a, by rw [List.getElem?_eq_getElem hi, h1], h2⟩
abbrev Tr := Str → List T3
def idsOf (names : List Str) (T : Tr) : List Int := names.flatMap fun z => (T z).map (·.2.1)
def addT (T : Tr) (z : Str) (t : T3) : Tr := fun y => if y = z then T z ++ [t] else T y
theorem addT_at {T : Tr} {z : Str} {t : T3} : addT T z t z = T z ++ [t] := if_pos rfl
theorem addT_no {T : Tr} {z y : Str} {t : T3} (h : ¬ y = z) : addT T z t y = T y := if_neg h
theorem ids_skip {T : Tr} {z : Str} {t : T3} : ∀ {names : List Str}, z ∉ names → idsOf names (addT T z t) = idsOf names T
  | [], _ => rfl
  | a :: r, h => by
    have h1 : ¬ a = z := fun q => h (by rw [q]; exact List.mem_cons_self)
    show (addT T z t a).map (·.2.1) ++ idsOf r (addT T z t) = (T a).map (·.2.1) ++ idsOf r T
    rw [addT_no h1, ids_skip (fun q => h (List.mem_cons_of_mem _ q))]
theorem ids_add {T : Tr} {z : Str} {t : T3} : ∀ {names : List Str}, names.Nodup → z ∈ names → (idsOf names (addT T z t)).Perm (idsOf names T ++ [t.2.1])
  | [], _, h => nomatch h
  | a :: r, hn, h => by
    obtain ⟨h1, h2⟩ := List.nodup_cons.mp hn
    show ((addT T z t a).map (·.2.1) ++ idsOf r (addT T z t)).Perm ((T a).map (·.2.1) ++ idsOf r T ++ [t.2.1])
    by_cases e : a = z
    · subst e
      rw [ids_skip h1, addT_at, List.map_append, List.append_assoc, List.append_assoc]
      exact List.Perm.append_left _ (List.perm_append_comm)
    · rw [addT_no e, List.append_assoc]
      exact List.Perm.append_left _ (ids_add h2 ((List.mem_cons.mp h).resolve_left fun q => e q.symm))
theorem mem_ids {names : List Str} {T : Tr} {i : Int} : i ∈ idsOf names T ↔ ∃ z ∈ names, ∃ t ∈ T z, t.2.1 = i := by
  unfold idsOf
  simp only [List.mem_flatMap, List.mem_map]
theorem ids_sub {names : List Str} {T : Tr} {z : Str} : z ∈ names → ((T z).map (·.2.1)).Sublist (idsOf names T) := fun h => by
  unfold idsOf
  induction names with
  | nil => cases h
  | cons a r ih =>
    rw [List.flatMap_cons]
    rcases List.mem_cons.mp h with rfl | h
    · exact List.sublist_append_left _ _
    · exact (ih h).trans (List.sublist_append_right _ _)
/-- rows whose ids are told apart -/
structure GoodT (names : List Str) (T : Tr) (n : Nat) : Prop where
  len : (idsOf names T).length = n
  nd : (idsOf names T).Nodup
  lo : ∀ i ∈ idsOf names T, 0 ≤ i
theorem GoodT.few {names : List Str} {T : Tr} {n : Nat} {z : Str} (g : GoodT names T n) (h : z ∈ names) : (T z).length ≤ n := by
  have := (ids_sub (T := T) h).length_le
  rw [List.length_map, g.len] at this
  exact this
theorem GoodT.apart {names : List Str} {T : Tr} {n : Nat} {z : Str} (g : GoodT names T n) (h : z ∈ names) : ((T z).map (·.2.1)).Nodup := g.nd.sublist (ids_sub h)
/-- the rows of each stream, in the lists of a dict -/
structure RwAt (H : Hp) (d : Addr) (names : List Str) (A : Str → Addr) (T : Tr) : Prop where
  at_ : H d = some (.dK (names.map fun z => (Sum.inr z, V.ref (A z))))
  row : ∀ z ∈ names, ∃ ys, H (A z) = some (.lst ys) ∧ TrAt H ys (T z)
  inj : ∀ z ∈ names, ∀ y ∈ names, A z = A y → z = y
theorem RwAt.same {H H' : Hp} {d : Addr} {names : List Str} {A : Str → Addr} {T : Tr} (h : RwAt H d names A T) (s : Same H H') : RwAt H' d names A T :=
  ⟨s _ _ h.at_, fun z hz => by
    obtain ⟨ys, h1, h2⟩ := h.row z hz
    exact ⟨ys, s _ _ h1, h2.tk fun t xs q => s _ _ q⟩, h.inj⟩
theorem RwAt.pl {H H' : Hp} {p s d : Addr} {names : List Str} {A : Str → Addr} {T : Tr} (h : RwAt H d names A T) (P0 : PoolAt H p s) (n : ∀ z ∈ names, A z ≠ p) (P : Pl H H' p s) : RwAt H' d names A T := by
  obtain ⟨ns, i, c, k, m, hp, _⟩ := id P0
  exact ⟨P.keep h.at_ (ne_of h.at_ hp (by intro z; cases z)), fun z hz => by
    obtain ⟨ys, h1, h2⟩ := h.row z hz
    exact ⟨ys, P.keep h1 (n z hz), h2.tk fun t xs q => P.keep q (ne_of q hp (by intro z; cases z))⟩, h.inj⟩
theorem valV_nm {A : Str → V} {z : Str} : ∀ {names : List Str}, valV (names.map fun z => ((Sum.inr z : Key), A z)) (Sum.inr z : Key) = if z ∈ names then some (A z) else none
  | [] => rfl
  | a :: r => by
    rw [List.map_cons]
    by_cases e : a = z
    · subst e
      rw [valV_pos rfl, if_pos List.mem_cons_self]
    · rw [valV_neg (fun q => e (Sum.inr.inj q)), valV_nm]
      by_cases h : z ∈ r
      · rw [if_pos h, if_pos (List.mem_cons_of_mem _ h)]
      · rw [if_neg h, if_neg (fun q => (List.mem_cons.mp q).elim (fun q => e q.symm) h)]
/-- one more row -/
theorem RwAt.add {H1 : Hp} {d e : Addr} {names : List Str} {A : Str → Addr} {T : Tr} {z : Str} {t : T3} {ys : List V} (h : RwAt H1 d names A T) (hz : z ∈ names) (hy : H1 (A z) = some (.lst ys)) (hT : TrAt H1 ys (T z)) (he : H1 e = some (.tup (tv t))) :
    RwAt (upd H1 (A z) (.lst (ys ++ [.ref e]))) d names A (addT T z t) := by
  have tk : ∀ t xs, H1 t = some (.tup xs) → (upd H1 (A z) (.lst (ys ++ [.ref e]))) t = some (.tup xs) := fun t xs q => by rw [upd_ne (ne_of q hy (by intro z; cases z))]; exact q
  refine ⟨by rw [upd_ne (ne_of h.at_ hy (by intro z; cases z))]; exact h.at_, fun y hy2 => ?_, h.inj⟩
  by_cases c : y = z
  · subst c
    rw [addT_at]
    exact ⟨_, upd_same, (hT.tk tk).snoc (tk _ _ he)⟩
  · rw [addT_no c]
    obtain ⟨us, h1, h2⟩ := h.row y hy2
    exact ⟨us, by rw [upd_ne (fun q => c (h.inj y hy2 z hz q))]; exact h1, h2.tk tk⟩
/-- a moment, or an amount, is not far -/
def Bd (m : Int) : Prop := -10000000000000000000000 ≤ m ∧ m ≤ 10000000000000000000000
def spMoment : Sp := fun vs H Q _ => ∃ (p s : Addr), vs = [.ref p] ∧ PoolAt H p s ∧ ∀ (m : Int) H', Bd m → Pl H H' p s → Q (.int m) H'
def spLWRows : Sp := fun vs H Q _ => ∃ (p s l : Addr) (names : List Str) (many : Int), vs = [.ref p, .ref l, .int many] ∧ PoolAt H p s ∧ l ≠ p ∧ H l = some (.lst (names.map V.str)) ∧ 1 ≤ names.length ∧ names.length ≤ 25 ∧ names.Nodup ∧ 0 ≤ many ∧ many ≤ 100 ∧
  ∀ (d : Addr) (A : Str → Addr) (T : Tr) H', H d = none → (∀ z ∈ names, H (A z) = none) → RwAt H' d names A T → GoodT names T many.toNat → (∀ i ∈ idsOf names T, i < 11 * many) → (∀ y, ∀ t ∈ T y, Bd t.2.2) → Pl H H' p s → Q (.ref d) H'
theorem bd_far {y u : Int} (y0 : 0 ≤ y) (y8 : y < 2000001) (u0 : 0 ≤ u) (u8 : u < 5) : Bd ((y - 1000000) * (10 : Int) ^ (15 : Int).toNat + u) := by
  have e : (10 : Int) ^ (15 : Int).toNat = 1000000000000000 := by decide
  rw [e]
  unfold Bd
  omega
section
variable {P : Program} {w : World} {K : PySem.W.Frag} {mg : Str → Option Value} {base : Heap}
abbrev s_l_moment : Stmt := topS 71
theorem sc_l_moment : FnScope ["pool"] ["pool"] (defScope s_l_moment) := ⟨rfl, rfl, rfl, by decide +kernel, rfl, by decide +kernel, by decide +kernel⟩
theorem ok_moment {f : Addr} {fd : FuncData} (F : Fun K "_law_moment" "_law_moment" s_l_moment f fd) (B : Blt mg) (G : G1 P w K mg base) : FnOk P w K mg base CX0 2 f fd ["pool"] spMoment := by
  refine F.ok sc_l_moment (fun vs H Q E h => ?_) (fun cdv A outer s H vs Q E hr h => ?_)
  · obtain ⟨p, _, rfl, _⟩ := h
    rfl
  · obtain ⟨p, s0, rfl, hP, kk⟩ := h
    refine ⟨_, (pss_cons (ps_if (pt_cmpR op_eq (pe_cal G.law_draw (hr.mono (by decide)) pass0 (pa_cons (pv 0) (pa_cons pe_int pa_nil))) pe_int (nomark _))
      (pss_one (ps_ret (pe_op op_add (pe_op op_mul (pe_op op_sub (pe_cal G.law_draw (hr.mono (by decide)) pass0 (pa_cons (pv 0) (pa_cons pe_int pa_nil))) pe_int) (pe_op op_pow pe_int pe_int)) (pe_cal G.law_draw (hr.mono (by decide)) pass0 (pa_cons (pv 0) (pa_cons pe_int pa_nil))))))
      pss_nil)
    (pss_one (ps_ret (pe_op op_sub (pe_cal G.law_draw (hr.mono (by decide)) pass0 (pa_cons (pv 0) (pa_cons pe_int pa_nil))) pe_int)))), ?_⟩
    refine ⟨_, rfl, p, s0, 8, rfl, hP, (by decide), (by decide), fun x H1 x0 x8 P1 => ⟨rfl, _, rfl, ?_⟩⟩
    refine ite2 (fun c => ?_) (fun c => ?_)
    · refine ⟨_, rfl, p, s0, 2000001, rfl, P1.now, (by decide), (by decide), fun y H2 y0 y8 P2 => ?_⟩
      refine ⟨_, _, rfl, rfl, _, _, rfl, rfl, ⟨by decide, by decide, by decide⟩, _, _, rfl, rfl, .inl ⟨by omega, by omega⟩, _, rfl, p, s0, 5, rfl, P2.now, (by decide), (by decide), fun u H3 u0 u8 P3 => ⟨_, _, rfl, rfl, kk _ H3 (bd_far y0 y8 u0 u8) ((P1.trans P2).trans P3)⟩⟩
    · refine ⟨_, rfl, p, s0, 15, rfl, P1.now, (by decide), (by decide), fun y H2 y0 y8 P2 => ⟨_, _, rfl, rfl, kk _ H2 (by unfold Bd; omega) (P1.trans P2)⟩⟩
structure G2w (P : Program) (w : World) (K : PySem.W.Frag) (mg : Str → Option Value) (base : Heap) : Prop extends G1 P w K mg base where
  law_moment : Cal P w K mg base CX0 "_law_moment" 2 ["pool"] spMoment
abbrev s_l_rows : Stmt := topS 72
theorem sc_l_rows : FnScope ["pool", "streams", "many", "rows", "stream", "k"] ["pool", "streams", "many"] (defScope s_l_rows) := ⟨rfl, rfl, rfl, by decide +kernel, rfl, by decide +kernel, by decide +kernel⟩
theorem ok_wrows {f : Addr} {fd : FuncData} (F : Fun K "_law_rows" "_law_rows" s_l_rows f fd) (B : Blt mg) (G : G2w P w K mg base) : FnOk P w K mg base CX0 3 f fd ["pool", "streams", "many"] spLWRows := by
  refine F.ok sc_l_rows (fun vs H Q E h => ?_) (fun cdv A outer s H vs Q E hr h => ?_)
  · obtain ⟨p, _, l, names, many, rfl, _⟩ := h
    rfl
  · obtain ⟨p, s0, l, names, many, rfl, hP, hlp, hl, n1, n25, hnd, m0, m100, kk⟩ := h
    have hu := hu_of hr
    refine ⟨_, (pss_cons (ps_set (i := 3) sc_l_rows.nd rfl (Or.inl rfl) pe_dnewK)
    (pss_cons (ps_for PassesOwn.never rfl (pi_list (pv 1)) (pg_name (i := 4) sc_l_rows.nd rfl (Or.inl rfl))
      (pss_one (ps_dput hu (pv 3) (pv 4) (pe_lst pa_nil) rfl)))
    (pss_cons (ps_for PassesOwn.never rfl (pi_range1 (by rfl) B.range (pa_cons (pv 2) pa_nil)) (pg_name (i := 5) sc_l_rows.nd rfl (Or.inl rfl))
      (pss_cons (ps_set (i := 4) sc_l_rows.nd rfl (Or.inl rfl) (pe_ix ix_list (pv 1) (pe_cal G.law_draw (hr.mono (by decide)) pass0 (pa_cons (pv 0) (pa_cons (pe_callB call_len (by rfl) B.len (by decide +kernel) (pa_cons (pv 1) pa_nil)) pa_nil))) (fun _ _ => rfl)))
      (pss_one (ps_expr (pe_bm PySem.F.plainAttrs_list PySem.F.slot_list_append PySem.F.type_list_append mt_append (pe_dget hu (pv 3) (pv 4) (fun _ _ => rfl)) (pa_cons (pe_tup (pa_cons (pe_cal G.law_moment (hr.mono (by decide)) pass0 (pa_cons (pv 0) pa_nil)) (pa_cons (pe_op op_add (pe_op op_mul pe_int (pv 5)) (pe_cal G.law_draw (hr.mono (by decide)) pass0 (pa_cons (pv 0) (pa_cons pe_int pa_nil)))) (pa_cons (pe_cal G.law_moment (hr.mono (by decide)) pass0 (pa_cons (pv 0) pa_nil)) pa_nil)))) pa_nil))))))
    (pss_one (ps_ret (pv 3)))))), ?_⟩
    intro d hd
    have dp : d ≠ p := fun z => hP.ne.1 (z ▸ hd)
    have ds : d ≠ s0 := fun z => hP.ne.2 (z ▸ hd)
    have dl : l ≠ d := fun z => by rw [← z, hl] at hd; cases hd
    refine ⟨_, rfl, l, rfl, ⟨_, SqL.of (by rw [upd_ne dl]; exact hl)⟩, for_list (K := K) (a := l) (xs := names.map V.str) (fun i σ H1 => (∃ a b, σ = [some (.ref p), some (.ref l), some (.int many), some (.ref d), a, b]) ∧ Same H H1 ∧ ∃ A : Str → Addr, (H1 d = some (.dK ((names.take i).map fun z => (Sum.inr z, V.ref (A z))))) ∧ (∀ z ∈ names.take i, H1 (A z) = some (.lst []) ∧ H (A z) = none ∧ A z ≠ d) ∧ ∀ z ∈ names.take i, ∀ y ∈ names.take i, A z = A y → z = y) ?_ (fun i σ H1 _ hv => SqL.of (hv.2.1 _ _ hl)) ?_ ?_⟩
    · exact ⟨⟨_, _, rfl⟩, sameAt (Same.refl H) hd, fun _ => d, upd_same, (fun z hz => nomatch hz), (fun z hz => nomatch hz)⟩
    · rintro i y σ H1 hi ⟨⟨a, b, rfl⟩, s1, A, h1, h2, h3⟩
      obtain ⟨z, hz, rfl⟩ : ∃ z, names[i]? = some z ∧ y = V.str z := by
        rw [List.getElem?_map] at hi
        cases e : names[i]? with
        | none => rw [e] at hi; cases hi
        | some z => rw [e] at hi; exact ⟨z, rfl, (Option.some.inj hi).symm⟩
      have hzt : z ∉ names.take i := fun hm => by
        obtain ⟨j, hj, e⟩ := List.getElem_of_mem hm
        rw [List.length_take] at hj
        rw [List.getElem_take] at e
        have := nd_ix hnd (List.getElem?_eq_some_iff.mpr ⟨by omega, e⟩) hz
        omega
      have tl : (names.take i).length ≤ 25 := by rw [List.length_take]; omega
      refine ⟨(by show 0 ≤ sizeLine; decide), fun e he => ?_⟩
      have e0 : H e = none := none_of s1 he
      have ed : e ≠ d := fun q => by rw [q, h1] at he; cases he
      refine ⟨_, rfl, _, rfl, d, _, rfl, DPut.k (k := Sum.inr z) (by rw [upd_ne (Ne.symm ed)]; exact h1) (by rw [List.length_map]; exact small1000 (by omega)), ⟨_, _, rfl⟩, ?_, fun y => if y = z then e else A y, ?_, ?_, ?_⟩
      · exact fun c o hc => by rw [upd_ne (ne_of_none hc hd), upd_ne (ne_of_none hc e0)]; exact s1 _ _ hc
      · rw [upd_same, putK_new _ (by rw [valV_nm, if_neg hzt]), list_take hz, List.map_append]
        show some (HO.dK (_ ++ [(Sum.inr z, V.ref e)])) = some (HO.dK (_ ++ [(Sum.inr z, V.ref (if z = z then e else A z))]))
        rw [if_pos rfl]
        refine congrArg (fun q => some (HO.dK (q ++ [((Sum.inr z : Key), V.ref e)]))) (List.map_congr_left fun y hy => ?_)
        show (Sum.inr y, V.ref (A y)) = ((Sum.inr y : Key), V.ref (if y = z then e else A y))
        rw [if_neg (fun q : y = z => hzt (by rw [← q]; exact hy))]
      · intro y hy
        rw [list_take hz] at hy
        show upd _ _ _ (if y = z then e else A y) = _ ∧ H (if y = z then e else A y) = none ∧ (if y = z then e else A y) ≠ d
        rcases List.mem_append.mp hy with hy | hy
        · have hn : ¬ y = z := fun q => hzt (by rw [← q]; exact hy)
          obtain ⟨q1, q2, q3⟩ := h2 y hy
          have qe : A y ≠ e := fun q => by rw [q, he] at q1; cases q1
          rw [if_neg hn]
          exact ⟨by rw [upd_ne q3, upd_ne qe]; exact q1, q2, q3⟩
        · rw [List.mem_singleton.mp hy, if_pos rfl]
          exact ⟨by rw [upd_ne ed, upd_same], e0, ed⟩
      · intro y hy x hx
        rw [list_take hz] at hy hx
        show (if y = z then e else A y) = (if x = z then e else A x) → _
        have nz : ∀ u ∈ names.take i, ¬ u = z := fun u hu q => hzt (by rw [← q]; exact hu)
        have ne : ∀ u ∈ names.take i, A u ≠ e := fun u hu q => by
          have := (h2 u hu).1
          rw [q, he] at this
          cases this
        rcases List.mem_append.mp hy with hy | hy <;> rcases List.mem_append.mp hx with hx | hx
        · rw [if_neg (nz y hy), if_neg (nz x hx)]
          exact h3 y hy x hx
        · rw [List.mem_singleton.mp hx, if_neg (nz y hy), if_pos rfl]
          exact fun q => absurd q (ne y hy)
        · rw [List.mem_singleton.mp hy, if_neg (nz x hx), if_pos rfl]
          exact fun q => absurd q.symm (ne x hx)
        · rw [List.mem_singleton.mp hx, List.mem_singleton.mp hy]
          exact fun _ => rfl
    · rintro σ H1 ⟨⟨a, b, rfl⟩, s1, A, h1, h2, h3⟩
      rw [List.length_map, List.take_length] at h1 h2 h3
      have hAp : ∀ z ∈ names, A z ≠ p := fun z hz q => hP.ne.1 (q ▸ (h2 z hz).2.1)
      refine ⟨_, rfl, _, rfl, (by omega), (by omega), for_range (n := many.toNat) (fun k σ H2 => (∃ a b, σ = [some (.ref p), some (.ref l), some (.int many), some (.ref d), a, b]) ∧ ∃ T : Tr, RwAt H2 d names A T ∧ GoodT names T k ∧ (∀ i ∈ idsOf names T, i < 11 * (k : Int)) ∧ Pl H H2 p s0 ∧ H2 l = some (.lst (names.map V.str)) ∧ ∀ y, ∀ t ∈ T y, Bd t.2.2) ?_ ?_ ?_⟩
      · refine ⟨⟨_, _, rfl⟩, fun _ => [], ⟨h1, fun z hz => ⟨[], (h2 z hz).1, rfl, fun i v t a b => by simp at a⟩, h3⟩, ?_, ?_, (Pl.refl hP).same s1, s1 _ _ hl, fun y t ht => nomatch ht⟩
        · have e : idsOf names (fun _ => []) = [] := by
            unfold idsOf
            induction names with
            | nil => rfl
            | cons a r ih => simp
          exact ⟨by rw [e]; rfl, by rw [e]; exact List.nodup_nil, by rw [e]; exact fun i hi => nomatch hi⟩
        · intro i hi
          obtain ⟨z, _, t, ht, _⟩ := mem_ids.mp hi
          cases ht
      · rintro k σ H2 hk ⟨⟨a, b, rfl⟩, T, R, G2, up, P2, hl2, bd⟩
        refine ⟨_, rfl, _, rfl, _, rfl, _, _, rfl, .inl ⟨_, SqL.of hl2, rfl⟩, p, s0, _, rfl, P2.now, (by rw [List.length_map]; omega), Int.lt_of_le_of_lt (show ((names.map V.str).length : Int) ≤ 25 by rw [List.length_map]; omega) (by decide), fun g H3 g0 g1 P3 => ?_⟩
        rw [List.length_map] at g1
        obtain ⟨j, rfl⟩ : ∃ j : Nat, g = (j : Int) := ⟨g.toNat, by omega⟩
        have hj : j < names.length := by omega
        have hz : names[j] ∈ names := List.getElem_mem hj
        generalize hzz : names[j] = z at hz
        refine ⟨_, _, _, .str z, rfl, rfl, SqL.of (P3.keep hl2 hlp), atI_nat (by rw [List.getElem?_map, List.getElem?_eq_getElem hj, hzz]; rfl), ?_⟩
        have R3 := R.pl P2.now hAp P3
        have P13 := P2.trans P3
        have hg := DGet.k (k := Sum.inr z) R3.at_
        rw [valV_nm, if_pos hz] at hg
        obtain ⟨ys3, hy3, _⟩ := R3.row z hz
        refine ⟨_, rfl, _, rfl, d, _, rfl, hg, .inl ⟨rfl, _, SqL.of hy3⟩, ?_⟩
        -- the moment
        refine ⟨_, rfl, p, s0, rfl, P3.now, fun m1 H4 _ P4 => ?_⟩
        have R4 := R3.pl P3.now hAp P4
        refine ⟨_, rfl, _, _, rfl, rfl, .inl ⟨by decide, by decide⟩, _, rfl, p, s0, 11, rfl, P4.now, (by decide), (by decide), fun u H5 u0 u11 P5 => ⟨_, _, rfl, rfl, ?_⟩⟩
        have R5 := R4.pl P4.now hAp P5
        refine ⟨_, rfl, p, s0, rfl, P5.now, fun m2 H6 hm2 P6 => ?_⟩
        have R6 := R5.pl P5.now hAp P6
        have P16 := (((P13.trans P4).trans P5).trans P6)
        refine ⟨(by show 3 ≤ sizeLine; decide), fun e he => ?_⟩
        have R7 : RwAt (upd H6 e (.tup (tv (m1, 11 * (0 + (k : Int)) + u, m2)))) d names A T := R6.same (sameAt (Same.refl H6) he)
        obtain ⟨ys, hy, hT⟩ := R7.row z hz
        have G2z := G2.few hz
        have yl := hT.1
        have P17 : Pl H (upd H6 e (.tup (tv (m1, 11 * (0 + (k : Int)) + u, m2)))) p s0 := P16.new he
        refine ⟨A z, ys, _, rfl, rfl, hy, (by rw [yl]; exact small1000 (by omega)), ⟨_, _, rfl⟩, addT T z (m1, 11 * (0 + (k : Int)) + u, m2), R7.add hz hy hT upd_same, ?_, ?_, P17.at (h2 z hz).2.1, ?_, fun y t ht => ?_⟩
        · have pm := ids_add (T := T) (t := (m1, 11 * (0 + (k : Int)) + u, m2)) hnd hz
          refine ⟨by rw [pm.length_eq, List.length_append, G2.len]; rfl, ?_, fun i hi => ?_⟩
          · rw [pm.nodup_iff, List.nodup_append]
            refine ⟨G2.nd, by simp, fun x hx y hy q => ?_⟩
            have := up x hx
            rw [List.mem_singleton.mp hy] at q
            have q : x = 11 * (0 + (k : Int)) + u := q
            omega
          · rcases List.mem_append.mp (pm.mem_iff.mp hi) with hi | hi
            · exact G2.lo i hi
            · rw [List.mem_singleton.mp hi]
              show 0 ≤ 11 * (0 + (k : Int)) + u
              omega
        · intro i hi
          have pm := ids_add (T := T) (t := (m1, 11 * (0 + (k : Int)) + u, m2)) hnd hz
          rcases List.mem_append.mp (pm.mem_iff.mp hi) with hi | hi
          · have := up i hi
            omega
          · rw [List.mem_singleton.mp hi]
            show 11 * (0 + (k : Int)) + u < _
            omega
        · have hl6 := P6.keep (P5.keep (P4.keep (P3.keep hl2 hlp) hlp) hlp) hlp
          rw [upd_ne (fun q => by rw [q] at hl; rw [(h2 z hz).2.1] at hl; cases hl), upd_ne (ne_of_none hl6 he)]
          exact hl6
        · by_cases ey : y = z
          · subst ey
            rw [addT_at] at ht
            rcases List.mem_append.mp ht with ht | ht
            · exact bd y t ht
            · rw [List.mem_singleton.mp ht]
              exact hm2
          · rw [addT_no ey] at ht
            exact bd y t ht
      · rintro σ H2 ⟨⟨a, b, rfl⟩, T, R, G2, up, P2, hl2, bd⟩
        exact ⟨_, rfl, kk d A T H2 hd (fun z hz => (h2 z hz).2.1) R G2 (fun i hi => by have := up i hi; omega) bd P2⟩
end
end Ash

set_option Elab.async false
set_option linter.all false
set_option maxRecDepth 100000
set_option maxHeartbeats 4000000
namespace Ash
open PySem PySem.Spec PyProof.Rows L2
open C8 (pss_cut)
/-! ### kinds of values -/
def NotInt (K : PySem.W.Frag) (H : Hp) (v : V) : Prop := ∃ t bi bb, TyX K H v t ∧ PySem.W.kitOne K t (.type "int") = some bi ∧ PySem.W.kitOne K t (.type "bool") = some bb ∧ (bi && !bb) = false
def NotStr (K : PySem.W.Frag) (H : Hp) (v : V) : Prop := ∃ t, TyX K H v t ∧ PySem.W.kitOne K t (.type "str") = some false
def NotTup (K : PySem.W.Frag) (H : Hp) (v : V) : Prop := ∃ t, TyX K H v t ∧ PySem.W.kitOne K t (.type "tuple") = some false
def spIsInt (K : PySem.W.Frag) : Sp := fun vs H Q _ => ∃ v, vs = [v] ∧ ((∃ n, v = .int n ∧ Q (.bl true) H) ∨ (NotInt K H v ∧ Q (.bl false) H))
def spIsNat (K : PySem.W.Frag) : Sp := fun vs H Q _ => ∃ v, vs = [v] ∧ ((∃ n, v = .int n ∧ Q (.bl (decide (0 ≤ n))) H) ∨ (NotInt K H v ∧ Q (.bl false) H))
/-- the test of names -/
def nmB (z : Str) : Bool := decide (1 ≤ z.length ∧ z.length ≤ 8) && z.cps.toList.all fun c => decide (c ∈ LET)
theorem nmB_iff (z : Str) : nmB z = true ↔ IsNm z := by
  unfold nmB IsNm
  simp only [Bool.and_eq_true, decide_eq_true_eq, List.all_eq_true]
  exact ⟨fun ⟨⟨a, b⟩, c⟩ => ⟨a, b, c⟩, fun ⟨a, b, c⟩ => ⟨⟨a, b⟩, c⟩⟩
def spIsName (K : PySem.W.Frag) : Sp := fun vs H Q _ => ∃ v, vs = [v] ∧ ((∃ z, v = .str z ∧ z.length ≤ sizeLine ∧ ∀ H', Same H H' → Q (.bl (nmB z)) H') ∨ (NotStr K H v ∧ Q (.bl false) H))
def spAreInts (K : PySem.W.Frag) : Sp := fun vs H Q _ => ∃ (a : Addr) (ns : List Int), vs = [.ref a] ∧ SqT K H a (ns.map V.int) ∧ ns.length ≤ 100 ∧ ∀ H', Same H H' → Q (.bl true) H'
def spIsRow (K : PySem.W.Frag) : Sp := fun vs H Q _ => ∃ (a : Addr) (us : List V), vs = [.ref a] ∧ (H a = some (.lst us) ∨ SqT K H a us) ∧ ∀ H', Same H H' → Q (.bl true) H'
theorem list_lit (l : List Nat) : ∀ i x, l[i]? = some x → l.take (i + 1) = l.take i ++ [x] := fun i x h => by
  rw [List.take_add_one, h]
  rfl
structure Cst (mg : Str → Option Value) : Prop where
  k_LETTERS : ∃ t, mg "LETTERS" = some (.str abc t)
  k_LONGEST_NAME : ∃ t, mg "LONGEST_NAME" = some (.int 8 t)
  k_MOST_DEPTH : ∃ t, mg "MOST_DEPTH" = some (.int 12 t)
  k_MOST_PARTS : ∃ t, mg "MOST_PARTS" = some (.int 40 t)
  k_MOST_LOOKS : ∃ t, mg "MOST_LOOKS" = some (.int 12 t)
  k_MOST_ROWS : ∃ t, mg "MOST_ROWS" = some (.int 400 t)
  k_MOMENT : ∃ t, mg "MOMENT" = some (.int 0 t)
  k_AMOUNT : ∃ t, mg "AMOUNT" = some (.int 2 t)
section
variable {P : Program} {w : World} {K : PySem.W.Frag} {mg : Str → Option Value} {base : Heap}
structure K1 (P : Program) (w : World) (K : PySem.W.Frag) (mg : Str → Option Value) (base : Heap) : Prop where
  is_integer : Cal P w K mg base CX0 "is_integer" 1 ["thing"] (spIsInt K)
abbrev s_is_integer : Stmt := topS 12
theorem sc_is_integer : FnScope ["thing"] ["thing"] (defScope s_is_integer) := ⟨rfl, rfl, rfl, by decide +kernel, rfl, by decide +kernel, by decide +kernel⟩
theorem ok_is_integer {f : Addr} {fd : FuncData} (F : Fun K "is_integer" "is_integer" s_is_integer f fd) (B : Blt mg) : FnOk P w K mg base CX0 1 f fd ["thing"] (spIsInt K) := by
  refine F.ok sc_is_integer (fun vs H Q E h => ?_) (fun cdv A outer s H vs Q E hr h => ?_)
  · obtain ⟨v, rfl, _⟩ := h
    rfl
  · obtain ⟨v, rfl, hv⟩ := h
    refine ⟨_, (pss_one (ps_ret (pe_and (pe_callB call_isi (by rfl) B.isinstance (by decide +kernel) (pa_cons (pv 0) (pa_cons (pe_bltn (v := .ty "int") (by rfl) B.int (by decide +kernel) rfl) pa_nil))) (pe_one (pe_not (pe_callB call_isi (by rfl) B.isinstance (by decide +kernel) (pa_cons (pv 0) (pa_cons (pe_bltn (v := .ty "bool") (by rfl) B.bool (by decide +kernel) rfl) pa_nil)))))))), ?_⟩
    rcases hv with ⟨n, rfl, q⟩ | ⟨⟨t, bi, bb, ty, e1, e2, e3⟩, q⟩
    · refine ⟨_, rfl, _, _, _, _, true, rfl, ClsV.ty _, .base (.int n), kit_ty (by decide +kernel), _, rfl, iteT ?_⟩
      refine ⟨_, rfl, _, _, _, _, false, rfl, ClsV.ty _, .base (.int n), kit_ty (by decide +kernel), _, rfl, q⟩
    · refine ⟨_, rfl, _, _, _, _, bi, rfl, ClsV.ty _, ty, e1, _, rfl, ?_⟩
      cases bi with
      | false => exact iteF q
      | true =>
        refine iteT ⟨_, rfl, _, _, _, _, bb, rfl, ClsV.ty _, ty, e2, _, rfl, ?_⟩
        have e3 : (!bb) = false := e3
        rw [e3]
        exact q
abbrev s_is_natural : Stmt := topS 13
theorem sc_is_natural : FnScope ["thing"] ["thing"] (defScope s_is_natural) := ⟨rfl, rfl, rfl, by decide +kernel, rfl, by decide +kernel, by decide +kernel⟩
theorem ok_is_natural {f : Addr} {fd : FuncData} (F : Fun K "is_natural" "is_natural" s_is_natural f fd) (B : Blt mg) (G : K1 P w K mg base) : FnOk P w K mg base CX0 2 f fd ["thing"] (spIsNat K) := by
  refine F.ok sc_is_natural (fun vs H Q E h => ?_) (fun cdv A outer s H vs Q E hr h => ?_)
  · obtain ⟨v, rfl, _⟩ := h
    rfl
  · obtain ⟨v, rfl, hv⟩ := h
    refine ⟨_, (pss_one (ps_ret (pe_and (pe_cal G.is_integer (hr.mono (by decide)) pass0 (pa_cons (pv 0) pa_nil)) (pe_one (pe_cmpR op_ge (pv 0) pe_int (nomark _)))))), ?_⟩
    rcases hv with ⟨n, rfl, q⟩ | ⟨ni, q⟩
    · exact ⟨_, rfl, _, rfl, .inl ⟨n, rfl, _, rfl, iteT ⟨_, rfl, _, _, rfl, rfl, q⟩⟩⟩
    · exact ⟨_, rfl, _, rfl, .inr ⟨ni, _, rfl, iteF q⟩⟩
abbrev s_is_name : Stmt := topS 14
theorem sc_is_name : FnScope ["thing", "letter"] ["thing"] (defScope s_is_name) := ⟨rfl, rfl, rfl, by decide +kernel, rfl, by decide +kernel, by decide +kernel⟩
theorem ok_is_name {f : Addr} {fd : FuncData} (F : Fun K "is_name" "is_name" s_is_name f fd) (B : Blt mg) (Cs : Cst mg) : FnOk P w K mg base CX0 1 f fd ["thing"] (spIsName K) := by
  obtain ⟨t1, g_LETTERS⟩ := Cs.k_LETTERS
  obtain ⟨t2, g_LONGEST_NAME⟩ := Cs.k_LONGEST_NAME
  refine F.ok sc_is_name (fun vs H Q E h => ?_) (fun cdv A outer s H vs Q E hr h => ?_)
  · obtain ⟨v, rfl, _⟩ := h
    rfl
  · obtain ⟨v, rfl, hv⟩ := h
    refine ⟨_, (pss_cons (ps_if (PW.pt (pw_or (pt_not (pt_val (pe_callB call_isi (by rfl) B.isinstance (by decide +kernel) (pa_cons (pv 0) (pa_cons (pe_bltn (v := .ty "str") (by rfl) B.str (by decide +kernel) rfl) pa_nil))))) (pw_or1 (pt_not (pt_chain op_le op_le pe_int (pe_callB call_len_str (by rfl) B.len (by decide +kernel) (pa_cons (pv 0) pa_nil)) (pe_glob (v := .int 8) (by rfl) g_LONGEST_NAME ⟨_, rfl⟩))))))
      (pss_one (ps_ret pe_bl))
      pss_nil)
    (pss_one (ps_ret (pe_callB (cr_all rfl) (by rfl) B.all (by decide +kernel) (pa_cons (pe_lc (own := [("letter", 1)]) (g := gName 1) (tt := tYes) (by rfl) sc_is_name.nd (pi_str (pv 0)) (blkOk_by (own := [("letter", 1)]) (N := ["thing", "letter"]) (sc := defScope s_is_name) (by decide +kernel)) (fun _ _ _ _ _ => (pg_name (i := 1) sc_is_name.nd rfl (Or.inl rfl))) (fun _ _ _ _ _ => pts_nil) (fun _ _ _ _ _ => (pe_cmpR op_in_sign (pv 1) (pe_glob (v := .str "abcdefghijklmnopqrstuvwxyz") (by rfl) g_LETTERS ⟨_, rfl⟩) rfl))) pa_nil))))), ?_⟩
    rcases hv with ⟨z, rfl, hz, q⟩ | ⟨⟨t, ty, e1⟩, q⟩
    · refine ⟨_, rfl, _, _, _, _, true, rfl, ClsV.ty _, .base (.str z), kit_ty (by decide +kernel), _, rfl, iteF ?_⟩
      refine ⟨_, rfl, _, rfl, hz, _, _, rfl, rfl, _, rfl, ?_⟩
      refine ite2 (fun c1 => ?_) (fun c1 => ?_)
      · have c1 : (1 : Int) ≤ z.length := of_decide_eq_true c1
        refine ⟨_, _, rfl, rfl, _, rfl, ?_⟩
        by_cases c8 : (z.length : Int) ≤ 8
        · refine iteNS c8 ?_
          refine ⟨_, rfl, z, rfl, fun D hD => lc_it (walk_str (z := z)) (fun i H1 => H1 D = some (.lst (((z.cps.toList.take i).map fun c => decide (c ∈ LET)).map V.bl)) ∧ Same H H1) ⟨upd_same, sameAt (Same.refl H) hD⟩ (fun _ _ _ _ => trivial) ?_ ?_⟩
          · rintro i x H1 H2 hi ⟨hD1, hs⟩ ⟨rfl, c, hc, rfl⟩
            have hc' : z.cps.toList[i]? = some c := by rw [Array.getElem?_toList]; exact hc
            have hlen : (z.cps.toList.take i).length ≤ 8 := by
              have : i < z.length := hi
              rw [List.length_take]
              omega
            refine ⟨rfl, _, rfl, c, abc, rfl, rfl, _, hD1, (by rw [List.length_map, List.length_map]; exact small1000 (by omega)), ?_, sameAt hs hD⟩
            rw [upd_same, list_lit _ _ _ hc', abc_let, List.map_append, List.map_append]
            rfl
          · rintro H1 ⟨hD1, hs⟩
            have e : z.cps.toList.take z.cps.size = z.cps.toList := by rw [← Array.length_toList, List.take_length]
            rw [e] at hD1
            refine ⟨D, _, rfl, SqL.of hD1, ?_⟩
            have e2 : ((z.cps.toList.map fun c => decide (c ∈ LET)).all id) = nmB z := by
              unfold nmB
              rw [decide_eq_true (show 1 ≤ z.length ∧ z.length ≤ 8 by omega), Bool.true_and, List.all_map]
              rfl
            rw [e2]
            exact q _ hs
        · rw [decide_eq_false c8]
          refine iteT ?_
          have e2 : nmB z = false := by
            unfold nmB
            rw [decide_eq_false (show ¬ (1 ≤ z.length ∧ z.length ≤ 8) by omega), Bool.false_and]
          have := q H (Same.refl H)
          rw [e2] at this
          exact this
      · have c1 : ¬ (1 : Int) ≤ z.length := by simpa using c1
        refine ⟨_, rfl, iteT ?_⟩
        have e2 : nmB z = false := by
          unfold nmB
          rw [decide_eq_false (show ¬ (1 ≤ z.length ∧ z.length ≤ 8) by omega), Bool.false_and]
        have := q H (Same.refl H)
        rw [e2] at this
        exact this
    · refine ⟨_, rfl, _, _, _, _, false, rfl, ClsV.ty _, ty, e1, _, rfl, iteT q⟩
structure K2 (P : Program) (w : World) (K : PySem.W.Frag) (mg : Str → Option Value) (base : Heap) : Prop extends K1 P w K mg base where
  is_natural : Cal P w K mg base CX0 "is_natural" 2 ["thing"] (spIsNat K)
  is_name : Cal P w K mg base CX0 "is_name" 1 ["thing"] (spIsName K)
abbrev s_are_integers : Stmt := topS 16
theorem sc_are_integers : FnScope ["things", "thing"] ["things"] (defScope s_are_integers) := ⟨rfl, rfl, rfl, by decide +kernel, rfl, by decide +kernel, by decide +kernel⟩
theorem ok_are_integers {f : Addr} {fd : FuncData} (F : Fun K "are_integers" "are_integers" s_are_integers f fd) (B : Blt mg) (G : K2 P w K mg base) : FnOk P w K mg base CX0 2 f fd ["things"] (spAreInts K) := by
  refine F.ok sc_are_integers (fun vs H Q E h => ?_) (fun cdv A outer s H vs Q E hr h => ?_)
  · obtain ⟨a, ns, rfl, _⟩ := h
    rfl
  · obtain ⟨a, ns, rfl, hS, hn, q⟩ := h
    refine ⟨_, (pss_one (ps_ret (pe_callB (cr_all rfl) (by rfl) B.all (by decide +kernel) (pa_cons (pe_lc (own := [("thing", 1)]) (g := gName 1) (tt := tYes) (by rfl) sc_are_integers.nd (pi_tup (pv 0)) (blkOk_by (own := [("thing", 1)]) (N := ["things", "thing"]) (sc := defScope s_are_integers) (by decide +kernel)) (fun _ _ _ _ _ => (pg_name (i := 1) sc_are_integers.nd rfl (Or.inl rfl))) (fun _ _ _ _ _ => pts_nil) (fun _ _ _ _ _ => (pe_cal G.is_integer (hr.mono (by decide)) pass0 (pa_cons (pv 1) pa_nil)))) pa_nil)))), ?_⟩
    refine ⟨_, rfl, a, rfl, ⟨_, hS⟩, fun D hD => lc_it (walk_tup (xs := ns.map V.int)) (fun i H1 => H1 D = some (.lst ((List.replicate i true).map V.bl)) ∧ Same H H1) ⟨upd_same, sameAt (Same.refl H) hD⟩ (fun i H1 _ hv => ?_) ?_ ?_⟩
    · rcases hS with (h | ⟨o, h⟩) | h
      · exact .inl (.inl (hv.2 _ _ h))
      · exact .inl (.inr ⟨o, hv.2 _ _ h⟩)
      · exact .inr h
    · rintro i x H1 H2 hi ⟨hD1, hs⟩ ⟨rfl, hx⟩
      obtain ⟨z, rfl⟩ : ∃ z, x = V.int z := by
        rw [List.getElem?_map] at hx
        cases e : ns[i]? with
        | none => rw [e] at hx; cases hx
        | some z => rw [e] at hx; exact ⟨z, (Option.some.inj hx).symm⟩
      rw [List.length_map] at hi
      refine ⟨rfl, _, rfl, _, rfl, .inl ⟨z, rfl, _, hD1, (by rw [List.length_map, List.length_replicate]; exact small1000 (by omega)), ?_, sameAt hs hD⟩⟩
      rw [upd_same, List.replicate_succ', List.map_append]
      rfl
    · rintro H1 ⟨hD1, hs⟩
      refine ⟨D, _, rfl, SqL.of hD1, ?_⟩
      rw [List.length_map] at hD1 ⊢
      have e2 : ((List.replicate ns.length true).all id) = true := by simp
      rw [e2]
      exact q _ hs
abbrev s_is_row : Stmt := topS 15
theorem sc_is_row : FnScope ["thing"] ["thing"] (defScope s_is_row) := ⟨rfl, rfl, rfl, by decide +kernel, rfl, by decide +kernel, by decide +kernel⟩
theorem ok_is_row {f : Addr} {fd : FuncData} (F : Fun K "is_row" "is_row" s_is_row f fd) (B : Blt mg) : FnOk P w K mg base CX0 1 f fd ["thing"] (spIsRow K) := by
  refine F.ok sc_is_row (fun vs H Q E h => ?_) (fun cdv A outer s H vs Q E hr h => ?_)
  · obtain ⟨a, us, rfl, _⟩ := h
    rfl
  · obtain ⟨a, us, rfl, hS, q⟩ := h
    refine ⟨_, (pss_one (ps_ret (pe_callB call_isiT (by rfl) B.isinstance (by decide +kernel) (pa_cons (pv 0) (pa_cons (pe_tup (pa_cons (pe_bltn (v := .ty "list") (by rfl) B.list (by decide +kernel) rfl) (pa_cons (pe_bltn (v := .ty "tuple") (by rfl) B.tuple (by decide +kernel) rfl) pa_nil))) pa_nil))))), ?_⟩
    refine ⟨_, rfl, (by show 2 ≤ sizeLine; decide), fun p hp => ?_⟩
    rcases hS with hS | hS
    · refine ⟨_, p, _, .type "list", [.type "list", .type "tuple"], true, rfl, upd_same, .cons (ClsV.ty _) (.cons (ClsV.ty _) .nil), .base (.lst (by rw [upd_ne (ne_of_none hS hp)]; exact hS)), kitAny_cons (b := true) (kit_ty (by decide +kernel)) (fun z => by cases z) (fun _ => rfl), q _ (sameAt (Same.refl H) hp)⟩
    · have ty : TyX K (upd H p (.tup [.ty "list", .ty "tuple"])) (.ref a) (.type "tuple") := by
        rcases hS with (h | ⟨o, h⟩) | ⟨o, its, n, h1, h2, h3⟩
        · exact .base (.tup (by rw [upd_ne (ne_of_none h hp)]; exact h))
        · exact .fTuple (by rw [upd_ne (ne_of_none h hp)]; exact h)
        · exact .kTuple h1 h2
      refine ⟨_, p, _, .type "tuple", [.type "list", .type "tuple"], true, rfl, upd_same, .cons (ClsV.ty _) (.cons (ClsV.ty _) .nil), ty, kitAny_cons (b := false) (kit_ty (by decide +kernel)) (fun _ => kitAny_cons (b := true) (kit_ty (by decide +kernel)) (fun z => by cases z) (fun _ => rfl)) (fun z => by cases z), q _ (sameAt (Same.refl H) hp)⟩
structure K3 (P : Program) (w : World) (K : PySem.W.Frag) (mg : Str → Option Value) (base : Heap) : Prop extends K2 P w K mg base where
  are_integers : Cal P w K mg base CX0 "are_integers" 2 ["things"] (spAreInts K)
  is_row : Cal P w K mg base CX0 "is_row" 1 ["thing"] (spIsRow K)
end
end Ash

set_option Elab.async false
set_option linter.all false
set_option maxRecDepth 100000
set_option maxHeartbeats 4000000
namespace L2
open PySem PySem.Spec PyProof.Rows
/-- a walk, whatever is done in a turn -/
theorem w_it {J : It} {n : Nat} {G : Hp → Prop} {Y : Nat → Hp → V → Hp → Prop} (w : Walk J n G Y) {Nx : Hp → Prop} {Bd : V → Hp → (Hp → Prop) → Prop} {H1 : Hp} (Pv : Nat → Hp → Prop) (h0 : Pv 0 H1) (hG : ∀ i H, i ≤ n → Pv i H → G H)
    (hs : ∀ i x H H', i < n → Pv i H → Y i H x H' → Bd x H' (Pv (i + 1))) (hd : ∀ H, Pv n H → Nx H) :
    ∃ W : Nat → Nat → Hp → Prop, (∃ m, W 0 m H1) ∧ ∀ i m H, W i m H →
      (J.stop i H ∧ Nx H) ∨ (J.go i H ∧ ∃ N : Hp → Prop, (∀ H', N H' → ∃ m', m' < m ∧ W (i + 1) m' H') ∧ ∀ x H', J.yld i H x H' → Bd x H' N) := by
  refine ⟨fun i m H => m = n - i ∧ i ≤ n ∧ Pv i H, ⟨n, by simp, Nat.zero_le _, h0⟩, ?_⟩
  rintro i m H ⟨rfl, hi, p⟩
  have q := hG i H hi p
  by_cases hlt : i < n
  · refine .inr ⟨w.goes i H hlt q, Pv (i + 1), fun H' p' => ⟨n - (i + 1), by omega, rfl, hlt, p'⟩, fun x H' y => hs i x H H' hlt p (w.yields i H x H' hlt q y)⟩
  · have e : i = n := by omega
    subst e
    exact .inl ⟨w.stops H q, hd H p⟩
def tTru (K : PySem.W.Frag) (ta : TE) : TT := fun σ H Q => ta σ H fun x H' => ∃ k, TruV K x H' k ∧ Q k H'
def rTupS (K : PySem.W.Frag) : List V → Hp → VK → Prop := fun xs H Q => ∃ p ys, xs = [.ref p] ∧ ((SqL K H p ys ∧ ∀ l, H l = none → Q (.ref l) (upd H l (.tup ys))) ∨ (SqT K H p ys ∧ Q (.ref p) H))
end L2
namespace Ash
open PySem PySem.Spec PyProof.Rows L2 SrtT
open C8 (pss_cut)
/-! ### worlds -/
/-- the rows of the streams, sorted -/
def RowsW (names : List Str) (T W : Tr) : Prop := (∀ z ∈ names, (W z).Perm (T z) ∧ (W z).Pairwise fun a b => lex3 a b = true) ∧ ∀ z, z ∉ names → W z = []
/-- the world of the rows W at a -/
def WAt (CW : Addr) (H : Hp) (a : Addr) (W : Tr) : Prop := ∃ dx d t kvs ids, H a = some (.ins CW dx [("_rows", .ref d), ("_ids", .ref t)]) ∧ H d = some (.dK kvs) ∧ H t = some (.tup ids) ∧
  ∀ z, (W z).length ≤ 400 ∧ ((valV kvs (Sum.inr z : Key) = none ∧ W z = []) ∨ ∃ e ys, valV kvs (Sum.inr z : Key) = some (.ref e) ∧ H e = some (.tup ys) ∧ TrAt H ys (W z))
theorem WAt.nl {CW : Addr} {H H' : Hp} {a : Addr} {W : Tr} (h : WAt CW H a W) (n : NL H H') : WAt CW H' a W := by
  obtain ⟨dx, d, t, kvs, ids, h1, h2, h3, h4⟩ := h
  refine ⟨dx, d, t, kvs, ids, n _ _ h1 (fun _ z => nomatch z), n _ _ h2 (fun _ z => nomatch z), n _ _ h3 (fun _ z => nomatch z), fun z => ⟨(h4 z).1, (h4 z).2.imp id ?_⟩⟩
  rintro ⟨e, ys, a1, a2, a3⟩
  exact ⟨e, ys, a1, n _ _ a2 (fun _ z => nomatch z), a3.tk fun t xs q => n _ _ q (fun _ z => nomatch z)⟩
theorem WAt.same {CW : Addr} {H H' : Hp} {a : Addr} {W : Tr} (h : WAt CW H a W) (s : Same H H') : WAt CW H' a W := h.nl (nl_same s)
theorem pk_len {κ : Type} [DecidableEq κ] (c : List (κ × V)) (k : κ) (x : V) : (putK c k x).length ≤ c.length + 1 := by
  unfold putK
  split
  · rw [List.length_map]
    omega
  · rw [List.length_append]
    exact Nat.le_refl _
theorem TrAt.tri {H : Hp} {ys : List V} {ts : List T3} (h : TrAt H ys ts) : ∀ x ∈ ys, ∃ t, x = .ref t ∧ H t = some (.tup (tv (triOf H x))) := fun x hx => by
  obtain ⟨i, hi, e⟩ := List.getElem_of_mem hx
  have hx' := List.getElem?_eq_getElem hi
  rw [e] at hx'
  obtain ⟨a, h1, h2⟩ := h.2 i _ _ hx' (List.getElem?_eq_getElem (by rw [← h.1]; exact hi))
  subst h1
  exact ⟨a, rfl, by rw [triOf_at h2]; exact h2⟩
theorem TrAt.of_tri {H : Hp} {zs : List V} (h : ∀ x ∈ zs, ∃ t, x = .ref t ∧ H t = some (.tup (tv (triOf H x)))) : TrAt H zs (zs.map (triOf H)) := by
  refine ⟨by rw [List.length_map], fun i v t a b => ?_⟩
  rw [List.getElem?_map, a, Option.map_some] at b
  cases b
  obtain ⟨e, h1, h2⟩ := h v (List.mem_of_getElem? a)
  exact ⟨e, h1, h2⟩
theorem asc_of {ts : List T3} (hs : ts.Pairwise fun a b => lex3 b a = false) (hn : (ts.map (·.2.1)).Nodup) : ts.Pairwise fun a b => lex3 a b = true := by
  have hn' : ts.Pairwise fun a b => a.2.1 ≠ b.2.1 := List.pairwise_map.mp hn
  refine (hs.and hn').imp fun {a b} ⟨h1, h2⟩ => ?_
  rw [lex3_no] at h1
  rw [lex3_iff]
  omega
theorem unlock {H1 Hx : Hp} {d : Addr} {od : Obj} {u : HO} (s : Same (upd H1 d (.frz od u)) Hx) (hd : H1 d = some u) : Same H1 (upd Hx d u) := fun b o hb => by
  by_cases e : b = d
  · rw [e] at hb ⊢
    rw [hd] at hb
    rw [← hb, upd_same]
  · rw [upd_ne e]
    exact s _ _ (by rw [upd_ne e]; exact hb)
structure Cw (K : PySem.W.Frag) (mg : Str → Option Value) (CW : Addr) : Prop where
  cl : Cls K CW
  nR : NoAttr K CW "_rows"
  nI : NoAttr K CW "_ids"
  c : mg "World" = some (.ref CW)
def spAreRows (K : PySem.W.Frag) : Sp := fun vs H Q _ => ∃ (a : Addr) (ys : List V) (ts : List T3), vs = [.ref a] ∧ H a = some (.lst ys) ∧ TrAt H ys ts ∧ ts.length ≤ 400 ∧ (∀ t ∈ ts, 0 ≤ t.2.1) ∧ ∀ H', Same H H' → Q (.bl true) H'
def spTwice (K : PySem.W.Frag) : Sp := fun vs H Q _ => ∃ (a : Addr) (ns : List Int), vs = [.ref a] ∧ SqL K H a (ns.map V.int) ∧ ns.length ≤ 400 ∧ ns.Nodup ∧ Q .non H
def spIsRows : Sp := fun vs H Q _ => ∃ (d : Addr) (names : List Str) (A : Str → Addr) (T : Tr), vs = [.ref d] ∧ RwAt H d names A T ∧ names.length ≤ 100 ∧ (∀ z ∈ names, IsNm z ∧ (T z).length ≤ 400 ∧ ∀ t ∈ T z, 0 ≤ t.2.1) ∧ ∀ H', Same H H' → Q (.bl true) H'
def spWorldInit (CW : Addr) : Sp := fun vs H Q _ => ∃ (b dx d : Addr) (names : List Str) (A : Str → Addr) (T : Tr) (n : Nat), vs = [.ref b, .ref d] ∧ H b = some (.ins CW dx []) ∧ RwAt H d names A T ∧ names.length ≤ 100 ∧ names.Nodup ∧ (∀ z ∈ names, IsNm z) ∧ GoodT names T n ∧ n ≤ 400 ∧
  ∀ H' W, WAt CW H' b W → RowsW names T W → (∀ c o, H c = some o → c ≠ b → H' c = some o) → Q .non H'
def spWorldRows (CW : Addr) : Sp := fun vs H Q _ => ∃ (a : Addr) (W : Tr) (z : Str), vs = [.ref a, .str z] ∧ WAt CW H a W ∧ IsNm z ∧ ∀ (p : Addr) ys H', Same H H' → H p = none → H' p = some (.lst ys) → TrAt H' ys (W z) → Q (.ref p) H'
section
variable {P : Program} {w : World} {K : PySem.W.Frag} {mg : Str → Option Value} {base : Heap}
abbrev s_are_rows : Stmt := topS 50
theorem sc_are_rows : FnScope ["things", "thing"] ["things"] (defScope s_are_rows) := ⟨rfl, rfl, rfl, by decide +kernel, rfl, by decide +kernel, by decide +kernel⟩
theorem ok_are_rows {f : Addr} {fd : FuncData} (F : Fun K "are_rows" "are_rows" s_are_rows f fd) (B : Blt mg) (G : K3 P w K mg base) : FnOk P w K mg base CX0 3 f fd ["things"] (spAreRows K) := by
  refine F.ok sc_are_rows (fun vs H Q E h => ?_) (fun cdv A outer s H vs Q E hr h => ?_)
  · obtain ⟨a, ys, ts, rfl, _⟩ := h
    rfl
  · obtain ⟨a, ys, ts, rfl, ha, hT, hl, h0, q⟩ := h
    refine ⟨_, (pss_cons (ps_for PassesOwn.never rfl (pi_list (pv 0)) (pg_name (i := 1) sc_are_rows.nd rfl (Or.inl rfl))
      (pss_cons (ps_if (PW.pt (pw_or (pt_not (pt_val (pe_callB call_isi (by rfl) B.isinstance (by decide +kernel) (pa_cons (pv 1) (pa_cons (pe_bltn (v := .ty "tuple") (by rfl) B.tuple (by decide +kernel) rfl) pa_nil))))) (pw_or1 (pt_cmpR op_ne (pe_callB call_len_seq (by rfl) B.len (by decide +kernel) (pa_cons (pv 1) pa_nil)) pe_int (nomark _)))))
        (pss_one (ps_ret pe_bl))
        pss_nil)
      (pss_one (ps_if (PW.pt (pw_or (pt_not (pt_val (pe_cal G.are_integers (hr.mono (by decide)) pass0 (pa_cons (pv 1) pa_nil)))) (pw_or1 (pt_not (pt_val (pe_cal G.is_natural (hr.mono (by decide)) pass0 (pa_cons (pe_ix ix_tup (pv 1) pe_int (fun _ _ => rfl)) pa_nil)))))))
        (pss_one (ps_ret pe_bl))
        pss_nil))))
    (pss_one (ps_ret pe_bl))), ?_⟩
    have yl := hT.1
    refine ⟨_, rfl, a, rfl, ⟨_, SqL.of ha⟩, for_list (K := K) (a := a) (xs := ys) (fun i σ H1 => (∃ b, σ = [some (.ref a), b]) ∧ Same H H1) ⟨⟨_, rfl⟩, Same.refl H⟩ (fun i σ H1 _ hv => SqL.of (hv.2 _ _ ha)) ?_ ?_⟩
    · rintro i y σ H1 hi ⟨⟨b, rfl⟩, s1⟩
      have hil : i < ts.length := by rw [← yl]; exact (List.getElem?_eq_some_iff.mp hi).1
      obtain ⟨t, ht⟩ : ∃ t, ts[i]? = some t := ⟨_, List.getElem?_eq_getElem hil⟩
      obtain ⟨e, rfl, he⟩ := hT.2 i y t hi ht
      have he1 := s1 _ _ he
      refine ⟨_, rfl, _, _, _, _, true, rfl, ClsV.ty _, .base (.tup he1), kit_ty (by decide +kernel), _, rfl, iteF ?_⟩
      refine ⟨_, rfl, _, _, rfl, .inr (SqT.of he1), rfl, _, rfl, iteF ?_⟩
      refine ⟨_, rfl, e, [t.1, t.2.1, t.2.2], rfl, SqT.of he1, (by show 3 ≤ 100; decide), fun H2 s2 => ⟨_, rfl, iteF ?_⟩⟩
      have he2 := s2 _ _ he1
      refine ⟨_, rfl, _, _, _, _, rfl, rfl, SqT.of he2, rfl, _, rfl, .inl ⟨t.2.1, rfl, ?_⟩⟩
      rw [decide_eq_true (h0 t (List.mem_of_getElem? ht))]
      exact ⟨_, rfl, iteF ⟨⟨_, rfl⟩, s1.trans s2⟩⟩
    · rintro σ H1 ⟨⟨b, rfl⟩, s1⟩
      exact q H1 s1
abbrev s_first_twice : Stmt := topS 51
theorem sc_first_twice : FnScope ["numbers", "at"] ["numbers"] (defScope s_first_twice) := ⟨rfl, rfl, rfl, by decide +kernel, rfl, by decide +kernel, by decide +kernel⟩
theorem ok_twice {f : Addr} {fd : FuncData} (F : Fun K "first_twice" "first_twice" s_first_twice f fd) (B : Blt mg) : FnOk P w K mg base CX0 1 f fd ["numbers"] (spTwice K) := by
  refine F.ok sc_first_twice (fun vs H Q E h => ?_) (fun cdv A outer s H vs Q E hr h => ?_)
  · obtain ⟨a, ns, rfl, _⟩ := h
    rfl
  · obtain ⟨a, ns, rfl, ha, hl, hn, q⟩ := h
    refine ⟨_, (pss_cons (ps_for PassesOwn.never rfl (pi_range2 (by rfl) B.range (pa_cons pe_int (pa_cons (pe_callB call_len_seq (by rfl) B.len (by decide +kernel) (pa_cons (pv 0) pa_nil)) pa_nil))) (pg_name (i := 1) sc_first_twice.nd rfl (Or.inl rfl))
      (pss_one (ps_if (pt_cmpR op_eq (pe_ix ix_list (pv 0) (pe_op op_sub (pv 1) pe_int) (fun _ _ => rfl)) (pe_ix ix_list (pv 0) (pv 1) (fun _ _ => rfl)) (nomark _))
        (pss_one (ps_ret (pe_ix ix_list (pv 0) (pv 1) (fun _ _ => rfl))))
        pss_nil)))
    (pss_one (ps_ret pe_non))), ?_⟩
    refine ⟨_, rfl, _, _, rfl, .inl ha, _, _, rfl, (by rw [List.length_map]; omega), for_range (n := (((ns.map V.int).length : Int) - 1).toNat) (fun i σ H1 => (∃ b, σ = [some (.ref a), b]) ∧ H1 = H) ⟨⟨_, rfl⟩, rfl⟩ ?_ ?_⟩
    · rintro i σ H1 hi ⟨⟨b, rfl⟩, rfl⟩
      rw [List.length_map] at hi
      have h1 : i < ns.length := by omega
      have h2 : i + 1 < ns.length := by omega
      have e1 : atI (ns.map V.int) (1 + (i : Int) - 1) = some (V.int ns[i]) := by
        rw [show (1 : Int) + i - 1 = (i : Nat) by omega, atI_nat (by rw [List.getElem?_map, List.getElem?_eq_getElem h1]; rfl)]
      have e2 : atI (ns.map V.int) (1 + (i : Int)) = some (V.int ns[i + 1]) := by
        rw [show (1 : Int) + i = (i + 1 : Nat) by omega, atI_nat (by rw [List.getElem?_map, List.getElem?_eq_getElem h2]; rfl)]
      refine ⟨_, rfl, _, rfl, _, _, rfl, rfl, _, _, _, _, rfl, rfl, ha, e1, _, rfl, _, rfl, _, _, _, _, rfl, rfl, ha, e2, rfl, _, rfl, ?_⟩
      have ne : ns[i] ≠ ns[i + 1] := fun z => by
        have := nd_ix hn (List.getElem?_eq_getElem h1) (by rw [List.getElem?_eq_getElem h2, z])
        omega
      rw [show decide (V.int ns[i] = V.int ns[i + 1]) = false from decide_eq_false fun z => ne (V.int.inj z)]
      exact iteF ⟨⟨_, rfl⟩, rfl⟩
    · rintro σ H1 ⟨⟨b, rfl⟩, rfl⟩
      exact q
structure W1 (P : Program) (w : World) (K : PySem.W.Frag) (mg : Str → Option Value) (base : Heap) : Prop extends K3 P w K mg base where
  are_rows : Cal P w K mg base CX0 "are_rows" 3 ["things"] (spAreRows K)
  first_twice : Cal P w K mg base CX0 "first_twice" 1 ["numbers"] (spTwice K)
abbrev s_is_rows : Stmt := topS 49
theorem sc_is_rows : FnScope ["thing", "stream", "rows"] ["thing"] (defScope s_is_rows) := ⟨rfl, rfl, rfl, by decide +kernel, rfl, by decide +kernel, by decide +kernel⟩
theorem ok_is_rows {f : Addr} {fd : FuncData} (F : Fun K "is_rows" "is_rows" s_is_rows f fd) (B : Blt mg) (G : W1 P w K mg base) : FnOk P w K mg base CX0 4 f fd ["thing"] spIsRows := by
  refine F.ok sc_is_rows (fun vs H Q E h => ?_) (fun cdv A outer s H vs Q E hr h => ?_)
  · obtain ⟨d, names, A, T, rfl, _⟩ := h
    rfl
  · obtain ⟨d, names, A, T, rfl, R, nl, hz, q⟩ := h
    refine ⟨_, (pss_cons (ps_if (pt_not (pt_val (pe_callB call_isi (by rfl) B.isinstance (by decide +kernel) (pa_cons (pv 0) (pa_cons (pe_bltn (v := .ty "dict") (by rfl) B.dict (by decide +kernel) rfl) pa_nil)))))
      (pss_one (ps_ret pe_bl))
      pss_nil)
    (pss_one (ps_ret (pe_callB (cr_all rfl) (by rfl) B.all (by decide +kernel) (pa_cons (pe_lock (pe_lc (own := [("stream", 1), ("rows", 2)]) (g := gTup K 2 (gCons (gName 1) (gCons (gName 2) gNil))) (tt := tYes) (by rfl) sc_is_rows.nd (pi_items (pv 0)) (blkOk_by (own := [("stream", 1), ("rows", 2)]) (N := ["thing", "stream", "rows"]) (sc := defScope s_is_rows) (by decide +kernel)) (fun _ _ _ _ _ => (pg_tup (by rfl) (pgs_cons (pg_name (i := 1) sc_is_rows.nd rfl (Or.inl rfl)) (pgs_cons (pg_name (i := 2) sc_is_rows.nd rfl (Or.inl rfl)) pgs_nil)))) (fun _ _ _ _ _ => pts_nil) (fun _ _ _ _ _ => (pe_and (pe_cal G.is_name (hr.mono (by decide)) pass0 (pa_cons (pv 1) pa_nil)) (pe_and (pe_cal G.is_row (hr.mono (by decide)) pass0 (pa_cons (pv 2) pa_nil)) (pe_one (pe_cal G.are_rows (hr.mono (by decide)) pass0 (pa_cons (pv 2) pa_nil)))))))) pa_nil))))), ?_⟩
    have hd := R.at_
    refine ⟨_, rfl, _, _, _, _, true, rfl, ClsV.ty _, .base (.dK hd), kit_ty (by decide +kernel), _, rfl, iteF ?_⟩
    refine ⟨d, _, hd, trivial, fun od => ?_⟩
    have hDd : ∀ {D : Addr}, (upd H d (.frz od (.dK (names.map fun z => (Sum.inr z, V.ref (A z)))))) D = none → D ≠ d := fun h z => by rw [z, upd_same] at h; cases h
    refine ⟨_, rfl, d, od, _, rfl, upd_same, fun D hD => lc_it (walk_items (kvs := names.map fun z => ((Sum.inr z : Key), V.ref (A z)))) (fun i H1 => H1 D = some (.lst ((List.replicate i true).map V.bl)) ∧ Same (upd H d (.frz od (.dK (names.map fun z => (Sum.inr z, V.ref (A z)))))) H1) ⟨upd_same, sameAt (Same.refl _) hD⟩ (fun i H1 _ hv => hv.2 _ _ upd_same) ?_ ?_⟩
    · rintro i x H1 H2 hi ⟨hD1, hs⟩ ⟨T', x1, x2, rfl, hT', rfl, h1, h2⟩
      rw [List.length_map] at hi
      have hx : (names.map fun z => ((Sum.inr z : Key), V.ref (A z)))[i]? = some (Sum.inr names[i], V.ref (A names[i])) := by
        rw [List.getElem?_map, List.getElem?_eq_getElem hi]
        rfl
      simp only [hx, Option.map_some] at h1 h2
      cases h1
      cases h2
      have hm : names[i] ∈ names := List.getElem_mem hi
      generalize names[i] = z at hm
      obtain ⟨hN, hT4, hT0⟩ := hz z hm
      have hDT : D ≠ T' := fun z => by rw [← z, hD1] at hT'; cases hT'
      obtain ⟨ys, hy, hTr⟩ := R.row z hm
      have nAd : A z ≠ d := fun q => by rw [q, hd] at hy; cases hy
      have sT : Same (upd H d (.frz od (.dK (names.map fun z => (Sum.inr z, V.ref (A z)))))) (upd H1 T' (.tup [V.str z, .ref (A z)])) := hs.trans (sameAt (Same.refl H1) hT')
      have tkd : ∀ t xs, H t = some (.tup xs) → upd H d (.frz od (.dK (names.map fun z => (Sum.inr z, V.ref (A z))))) t = some (.tup xs) := fun t xs q => by rw [upd_ne (ne_of q hd (by intro z; cases z))]; exact q
      have hy1 : upd H d (.frz od (.dK (names.map fun z => (Sum.inr z, V.ref (A z))))) (A z) = some (.lst ys) := by rw [upd_ne nAd]; exact hy
      refine ⟨T', _, rfl, SqT.of upd_same, rfl, _, _, rfl, _, _, rfl, rfl, rfl, ?_⟩
      refine ⟨_, rfl, _, rfl, .inl ⟨z, rfl, (by have := hN.2.1; rw [sizeLine_eq]; omega), fun H3 s3 => ⟨_, rfl, ?_⟩⟩⟩
      rw [(nmB_iff z).mpr hN]
      refine iteT ⟨_, rfl, _, _, rfl, .inl (s3 _ _ (sT _ _ hy1)), fun H4 s4 => ⟨_, rfl, iteT ?_⟩⟩
      refine ⟨_, rfl, A z, ys, T z, rfl, s4 _ _ (s3 _ _ (sT _ _ hy1)), (((hTr.tk tkd).tk fun t xs q => sT _ _ q).tk fun t xs q => s3 _ _ q).tk (fun t xs q => s4 _ _ q), hT4, hT0, fun H5 s5 => ?_⟩
      have s15 : Same (upd H1 T' (.tup [V.str z, .ref (A z)])) H5 := (s3.trans s4).trans s5
      refine ⟨_, s15 _ _ (by rw [upd_ne hDT]; exact hD1), (by rw [List.length_map, List.length_replicate]; exact small1000 (by omega)), ?_, fun b o hb => ?_⟩
      · rw [upd_same, List.replicate_succ', List.map_append]
        rfl
      · rw [upd_ne (ne_of_none hb hD)]
        refine s15 _ _ ?_
        rw [upd_ne (ne_of_none (hs _ _ hb) hT')]
        exact hs _ _ hb
    · rintro H1 ⟨hD1, hs⟩
      refine ⟨hs _ _ upd_same, D, _, rfl, SqL.of (by rw [upd_ne (hDd hD)]; exact hD1), ?_⟩
      have e2 : ((List.replicate (names.map fun z => ((Sum.inr z : Key), V.ref (A z))).length true).all id) = true := by simp
      rw [e2]
      refine q _ fun b o hb => ?_
      by_cases e : b = d
      · rw [e, hd] at hb
        cases hb
        rw [e, upd_same]
      · rw [upd_ne e]
        exact hs _ _ (by rw [upd_ne e]; exact hb)
structure W2 (P : Program) (w : World) (K : PySem.W.Frag) (mg : Str → Option Value) (base : Heap) : Prop extends W1 P w K mg base where
  is_rows : Cal P w K mg base CX0 "is_rows" 4 ["thing"] spIsRows
abbrev s_World_init : Stmt := inClass (topS 48) 0
theorem sc_World_init : FnScope ["self", "rows", "ids", "twice", "stream", "row"] ["self", "rows"] (defScope s_World_init) := ⟨rfl, rfl, rfl, by decide +kernel, rfl, by decide +kernel, by decide +kernel⟩
theorem ok_world_init {f CW : Addr} {fd : FuncData} (F : Fun K "__init__" "World.__init__" s_World_init f fd) (B : Blt mg) (Cs : Cst mg) (T0 : Cw K mg CW) (G : W2 P w K mg base) : FnOk P w K mg base CX0 5 f fd ["self", "rows"] (spWorldInit CW) := by
  obtain ⟨t1, g_MOST_ROWS⟩ := Cs.k_MOST_ROWS
  refine F.ok sc_World_init (fun vs H Q E h => ?_) (fun cdv A outer s H vs Q E hr h => ?_)
  · obtain ⟨b, dx, d, names, A, T, n, rfl, _⟩ := h
    rfl
  · obtain ⟨b, dx, d, names, A0, T, n, rfl, hb, R, nl, nd, nm, G0, n4, q⟩ := h
    have hu := hu_of hr
    refine ⟨_, (pss_cons (ps_if (pt_not (pt_val (pe_cal G.is_rows (hr.mono (by decide)) pass0 (pa_cons (pv 1) pa_nil))))
      (pss_one ps_never)
      pss_nil)
    (pss_cons (ps_set (i := 2) sc_World_init.nd rfl (Or.inl rfl) (pe_callB cr_sortedI (by rfl) B.sorted (by decide +kernel) (pa_cons (pe_lock (pe_lc2 (own := [("stream", 4), ("row", 5)]) (vs1 := [5]) (g := gName 4) (g1 := gName 5) (tt := tYes) (tt1 := tYes) (by rfl) sc_World_init.nd (pi_keys (pv 1)) (blkOk_by (own := [("stream", 4), ("row", 5)]) (N := ["self", "rows", "ids", "twice", "stream", "row"]) (sc := defScope s_World_init) (by decide +kernel)) (by decide) (fun _ _ _ _ _ => (pg_name (i := 4) sc_World_init.nd rfl (Or.inl rfl))) (fun _ _ _ _ _ => pts_nil) (fun _ _ _ _ _ => (show PI _ _ _ (iList K _) from (pi_list (pe_dget hu (pv 1) (pv 4) (fun _ _ => rfl))))) (fun _ _ _ _ _ => (pg_name (i := 5) sc_World_init.nd rfl (Or.inl rfl))) (fun _ _ _ _ _ => pts_nil) (fun _ _ _ _ _ => (pe_ix (show IxR _ (rIxT K) from ix_tup) (pv 5) pe_int (fun _ _ => rfl))))) pa_nil)))
    (pss_cons (ps_set (i := 3) sc_World_init.nd rfl (Or.inl rfl) (pe_cal G.first_twice (hr.mono (by decide)) pass0 (pa_cons (pv 2) pa_nil)))
    (pss_cons (ps_if (pt_cmpR op_notN (pv 3) pe_non (nomark _))
      (pss_one ps_never)
      pss_nil)
    (pss_cons (ps_if (pt_cmpR op_gt (pe_callB call_len_seq (by rfl) B.len (by decide +kernel) (pa_cons (pv 2) pa_nil)) (pe_glob (v := .int 400) (by rfl) g_MOST_ROWS ⟨_, rfl⟩) (nomark _))
      (pss_one ps_never)
      pss_nil)
    (pss_cons (ps_fld (pv 0) (pe_lock (pe_dc (own := [("stream", 4)]) (g := gName 4) (by rfl) sc_World_init.nd (pi_keys (pv 1)) (blkOk_by (own := [("stream", 4)]) (N := ["self", "rows", "ids", "twice", "stream", "row"]) (sc := defScope s_World_init) (by decide +kernel)) (fun _ _ _ _ _ => (pg_name (i := 4) sc_World_init.nd rfl (Or.inl rfl))) (fun _ _ _ _ _ => pts_one (show PT _ _ (tTru K _) from pt_truth (pe_dget hu (pv 1) (pv 4) (fun _ _ => rfl)) (fun _ => rfl))) (fun _ _ _ _ _ => (pv 4)) (fun _ _ _ _ _ => (pe_callTy (show CallR _ _ (rTupS K) from call_tuple_of) (by rfl) B.tuple (by decide +kernel) (pa_cons (pe_callB (show CallR _ _ (rSorted3 K) from cr_sorted3) (by rfl) B.sorted (by decide +kernel) (pa_cons (pe_dget hu (pv 1) (pv 4) (fun _ _ => rfl)) pa_nil)) pa_nil))))) rfl)
    (pss_one (ps_fld (pv 0) (pe_callTy call_tuple_of (by rfl) B.tuple (by decide +kernel) (pa_cons (pv 2) pa_nil)) rfl)))))))), ?_⟩
    have hd := R.at_
    refine ⟨_, rfl, d, names, A0, T, rfl, R, nl, fun z hz => ⟨nm z hz, Nat.le_trans (G0.few hz) n4, fun t ht => G0.lo _ (mem_ids.mpr ⟨z, hz, t, ht, rfl⟩)⟩, fun H1 s1 => ⟨_, rfl, iteF ?_⟩⟩
    have R1 := R.same s1
    have hd1 := R1.at_
    -- in the locked heap
    have dg : ∀ {Hb od Hx}, Same (upd Hb d (.frz od (.dK (names.map fun z => (Sum.inr z, V.ref (A0 z)))))) Hx → ∀ z ∈ names, DGet Hx d (.str z) (some (.ref (A0 z))) := fun {Hb od Hx} sx z hz => by
      have this : DGet Hx d (kV (Sum.inr z)) (valV (names.map fun z => ((Sum.inr z : Key), V.ref (A0 z))) (Sum.inr z : Key)) := .inl ⟨_, Sum.inr z, .inr ⟨od, sx _ _ upd_same⟩, rfl, rfl⟩
      rw [valV_nm, if_pos hz] at this
      exact this
    have dl : ∀ {Hb u}, RwAt Hb d names A0 T → ∀ z ∈ names, ∃ ys, upd Hb d u (A0 z) = some (.lst ys) ∧ TrAt (upd Hb d u) ys (T z) := fun {Hb u} R1 z hz => by
      obtain ⟨ys, hy, hT⟩ := R1.row z hz
      have nAd : A0 z ≠ d := fun q => by rw [q, R1.at_] at hy; cases hy
      exact ⟨ys, by rw [upd_ne nAd]; exact hy, hT.tk fun t xs q => by rw [upd_ne (ne_of q R1.at_ (by intro z; cases z))]; exact q⟩
    refine ⟨d, _, hd1, trivial, fun od => ⟨_, rfl, d, od, rfl, .inl ⟨_, upd_same, fun D hD => w_it (walk_keys (kvs := names.map fun z => ((Sum.inr z : Key), V.ref (A0 z)))) (fun i Hx => Hx D = some (.lst ((idsOf (names.take i) T).map V.int)) ∧ Same (upd H1 d (.frz od (.dK (names.map fun z => (Sum.inr z, V.ref (A0 z)))))) Hx) ⟨upd_same, sameAt (Same.refl _) hD⟩ (fun i Hx _ hv => hv.2 _ _ upd_same) ?_ ?_⟩⟩⟩
    · rintro i x Hx Hy hi ⟨hDx, sx⟩ ⟨rfl, k, v, hkv, rfl⟩
      rw [List.length_map] at hi
      rw [List.getElem?_map, List.getElem?_eq_getElem hi, Option.map_some] at hkv
      cases hkv
      have hm : names[i] ∈ names := List.getElem_mem hi
      have tk1 : names.take (i + 1) = names.take i ++ [names[i]] := list_take (List.getElem?_eq_getElem hi)
      generalize names[i] = z at hm tk1
      have hg := dg sx z hm
      obtain ⟨ys, hy, hT⟩ := dl (u := .frz od (.dK (names.map fun z => (Sum.inr z, V.ref (A0 z))))) R1 z hm
      have e1 : idsOf (names.take (i + 1)) T = idsOf (names.take i) T ++ (T z).map (·.2.1) := by
        rw [tk1]
        unfold idsOf
        rw [List.flatMap_append]
        simp
      have fewI : (idsOf (names.take (i + 1)) T).length ≤ 400 := by
        have sl : (idsOf (names.take (i + 1)) T).Sublist (idsOf names T) := by
          have e : idsOf names T = idsOf (names.take (i + 1)) T ++ idsOf (names.drop (i + 1)) T := by
            show names.flatMap _ = _
            unfold idsOf
            rw [← List.flatMap_append, List.take_append_drop]
          rw [e]
          exact List.sublist_append_left _ _
        exact Nat.le_trans sl.length_le (by rw [G0.len]; exact n4)
      refine ⟨rfl, _, rfl, _, rfl, d, _, rfl, hg, A0 z, rfl, ⟨_, SqL.of (sx _ _ hy)⟩, w_it (walk_list (xs := ys)) (fun j Hz => Hz D = some (.lst ((idsOf (names.take i) T ++ ((T z).take j).map (·.2.1)).map V.int)) ∧ Same (upd H1 d (.frz od (.dK (names.map fun z => (Sum.inr z, V.ref (A0 z)))))) Hz) ?_ (fun j Hz _ hv => SqL.of (hv.2 _ _ hy)) ?_ ?_⟩
      · refine ⟨?_, sx⟩
        rw [hDx]
        simp
      · rintro j x Hz Hw hj ⟨hDz, sz⟩ ⟨rfl, hxj⟩
        have hj2 : j < (T z).length := by rw [← hT.1]; exact hj
        obtain ⟨t, ht⟩ : ∃ t, (T z)[j]? = some t := ⟨_, List.getElem?_eq_getElem hj2⟩
        obtain ⟨e, rfl, he⟩ := hT.2 j x t hxj ht
        have he1 := sz _ _ he
        refine ⟨rfl, _, rfl, _, _, _, _, rfl, rfl, SqT.of he1, rfl, _, hDz, ?_, ?_, sameAt sz hD⟩
        · refine small1000 ?_
          rw [e1] at fewI
          rw [List.length_append, List.length_map] at fewI
          rw [List.length_map, List.length_append, List.length_map, List.length_take]
          omega
        · rw [upd_same, list_take ht, List.map_append, List.map_append (l₁ := (T z).take j), List.map_append, List.map_append, List.append_assoc]
          rfl
      · rintro Hz ⟨hDz, sz⟩
        refine ⟨?_, sz⟩
        rw [e1, hDz, hT.1, List.take_length]
    · rintro Hx ⟨hDx, sx⟩
      rw [List.length_map, List.take_length] at hDx
      have Dd : D ≠ d := fun z => by rw [z, upd_same] at hD; cases hD
      have s2 := unlock sx hd1
      have il : (idsOf names T).length ≤ 400 := by rw [G0.len]; exact n4
      refine ⟨sx _ _ upd_same, D, idsOf names T, rfl, SqL.of (by rw [upd_ne Dd]; exact hDx), fun ns' p hperm hsort hp => ?_⟩
      have s3 := s2.trans (sameAt (Same.refl _) hp (o := .lst (ns'.map V.int)))
      have nl' : ns'.length ≤ 400 := by rw [hperm.length_eq]; exact il
      refine ⟨_, rfl, p, ns', rfl, SqL.of upd_same, nl', hperm.symm.nodup G0.nd, ?_⟩
      refine ⟨_, rfl, rfl, _, rfl, iteF ?_⟩
      have d4 : decide ((400 : Int) < ((ns'.map V.int).length : Int)) = false := decide_eq_false (by rw [List.length_map]; omega)
      refine ⟨_, rfl, _, _, rfl, .inl (SqL.of upd_same), _, _, rfl, rfl, _, rfl, ?_⟩
      rw [d4]
      refine iteF ?_
      have hp3 : (upd (upd Hx d (.dK (names.map fun z => (Sum.inr z, V.ref (A0 z))))) p (.lst (ns'.map V.int))) p = some (.lst (ns'.map V.int)) := upd_same
      generalize upd (upd Hx d (.dK (names.map fun z => (Sum.inr z, V.ref (A0 z))))) p (.lst (ns'.map V.int)) = H3 at s3 hp3 ⊢
      have R3 := R1.same s3
      refine ⟨d, _, R3.at_, trivial, fun od2 => ⟨_, rfl, d, od2, rfl, .inl ⟨_, upd_same, fun D2 hD2 => dc_it (walk_keys (kvs := names.map fun z => ((Sum.inr z : Key), V.ref (A0 z)))) (fun i Hy => ∃ kvs, Hy D2 = some (.dK kvs) ∧ kvs.length ≤ i ∧ Same (upd H3 d (.frz od2 (.dK (names.map fun z => (Sum.inr z, V.ref (A0 z)))))) Hy ∧
        ∀ z, (z ∉ names.take i → valV kvs (Sum.inr z : Key) = none) ∧ (z ∈ names.take i → (valV kvs (Sum.inr z : Key) = none ∧ T z = []) ∨ ∃ e ys ws, valV kvs (Sum.inr z : Key) = some (.ref e) ∧ Hy e = some (.tup ys) ∧ TrAt Hy ys ws ∧ ws.Perm (T z) ∧ ws.Pairwise fun a b => lex3 a b = true)) ?_ (fun i Hy _ hv => by
          obtain ⟨kvs, _, _, sx, _⟩ := hv
          exact sx _ _ upd_same) ?_ ?_⟩⟩⟩
      · exact ⟨[], upd_same, Nat.le_refl _, sameAt (Same.refl _) hD2, fun z => ⟨fun _ => rfl, fun h => nomatch h⟩⟩
      · rintro i x Hy Hz hi ⟨kvs, hDy, hl, sx, hv⟩ ⟨rfl, k, v, hkv, rfl⟩
        rw [List.length_map] at hi
        rw [List.getElem?_map, List.getElem?_eq_getElem hi, Option.map_some] at hkv
        cases hkv
        have hm : names[i] ∈ names := List.getElem_mem hi
        have tk1 : names.take (i + 1) = names.take i ++ [names[i]] := list_take (List.getElem?_eq_getElem hi)
        have hnt : names[i] ∉ names.take i := fun hm => by
          obtain ⟨j, hj, e⟩ := List.getElem_of_mem hm
          rw [List.length_take] at hj
          rw [List.getElem_take] at e
          have := nd_ix nd (List.getElem?_eq_some_iff.mpr ⟨by omega, e⟩) (List.getElem?_eq_getElem hi)
          omega
        generalize names[i] = z at hm tk1 hnt
        have hg := dg sx z hm
        obtain ⟨ys, hy, hT⟩ := dl (u := .frz od2 (.dK (names.map fun z => (Sum.inr z, V.ref (A0 z))))) R3 z hm
        refine ⟨rfl, _, rfl, _, rfl, d, _, rfl, hg, _, .inl ⟨ys, SqL.of (sx _ _ hy), rfl⟩, ?_⟩
        cases ys with
        | nil =>
          refine ⟨kvs, hDy, by omega, sx, fun y => ?_⟩
          have T0 : T z = [] := List.length_eq_zero_iff.mp hT.1.symm
          rw [tk1]
          refine ⟨fun h => (hv y).1 fun q => h (List.mem_append_left _ q), fun h => ?_⟩
          rcases List.mem_append.mp h with h | h
          · exact (hv y).2 h
          · rw [List.mem_singleton.mp h]
            exact .inl ⟨(hv z).1 hnt, T0⟩
        | cons y0 yr =>
          refine iteT ⟨_, rfl, _, rfl, _, rfl, d, _, rfl, hg, A0 z, y0 :: yr, triOf Hz, rfl, SqL.of (sx _ _ hy), (hT.tk fun t xs q => sx _ _ q).tri, fun zs p2 hsrt hpm hp2 => ⟨p2, zs, rfl, .inl ⟨SqL.of upd_same, fun l hl => ?_⟩⟩⟩
          have hT' := hT.tk fun t xs q => sx _ _ q
          have p2D : p2 ≠ D2 := fun q => by rw [q, hDy] at hp2; cases hp2
          have hl0 : Hz l = none := none_of (sameAt (Same.refl Hz) hp2) hl
          have lD : l ≠ D2 := fun q => by rw [q, hDy] at hl0; cases hl0
          have lp : l ≠ p2 := fun q => by rw [q, upd_same] at hl; cases hl
          have sF : ∀ {u}, Same (upd H3 d (.frz od2 (.dK (names.map fun z => (Sum.inr z, V.ref (A0 z)))))) (upd (upd (upd Hz p2 (.lst zs)) l (.tup zs)) D2 u) := fun {u} => sameAt ((sx.trans (sameAt (Same.refl _) hp2)).trans (sameAt (Same.refl _) hl)) hD2
          have tkF : ∀ {u} t xs, Hz t = some (.tup xs) → (upd (upd (upd Hz p2 (.lst zs)) l (.tup zs)) D2 u) t = some (.tup xs) := fun {u} t xs q => by
            rw [upd_ne (ne_of q hDy (by intro z; cases z)), upd_ne (ne_of_none q hl0), upd_ne (ne_of_none q hp2)]
            exact q
          refine ⟨kvs, Sum.inr z, rfl, by rw [upd_ne (Ne.symm lD), upd_ne (Ne.symm p2D)]; exact hDy, small1000 (by omega), _, upd_same, Nat.le_trans (pk_len _ _ _) (by omega), sF, fun y => ?_⟩
          rw [tk1, valV_put]
          refine ⟨fun h => ?_, fun h => ?_⟩
          · rw [if_neg (fun q => h (by rw [Sum.inr.inj q]; simp))]
            exact (hv y).1 fun q => h (List.mem_append_left _ q)
          · by_cases ez : y = z
            · subst ez
              rw [if_pos rfl]
              have tz : TrAt Hz zs (zs.map (triOf Hz)) := TrAt.of_tri fun x hx => hT'.tri x (hpm.mem_iff.mp hx)
              have pz : (zs.map (triOf Hz)).Perm (T y) := by
                have := hpm.map (triOf Hz)
                rw [hT'.map] at this
                exact this
              refine .inr ⟨l, zs, zs.map (triOf Hz), rfl, by rw [upd_ne lD, upd_same], tz.tk tkF, pz, asc_of (List.pairwise_map.mpr hsrt) ((pz.map (·.2.1)).symm.nodup (G0.apart hm))⟩
            · rw [if_neg (fun q => ez (Sum.inr.inj q))]
              rcases List.mem_append.mp h with h | h
              · rcases (hv y).2 h with h1 | ⟨e, ys', ws, g1, g2, g3, g4⟩
                · exact .inl h1
                · exact .inr ⟨e, ys', ws, g1, tkF _ _ g2, g3.tk tkF, g4⟩
              · exact absurd (List.mem_singleton.mp h) ez
      · rintro Hy ⟨kvs, hDy, hl, sx, hv⟩
        rw [List.length_map, List.take_length] at hv
        have s5 := unlock sx R3.at_
        have hdy := sx _ _ upd_same
        have hb3 := s3 _ _ (s1 _ _ hb)
        have hbF := s5 _ _ hb3
        have hpF := s5 _ _ hp3
        have pb : p ≠ b := ne_of hp3 hb3 (by intro z; cases z)
        have bd : b ≠ d := fun q => by rw [q] at hb3; rw [R3.at_] at hb3; cases hb3
        have hbY : Hy b = some (.ins CW dx []) := by rw [upd_ne bd] at hbF; exact hbF
        have D2b : D2 ≠ b := fun q => by rw [q, hbY] at hDy; cases hDy
        have D2d : D2 ≠ d := fun q => by rw [q, hdy] at hDy; cases hDy
        refine ⟨hdy, _, rfl, b, CW, dx, [], rfl, hbF, T0.cl, T0.nR, (by show 0 < 1000; decide), ?_⟩
        refine ⟨_, rfl, p, _, rfl, .inl ⟨SqL.of (by rw [upd_ne pb]; exact hpF), fun t ht => ?_⟩⟩
        have tb : t ≠ b := fun q => by rw [q, upd_same] at ht; cases ht
        have ht0 : upd Hy d (.dK (names.map fun z => (Sum.inr z, V.ref (A0 z)))) t = none := by rw [upd_ne tb] at ht; exact ht
        have td : t ≠ d := fun q => by rw [q, upd_same] at ht0; cases ht0
        have htY : Hy t = none := by rw [upd_ne td] at ht0; exact ht0
        refine ⟨_, rfl, b, CW, dx, _, rfl, by rw [upd_ne (Ne.symm tb), upd_same], T0.cl, T0.nI, (by show 1 < 1000; decide), ?_⟩
        have ex : ∀ z, ∃ ws : List T3, (z ∈ names → ws.Perm (T z) ∧ ws.Pairwise fun a b => lex3 a b = true) ∧ (z ∉ names → ws = []) ∧ ws.length ≤ 400 ∧ ((valV kvs (Sum.inr z : Key) = none ∧ ws = []) ∨ ∃ e ys, valV kvs (Sum.inr z : Key) = some (.ref e) ∧ Hy e = some (.tup ys) ∧ TrAt Hy ys ws) := fun z => by
          by_cases hz : z ∈ names
          · rcases (hv z).2 hz with ⟨h1, h2⟩ | ⟨e, ys, ws, g1, g2, g3, g4, g5⟩
            · exact ⟨[], fun _ => ⟨by rw [h2], List.Pairwise.nil⟩, fun _ => rfl, by simp, .inl ⟨h1, rfl⟩⟩
            · exact ⟨ws, fun _ => ⟨g4, g5⟩, fun h => absurd hz h, by rw [g4.length_eq]; exact Nat.le_trans (G0.few hz) n4, .inr ⟨e, ys, g1, g2, g3⟩⟩
          · exact ⟨[], fun h => absurd h hz, fun _ => rfl, by simp, .inl ⟨(hv z).1 hz, rfl⟩⟩
        obtain ⟨W, hW⟩ := Classical.axiomOfChoice ex
        have kp : ∀ {u1 u2 u3} c o, Hy c = some o → c ≠ b → c ≠ d → upd (upd (upd (upd Hy d u1) b u2) t u3) b (.ins CW dx (putF "_ids" (.ref t) [("_rows", .ref D2)])) c = some o := fun {u1 u2 u3} c o hc n1 n2 => by
          rw [upd_ne n1, upd_ne (ne_of_none hc htY), upd_ne n1, upd_ne n2]
          exact hc
        refine q _ W ⟨dx, D2, t, kvs, _, upd_same, kp _ _ hDy D2b D2d, by rw [upd_ne tb, upd_same], fun z => ⟨(hW z).2.2.1, ?_⟩⟩ ⟨fun z hz => (hW z).1 hz, fun z hz => (hW z).2.1 hz⟩ fun c o hc hn => ?_
        · have tkF : ∀ {u1 u2 u3} t' xs, Hy t' = some (.tup xs) → upd (upd (upd (upd Hy d u1) b u2) t u3) b (.ins CW dx (putF "_ids" (.ref t) [("_rows", .ref D2)])) t' = some (.tup xs) := fun {u1 u2 u3} t' xs q => kp _ _ q (ne_of q hbY (by intro z; cases z)) (ne_of q hdy (by intro z; cases z))
          rcases (hW z).2.2.2 with h | ⟨e, ys, g1, g2, g3⟩
          · exact .inl h
          · exact .inr ⟨e, ys, g1, tkF _ _ g2, g3.tk tkF⟩
        · have hc5 := s5 _ _ (s3 _ _ (s1 _ _ hc))
          rw [upd_ne hn, upd_ne (ne_of_none hc5 ht0), upd_ne hn]
          exact hc5
abbrev s_World_rows : Stmt := inClass (topS 48) 3
theorem sc_World_rows : FnScope ["self", "stream"] ["self", "stream"] (defScope s_World_rows) := ⟨rfl, rfl, rfl, by decide +kernel, rfl, by decide +kernel, by decide +kernel⟩
theorem ok_world_rows {f CW : Addr} {fd : FuncData} (F : Fun K "rows" "World.rows" s_World_rows f fd) (B : Blt mg) (T0 : Cw K mg CW) (G : K2 P w K mg base) : FnOk P w K mg base CX0 2 f fd ["self", "stream"] (spWorldRows CW) := by
  refine F.ok sc_World_rows (fun vs H Q E h => ?_) (fun cdv A outer s H vs Q E hr h => ?_)
  · obtain ⟨a, W, z, rfl, _⟩ := h
    rfl
  · obtain ⟨a, W, z, rfl, hW, hz, q⟩ := h
    have hu := hu_of hr
    refine ⟨_, (pss_cons (ps_if (pt_not (pt_val (pe_cal G.is_name (hr.mono (by decide)) pass0 (pa_cons (pv 1) pa_nil))))
      (pss_one ps_never)
      pss_nil)
    (pss_one (ps_ret (pe_callTy call_list_of (by rfl) B.list (by decide +kernel) (pa_cons (pe_dget2 hu (pe_fld (pv 0) rfl) (pv 1) (pe_tup pa_nil) ⟨rfl, rfl, rfl, rfl⟩) pa_nil))))), ?_⟩
    obtain ⟨dx, d, t, kvs, ids, h1, h2, h3, h4⟩ := id hW
    refine ⟨_, rfl, _, rfl, .inl ⟨z, rfl, (by have := hz.2.1; rw [sizeLine_eq]; omega), fun H1 s1 => ⟨_, rfl, ?_⟩⟩⟩
    rw [(nmB_iff z).mpr hz]
    refine iteF ?_
    refine ⟨_, rfl, a, CW, dx, _, _, rfl, s1 _ _ h1, T0.cl, T0.nR, rfl, d, rfl, .inl ⟨_, .inl (s1 _ _ h2)⟩, _, rfl, (by show 0 ≤ sizeLine; decide), fun e he => ⟨_, DGet.k (k := Sum.inr z) (sameAt (Same.refl H1) he _ _ (s1 _ _ h2)), ?_⟩⟩
    have s2 : Same H (upd H1 e (.tup [])) := s1.trans (sameAt (Same.refl H1) he)
    rcases (h4 z).2 with ⟨hv, hw⟩ | ⟨t', ys, hv, ht, hT⟩
    · rw [hv]
      refine ⟨e, [], rfl, .inr (SqT.of upd_same), fun l hl => ?_⟩
      refine q l [] _ (s2.trans (sameAt (Same.refl _) hl)) (none_of s2 hl) upd_same ?_
      rw [hw]
      exact ⟨rfl, fun i v t a b => by simp at a⟩
    · rw [hv]
      refine ⟨t', ys, rfl, .inr (SqT.of (s2 _ _ ht)), fun l hl => ?_⟩
      exact q l ys _ (s2.trans (sameAt (Same.refl _) hl)) (none_of s2 hl) upd_same (hT.tk fun t xs q => sameAt (Same.refl _) hl _ _ (s2 _ _ q))
end
end Ash

set_option Elab.async false
set_option linter.all false
set_option maxRecDepth 100000
set_option maxHeartbeats 4000000
namespace Ash
open PySem PySem.Spec PyProof.Rows L2
open C8 (pss_cut)
/-! ### terms: classes, sizes -/
abbrev ATTRS : List Str := ["stream", "term", "first", "second", "amount", "spelling", "depth", "parts", "looks", "choices"]
/-- the facts of the classes of terms -/
structure TF (K : PySem.W.Frag) (mg : Str → Option Value) (C : TC) : Prop where
  cl : ∀ a, C.Is a → Cls K a
  no : ∀ a, C.Is a → ∀ f ∈ ATTRS, NoAttr K a f
  ty : ∀ a, C.Is a → PySem.W.findIn K (.ref a) "__class__" = some (some (.builtin "object.__class__")) ∧ PySem.W.specialIn K (.builtin "object.__class__") "__get__" = some (some (.builtin "getset_descriptor.__get__")) ∧ PySem.W.takesIn K (.builtin "object.__class__") = some true ∧ PySem.W.mroIn K a (.type "object") = some true
  one : ∀ a b, C.Is a → C.Is b → PySem.W.kitOne K (.ref a) (.ref b) = some (decide (a = b))
  Now : mg "Now" = some (.ref C.now)
  Last : mg "Last" = some (.ref C.last)
  Next : mg "Next" = some (.ref C.next)
  Shift : mg "Shift" = some (.ref C.shift)
  Either : mg "Either" = some (.ref C.either)
  Later : mg "Later" = some (.ref C.later)
  Earlier : mg "Earlier" = some (.ref C.earlier)
theorem TF.tyx {K : PySem.W.Frag} {mg : Str → Option Value} {C : TC} (T : TF K mg C) {H : Hp} {a : Addr} {t : Tm} (h : TmAt C H a t) : TyX K H (.ref a) (.ref (C.of t)) := by
  obtain ⟨dx, fs, sp, i⟩ := h.in_
  obtain ⟨h1, h2, h3, h4⟩ := T.ty _ (C.is_of t)
  exact .base (.ins i.at_ (T.cl _ (C.is_of t)) h1 h2 h3 h4)
theorem TmAt.off {C : TC} {H H' : Hp} {b D dx : Addr} (hb : H b = some (.ins D dx [])) (k : ∀ c o, H c = some o → c ≠ b → H' c = some o) : ∀ {t : Tm} {a : Addr}, TmAt C H a t → TmAt C H' a t
  | .now, a, ⟨dx, sp, h1, h2⟩ => ⟨dx, sp, k _ _ h1 (ne_of h1 hb (by intro z; cases z)), k _ _ h2 (ne_of h2 hb (by intro z; cases z))⟩
  | .last s t, a, ⟨dx, c, sp, h1, h2, h3⟩ => ⟨dx, c, sp, k _ _ h1 (ne_of h1 hb (by intro z; cases z)), k _ _ h2 (ne_of h2 hb (by intro z; cases z)), TmAt.off hb k h3⟩
  | .next s t, a, ⟨dx, c, sp, h1, h2, h3⟩ => ⟨dx, c, sp, k _ _ h1 (ne_of h1 hb (by intro z; cases z)), k _ _ h2 (ne_of h2 hb (by intro z; cases z)), TmAt.off hb k h3⟩
  | .shift s t, a, ⟨dx, c, sp, h1, h2, h3⟩ => ⟨dx, c, sp, k _ _ h1 (ne_of h1 hb (by intro z; cases z)), k _ _ h2 (ne_of h2 hb (by intro z; cases z)), TmAt.off hb k h3⟩
  | .either s t, a, ⟨dx, c, d, sp, h1, h2, h3, h4⟩ => ⟨dx, c, d, sp, k _ _ h1 (ne_of h1 hb (by intro z; cases z)), k _ _ h2 (ne_of h2 hb (by intro z; cases z)), TmAt.off hb k h3, TmAt.off hb k h4⟩
  | .later s t, a, ⟨dx, c, d, sp, h1, h2, h3, h4⟩ => ⟨dx, c, d, sp, k _ _ h1 (ne_of h1 hb (by intro z; cases z)), k _ _ h2 (ne_of h2 hb (by intro z; cases z)), TmAt.off hb k h3, TmAt.off hb k h4⟩
  | .earlier s t, a, ⟨dx, c, d, sp, h1, h2, h3, h4⟩ => ⟨dx, c, d, sp, k _ _ h1 (ne_of h1 hb (by intro z; cases z)), k _ _ h2 (ne_of h2 hb (by intro z; cases z)), TmAt.off hb k h3, TmAt.off hb k h4⟩
def Tm.isLook : Tm → Bool
  | .last _ _ => true
  | .next _ _ => true
  | _ => false
theorem tyx_same {K : PySem.W.Frag} {H H' : Hp} {v : V} {t : Value} (h : TyX K H v t) (s : Same H H') : TyX K H' v t := by
  cases h with
  | base b =>
    refine .base ?_
    cases b with
    | non => exact .non
    | bl x => exact .bl x
    | int x => exact .int x
    | str x => exact .str x
    | flt x => exact .flt x
    | lst e => exact .lst (s _ _ e)
    | frz e => exact .frz (s _ _ e)
    | tup e => exact .tup (s _ _ e)
    | dK e => exact .dK (s _ _ e)
    | dT e => exact .dT (s _ _ e)
    | ins e c a b d f => exact .ins (s _ _ e) c a b d f
  | byt b => exact .byt b
  | set e => exact .set (s _ _ e)
  | kList e c => exact .kList e c
  | kTuple e c => exact .kTuple e c
  | kDict e c => exact .kDict e c
  | fTuple e => exact .fTuple (s _ _ e)
  | fDict e => exact .fDict (s _ _ e)
/-- the classes are apart -/
structure TD (C : TC) : Prop where
  nd : [C.now, C.last, C.next, C.shift, C.either, C.later, C.earlier].Nodup
theorem TD.look {C : TC} (D : TD C) (t : Tm) : decide (C.of t ∈ [C.last, C.next]) = t.isLook := by
  have h := D.nd
  simp only [List.nodup_cons, List.mem_cons, List.not_mem_nil, or_false, not_or] at h
  obtain ⟨⟨a1, a2, a3, a4, a5, a6⟩, ⟨b1, b2, b3, b4, b5⟩, ⟨c1, c2, c3, c4⟩, _⟩ := h
  cases t <;> simp [TC.of, Tm.isLook, a1, a2, Ne.symm b2, Ne.symm b3, Ne.symm b4, Ne.symm b5, Ne.symm c1, Ne.symm c2, Ne.symm c3, Ne.symm c4, Ne.symm b1]
/-- no term -/
def NotTm (K : PySem.W.Frag) (C : TC) (H : Hp) (v : V) : Prop := ∃ t, TyX K H v t ∧ ∀ a, C.Is a → PySem.W.kitOne K t (.ref a) = some false
def spIsTerm (K : PySem.W.Frag) (C : TC) : Sp := fun vs H Q _ => ∃ v, vs = [v] ∧ ((∃ a t, v = .ref a ∧ TmAt C H a t ∧ ∀ H', Same H H' → Q (.bl true) H') ∨ (NotTm K C H v ∧ ∀ H', Same H H' → Q (.bl false) H'))
def spIsLook (C : TC) : Sp := fun vs H Q _ => ∃ a t, vs = [.ref a] ∧ TmAt C H a t ∧ ∀ H', Same H H' → Q (.bl t.isLook) H'
def spCStream : Sp := fun vs H Q _ => ∃ z, vs = [.str z] ∧ IsNm z ∧ ∀ H', Same H H' → Q (.str z) H'
def spCTerm (C : TC) : Sp := fun vs H Q _ => ∃ a t, vs = [.ref a] ∧ TmAt C H a t ∧ ∀ H', Same H H' → Q (.ref a) H'
def szD (ts : List Tm) : Int := 1 + mxD (ts.map Tm.dep) 0
def szP (ts : List Tm) : Int := 1 + (ts.map Tm.par).sum
def szL (ts : List Tm) : Int := (ts.map Tm.lok).sum
def szC (ts : List Tm) : Int := (ts.map Tm.cho).sum
def spSizes (C : TC) : Sp := fun vs H Q _ => ∃ (tp : Addr) (as : List Addr) (ts : List Tm) (l0 c0 : Int), vs = [.ref tp, .int l0, .int c0] ∧ H tp = some (.tup (as.map V.ref)) ∧ as.length = ts.length ∧ as.length ≤ 2 ∧ (∀ (i : Nat) a t, as[i]? = some a → ts[i]? = some t → TmAt C H a t) ∧
  szD ts ≤ 12 ∧ szP ts ≤ 40 ∧ l0 + szL ts ≤ 12 ∧ ∀ (q : Addr) H', Same H H' → H q = none → H' q = some (.tup [.int (szD ts), .int (szP ts), .int (l0 + szL ts), .int (c0 + szC ts)]) → Q (.ref q) H'
/-- one more attribute -/
def Keep (b : Addr) (H H' : Hp) : Prop := ∀ c o, H c = some o → c ≠ b → H' c = some o
def spInit0 (C : TC) : Sp := fun vs H Q _ => ∃ (b dx : Addr), vs = [.ref b] ∧ H b = some (.ins C.now dx []) ∧ ∀ H', TmAt C H' b .now → Keep b H H' → Q .non H'
def spInitL (C : TC) (D : Addr) (mk : Str → Tm → Tm) : Sp := fun vs H Q _ => ∃ (b dx a : Addr) (z : Str) (t : Tm), vs = [.ref b, .str z, .ref a] ∧ H b = some (.ins D dx []) ∧ IsNm z ∧ TmAt C H a t ∧ (mk z t).Fit ∧ ∀ H', TmAt C H' b (mk z t) → Keep b H H' → Q .non H'
def spInitS (C : TC) : Sp := fun vs H Q _ => ∃ (b dx a : Addr) (n : Int) (t : Tm), vs = [.ref b, .ref a, .int n] ∧ H b = some (.ins C.shift dx []) ∧ TmAt C H a t ∧ (Tm.shift n t).Fit ∧ ∀ H', TmAt C H' b (.shift n t) → Keep b H H' → Q .non H'
def spInitP (C : TC) (D : Addr) (mk : Tm → Tm → Tm) : Sp := fun vs H Q _ => ∃ (b dx a c : Addr) (t u : Tm), vs = [.ref b, .ref a, .ref c] ∧ H b = some (.ins D dx []) ∧ TmAt C H a t ∧ TmAt C H c u ∧ (mk t u).Fit ∧ ∀ H', TmAt C H' b (mk t u) → Keep b H H' → Q .non H'
section
variable {P : Program} {w : World} {K : PySem.W.Frag} {mg : Str → Option Value} {base : Heap} {C : TC}
theorem TF.any (T : TF K mg C) {a : Addr} (ha : C.Is a) : ∀ {bs : List Addr}, (∀ b ∈ bs, C.Is b) → PySem.W.kitAny K (.ref a) (bs.map Value.ref) = some (decide (a ∈ bs))
  | [], _ => rfl
  | b :: r, h => by
    have ih := T.any ha (bs := r) fun b hb => h b (List.mem_cons_of_mem _ hb)
    refine kitAny_cons (b := decide (a = b)) (T.one a b ha (h b List.mem_cons_self)) (fun e => ?_) (fun e => ?_)
    · rw [ih]
      have : ¬ a = b := of_decide_eq_false e
      simp [this]
    · have : a = b := of_decide_eq_true e
      simp [this]
abbrev s_is_term : Stmt := topS 29
theorem sc_is_term : FnScope ["thing"] ["thing"] (defScope s_is_term) := ⟨rfl, rfl, rfl, by decide +kernel, rfl, by decide +kernel, by decide +kernel⟩
theorem ok_is_term {f : Addr} {fd : FuncData} (F : Fun K "is_term" "is_term" s_is_term f fd) (B : Blt mg) (T : TF K mg C) : FnOk P w K mg base CX0 1 f fd ["thing"] (spIsTerm K C) := by
  obtain ⟨t_cl, t_no, t_ty, t_one, c_Now, c_Last, c_Next, c_Shift, c_Either, c_Later, c_Earlier⟩ := id T
  refine F.ok sc_is_term (fun vs H Q E h => ?_) (fun cdv A outer s H vs Q E hr h => ?_)
  · obtain ⟨v, rfl, _⟩ := h
    rfl
  · obtain ⟨v, rfl, hv⟩ := h
    refine ⟨_, (pss_one (ps_ret (pe_callB call_isiT (by rfl) B.isinstance (by decide +kernel) (pa_cons (pv 0) (pa_cons (pe_tup (pa_cons (pe_glob (v := .ref C.now) (by rfl) c_Now rfl) (pa_cons (pe_glob (v := .ref C.last) (by rfl) c_Last rfl) (pa_cons (pe_glob (v := .ref C.next) (by rfl) c_Next rfl) (pa_cons (pe_glob (v := .ref C.shift) (by rfl) c_Shift rfl) (pa_cons (pe_glob (v := .ref C.either) (by rfl) c_Either rfl) (pa_cons (pe_glob (v := .ref C.later) (by rfl) c_Later rfl) (pa_cons (pe_glob (v := .ref C.earlier) (by rfl) c_Earlier rfl) pa_nil)))))))) pa_nil))))), ?_⟩
    refine ⟨_, rfl, (by show 7 ≤ sizeLine; decide), fun p hp => ?_⟩
    have s1 : ∀ {o}, Same H (upd H p o) := fun {o} => sameAt (Same.refl H) hp
    have cs : ∀ b ∈ [C.now, C.last, C.next, C.shift, C.either, C.later, C.earlier], C.Is b := fun b hb => by
      simp only [List.mem_cons, List.not_mem_nil, or_false] at hb
      exact hb
    rcases hv with ⟨a, t, rfl, h, q⟩ | ⟨⟨t, h, hn⟩, q⟩
    · have k := T.any (C.is_of t) cs
      have e : decide (C.of t ∈ [C.now, C.last, C.next, C.shift, C.either, C.later, C.earlier]) = true := by
        have := C.is_of t
        simp only [List.mem_cons, List.not_mem_nil, or_false, decide_eq_true_eq]
        exact this
      rw [e] at k
      exact ⟨_, p, _, _, _, true, rfl, upd_same, .cons (.own _) (.cons (.own _) (.cons (.own _) (.cons (.own _) (.cons (.own _) (.cons (.own _) (.cons (.own _) .nil)))))), T.tyx (h.same s1), k, q _ s1⟩
    · have k : PySem.W.kitAny K t ([C.now, C.last, C.next, C.shift, C.either, C.later, C.earlier].map Value.ref) = some false := by
        have : ∀ bs : List Addr, (∀ b ∈ bs, C.Is b) → PySem.W.kitAny K t (bs.map Value.ref) = some false := fun bs => by
          induction bs with
          | nil => exact fun _ => rfl
          | cons b r ih => exact fun hb => kitAny_cons (hn b (hb b List.mem_cons_self)) (fun _ => ih fun b hb' => hb b (List.mem_cons_of_mem _ hb')) (fun z => nomatch z)
        exact this _ cs
      exact ⟨_, p, _, _, _, false, rfl, upd_same, .cons (.own _) (.cons (.own _) (.cons (.own _) (.cons (.own _) (.cons (.own _) (.cons (.own _) (.cons (.own _) .nil)))))), tyx_same h s1, k, q _ s1⟩
abbrev s_is_look : Stmt := topS 30
theorem sc_is_look : FnScope ["thing"] ["thing"] (defScope s_is_look) := ⟨rfl, rfl, rfl, by decide +kernel, rfl, by decide +kernel, by decide +kernel⟩
theorem ok_is_look {f : Addr} {fd : FuncData} (F : Fun K "is_look" "is_look" s_is_look f fd) (B : Blt mg) (T : TF K mg C) (D : TD C) : FnOk P w K mg base CX0 1 f fd ["thing"] (spIsLook C) := by
  obtain ⟨t_cl, t_no, t_ty, t_one, c_Now, c_Last, c_Next, c_Shift, c_Either, c_Later, c_Earlier⟩ := id T
  refine F.ok sc_is_look (fun vs H Q E h => ?_) (fun cdv A outer s H vs Q E hr h => ?_)
  · obtain ⟨a, t, rfl, _⟩ := h
    rfl
  · obtain ⟨a, t, rfl, h, q⟩ := h
    refine ⟨_, (pss_one (ps_ret (pe_callB call_isiT (by rfl) B.isinstance (by decide +kernel) (pa_cons (pv 0) (pa_cons (pe_tup (pa_cons (pe_glob (v := .ref C.last) (by rfl) c_Last rfl) (pa_cons (pe_glob (v := .ref C.next) (by rfl) c_Next rfl) pa_nil))) pa_nil))))), ?_⟩
    refine ⟨_, rfl, (by show 2 ≤ sizeLine; decide), fun p hp => ?_⟩
    have s1 : ∀ {o}, Same H (upd H p o) := fun {o} => sameAt (Same.refl H) hp
    have cs : ∀ b ∈ [C.last, C.next], C.Is b := fun b hb => by
      simp only [List.mem_cons, List.not_mem_nil, or_false] at hb
      exact .inr (hb.elim .inl fun z => .inr (.inl z))
    have k := T.any (C.is_of t) cs
    refine ⟨_, p, _, _, _, _, rfl, upd_same, .cons (.own _) (.cons (.own _) .nil), T.tyx (h.same s1), k, ?_⟩
    have e : decide (C.of t ∈ [C.last, C.next]) = t.isLook := D.look t
    rw [e]
    exact q _ s1
structure T1 (P : Program) (w : World) (K : PySem.W.Frag) (mg : Str → Option Value) (base : Heap) (C : TC) : Prop extends W2 P w K mg base where
  is_term : Cal P w K mg base CX0 "is_term" 1 ["thing"] (spIsTerm K C)
  is_look : Cal P w K mg base CX0 "is_look" 1 ["thing"] (spIsLook C)
abbrev s_checked_stream : Stmt := topS 31
theorem sc_checked_stream : FnScope ["stream"] ["stream"] (defScope s_checked_stream) := ⟨rfl, rfl, rfl, by decide +kernel, rfl, by decide +kernel, by decide +kernel⟩
theorem ok_cstream {f : Addr} {fd : FuncData} (F : Fun K "checked_stream" "checked_stream" s_checked_stream f fd) (B : Blt mg) (G : T1 P w K mg base C) : FnOk P w K mg base CX0 2 f fd ["stream"] spCStream := by
  refine F.ok sc_checked_stream (fun vs H Q E h => ?_) (fun cdv A outer s H vs Q E hr h => ?_)
  · obtain ⟨z, rfl, _⟩ := h
    rfl
  · obtain ⟨z, rfl, hz, q⟩ := h
    refine ⟨_, (pss_cons (ps_if (pt_not (pt_val (pe_cal G.is_name (hr.mono (by decide)) pass0 (pa_cons (pv 0) pa_nil))))
      (pss_one ps_never)
      pss_nil)
    (pss_one (ps_ret (pv 0)))), ?_⟩
    refine ⟨_, rfl, _, rfl, .inl ⟨z, rfl, (by have := hz.2.1; rw [sizeLine_eq]; omega), fun H1 s1 => ⟨_, rfl, ?_⟩⟩⟩
    rw [(nmB_iff z).mpr hz]
    exact iteF ⟨_, rfl, q H1 s1⟩
abbrev s_checked_term : Stmt := topS 32
theorem sc_checked_term : FnScope ["term"] ["term"] (defScope s_checked_term) := ⟨rfl, rfl, rfl, by decide +kernel, rfl, by decide +kernel, by decide +kernel⟩
theorem ok_cterm {f : Addr} {fd : FuncData} (F : Fun K "checked_term" "checked_term" s_checked_term f fd) (B : Blt mg) (G : T1 P w K mg base C) : FnOk P w K mg base CX0 2 f fd ["term"] (spCTerm C) := by
  refine F.ok sc_checked_term (fun vs H Q E h => ?_) (fun cdv A outer s H vs Q E hr h => ?_)
  · obtain ⟨a, t, rfl, _⟩ := h
    rfl
  · obtain ⟨a, t, rfl, h, q⟩ := h
    refine ⟨_, (pss_cons (ps_if (pt_not (pt_val (pe_cal G.is_term (hr.mono (by decide)) pass0 (pa_cons (pv 0) pa_nil))))
      (pss_one ps_never)
      pss_nil)
    (pss_one (ps_ret (pv 0)))), ?_⟩
    exact ⟨_, rfl, _, rfl, .inl ⟨a, t, rfl, h, fun H1 s1 => ⟨_, rfl, iteF ⟨_, rfl, q H1 s1⟩⟩⟩⟩
abbrev s_sizes : Stmt := topS 33
theorem sc_sizes : FnScope ["children", "looks", "choices", "depth", "parts", "child"] ["children", "looks", "choices"] (defScope s_sizes) := ⟨rfl, rfl, rfl, by decide +kernel, rfl, by decide +kernel, by decide +kernel⟩
theorem ok_sizes {f : Addr} {fd : FuncData} (F : Fun K "sizes" "sizes" s_sizes f fd) (B : Blt mg) (Cs : Cst mg) (T : TF K mg C) : FnOk P w K mg base CX0 1 f fd ["children", "looks", "choices"] (spSizes C) := by
  obtain ⟨t1, g_MOST_DEPTH⟩ := Cs.k_MOST_DEPTH
  obtain ⟨t2, g_MOST_PARTS⟩ := Cs.k_MOST_PARTS
  obtain ⟨t3, g_MOST_LOOKS⟩ := Cs.k_MOST_LOOKS
  refine F.ok sc_sizes (fun vs H Q E h => ?_) (fun cdv A outer s H vs Q E hr h => ?_)
  · obtain ⟨tp, as, ts, l0, c0, rfl, _⟩ := h
    rfl
  · obtain ⟨tp, as, ts, l0, c0, rfl, ht, hl, h2, hT, hd, hp, hk, q⟩ := h
    have hu9 : (A.deeper (envOfC "sizes" (defScope s_sizes) s.heap.objs.size f cdv)).units + 9 < cLine := by
      have := hr.units
      omega
    have comp : ∀ (nm : Str) (F : Tm → Int) (hF : ∀ {H2 a t dx fs sp}, TmIn C H2 a t dx fs sp → fs.lookup nm = some (.int (F t))) (hA : nm ∈ ATTRS) (H1 : Hp) (s1 : Same H H1) (D : Addr) (hD : H1 D = none) (x1 x2 x3 x4 x5 : Option V) (Qd : Hp → Prop), (∀ H2, Same H H2 → H2 D = some (.lst ((ts.map F).map V.int)) → Qd H2) →
        ∃ W : Nat → Nat → Hp → Prop, (∃ m, W 0 m (upd H1 D (.lst []))) ∧ ∀ i m H, W i m H →
          ((Itt K tp).stop i H ∧ Qd H) ∨ ((Itt K tp).go i H ∧ ∃ Nx : Hp → Prop, (∀ H', Nx H' → ∃ m', m' < m ∧ W (i + 1) m' H') ∧ ∀ x H', (Itt K tp).yld i H x H' → gName 5 x (wipe [some (.ref tp), x1, x2, x3, x4, x5] [5]) H' fun σ2 H2 => wipe σ2 [5] = wipe [some (.ref tp), x1, x2, x3, x4, x5] [5] ∧ tYes σ2 H2 fun b H3 =>
            if b = true then tFld K (tVar 5) nm σ2 H3 fun y H4 => ∃ acc, H4 D = some (.lst acc) ∧ acc.length < sizeLine ∧ Nx (upd H4 D (.lst (acc ++ [y]))) else Nx H3) := fun nm F hF hA H1 s1 D hD x1 x2 x3 x4 x5 Qd q2 => by
      refine lc_it (walk_tup (xs := as.map V.ref)) (fun i H3 => H3 D = some (.lst (((ts.take i).map F).map V.int)) ∧ Same H1 H3) ⟨upd_same, sameAt (Same.refl H1) hD⟩ (fun i H3 _ hv => SqT.of (hv.2 _ _ (s1 _ _ ht))) ?_ ?_
      · rintro i x H3 H4 hi ⟨hD3, s3⟩ ⟨rfl, hx⟩
        rw [List.length_map] at hi
        rw [List.getElem?_map, List.getElem?_eq_getElem hi, Option.map_some] at hx
        cases hx
        have hi2 : i < ts.length := by rw [← hl]; exact hi
        have ht2 := List.getElem?_eq_getElem hi2
        have hm := (hT i _ _ (List.getElem?_eq_getElem hi) ht2).same (s1.trans s3)
        obtain ⟨dx, fs, sp, In⟩ := hm.in_
        refine ⟨rfl, _, rfl, _, _, dx, fs, _, rfl, In.at_, T.cl _ (C.is_of _), T.no _ (C.is_of _) _ hA, hF In, _, hD3, ?_, ?_, sameAt s3 hD⟩
        · rw [List.length_map, List.length_map, List.length_take]
          exact small1000 (by omega)
        · rw [upd_same, list_take ht2, List.map_append, List.map_append]
          rfl
      · rintro H3 ⟨hD3, s3⟩
        rw [List.length_map, hl, List.take_length] at hD3
        exact q2 H3 (s1.trans s3) hD3
    refine ⟨_, (pss_cons (ps_set (i := 3) sc_sizes.nd rfl (Or.inl rfl) (pe_op op_add pe_int (pe_callBK (cr_maxD rfl hu9) (by rfl) B.max (by decide +kernel) (pa_cons (pe_lc (own := [("child", 5)]) (g := gName 5) (tt := tYes) (by rfl) sc_sizes.nd (pi_tup (pv 0)) (blkOk_by (own := [("child", 5)]) (N := ["children", "looks", "choices", "depth", "parts", "child"]) (sc := defScope s_sizes) (by decide +kernel)) (fun _ _ _ _ _ => (pg_name (i := 5) sc_sizes.nd rfl (Or.inl rfl))) (fun _ _ _ _ _ => pts_nil) (fun _ _ _ _ _ => (show PE _ _ (tFld K _ _) from pe_fld (pv 5) rfl))) pa_nil) (pk_cons pe_int pk_nil))))
    (pss_cons (ps_set (i := 4) sc_sizes.nd rfl (Or.inl rfl) (pe_op op_add pe_int (pe_callB (cr_sum rfl) (by rfl) B.sum (by decide +kernel) (pa_cons (pe_lc (own := [("child", 5)]) (g := gName 5) (tt := tYes) (by rfl) sc_sizes.nd (pi_tup (pv 0)) (blkOk_by (own := [("child", 5)]) (N := ["children", "looks", "choices", "depth", "parts", "child"]) (sc := defScope s_sizes) (by decide +kernel)) (fun _ _ _ _ _ => (pg_name (i := 5) sc_sizes.nd rfl (Or.inl rfl))) (fun _ _ _ _ _ => pts_nil) (fun _ _ _ _ _ => (show PE _ _ (tFld K _ _) from pe_fld (pv 5) rfl))) pa_nil))))
    (pss_cons (ps_set (i := 1) sc_sizes.nd rfl (Or.inl rfl) (pe_op op_add (pv 1) (pe_callB (cr_sum rfl) (by rfl) B.sum (by decide +kernel) (pa_cons (pe_lc (own := [("child", 5)]) (g := gName 5) (tt := tYes) (by rfl) sc_sizes.nd (pi_tup (pv 0)) (blkOk_by (own := [("child", 5)]) (N := ["children", "looks", "choices", "depth", "parts", "child"]) (sc := defScope s_sizes) (by decide +kernel)) (fun _ _ _ _ _ => (pg_name (i := 5) sc_sizes.nd rfl (Or.inl rfl))) (fun _ _ _ _ _ => pts_nil) (fun _ _ _ _ _ => (show PE _ _ (tFld K _ _) from pe_fld (pv 5) rfl))) pa_nil))))
    (pss_cons (ps_set (i := 2) sc_sizes.nd rfl (Or.inl rfl) (pe_op op_add (pv 2) (pe_callB (cr_sum rfl) (by rfl) B.sum (by decide +kernel) (pa_cons (pe_lc (own := [("child", 5)]) (g := gName 5) (tt := tYes) (by rfl) sc_sizes.nd (pi_tup (pv 0)) (blkOk_by (own := [("child", 5)]) (N := ["children", "looks", "choices", "depth", "parts", "child"]) (sc := defScope s_sizes) (by decide +kernel)) (fun _ _ _ _ _ => (pg_name (i := 5) sc_sizes.nd rfl (Or.inl rfl))) (fun _ _ _ _ _ => pts_nil) (fun _ _ _ _ _ => (show PE _ _ (tFld K _ _) from pe_fld (pv 5) rfl))) pa_nil))))
    (pss_cons (ps_if (PW.pt (pw_or (pt_cmpR op_gt (pv 3) (pe_glob (v := .int 12) (by rfl) g_MOST_DEPTH ⟨_, rfl⟩) (nomark _)) (pw_or (pt_cmpR op_gt (pv 4) (pe_glob (v := .int 40) (by rfl) g_MOST_PARTS ⟨_, rfl⟩) (nomark _)) (pw_or1 (pt_cmpR op_gt (pv 1) (pe_glob (v := .int 12) (by rfl) g_MOST_LOOKS ⟨_, rfl⟩) (nomark _))))))
      (pss_one ps_never)
      pss_nil)
    (pss_one (ps_ret (pe_tup (pa_cons (pv 3) (pa_cons (pv 4) (pa_cons (pv 1) (pa_cons (pv 2) pa_nil)))))))))))), ?_⟩
    refine ⟨_, rfl, tp, rfl, ⟨_, SqT.of ht⟩, fun D1 hD1 => comp "depth" Tm.dep (fun i => i.depth) (by decide +kernel) H (Same.refl H) D1 hD1 _ _ _ _ _ _ fun H1 s1 h1 => ?_⟩
    refine ⟨D1, ts.map Tm.dep, 0, rfl, rfl, SqL.of h1, _, _, rfl, rfl, ?_⟩
    refine ⟨_, rfl, tp, rfl, ⟨_, SqT.of (s1 _ _ ht)⟩, fun D2 hD2 => comp "parts" Tm.par (fun i => i.parts) (by decide +kernel) H1 s1 D2 hD2 _ _ _ _ _ _ fun H2 s2 h2' => ?_⟩
    refine ⟨D2, ts.map Tm.par, rfl, SqL.of h2', _, _, rfl, rfl, _, rfl, ?_⟩
    refine ⟨_, rfl, tp, rfl, ⟨_, SqT.of (s2 _ _ ht)⟩, fun D3 hD3 => comp "looks" Tm.lok (fun i => i.looks) (by decide +kernel) H2 s2 D3 hD3 _ _ _ _ _ _ fun H3 s3 h3 => ?_⟩
    refine ⟨D3, ts.map Tm.lok, rfl, SqL.of h3, _, _, rfl, rfl, _, rfl, ?_⟩
    refine ⟨_, rfl, tp, rfl, ⟨_, SqT.of (s3 _ _ ht)⟩, fun D4 hD4 => comp "choices" Tm.cho (fun i => i.choices) (by decide +kernel) H3 s3 D4 hD4 _ _ _ _ _ _ fun H4 s4 h4 => ?_⟩
    refine ⟨D4, ts.map Tm.cho, rfl, SqL.of h4, _, _, rfl, rfl, ?_⟩
    have e1 : decide ((12 : Int) < 1 + mxD (ts.map Tm.dep) 0) = false := decide_eq_false (by have h : 1 + mxD (ts.map Tm.dep) 0 ≤ 12 := hd; omega)
    have e2 : decide ((40 : Int) < 1 + (ts.map Tm.par).sum) = false := decide_eq_false (by have h : 1 + (ts.map Tm.par).sum ≤ 40 := hp; omega)
    have e3 : decide ((12 : Int) < l0 + (ts.map Tm.lok).sum) = false := decide_eq_false (by have h : l0 + (ts.map Tm.lok).sum ≤ 12 := hk; omega)
    refine ⟨_, rfl, _, _, rfl, rfl, _, rfl, ?_⟩
    rw [e1]
    refine iteF ⟨_, rfl, _, _, rfl, rfl, _, rfl, ?_⟩
    rw [e2]
    refine iteF ⟨_, rfl, _, _, rfl, rfl, _, rfl, ?_⟩
    rw [e3]
    refine iteF ⟨_, rfl, _, rfl, _, rfl, _, rfl, (by show 4 ≤ sizeLine; decide), fun t ht2 => ?_⟩
    exact q t _ (s4.trans (sameAt (Same.refl H4) ht2)) (none_of s4 ht2) upd_same
structure T2 (P : Program) (w : World) (K : PySem.W.Frag) (mg : Str → Option Value) (base : Heap) (C : TC) : Prop extends T1 P w K mg base C where
  checked_stream : Cal P w K mg base CX0 "checked_stream" 2 ["stream"] spCStream
  checked_term : Cal P w K mg base CX0 "checked_term" 2 ["term"] (spCTerm C)
  sizes : Cal P w K mg base CX0 "sizes" 1 ["children", "looks", "choices"] (spSizes C)
theorem putF_no {f : Str} {v : V} : ∀ {fs : List (Str × V)}, fs.lookup f = none → putF f v fs = fs ++ [(f, v)]
  | [], _ => rfl
  | (g, x) :: r, h => by
    by_cases e : g = f
    · subst e
      simp [List.lookup] at h
    · have h' : (f == g) = false := beq_eq_false_iff_ne.mpr fun z => e z.symm
      simp only [List.lookup, h'] at h
      show (if g = f then (g, v) :: r else (g, x) :: putF f v r) = _
      rw [if_neg e, putF_no h]
      rfl
theorem pl {f : Str} {v : V} {n : Nat} {fs : List (Str × V)} (h : fs.length ≤ n) : (putF f v fs).length ≤ n + 1 := by
  induction fs generalizing n with
  | nil => exact Nat.succ_le_succ (Nat.zero_le n)
  | cons x r ih =>
    obtain ⟨g, x⟩ := x
    show (if g = f then (g, v) :: r else (g, x) :: putF f v r).length ≤ n + 1
    have h : r.length + 1 ≤ n := h
    split
    · show r.length + 1 ≤ n + 1
      omega
    · show (putF f v r).length + 1 ≤ n + 1
      have := ih (n := n - 1) (by omega)
      omega
theorem lk_app {f : Str} : ∀ {fs gs : List (Str × V)}, fs.lookup f = none → gs.lookup f = none → (fs ++ gs).lookup f = none
  | [], _, _, h => h
  | (g, x) :: r, gs, h1, h2 => by
    by_cases e : f = g
    · subst e
      simp [List.lookup] at h1
    · have h' : (f == g) = false := beq_eq_false_iff_ne.mpr e
      simp only [List.lookup, h'] at h1
      show List.lookup f ((g, x) :: (r ++ gs)) = none
      simp only [List.lookup, h']
      exact lk_app h1 h2
theorem fend {pre : List (Str × V)} {s d p l c : V} (h1 : pre.lookup ("spelling" : Str) = none) (h2 : pre.lookup ("depth" : Str) = none) (h3 : pre.lookup ("parts" : Str) = none) (h4 : pre.lookup ("looks" : Str) = none) (h5 : pre.lookup ("choices" : Str) = none) :
    putF "choices" c (putF "looks" l (putF "parts" p (putF "depth" d (putF "spelling" s pre)))) = pre ++ [(("spelling" : Str), s), ("depth", d), ("parts", p), ("looks", l), ("choices", c)] := by
  rw [putF_no h1, putF_no (lk_app h2 (by rfl)), putF_no (lk_app (lk_app h3 (by rfl)) (by rfl)), putF_no (lk_app (lk_app (lk_app h4 (by rfl)) (by rfl)) (by rfl)), putF_no (lk_app (lk_app (lk_app (lk_app h5 (by rfl)) (by rfl)) (by rfl)) (by rfl))]
  simp
theorem Keep.same {b : Addr} {H H1 H2 : Hp} (k : Keep b H H1) (s : Same H1 H2) : Keep b H H2 := fun c o hc hn => s _ _ (k c o hc hn)
theorem Keep.upd {b : Addr} {H H1 : Hp} {u : HO} (k : Keep b H H1) : Keep b H (upd H1 b u) := fun c o hc hn => by rw [upd_ne hn]; exact k c o hc hn
theorem Keep.refl {b : Addr} {H : Hp} : Keep b H H := fun _ _ h _ => h
theorem Keep.at {b q : Addr} {H H1 : Hp} {u : HO} (k : Keep b H H1) (hq : H1 q = none) : Keep b H (L2.upd H1 q u) := k.same (sameAt (Same.refl H1) hq)
abbrev s_Now_init : Stmt := inClass (topS 22) 0
theorem sc_Now_init : FnScope ["self"] ["self"] (defScope s_Now_init) := ⟨rfl, rfl, rfl, by decide +kernel, rfl, by decide +kernel, by decide +kernel⟩
theorem ok_now {f : Addr} {fd : FuncData} (F : Fun K "__init__" "Now.__init__" s_Now_init f fd) (B : Blt mg) (T : TF K mg C) (G : T2 P w K mg base C) : FnOk P w K mg base CX0 2 f fd ["self"] (spInit0 C) := by
  refine F.ok sc_Now_init (fun vs H Q E h => ?_) (fun cdv A outer s H vs Q E hr h => ?_)
  · obtain ⟨b, dx, rfl, _⟩ := h
    rfl
  · obtain ⟨b, dx, rfl, hb, q⟩ := h
    have Is : C.Is C.now := C.is_of .now
    refine ⟨_, (pss_cons (ps_fld (pv 0) (pe_tup (pa_cons pe_str pa_nil)) rfl)
    (pss_one (ps_asg (pe_cal G.sizes (hr.mono (by decide)) pass0 (pa_cons (pe_tup pa_nil) (pa_cons pe_int (pa_cons pe_int pa_nil)))) (pg_tup (by rfl) (pgs_cons (pg_fld (pv 0)) (pgs_cons (pg_fld (pv 0)) (pgs_cons (pg_fld (pv 0)) (pgs_cons (pg_fld (pv 0)) pgs_nil)))))))), ?_⟩
    refine ⟨(by show 1 ≤ sizeLine; decide), fun sp hsp => ⟨_, rfl, b, C.now, dx, [], rfl, (sameAt (Same.refl H) hsp) _ _ hb, T.cl _ Is, T.no _ Is _ (by decide +kernel), (by show 0 < 1000; decide), ?_⟩⟩
    have sb : sp ≠ b := fun z => by rw [z, hb] at hsp; cases hsp
    have K1 : Keep b H (upd (upd H sp (.tup [.str "now"])) b (.ins C.now dx (putF "spelling" (.ref sp) []))) := (Keep.refl.at hsp).upd
    refine ⟨(by show 0 ≤ sizeLine; decide), fun tp htp => ⟨tp, [], [], 0, 0, rfl, upd_same, rfl, by decide, (fun i a t h => by simp at h), by decide, by decide, by decide, fun q1 H5 s5 hq1 hq5 => ?_⟩⟩
    have K5 := (K1.at htp (u := .tup [])).same s5
    have HB : H5 b = some (.ins C.now dx (putF "spelling" (.ref sp) [])) := s5 _ _ (sameAt (Same.refl _) htp _ _ upd_same)
    have hs5 : H5 sp = some (.tup [.str "now"]) := s5 _ _ (sameAt (Same.refl _) htp _ _ (by rw [upd_ne sb, upd_same]))
    have h0 : (putF "spelling" (.ref sp) []).length ≤ 1 := Nat.le_refl 1
    obtain ⟨D, hD⟩ : ∃ D, D = C.now := ⟨_, rfl⟩
    obtain ⟨fs0, hf⟩ : ∃ fs0, fs0 = putF "spelling" (.ref sp) [] := ⟨_, rfl⟩
    rw [← hD] at Is
    rw [← hD, ← hf] at HB
    rw [← hf] at h0
    refine ⟨q1, _, rfl, SqT.of hq5, rfl, _, _, rfl, _, rfl, b, D, dx, fs0, rfl, HB, T.cl _ Is, T.no _ Is _ (by decide +kernel), Nat.lt_of_le_of_lt h0 (by decide), _, _, rfl, _, rfl, b, D, dx, _, rfl, upd_same, T.cl _ Is, T.no _ Is _ (by decide +kernel), Nat.lt_of_le_of_lt (pl h0) (by decide), _, _, rfl, _, rfl, b, D, dx, _, rfl, upd_same, T.cl _ Is, T.no _ Is _ (by decide +kernel), Nat.lt_of_le_of_lt (pl (pl h0)) (by decide), _, _, rfl, _, rfl, b, D, dx, _, rfl, upd_same, T.cl _ Is, T.no _ Is _ (by decide +kernel), Nat.lt_of_le_of_lt (pl (pl (pl h0))) (by decide), rfl, ?_⟩
    refine q _ ⟨dx, sp, ?_, ?_⟩ K5.upd.upd.upd.upd
    · rw [upd_same, hf, fend (by rfl) (by rfl) (by rfl) (by rfl) (by rfl), hD]
      rfl
    · rw [upd_ne sb, upd_ne sb, upd_ne sb, upd_ne sb]
      exact hs5
end
end Ash

set_option Elab.async false
set_option linter.all false
set_option maxRecDepth 100000
set_option maxHeartbeats 4000000
namespace Ash
open PySem PySem.Spec PyProof.Rows L2
open C8 (pss_cut)
/-! ### the other terms are made -/
theorem szD1 (t : Tm) : szD [t] = 1 + t.dep := rfl
theorem szP1 (t : Tm) : szP [t] = 1 + t.par := by simp [szP]
theorem szL1 (t : Tm) : szL [t] = t.lok := by simp [szL]
theorem szC1 (t : Tm) : szC [t] = t.cho := by simp [szC]
theorem szD2 (t u : Tm) : szD [t, u] = 1 + Tm.mx t.dep u.dep := by
  show 1 + (if decide (t.dep < u.dep) = true then u.dep else t.dep) = 1 + (if t.dep < u.dep then u.dep else t.dep)
  by_cases c : t.dep < u.dep
  · rw [if_pos c, if_pos (decide_eq_true c)]
  · rw [if_neg c, if_neg (fun z => c (of_decide_eq_true z))]
theorem szP2 (t u : Tm) : szP [t, u] = 1 + (t.par + u.par) := by simp [szP]
theorem szL2 (t u : Tm) : szL [t, u] = t.lok + u.lok := by simp [szL]
theorem szC2 (t u : Tm) : szC [t, u] = t.cho + u.cho := by simp [szC]
theorem pre2 {x y : Str} {v1 v2 : V} (h : x ≠ y) : putF y v2 (putF x v1 []) = [(x, v1), (y, v2)] := by
  show (if x = y then (x, v2) :: [] else (x, v1) :: putF y v2 []) = _
  rw [if_neg h]
  rfl
section
variable {P : Program} {w : World} {K : PySem.W.Frag} {mg : Str → Option Value} {base : Heap} {C : TC}
abbrev s_Last_init : Stmt := inClass (topS 23) 0
theorem sc_Last_init : FnScope ["self", "stream", "term"] ["self", "stream", "term"] (defScope s_Last_init) := ⟨rfl, rfl, rfl, by decide +kernel, rfl, by decide +kernel, by decide +kernel⟩
theorem ok_last {f : Addr} {fd : FuncData} (F : Fun K "__init__" "Last.__init__" s_Last_init f fd) (B : Blt mg) (T : TF K mg C) (G : T2 P w K mg base C) : FnOk P w K mg base CX0 3 f fd ["self", "stream", "term"] (spInitL C C.last Tm.last) := by
  refine F.ok sc_Last_init (fun vs H Q E h => ?_) (fun cdv A outer s H vs Q E hr h => ?_)
  · obtain ⟨b, dx, a, z, t, rfl, _⟩ := h
    rfl
  · obtain ⟨b, dx, a, z, t, rfl, hb, hz, hT, hF, q⟩ := h
    refine ⟨_, (pss_cons (ps_fld (pv 0) (pe_cal G.checked_stream (hr.mono (by decide)) pass0 (pa_cons (pv 1) pa_nil)) rfl)
    (pss_cons (ps_fld (pv 0) (pe_cal G.checked_term (hr.mono (by decide)) pass0 (pa_cons (pv 2) pa_nil)) rfl)
    (pss_cons (ps_fld (pv 0) (pe_tup (pa_cons pe_str (pa_cons (pv 1) (StX.pa_star (pe_fld (pv 2) rfl) pa_nil)))) rfl)
    (pss_one (ps_asg (pe_cal G.sizes (hr.mono (by decide)) pass0 (pa_cons (pe_tup (pa_cons (pv 2) pa_nil)) (pa_cons pe_int (pa_cons pe_int pa_nil)))) (pg_tup (by rfl) (pgs_cons (pg_fld (pv 0)) (pgs_cons (pg_fld (pv 0)) (pgs_cons (pg_fld (pv 0)) (pgs_cons (pg_fld (pv 0)) pgs_nil)))))))))), ?_⟩
    obtain ⟨D, hD⟩ : ∃ D, D = C.last := ⟨_, rfl⟩
    have Is : C.Is D := by rw [hD]; exact C.is_of (.last z t)
    rw [← hD] at hb
    refine ⟨_, rfl, z, rfl, hz, fun H1 s1 => ⟨_, rfl, b, D, dx, [], rfl, s1 _ _ hb, T.cl _ Is, T.no _ Is _ (by decide +kernel), (by show 0 < 1000; decide), ?_⟩⟩
    have K1 : Keep b H (upd H1 b (.ins D dx (putF "stream" (.str z) []))) := (Keep.refl.same s1).upd
    refine ⟨_, rfl, a, t, rfl, hT.off hb K1, fun H2 s2 => ⟨_, rfl, b, D, dx, _, rfl, s2 _ _ upd_same, T.cl _ Is, T.no _ Is _ (by decide +kernel), (by show 1 < 1000; decide), ?_⟩⟩
    have K2 : Keep b H (upd H2 b (.ins D dx (putF "term" (.ref a) (putF "stream" (.str z) [])))) := (K1.same s2).upd
    obtain ⟨dx1, fs1, sp1, In⟩ := (hT.off hb K2).in_
    have sl := Tm.spell_len t
    have hF2 : t.par ≤ 39 := by
      have h : 1 + t.par ≤ 40 := hF.2.1
      omega
    refine ⟨_, rfl, _, rfl, _, _, dx1, fs1, _, rfl, In.at_, T.cl _ (C.is_of _), T.no _ (C.is_of _) _ (by decide +kernel), In.spelling, sp1, _, rfl, .inl (SqT.of In.spl), ?_, fun sp hsp => ⟨_, rfl, b, D, dx, _, rfl, sameAt (Same.refl _) hsp _ _ upd_same, T.cl _ Is, T.no _ Is _ (by decide +kernel), (by show 2 < 1000; decide), ?_⟩⟩
    · show (t.spell ++ []).length + 1 + 1 ≤ sizeLine
      rw [sizeLine_eq, List.append_nil]
      omega
    have sb : sp ≠ b := fun z => by rw [z, upd_same] at hsp; cases hsp
    have K3 := (K2.at hsp (u := .tup (.str "last" :: .str z :: (t.spell ++ [])))).upd (u := .ins D dx (putF "spelling" (.ref sp) (putF "term" (.ref a) (putF "stream" (.str z) []))))
    refine ⟨_, rfl, (by show 1 ≤ sizeLine; decide), fun tp htp => ?_⟩
    have K4 := K3.at htp (u := .tup ([a].map V.ref))
    refine ⟨tp, [a], [t], 1, 1, rfl, upd_same, rfl, (by show 1 ≤ 2; decide), (fun i a' t' h1 h2 => ?_), ?_, ?_, ?_, fun q1 H5 s5 hq1 hq5 => ?_⟩
    · 
      match i, h1, h2 with
      | 0, h1, h2 =>
        cases h1
        cases h2
        exact hT.off hb K4
      | i + 1, h1, h2 => simp at h1
    · rw [szD1]; exact hF.1
    · rw [szP1]; exact hF.2.1
    · rw [szL1]; exact hF.2.2
    have K5 := K4.same s5
    obtain ⟨fs0, hf⟩ : ∃ fs0, fs0 = putF "spelling" (.ref sp) (putF "term" (.ref a) (putF "stream" (.str z) [])) := ⟨_, rfl⟩
    have HB : H5 b = some (.ins D dx fs0) := by rw [hf]; exact s5 _ _ (sameAt (Same.refl _) htp _ _ upd_same)
    have hs5 : H5 sp = some (.tup (.str "last" :: .str z :: (t.spell ++ []))) := s5 _ _ (sameAt (Same.refl _) htp _ _ (by rw [upd_ne sb, upd_same]))
    have h0 : fs0.length ≤ 3 := by rw [hf]; exact pl (pl (pl (Nat.le_refl 0)))
    refine ⟨q1, _, rfl, SqT.of hq5, rfl, _, _, rfl, _, rfl, b, D, dx, fs0, rfl, HB, T.cl _ Is, T.no _ Is _ (by decide +kernel), Nat.lt_of_le_of_lt h0 (by decide), _, _, rfl, _, rfl, b, D, dx, _, rfl, upd_same, T.cl _ Is, T.no _ Is _ (by decide +kernel), Nat.lt_of_le_of_lt (pl h0) (by decide), _, _, rfl, _, rfl, b, D, dx, _, rfl, upd_same, T.cl _ Is, T.no _ Is _ (by decide +kernel), Nat.lt_of_le_of_lt (pl (pl h0)) (by decide), _, _, rfl, _, rfl, b, D, dx, _, rfl, upd_same, T.cl _ Is, T.no _ Is _ (by decide +kernel), Nat.lt_of_le_of_lt (pl (pl (pl h0))) (by decide), rfl, ?_⟩
    have K9 := (((K5.upd (u := .ins D dx (putF "depth" (.int (szD [t])) fs0))).upd (u := .ins D dx (putF "parts" (.int (szP [t])) (putF "depth" (.int (szD [t])) fs0)))).upd (u := .ins D dx (putF "looks" (.int (1 + szL [t])) (putF "parts" (.int (szP [t])) (putF "depth" (.int (szD [t])) fs0))))).upd (u := .ins D dx (putF "choices" (.int (1 + szC [t])) (putF "looks" (.int (1 + szL [t])) (putF "parts" (.int (szP [t])) (putF "depth" (.int (szD [t])) fs0)))))
    refine q _ ⟨dx, a, sp, ?_, ?_, hT.off hb K9⟩ K9
    · rw [upd_same, hf, pre2 (by decide +kernel), fend (by rfl) (by rfl) (by rfl) (by rfl) (by rfl), hD, szD1, szP1, szL1, szC1]
      rfl
    · rw [upd_ne sb, upd_ne sb, upd_ne sb, upd_ne sb, hs5]
      simp [Tm.spell]
abbrev s_Next_init : Stmt := inClass (topS 24) 0
theorem sc_Next_init : FnScope ["self", "stream", "term"] ["self", "stream", "term"] (defScope s_Next_init) := ⟨rfl, rfl, rfl, by decide +kernel, rfl, by decide +kernel, by decide +kernel⟩
theorem ok_next {f : Addr} {fd : FuncData} (F : Fun K "__init__" "Next.__init__" s_Next_init f fd) (B : Blt mg) (T : TF K mg C) (G : T2 P w K mg base C) : FnOk P w K mg base CX0 3 f fd ["self", "stream", "term"] (spInitL C C.next Tm.next) := by
  refine F.ok sc_Next_init (fun vs H Q E h => ?_) (fun cdv A outer s H vs Q E hr h => ?_)
  · obtain ⟨b, dx, a, z, t, rfl, _⟩ := h
    rfl
  · obtain ⟨b, dx, a, z, t, rfl, hb, hz, hT, hF, q⟩ := h
    refine ⟨_, (pss_cons (ps_fld (pv 0) (pe_cal G.checked_stream (hr.mono (by decide)) pass0 (pa_cons (pv 1) pa_nil)) rfl)
    (pss_cons (ps_fld (pv 0) (pe_cal G.checked_term (hr.mono (by decide)) pass0 (pa_cons (pv 2) pa_nil)) rfl)
    (pss_cons (ps_fld (pv 0) (pe_tup (pa_cons pe_str (pa_cons (pv 1) (StX.pa_star (pe_fld (pv 2) rfl) pa_nil)))) rfl)
    (pss_one (ps_asg (pe_cal G.sizes (hr.mono (by decide)) pass0 (pa_cons (pe_tup (pa_cons (pv 2) pa_nil)) (pa_cons pe_int (pa_cons pe_int pa_nil)))) (pg_tup (by rfl) (pgs_cons (pg_fld (pv 0)) (pgs_cons (pg_fld (pv 0)) (pgs_cons (pg_fld (pv 0)) (pgs_cons (pg_fld (pv 0)) pgs_nil)))))))))), ?_⟩
    obtain ⟨D, hD⟩ : ∃ D, D = C.next := ⟨_, rfl⟩
    have Is : C.Is D := by rw [hD]; exact C.is_of (.next z t)
    rw [← hD] at hb
    refine ⟨_, rfl, z, rfl, hz, fun H1 s1 => ⟨_, rfl, b, D, dx, [], rfl, s1 _ _ hb, T.cl _ Is, T.no _ Is _ (by decide +kernel), (by show 0 < 1000; decide), ?_⟩⟩
    have K1 : Keep b H (upd H1 b (.ins D dx (putF "stream" (.str z) []))) := (Keep.refl.same s1).upd
    refine ⟨_, rfl, a, t, rfl, hT.off hb K1, fun H2 s2 => ⟨_, rfl, b, D, dx, _, rfl, s2 _ _ upd_same, T.cl _ Is, T.no _ Is _ (by decide +kernel), (by show 1 < 1000; decide), ?_⟩⟩
    have K2 : Keep b H (upd H2 b (.ins D dx (putF "term" (.ref a) (putF "stream" (.str z) [])))) := (K1.same s2).upd
    obtain ⟨dx1, fs1, sp1, In⟩ := (hT.off hb K2).in_
    have sl := Tm.spell_len t
    have hF2 : t.par ≤ 39 := by
      have h : 1 + t.par ≤ 40 := hF.2.1
      omega
    refine ⟨_, rfl, _, rfl, _, _, dx1, fs1, _, rfl, In.at_, T.cl _ (C.is_of _), T.no _ (C.is_of _) _ (by decide +kernel), In.spelling, sp1, _, rfl, .inl (SqT.of In.spl), ?_, fun sp hsp => ⟨_, rfl, b, D, dx, _, rfl, sameAt (Same.refl _) hsp _ _ upd_same, T.cl _ Is, T.no _ Is _ (by decide +kernel), (by show 2 < 1000; decide), ?_⟩⟩
    · show (t.spell ++ []).length + 1 + 1 ≤ sizeLine
      rw [sizeLine_eq, List.append_nil]
      omega
    have sb : sp ≠ b := fun z => by rw [z, upd_same] at hsp; cases hsp
    have K3 := (K2.at hsp (u := .tup (.str "next" :: .str z :: (t.spell ++ [])))).upd (u := .ins D dx (putF "spelling" (.ref sp) (putF "term" (.ref a) (putF "stream" (.str z) []))))
    refine ⟨_, rfl, (by show 1 ≤ sizeLine; decide), fun tp htp => ?_⟩
    have K4 := K3.at htp (u := .tup ([a].map V.ref))
    refine ⟨tp, [a], [t], 1, 1, rfl, upd_same, rfl, (by show 1 ≤ 2; decide), (fun i a' t' h1 h2 => ?_), ?_, ?_, ?_, fun q1 H5 s5 hq1 hq5 => ?_⟩
    · 
      match i, h1, h2 with
      | 0, h1, h2 =>
        cases h1
        cases h2
        exact hT.off hb K4
      | i + 1, h1, h2 => simp at h1
    · rw [szD1]; exact hF.1
    · rw [szP1]; exact hF.2.1
    · rw [szL1]; exact hF.2.2
    have K5 := K4.same s5
    obtain ⟨fs0, hf⟩ : ∃ fs0, fs0 = putF "spelling" (.ref sp) (putF "term" (.ref a) (putF "stream" (.str z) [])) := ⟨_, rfl⟩
    have HB : H5 b = some (.ins D dx fs0) := by rw [hf]; exact s5 _ _ (sameAt (Same.refl _) htp _ _ upd_same)
    have hs5 : H5 sp = some (.tup (.str "next" :: .str z :: (t.spell ++ []))) := s5 _ _ (sameAt (Same.refl _) htp _ _ (by rw [upd_ne sb, upd_same]))
    have h0 : fs0.length ≤ 3 := by rw [hf]; exact pl (pl (pl (Nat.le_refl 0)))
    refine ⟨q1, _, rfl, SqT.of hq5, rfl, _, _, rfl, _, rfl, b, D, dx, fs0, rfl, HB, T.cl _ Is, T.no _ Is _ (by decide +kernel), Nat.lt_of_le_of_lt h0 (by decide), _, _, rfl, _, rfl, b, D, dx, _, rfl, upd_same, T.cl _ Is, T.no _ Is _ (by decide +kernel), Nat.lt_of_le_of_lt (pl h0) (by decide), _, _, rfl, _, rfl, b, D, dx, _, rfl, upd_same, T.cl _ Is, T.no _ Is _ (by decide +kernel), Nat.lt_of_le_of_lt (pl (pl h0)) (by decide), _, _, rfl, _, rfl, b, D, dx, _, rfl, upd_same, T.cl _ Is, T.no _ Is _ (by decide +kernel), Nat.lt_of_le_of_lt (pl (pl (pl h0))) (by decide), rfl, ?_⟩
    have K9 := (((K5.upd (u := .ins D dx (putF "depth" (.int (szD [t])) fs0))).upd (u := .ins D dx (putF "parts" (.int (szP [t])) (putF "depth" (.int (szD [t])) fs0)))).upd (u := .ins D dx (putF "looks" (.int (1 + szL [t])) (putF "parts" (.int (szP [t])) (putF "depth" (.int (szD [t])) fs0))))).upd (u := .ins D dx (putF "choices" (.int (1 + szC [t])) (putF "looks" (.int (1 + szL [t])) (putF "parts" (.int (szP [t])) (putF "depth" (.int (szD [t])) fs0)))))
    refine q _ ⟨dx, a, sp, ?_, ?_, hT.off hb K9⟩ K9
    · rw [upd_same, hf, pre2 (by decide +kernel), fend (by rfl) (by rfl) (by rfl) (by rfl) (by rfl), hD, szD1, szP1, szL1, szC1]
      rfl
    · rw [upd_ne sb, upd_ne sb, upd_ne sb, upd_ne sb, hs5]
      simp [Tm.spell]
abbrev s_Shift_init : Stmt := inClass (topS 25) 0
theorem sc_Shift_init : FnScope ["self", "term", "amount"] ["self", "term", "amount"] (defScope s_Shift_init) := ⟨rfl, rfl, rfl, by decide +kernel, rfl, by decide +kernel, by decide +kernel⟩
theorem ok_shift {f : Addr} {fd : FuncData} (F : Fun K "__init__" "Shift.__init__" s_Shift_init f fd) (B : Blt mg) (T : TF K mg C) (G : T2 P w K mg base C) : FnOk P w K mg base CX0 2 f fd ["self", "term", "amount"] (spInitS C) := by
  refine F.ok sc_Shift_init (fun vs H Q E h => ?_) (fun cdv A outer s H vs Q E hr h => ?_)
  · obtain ⟨b, dx, a, n, t, rfl, _⟩ := h
    rfl
  · obtain ⟨b, dx, a, n, t, rfl, hb, hT, hF, q⟩ := h
    refine ⟨_, (pss_cons (ps_fld (pv 0) (pv 1) rfl)
    (pss_cons (ps_fld (pv 0) (pv 2) rfl)
    (pss_cons (ps_fld (pv 0) (pe_tup (pa_cons pe_str (pa_cons (pv 2) (StX.pa_star (pe_fld (pv 1) rfl) pa_nil)))) rfl)
    (pss_one (ps_asg (pe_cal G.sizes (hr.mono (by decide)) pass0 (pa_cons (pe_tup (pa_cons (pv 1) pa_nil)) (pa_cons pe_int (pa_cons pe_int pa_nil)))) (pg_tup (by rfl) (pgs_cons (pg_fld (pv 0)) (pgs_cons (pg_fld (pv 0)) (pgs_cons (pg_fld (pv 0)) (pgs_cons (pg_fld (pv 0)) pgs_nil)))))))))), ?_⟩
    obtain ⟨D, hD⟩ : ∃ D, D = C.shift := ⟨_, rfl⟩
    have Is : C.Is D := by rw [hD]; exact C.is_of (.shift n t)
    rw [← hD] at hb
    refine ⟨_, rfl, _, rfl, b, D, dx, [], rfl, hb, T.cl _ Is, T.no _ Is _ (by decide +kernel), (by show 0 < 1000; decide), ?_⟩
    have K1 : Keep b H (upd H b (.ins D dx (putF "term" (.ref a) []))) := Keep.refl.upd
    refine ⟨_, rfl, _, rfl, b, D, dx, _, rfl, upd_same, T.cl _ Is, T.no _ Is _ (by decide +kernel), (by show 1 < 1000; decide), ?_⟩
    have K2 : Keep b H (upd _ b (.ins D dx (putF "amount" (.int n) (putF "term" (.ref a) [])))) := K1.upd
    obtain ⟨dx1, fs1, sp1, In⟩ := (hT.off hb K2).in_
    have sl := Tm.spell_len t
    have hF2 : t.par ≤ 39 := by
      have h : 1 + t.par ≤ 40 := hF.2.1
      omega
    refine ⟨_, rfl, _, rfl, _, _, dx1, fs1, _, rfl, In.at_, T.cl _ (C.is_of _), T.no _ (C.is_of _) _ (by decide +kernel), In.spelling, sp1, _, rfl, .inl (SqT.of In.spl), ?_, fun sp hsp => ⟨_, rfl, b, D, dx, _, rfl, sameAt (Same.refl _) hsp _ _ upd_same, T.cl _ Is, T.no _ Is _ (by decide +kernel), (by show 2 < 1000; decide), ?_⟩⟩
    · show (t.spell ++ []).length + 1 + 1 ≤ sizeLine
      rw [sizeLine_eq, List.append_nil]
      omega
    have sb : sp ≠ b := fun z => by rw [z, upd_same] at hsp; cases hsp
    have K3 := (K2.at hsp (u := .tup (.str "shift" :: .int n :: (t.spell ++ [])))).upd (u := .ins D dx (putF "spelling" (.ref sp) (putF "amount" (.int n) (putF "term" (.ref a) []))))
    refine ⟨_, rfl, (by show 1 ≤ sizeLine; decide), fun tp htp => ?_⟩
    have K4 := K3.at htp (u := .tup ([a].map V.ref))
    refine ⟨tp, [a], [t], 0, 0, rfl, upd_same, rfl, (by show 1 ≤ 2; decide), (fun i a' t' h1 h2 => ?_), ?_, ?_, ?_, fun q1 H5 s5 hq1 hq5 => ?_⟩
    · 
      match i, h1, h2 with
      | 0, h1, h2 =>
        cases h1
        cases h2
        exact hT.off hb K4
      | i + 1, h1, h2 => simp at h1
    · rw [szD1]; exact hF.1
    · rw [szP1]; exact hF.2.1
    · rw [szL1]; exact hF.2.2
    have K5 := K4.same s5
    obtain ⟨fs0, hf⟩ : ∃ fs0, fs0 = putF "spelling" (.ref sp) (putF "amount" (.int n) (putF "term" (.ref a) [])) := ⟨_, rfl⟩
    have HB : H5 b = some (.ins D dx fs0) := by rw [hf]; exact s5 _ _ (sameAt (Same.refl _) htp _ _ upd_same)
    have hs5 : H5 sp = some (.tup (.str "shift" :: .int n :: (t.spell ++ []))) := s5 _ _ (sameAt (Same.refl _) htp _ _ (by rw [upd_ne sb, upd_same]))
    have h0 : fs0.length ≤ 3 := by rw [hf]; exact pl (pl (pl (Nat.le_refl 0)))
    refine ⟨q1, _, rfl, SqT.of hq5, rfl, _, _, rfl, _, rfl, b, D, dx, fs0, rfl, HB, T.cl _ Is, T.no _ Is _ (by decide +kernel), Nat.lt_of_le_of_lt h0 (by decide), _, _, rfl, _, rfl, b, D, dx, _, rfl, upd_same, T.cl _ Is, T.no _ Is _ (by decide +kernel), Nat.lt_of_le_of_lt (pl h0) (by decide), _, _, rfl, _, rfl, b, D, dx, _, rfl, upd_same, T.cl _ Is, T.no _ Is _ (by decide +kernel), Nat.lt_of_le_of_lt (pl (pl h0)) (by decide), _, _, rfl, _, rfl, b, D, dx, _, rfl, upd_same, T.cl _ Is, T.no _ Is _ (by decide +kernel), Nat.lt_of_le_of_lt (pl (pl (pl h0))) (by decide), rfl, ?_⟩
    have K9 := (((K5.upd (u := .ins D dx (putF "depth" (.int (szD [t])) fs0))).upd (u := .ins D dx (putF "parts" (.int (szP [t])) (putF "depth" (.int (szD [t])) fs0)))).upd (u := .ins D dx (putF "looks" (.int (0 + szL [t])) (putF "parts" (.int (szP [t])) (putF "depth" (.int (szD [t])) fs0))))).upd (u := .ins D dx (putF "choices" (.int (0 + szC [t])) (putF "looks" (.int (0 + szL [t])) (putF "parts" (.int (szP [t])) (putF "depth" (.int (szD [t])) fs0)))))
    refine q _ ⟨dx, a, sp, ?_, ?_, hT.off hb K9⟩ K9
    · rw [upd_same, hf, pre2 (by decide +kernel), fend (by rfl) (by rfl) (by rfl) (by rfl) (by rfl), hD, szD1, szP1, szL1, szC1]
      rfl
    · rw [upd_ne sb, upd_ne sb, upd_ne sb, upd_ne sb, hs5]
      simp [Tm.spell]
abbrev s_Either_init : Stmt := inClass (topS 26) 0
theorem sc_Either_init : FnScope ["self", "first", "second"] ["self", "first", "second"] (defScope s_Either_init) := ⟨rfl, rfl, rfl, by decide +kernel, rfl, by decide +kernel, by decide +kernel⟩
theorem ok_either {f : Addr} {fd : FuncData} (F : Fun K "__init__" "Either.__init__" s_Either_init f fd) (B : Blt mg) (T : TF K mg C) (G : T2 P w K mg base C) : FnOk P w K mg base CX0 2 f fd ["self", "first", "second"] (spInitP C C.either Tm.either) := by
  refine F.ok sc_Either_init (fun vs H Q E h => ?_) (fun cdv A outer s H vs Q E hr h => ?_)
  · obtain ⟨b, dx, a, c, t, u, rfl, _⟩ := h
    rfl
  · obtain ⟨b, dx, a, c, t, u, rfl, hb, hT, hU, hF, q⟩ := h
    refine ⟨_, (pss_cons (ps_fld (pv 0) (pv 1) rfl)
    (pss_cons (ps_fld (pv 0) (pv 2) rfl)
    (pss_cons (ps_fld (pv 0) (pe_tup (pa_cons pe_str (StX.pa_star (pe_fld (pv 1) rfl) (StX.pa_star (pe_fld (pv 2) rfl) pa_nil)))) rfl)
    (pss_one (ps_asg (pe_cal G.sizes (hr.mono (by decide)) pass0 (pa_cons (pe_tup (pa_cons (pv 1) (pa_cons (pv 2) pa_nil))) (pa_cons pe_int (pa_cons pe_int pa_nil)))) (pg_tup (by rfl) (pgs_cons (pg_fld (pv 0)) (pgs_cons (pg_fld (pv 0)) (pgs_cons (pg_fld (pv 0)) (pgs_cons (pg_fld (pv 0)) pgs_nil)))))))))), ?_⟩
    obtain ⟨D, hD⟩ : ∃ D, D = C.either := ⟨_, rfl⟩
    have Is : C.Is D := by rw [hD]; exact C.is_of (.either t u)
    rw [← hD] at hb
    refine ⟨_, rfl, _, rfl, b, D, dx, [], rfl, hb, T.cl _ Is, T.no _ Is _ (by decide +kernel), (by show 0 < 1000; decide), ?_⟩
    have K1 : Keep b H (upd H b (.ins D dx (putF "first" (.ref a) []))) := Keep.refl.upd
    refine ⟨_, rfl, _, rfl, b, D, dx, _, rfl, upd_same, T.cl _ Is, T.no _ Is _ (by decide +kernel), (by show 1 < 1000; decide), ?_⟩
    have K2 : Keep b H (upd _ b (.ins D dx (putF "second" (.ref c) (putF "first" (.ref a) [])))) := K1.upd
    obtain ⟨dx1, fs1, sp1, In⟩ := (hT.off hb K2).in_
    have sl := Tm.spell_len t
    obtain ⟨dx2, fs2, sp2, In2⟩ := (hU.off hb K2).in_
    have sl2 := Tm.spell_len u
    have hF2 : t.par + u.par ≤ 39 := by
      have h : 1 + (t.par + u.par) ≤ 40 := hF.2.1
      omega
    refine ⟨_, rfl, _, _, dx1, fs1, _, rfl, In.at_, T.cl _ (C.is_of _), T.no _ (C.is_of _) _ (by decide +kernel), In.spelling, sp1, _, rfl, .inl (SqT.of In.spl), _, rfl, _, _, dx2, fs2, _, rfl, In2.at_, T.cl _ (C.is_of _), T.no _ (C.is_of _) _ (by decide +kernel), In2.spelling, sp2, _, rfl, .inl (SqT.of In2.spl), ?_, fun sp hsp => ⟨_, rfl, b, D, dx, _, rfl, sameAt (Same.refl _) hsp _ _ upd_same, T.cl _ Is, T.no _ Is _ (by decide +kernel), (by show 2 < 1000; decide), ?_⟩⟩
    · show (t.spell ++ (u.spell ++ [])).length + 1 ≤ sizeLine
      rw [sizeLine_eq, List.length_append, List.append_nil]
      omega
    have sb : sp ≠ b := fun z => by rw [z, upd_same] at hsp; cases hsp
    have K3 := (K2.at hsp (u := .tup (.str "either" :: (t.spell ++ (u.spell ++ []))))).upd (u := .ins D dx (putF "spelling" (.ref sp) (putF "second" (.ref c) (putF "first" (.ref a) []))))
    refine ⟨_, rfl, _, rfl, (by show 2 ≤ sizeLine; decide), fun tp htp => ?_⟩
    have K4 := K3.at htp (u := .tup ([a, c].map V.ref))
    refine ⟨tp, [a, c], [t, u], 0, 0, rfl, upd_same, rfl, (by show 2 ≤ 2; decide), (fun i a' t' h1 h2 => ?_), ?_, ?_, ?_, fun q1 H5 s5 hq1 hq5 => ?_⟩
    · 
      match i, h1, h2 with
      | 0, h1, h2 =>
        cases h1
        cases h2
        exact hT.off hb K4
      | 1, h1, h2 =>
        cases h1
        cases h2
        exact hU.off hb K4
      | i + 2, h1, h2 => simp at h1
    · rw [szD2]; exact hF.1
    · rw [szP2]; exact hF.2.1
    · rw [szL2]; exact hF.2.2
    have K5 := K4.same s5
    obtain ⟨fs0, hf⟩ : ∃ fs0, fs0 = putF "spelling" (.ref sp) (putF "second" (.ref c) (putF "first" (.ref a) [])) := ⟨_, rfl⟩
    have HB : H5 b = some (.ins D dx fs0) := by rw [hf]; exact s5 _ _ (sameAt (Same.refl _) htp _ _ upd_same)
    have hs5 : H5 sp = some (.tup (.str "either" :: (t.spell ++ (u.spell ++ [])))) := s5 _ _ (sameAt (Same.refl _) htp _ _ (by rw [upd_ne sb, upd_same]))
    have h0 : fs0.length ≤ 3 := by rw [hf]; exact pl (pl (pl (Nat.le_refl 0)))
    refine ⟨q1, _, rfl, SqT.of hq5, rfl, _, _, rfl, _, rfl, b, D, dx, fs0, rfl, HB, T.cl _ Is, T.no _ Is _ (by decide +kernel), Nat.lt_of_le_of_lt h0 (by decide), _, _, rfl, _, rfl, b, D, dx, _, rfl, upd_same, T.cl _ Is, T.no _ Is _ (by decide +kernel), Nat.lt_of_le_of_lt (pl h0) (by decide), _, _, rfl, _, rfl, b, D, dx, _, rfl, upd_same, T.cl _ Is, T.no _ Is _ (by decide +kernel), Nat.lt_of_le_of_lt (pl (pl h0)) (by decide), _, _, rfl, _, rfl, b, D, dx, _, rfl, upd_same, T.cl _ Is, T.no _ Is _ (by decide +kernel), Nat.lt_of_le_of_lt (pl (pl (pl h0))) (by decide), rfl, ?_⟩
    have K9 := (((K5.upd (u := .ins D dx (putF "depth" (.int (szD [t, u])) fs0))).upd (u := .ins D dx (putF "parts" (.int (szP [t, u])) (putF "depth" (.int (szD [t, u])) fs0)))).upd (u := .ins D dx (putF "looks" (.int (0 + szL [t, u])) (putF "parts" (.int (szP [t, u])) (putF "depth" (.int (szD [t, u])) fs0))))).upd (u := .ins D dx (putF "choices" (.int (0 + szC [t, u])) (putF "looks" (.int (0 + szL [t, u])) (putF "parts" (.int (szP [t, u])) (putF "depth" (.int (szD [t, u])) fs0)))))
    refine q _ ⟨dx, a, c, sp, ?_, ?_, hT.off hb K9, hU.off hb K9⟩ K9
    · rw [upd_same, hf, pre2 (by decide +kernel), fend (by rfl) (by rfl) (by rfl) (by rfl) (by rfl), hD, szD2, szP2, szL2, szC2]
      rfl
    · rw [upd_ne sb, upd_ne sb, upd_ne sb, upd_ne sb, hs5]
      simp [Tm.spell]
abbrev s_Later_init : Stmt := inClass (topS 27) 0
theorem sc_Later_init : FnScope ["self", "first", "second"] ["self", "first", "second"] (defScope s_Later_init) := ⟨rfl, rfl, rfl, by decide +kernel, rfl, by decide +kernel, by decide +kernel⟩
theorem ok_later {f : Addr} {fd : FuncData} (F : Fun K "__init__" "Later.__init__" s_Later_init f fd) (B : Blt mg) (T : TF K mg C) (G : T2 P w K mg base C) : FnOk P w K mg base CX0 2 f fd ["self", "first", "second"] (spInitP C C.later Tm.later) := by
  refine F.ok sc_Later_init (fun vs H Q E h => ?_) (fun cdv A outer s H vs Q E hr h => ?_)
  · obtain ⟨b, dx, a, c, t, u, rfl, _⟩ := h
    rfl
  · obtain ⟨b, dx, a, c, t, u, rfl, hb, hT, hU, hF, q⟩ := h
    refine ⟨_, (pss_cons (ps_fld (pv 0) (pv 1) rfl)
    (pss_cons (ps_fld (pv 0) (pv 2) rfl)
    (pss_cons (ps_fld (pv 0) (pe_tup (pa_cons pe_str (StX.pa_star (pe_fld (pv 1) rfl) (StX.pa_star (pe_fld (pv 2) rfl) pa_nil)))) rfl)
    (pss_one (ps_asg (pe_cal G.sizes (hr.mono (by decide)) pass0 (pa_cons (pe_tup (pa_cons (pv 1) (pa_cons (pv 2) pa_nil))) (pa_cons pe_int (pa_cons pe_int pa_nil)))) (pg_tup (by rfl) (pgs_cons (pg_fld (pv 0)) (pgs_cons (pg_fld (pv 0)) (pgs_cons (pg_fld (pv 0)) (pgs_cons (pg_fld (pv 0)) pgs_nil)))))))))), ?_⟩
    obtain ⟨D, hD⟩ : ∃ D, D = C.later := ⟨_, rfl⟩
    have Is : C.Is D := by rw [hD]; exact C.is_of (.later t u)
    rw [← hD] at hb
    refine ⟨_, rfl, _, rfl, b, D, dx, [], rfl, hb, T.cl _ Is, T.no _ Is _ (by decide +kernel), (by show 0 < 1000; decide), ?_⟩
    have K1 : Keep b H (upd H b (.ins D dx (putF "first" (.ref a) []))) := Keep.refl.upd
    refine ⟨_, rfl, _, rfl, b, D, dx, _, rfl, upd_same, T.cl _ Is, T.no _ Is _ (by decide +kernel), (by show 1 < 1000; decide), ?_⟩
    have K2 : Keep b H (upd _ b (.ins D dx (putF "second" (.ref c) (putF "first" (.ref a) [])))) := K1.upd
    obtain ⟨dx1, fs1, sp1, In⟩ := (hT.off hb K2).in_
    have sl := Tm.spell_len t
    obtain ⟨dx2, fs2, sp2, In2⟩ := (hU.off hb K2).in_
    have sl2 := Tm.spell_len u
    have hF2 : t.par + u.par ≤ 39 := by
      have h : 1 + (t.par + u.par) ≤ 40 := hF.2.1
      omega
    refine ⟨_, rfl, _, _, dx1, fs1, _, rfl, In.at_, T.cl _ (C.is_of _), T.no _ (C.is_of _) _ (by decide +kernel), In.spelling, sp1, _, rfl, .inl (SqT.of In.spl), _, rfl, _, _, dx2, fs2, _, rfl, In2.at_, T.cl _ (C.is_of _), T.no _ (C.is_of _) _ (by decide +kernel), In2.spelling, sp2, _, rfl, .inl (SqT.of In2.spl), ?_, fun sp hsp => ⟨_, rfl, b, D, dx, _, rfl, sameAt (Same.refl _) hsp _ _ upd_same, T.cl _ Is, T.no _ Is _ (by decide +kernel), (by show 2 < 1000; decide), ?_⟩⟩
    · show (t.spell ++ (u.spell ++ [])).length + 1 ≤ sizeLine
      rw [sizeLine_eq, List.length_append, List.append_nil]
      omega
    have sb : sp ≠ b := fun z => by rw [z, upd_same] at hsp; cases hsp
    have K3 := (K2.at hsp (u := .tup (.str "later" :: (t.spell ++ (u.spell ++ []))))).upd (u := .ins D dx (putF "spelling" (.ref sp) (putF "second" (.ref c) (putF "first" (.ref a) []))))
    refine ⟨_, rfl, _, rfl, (by show 2 ≤ sizeLine; decide), fun tp htp => ?_⟩
    have K4 := K3.at htp (u := .tup ([a, c].map V.ref))
    refine ⟨tp, [a, c], [t, u], 0, 1, rfl, upd_same, rfl, (by show 2 ≤ 2; decide), (fun i a' t' h1 h2 => ?_), ?_, ?_, ?_, fun q1 H5 s5 hq1 hq5 => ?_⟩
    · 
      match i, h1, h2 with
      | 0, h1, h2 =>
        cases h1
        cases h2
        exact hT.off hb K4
      | 1, h1, h2 =>
        cases h1
        cases h2
        exact hU.off hb K4
      | i + 2, h1, h2 => simp at h1
    · rw [szD2]; exact hF.1
    · rw [szP2]; exact hF.2.1
    · rw [szL2]; exact hF.2.2
    have K5 := K4.same s5
    obtain ⟨fs0, hf⟩ : ∃ fs0, fs0 = putF "spelling" (.ref sp) (putF "second" (.ref c) (putF "first" (.ref a) [])) := ⟨_, rfl⟩
    have HB : H5 b = some (.ins D dx fs0) := by rw [hf]; exact s5 _ _ (sameAt (Same.refl _) htp _ _ upd_same)
    have hs5 : H5 sp = some (.tup (.str "later" :: (t.spell ++ (u.spell ++ [])))) := s5 _ _ (sameAt (Same.refl _) htp _ _ (by rw [upd_ne sb, upd_same]))
    have h0 : fs0.length ≤ 3 := by rw [hf]; exact pl (pl (pl (Nat.le_refl 0)))
    refine ⟨q1, _, rfl, SqT.of hq5, rfl, _, _, rfl, _, rfl, b, D, dx, fs0, rfl, HB, T.cl _ Is, T.no _ Is _ (by decide +kernel), Nat.lt_of_le_of_lt h0 (by decide), _, _, rfl, _, rfl, b, D, dx, _, rfl, upd_same, T.cl _ Is, T.no _ Is _ (by decide +kernel), Nat.lt_of_le_of_lt (pl h0) (by decide), _, _, rfl, _, rfl, b, D, dx, _, rfl, upd_same, T.cl _ Is, T.no _ Is _ (by decide +kernel), Nat.lt_of_le_of_lt (pl (pl h0)) (by decide), _, _, rfl, _, rfl, b, D, dx, _, rfl, upd_same, T.cl _ Is, T.no _ Is _ (by decide +kernel), Nat.lt_of_le_of_lt (pl (pl (pl h0))) (by decide), rfl, ?_⟩
    have K9 := (((K5.upd (u := .ins D dx (putF "depth" (.int (szD [t, u])) fs0))).upd (u := .ins D dx (putF "parts" (.int (szP [t, u])) (putF "depth" (.int (szD [t, u])) fs0)))).upd (u := .ins D dx (putF "looks" (.int (0 + szL [t, u])) (putF "parts" (.int (szP [t, u])) (putF "depth" (.int (szD [t, u])) fs0))))).upd (u := .ins D dx (putF "choices" (.int (1 + szC [t, u])) (putF "looks" (.int (0 + szL [t, u])) (putF "parts" (.int (szP [t, u])) (putF "depth" (.int (szD [t, u])) fs0)))))
    refine q _ ⟨dx, a, c, sp, ?_, ?_, hT.off hb K9, hU.off hb K9⟩ K9
    · rw [upd_same, hf, pre2 (by decide +kernel), fend (by rfl) (by rfl) (by rfl) (by rfl) (by rfl), hD, szD2, szP2, szL2, szC2]
      rfl
    · rw [upd_ne sb, upd_ne sb, upd_ne sb, upd_ne sb, hs5]
      simp [Tm.spell]
abbrev s_Earlier_init : Stmt := inClass (topS 28) 0
theorem sc_Earlier_init : FnScope ["self", "first", "second"] ["self", "first", "second"] (defScope s_Earlier_init) := ⟨rfl, rfl, rfl, by decide +kernel, rfl, by decide +kernel, by decide +kernel⟩
theorem ok_earlier {f : Addr} {fd : FuncData} (F : Fun K "__init__" "Earlier.__init__" s_Earlier_init f fd) (B : Blt mg) (T : TF K mg C) (G : T2 P w K mg base C) : FnOk P w K mg base CX0 2 f fd ["self", "first", "second"] (spInitP C C.earlier Tm.earlier) := by
  refine F.ok sc_Earlier_init (fun vs H Q E h => ?_) (fun cdv A outer s H vs Q E hr h => ?_)
  · obtain ⟨b, dx, a, c, t, u, rfl, _⟩ := h
    rfl
  · obtain ⟨b, dx, a, c, t, u, rfl, hb, hT, hU, hF, q⟩ := h
    refine ⟨_, (pss_cons (ps_fld (pv 0) (pv 1) rfl)
    (pss_cons (ps_fld (pv 0) (pv 2) rfl)
    (pss_cons (ps_fld (pv 0) (pe_tup (pa_cons pe_str (StX.pa_star (pe_fld (pv 1) rfl) (StX.pa_star (pe_fld (pv 2) rfl) pa_nil)))) rfl)
    (pss_one (ps_asg (pe_cal G.sizes (hr.mono (by decide)) pass0 (pa_cons (pe_tup (pa_cons (pv 1) (pa_cons (pv 2) pa_nil))) (pa_cons pe_int (pa_cons pe_int pa_nil)))) (pg_tup (by rfl) (pgs_cons (pg_fld (pv 0)) (pgs_cons (pg_fld (pv 0)) (pgs_cons (pg_fld (pv 0)) (pgs_cons (pg_fld (pv 0)) pgs_nil)))))))))), ?_⟩
    obtain ⟨D, hD⟩ : ∃ D, D = C.earlier := ⟨_, rfl⟩
    have Is : C.Is D := by rw [hD]; exact C.is_of (.earlier t u)
    rw [← hD] at hb
    refine ⟨_, rfl, _, rfl, b, D, dx, [], rfl, hb, T.cl _ Is, T.no _ Is _ (by decide +kernel), (by show 0 < 1000; decide), ?_⟩
    have K1 : Keep b H (upd H b (.ins D dx (putF "first" (.ref a) []))) := Keep.refl.upd
    refine ⟨_, rfl, _, rfl, b, D, dx, _, rfl, upd_same, T.cl _ Is, T.no _ Is _ (by decide +kernel), (by show 1 < 1000; decide), ?_⟩
    have K2 : Keep b H (upd _ b (.ins D dx (putF "second" (.ref c) (putF "first" (.ref a) [])))) := K1.upd
    obtain ⟨dx1, fs1, sp1, In⟩ := (hT.off hb K2).in_
    have sl := Tm.spell_len t
    obtain ⟨dx2, fs2, sp2, In2⟩ := (hU.off hb K2).in_
    have sl2 := Tm.spell_len u
    have hF2 : t.par + u.par ≤ 39 := by
      have h : 1 + (t.par + u.par) ≤ 40 := hF.2.1
      omega
    refine ⟨_, rfl, _, _, dx1, fs1, _, rfl, In.at_, T.cl _ (C.is_of _), T.no _ (C.is_of _) _ (by decide +kernel), In.spelling, sp1, _, rfl, .inl (SqT.of In.spl), _, rfl, _, _, dx2, fs2, _, rfl, In2.at_, T.cl _ (C.is_of _), T.no _ (C.is_of _) _ (by decide +kernel), In2.spelling, sp2, _, rfl, .inl (SqT.of In2.spl), ?_, fun sp hsp => ⟨_, rfl, b, D, dx, _, rfl, sameAt (Same.refl _) hsp _ _ upd_same, T.cl _ Is, T.no _ Is _ (by decide +kernel), (by show 2 < 1000; decide), ?_⟩⟩
    · show (t.spell ++ (u.spell ++ [])).length + 1 ≤ sizeLine
      rw [sizeLine_eq, List.length_append, List.append_nil]
      omega
    have sb : sp ≠ b := fun z => by rw [z, upd_same] at hsp; cases hsp
    have K3 := (K2.at hsp (u := .tup (.str "earlier" :: (t.spell ++ (u.spell ++ []))))).upd (u := .ins D dx (putF "spelling" (.ref sp) (putF "second" (.ref c) (putF "first" (.ref a) []))))
    refine ⟨_, rfl, _, rfl, (by show 2 ≤ sizeLine; decide), fun tp htp => ?_⟩
    have K4 := K3.at htp (u := .tup ([a, c].map V.ref))
    refine ⟨tp, [a, c], [t, u], 0, 1, rfl, upd_same, rfl, (by show 2 ≤ 2; decide), (fun i a' t' h1 h2 => ?_), ?_, ?_, ?_, fun q1 H5 s5 hq1 hq5 => ?_⟩
    · 
      match i, h1, h2 with
      | 0, h1, h2 =>
        cases h1
        cases h2
        exact hT.off hb K4
      | 1, h1, h2 =>
        cases h1
        cases h2
        exact hU.off hb K4
      | i + 2, h1, h2 => simp at h1
    · rw [szD2]; exact hF.1
    · rw [szP2]; exact hF.2.1
    · rw [szL2]; exact hF.2.2
    have K5 := K4.same s5
    obtain ⟨fs0, hf⟩ : ∃ fs0, fs0 = putF "spelling" (.ref sp) (putF "second" (.ref c) (putF "first" (.ref a) [])) := ⟨_, rfl⟩
    have HB : H5 b = some (.ins D dx fs0) := by rw [hf]; exact s5 _ _ (sameAt (Same.refl _) htp _ _ upd_same)
    have hs5 : H5 sp = some (.tup (.str "earlier" :: (t.spell ++ (u.spell ++ [])))) := s5 _ _ (sameAt (Same.refl _) htp _ _ (by rw [upd_ne sb, upd_same]))
    have h0 : fs0.length ≤ 3 := by rw [hf]; exact pl (pl (pl (Nat.le_refl 0)))
    refine ⟨q1, _, rfl, SqT.of hq5, rfl, _, _, rfl, _, rfl, b, D, dx, fs0, rfl, HB, T.cl _ Is, T.no _ Is _ (by decide +kernel), Nat.lt_of_le_of_lt h0 (by decide), _, _, rfl, _, rfl, b, D, dx, _, rfl, upd_same, T.cl _ Is, T.no _ Is _ (by decide +kernel), Nat.lt_of_le_of_lt (pl h0) (by decide), _, _, rfl, _, rfl, b, D, dx, _, rfl, upd_same, T.cl _ Is, T.no _ Is _ (by decide +kernel), Nat.lt_of_le_of_lt (pl (pl h0)) (by decide), _, _, rfl, _, rfl, b, D, dx, _, rfl, upd_same, T.cl _ Is, T.no _ Is _ (by decide +kernel), Nat.lt_of_le_of_lt (pl (pl (pl h0))) (by decide), rfl, ?_⟩
    have K9 := (((K5.upd (u := .ins D dx (putF "depth" (.int (szD [t, u])) fs0))).upd (u := .ins D dx (putF "parts" (.int (szP [t, u])) (putF "depth" (.int (szD [t, u])) fs0)))).upd (u := .ins D dx (putF "looks" (.int (0 + szL [t, u])) (putF "parts" (.int (szP [t, u])) (putF "depth" (.int (szD [t, u])) fs0))))).upd (u := .ins D dx (putF "choices" (.int (1 + szC [t, u])) (putF "looks" (.int (0 + szL [t, u])) (putF "parts" (.int (szP [t, u])) (putF "depth" (.int (szD [t, u])) fs0)))))
    refine q _ ⟨dx, a, c, sp, ?_, ?_, hT.off hb K9, hU.off hb K9⟩ K9
    · rw [upd_same, hf, pre2 (by decide +kernel), fend (by rfl) (by rfl) (by rfl) (by rfl) (by rfl), hD, szD2, szP2, szL2, szC2]
      rfl
    · rw [upd_ne sb, upd_ne sb, upd_ne sb, upd_ne sb, hs5]
      simp [Tm.spell]
end
end Ash

set_option Elab.async false
set_option linter.all false
set_option maxRecDepth 100000
set_option maxHeartbeats 4000000
namespace Ash
open PySem PySem.Spec PyProof.Rows L2 SrtT
open C8 (pss_cut)
section
variable {X : Cx} {CX : CXT} {k : Nat} {ps : List Str} {sp : Sp} {E : XK} {o e : Expr} {es : List Expr} {ta : TE} {t : TA} {C : Addr} {m : Str} {apos pos : Pos}
theorem pe_met {pl : Sem Bool} (c : Cls X.K C) (G : Met X.prog X.w X.K X.mg X.base CX C m k ps sp) (hr : Room k X.A) (hx : Passes CX X E) (ho : PE X o ta) (ha : PA X (e :: es) t) 
    (he : starEach (e :: es) X.env = (false, eval e X.env) :: starEach es X.env := by rfl) (hpl : (backTo pos (starEach es X.env)).any (·.1) = false := by rfl)
    (ht : eval (.Call (.Attribute o m apos) (e :: es) [] pos) X.env = (do
      let ov ← eval o X.env
      standAt apos.atName
      let (f, first) ← holding [ov] (getMethod ov m pl)
      callWith pos f first (backTo pos (starEach (e :: es) X.env)) (backToKw pos (keywordEach [] X.env))) := by rfl) :
    PE X (.Call (.Attribute o m apos) (e :: es) [] pos) (tMeth C m sp [] E ta t) := by
  obtain ⟨f, fd, hm, hb, F⟩ := G.ex
  exact pe_meth ho c hm F hr hb .nil hx ha he hpl ht
end
/-! ### what a term answers -/
def lastR (rs : List T3) (m : Int) : Option T3 := (rs.filter fun t => decide (t.1 ≤ m)).getLast?
def nextR (rs : List T3) (m : Int) : Option T3 := (rs.filter fun t => decide (m ≤ t.1)).head?
abbrev Rs := Option Int × List Int
def lookR (r : Rs) (f : Int → Option T3) : Rs := match r.1 with
  | none => (none, r.2)
  | some m => match f m with
    | none => (none, r.2)
    | some t => (some t.1, r.2 ++ [t.2.1])
def moveR (r : Rs) (n : Int) : Rs := match r.1 with
  | none => (none, r.2)
  | some m => (some (m + n), r.2)
def eithR (r s : Rs) : Rs := match r.1 with
  | some m => (some m, r.2)
  | none => (s.1, r.2 ++ s.2)
def bothR (f : Int → Int → Int) (r s : Rs) : Rs := match r.1 with
  | none => (none, r.2)
  | some m => match s.1 with
    | none => (none, r.2 ++ s.2)
    | some k => (some (f m k), r.2 ++ s.2)
def mxI (i j : Int) : Int := if j > i then j else i
def mnI (i j : Int) : Int := if j < i then j else i
def ev (W : Tr) (now : Int) : Tm → Rs
  | .now => (some now, [])
  | .last s t => lookR (ev W now t) (lastR (W s))
  | .next s t => lookR (ev W now t) (nextR (W s))
  | .shift n t => moveR (ev W now t) n
  | .either a b => eithR (ev W now a) (ev W now b)
  | .later a b => bothR mxI (ev W now a) (ev W now b)
  | .earlier a b => bothR mnI (ev W now a) (ev W now b)
theorem lookR_len {r : Rs} {f : Int → Option T3} : (lookR r f).2.length ≤ 1 + r.2.length := by
  unfold lookR
  split
  · show r.2.length ≤ _; omega
  · split
    · show r.2.length ≤ _; omega
    · show (r.2 ++ [_]).length ≤ _
      rw [List.length_append]
      show r.2.length + 1 ≤ _
      omega
theorem moveR_len {r : Rs} {n : Int} : (moveR r n).2.length = r.2.length := by
  unfold moveR
  split <;> rfl
theorem eithR_len {r s : Rs} : (eithR r s).2.length ≤ r.2.length + s.2.length := by
  unfold eithR
  split
  · show r.2.length ≤ _; omega
  · show (r.2 ++ s.2).length ≤ _
    rw [List.length_append]
    omega
theorem bothR_len {g : Int → Int → Int} {r s : Rs} : (bothR g r s).2.length ≤ r.2.length + s.2.length := by
  unfold bothR
  split
  · show r.2.length ≤ _; omega
  · split
    · show (r.2 ++ s.2).length ≤ _
      rw [List.length_append]
      omega
    · show (r.2 ++ s.2).length ≤ _
      rw [List.length_append]
      omega
theorem ev_len {W : Tr} {now : Int} : ∀ t : Tm, ((ev W now t).2.length : Int) ≤ t.lok
  | .now => by show ((0 : Nat) : Int) ≤ 0; omega
  | .last s t => by
    have := ev_len (W := W) (now := now) t
    have h := lookR_len (r := ev W now t) (f := lastR (W s))
    show ((lookR (ev W now t) (lastR (W s))).2.length : Int) ≤ 1 + t.lok
    omega
  | .next s t => by
    have := ev_len (W := W) (now := now) t
    have h := lookR_len (r := ev W now t) (f := nextR (W s))
    show ((lookR (ev W now t) (nextR (W s))).2.length : Int) ≤ 1 + t.lok
    omega
  | .shift n t => by
    have := ev_len (W := W) (now := now) t
    have h := moveR_len (r := ev W now t) (n := n)
    show ((moveR (ev W now t) n).2.length : Int) ≤ 0 + t.lok
    omega
  | .either a b => by
    have h1 := ev_len (W := W) (now := now) a
    have h2 := ev_len (W := W) (now := now) b
    have h := eithR_len (r := ev W now a) (s := ev W now b)
    show ((eithR (ev W now a) (ev W now b)).2.length : Int) ≤ 0 + (a.lok + b.lok)
    omega
  | .later a b => by
    have h1 := ev_len (W := W) (now := now) a
    have h2 := ev_len (W := W) (now := now) b
    have h := bothR_len (g := mxI) (r := ev W now a) (s := ev W now b)
    show ((bothR mxI (ev W now a) (ev W now b)).2.length : Int) ≤ 0 + (a.lok + b.lok)
    omega
  | .earlier a b => by
    have h1 := ev_len (W := W) (now := now) a
    have h2 := ev_len (W := W) (now := now) b
    have h := bothR_len (g := mnI) (r := ev W now a) (s := ev W now b)
    show ((bothR mnI (ev W now a) (ev W now b)).2.length : Int) ≤ 0 + (a.lok + b.lok)
    omega
/-- all its streams are names -/
def Tm.NmS : Tm → Prop
  | .now => True
  | .last s t => IsNm s ∧ t.NmS
  | .next s t => IsNm s ∧ t.NmS
  | .shift _ t => t.NmS
  | .either a b => a.NmS ∧ b.NmS
  | .later a b => a.NmS ∧ b.NmS
  | .earlier a b => a.NmS ∧ b.NmS
/-- t + n -/
def Tm.plus (t : Tm) (n : Int) : Tm := if n = 0 then t else match t with
  | .shift m u => if m + n = 0 then u else .shift (m + n) u
  | t => .shift n t
def oV : Option Int → V
  | none => .non
  | some i => .int i
def RowV (H : Hp) (v : V) : Option T3 → Prop
  | none => v = .non
  | some t => ∃ e, v = .ref e ∧ H e = some (.tup (tv t))
/-- a pair of an answer and what was seen -/
def Ans (H : Hp) (Q : VK) (r : Rs) : Prop := ∀ (q l : Addr) H', Same H H' → H' q = some (.tup [oV r.1, .ref l]) → H' l = some (.lst (r.2.map V.int)) → Q (.ref q) H'
def spShifted (C : TC) : Sp := fun vs H Q _ => ∃ (a : Addr) (t : Tm) (n : Int), vs = [.ref a, .int n] ∧ TmAt C H a t ∧ (t.plus n).Fit ∧ ∀ a' H', TmAt C H' a' (t.plus n) → Same H H' → Q (.ref a') H'
def spLastRow (CW : Addr) (g : List T3 → Int → Option T3) : Sp := fun vs H Q _ => ∃ (a : Addr) (W : Tr) (z : Str) (m : Int), vs = [.ref a, .str z, .int m] ∧ WAt CW H a W ∧ IsNm z ∧ ∀ v H', Same H H' → RowV H' v (g (W z) m) → Q v H'
def spFol (C : TC) (CW : Addr) (d : Nat) : Sp := fun vs H Q _ => ∃ (a b : Addr) (t : Tm) (W : Tr) (now : Int), vs = [.ref a, .ref b, .int now] ∧ TmAt C H a t ∧ WAt CW H b W ∧ t.NmS ∧ t.Fit ∧ t.dep ≤ (d : Int) ∧ Ans H Q (ev W now t)
def spMoved (C : TC) (CW : Addr) (d : Nat) : Sp := fun vs H Q _ => ∃ (a b : Addr) (t : Tm) (W : Tr) (now n : Int), vs = [.ref a, .ref b, .int now] ∧ TmAt C H a (.shift n t) ∧ WAt CW H b W ∧ t.NmS ∧ t.Fit ∧ t.dep ≤ (d : Int) ∧ Ans H Q (ev W now (.shift n t))
def spLooked (C : TC) (CW : Addr) (d : Nat) : Sp := fun vs H Q _ => ∃ (a b : Addr) (t u : Tm) (s : Str) (W : Tr) (now : Int), vs = [.ref a, .ref b, .int now, .int 0] ∧ TmAt C H a u ∧ (u = .last s t ∨ u = .next s t) ∧ WAt CW H b W ∧ IsNm s ∧ t.NmS ∧ t.Fit ∧ t.dep ≤ (d : Int) ∧ Ans H Q (ev W now u)
def spEith (C : TC) (CW : Addr) (d : Nat) : Sp := fun vs H Q _ => ∃ (a b : Addr) (t u : Tm) (W : Tr) (now : Int), vs = [.ref a, .ref b, .int now] ∧ TmAt C H a (.either t u) ∧ WAt CW H b W ∧ t.NmS ∧ u.NmS ∧ t.Fit ∧ u.Fit ∧ t.dep ≤ (d : Int) ∧ u.dep ≤ (d : Int) ∧ Ans H Q (ev W now (.either t u))
def spBoth (C : TC) (CW : Addr) (d : Nat) : Sp := fun vs H Q _ => ∃ (a b : Addr) (t u x : Tm) (W : Tr) (now : Int), vs = [.ref a, .ref b, .int now] ∧ TmAt C H a x ∧ (x = .later t u ∨ x = .earlier t u) ∧ WAt CW H b W ∧ t.NmS ∧ u.NmS ∧ t.Fit ∧ u.Fit ∧ t.dep ≤ (d : Int) ∧ u.dep ≤ (d : Int) ∧ Ans H Q (ev W now x)
theorem keep_make {H H' : Hp} {x dx : Addr} {o1 o2 : HO} (k : Keep x (upd (upd H dx o1) x o2) H') (hx : H x = none) (hd : H dx = none) : Same H H' := fun c o hc => k c o (by rw [upd_ne (ne_of_none hc hx), upd_ne (ne_of_none hc hd)]; exact hc) (ne_of_none hc hx)
def Tm.isShift : Tm → Bool
  | .shift _ _ => true
  | _ => false
theorem TD.shift {C : TC} (D : TD C) (t : Tm) : decide (C.of t = C.shift) = t.isShift := by
  have h := D.nd
  simp only [List.nodup_cons, List.mem_cons, List.not_mem_nil, or_false, not_or] at h
  obtain ⟨⟨a1, a2, a3, a4, a5, a6⟩, ⟨b1, b2, b3, b4, b5⟩, ⟨c1, c2, c3, c4⟩, ⟨d1, d2, d3⟩, _⟩ := h
  cases t <;> simp [TC.of, Tm.isShift, a1, a2, a3, b2, c1, Ne.symm d1, Ne.symm d2, Ne.symm d3]
theorem plus_no {t : Tm} {n : Int} (h : t.isShift = false) (n0 : ¬ n = 0) : t.plus n = .shift n t := by
  unfold Tm.plus
  rw [if_neg n0]
  cases t <;> first | rfl | exact absurd h (by simp [Tm.isShift])
section
variable {P : Program} {w : World} {K : PySem.W.Frag} {mg : Str → Option Value} {base : Heap} {C : TC} {CW : Addr}
structure T3s (P : Program) (w : World) (K : PySem.W.Frag) (mg : Str → Option Value) (base : Heap) (C : TC) (CW : Addr) : Prop extends T2 P w K mg base C where
  Shift : Mak P w K mg base CX0 "Shift" C.shift 2 ["self", "term", "amount"] (spInitS C)
  rows : Met P w K mg base CX0 CW "rows" 2 ["self", "stream"] (spWorldRows CW)
abbrev s_shifted : Stmt := topS 34
theorem sc_shifted : FnScope ["term", "amount", "inner", "total"] ["term", "amount"] (defScope s_shifted) := ⟨rfl, rfl, rfl, by decide +kernel, rfl, by decide +kernel, by decide +kernel⟩
theorem ok_shifted {f : Addr} {fd : FuncData} (F : Fun K "shifted" "shifted" s_shifted f fd) (B : Blt mg) (T : TF K mg C) (D : TD C) (G : T3s P w K mg base C CW) : FnOk P w K mg base CX0 4 f fd ["term", "amount"] (spShifted C) := by
  obtain ⟨t_cl, t_no, t_ty, t_one, c_Now, c_Last, c_Next, c_Shift, c_Either, c_Later, c_Earlier⟩ := id T
  refine F.ok sc_shifted (fun vs H Q E h => ?_) (fun cdv A outer s H vs Q E hr h => ?_)
  · obtain ⟨a, t, n, rfl, _⟩ := h
    rfl
  · obtain ⟨a, t, n, rfl, hT, hF, q⟩ := h
    refine ⟨_, (pss_cons (ps_if (pt_cmpR op_eq (pv 1) pe_int (nomark _))
      (pss_one (ps_ret (pv 0)))
      pss_nil)
    (pss_cons (ps_par (i := 2) (j := 3) (by rfl) sc_shifted.nd rfl rfl (by decide) rfl rfl (pa_cons (pv 0) (pa_cons (pv 1) pa_nil)) (by rfl))
    (pss_cons (ps_if (pt_val (pe_callB call_isi (by rfl) B.isinstance (by decide +kernel) (pa_cons (pv 0) (pa_cons (pe_glob (v := .ref C.shift) (by rfl) c_Shift rfl) pa_nil))))
      (pss_one (ps_par (i := 2) (j := 3) (by rfl) sc_shifted.nd rfl rfl (by decide) rfl rfl (pa_cons (pe_fld (pv 0) rfl) (pa_cons (pe_op op_add (pe_fld (pv 0) rfl) (pv 1)) pa_nil)) (by rfl)))
      pss_nil)
    (pss_cons (ps_if (pt_cmpR op_eq (pv 3) pe_int (nomark _))
      (pss_one (ps_ret (pv 2)))
      pss_nil)
    (pss_one (ps_ret (pe_mak G.Shift (hr.mono (by decide)) pass0 (pa_cons (pv 2) (pa_cons (pv 3) pa_nil))))))))), ?_⟩
    refine ⟨_, rfl, rfl, _, rfl, ?_⟩
    refine ite2 (fun c => ?_) (fun c => ?_)
    · have n0 : n = 0 := V.int.inj (of_decide_eq_true c)
      subst n0
      have q : ∀ a' H', TmAt C H' a' t → Same H H' → Q (.ref a') H' := q
      exact ⟨_, rfl, q a H hT (Same.refl H)⟩
    · have n0 : ¬ n = 0 := fun z => by rw [z] at c; simp at c
      have tx := T.tyx hT
      have k := T.one (C.of t) C.shift (C.is_of t) (C.is_of (.shift 0 .now))
      rw [D.shift] at k
      refine ⟨_, rfl, _, rfl, _, _, rfl, _, rfl, _, _, _, _, _, rfl, .own _, tx, k, _, rfl, ?_⟩
      cases hs : t.isShift with
      | false =>
        rw [plus_no hs n0] at hF q
        refine iteF ⟨_, rfl, rfl, _, rfl, ?_⟩
        rw [show decide (V.int n = V.int 0) = false from decide_eq_false fun z => n0 (V.int.inj z)]
        refine iteF ⟨_, rfl, _, rfl, fun x dx hx hdx hne => ⟨x, dx, a, n, t, rfl, upd_same, hT.same (sameAt (sameAt (Same.refl H) hdx) hx), hF, fun H' hT' hK => ⟨rfl, q x H' hT' (keep_make hK hx hdx)⟩⟩⟩
      | true =>
        cases t with
        | shift m u =>
          have e : (Tm.shift m u).plus n = if m + n = 0 then u else .shift (m + n) u := by
            show (if n = 0 then _ else _) = _
            rw [if_neg n0]
          rw [e] at hF q
          obtain ⟨dx, b, sp, h1, h2, h3⟩ := id hT
          have Is : C.Is C.shift := C.is_of (.shift 0 .now)
          refine iteT ⟨_, rfl, a, C.shift, dx, _, _, rfl, h1, T.cl _ Is, T.no _ Is _ (by decide +kernel), rfl, _, rfl, a, C.shift, dx, _, _, rfl, h1, T.cl _ Is, T.no _ Is _ (by decide +kernel), rfl, _, rfl, _, _, rfl, rfl, _, _, rfl, ?_⟩
          refine ⟨_, rfl, rfl, _, rfl, ?_⟩
          refine ite2 (fun c2 => ?_) (fun c2 => ?_)
          · have z : m + n = 0 := V.int.inj (of_decide_eq_true c2)
            rw [if_pos z] at q
            exact ⟨_, rfl, q b H h3 (Same.refl H)⟩
          · have z : ¬ m + n = 0 := fun z => c2 (decide_eq_true (by show V.int (m + n) = V.int 0; rw [z]))
            rw [if_neg z] at q hF
            exact ⟨_, rfl, _, rfl, fun x dx hx hdx hne => ⟨x, dx, b, m + n, u, rfl, upd_same, h3.same (sameAt (sameAt (Same.refl H) hdx) hx), hF, fun H' hT' hK => ⟨rfl, q x H' hT' (keep_make hK hx hdx)⟩⟩⟩
        | _ => exact absurd hs (by simp [Tm.isShift])
abbrev s_last_row : Stmt := topS 65
theorem sc_last_row : FnScope ["world", "stream", "moment", "rows", "row"] ["world", "stream", "moment"] (defScope s_last_row) := ⟨rfl, rfl, rfl, by decide +kernel, rfl, by decide +kernel, by decide +kernel⟩
theorem ok_lastrow {f : Addr} {fd : FuncData} (F : Fun K "last_row" "last_row" s_last_row f fd) (B : Blt mg) (T0 : Cw K mg CW) (G : T3s P w K mg base C CW) : FnOk P w K mg base CX0 3 f fd ["world", "stream", "moment"] (spLastRow CW lastR) := by
  refine F.ok sc_last_row (fun vs H Q E h => ?_) (fun cdv A outer s H vs Q E hr h => ?_)
  · obtain ⟨a, W, z, m, rfl, _⟩ := h
    rfl
  · obtain ⟨a, W, z, m, rfl, hW, hz, q⟩ := h
    refine ⟨_, (pss_cons (ps_setLc (i := 3) (own := [("row", 4)]) (g := gName 4) (by rfl) sc_last_row.nd rfl rfl (sw_true rfl rfl rfl (by decide +kernel)) (pi_list (pe_met T0.cl G.rows (hr.mono (by decide)) pass0 (pv 0) (pa_cons (pv 1) pa_nil))) (blkOk_by (own := [("row", 4)]) (N := ["world", "stream", "moment", "rows", "row"]) (sc := defScope s_last_row) (by decide +kernel)) (fun _ _ _ _ _ => (pg_name (i := 4) sc_last_row.nd rfl (Or.inl rfl))) (fun _ _ _ _ _ => pts_one (pt_cmpR op_le (pe_ix (show IxR _ (rIxT K) from ix_tup) (pv 4) pe_int (fun _ _ => rfl)) (pv 2) (nomark _))) (fun _ _ _ _ _ => (pv 4)))
    (pss_cons (ps_if (pt_cmpR op_eq (pe_callB call_len_seq (by rfl) B.len (by decide +kernel) (pa_cons (pv 3) pa_nil)) pe_int (nomark _))
      (pss_one (ps_ret pe_non))
      pss_nil)
    (pss_one (ps_ret (pe_ix ix_list (pv 3) (pe_un un_neg pe_int) (fun _ _ => rfl)))))), ?_⟩
    obtain ⟨dx, d, t, kvs, ids, h1, h2, h3, h4⟩ := id hW
    have l4 := (h4 z).1
    refine ⟨_, rfl, a, dx, _, rfl, h1, rfl, _, rfl, a, W, z, rfl, hW, hz, fun p ys H1 s1 hp hys hTr => ?_⟩
    refine ⟨p, rfl, ⟨_, SqL.of hys⟩, fun D hD => lc_it (walk_list (xs := ys)) (fun i H2 => (∃ zs, H2 D = some (.lst zs) ∧ TrAt H2 zs (((W z).take i).filter (fun t : T3 => decide (t.1 ≤ m)))) ∧ Same H1 H2) ⟨⟨[], upd_same, rfl, fun i v t a b => by simp at a⟩, sameAt (Same.refl H1) hD⟩ (fun i H2 _ hv => SqL.of (hv.2 _ _ hys)) ?_ ?_⟩
    · rintro i x H2 H3 hi ⟨⟨zs, hD2, hT2⟩, s2⟩ ⟨rfl, hx⟩
      have hi2 : i < (W z).length := by rw [← hTr.1]; exact hi
      obtain ⟨t, ht⟩ : ∃ t, (W z)[i]? = some t := ⟨_, List.getElem?_eq_getElem hi2⟩
      obtain ⟨e, rfl, he⟩ := hTr.2 i x t hx ht
      have he1 := s2 _ _ he
      have tk : ∀ {u} t xs, H3 t = some (.tup xs) → upd H3 D (.lst u) t = some (.tup xs) := fun {u} t xs q => by rw [upd_ne (ne_of q hD2 (by intro z; cases z))]; exact q
      refine ⟨rfl, _, rfl, _, _, _, _, rfl, rfl, SqT.of he1, rfl, _, rfl, _, _, rfl, rfl, _, rfl, ?_⟩
      rw [list_take ht, List.filter_append]
      have lz : zs.length ≤ 400 := by
        rw [hT2.1]
        refine Nat.le_trans (List.length_filter_le _ _) ?_
        rw [List.length_take]
        omega
      refine ite2 (fun c => ?_) (fun c => ?_)
      · refine ⟨_, rfl, zs, hD2, small1000 (by omega), ⟨_, upd_same, ?_⟩, sameAt s2 hD⟩
        rw [show List.filter (fun t : T3 => decide (t.1 ≤ m)) [t] = [t] by rw [List.filter_cons, if_pos c]; rfl]
        exact (hT2.tk tk).snoc (tk _ _ he1)
      · refine ⟨⟨zs, hD2, ?_⟩, s2⟩
        rw [show List.filter (fun t : T3 => decide (t.1 ≤ m)) [t] = [] by rw [List.filter_cons, if_neg c]; rfl, List.append_nil]
        exact hT2
    · rintro H2 ⟨⟨zs, hD2, hT2⟩, s2⟩
      rw [hTr.1, List.take_length] at hT2
      have s12 := s1.trans s2
      refine ⟨_, rfl, _, _, rfl, .inl (SqL.of hD2), rfl, _, rfl, ?_⟩
      cases zs with
      | nil =>
        have e : (W z).filter (fun t : T3 => decide (t.1 ≤ m)) = [] := List.length_eq_zero_iff.mp hT2.1.symm
        refine iteT (q .non H2 s12 ?_)
        rw [show lastR (W z) m = ((W z).filter (fun t : T3 => decide (t.1 ≤ m))).getLast? from rfl, e]
        rfl
      | cons y yr =>
        rw [show decide (V.int (((y :: yr).length : Nat) : Int) = V.int 0) = false from decide_eq_false fun z => by
          have := V.int.inj z
          rw [List.length_cons] at this
          omega]
        refine iteF ?_
        obtain ⟨t, ht⟩ : ∃ t, ((W z).filter (fun t : T3 => decide (t.1 ≤ m)))[yr.length]? = some t := ⟨_, List.getElem?_eq_getElem (by rw [← hT2.1, List.length_cons]; omega)⟩
        obtain ⟨e, he, het⟩ := hT2.get ht
        refine ⟨_, rfl, _, rfl, D, y :: yr, -1, .ref e, rfl, rfl, SqL.of hD2, ?_, q _ H2 s12 ?_⟩
        · unfold atI ixN
          rw [if_neg (by decide), if_pos (by rw [List.length_cons]; omega), Option.bind_some, show ((-1 : Int) + (((y :: yr).length : Nat) : Int)).toNat = yr.length by rw [List.length_cons]; omega]
          exact he
        · show RowV H2 (.ref e) (((W z).filter (fun t : T3 => decide (t.1 ≤ m))).getLast?)
          rw [List.getLast?_eq_getElem?, ← hT2.1, List.length_cons, Nat.add_sub_cancel, ht]
          exact ⟨e, rfl, het⟩
abbrev s_next_row : Stmt := topS 66
theorem sc_next_row : FnScope ["world", "stream", "moment", "rows", "row"] ["world", "stream", "moment"] (defScope s_next_row) := ⟨rfl, rfl, rfl, by decide +kernel, rfl, by decide +kernel, by decide +kernel⟩
theorem ok_nextrow {f : Addr} {fd : FuncData} (F : Fun K "next_row" "next_row" s_next_row f fd) (B : Blt mg) (T0 : Cw K mg CW) (G : T3s P w K mg base C CW) : FnOk P w K mg base CX0 3 f fd ["world", "stream", "moment"] (spLastRow CW nextR) := by
  refine F.ok sc_next_row (fun vs H Q E h => ?_) (fun cdv A outer s H vs Q E hr h => ?_)
  · obtain ⟨a, W, z, m, rfl, _⟩ := h
    rfl
  · obtain ⟨a, W, z, m, rfl, hW, hz, q⟩ := h
    refine ⟨_, (pss_cons (ps_setLc (i := 3) (own := [("row", 4)]) (g := gName 4) (by rfl) sc_next_row.nd rfl rfl (sw_true rfl rfl rfl (by decide +kernel)) (pi_list (pe_met T0.cl G.rows (hr.mono (by decide)) pass0 (pv 0) (pa_cons (pv 1) pa_nil))) (blkOk_by (own := [("row", 4)]) (N := ["world", "stream", "moment", "rows", "row"]) (sc := defScope s_next_row) (by decide +kernel)) (fun _ _ _ _ _ => (pg_name (i := 4) sc_next_row.nd rfl (Or.inl rfl))) (fun _ _ _ _ _ => pts_one (pt_cmpR op_ge (pe_ix (show IxR _ (rIxT K) from ix_tup) (pv 4) pe_int (fun _ _ => rfl)) (pv 2) (nomark _))) (fun _ _ _ _ _ => (pv 4)))
    (pss_cons (ps_if (pt_cmpR op_eq (pe_callB call_len_seq (by rfl) B.len (by decide +kernel) (pa_cons (pv 3) pa_nil)) pe_int (nomark _))
      (pss_one (ps_ret pe_non))
      pss_nil)
    (pss_one (ps_ret (pe_ix ix_list (pv 3) pe_int (fun _ _ => rfl)))))), ?_⟩
    obtain ⟨dx, d, t, kvs, ids, h1, h2, h3, h4⟩ := id hW
    have l4 := (h4 z).1
    refine ⟨_, rfl, a, dx, _, rfl, h1, rfl, _, rfl, a, W, z, rfl, hW, hz, fun p ys H1 s1 hp hys hTr => ?_⟩
    refine ⟨p, rfl, ⟨_, SqL.of hys⟩, fun D hD => lc_it (walk_list (xs := ys)) (fun i H2 => (∃ zs, H2 D = some (.lst zs) ∧ TrAt H2 zs (((W z).take i).filter (fun t : T3 => decide (m ≤ t.1)))) ∧ Same H1 H2) ⟨⟨[], upd_same, rfl, fun i v t a b => by simp at a⟩, sameAt (Same.refl H1) hD⟩ (fun i H2 _ hv => SqL.of (hv.2 _ _ hys)) ?_ ?_⟩
    · rintro i x H2 H3 hi ⟨⟨zs, hD2, hT2⟩, s2⟩ ⟨rfl, hx⟩
      have hi2 : i < (W z).length := by rw [← hTr.1]; exact hi
      obtain ⟨t, ht⟩ : ∃ t, (W z)[i]? = some t := ⟨_, List.getElem?_eq_getElem hi2⟩
      obtain ⟨e, rfl, he⟩ := hTr.2 i x t hx ht
      have he1 := s2 _ _ he
      have tk : ∀ {u} t xs, H3 t = some (.tup xs) → upd H3 D (.lst u) t = some (.tup xs) := fun {u} t xs q => by rw [upd_ne (ne_of q hD2 (by intro z; cases z))]; exact q
      refine ⟨rfl, _, rfl, _, _, _, _, rfl, rfl, SqT.of he1, rfl, _, rfl, _, _, rfl, rfl, _, rfl, ?_⟩
      rw [list_take ht, List.filter_append]
      have lz : zs.length ≤ 400 := by
        rw [hT2.1]
        refine Nat.le_trans (List.length_filter_le _ _) ?_
        rw [List.length_take]
        omega
      refine ite2 (fun c => ?_) (fun c => ?_)
      · refine ⟨_, rfl, zs, hD2, small1000 (by omega), ⟨_, upd_same, ?_⟩, sameAt s2 hD⟩
        rw [show List.filter (fun t : T3 => decide (m ≤ t.1)) [t] = [t] by rw [List.filter_cons, if_pos c]; rfl]
        exact (hT2.tk tk).snoc (tk _ _ he1)
      · refine ⟨⟨zs, hD2, ?_⟩, s2⟩
        rw [show List.filter (fun t : T3 => decide (m ≤ t.1)) [t] = [] by rw [List.filter_cons, if_neg c]; rfl, List.append_nil]
        exact hT2
    · rintro H2 ⟨⟨zs, hD2, hT2⟩, s2⟩
      rw [hTr.1, List.take_length] at hT2
      have s12 := s1.trans s2
      refine ⟨_, rfl, _, _, rfl, .inl (SqL.of hD2), rfl, _, rfl, ?_⟩
      cases zs with
      | nil =>
        have e : (W z).filter (fun t : T3 => decide (m ≤ t.1)) = [] := List.length_eq_zero_iff.mp hT2.1.symm
        refine iteT (q .non H2 s12 ?_)
        rw [show nextR (W z) m = ((W z).filter (fun t : T3 => decide (m ≤ t.1))).head? from rfl, e]
        rfl
      | cons y yr =>
        rw [show decide (V.int (((y :: yr).length : Nat) : Int) = V.int 0) = false from decide_eq_false fun z => by
          have := V.int.inj z
          rw [List.length_cons] at this
          omega]
        refine iteF ?_
        obtain ⟨t, ht⟩ : ∃ t, ((W z).filter (fun t : T3 => decide (m ≤ t.1)))[0]? = some t := ⟨_, List.getElem?_eq_getElem (by rw [← hT2.1, List.length_cons]; omega)⟩
        obtain ⟨e, he, het⟩ := hT2.get ht
        refine ⟨_, rfl, D, y :: yr, 0, .ref e, rfl, rfl, SqL.of hD2, atI_nat (j := 0) he, q _ H2 s12 ?_⟩
        show RowV H2 (.ref e) (((W z).filter (fun t : T3 => decide (m ≤ t.1))).head?)
        rw [List.head?_eq_getElem?, ht]
        exact ⟨e, rfl, het⟩
end
end Ash

set_option Elab.async false
set_option linter.all false
set_option maxRecDepth 100000
set_option maxHeartbeats 4000000
namespace Ash
open PySem PySem.Spec PyProof.Rows L2 SrtT
open C8 (pss_cut)
section
variable {P : Program} {w : World} {K : PySem.W.Frag} {mg : Str → Option Value} {base : Heap} {C : TC} {CW : Addr}
theorem Tm.Fit.ofL {s : Str} {t : Tm} (h : (Tm.last s t).Fit) : t.Fit := by
  obtain ⟨h1, h2, h3⟩ := h
  have h1 : 1 + t.dep ≤ 12 := h1
  have h2 : 1 + t.par ≤ 40 := h2
  have h3 : 1 + t.lok ≤ 12 := h3
  exact ⟨by omega, by omega, by omega⟩
theorem Tm.Fit.ofN {s : Str} {t : Tm} (h : (Tm.next s t).Fit) : t.Fit := Tm.Fit.ofL (s := s) h
theorem Tm.Fit.ofS {n : Int} {t : Tm} (h : (Tm.shift n t).Fit) : t.Fit := by
  obtain ⟨h1, h2, h3⟩ := h
  have h1 : 1 + t.dep ≤ 12 := h1
  have h2 : 1 + t.par ≤ 40 := h2
  have h3 : 0 + t.lok ≤ 12 := h3
  exact ⟨by omega, by omega, by omega⟩
theorem Tm.Fit.ofE {t u : Tm} (h : (Tm.either t u).Fit) : t.Fit ∧ u.Fit := by
  obtain ⟨h1, h2, h3⟩ := h
  have h1 : 1 + Tm.mx t.dep u.dep ≤ 12 := h1
  have h2 : 1 + (t.par + u.par) ≤ 40 := h2
  have h3 : 0 + (t.lok + u.lok) ≤ 12 := h3
  have := Tm.mx_l t.dep u.dep
  have := Tm.mx_r t.dep u.dep
  have := t.par_pos
  have := u.par_pos
  have := t.lok_nn
  have := u.lok_nn
  exact ⟨⟨by omega, by omega, by omega⟩, ⟨by omega, by omega, by omega⟩⟩
def Tm.isNow : Tm → Bool
  | .now => true
  | _ => false
def Tm.isEith : Tm → Bool
  | .either _ _ => true
  | _ => false
theorem TD.now_ (D : TD C) (t : Tm) : decide (C.of t = C.now) = t.isNow := by
  have h := D.nd
  simp only [List.nodup_cons, List.mem_cons, List.not_mem_nil, or_false, not_or] at h
  obtain ⟨⟨a1, a2, a3, a4, a5, a6⟩, _⟩ := h
  cases t <;> simp [TC.of, Tm.isNow, Ne.symm a1, Ne.symm a2, Ne.symm a3, Ne.symm a4, Ne.symm a5, Ne.symm a6]
theorem TD.eith (D : TD C) (t : Tm) : decide (C.of t = C.either) = t.isEith := by
  have h := D.nd
  simp only [List.nodup_cons, List.mem_cons, List.not_mem_nil, or_false, not_or] at h
  obtain ⟨⟨a1, a2, a3, a4, a5, a6⟩, ⟨b1, b2, b3, b4, b5⟩, ⟨c1, c2, c3, c4⟩, ⟨d1, d2, d3⟩, ⟨e1, e2⟩, _⟩ := h
  cases t <;> simp [TC.of, Tm.isEith, a4, b3, c2, d1, Ne.symm e1, Ne.symm e2]
theorem Ans.same {H H1 : Hp} {Q : VK} {r : Rs} (h : Ans H Q r) (s : Same H H1) : Ans H1 Q r := fun q l H' s2 => h q l H' (s.trans s2)
theorem oV_none {o : Option Int} : decide (oV o = V.non) = o.isNone := by
  cases o with
  | none => rfl
  | some i => exact decide_eq_false fun z => nomatch z
/-- what stands of a term with an inner one -/
theorem TmAt.inner {H : Hp} {a : Addr} {s : Str} {t u : Tm} (h : TmAt C H a u) (e : u = .last s t ∨ u = .next s t) : ∃ dx b sp, H a = some (.ins (C.of u) dx (("stream", .str s) :: ("term", .ref b) :: fCom sp u)) ∧ TmAt C H b t := by
  rcases e with rfl | rfl
  · obtain ⟨dx, b, sp, h1, h2, h3⟩ := h
    exact ⟨dx, b, sp, h1, h3⟩
  · obtain ⟨dx, b, sp, h1, h2, h3⟩ := h
    exact ⟨dx, b, sp, h1, h3⟩
theorem TmAt.two {H : Hp} {a : Addr} {t u x : Tm} (h : TmAt C H a x) (e : x = .either t u ∨ x = .later t u ∨ x = .earlier t u) : ∃ dx b c sp, H a = some (.ins (C.of x) dx (("first", .ref b) :: ("second", .ref c) :: fCom sp x)) ∧ TmAt C H b t ∧ TmAt C H c u := by
  rcases e with rfl | rfl | rfl
  · obtain ⟨dx, b, c, sp, h1, h2, h3, h4⟩ := h
    exact ⟨dx, b, c, sp, h1, h3, h4⟩
  · obtain ⟨dx, b, c, sp, h1, h2, h3, h4⟩ := h
    exact ⟨dx, b, c, sp, h1, h3, h4⟩
  · obtain ⟨dx, b, c, sp, h1, h2, h3, h4⟩ := h
    exact ⟨dx, b, c, sp, h1, h3, h4⟩
structure A1 (P : Program) (w : World) (K : PySem.W.Frag) (mg : Str → Option Value) (base : Heap) (C : TC) (CW : Addr) : Prop extends T3s P w K mg base C CW where
  last_row : Cal P w K mg base CX0 "last_row" 3 ["world", "stream", "moment"] (spLastRow CW lastR)
  next_row : Cal P w K mg base CX0 "next_row" 3 ["world", "stream", "moment"] (spLastRow CW nextR)
structure A2 (P : Program) (w : World) (K : PySem.W.Frag) (mg : Str → Option Value) (base : Heap) (C : TC) (CW : Addr) (d : Nat) : Prop extends A1 P w K mg base C CW where
  followed : Cal P w K mg base CX0 "followed" (2 * d + 4) ["term", "world", "now"] (spFol C CW d)
abbrev s_moved : Stmt := topS 60
theorem sc_moved : FnScope ["shift", "world", "now", "answer", "seen"] ["shift", "world", "now"] (defScope s_moved) := ⟨rfl, rfl, rfl, by decide +kernel, rfl, by decide +kernel, by decide +kernel⟩
theorem ok_moved {f : Addr} {fd : FuncData} {d : Nat} (F : Fun K "moved" "moved" s_moved f fd) (B : Blt mg) (T : TF K mg C) (G : A2 P w K mg base C CW d) : FnOk P w K mg base CX0 (2 * d + 5) f fd ["shift", "world", "now"] (spMoved C CW d) := by
  refine F.ok sc_moved (fun vs H Q E h => ?_) (fun cdv A outer s H vs Q E hr h => ?_)
  · obtain ⟨a, b, t, W, now, n, rfl, _⟩ := h
    rfl
  · obtain ⟨a, b, t, W, now, n, rfl, hT, hW, hN, hF, hd, q⟩ := h
    refine ⟨_, (pss_cons (ps_asg (pe_cal G.followed (hr.mono (by omega)) pass0 (pa_cons (pe_fld (pv 0) rfl) (pa_cons (pv 1) (pa_cons (pv 2) pa_nil)))) (pg_tup (by rfl) (pgs_cons (pg_name (i := 3) sc_moved.nd rfl (Or.inl rfl)) (pgs_cons (pg_name (i := 4) sc_moved.nd rfl (Or.inl rfl)) pgs_nil))))
    (pss_cons (ps_if (pt_cmpR op_isN (pv 3) pe_non (nomark _))
      (pss_one (ps_ret (pe_tup (pa_cons pe_non (pa_cons (pv 4) pa_nil)))))
      pss_nil)
    (pss_one (ps_ret (pe_tup (pa_cons (pe_op op_add (pv 3) (pe_fld (pv 0) rfl)) (pa_cons (pv 4) pa_nil))))))), ?_⟩
    obtain ⟨dx, c, sp, h1, h2, h3⟩ := id hT
    have Is : C.Is C.shift := C.is_of (.shift 0 .now)
    refine ⟨_, rfl, a, C.shift, dx, _, _, rfl, h1, T.cl _ Is, T.no _ Is _ (by decide +kernel), rfl, _, rfl, _, rfl, c, b, t, W, now, rfl, h3, hW, hN, hF, hd, fun q1 l H1 s1 hq1 hl => ?_⟩
    have q : Ans H Q (moveR (ev W now t) n) := q
    generalize ev W now t = r at q hq1 hl
    obtain ⟨r1, r2⟩ := r
    refine ⟨q1, _, rfl, SqT.of hq1, rfl, _, _, rfl, _, _, rfl, rfl, ?_⟩
    refine ⟨_, rfl, rfl, _, rfl, ?_⟩
    cases r1 with
    | none =>
      refine ite2 (fun _ => ?_) (fun c => absurd rfl c)
      exact ⟨_, rfl, (by show 2 ≤ sizeLine; decide), fun t2 ht2 => q t2 l _ (s1.trans (sameAt (Same.refl H1) ht2)) upd_same (sameAt (Same.refl H1) ht2 _ _ hl)⟩
    | some m =>
      refine ite2 (fun c => absurd (of_decide_eq_true c) (fun z => nomatch z)) (fun _ => ?_)
      exact ⟨_, rfl, _, rfl, a, C.shift, dx, _, _, rfl, s1 _ _ h1, T.cl _ Is, T.no _ Is _ (by decide +kernel), rfl, _, _, rfl, rfl, _, rfl, (by show 2 ≤ sizeLine; decide), fun t2 ht2 => q t2 l _ (s1.trans (sameAt (Same.refl H1) ht2)) upd_same (sameAt (Same.refl H1) ht2 _ _ hl)⟩
abbrev s_looked : Stmt := topS 61
theorem sc_looked : FnScope ["question", "world", "now", "place", "answer", "seen", "row"] ["question", "world", "now", "place"] (defScope s_looked) := ⟨rfl, rfl, rfl, by decide +kernel, rfl, by decide +kernel, by decide +kernel⟩
theorem ok_looked {f : Addr} {fd : FuncData} {d : Nat} (F : Fun K "looked" "looked" s_looked f fd) (B : Blt mg) (T : TF K mg C) (D : TD C) (G : A2 P w K mg base C CW d) : FnOk P w K mg base CX0 (2 * d + 5) f fd ["question", "world", "now", "place"] (spLooked C CW d) := by
  obtain ⟨t_cl, t_no, t_ty, t_one, c_Now, c_Last, c_Next, c_Shift, c_Either, c_Later, c_Earlier⟩ := id T
  refine F.ok sc_looked (fun vs H Q E h => ?_) (fun cdv A outer s H vs Q E hr h => ?_)
  · obtain ⟨a, b, t, u, z, W, now, rfl, _⟩ := h
    rfl
  · obtain ⟨a, b, t, u, z, W, now, rfl, hT, hu, hW, hz, hN, hF, hd, q⟩ := h
    refine ⟨_, (pss_cons (ps_asg (pe_cal G.followed (hr.mono (by omega)) pass0 (pa_cons (pe_fld (pv 0) rfl) (pa_cons (pv 1) (pa_cons (pv 2) pa_nil)))) (pg_tup (by rfl) (pgs_cons (pg_name (i := 4) sc_looked.nd rfl (Or.inl rfl)) (pgs_cons (pg_name (i := 5) sc_looked.nd rfl (Or.inl rfl)) pgs_nil))))
    (pss_cons (ps_if (pt_cmpR op_isN (pv 4) pe_non (nomark _))
      (pss_one (ps_ret (pe_tup (pa_cons pe_non (pa_cons (pv 5) pa_nil)))))
      pss_nil)
    (pss_cons (ps_if (pt_val (pe_callB call_isi (by rfl) B.isinstance (by decide +kernel) (pa_cons (pv 0) (pa_cons (pe_glob (v := .ref C.next) (by rfl) c_Next rfl) pa_nil))))
      (pss_one (ps_set (i := 6) sc_looked.nd rfl (Or.inl rfl) (pe_cal G.next_row (hr.mono (by omega)) pass0 (pa_cons (pv 1) (pa_cons (pe_fld (pv 0) rfl) (pa_cons (pv 4) pa_nil))))))
      (pss_one (ps_set (i := 6) sc_looked.nd rfl (Or.inl rfl) (pe_cal G.last_row (hr.mono (by omega)) pass0 (pa_cons (pv 1) (pa_cons (pe_fld (pv 0) rfl) (pa_cons (pv 4) pa_nil)))))))
    (pss_cons (ps_if (pt_cmpR op_isN (pv 6) pe_non (nomark _))
      (pss_one (ps_ret (pe_tup (pa_cons pe_non (pa_cons (pv 5) pa_nil)))))
      pss_nil)
    (pss_one (ps_ret (pe_tup (pa_cons (pe_ix ix_tup (pv 6) (pv 3) (fun _ _ => rfl)) (pa_cons (pe_lst (StX.pa_star (pv 5) (pa_cons (pe_ix ix_tup (pv 6) pe_int (fun _ _ => rfl)) pa_nil))) pa_nil))))))))), ?_⟩
    obtain ⟨dx, c, sp, h1, h3⟩ := hT.inner hu
    refine ⟨_, rfl, a, _, dx, _, _, rfl, h1, T.cl _ (C.is_of _), T.no _ (C.is_of _) _ (by decide +kernel), rfl, _, rfl, _, rfl, c, b, t, W, now, rfl, h3, hW, hN, hF, hd, fun q1 l H1 s1 hq1 hl => ?_⟩
    have ln := ev_len (W := W) (now := now) t
    have l12 := hF.2.2
    have q : Ans H Q (lookR (ev W now t) (if C.of u = C.next then nextR (W z) else lastR (W z))) := by
      have h := D.nd
      simp only [List.nodup_cons, List.mem_cons, List.not_mem_nil, or_false, not_or] at h
      rcases hu with rfl | rfl
      · rw [if_neg (show ¬ C.of (Tm.last z t) = C.next from h.2.1.1)]
        exact q
      · rw [if_pos (show C.of (Tm.next z t) = C.next from rfl)]
        exact q
    generalize ev W now t = r at q hq1 hl ln
    obtain ⟨r1, r2⟩ := r
    have ln : (r2.length : Int) ≤ t.lok := ln
    have k := T.one (C.of u) C.next (C.is_of u) (C.is_of (.next z .now))
    refine ⟨q1, _, rfl, SqT.of hq1, rfl, _, _, rfl, _, _, rfl, rfl, ?_⟩
    refine ⟨_, rfl, rfl, _, rfl, ?_⟩
    cases r1 with
    | none =>
      refine ite2 (fun _ => ?_) (fun c => absurd rfl c)
      exact ⟨_, rfl, (by show 2 ≤ sizeLine; decide), fun t2 ht2 => q t2 l _ (s1.trans (sameAt (Same.refl H1) ht2)) upd_same (sameAt (Same.refl H1) ht2 _ _ hl)⟩
    | some m =>
      refine ite2 (fun c => absurd (of_decide_eq_true c) (fun z => nomatch z)) (fun _ => ?_)
      refine ⟨_, rfl, _, _, _, _, _, rfl, .own _, T.tyx (hT.same s1), k, _, rfl, ?_⟩
      refine ite2 (fun cn => ?_) (fun cn => ?_)
      · rw [if_pos (of_decide_eq_true cn)] at q
        refine ⟨_, rfl, _, rfl, a, _, dx, _, _, rfl, s1 _ _ h1, T.cl _ (C.is_of _), T.no _ (C.is_of _) _ (by decide +kernel), rfl, _, rfl, b, W, z, m, rfl, hW.same s1, hz, fun v H2 s2 hv => ?_⟩
        have hl2 := s2 _ _ hl
        have s12 := s1.trans s2
        refine ⟨_, rfl, rfl, _, rfl, ?_⟩
        cases hrow : nextR (W z) m with
        | none =>
          rw [hrow] at hv
          have hv : v = .non := hv
          subst hv
          have q : Ans H Q (none, r2) := by
            have q : Ans H Q (lookR (some m, r2) (nextR (W z))) := q
            rw [show lookR (some m, r2) (nextR (W z)) = (none, r2) by show (match nextR (W z) m with | none => _ | some t => _) = _; rw [hrow]] at q
            exact q
          refine ite2 (fun _ => ?_) (fun c => absurd rfl c)
          exact ⟨_, rfl, (by show 2 ≤ sizeLine; decide), fun t2 ht2 => q t2 l _ (s12.trans (sameAt (Same.refl H2) ht2)) upd_same (sameAt (Same.refl H2) ht2 _ _ hl2)⟩
        | some t3 =>
          rw [hrow] at hv
          obtain ⟨e, rfl, he⟩ := hv
          have q : Ans H Q (some t3.1, r2 ++ [t3.2.1]) := by
            have q : Ans H Q (lookR (some m, r2) (nextR (W z))) := q
            rw [show lookR (some m, r2) (nextR (W z)) = (some t3.1, r2 ++ [t3.2.1]) by show (match nextR (W z) m with | none => _ | some t => _) = _; rw [hrow]] at q
            exact q
          refine ite2 (fun c => absurd (of_decide_eq_true c) (fun z => nomatch z)) (fun _ => ?_)
          refine ⟨_, rfl, _, rfl, _, _, _, _, rfl, rfl, SqT.of he, rfl, _, rfl, l, _, rfl, .inr (SqL.of hl2), _, rfl, _, _, _, _, rfl, rfl, SqT.of he, rfl, ?_, fun l2 hl3 => ⟨(by show 2 ≤ sizeLine; decide), fun t2 ht2 => ?_⟩⟩
          · show (r2.map V.int ++ [_]).length ≤ sizeLine
            rw [List.length_append, List.length_map, sizeLine_eq]
            show r2.length + 1 ≤ _
            omega
          · have s3 := s12.trans (sameAt (Same.refl H2) hl3 (o := .lst (r2.map V.int ++ [.int t3.2.1])))
            have hl4 : upd H2 l2 (.lst (r2.map V.int ++ [.int t3.2.1])) l2 = some (.lst ((r2 ++ [t3.2.1]).map V.int)) := by
              rw [upd_same, List.map_append]
              rfl
            exact q t2 l2 _ (s3.trans (sameAt (Same.refl _) ht2)) upd_same (sameAt (Same.refl _) ht2 _ _ hl4)
      · rw [if_neg (fun z => cn (decide_eq_true z))] at q
        refine ⟨_, rfl, _, rfl, a, _, dx, _, _, rfl, s1 _ _ h1, T.cl _ (C.is_of _), T.no _ (C.is_of _) _ (by decide +kernel), rfl, _, rfl, b, W, z, m, rfl, hW.same s1, hz, fun v H2 s2 hv => ?_⟩
        have hl2 := s2 _ _ hl
        have s12 := s1.trans s2
        refine ⟨_, rfl, rfl, _, rfl, ?_⟩
        cases hrow : lastR (W z) m with
        | none =>
          rw [hrow] at hv
          have hv : v = .non := hv
          subst hv
          have q : Ans H Q (none, r2) := by
            have q : Ans H Q (lookR (some m, r2) (lastR (W z))) := q
            rw [show lookR (some m, r2) (lastR (W z)) = (none, r2) by show (match lastR (W z) m with | none => _ | some t => _) = _; rw [hrow]] at q
            exact q
          refine ite2 (fun _ => ?_) (fun c => absurd rfl c)
          exact ⟨_, rfl, (by show 2 ≤ sizeLine; decide), fun t2 ht2 => q t2 l _ (s12.trans (sameAt (Same.refl H2) ht2)) upd_same (sameAt (Same.refl H2) ht2 _ _ hl2)⟩
        | some t3 =>
          rw [hrow] at hv
          obtain ⟨e, rfl, he⟩ := hv
          have q : Ans H Q (some t3.1, r2 ++ [t3.2.1]) := by
            have q : Ans H Q (lookR (some m, r2) (lastR (W z))) := q
            rw [show lookR (some m, r2) (lastR (W z)) = (some t3.1, r2 ++ [t3.2.1]) by show (match lastR (W z) m with | none => _ | some t => _) = _; rw [hrow]] at q
            exact q
          refine ite2 (fun c => absurd (of_decide_eq_true c) (fun z => nomatch z)) (fun _ => ?_)
          refine ⟨_, rfl, _, rfl, _, _, _, _, rfl, rfl, SqT.of he, rfl, _, rfl, l, _, rfl, .inr (SqL.of hl2), _, rfl, _, _, _, _, rfl, rfl, SqT.of he, rfl, ?_, fun l2 hl3 => ⟨(by show 2 ≤ sizeLine; decide), fun t2 ht2 => ?_⟩⟩
          · show (r2.map V.int ++ [_]).length ≤ sizeLine
            rw [List.length_append, List.length_map, sizeLine_eq]
            show r2.length + 1 ≤ _
            omega
          · have s3 := s12.trans (sameAt (Same.refl H2) hl3 (o := .lst (r2.map V.int ++ [.int t3.2.1])))
            have hl4 : upd H2 l2 (.lst (r2.map V.int ++ [.int t3.2.1])) l2 = some (.lst ((r2 ++ [t3.2.1]).map V.int)) := by
              rw [upd_same, List.map_append]
              rfl
            exact q t2 l2 _ (s3.trans (sameAt (Same.refl _) ht2)) upd_same (sameAt (Same.refl _) ht2 _ _ hl4)
abbrev s_followed_either : Stmt := topS 62
theorem sc_followed_either : FnScope ["term", "world", "now", "first", "seen", "second", "more"] ["term", "world", "now"] (defScope s_followed_either) := ⟨rfl, rfl, rfl, by decide +kernel, rfl, by decide +kernel, by decide +kernel⟩
theorem ok_feither {f : Addr} {fd : FuncData} {d : Nat} (F : Fun K "followed_either" "followed_either" s_followed_either f fd) (B : Blt mg) (T : TF K mg C) (G : A2 P w K mg base C CW d) : FnOk P w K mg base CX0 (2 * d + 5) f fd ["term", "world", "now"] (spEith C CW d) := by
  refine F.ok sc_followed_either (fun vs H Q E h => ?_) (fun cdv A outer s H vs Q E hr h => ?_)
  · obtain ⟨a, b, t, u, W, now, rfl, _⟩ := h
    rfl
  · obtain ⟨a, b, t, u, W, now, rfl, hT, hW, hN, hN2, hF, hF2, hd, hd2, q⟩ := h
    refine ⟨_, (pss_cons (ps_asg (pe_cal G.followed (hr.mono (by omega)) pass0 (pa_cons (pe_fld (pv 0) rfl) (pa_cons (pv 1) (pa_cons (pv 2) pa_nil)))) (pg_tup (by rfl) (pgs_cons (pg_name (i := 3) sc_followed_either.nd rfl (Or.inl rfl)) (pgs_cons (pg_name (i := 4) sc_followed_either.nd rfl (Or.inl rfl)) pgs_nil))))
    (pss_cons (ps_if (pt_cmpR op_notN (pv 3) pe_non (nomark _))
      (pss_one (ps_ret (pe_tup (pa_cons (pv 3) (pa_cons (pv 4) pa_nil)))))
      pss_nil)
    (pss_cons (ps_asg (pe_cal G.followed (hr.mono (by omega)) pass0 (pa_cons (pe_fld (pv 0) rfl) (pa_cons (pv 1) (pa_cons (pv 2) pa_nil)))) (pg_tup (by rfl) (pgs_cons (pg_name (i := 5) sc_followed_either.nd rfl (Or.inl rfl)) (pgs_cons (pg_name (i := 6) sc_followed_either.nd rfl (Or.inl rfl)) pgs_nil))))
    (pss_one (ps_ret (pe_tup (pa_cons (pv 5) (pa_cons (pe_lst (StX.pa_star (pv 4) (StX.pa_star (pv 6) pa_nil))) pa_nil)))))))), ?_⟩
    obtain ⟨dx, c1, c2, sp, h1, h3, h4⟩ := hT.two (.inl rfl)
    refine ⟨_, rfl, a, _, dx, _, _, rfl, h1, T.cl _ (C.is_of _), T.no _ (C.is_of _) _ (by decide +kernel), rfl, _, rfl, _, rfl, c1, b, t, W, now, rfl, h3, hW, hN, hF, hd, fun q1 l H1 s1 hq1 hl => ?_⟩
    have ln := ev_len (W := W) (now := now) t
    have ln2 := ev_len (W := W) (now := now) u
    have l12 := hF.2.2
    have l13 := hF2.2.2
    have q : Ans H Q (eithR (ev W now t) (ev W now u)) := q
    generalize ev W now t = r at q hq1 hl ln
    obtain ⟨r1, r2⟩ := r
    have ln : (r2.length : Int) ≤ t.lok := ln
    refine ⟨q1, _, rfl, SqT.of hq1, rfl, _, _, rfl, _, _, rfl, rfl, ?_⟩
    refine ⟨_, rfl, rfl, _, rfl, ?_⟩
    cases r1 with
    | some m =>
      refine ite2 (fun _ => ?_) (fun c => absurd rfl c)
      exact ⟨_, rfl, _, rfl, (by show 2 ≤ sizeLine; decide), fun t2 ht2 => q t2 l _ (s1.trans (sameAt (Same.refl H1) ht2)) upd_same (sameAt (Same.refl H1) ht2 _ _ hl)⟩
    | none =>
      refine ite2 (fun c => absurd (show (!decide (V.non = V.non)) = true from c) (by decide)) (fun _ => ?_)
      refine ⟨_, rfl, a, _, dx, _, _, rfl, s1 _ _ h1, T.cl _ (C.is_of _), T.no _ (C.is_of _) _ (by decide +kernel), rfl, _, rfl, _, rfl, c2, b, u, W, now, rfl, h4.same s1, hW.same s1, hN2, hF2, hd2, fun q2 l2 H2 s2 hq2 hl2 => ?_⟩
      have q : Ans H Q ((ev W now u).1, r2 ++ (ev W now u).2) := q
      generalize ev W now u = r' at q hq2 hl2 ln2
      obtain ⟨x1, x2⟩ := r'
      have ln2 : (x2.length : Int) ≤ u.lok := ln2
      have s12 := s1.trans s2
      refine ⟨q2, _, rfl, SqT.of hq2, rfl, _, _, rfl, _, _, rfl, rfl, ?_⟩
      refine ⟨_, rfl, _, rfl, l, _, rfl, .inr (SqL.of (s2 _ _ hl)), _, rfl, l2, _, rfl, .inr (SqL.of hl2), ?_, fun l3 hl3 => ⟨(by show 2 ≤ sizeLine; decide), fun t2 ht2 => ?_⟩⟩
      · show (r2.map V.int ++ (x2.map V.int ++ [])).length ≤ sizeLine
        rw [List.length_append, List.length_append, List.length_map, List.length_map, sizeLine_eq]
        show r2.length + (x2.length + 0) ≤ _
        omega
      · have s3 := s12.trans (sameAt (Same.refl H2) hl3 (o := .lst (r2.map V.int ++ (x2.map V.int ++ []))))
        have hl4 : upd H2 l3 (.lst (r2.map V.int ++ (x2.map V.int ++ []))) l3 = some (.lst ((r2 ++ x2).map V.int)) := by
          rw [upd_same, List.map_append, List.append_nil]
        exact q t2 l3 _ (s3.trans (sameAt (Same.refl _) ht2)) upd_same (sameAt (Same.refl _) ht2 _ _ hl4)
abbrev s_followed_both : Stmt := topS 63
theorem sc_followed_both : FnScope ["term", "world", "now", "first", "seen", "second", "more"] ["term", "world", "now"] (defScope s_followed_both) := ⟨rfl, rfl, rfl, by decide +kernel, rfl, by decide +kernel, by decide +kernel⟩
theorem ok_fboth {f : Addr} {fd : FuncData} {d : Nat} (F : Fun K "followed_both" "followed_both" s_followed_both f fd) (B : Blt mg) (T : TF K mg C) (D : TD C) (G : A2 P w K mg base C CW d) : FnOk P w K mg base CX0 (2 * d + 5) f fd ["term", "world", "now"] (spBoth C CW d) := by
  obtain ⟨t_cl, t_no, t_ty, t_one, c_Now, c_Last, c_Next, c_Shift, c_Either, c_Later, c_Earlier⟩ := id T
  refine F.ok sc_followed_both (fun vs H Q E h => ?_) (fun cdv A outer s H vs Q E hr h => ?_)
  · obtain ⟨a, b, t, u, x, W, now, rfl, _⟩ := h
    rfl
  · obtain ⟨a, b, t, u, x, W, now, rfl, hT, hx, hW, hN, hN2, hF, hF2, hd, hd2, q⟩ := h
    refine ⟨_, (pss_cons (ps_asg (pe_cal G.followed (hr.mono (by omega)) pass0 (pa_cons (pe_fld (pv 0) rfl) (pa_cons (pv 1) (pa_cons (pv 2) pa_nil)))) (pg_tup (by rfl) (pgs_cons (pg_name (i := 3) sc_followed_both.nd rfl (Or.inl rfl)) (pgs_cons (pg_name (i := 4) sc_followed_both.nd rfl (Or.inl rfl)) pgs_nil))))
    (pss_cons (ps_if (pt_cmpR op_isN (pv 3) pe_non (nomark _))
      (pss_one (ps_ret (pe_tup (pa_cons pe_non (pa_cons (pv 4) pa_nil)))))
      pss_nil)
    (pss_cons (ps_asg (pe_cal G.followed (hr.mono (by omega)) pass0 (pa_cons (pe_fld (pv 0) rfl) (pa_cons (pv 1) (pa_cons (pv 2) pa_nil)))) (pg_tup (by rfl) (pgs_cons (pg_name (i := 5) sc_followed_both.nd rfl (Or.inl rfl)) (pgs_cons (pg_name (i := 6) sc_followed_both.nd rfl (Or.inl rfl)) pgs_nil))))
    (pss_cons (ps_set (i := 4) sc_followed_both.nd rfl (Or.inl rfl) (pe_lst (StX.pa_star (pv 4) (StX.pa_star (pv 6) pa_nil))))
    (pss_cons (ps_if (pt_cmpR op_isN (pv 5) pe_non (nomark _))
      (pss_one (ps_ret (pe_tup (pa_cons pe_non (pa_cons (pv 4) pa_nil)))))
      pss_nil)
    (pss_cons (ps_if (pt_val (pe_callB call_isi (by rfl) B.isinstance (by decide +kernel) (pa_cons (pv 0) (pa_cons (pe_glob (v := .ref C.later) (by rfl) c_Later rfl) pa_nil))))
      (pss_one (ps_ret (pe_tup (pa_cons (pe_callB (call_max2 rfl) (by rfl) B.max (by decide +kernel) (pa_cons (pv 3) (pa_cons (pv 5) pa_nil))) (pa_cons (pv 4) pa_nil)))))
      pss_nil)
    (pss_one (ps_ret (pe_tup (pa_cons (pe_callB (call_min2 rfl) (by rfl) B.min (by decide +kernel) (pa_cons (pv 3) (pa_cons (pv 5) pa_nil))) (pa_cons (pv 4) pa_nil))))))))))), ?_⟩
    obtain ⟨dx, c1, c2, sp, h1, h3, h4⟩ := hT.two (.inr hx)
    refine ⟨_, rfl, a, _, dx, _, _, rfl, h1, T.cl _ (C.is_of _), T.no _ (C.is_of _) _ (by decide +kernel), rfl, _, rfl, _, rfl, c1, b, t, W, now, rfl, h3, hW, hN, hF, hd, fun q1 l H1 s1 hq1 hl => ?_⟩
    have ln := ev_len (W := W) (now := now) t
    have ln2 := ev_len (W := W) (now := now) u
    have l12 := hF.2.2
    have l13 := hF2.2.2
    have q : Ans H Q (bothR (if C.of x = C.later then mxI else mnI) (ev W now t) (ev W now u)) := by
      have h := D.nd
      simp only [List.nodup_cons, List.mem_cons, List.not_mem_nil, or_false, not_or] at h
      rcases hx with rfl | rfl
      · rw [if_pos (show C.of (Tm.later t u) = C.later from rfl)]
        exact q
      · rw [if_neg (show ¬ C.of (Tm.earlier t u) = C.later from fun z => h.2.2.2.2.2.1 z.symm)]
        exact q
    have k := T.one (C.of x) C.later (C.is_of x) (C.is_of (.later t u))
    generalize ev W now t = r at q hq1 hl ln
    obtain ⟨r1, r2⟩ := r
    have ln : (r2.length : Int) ≤ t.lok := ln
    refine ⟨q1, _, rfl, SqT.of hq1, rfl, _, _, rfl, _, _, rfl, rfl, ?_⟩
    refine ⟨_, rfl, rfl, _, rfl, ?_⟩
    cases r1 with
    | none =>
      refine ite2 (fun _ => ?_) (fun c => absurd rfl c)
      exact ⟨_, rfl, (by show 2 ≤ sizeLine; decide), fun t2 ht2 => q t2 l _ (s1.trans (sameAt (Same.refl H1) ht2)) upd_same (sameAt (Same.refl H1) ht2 _ _ hl)⟩
    | some m =>
      refine ite2 (fun c => absurd (of_decide_eq_true c) (fun z => nomatch z)) (fun _ => ?_)
      refine ⟨_, rfl, a, _, dx, _, _, rfl, s1 _ _ h1, T.cl _ (C.is_of _), T.no _ (C.is_of _) _ (by decide +kernel), rfl, _, rfl, _, rfl, c2, b, u, W, now, rfl, h4.same s1, hW.same s1, hN2, hF2, hd2, fun q2 l2 H2 s2 hq2 hl2 => ?_⟩
      generalize ev W now u = r' at q hq2 hl2 ln2
      obtain ⟨x1, x2⟩ := r'
      have ln2 : (x2.length : Int) ≤ u.lok := ln2
      have s12 := s1.trans s2
      refine ⟨q2, _, rfl, SqT.of hq2, rfl, _, _, rfl, _, _, rfl, rfl, ?_⟩
      refine ⟨_, rfl, l, _, rfl, .inr (SqL.of (s2 _ _ hl)), _, rfl, l2, _, rfl, .inr (SqL.of hl2), ?_, fun l3 hl3 => ?_⟩
      · show (r2.map V.int ++ (x2.map V.int ++ [])).length ≤ sizeLine
        rw [List.length_append, List.length_append, List.length_map, List.length_map, sizeLine_eq]
        show r2.length + (x2.length + 0) ≤ _
        omega
      have s3 := s12.trans (sameAt (Same.refl H2) hl3 (o := .lst (r2.map V.int ++ (x2.map V.int ++ []))))
      have hl4 : upd H2 l3 (.lst (r2.map V.int ++ (x2.map V.int ++ []))) l3 = some (.lst ((r2 ++ x2).map V.int)) := by
        rw [upd_same, List.map_append, List.append_nil]
      refine ⟨_, rfl, rfl, _, rfl, ?_⟩
      cases x1 with
      | none =>
        refine ite2 (fun _ => ?_) (fun c => absurd rfl c)
        exact ⟨_, rfl, (by show 2 ≤ sizeLine; decide), fun t2 ht2 => q t2 l3 _ (s3.trans (sameAt (Same.refl _) ht2)) upd_same (sameAt (Same.refl _) ht2 _ _ hl4)⟩
      | some m2 =>
        refine ite2 (fun c => absurd (of_decide_eq_true c) (fun z => nomatch z)) (fun _ => ?_)
        refine ⟨_, rfl, _, _, _, _, _, rfl, .own _, T.tyx (hT.same s3), k, _, rfl, ?_⟩
        refine ite2 (fun cn => ?_) (fun cn => ?_)
        · rw [if_pos (of_decide_eq_true cn)] at q
          exact ⟨_, rfl, _, rfl, _, _, rfl, _, rfl, (by show 2 ≤ sizeLine; decide), fun t2 ht2 => q t2 l3 _ (s3.trans (sameAt (Same.refl _) ht2)) upd_same (sameAt (Same.refl _) ht2 _ _ hl4)⟩
        · rw [if_neg (fun z => cn (decide_eq_true z))] at q
          exact ⟨_, rfl, _, rfl, _, _, rfl, _, rfl, (by show 2 ≤ sizeLine; decide), fun t2 ht2 => q t2 l3 _ (s3.trans (sameAt (Same.refl _) ht2)) upd_same (sameAt (Same.refl _) ht2 _ _ hl4)⟩
structure A3 (P : Program) (w : World) (K : PySem.W.Frag) (mg : Str → Option Value) (base : Heap) (C : TC) (CW : Addr) (d : Nat) : Prop extends A2 P w K mg base C CW d where
  moved : Cal P w K mg base CX0 "moved" (2 * d + 5) ["shift", "world", "now"] (spMoved C CW d)
  looked : Cal P w K mg base CX0 "looked" (2 * d + 5) ["question", "world", "now", "place"] (spLooked C CW d)
  followed_either : Cal P w K mg base CX0 "followed_either" (2 * d + 5) ["term", "world", "now"] (spEith C CW d)
  followed_both : Cal P w K mg base CX0 "followed_both" (2 * d + 5) ["term", "world", "now"] (spBoth C CW d)
abbrev s_followed : Stmt := topS 59
theorem sc_followed : FnScope ["term", "world", "now"] ["term", "world", "now"] (defScope s_followed) := ⟨rfl, rfl, rfl, by decide +kernel, rfl, by decide +kernel, by decide +kernel⟩
theorem ok_followed {f : Addr} {fd : FuncData} {d : Nat} (F : Fun K "followed" "followed" s_followed f fd) (B : Blt mg) (Cs : Cst mg) (T : TF K mg C) (D : TD C) (G : A3 P w K mg base C CW d) : FnOk P w K mg base CX0 (2 * (d + 1) + 4) f fd ["term", "world", "now"] (spFol C CW (d + 1)) := by
  obtain ⟨t_cl, t_no, t_ty, t_one, c_Now, c_Last, c_Next, c_Shift, c_Either, c_Later, c_Earlier⟩ := id T
  obtain ⟨t1, g_MOMENT⟩ := Cs.k_MOMENT
  refine F.ok sc_followed (fun vs H Q E h => ?_) (fun cdv A outer s H vs Q E hr h => ?_)
  · obtain ⟨a, b, t, W, now, rfl, _⟩ := h
    rfl
  · obtain ⟨a, b, t, W, now, rfl, hT, hW, hN, hF, hd, q⟩ := h
    refine ⟨_, (pss_cons (ps_if (pt_val (pe_callB call_isi (by rfl) B.isinstance (by decide +kernel) (pa_cons (pv 0) (pa_cons (pe_glob (v := .ref C.now) (by rfl) c_Now rfl) pa_nil))))
      (pss_one (ps_ret (pe_tup (pa_cons (pv 2) (pa_cons (pe_lst pa_nil) pa_nil)))))
      pss_nil)
    (pss_cons (ps_if (pt_val (pe_cal G.is_look (hr.mono (by omega)) pass0 (pa_cons (pv 0) pa_nil)))
      (pss_one (ps_ret (pe_cal G.looked (hr.mono (by omega)) pass0 (pa_cons (pv 0) (pa_cons (pv 1) (pa_cons (pv 2) (pa_cons (pe_glob (v := .int 0) (by rfl) g_MOMENT ⟨_, rfl⟩) pa_nil)))))))
      pss_nil)
    (pss_cons (ps_if (pt_val (pe_callB call_isi (by rfl) B.isinstance (by decide +kernel) (pa_cons (pv 0) (pa_cons (pe_glob (v := .ref C.shift) (by rfl) c_Shift rfl) pa_nil))))
      (pss_one (ps_ret (pe_cal G.moved (hr.mono (by omega)) pass0 (pa_cons (pv 0) (pa_cons (pv 1) (pa_cons (pv 2) pa_nil))))))
      pss_nil)
    (pss_cons (ps_if (pt_val (pe_callB call_isi (by rfl) B.isinstance (by decide +kernel) (pa_cons (pv 0) (pa_cons (pe_glob (v := .ref C.either) (by rfl) c_Either rfl) pa_nil))))
      (pss_one (ps_ret (pe_cal G.followed_either (hr.mono (by omega)) pass0 (pa_cons (pv 0) (pa_cons (pv 1) (pa_cons (pv 2) pa_nil))))))
      pss_nil)
    (pss_one (ps_ret (pe_cal G.followed_both (hr.mono (by omega)) pass0 (pa_cons (pv 0) (pa_cons (pv 1) (pa_cons (pv 2) pa_nil)))))))))), ?_⟩
    have tx := T.tyx hT
    have k0 := T.one (C.of t) C.now (C.is_of t) (C.is_of .now)
    have k1 := fun n u => T.one (C.of t) C.shift (C.is_of t) (C.is_of (.shift n u))
    have k2 := fun x y => T.one (C.of t) C.either (C.is_of t) (C.is_of (.either x y))
    rw [D.now_ t] at k0
    have k1 := k1 0 .now
    have k2 := k2 .now .now
    rw [D.shift t] at k1
    rw [D.eith t] at k2
    refine ⟨_, rfl, _, _, _, _, _, rfl, .own _, tx, k0, _, rfl, ?_⟩
    cases t with
    | now =>
      exact iteT ⟨_, rfl, (by show 0 ≤ sizeLine; decide), fun l hl => ⟨(by show 2 ≤ sizeLine; decide), fun t2 ht2 => q t2 l _ ((sameAt (Same.refl H) hl).trans (sameAt (Same.refl _) ht2)) upd_same (sameAt (Same.refl _) ht2 _ _ upd_same)⟩⟩
    | last z u =>
      have hd : 1 + u.dep ≤ ((d + 1 : Nat) : Int) := hd
      exact iteF ⟨_, rfl, a, _, rfl, hT, fun H1 s1 => ⟨_, rfl, iteT ⟨_, rfl, _, rfl, _, rfl, a, b, u, .last z u, z, W, now, rfl, hT.same s1, .inl rfl, hW.same s1, hN.1, hN.2, hF.ofL, by omega, q.same s1⟩⟩⟩
    | next z u =>
      have hd : 1 + u.dep ≤ ((d + 1 : Nat) : Int) := hd
      exact iteF ⟨_, rfl, a, _, rfl, hT, fun H1 s1 => ⟨_, rfl, iteT ⟨_, rfl, _, rfl, _, rfl, a, b, u, .next z u, z, W, now, rfl, hT.same s1, .inr rfl, hW.same s1, hN.1, hN.2, hF.ofN, by omega, q.same s1⟩⟩⟩
    | shift n u =>
      have hd : 1 + u.dep ≤ ((d + 1 : Nat) : Int) := hd
      exact iteF ⟨_, rfl, a, _, rfl, hT, fun H1 s1 => ⟨_, rfl, iteF ⟨_, rfl, _, _, _, _, _, rfl, .own _, T.tyx (hT.same s1), k1, _, rfl, iteT ⟨_, rfl, _, rfl, _, rfl, a, b, u, W, now, n, rfl, hT.same s1, hW.same s1, hN, hF.ofS, by omega, q.same s1⟩⟩⟩⟩
    | either x y =>
      have hd : 1 + Tm.mx x.dep y.dep ≤ ((d + 1 : Nat) : Int) := hd
      have := Tm.mx_l x.dep y.dep
      have := Tm.mx_r x.dep y.dep
      exact iteF ⟨_, rfl, a, _, rfl, hT, fun H1 s1 => ⟨_, rfl, iteF ⟨_, rfl, _, _, _, _, _, rfl, .own _, T.tyx (hT.same s1), k1, _, rfl, iteF ⟨_, rfl, _, _, _, _, _, rfl, .own _, T.tyx (hT.same s1), k2, _, rfl, iteT ⟨_, rfl, _, rfl, _, rfl, a, b, x, y, W, now, rfl, hT.same s1, hW.same s1, hN.1, hN.2, hF.ofE.1, hF.ofE.2, by omega, by omega, q.same s1⟩⟩⟩⟩⟩
    | later x y =>
      have hd : 1 + Tm.mx x.dep y.dep ≤ ((d + 1 : Nat) : Int) := hd
      have := Tm.mx_l x.dep y.dep
      have := Tm.mx_r x.dep y.dep
      have hF' : (Tm.either x y).Fit := hF
      exact iteF ⟨_, rfl, a, _, rfl, hT, fun H1 s1 => ⟨_, rfl, iteF ⟨_, rfl, _, _, _, _, _, rfl, .own _, T.tyx (hT.same s1), k1, _, rfl, iteF ⟨_, rfl, _, _, _, _, _, rfl, .own _, T.tyx (hT.same s1), k2, _, rfl, iteF ⟨_, rfl, _, rfl, _, rfl, a, b, x, y, _, W, now, rfl, hT.same s1, .inl rfl, hW.same s1, hN.1, hN.2, hF'.ofE.1, hF'.ofE.2, by omega, by omega, q.same s1⟩⟩⟩⟩⟩
    | earlier x y =>
      have hd : 1 + Tm.mx x.dep y.dep ≤ ((d + 1 : Nat) : Int) := hd
      have := Tm.mx_l x.dep y.dep
      have := Tm.mx_r x.dep y.dep
      have hF' : (Tm.either x y).Fit := hF
      exact iteF ⟨_, rfl, a, _, rfl, hT, fun H1 s1 => ⟨_, rfl, iteF ⟨_, rfl, _, _, _, _, _, rfl, .own _, T.tyx (hT.same s1), k1, _, rfl, iteF ⟨_, rfl, _, _, _, _, _, rfl, .own _, T.tyx (hT.same s1), k2, _, rfl, iteF ⟨_, rfl, _, rfl, _, rfl, a, b, x, y, _, W, now, rfl, hT.same s1, .inr rfl, hW.same s1, hN.1, hN.2, hF'.ofE.1, hF'.ofE.2, by omega, by omega, q.same s1⟩⟩⟩⟩⟩
end
end Ash

set_option Elab.async false
set_option linter.all false
set_option maxRecDepth 100000
set_option maxHeartbeats 4000000
namespace Ash
open PySem PySem.Spec PyProof.Rows L2
/-! ### what the top has written -/
/-- a def of the top -/
structure D1 (K : PySem.W.Frag) (mg : Str → Option Value) (x : Str) (st : Stmt) : Prop where
  ex : ∃ (f : Addr) (fd : FuncData), mg x = some (.ref f) ∧ Fun K x x st f fd
/-- a method -/
structure DM (K : PySem.W.Frag) (C : Addr) (m qual : Str) (st : Stmt) : Prop where
  ex : ∃ (f : Addr) (fd : FuncData), Meth K C m f ∧ Fun K m qual st f fd
/-- a method at a known place -/
structure DQ (K : PySem.W.Frag) (C f : Addr) (m qual : Str) (st : Stmt) : Prop where
  ex : ∃ fd : FuncData, Meth K C m f ∧ Fun K m qual st f fd
/-- an __init__ with one default -/
structure DD (K : PySem.W.Frag) (C a : Addr) (qual : Str) (st : Stmt) : Prop where
  ex : ∃ (f : Addr) (fd : FuncData), Mk K C f ∧ FunD K "__init__" qual (defArgs st) (defBody st) (defScope st) [.ref a] [] f fd
section
variable {K : PySem.W.Frag} {h : Heap} {mg : Str → Option Value} {x qual : Str} {st : Stmt} {f C : Addr} {oc kV dc pm cdv ct : Value} {od an : Option Addr} {sl : Array (Option Value)}
theorem d1 (X : K.In h) (G : h.Ns mainGlobals mg) (a : PySem.W.nsIn K mainGlobals x = some (some (.ref f))) (l : K.lookup f = some ⟨oc, od, .func (PySem.W.fnOf x x (defArgs st) (defBody st) (defScope st) .none kV dc pm an cdv ct), sl⟩) (c : PySem.W.codeIn K cdv x = true) (k : PySem.W.keepIn K (.ref f) = true) : D1 K mg x st :=
  ⟨f, _, PySem.W.mg_of X G a, fun_mk l c k⟩
theorem dm (a : PySem.W.findIn K (.ref C) x = some (some (.ref f))) (i : PySem.W.isFn K (.ref f) = true) (l : K.lookup f = some ⟨oc, od, .func (PySem.W.fnOf x qual (defArgs st) (defBody st) (defScope st) .none kV dc pm an cdv ct), sl⟩) (c : PySem.W.codeIn K cdv qual = true) (k : PySem.W.keepIn K (.ref f) = true) : DM K C x qual st :=
  ⟨f, _, ⟨a, i, k⟩, fun_mk l c k⟩
theorem dq (a : PySem.W.findIn K (.ref C) x = some (some (.ref f))) (i : PySem.W.isFn K (.ref f) = true) (l : K.lookup f = some ⟨oc, od, .func (PySem.W.fnOf x qual (defArgs st) (defBody st) (defScope st) .none kV dc pm an cdv ct), sl⟩) (c : PySem.W.codeIn K cdv qual = true) (k : PySem.W.keepIn K (.ref f) = true) : DQ K C f x qual st :=
  ⟨_, ⟨a, i, k⟩, fun_mk l c k⟩
theorem dd {a T : Addr} {oT : Value} {dT : Option Addr} {slT : Array (Option Value)} {n : Nat} (m1 : PySem.W.makesIn K C = true) (m2 : PySem.W.findIn K (.ref C) "__init__" = some (some (.ref f))) (m3 : PySem.W.isFn K (.ref f) = true) (m4 : PySem.W.keepIn K (.ref C) = true)
    (l : K.lookup f = some ⟨oc, od, .func (PySem.W.fnOf "__init__" qual (defArgs st) (defBody st) (defScope st) (.ref T) kV dc pm an cdv ct), sl⟩) (lT : K.lookup T = some ⟨oT, dT, .seq #[.ref a] n, slT⟩) (c : PySem.W.codeIn K cdv qual = true) (k : PySem.W.keepIn K (.ref f) = true) : DD K C a qual st :=
  ⟨f, _, ⟨m1, m2, m3, m4⟩, ⟨⟨oc, od, .ref T, kV, dc, pm, an, cdv, ct, sl, rfl, l, c, .inr ⟨by simp, T, _, [.ref a], n, rfl, lT, rfl, .cons rfl .nil⟩, .inl rfl⟩, k⟩⟩
theorem sq_of {a : Addr} {d : Option Addr} {n : Nat} (l : K.lookup a = some ⟨.type "tuple", d, .seq #[] n, sl⟩) (H : Hp) : SqT K H a [] := .inr ⟨_, #[], n, l, rfl, rfl, Nat.zero_le _, .nil⟩
theorem tt_mk {a : Addr} {d : Option Addr} {n : Nat} (l : K.lookup a = some ⟨.type "tuple", d, .seq #[] n, sl⟩) : ∃ (o : Obj) (n : Nat), K.lookup a = some o ∧ o.cls = .type "tuple" ∧ o.data = .seq #[] n := ⟨_, n, l, rfl, rfl⟩
end
section
variable {P : Program} {w : World} {K : PySem.W.Frag} {mg : Str → Option Value} {base : Heap} {CX : CXT} {x : Str} {st : Stmt} {ps : List Str} {k : Nat} {sp : Sp}
theorem cal_of (D : D1 K mg x st) (hb : ∀ (kV doc pm : Value) (an : Option Addr) (cdv ct : Value) (us : List Value), us.length = ps.length → bindArgs (PySem.W.fnOf x x (defArgs st) (defBody st) (defScope st) .none kV doc pm an cdv ct) ⟨us, []⟩ = pure (ps.zip us))
    (ok : ∀ f fd, Fun K x x st f fd → FnOk P w K mg base CX k f fd ps sp) : Cal P w K mg base CX x k ps sp := by
  obtain ⟨f, fd, hm, F⟩ := D.ex
  exact ⟨f, fd, hm, F.kp, F.binds hb, ok f fd F⟩
end
/-- a class is what its instances are -/
structure BkI (K : PySem.W.Frag) (CB : Addr) : Prop where
  ha : PySem.W.findIn K (.ref CB) "__class__" = some (some (.builtin "object.__class__"))
  hn : PySem.W.specialIn K (.builtin "object.__class__") "__get__" = some (some (.builtin "getset_descriptor.__get__"))
  ht : PySem.W.takesIn K (.builtin "object.__class__") = some true
  hm : PySem.W.mroIn K CB (.type "object") = some true
theorem ne_mk {K : PySem.W.Frag} {C f N : Addr} {nm q : Str} {bs : List Value} {hd ab : Bool} {sn : List Str} {sub : List Value} {col : Option Bool} {dd : Option Addr} {k0 k1 k2 k3 k5 : Option Value} {nid : String} {fo : Obj} (h1 : K.lookup C = some (excClassObj nm q C N bs [.type "object"] hd sn sub ab col dd k0 k1 k2 k3 k5 nid)) {oN : Value} {dN : Option Addr} {es : Array DictEntry} {nn : Nat} {slN : Array (Option Value)} (h2 : K.lookup N = some ⟨oN, dN, .dict es nn, slN⟩) (h7 : (es.toList.all fun e => match e.key with | .str _ _ => true | _ => false) = true) (h3 : PySem.W.nsIn K N "__eq__" = some (some (.ref f))) (h4 : PySem.W.nsIn K N "__ne__" = some none) (h5 : K.lookup f = some fo) (h6 : fo.cls = .type "function") : NeC K C f :=
  ⟨⟨nm, q, N, bs, hd, sn, sub, ab, col, dd, k0, k1, k2, k3, k5, nid, fo, h1, by unfold PySem.W.nsOkIn; rw [h2]; exact (Array.all_toList ..).symm.trans h7, h3, h4, h5, h6⟩⟩
theorem kit_ref {K : PySem.W.Frag} {C : Addr} {T : String} {b : Bool} (hm : PySem.W.kitMeta T = true) (h : PySem.W.subIn K (.ref C) (.type T) = some b) : PySem.W.kitOne K (.ref C) (.type T) = some b := by
  have e : (Value.ref C == Value.type T) = false := rfl
  unfold PySem.W.kitOne PySem.W.kitCls
  rw [e, if_neg Bool.false_ne_true]
  show (if PySem.W.kitMeta T = true then _ else _) = _
  rw [if_pos hm]
  exact h
theorem exm_me {K : PySem.W.Frag} {C : Addr} (h1 : PySem.W.subIn K (.ref C) (.type "BaseException") = some true) (h2 : PySem.W.isClsIn K C = true) (h3 : PySem.W.typeIn K (.ref C) = some (.type "type")) (h4 : PySem.W.subIn K (.ref C) (.ref C) = some true) : PySem.W.exmOne K (.ref C) (.ref C) = some true := by
  have h2' : (PySem.W.clsIn K C).isSome = true := h2
  simp [PySem.W.exmOne, PySem.W.kitCls, h1, h2', h3, h4]
theorem exm_no {K : PySem.W.Frag} {C D : Addr} (h1 : PySem.W.subIn K (.ref D) (.type "BaseException") = some true) (h2 : PySem.W.isClsIn K D = true) (h3 : PySem.W.typeIn K (.ref D) = some (.type "type")) (h4 : PySem.W.subIn K (.ref C) (.ref D) = some false) : PySem.W.exmOne K (.ref C) (.ref D) = some false := by
  have h2' : (PySem.W.clsIn K D).isSome = true := h2
  simp [PySem.W.exmOne, PySem.W.kitCls, h1, h2', h3, h4]
open PySem.W PySem.Calls PySem.HandSPX in
/-- the facts of an own error's class -/
theorem txt_mk {P : Program} {K : PySem.W.Frag} {h : Heap} {mg : Str → Option Value} {par fl : Str} {C fI N cda cc : Addr} {nm q qual tx file : Str} {bs bm sub : List Value} {sn : List Str} {ab : Bool} {col : Option Bool} {dd : Option Addr} {m0 m1 m2 m3 m5 : Option Value}
    {oc doc pm ct ccl cl : Value} {od an cdd cld : Option Addr} {osl ccs csl : Array (Option Value)} {vs : Array Value} {pa : Arguments} {p0 p1 p2 p3 p4 p5 p6 p7 p8 p9 : Pos} {j : Nat} {a0 : Arg} {tf : Nat} (X : K.In h) (G : h.Ns mainGlobals mg)
    (cls : K.lookup C = some (excClassObj nm q C N bs bm true sn sub ab col dd m0 m1 m2 m3 m5 "ValueError.__new__")) (ref : PySem.HandSPX.refsVE bm = true)
    (sa : PySem.W.findIn K (.ref C) "__setattr__" = some (some (.builtin "object.__setattr__"))) (ga : PySem.W.findIn K (.ref C) "__getattribute__" = some (some (.builtin "BaseException.__getattribute__"))) (gg : PySem.W.findIn K (.ref C) "__getattr__" = some none) (noN : PySem.W.findIn K (.ref C) fl = some none)
    (iC : PySem.W.findIn K (.ref C) "__init__" = some (some (.ref fI))) (tC : PySem.W.typeIn K (.ref fI) = some (.type "function")) (kC : PySem.W.keepIn K (.ref C) = true) (exC : PySem.W.subIn K (.ref C) (.type "BaseException") = some true) (veC : PySem.W.subIn K (.ref C) (.type "ValueError") = some true)
    (slf : PySem.W.mroIn K C (.ref C) = some true) (tyC : PySem.W.typeIn K (.ref C) = some (.type "type")) (hdC : PySem.W.hasDictIn K C = true) (isC : PySem.W.isClsIn K C = true) (sC : PySem.W.subIn K (.ref C) (.ref C) = some true)
    (along : PySem.W.ks_superIn K C C "__init__" = some (some (.builtin "ValueError.__init__"))) (opq : PySem.W.nsIn K cStatics "thirdparty.any" = some none) (sup : PySem.W.nsIn K mainGlobals "super" = some none) (top : (P.main.scope.names.lookup ("super" : Str)).isSome = false)
    (lf : K.lookup fI = some ⟨oc, od, .func (PySem.W.ksFn "__init__" qual pa (PySem.BadX.shape tx par fl p0 p1 p2 p3 p4 p5 p6 p7 p8 p9 j) (PySem.BadX.sco par) .none .none doc pm an (.ref cda) ct cc), osl⟩) (cd : PySem.W.codeIn K (.ref cda) qual = true) (ha0 : (pa.posonlyargs ++ pa.args).head? = some a0) (ha1 : a0.arg = "self")
    (bd : ∀ (s : Shared) (u v : Value), BindsTo s (PySem.W.ksFn "__init__" qual pa (PySem.BadX.shape tx par fl p0 p1 p2 p3 p4 p5 p6 p7 p8 p9 j) (PySem.BadX.sco par) .none .none doc pm an (.ref cda) ct cc) ⟨[u, v], []⟩ [("self", u), (par, v)])
    (lc : K.lookup cda = some ⟨ccl, cdd, .fields vs, ccs⟩) (hvs : vs[2]? = some (.str file tf)) (hfile : ((P.main.file : Str) == file) = true) (hpe : (p2.endLine == p4.line) = true) (lcc : K.lookup cc = some ⟨cl, cld, .cell (some (.ref C)), csl⟩) : PySem.BadX.Txt P K mg par fl C fI :=
  { cls := ⟨nm, q, N, bs, bm, sn, sub, ab, col, dd, m0, m1, m2, m3, m5, cls, ref⟩, sa := sa, ga := ga, gg := gg, noN := noN, iC := iC, tC := tC, kC := kC, exC := exC, veC := veC, slf := slf, tyC := tyC, hdC := hdC, te := exm_me exC isC tyC sC, along := along, opq := opq, sup := PySem.W.mg_none_of X G sup, top := top,
    fn := ⟨oc, od, qual, tx, doc, pm, an, cda, cc, ct, osl, pa, p0, p1, p2, p3, p4, p5, p6, p7, p8, p9, j, a0, lf, cd, ha0, ha1, bd, ⟨ccl, cdd, vs, ccs, file, tf, lc, hvs, hfile⟩, hpe, ⟨cl, cld, csl, lcc⟩⟩ }
theorem ex_int {K : PySem.W.Frag} {h : Heap} {mg : Str → Option Value} {x : Str} {n : Int} {t : Tok} (X : K.In h) (G : h.Ns mainGlobals mg) (a : PySem.W.nsIn K mainGlobals x = some (some (.int n t))) : ∃ t, mg x = some (.int n t) := ⟨_, PySem.W.mg_of X G a⟩
theorem ex_str {K : PySem.W.Frag} {h : Heap} {mg : Str → Option Value} {x z : Str} {t : Tok} (X : K.In h) (G : h.Ns mainGlobals mg) (a : PySem.W.nsIn K mainGlobals x = some (some (.str z t))) : ∃ t, mg x = some (.str z t) := ⟨_, PySem.W.mg_of X G a⟩
end Ash

set_option Elab.async false
set_option linter.all false
set_option maxRecDepth 100000
set_option maxHeartbeats 4000000
namespace Ash
open PySem PySem.Spec PyProof.Rows L2 SrtT
open C8 (pss_cut)
section
variable {P : Program} {w : World} {K : PySem.W.Frag} {mg : Str → Option Value} {base : Heap} {C : TC} {CW : Addr}
theorem ok_fol0 {f : Addr} {fd : FuncData} (F : Fun K "followed" "followed" s_followed f fd) : FnOk P w K mg base CX0 (2 * 0 + 4) f fd ["term", "world", "now"] (spFol C CW 0) := by
  refine F.ok sc_followed (fun vs H Q E h => ?_) (fun cdv A outer s H vs Q E hr h => ?_)
  · obtain ⟨a, b, t, W, now, rfl, _⟩ := h
    rfl
  · obtain ⟨a, b, t, W, now, rfl, _, _, _, _, hd, _⟩ := h
    have := t.dep_pos
    have hd : t.dep ≤ 0 := hd
    omega
theorem fol_all (B : Blt mg) (Cs : Cst mg) (T : TF K mg C) (D : TD C) (G : A1 P w K mg base C CW) (d1 : D1 K mg "moved" s_moved) (d2 : D1 K mg "looked" s_looked) (d3 : D1 K mg "followed_either" s_followed_either) (d4 : D1 K mg "followed_both" s_followed_both) (d5 : D1 K mg "followed" s_followed) : ∀ d, A2 P w K mg base C CW d
  | 0 => { G with followed := cal_of d5 (fun _ _ _ _ _ _ us hl => match us, hl with | [_, _, _], _ => rfl) fun f fd F => ok_fol0 F }
  | d + 1 => by
    have g := fol_all B Cs T D G d1 d2 d3 d4 d5 d
    have c1 := cal_of (P := P) (w := w) (base := base) (ps := ["shift", "world", "now"]) d1 (fun _ _ _ _ _ _ us hl => match us, hl with | [_, _, _], _ => rfl) fun f fd F => ok_moved F B T g
    have c2 := cal_of (P := P) (w := w) (base := base) (ps := ["question", "world", "now", "place"]) d2 (fun _ _ _ _ _ _ us hl => match us, hl with | [_, _, _, _], _ => rfl) fun f fd F => ok_looked F B T D g
    have c3 := cal_of (P := P) (w := w) (base := base) (ps := ["term", "world", "now"]) d3 (fun _ _ _ _ _ _ us hl => match us, hl with | [_, _, _], _ => rfl) fun f fd F => ok_feither F B T g
    have c4 := cal_of (P := P) (w := w) (base := base) (ps := ["term", "world", "now"]) d4 (fun _ _ _ _ _ _ us hl => match us, hl with | [_, _, _], _ => rfl) fun f fd F => ok_fboth F B T D g
    have g3 : A3 P w K mg base C CW d := { g with moved := c1, looked := c2, followed_either := c3, followed_both := c4 }
    exact { G with followed := cal_of d5 (fun _ _ _ _ _ _ us hl => match us, hl with | [_, _, _], _ => rfl) fun f fd F => ok_followed F B Cs T D g3 }
abbrev s_Term_add : Stmt := inClass (topS 21) 1
theorem sc_Term_add : FnScope ["self", "other"] ["self", "other"] (defScope s_Term_add) := ⟨rfl, rfl, rfl, by decide +kernel, rfl, by decide +kernel, by decide +kernel⟩
structure V3 (P : Program) (w : World) (K : PySem.W.Frag) (mg : Str → Option Value) (base : Heap) (C : TC) (CW : Addr) : Prop extends A2 P w K mg base C CW 12 where
  shifted : Cal P w K mg base CX0 "shifted" 4 ["term", "amount"] (spShifted C)
theorem ok_tadd {f : Addr} {fd : FuncData} (F : Fun K "__add__" "Term.__add__" s_Term_add f fd) (B : Blt mg) (G : V3 P w K mg base C CW) : FnOk P w K mg base CX0 5 f fd ["self", "other"] (spShifted C) := by
  refine F.ok sc_Term_add (fun vs H Q E h => ?_) (fun cdv A outer s H vs Q E hr h => ?_)
  · obtain ⟨a, t, n, rfl, _⟩ := h
    rfl
  · obtain ⟨a, t, n, rfl, hT, hF, q⟩ := h
    refine ⟨_, (pss_cons (ps_if (pt_not (pt_val (pe_cal G.is_integer (hr.mono (by decide)) pass0 (pa_cons (pv 1) pa_nil))))
      (pss_one ps_never)
      pss_nil)
    (pss_one (ps_ret (pe_cal G.shifted (hr.mono (by decide)) pass0 (pa_cons (pv 0) (pa_cons (pv 1) pa_nil)))))), ?_⟩
    exact ⟨_, rfl, _, rfl, .inl ⟨n, rfl, _, rfl, iteF ⟨_, rfl, _, rfl, a, t, n, rfl, hT, hF, q⟩⟩⟩
end
end Ash

set_option Elab.async false
set_option linter.all false
set_option maxRecDepth 100000
set_option maxHeartbeats 4000000
namespace Ash
open PySem PySem.Spec PyProof.Rows L2 SrtT
open C8 (pss_cut)
/-! ### amounts -/
inductive Am where
  | number (s : Str) (t : Tm)
  | count (s : Str) (t u : Tm)
  | total (s : Str) (t u : Tm)
  | gap (t u : Tm)
structure AC where
  number : Addr
  count : Addr
  total : Addr
  gap : Addr
def AC.of (A : AC) : Am → Addr
  | .number _ _ => A.number
  | .count _ _ _ => A.count
  | .total _ _ _ => A.total
  | .gap _ _ => A.gap
def AC.Is (A : AC) (a : Addr) : Prop := a = A.number ∨ a = A.count ∨ a = A.total ∨ a = A.gap
theorem AC.is_of (A : AC) (q : Am) : A.Is (A.of q) := by
  cases q
  · exact .inl rfl
  · exact .inr (.inl rfl)
  · exact .inr (.inr (.inl rfl))
  · exact .inr (.inr (.inr rfl))
def Am.spell : Am → List V
  | .number s t => .str "number" :: .str s :: t.spell
  | .count s t u => .str "count" :: .str s :: (t.spell ++ u.spell)
  | .total s t u => .str "total" :: .str s :: (t.spell ++ u.spell)
  | .gap t u => .str "gap" :: (t.spell ++ u.spell)
/-- the amount question q at a -/
def AmAt (A : AC) (C : TC) (H : Hp) (a : Addr) : Am → Prop
  | .number s t => ∃ dx b sp, H a = some (.ins A.number dx [("stream", .str s), ("term", .ref b), ("spelling", .ref sp)]) ∧ H sp = some (.tup (Am.spell (.number s t))) ∧ TmAt C H b t
  | .count s t u => ∃ dx b c sp, H a = some (.ins A.count dx [("stream", .str s), ("first", .ref b), ("last", .ref c), ("spelling", .ref sp)]) ∧ H sp = some (.tup (Am.spell (.count s t u))) ∧ TmAt C H b t ∧ TmAt C H c u
  | .total s t u => ∃ dx b c sp, H a = some (.ins A.total dx [("stream", .str s), ("first", .ref b), ("last", .ref c), ("spelling", .ref sp)]) ∧ H sp = some (.tup (Am.spell (.total s t u))) ∧ TmAt C H b t ∧ TmAt C H c u
  | .gap t u => ∃ dx b c sp, H a = some (.ins A.gap dx [("first", .ref b), ("last", .ref c), ("spelling", .ref sp)]) ∧ H sp = some (.tup (Am.spell (.gap t u))) ∧ TmAt C H b t ∧ TmAt C H c u
theorem AmAt.nl {A : AC} {C : TC} {H H' : Hp} (n : NL H H') {a : Addr} : ∀ {q : Am}, AmAt A C H a q → AmAt A C H' a q
  | .number _ _, ⟨dx, b, sp, h1, h2, h3⟩ => ⟨dx, b, sp, n _ _ h1 (fun _ z => nomatch z), n _ _ h2 (fun _ z => nomatch z), h3.nl n⟩
  | .count _ _ _, ⟨dx, b, c, sp, h1, h2, h3, h4⟩ => ⟨dx, b, c, sp, n _ _ h1 (fun _ z => nomatch z), n _ _ h2 (fun _ z => nomatch z), h3.nl n, h4.nl n⟩
  | .total _ _ _, ⟨dx, b, c, sp, h1, h2, h3, h4⟩ => ⟨dx, b, c, sp, n _ _ h1 (fun _ z => nomatch z), n _ _ h2 (fun _ z => nomatch z), h3.nl n, h4.nl n⟩
  | .gap _ _, ⟨dx, b, c, sp, h1, h2, h3, h4⟩ => ⟨dx, b, c, sp, n _ _ h1 (fun _ z => nomatch z), n _ _ h2 (fun _ z => nomatch z), h3.nl n, h4.nl n⟩
theorem AmAt.same {A : AC} {C : TC} {H H' : Hp} {a : Addr} {q : Am} (h : AmAt A C H a q) (s : Same H H') : AmAt A C H' a q := h.nl (nl_same s)
abbrev AATTRS : List Str := ["stream", "term", "first", "last", "spelling"]
/-- the facts of the classes of amounts -/
structure AF (K : PySem.W.Frag) (mg : Str → Option Value) (A : AC) (C : TC) : Prop where
  cl : ∀ a, A.Is a → Cls K a
  no : ∀ a, A.Is a → ∀ f ∈ AATTRS, NoAttr K a f
  ty : ∀ a, A.Is a → PySem.W.findIn K (.ref a) "__class__" = some (some (.builtin "object.__class__")) ∧ PySem.W.specialIn K (.builtin "object.__class__") "__get__" = some (some (.builtin "getset_descriptor.__get__")) ∧ PySem.W.takesIn K (.builtin "object.__class__") = some true ∧ PySem.W.mroIn K a (.type "object") = some true
  one : ∀ a b, A.Is a → A.Is b → PySem.W.kitOne K (.ref a) (.ref b) = some (decide (a = b))
  noT : ∀ a b, A.Is a → C.Is b → PySem.W.kitOne K (.ref a) (.ref b) = some false
  Number : mg "Number" = some (.ref A.number)
  Count : mg "Count" = some (.ref A.count)
  Total : mg "Total" = some (.ref A.total)
  Gap : mg "Gap" = some (.ref A.gap)
  nd : [A.number, A.count, A.total, A.gap].Nodup
theorem AmAt.ins {A : AC} {C : TC} {H : Hp} {a : Addr} : ∀ {q : Am}, AmAt A C H a q → ∃ dx fs, H a = some (.ins (A.of q) dx fs)
  | .number _ _, ⟨dx, b, sp, h1, _⟩ => ⟨dx, _, h1⟩
  | .count _ _ _, ⟨dx, b, c, sp, h1, _⟩ => ⟨dx, _, h1⟩
  | .total _ _ _, ⟨dx, b, c, sp, h1, _⟩ => ⟨dx, _, h1⟩
  | .gap _ _, ⟨dx, b, c, sp, h1, _⟩ => ⟨dx, _, h1⟩
theorem AF.tyx {K : PySem.W.Frag} {mg : Str → Option Value} {A : AC} {C : TC} (T : AF K mg A C) {H : Hp} {a : Addr} {q : Am} (h : AmAt A C H a q) : TyX K H (.ref a) (.ref (A.of q)) := by
  obtain ⟨dx, fs, i⟩ := h.ins
  obtain ⟨h1, h2, h3, h4⟩ := T.ty _ (A.is_of q)
  exact .base (.ins i (T.cl _ (A.is_of q)) h1 h2 h3 h4)
/-- an amount question is no term -/
theorem AF.noTm {K : PySem.W.Frag} {mg : Str → Option Value} {A : AC} {C : TC} (T : AF K mg A C) {H : Hp} {a : Addr} {q : Am} (h : AmAt A C H a q) : NotTm K C H (.ref a) := ⟨_, T.tyx h, fun b hb => T.noT _ _ (A.is_of q) hb⟩
/-! ### what an amount question answers -/
def lookA (r : Rs) (f : Int → Option T3) : Rs := match r.1 with
  | none => (none, r.2)
  | some m => match f m with
    | none => (none, r.2)
    | some t => (some t.2.2, r.2 ++ [t.2.1])
def betweenR (rs : List T3) (lo hi : Int) : List T3 := rs.filter fun t => decide (lo < t.1 ∧ t.1 ≤ hi)
def tellR (r s : Rs) (g : Int → Int → Rs) : Rs := match r.1 with
  | none => (none, r.2)
  | some m => match s.1 with
    | none => (none, r.2 ++ s.2)
    | some k => ((g m k).1, r.2 ++ s.2 ++ (g m k).2)
def evA (W : Tr) (now : Int) : Am → Rs
  | .number s t => lookA (ev W now t) (lastR (W s))
  | .count s t u => tellR (ev W now t) (ev W now u) fun m k => (some ((betweenR (W s) m k).length : Int), (betweenR (W s) m k).map (·.2.1))
  | .total s t u => tellR (ev W now t) (ev W now u) fun m k => (some ((betweenR (W s) m k).map (·.2.2)).sum, (betweenR (W s) m k).map (·.2.1))
  | .gap t u => tellR (ev W now t) (ev W now u) fun m k => (some (k - m), [])
def Am.NmS : Am → Prop
  | .number s t => IsNm s ∧ t.NmS
  | .count s t u => IsNm s ∧ t.NmS ∧ u.NmS
  | .total s t u => IsNm s ∧ t.NmS ∧ u.NmS
  | .gap t u => t.NmS ∧ u.NmS
def Am.Fit : Am → Prop
  | .number _ t => t.Fit
  | .count _ t u => t.Fit ∧ u.Fit
  | .total _ t u => t.Fit ∧ u.Fit
  | .gap t u => t.Fit ∧ u.Fit
def spInitN (A : AC) (C : TC) : Sp := fun vs H Q _ => ∃ (b dx a : Addr) (z : Str) (t : Tm), vs = [.ref b, .str z, .ref a] ∧ H b = some (.ins A.number dx []) ∧ IsNm z ∧ TmAt C H a t ∧ t.Fit ∧ ∀ H', AmAt A C H' b (.number z t) → Keep b H H' → Q .non H'
def spInitC (A : AC) (C : TC) (D : Addr) (mk : Str → Tm → Tm → Am) : Sp := fun vs H Q _ => ∃ (b dx a c : Addr) (z : Str) (t u : Tm), vs = [.ref b, .str z, .ref a, .ref c] ∧ H b = some (.ins D dx []) ∧ IsNm z ∧ TmAt C H a t ∧ TmAt C H c u ∧ t.Fit ∧ u.Fit ∧ ∀ H', AmAt A C H' b (mk z t u) → Keep b H H' → Q .non H'
def spInitG (A : AC) (C : TC) : Sp := fun vs H Q _ => ∃ (b dx a c : Addr) (t u : Tm), vs = [.ref b, .ref a, .ref c] ∧ H b = some (.ins A.gap dx []) ∧ TmAt C H a t ∧ TmAt C H c u ∧ t.Fit ∧ u.Fit ∧ ∀ H', AmAt A C H' b (.gap t u) → Keep b H H' → Q .non H'
def spIsAmount (A : AC) (C : TC) : Sp := fun vs H Q _ => ∃ a q, vs = [.ref a] ∧ AmAt A C H a q ∧ ∀ H', Same H H' → Q (.bl true) H'
section
variable {P : Program} {w : World} {K : PySem.W.Frag} {mg : Str → Option Value} {base : Heap} {C : TC} {CW : Addr} {A0 : AC}
theorem len3 {a b : V} {f g h : Str} {x y z : V} : putF h z (putF g y (putF f x [])) = [(f, x), (g, y), (h, z)] ∨ True := .inr trivial
abbrev s_Number_init : Stmt := inClass (topS 39) 0
theorem sc_Number_init : FnScope ["self", "stream", "term"] ["self", "stream", "term"] (defScope s_Number_init) := ⟨rfl, rfl, rfl, by decide +kernel, rfl, by decide +kernel, by decide +kernel⟩
theorem ok_number {f : Addr} {fd : FuncData} (F : Fun K "__init__" "Number.__init__" s_Number_init f fd) (B : Blt mg) (T : TF K mg C) (AT : AF K mg A0 C) (G : T2 P w K mg base C) : FnOk P w K mg base CX0 3 f fd ["self", "stream", "term"] (spInitN A0 C) := by
  refine F.ok sc_Number_init (fun vs H Q E h => ?_) (fun cdv A outer s H vs Q E hr h => ?_)
  · obtain ⟨b, dx, a, z, t, rfl, _⟩ := h
    rfl
  · obtain ⟨b, dx, a, z, t, rfl, hb, hz, hT, hF, q⟩ := h
    refine ⟨_, (pss_cons (ps_fld (pv 0) (pe_cal G.checked_stream (hr.mono (by decide)) pass0 (pa_cons (pv 1) pa_nil)) rfl)
    (pss_cons (ps_fld (pv 0) (pe_cal G.checked_term (hr.mono (by decide)) pass0 (pa_cons (pv 2) pa_nil)) rfl)
    (pss_one (ps_fld (pv 0) (pe_tup (pa_cons pe_str (pa_cons (pv 1) (StX.pa_star (pe_fld (pv 2) rfl) pa_nil)))) rfl)))), ?_⟩
    obtain ⟨D, hD⟩ : ∃ D, D = A0.number := ⟨_, rfl⟩
    have Is : A0.Is D := .inl hD
    rw [← hD] at hb
    refine ⟨_, rfl, z, rfl, hz, fun H1 s1 => ⟨_, rfl, b, D, dx, [], rfl, s1 _ _ hb, AT.cl _ Is, AT.no _ Is _ (by decide +kernel), (by show 0 < 1000; decide), ?_⟩⟩
    have K1 : Keep b H (upd H1 b (.ins D dx (putF "stream" (.str z) []))) := (Keep.refl.same s1).upd
    refine ⟨_, rfl, a, t, rfl, hT.off hb K1, fun H2 s2 => ⟨_, rfl, b, D, dx, _, rfl, s2 _ _ upd_same, AT.cl _ Is, AT.no _ Is _ (by decide +kernel), (by show 1 < 1000; decide), ?_⟩⟩
    have K2 : Keep b H (upd H2 b (.ins D dx (putF "term" (.ref a) (putF "stream" (.str z) [])))) := (K1.same s2).upd
    obtain ⟨dx1, fs1, sp1, In⟩ := (hT.off hb K2).in_
    have sl := Tm.spell_len t
    have hF2 : t.par ≤ 40 := hF.2.1
    refine ⟨_, rfl, _, rfl, _, _, dx1, fs1, _, rfl, In.at_, T.cl _ (C.is_of _), T.no _ (C.is_of _) _ (by decide +kernel), In.spelling, sp1, _, rfl, .inl (SqT.of In.spl), ?_, fun sp hsp => ⟨_, rfl, b, D, dx, _, rfl, sameAt (Same.refl _) hsp _ _ upd_same, AT.cl _ Is, AT.no _ Is _ (by decide +kernel), (by show 2 < 1000; decide), ?_⟩⟩
    · show (t.spell ++ []).length + 1 + 1 ≤ sizeLine
      rw [sizeLine_eq, List.append_nil]
      omega
    have sb : sp ≠ b := fun z => by rw [z, upd_same] at hsp; cases hsp
    have K3 := (K2.at hsp (u := .tup (.str "number" :: .str z :: (t.spell ++ [])))).upd (u := .ins D dx (putF "spelling" (.ref sp) (putF "term" (.ref a) (putF "stream" (.str z) []))))
    refine q _ ⟨dx, a, sp, ?_, ?_, hT.off hb K3⟩ K3
    · rw [upd_same, putF_no (fs := putF "term" (.ref a) (putF "stream" (.str z) [])) (by rw [pre2 (by decide +kernel)]; rfl), pre2 (by decide +kernel), hD]
      rfl
    · rw [upd_ne sb, upd_same]
      simp [Am.spell]
abbrev s_Count_init : Stmt := inClass (topS 40) 0
theorem sc_Count_init : FnScope ["self", "stream", "first", "last"] ["self", "stream", "first", "last"] (defScope s_Count_init) := ⟨rfl, rfl, rfl, by decide +kernel, rfl, by decide +kernel, by decide +kernel⟩
theorem ok_count {f : Addr} {fd : FuncData} (F : Fun K "__init__" "Count.__init__" s_Count_init f fd) (B : Blt mg) (T : TF K mg C) (AT : AF K mg A0 C) (G : T2 P w K mg base C) : FnOk P w K mg base CX0 3 f fd ["self", "stream", "first", "last"] (spInitC A0 C A0.count Am.count) := by
  refine F.ok sc_Count_init (fun vs H Q E h => ?_) (fun cdv A outer s H vs Q E hr h => ?_)
  · obtain ⟨b, dx, a, c, z, t, u, rfl, _⟩ := h
    rfl
  · obtain ⟨b, dx, a, c, z, t, u, rfl, hb, hz, hT, hU, hF, hG, q⟩ := h
    refine ⟨_, (pss_cons (ps_fld (pv 0) (pe_cal G.checked_stream (hr.mono (by decide)) pass0 (pa_cons (pv 1) pa_nil)) rfl)
    (pss_cons (ps_fld (pv 0) (pe_cal G.checked_term (hr.mono (by decide)) pass0 (pa_cons (pv 2) pa_nil)) rfl)
    (pss_cons (ps_fld (pv 0) (pe_cal G.checked_term (hr.mono (by decide)) pass0 (pa_cons (pv 3) pa_nil)) rfl)
    (pss_one (ps_fld (pv 0) (pe_tup (pa_cons pe_str (pa_cons (pv 1) (StX.pa_star (pe_fld (pv 2) rfl) (StX.pa_star (pe_fld (pv 3) rfl) pa_nil))))) rfl))))), ?_⟩
    obtain ⟨D, hD⟩ : ∃ D, D = A0.count := ⟨_, rfl⟩
    have Is : A0.Is D := .inr (.inl hD)
    rw [← hD] at hb
    refine ⟨_, rfl, z, rfl, hz, fun Hz sz => ⟨_, rfl, b, D, dx, [], rfl, sz _ _ hb, AT.cl _ Is, AT.no _ Is _ (by decide +kernel), (by show 0 < 1000; decide), ?_⟩⟩
    have K0 : Keep b H (upd Hz b (.ins D dx (putF "stream" (.str z) []))) := (Keep.refl.same sz).upd
    have hb0 : (upd Hz b (.ins D dx (putF "stream" (.str z) []))) b = some (.ins D dx (putF "stream" (.str z) [])) := upd_same
    refine ⟨_, rfl, a, t, rfl, hT.off hb K0, fun H1 s1 => ⟨_, rfl, b, D, dx, _, rfl, s1 _ _ hb0, AT.cl _ Is, AT.no _ Is _ (by decide +kernel), (by show 1 < 1000; decide), ?_⟩⟩
    have K1 : Keep b H (upd H1 b (.ins D dx (putF "first" (.ref a) (putF "stream" (.str z) [])))) := (K0.same s1).upd
    refine ⟨_, rfl, c, u, rfl, hU.off hb K1, fun H2 s2 => ⟨_, rfl, b, D, dx, _, rfl, s2 _ _ upd_same, AT.cl _ Is, AT.no _ Is _ (by decide +kernel), (by show 2 < 1000; decide), ?_⟩⟩
    have K2 : Keep b H (upd H2 b (.ins D dx (putF "last" (.ref c) (putF "first" (.ref a) (putF "stream" (.str z) []))))) := (K1.same s2).upd
    obtain ⟨dx1, fs1, sp1, In⟩ := (hT.off hb K2).in_
    obtain ⟨dx2, fs2, sp2, In2⟩ := (hU.off hb K2).in_
    have sl := Tm.spell_len t
    have sl2 := Tm.spell_len u
    have hF2 : t.par ≤ 40 := hF.2.1
    have hG2 : u.par ≤ 40 := hG.2.1
    refine ⟨_, rfl, _, rfl, _, _, dx1, fs1, _, rfl, In.at_, T.cl _ (C.is_of _), T.no _ (C.is_of _) _ (by decide +kernel), In.spelling, sp1, _, rfl, .inl (SqT.of In.spl), _, rfl, _, _, dx2, fs2, _, rfl, In2.at_, T.cl _ (C.is_of _), T.no _ (C.is_of _) _ (by decide +kernel), In2.spelling, sp2, _, rfl, .inl (SqT.of In2.spl), ?_, fun sp hsp => ⟨_, rfl, b, D, dx, _, rfl, sameAt (Same.refl _) hsp _ _ upd_same, AT.cl _ Is, AT.no _ Is _ (by decide +kernel), (by show 3 < 1000; decide), ?_⟩⟩
    · show (t.spell ++ (u.spell ++ [])).length + 1 + 1 ≤ sizeLine
      rw [sizeLine_eq, List.length_append, List.append_nil]
      omega
    have sb : sp ≠ b := fun z => by rw [z, upd_same] at hsp; cases hsp
    have K3 := (K2.at hsp (u := .tup (.str "count" :: .str z :: (t.spell ++ (u.spell ++ []))))).upd (u := .ins D dx (putF "spelling" (.ref sp) (putF "last" (.ref c) (putF "first" (.ref a) (putF "stream" (.str z) [])))))
    refine q _ ⟨dx, a, c, sp, ?_, ?_, hT.off hb K3, hU.off hb K3⟩ K3
    · rw [upd_same, pre2 (by decide +kernel), putF_no (f := "last") (by rfl), putF_no (f := "spelling") (by rfl), hD]
      rfl
    · rw [upd_ne sb, upd_same]
      simp [Am.spell]
abbrev s_Total_init : Stmt := inClass (topS 41) 0
theorem sc_Total_init : FnScope ["self", "stream", "first", "last"] ["self", "stream", "first", "last"] (defScope s_Total_init) := ⟨rfl, rfl, rfl, by decide +kernel, rfl, by decide +kernel, by decide +kernel⟩
theorem ok_total {f : Addr} {fd : FuncData} (F : Fun K "__init__" "Total.__init__" s_Total_init f fd) (B : Blt mg) (T : TF K mg C) (AT : AF K mg A0 C) (G : T2 P w K mg base C) : FnOk P w K mg base CX0 3 f fd ["self", "stream", "first", "last"] (spInitC A0 C A0.total Am.total) := by
  refine F.ok sc_Total_init (fun vs H Q E h => ?_) (fun cdv A outer s H vs Q E hr h => ?_)
  · obtain ⟨b, dx, a, c, z, t, u, rfl, _⟩ := h
    rfl
  · obtain ⟨b, dx, a, c, z, t, u, rfl, hb, hz, hT, hU, hF, hG, q⟩ := h
    refine ⟨_, (pss_cons (ps_fld (pv 0) (pe_cal G.checked_stream (hr.mono (by decide)) pass0 (pa_cons (pv 1) pa_nil)) rfl)
    (pss_cons (ps_fld (pv 0) (pe_cal G.checked_term (hr.mono (by decide)) pass0 (pa_cons (pv 2) pa_nil)) rfl)
    (pss_cons (ps_fld (pv 0) (pe_cal G.checked_term (hr.mono (by decide)) pass0 (pa_cons (pv 3) pa_nil)) rfl)
    (pss_one (ps_fld (pv 0) (pe_tup (pa_cons pe_str (pa_cons (pv 1) (StX.pa_star (pe_fld (pv 2) rfl) (StX.pa_star (pe_fld (pv 3) rfl) pa_nil))))) rfl))))), ?_⟩
    obtain ⟨D, hD⟩ : ∃ D, D = A0.total := ⟨_, rfl⟩
    have Is : A0.Is D := .inr (.inr (.inl hD))
    rw [← hD] at hb
    refine ⟨_, rfl, z, rfl, hz, fun Hz sz => ⟨_, rfl, b, D, dx, [], rfl, sz _ _ hb, AT.cl _ Is, AT.no _ Is _ (by decide +kernel), (by show 0 < 1000; decide), ?_⟩⟩
    have K0 : Keep b H (upd Hz b (.ins D dx (putF "stream" (.str z) []))) := (Keep.refl.same sz).upd
    have hb0 : (upd Hz b (.ins D dx (putF "stream" (.str z) []))) b = some (.ins D dx (putF "stream" (.str z) [])) := upd_same
    refine ⟨_, rfl, a, t, rfl, hT.off hb K0, fun H1 s1 => ⟨_, rfl, b, D, dx, _, rfl, s1 _ _ hb0, AT.cl _ Is, AT.no _ Is _ (by decide +kernel), (by show 1 < 1000; decide), ?_⟩⟩
    have K1 : Keep b H (upd H1 b (.ins D dx (putF "first" (.ref a) (putF "stream" (.str z) [])))) := (K0.same s1).upd
    refine ⟨_, rfl, c, u, rfl, hU.off hb K1, fun H2 s2 => ⟨_, rfl, b, D, dx, _, rfl, s2 _ _ upd_same, AT.cl _ Is, AT.no _ Is _ (by decide +kernel), (by show 2 < 1000; decide), ?_⟩⟩
    have K2 : Keep b H (upd H2 b (.ins D dx (putF "last" (.ref c) (putF "first" (.ref a) (putF "stream" (.str z) []))))) := (K1.same s2).upd
    obtain ⟨dx1, fs1, sp1, In⟩ := (hT.off hb K2).in_
    obtain ⟨dx2, fs2, sp2, In2⟩ := (hU.off hb K2).in_
    have sl := Tm.spell_len t
    have sl2 := Tm.spell_len u
    have hF2 : t.par ≤ 40 := hF.2.1
    have hG2 : u.par ≤ 40 := hG.2.1
    refine ⟨_, rfl, _, rfl, _, _, dx1, fs1, _, rfl, In.at_, T.cl _ (C.is_of _), T.no _ (C.is_of _) _ (by decide +kernel), In.spelling, sp1, _, rfl, .inl (SqT.of In.spl), _, rfl, _, _, dx2, fs2, _, rfl, In2.at_, T.cl _ (C.is_of _), T.no _ (C.is_of _) _ (by decide +kernel), In2.spelling, sp2, _, rfl, .inl (SqT.of In2.spl), ?_, fun sp hsp => ⟨_, rfl, b, D, dx, _, rfl, sameAt (Same.refl _) hsp _ _ upd_same, AT.cl _ Is, AT.no _ Is _ (by decide +kernel), (by show 3 < 1000; decide), ?_⟩⟩
    · show (t.spell ++ (u.spell ++ [])).length + 1 + 1 ≤ sizeLine
      rw [sizeLine_eq, List.length_append, List.append_nil]
      omega
    have sb : sp ≠ b := fun z => by rw [z, upd_same] at hsp; cases hsp
    have K3 := (K2.at hsp (u := .tup (.str "total" :: .str z :: (t.spell ++ (u.spell ++ []))))).upd (u := .ins D dx (putF "spelling" (.ref sp) (putF "last" (.ref c) (putF "first" (.ref a) (putF "stream" (.str z) [])))))
    refine q _ ⟨dx, a, c, sp, ?_, ?_, hT.off hb K3, hU.off hb K3⟩ K3
    · rw [upd_same, pre2 (by decide +kernel), putF_no (f := "last") (by rfl), putF_no (f := "spelling") (by rfl), hD]
      rfl
    · rw [upd_ne sb, upd_same]
      simp [Am.spell]
abbrev s_Gap_init : Stmt := inClass (topS 42) 0
theorem sc_Gap_init : FnScope ["self", "first", "last"] ["self", "first", "last"] (defScope s_Gap_init) := ⟨rfl, rfl, rfl, by decide +kernel, rfl, by decide +kernel, by decide +kernel⟩
theorem ok_gap {f : Addr} {fd : FuncData} (F : Fun K "__init__" "Gap.__init__" s_Gap_init f fd) (B : Blt mg) (T : TF K mg C) (AT : AF K mg A0 C) (G : T2 P w K mg base C) : FnOk P w K mg base CX0 3 f fd ["self", "first", "last"] (spInitG A0 C) := by
  refine F.ok sc_Gap_init (fun vs H Q E h => ?_) (fun cdv A outer s H vs Q E hr h => ?_)
  · obtain ⟨b, dx, a, c, t, u, rfl, _⟩ := h
    rfl
  · obtain ⟨b, dx, a, c, t, u, rfl, hb, hT, hU, hF, hG, q⟩ := h
    refine ⟨_, (pss_cons (ps_fld (pv 0) (pe_cal G.checked_term (hr.mono (by decide)) pass0 (pa_cons (pv 1) pa_nil)) rfl)
    (pss_cons (ps_fld (pv 0) (pe_cal G.checked_term (hr.mono (by decide)) pass0 (pa_cons (pv 2) pa_nil)) rfl)
    (pss_one (ps_fld (pv 0) (pe_tup (pa_cons pe_str (StX.pa_star (pe_fld (pv 1) rfl) (StX.pa_star (pe_fld (pv 2) rfl) pa_nil)))) rfl)))), ?_⟩
    obtain ⟨D, hD⟩ : ∃ D, D = A0.gap := ⟨_, rfl⟩
    have Is : A0.Is D := .inr (.inr (.inr hD))
    rw [← hD] at hb
    have s0 : Same H H := Same.refl H
    have K0 : Keep b H H := Keep.refl
    have hb0 : H b = some (.ins D dx ([])) := hb
    refine ⟨_, rfl, a, t, rfl, hT.off hb K0, fun H1 s1 => ⟨_, rfl, b, D, dx, _, rfl, s1 _ _ hb0, AT.cl _ Is, AT.no _ Is _ (by decide +kernel), (by show 0 < 1000; decide), ?_⟩⟩
    have K1 : Keep b H (upd H1 b (.ins D dx (putF "first" (.ref a) ([])))) := (K0.same s1).upd
    refine ⟨_, rfl, c, u, rfl, hU.off hb K1, fun H2 s2 => ⟨_, rfl, b, D, dx, _, rfl, s2 _ _ upd_same, AT.cl _ Is, AT.no _ Is _ (by decide +kernel), (by show 1 < 1000; decide), ?_⟩⟩
    have K2 : Keep b H (upd H2 b (.ins D dx (putF "last" (.ref c) (putF "first" (.ref a) ([]))))) := (K1.same s2).upd
    obtain ⟨dx1, fs1, sp1, In⟩ := (hT.off hb K2).in_
    obtain ⟨dx2, fs2, sp2, In2⟩ := (hU.off hb K2).in_
    have sl := Tm.spell_len t
    have sl2 := Tm.spell_len u
    have hF2 : t.par ≤ 40 := hF.2.1
    have hG2 : u.par ≤ 40 := hG.2.1
    refine ⟨_, rfl, _, _, dx1, fs1, _, rfl, In.at_, T.cl _ (C.is_of _), T.no _ (C.is_of _) _ (by decide +kernel), In.spelling, sp1, _, rfl, .inl (SqT.of In.spl), _, rfl, _, _, dx2, fs2, _, rfl, In2.at_, T.cl _ (C.is_of _), T.no _ (C.is_of _) _ (by decide +kernel), In2.spelling, sp2, _, rfl, .inl (SqT.of In2.spl), ?_, fun sp hsp => ⟨_, rfl, b, D, dx, _, rfl, sameAt (Same.refl _) hsp _ _ upd_same, AT.cl _ Is, AT.no _ Is _ (by decide +kernel), (by show 2 < 1000; decide), ?_⟩⟩
    · show (t.spell ++ (u.spell ++ [])).length + 1 ≤ sizeLine
      rw [sizeLine_eq, List.length_append, List.append_nil]
      omega
    have sb : sp ≠ b := fun z => by rw [z, upd_same] at hsp; cases hsp
    have K3 := (K2.at hsp (u := .tup (.str "gap" :: (t.spell ++ (u.spell ++ []))))).upd (u := .ins D dx (putF "spelling" (.ref sp) (putF "last" (.ref c) (putF "first" (.ref a) ([])))))
    refine q _ ⟨dx, a, c, sp, ?_, ?_, hT.off hb K3, hU.off hb K3⟩ K3
    · rw [upd_same, pre2 (by decide +kernel), putF_no (by rfl), hD]
      rfl
    · rw [upd_ne sb, upd_same]
      simp [Am.spell]
abbrev s_is_amount : Stmt := topS 43
theorem sc_is_amount : FnScope ["thing"] ["thing"] (defScope s_is_amount) := ⟨rfl, rfl, rfl, by decide +kernel, rfl, by decide +kernel, by decide +kernel⟩
theorem ok_isam {f : Addr} {fd : FuncData} (F : Fun K "is_amount" "is_amount" s_is_amount f fd) (B : Blt mg) (AT : AF K mg A0 C) : FnOk P w K mg base CX0 1 f fd ["thing"] (spIsAmount A0 C) := by
  have c_Number := AT.Number
  have c_Count := AT.Count
  have c_Total := AT.Total
  have c_Gap := AT.Gap
  refine F.ok sc_is_amount (fun vs H Q E h => ?_) (fun cdv A outer s H vs Q E hr h => ?_)
  · obtain ⟨a, q, rfl, _⟩ := h
    rfl
  · obtain ⟨a, am, rfl, h, q⟩ := h
    refine ⟨_, (pss_one (ps_ret (pe_callB call_isiT (by rfl) B.isinstance (by decide +kernel) (pa_cons (pv 0) (pa_cons (pe_tup (pa_cons (pe_glob (v := .ref A0.number) (by rfl) c_Number rfl) (pa_cons (pe_glob (v := .ref A0.count) (by rfl) c_Count rfl) (pa_cons (pe_glob (v := .ref A0.total) (by rfl) c_Total rfl) (pa_cons (pe_glob (v := .ref A0.gap) (by rfl) c_Gap rfl) pa_nil))))) pa_nil))))), ?_⟩
    refine ⟨_, rfl, (by show 4 ≤ sizeLine; decide), fun p hp => ?_⟩
    have s1 : ∀ {o}, Same H (upd H p o) := fun {o} => sameAt (Same.refl H) hp
    have k : PySem.W.kitAny K (.ref (A0.of am)) ([A0.number, A0.count, A0.total, A0.gap].map Value.ref) = some true := by
      have any : ∀ bs : List Addr, (∀ b ∈ bs, A0.Is b) → A0.of am ∈ bs → PySem.W.kitAny K (.ref (A0.of am)) (bs.map Value.ref) = some true := fun bs => by
        induction bs with
        | nil => exact fun _ h => nomatch h
        | cons b r ih =>
          intro hb hm
          refine kitAny_cons (AT.one _ b (A0.is_of am) (hb b List.mem_cons_self)) (fun e => ?_) (fun _ => rfl)
          exact ih (fun c hc => hb c (List.mem_cons_of_mem _ hc)) ((List.mem_cons.mp hm).resolve_left (of_decide_eq_false e))
      refine any _ (fun b hb => ?_) ?_
      · simp only [List.mem_cons, List.not_mem_nil, or_false] at hb
        exact hb
      · have := A0.is_of am
        simp only [List.mem_cons, List.not_mem_nil, or_false]
        exact this
    exact ⟨_, p, _, _, _, true, rfl, upd_same, .cons (.own _) (.cons (.own _) (.cons (.own _) (.cons (.own _) .nil))), AT.tyx (h.same s1), k, q _ s1⟩
end
end Ash

set_option Elab.async false
set_option linter.all false
set_option maxRecDepth 100000
set_option maxHeartbeats 4000000
namespace Ash
open PySem PySem.Spec PyProof.Rows L2 SrtT
open C8 (pss_cut)
/-- the number of a row, seen from a term's answer -/
def spLookedA (A : AC) (C : TC) (CW : Addr) (d : Nat) : Sp := fun vs H Q _ => ∃ (a b : Addr) (t : Tm) (s : Str) (W : Tr) (now : Int), vs = [.ref a, .ref b, .int now, .int 2] ∧ AmAt A C H a (.number s t) ∧ WAt CW H b W ∧ IsNm s ∧ t.NmS ∧ t.Fit ∧ t.dep ≤ (d : Int) ∧ Ans H Q (evA W now (.number s t))
def Am.isNumber : Am → Bool
  | .number _ _ => true
  | _ => false
def spTold (A : AC) (C : TC) (CW : Addr) (d : Nat) : Sp := fun vs H Q _ => ∃ (a b : Addr) (am : Am) (W : Tr) (now : Int), vs = [.ref a, .ref b, .int now] ∧ AmAt A C H a am ∧ am.isNumber = false ∧ WAt CW H b W ∧ am.NmS ∧ am.Fit ∧ Ans H Q (evA W now am)
section
variable {P : Program} {w : World} {K : PySem.W.Frag} {mg : Str → Option Value} {base : Heap} {C : TC} {CW : Addr} {A0 : AC}
theorem ok_lookedA {f : Addr} {fd : FuncData} {d : Nat} (F : Fun K "looked" "looked" s_looked f fd) (B : Blt mg) (T : TF K mg C) (AT : AF K mg A0 C) (G : A2 P w K mg base C CW d) : FnOk P w K mg base CX0 (2 * d + 5) f fd ["question", "world", "now", "place"] (spLookedA A0 C CW d) := by
  obtain ⟨t_cl, t_no, t_ty, t_one, c_Now, c_Last, c_Next, c_Shift, c_Either, c_Later, c_Earlier⟩ := id T
  refine F.ok sc_looked (fun vs H Q E h => ?_) (fun cdv A outer s H vs Q E hr h => ?_)
  · obtain ⟨a, b, t, z, W, now, rfl, _⟩ := h
    rfl
  · obtain ⟨a, b, t, z, W, now, rfl, hT, hW, hz, hN, hF, hd, q⟩ := h
    refine ⟨_, (pss_cons (ps_asg (pe_cal G.followed (hr.mono (by omega)) pass0 (pa_cons (pe_fld (pv 0) rfl) (pa_cons (pv 1) (pa_cons (pv 2) pa_nil)))) (pg_tup (by rfl) (pgs_cons (pg_name (i := 4) sc_looked.nd rfl (Or.inl rfl)) (pgs_cons (pg_name (i := 5) sc_looked.nd rfl (Or.inl rfl)) pgs_nil))))
    (pss_cons (ps_if (pt_cmpR op_isN (pv 4) pe_non (nomark _))
      (pss_one (ps_ret (pe_tup (pa_cons pe_non (pa_cons (pv 5) pa_nil)))))
      pss_nil)
    (pss_cons (ps_if (pt_val (pe_callB call_isi (by rfl) B.isinstance (by decide +kernel) (pa_cons (pv 0) (pa_cons (pe_glob (v := .ref C.next) (by rfl) c_Next rfl) pa_nil))))
      (pss_one (ps_set (i := 6) sc_looked.nd rfl (Or.inl rfl) (pe_cal G.next_row (hr.mono (by omega)) pass0 (pa_cons (pv 1) (pa_cons (pe_fld (pv 0) rfl) (pa_cons (pv 4) pa_nil))))))
      (pss_one (ps_set (i := 6) sc_looked.nd rfl (Or.inl rfl) (pe_cal G.last_row (hr.mono (by omega)) pass0 (pa_cons (pv 1) (pa_cons (pe_fld (pv 0) rfl) (pa_cons (pv 4) pa_nil)))))))
    (pss_cons (ps_if (pt_cmpR op_isN (pv 6) pe_non (nomark _))
      (pss_one (ps_ret (pe_tup (pa_cons pe_non (pa_cons (pv 5) pa_nil)))))
      pss_nil)
    (pss_one (ps_ret (pe_tup (pa_cons (pe_ix ix_tup (pv 6) (pv 3) (fun _ _ => rfl)) (pa_cons (pe_lst (StX.pa_star (pv 5) (pa_cons (pe_ix ix_tup (pv 6) pe_int (fun _ _ => rfl)) pa_nil))) pa_nil))))))))), ?_⟩
    obtain ⟨dx, c, sp, h1, h2, h3⟩ := id hT
    have Is : A0.Is A0.number := .inl rfl
    refine ⟨_, rfl, a, _, dx, _, _, rfl, h1, AT.cl _ Is, AT.no _ Is _ (by decide +kernel), rfl, _, rfl, _, rfl, c, b, t, W, now, rfl, h3, hW, hN, hF, hd, fun q1 l H1 s1 hq1 hl => ?_⟩
    have ln := ev_len (W := W) (now := now) t
    have l12 := hF.2.2
    have q : Ans H Q (lookA (ev W now t) (lastR (W z))) := q
    generalize ev W now t = r at q hq1 hl ln
    obtain ⟨r1, r2⟩ := r
    have ln : (r2.length : Int) ≤ t.lok := ln
    have k := AT.noT A0.number C.next Is (C.is_of (.next z .now))
    refine ⟨q1, _, rfl, SqT.of hq1, rfl, _, _, rfl, _, _, rfl, rfl, ?_⟩
    refine ⟨_, rfl, rfl, _, rfl, ?_⟩
    cases r1 with
    | none =>
      refine ite2 (fun _ => ?_) (fun c => absurd rfl c)
      exact ⟨_, rfl, (by show 2 ≤ sizeLine; decide), fun t2 ht2 => q t2 l _ (s1.trans (sameAt (Same.refl H1) ht2)) upd_same (sameAt (Same.refl H1) ht2 _ _ hl)⟩
    | some m =>
      refine ite2 (fun c => absurd (of_decide_eq_true c) (fun z => nomatch z)) (fun _ => ?_)
      refine ⟨_, rfl, _, _, _, _, _, rfl, .own _, AT.tyx (hT.same s1), k, _, rfl, iteF ?_⟩
      refine ⟨_, rfl, _, rfl, a, _, dx, _, _, rfl, s1 _ _ h1, AT.cl _ Is, AT.no _ Is _ (by decide +kernel), rfl, _, rfl, b, W, z, m, rfl, hW.same s1, hz, fun v H2 s2 hv => ?_⟩
      have hl2 := s2 _ _ hl
      have s12 := s1.trans s2
      refine ⟨_, rfl, rfl, _, rfl, ?_⟩
      cases hrow : lastR (W z) m with
      | none =>
        rw [hrow] at hv
        have hv : v = .non := hv
        subst hv
        have q : Ans H Q (none, r2) := by
          have q : Ans H Q (lookA (some m, r2) (lastR (W z))) := q
          rw [show lookA (some m, r2) (lastR (W z)) = (none, r2) by show (match lastR (W z) m with | none => _ | some t => _) = _; rw [hrow]] at q
          exact q
        refine ite2 (fun _ => ?_) (fun c => absurd rfl c)
        exact ⟨_, rfl, (by show 2 ≤ sizeLine; decide), fun t2 ht2 => q t2 l _ (s12.trans (sameAt (Same.refl H2) ht2)) upd_same (sameAt (Same.refl H2) ht2 _ _ hl2)⟩
      | some t3 =>
        rw [hrow] at hv
        obtain ⟨e, rfl, he⟩ := hv
        have q : Ans H Q (some t3.2.2, r2 ++ [t3.2.1]) := by
          have q : Ans H Q (lookA (some m, r2) (lastR (W z))) := q
          rw [show lookA (some m, r2) (lastR (W z)) = (some t3.2.2, r2 ++ [t3.2.1]) by show (match lastR (W z) m with | none => _ | some t => _) = _; rw [hrow]] at q
          exact q
        refine ite2 (fun c => absurd (of_decide_eq_true c) (fun z => nomatch z)) (fun _ => ?_)
        refine ⟨_, rfl, _, rfl, _, _, _, _, rfl, rfl, SqT.of he, rfl, _, rfl, l, _, rfl, .inr (SqL.of hl2), _, rfl, _, _, _, _, rfl, rfl, SqT.of he, rfl, ?_, fun l2 hl3 => ⟨(by show 2 ≤ sizeLine; decide), fun t2 ht2 => ?_⟩⟩
        · show (r2.map V.int ++ [_]).length ≤ sizeLine
          rw [List.length_append, List.length_map, sizeLine_eq]
          show r2.length + 1 ≤ _
          omega
        · have s3 := s12.trans (sameAt (Same.refl H2) hl3 (o := .lst (r2.map V.int ++ [.int t3.2.1])))
          have hl4 : upd H2 l2 (.lst (r2.map V.int ++ [.int t3.2.1])) l2 = some (.lst ((r2 ++ [t3.2.1]).map V.int)) := by
            rw [upd_same, List.map_append]
            rfl
          exact q t2 l2 _ (s3.trans (sameAt (Same.refl _) ht2)) upd_same (sameAt (Same.refl _) ht2 _ _ hl4)
/-- what is told of two moments -/
def amG (W : Tr) : Am → Int → Int → Rs
  | .number _ _ => fun _ _ => (none, [])
  | .count s _ _ => fun m k => (some ((betweenR (W s) m k).length : Int), (betweenR (W s) m k).map (·.2.1))
  | .total s _ _ => fun m k => (some ((betweenR (W s) m k).map (·.2.2)).sum, (betweenR (W s) m k).map (·.2.1))
  | .gap _ _ => fun m k => (some (k - m), [])
theorem AmAt.two {H : Hp} {a : Addr} {am : Am} (h : AmAt A0 C H a am) (hn : am.isNumber = false) (hN : am.NmS) (hF : am.Fit) : ∃ dx fs c1 c2 t u, H a = some (.ins (A0.of am) dx fs) ∧ fs.lookup ("first" : Str) = some (.ref c1) ∧ fs.lookup ("last" : Str) = some (.ref c2) ∧ TmAt C H c1 t ∧ TmAt C H c2 u ∧ (t.NmS ∧ u.NmS) ∧ (t.Fit ∧ u.Fit) ∧
    (∀ z, (∃ t u, am = .count z t u ∨ am = .total z t u) → fs.lookup ("stream" : Str) = some (.str z) ∧ IsNm z) ∧ ∀ W now, evA W now am = tellR (ev W now t) (ev W now u) (amG W am) := by
  cases am with
  | number _ _ => cases hn
  | count s t u =>
    obtain ⟨dx, b, c, sp, h1, h2, h3, h4⟩ := h
    refine ⟨dx, _, b, c, t, u, h1, rfl, rfl, h3, h4, hN.2, hF, fun z hz => ?_, fun _ _ => rfl⟩
    obtain ⟨_, _, e | e⟩ := hz <;> cases e
    exact ⟨rfl, hN.1⟩
  | total s t u =>
    obtain ⟨dx, b, c, sp, h1, h2, h3, h4⟩ := h
    refine ⟨dx, _, b, c, t, u, h1, rfl, rfl, h3, h4, hN.2, hF, fun z hz => ?_, fun _ _ => rfl⟩
    obtain ⟨_, _, e | e⟩ := hz <;> cases e
    exact ⟨rfl, hN.1⟩
  | gap t u =>
    obtain ⟨dx, b, c, sp, h1, h2, h3, h4⟩ := h
    refine ⟨dx, _, b, c, t, u, h1, rfl, rfl, h3, h4, hN, hF, fun z hz => ?_, fun _ _ => rfl⟩
    obtain ⟨_, _, e | e⟩ := hz <;> cases e
abbrev s_told_between : Stmt := topS 64
theorem sc_told_between : FnScope ["question", "world", "now", "first", "seen", "last", "more", "rows", "counted", "row"] ["question", "world", "now"] (defScope s_told_between) := ⟨rfl, rfl, rfl, by decide +kernel, rfl, by decide +kernel, by decide +kernel⟩
theorem ok_told {f : Addr} {fd : FuncData} (F : Fun K "told_between" "told_between" s_told_between f fd) (B : Blt mg) (T : TF K mg C) (AT : AF K mg A0 C) (TW : Cw K mg CW) (G : A2 P w K mg base C CW 12) : FnOk P w K mg base CX0 29 f fd ["question", "world", "now"] (spTold A0 C CW 12) := by
  have c_Number := AT.Number
  have c_Count := AT.Count
  have c_Total := AT.Total
  have c_Gap := AT.Gap
  refine F.ok sc_told_between (fun vs H Q E h => ?_) (fun cdv A outer s H vs Q E hr h => ?_)
  · obtain ⟨a, b, am, W, now, rfl, _⟩ := h
    rfl
  · obtain ⟨a, b, am, W, now, rfl, hA, hn, hW, hN, hF, q⟩ := h
    refine ⟨_, (pss_cons (ps_asg (pe_cal G.followed (hr.mono (by decide)) pass0 (pa_cons (pe_fld (pv 0) rfl) (pa_cons (pv 1) (pa_cons (pv 2) pa_nil)))) (pg_tup (by rfl) (pgs_cons (pg_name (i := 3) sc_told_between.nd rfl (Or.inr rfl)) (pgs_cons (pg_name (i := 4) sc_told_between.nd rfl (Or.inl rfl)) pgs_nil))))
    (pss_cons (ps_if (pt_cmpR op_isN (pv 3) pe_non (nomark _))
      (pss_one (ps_ret (pe_tup (pa_cons pe_non (pa_cons (pv 4) pa_nil)))))
      pss_nil)
    (pss_cons (ps_asg (pe_cal G.followed (hr.mono (by decide)) pass0 (pa_cons (pe_fld (pv 0) rfl) (pa_cons (pv 1) (pa_cons (pv 2) pa_nil)))) (pg_tup (by rfl) (pgs_cons (pg_name (i := 5) sc_told_between.nd rfl (Or.inr rfl)) (pgs_cons (pg_name (i := 6) sc_told_between.nd rfl (Or.inl rfl)) pgs_nil))))
    (pss_cons (ps_set (i := 4) sc_told_between.nd rfl (Or.inl rfl) (pe_lst (StX.pa_star (pv 4) (StX.pa_star (pv 6) pa_nil))))
    (pss_cons (ps_if (pt_cmpR op_isN (pv 5) pe_non (nomark _))
      (pss_one (ps_ret (pe_tup (pa_cons pe_non (pa_cons (pv 4) pa_nil)))))
      pss_nil)
    (pss_cons (ps_if (pt_val (pe_callB call_isi (by rfl) B.isinstance (by decide +kernel) (pa_cons (pv 0) (pa_cons (pe_glob (v := .ref A0.gap) (by rfl) c_Gap rfl) pa_nil))))
      (pss_one (ps_ret (pe_tup (pa_cons (pe_op op_sub (pv 5) (pv 3)) (pa_cons (pv 4) pa_nil)))))
      pss_nil)
    (pss_cons (ps_setLc (i := 7) (own := [("row", 9)]) (g := gName 9) (by rfl) sc_told_between.nd rfl rfl (sw_true rfl rfl rfl (by decide +kernel)) (pi_list (pe_met TW.cl G.rows (hr.mono (by decide)) pass0 (pv 1) (pa_cons (pe_fld (pv 0) rfl) pa_nil))) (blkOk_by (own := [("row", 9)]) (N := ["question", "world", "now", "first", "seen", "last", "more", "rows", "counted", "row"]) (sc := defScope s_told_between) (by decide +kernel)) (fun _ _ _ _ _ => (pg_name (i := 9) sc_told_between.nd rfl (Or.inl rfl))) (fun _ _ _ _ _ => pts_one (pt_chain op_lt op_le (pv 3) (pe_ix (show IxR _ (rIxT K) from ix_tup) (pv 9) pe_int (fun _ _ => rfl)) (pv 5))) (fun _ _ _ _ _ => (pv 9)))
    (pss_cons (ps_setLc (i := 8) (own := [("row", 9)]) (g := gName 9) (tt := tYes) (by rfl) sc_told_between.nd rfl rfl (sw_true rfl rfl rfl (by decide +kernel)) (pi_list (pv 7)) (blkOk_by (own := [("row", 9)]) (N := ["question", "world", "now", "first", "seen", "last", "more", "rows", "counted", "row"]) (sc := defScope s_told_between) (by decide +kernel)) (fun _ _ _ _ _ => (pg_name (i := 9) sc_told_between.nd rfl (Or.inl rfl))) (fun _ _ _ _ _ => pts_nil) (fun _ _ _ _ _ => (pe_ix (show IxR _ (rIxT K) from ix_tup) (pv 9) pe_int (fun _ _ => rfl))))
    (pss_cons (ps_set (i := 4) sc_told_between.nd rfl (Or.inl rfl) (pe_lst (StX.pa_star (pv 4) (StX.pa_star (pv 8) pa_nil))))
    (pss_cons (ps_if (pt_val (pe_callB call_isi (by rfl) B.isinstance (by decide +kernel) (pa_cons (pv 0) (pa_cons (pe_glob (v := .ref A0.count) (by rfl) c_Count rfl) pa_nil))))
      (pss_one (ps_ret (pe_tup (pa_cons (pe_callB call_len_seq (by rfl) B.len (by decide +kernel) (pa_cons (pv 7) pa_nil)) (pa_cons (pv 4) pa_nil)))))
      pss_nil)
    (pss_one (ps_ret (pe_tup (pa_cons (pe_callB (cr_sum rfl) (by rfl) B.sum (by decide +kernel) (pa_cons (pe_lc (own := [("row", 9)]) (g := gName 9) (tt := tYes) (by rfl) sc_told_between.nd (pi_list (pv 7)) (blkOk_by (own := [("row", 9)]) (N := ["question", "world", "now", "first", "seen", "last", "more", "rows", "counted", "row"]) (sc := defScope s_told_between) (by decide +kernel)) (fun _ _ _ _ _ => (pg_name (i := 9) sc_told_between.nd rfl (Or.inl rfl))) (fun _ _ _ _ _ => pts_nil) (fun _ _ _ _ _ => (pe_ix (show IxR _ (rIxT K) from ix_tup) (pv 9) pe_int (fun _ _ => rfl)))) pa_nil)) (pa_cons (pv 4) pa_nil))))))))))))))), ?_⟩
    obtain ⟨dx, fs, c1, c2, t, u, h1, i1, i2, hT, hU, ⟨hN1, hN2⟩, ⟨hF1, hF2⟩, hst, hev⟩ := hA.two hn hN hF
    have Is := A0.is_of am
    refine ⟨_, rfl, a, _, dx, _, _, rfl, h1, AT.cl _ Is, AT.no _ Is _ (by decide +kernel), i1, _, rfl, _, rfl, c1, b, t, W, now, rfl, hT, hW, hN1, hF1, hF1.1, fun q1 l H1 s1 hq1 hl => ?_⟩
    have ln := ev_len (W := W) (now := now) t
    have ln2 := ev_len (W := W) (now := now) u
    have l12 := hF1.2.2
    have l13 := hF2.2.2
    rw [hev] at q
    generalize ev W now t = r at q hq1 hl ln
    obtain ⟨r1, r2⟩ := r
    have ln : (r2.length : Int) ≤ t.lok := ln
    refine ⟨q1, _, rfl, SqT.of hq1, rfl, _, _, rfl, _, _, rfl, rfl, ?_⟩
    refine ⟨_, rfl, rfl, _, rfl, ?_⟩
    cases r1 with
    | none =>
      refine ite2 (fun _ => ?_) (fun c => absurd rfl c)
      exact ⟨_, rfl, (by show 2 ≤ sizeLine; decide), fun t2 ht2 => q t2 l _ (s1.trans (sameAt (Same.refl H1) ht2)) upd_same (sameAt (Same.refl H1) ht2 _ _ hl)⟩
    | some m =>
      refine ite2 (fun c => absurd (of_decide_eq_true c) (fun z => nomatch z)) (fun _ => ?_)
      refine ⟨_, rfl, a, _, dx, _, _, rfl, s1 _ _ h1, AT.cl _ Is, AT.no _ Is _ (by decide +kernel), i2, _, rfl, _, rfl, c2, b, u, W, now, rfl, hU.same s1, hW.same s1, hN2, hF2, hF2.1, fun q2 l2 H2 s2 hq2 hl2 => ?_⟩
      generalize ev W now u = r' at q hq2 hl2 ln2
      obtain ⟨x1, x2⟩ := r'
      have ln2 : (x2.length : Int) ≤ u.lok := ln2
      have s12 := s1.trans s2
      refine ⟨q2, _, rfl, SqT.of hq2, rfl, _, _, rfl, _, _, rfl, rfl, ?_⟩
      refine ⟨_, rfl, l, _, rfl, .inr (SqL.of (s2 _ _ hl)), _, rfl, l2, _, rfl, .inr (SqL.of hl2), ?_, fun l3 hl3 => ?_⟩
      · show (r2.map V.int ++ (x2.map V.int ++ [])).length ≤ sizeLine
        rw [List.length_append, List.length_append, List.length_map, List.length_map, sizeLine_eq]
        show r2.length + (x2.length + 0) ≤ _
        omega
      have s3 := s12.trans (sameAt (Same.refl H2) hl3 (o := .lst (r2.map V.int ++ (x2.map V.int ++ []))))
      have hl4 : upd H2 l3 (.lst (r2.map V.int ++ (x2.map V.int ++ []))) l3 = some (.lst ((r2 ++ x2).map V.int)) := by
        rw [upd_same, List.map_append, List.append_nil]
      refine ⟨_, rfl, rfl, _, rfl, ?_⟩
      cases x1 with
      | none =>
        refine ite2 (fun _ => ?_) (fun c => absurd rfl c)
        exact ⟨_, rfl, (by show 2 ≤ sizeLine; decide), fun t2 ht2 => q t2 l3 _ (s3.trans (sameAt (Same.refl _) ht2)) upd_same (sameAt (Same.refl _) ht2 _ _ hl4)⟩
      | some m2 =>
        refine ite2 (fun c => absurd (of_decide_eq_true c) (fun z => nomatch z)) (fun _ => ?_)
        have k := AT.one (A0.of am) A0.gap Is (.inr (.inr (.inr rfl)))
        refine ⟨_, rfl, _, _, _, _, _, rfl, .own _, AT.tyx (hA.same s3), k, _, rfl, ?_⟩
        have nd := AT.nd
        simp only [List.nodup_cons, List.mem_cons, List.not_mem_nil, or_false, not_or] at nd
        cases am with
        | number _ _ => cases hn
        | gap t' u' =>
          rw [show decide (A0.of (.gap t' u') = A0.gap) = true from decide_eq_true rfl]
          have q : Ans H Q (some (m2 - m), r2 ++ x2 ++ []) := q
          rw [List.append_nil] at q
          exact iteT ⟨_, rfl, _, rfl, _, _, rfl, rfl, _, rfl, (by show 2 ≤ sizeLine; decide), fun t2 ht2 => q t2 l3 _ (s3.trans (sameAt (Same.refl _) ht2)) upd_same (sameAt (Same.refl _) ht2 _ _ hl4)⟩
        | count z t' u' =>
          rw [show decide (A0.of (.count z t' u') = A0.gap) = false from decide_eq_false nd.2.1.2]
          refine iteF ?_
          obtain ⟨hs1, hz⟩ := hst z ⟨t', u', .inl rfl⟩
          have hW3 := hW.same s3
          obtain ⟨dxw, dw, tw, kw, iw, w1, w2, w3, w4⟩ := id hW3
          have l4 := (w4 z).1
          refine ⟨_, rfl, b, dxw, _, rfl, w1, rfl, _, rfl, a, _, dx, _, _, rfl, s3 _ _ h1, AT.cl _ Is, AT.no _ Is _ (by decide +kernel), hs1, b, W, z, rfl, hW3, hz, fun p ys H4 s4 hp hys hTr => ?_⟩
          refine ⟨p, rfl, ⟨_, SqL.of hys⟩, fun D hD => lc_it (walk_list (xs := ys)) (fun i H5 => (∃ zs, H5 D = some (.lst zs) ∧ TrAt H5 zs (betweenR ((W z).take i) m m2)) ∧ Same H4 H5) ⟨⟨[], upd_same, rfl, fun i v t a b => by simp at a⟩, sameAt (Same.refl H4) hD⟩ (fun i H5 _ hv => SqL.of (hv.2 _ _ hys)) ?_ ?_⟩
          · rintro i x H5 H6 hi ⟨⟨zs, hD5, hT5⟩, s5⟩ ⟨rfl, hx⟩
            have hi2 : i < (W z).length := by rw [← hTr.1]; exact hi
            obtain ⟨t3, ht⟩ : ∃ t3, (W z)[i]? = some t3 := ⟨_, List.getElem?_eq_getElem hi2⟩
            obtain ⟨e, rfl, he⟩ := hTr.2 i x t3 hx ht
            have he1 := s5 _ _ he
            have tk : ∀ {u} t xs, H6 t = some (.tup xs) → upd H6 D (.lst u) t = some (.tup xs) := fun {u} t xs q => by rw [upd_ne (ne_of q hD5 (by intro z; cases z))]; exact q
            have lz : zs.length ≤ 400 := by
              rw [hT5.1]
              refine Nat.le_trans (List.length_filter_le _ _) ?_
              rw [List.length_take]
              omega
            have st : betweenR ((W z).take (i + 1)) m m2 = betweenR ((W z).take i) m m2 ++ (if m < t3.1 ∧ t3.1 ≤ m2 then [t3] else []) := by
              unfold betweenR
              rw [list_take ht, List.filter_append, List.filter_cons]
              by_cases c : m < t3.1 ∧ t3.1 ≤ m2
              · rw [if_pos (decide_eq_true c), if_pos c]; rfl
              · rw [if_neg (fun z => c (of_decide_eq_true z)), if_neg c]; rfl
            refine ⟨rfl, _, rfl, _, rfl, _, _, _, _, rfl, rfl, SqT.of he1, rfl, _, _, rfl, rfl, _, rfl, ?_⟩
            rw [st]
            refine ite2 (fun ca => ?_) (fun ca => ?_)
            · have ca : m < t3.1 := of_decide_eq_true ca
              refine ⟨_, rfl, _, _, rfl, rfl, _, rfl, ?_⟩
              refine ite2 (fun cb => ?_) (fun cb => ?_)
              · rw [if_pos ⟨ca, of_decide_eq_true cb⟩]
                exact ⟨_, rfl, zs, hD5, small1000 (by omega), ⟨_, upd_same, (hT5.tk tk).snoc (tk _ _ he1)⟩, sameAt s5 hD⟩
              · rw [if_neg (fun z => cb (decide_eq_true z.2)), List.append_nil]
                exact ⟨⟨zs, hD5, hT5⟩, s5⟩
            · rw [if_neg (fun z => ca (decide_eq_true z.1)), List.append_nil]
              exact ⟨_, rfl, iteF ⟨⟨zs, hD5, hT5⟩, s5⟩⟩
          · rintro H5 ⟨⟨zs, hD5, hT5⟩, s5⟩
            rw [hTr.1, List.take_length] at hT5
            have s35 := (s3.trans s4).trans s5
            have lb : (betweenR (W z) m m2).length ≤ 400 := Nat.le_trans (List.length_filter_le _ _) l4
            refine ⟨_, rfl, D, rfl, ⟨_, SqL.of hD5⟩, fun D2 hD2 => lc_it (walk_list (xs := zs)) (fun i H6 => H6 D2 = some (.lst ((((betweenR (W z) m m2).take i).map (fun x : T3 => x.2.1)).map V.int)) ∧ Same H5 H6) ⟨upd_same, sameAt (Same.refl H5) hD2⟩ (fun i H6 _ hv => SqL.of (hv.2 _ _ hD5)) ?_ ?_⟩
            · rintro i x H6 H7 hi ⟨hD6, s6⟩ ⟨rfl, hx⟩
              have hi2 : i < (betweenR (W z) m m2).length := by rw [← hT5.1]; exact hi
              obtain ⟨t3, ht⟩ : ∃ t3, (betweenR (W z) m m2)[i]? = some t3 := ⟨_, List.getElem?_eq_getElem hi2⟩
              obtain ⟨e, rfl, he⟩ := hT5.2 i x t3 hx ht
              have he1 := s6 _ _ he
              refine ⟨rfl, _, rfl, _, _, _, _, rfl, rfl, SqT.of he1, rfl, _, hD6, ?_, ?_, sameAt s6 hD2⟩
              · rw [List.length_map, List.length_map, List.length_take]
                exact small1000 (by omega)
              · rw [upd_same, list_take ht, List.map_append, List.map_append]
                rfl
            · rintro H6 ⟨hD6, s6⟩
              rw [hT5.1, List.take_length] at hD6
              have s36 := s35.trans s6
              have hl6 := ((s4.trans s5).trans s6) _ _ hl4
              refine ⟨_, rfl, l3, _, rfl, .inr (SqL.of hl6), _, rfl, D2, _, rfl, .inr (SqL.of hD6), ?_, fun l5 hl5 => ?_⟩
              · show ((r2 ++ x2).map V.int ++ (((betweenR (W z) m m2).map (fun x : T3 => x.2.1)).map V.int ++ [])).length ≤ sizeLine
                rw [List.length_append, List.length_append, List.length_map, List.length_append, List.length_map, List.length_map, sizeLine_eq]
                show r2.length + x2.length + ((betweenR (W z) m m2).length + 0) ≤ _
                omega
              have s7 := s36.trans (sameAt (Same.refl H6) hl5 (o := .lst ((r2 ++ x2).map V.int ++ (((betweenR (W z) m m2).map (fun x : T3 => x.2.1)).map V.int ++ []))))
              have hl7 : upd H6 l5 (.lst ((r2 ++ x2).map V.int ++ (((betweenR (W z) m m2).map (fun x : T3 => x.2.1)).map V.int ++ []))) l5 = some (.lst ((r2 ++ x2 ++ (betweenR (W z) m m2).map (fun x : T3 => x.2.1)).map V.int)) := by
                rw [upd_same, List.map_append (l₁ := r2 ++ x2), List.append_nil]
              have hD7 := sameAt (Same.refl H6) hl5 (o := .lst ((r2 ++ x2).map V.int ++ (((betweenR (W z) m m2).map (fun x : T3 => x.2.1)).map V.int ++ []))) _ _ (s6 _ _ hD5)
              generalize upd H6 l5 (.lst ((r2 ++ x2).map V.int ++ (((betweenR (W z) m m2).map (fun x : T3 => x.2.1)).map V.int ++ []))) = H7 at s7 hl7 hD7 ⊢
              have k2 := AT.one (A0.of (.count z t' u')) A0.count Is (.inr (.inl rfl))
              refine ⟨_, rfl, _, _, _, _, _, rfl, .own _, AT.tyx (hA.same s7), k2, _, rfl, ?_⟩
              rw [show decide (A0.of (.count z t' u') = A0.count) = true from decide_eq_true rfl]
              have q : Ans H Q (some ((betweenR (W z) m m2).length : Int), r2 ++ x2 ++ (betweenR (W z) m m2).map (fun x : T3 => x.2.1)) := q
              rw [← hT5.1] at q
              exact iteT ⟨_, rfl, _, _, rfl, .inl (SqL.of hD7), _, rfl, (by show 2 ≤ sizeLine; decide), fun t2 ht2 => q t2 l5 _ (s7.trans (sameAt (Same.refl _) ht2)) upd_same (sameAt (Same.refl _) ht2 _ _ hl7)⟩
        | total z t' u' =>
          rw [show decide (A0.of (.total z t' u') = A0.gap) = false from decide_eq_false nd.2.2.1]
          refine iteF ?_
          obtain ⟨hs1, hz⟩ := hst z ⟨t', u', .inr rfl⟩
          have hW3 := hW.same s3
          obtain ⟨dxw, dw, tw, kw, iw, w1, w2, w3, w4⟩ := id hW3
          have l4 := (w4 z).1
          refine ⟨_, rfl, b, dxw, _, rfl, w1, rfl, _, rfl, a, _, dx, _, _, rfl, s3 _ _ h1, AT.cl _ Is, AT.no _ Is _ (by decide +kernel), hs1, b, W, z, rfl, hW3, hz, fun p ys H4 s4 hp hys hTr => ?_⟩
          refine ⟨p, rfl, ⟨_, SqL.of hys⟩, fun D hD => lc_it (walk_list (xs := ys)) (fun i H5 => (∃ zs, H5 D = some (.lst zs) ∧ TrAt H5 zs (betweenR ((W z).take i) m m2)) ∧ Same H4 H5) ⟨⟨[], upd_same, rfl, fun i v t a b => by simp at a⟩, sameAt (Same.refl H4) hD⟩ (fun i H5 _ hv => SqL.of (hv.2 _ _ hys)) ?_ ?_⟩
          · rintro i x H5 H6 hi ⟨⟨zs, hD5, hT5⟩, s5⟩ ⟨rfl, hx⟩
            have hi2 : i < (W z).length := by rw [← hTr.1]; exact hi
            obtain ⟨t3, ht⟩ : ∃ t3, (W z)[i]? = some t3 := ⟨_, List.getElem?_eq_getElem hi2⟩
            obtain ⟨e, rfl, he⟩ := hTr.2 i x t3 hx ht
            have he1 := s5 _ _ he
            have tk : ∀ {u} t xs, H6 t = some (.tup xs) → upd H6 D (.lst u) t = some (.tup xs) := fun {u} t xs q => by rw [upd_ne (ne_of q hD5 (by intro z; cases z))]; exact q
            have lz : zs.length ≤ 400 := by
              rw [hT5.1]
              refine Nat.le_trans (List.length_filter_le _ _) ?_
              rw [List.length_take]
              omega
            have st : betweenR ((W z).take (i + 1)) m m2 = betweenR ((W z).take i) m m2 ++ (if m < t3.1 ∧ t3.1 ≤ m2 then [t3] else []) := by
              unfold betweenR
              rw [list_take ht, List.filter_append, List.filter_cons]
              by_cases c : m < t3.1 ∧ t3.1 ≤ m2
              · rw [if_pos (decide_eq_true c), if_pos c]; rfl
              · rw [if_neg (fun z => c (of_decide_eq_true z)), if_neg c]; rfl
            refine ⟨rfl, _, rfl, _, rfl, _, _, _, _, rfl, rfl, SqT.of he1, rfl, _, _, rfl, rfl, _, rfl, ?_⟩
            rw [st]
            refine ite2 (fun ca => ?_) (fun ca => ?_)
            · have ca : m < t3.1 := of_decide_eq_true ca
              refine ⟨_, rfl, _, _, rfl, rfl, _, rfl, ?_⟩
              refine ite2 (fun cb => ?_) (fun cb => ?_)
              · rw [if_pos ⟨ca, of_decide_eq_true cb⟩]
                exact ⟨_, rfl, zs, hD5, small1000 (by omega), ⟨_, upd_same, (hT5.tk tk).snoc (tk _ _ he1)⟩, sameAt s5 hD⟩
              · rw [if_neg (fun z => cb (decide_eq_true z.2)), List.append_nil]
                exact ⟨⟨zs, hD5, hT5⟩, s5⟩
            · rw [if_neg (fun z => ca (decide_eq_true z.1)), List.append_nil]
              exact ⟨_, rfl, iteF ⟨⟨zs, hD5, hT5⟩, s5⟩⟩
          · rintro H5 ⟨⟨zs, hD5, hT5⟩, s5⟩
            rw [hTr.1, List.take_length] at hT5
            have s35 := (s3.trans s4).trans s5
            have lb : (betweenR (W z) m m2).length ≤ 400 := Nat.le_trans (List.length_filter_le _ _) l4
            refine ⟨_, rfl, D, rfl, ⟨_, SqL.of hD5⟩, fun D2 hD2 => lc_it (walk_list (xs := zs)) (fun i H6 => H6 D2 = some (.lst ((((betweenR (W z) m m2).take i).map (fun x : T3 => x.2.1)).map V.int)) ∧ Same H5 H6) ⟨upd_same, sameAt (Same.refl H5) hD2⟩ (fun i H6 _ hv => SqL.of (hv.2 _ _ hD5)) ?_ ?_⟩
            · rintro i x H6 H7 hi ⟨hD6, s6⟩ ⟨rfl, hx⟩
              have hi2 : i < (betweenR (W z) m m2).length := by rw [← hT5.1]; exact hi
              obtain ⟨t3, ht⟩ : ∃ t3, (betweenR (W z) m m2)[i]? = some t3 := ⟨_, List.getElem?_eq_getElem hi2⟩
              obtain ⟨e, rfl, he⟩ := hT5.2 i x t3 hx ht
              have he1 := s6 _ _ he
              refine ⟨rfl, _, rfl, _, _, _, _, rfl, rfl, SqT.of he1, rfl, _, hD6, ?_, ?_, sameAt s6 hD2⟩
              · rw [List.length_map, List.length_map, List.length_take]
                exact small1000 (by omega)
              · rw [upd_same, list_take ht, List.map_append, List.map_append]
                rfl
            · rintro H6 ⟨hD6, s6⟩
              rw [hT5.1, List.take_length] at hD6
              have s36 := s35.trans s6
              have hl6 := ((s4.trans s5).trans s6) _ _ hl4
              refine ⟨_, rfl, l3, _, rfl, .inr (SqL.of hl6), _, rfl, D2, _, rfl, .inr (SqL.of hD6), ?_, fun l5 hl5 => ?_⟩
              · show ((r2 ++ x2).map V.int ++ (((betweenR (W z) m m2).map (fun x : T3 => x.2.1)).map V.int ++ [])).length ≤ sizeLine
                rw [List.length_append, List.length_append, List.length_map, List.length_append, List.length_map, List.length_map, sizeLine_eq]
                show r2.length + x2.length + ((betweenR (W z) m m2).length + 0) ≤ _
                omega
              have s7 := s36.trans (sameAt (Same.refl H6) hl5 (o := .lst ((r2 ++ x2).map V.int ++ (((betweenR (W z) m m2).map (fun x : T3 => x.2.1)).map V.int ++ []))))
              have hl7 : upd H6 l5 (.lst ((r2 ++ x2).map V.int ++ (((betweenR (W z) m m2).map (fun x : T3 => x.2.1)).map V.int ++ []))) l5 = some (.lst ((r2 ++ x2 ++ (betweenR (W z) m m2).map (fun x : T3 => x.2.1)).map V.int)) := by
                rw [upd_same, List.map_append (l₁ := r2 ++ x2), List.append_nil]
              have hD7 := sameAt (Same.refl H6) hl5 (o := .lst ((r2 ++ x2).map V.int ++ (((betweenR (W z) m m2).map (fun x : T3 => x.2.1)).map V.int ++ []))) _ _ (s6 _ _ hD5)
              have hTr7 := (hT5.tk fun t xs q => s6 _ _ q).tk fun t xs q => sameAt (Same.refl H6) hl5 (o := .lst ((r2 ++ x2).map V.int ++ (((betweenR (W z) m m2).map (fun x : T3 => x.2.1)).map V.int ++ []))) _ _ q
              generalize upd H6 l5 (.lst ((r2 ++ x2).map V.int ++ (((betweenR (W z) m m2).map (fun x : T3 => x.2.1)).map V.int ++ []))) = H7 at s7 hl7 hD7 hTr7 ⊢
              have k2 := AT.one (A0.of (.total z t' u')) A0.count Is (.inr (.inl rfl))
              refine ⟨_, rfl, _, _, _, _, _, rfl, .own _, AT.tyx (hA.same s7), k2, _, rfl, ?_⟩
              rw [show decide (A0.of (.total z t' u') = A0.count) = false from decide_eq_false fun e => nd.2.1.1 e.symm]
              refine iteF ?_
              have q : Ans H Q (some ((betweenR (W z) m m2).map (fun x : T3 => x.2.2)).sum, r2 ++ x2 ++ (betweenR (W z) m m2).map (fun x : T3 => x.2.1)) := q
              refine ⟨_, rfl, D, rfl, ⟨_, SqL.of hD7⟩, fun D3 hD3 => lc_it (walk_list (xs := zs)) (fun i H8 => H8 D3 = some (.lst ((((betweenR (W z) m m2).take i).map (fun x : T3 => x.2.2)).map V.int)) ∧ Same H7 H8) ⟨upd_same, sameAt (Same.refl H7) hD3⟩ (fun i H8 _ hv => SqL.of (hv.2 _ _ hD7)) ?_ ?_⟩
              · rintro i x H8 H9 hi ⟨hD8, s8⟩ ⟨rfl, hx⟩
                have hi2 : i < (betweenR (W z) m m2).length := by rw [← hT5.1]; exact hi
                obtain ⟨t3, ht⟩ : ∃ t3, (betweenR (W z) m m2)[i]? = some t3 := ⟨_, List.getElem?_eq_getElem hi2⟩
                obtain ⟨e, rfl, he⟩ := hTr7.2 i x t3 hx ht
                have he1 := s8 _ _ he
                refine ⟨rfl, _, rfl, _, _, _, _, rfl, rfl, SqT.of he1, rfl, _, hD8, ?_, ?_, sameAt s8 hD3⟩
                · rw [List.length_map, List.length_map, List.length_take]
                  exact small1000 (by omega)
                · rw [upd_same, list_take ht, List.map_append, List.map_append]
                  rfl
              · rintro H8 ⟨hD8, s8⟩
                rw [hT5.1, List.take_length] at hD8
                exact ⟨D3, _, rfl, SqL.of hD8, _, rfl, (by show 2 ≤ sizeLine; decide), fun t2 ht2 => q t2 l5 _ ((s7.trans s8).trans (sameAt (Same.refl _) ht2)) upd_same (sameAt (Same.refl _) ht2 _ _ (s8 _ _ hl7))⟩
end
end Ash

set_option Elab.async false
set_option linter.all false
set_option maxRecDepth 100000
set_option maxHeartbeats 4000000
namespace Ash
open PySem PySem.Spec PyProof.Rows L2 SrtT
open C8 (pss_cut)
/-! ### questions: terms and amounts -/
inductive Qn where
  | tm (t : Tm)
  | am (q : Am)
def QAt (A : AC) (C : TC) (H : Hp) (a : Addr) : Qn → Prop
  | .tm t => TmAt C H a t
  | .am q => AmAt A C H a q
def evQ (W : Tr) (now : Int) : Qn → Rs
  | .tm t => ev W now t
  | .am q => evA W now q
def Qn.NmS : Qn → Prop
  | .tm t => t.NmS
  | .am q => q.NmS
def Qn.Fit : Qn → Prop
  | .tm t => t.Fit
  | .am q => q.Fit
theorem QAt.nl {A : AC} {C : TC} {H H' : Hp} (n : NL H H') {a : Addr} : ∀ {q : Qn}, QAt A C H a q → QAt A C H' a q
  | .tm _, h => TmAt.nl n h
  | .am _, h => AmAt.nl n h
theorem QAt.same {A : AC} {C : TC} {H H' : Hp} {a : Addr} {q : Qn} (h : QAt A C H a q) (s : Same H H') : QAt A C H' a q := h.nl (nl_same s)
def spIsQ (A : AC) (C : TC) : Sp := fun vs H Q _ => ∃ a t, vs = [.ref a] ∧ QAt A C H a t ∧ ∀ H', Same H H' → Q (.bl true) H'
def spCheck (A : AC) (C : TC) (CW : Addr) : Sp := fun vs H Q _ => ∃ (a b : Addr) (t : Qn) (W : Tr) (now : Int), vs = [.ref a, .ref b, .int now] ∧ QAt A C H a t ∧ WAt CW H b W ∧ ∀ H', Same H H' → Q .non H'
def spAnswered (A : AC) (C : TC) (CW : Addr) : Sp := fun vs H Q _ => ∃ (a b : Addr) (t : Qn) (W : Tr) (now : Int), vs = [.ref a, .ref b, .int now] ∧ QAt A C H a t ∧ WAt CW H b W ∧ t.NmS ∧ t.Fit ∧ Ans H Q (evQ W now t)
def spValue (A : AC) (C : TC) (CW : Addr) : Sp := fun vs H Q _ => ∃ (a b : Addr) (t : Qn) (W : Tr) (now : Int), vs = [.ref a, .ref b, .int now] ∧ QAt A C H a t ∧ WAt CW H b W ∧ t.NmS ∧ t.Fit ∧ ∀ H', Same H H' → Q (oV (evQ W now t).1) H'
section
variable {P : Program} {w : World} {K : PySem.W.Frag} {mg : Str → Option Value} {base : Heap} {C : TC} {CW : Addr} {A0 : AC}
structure U0 (P : Program) (w : World) (K : PySem.W.Frag) (mg : Str → Option Value) (base : Heap) (A0 : AC) (C : TC) (CW : Addr) : Prop extends A2 P w K mg base C CW 12 where
  is_amount : Cal P w K mg base CX0 "is_amount" 1 ["thing"] (spIsAmount A0 C)
  looked : Cal P w K mg base CX0 "looked" 29 ["question", "world", "now", "place"] (spLookedA A0 C CW 12)
  told_between : Cal P w K mg base CX0 "told_between" 29 ["question", "world", "now"] (spTold A0 C CW 12)
abbrev s_is_question : Stmt := topS 45
theorem sc_is_question : FnScope ["thing"] ["thing"] (defScope s_is_question) := ⟨rfl, rfl, rfl, by decide +kernel, rfl, by decide +kernel, by decide +kernel⟩
theorem ok_isq {f : Addr} {fd : FuncData} (F : Fun K "is_question" "is_question" s_is_question f fd) (B : Blt mg) (AT : AF K mg A0 C) (G : U0 P w K mg base A0 C CW) : FnOk P w K mg base CX0 2 f fd ["thing"] (spIsQ A0 C) := by
  refine F.ok sc_is_question (fun vs H Q E h => ?_) (fun cdv A outer s H vs Q E hr h => ?_)
  · obtain ⟨a, t, rfl, _⟩ := h
    rfl
  · obtain ⟨a, t, rfl, hT, q⟩ := h
    refine ⟨_, (pss_one (ps_ret (pe_or (pe_cal G.is_term (hr.mono (by decide)) pass0 (pa_cons (pv 0) pa_nil)) (pe_one (pe_cal G.is_amount (hr.mono (by decide)) pass0 (pa_cons (pv 0) pa_nil)))))), ?_⟩
    cases t with
    | tm t => exact ⟨_, rfl, _, rfl, .inl ⟨a, t, rfl, hT, fun H1 s1 => ⟨_, rfl, iteT (q H1 s1)⟩⟩⟩
    | am t => exact ⟨_, rfl, _, rfl, .inr ⟨AT.noTm hT, fun H1 s1 => ⟨_, rfl, iteF ⟨_, rfl, a, t, rfl, hT.same s1, fun H2 s2 => q H2 (s1.trans s2)⟩⟩⟩⟩
structure U1 (P : Program) (w : World) (K : PySem.W.Frag) (mg : Str → Option Value) (base : Heap) (A0 : AC) (C : TC) (CW : Addr) : Prop extends U0 P w K mg base A0 C CW where
  is_question : Cal P w K mg base CX0 "is_question" 2 ["thing"] (spIsQ A0 C)
abbrev s_check : Stmt := topS 57
theorem sc_check : FnScope ["question", "world", "now"] ["question", "world", "now"] (defScope s_check) := ⟨rfl, rfl, rfl, by decide +kernel, rfl, by decide +kernel, by decide +kernel⟩
theorem ok_check {f : Addr} {fd : FuncData} (F : Fun K "check" "check" s_check f fd) (B : Blt mg) (T0 : Cw K mg CW) (I0 : BkI K CW) (G : U1 P w K mg base A0 C CW) : FnOk P w K mg base CX0 3 f fd ["question", "world", "now"] (spCheck A0 C CW) := by
  have c_World := T0.c
  refine F.ok sc_check (fun vs H Q E h => ?_) (fun cdv A outer s H vs Q E hr h => ?_)
  · obtain ⟨a, b, t, W, now, rfl, _⟩ := h
    rfl
  · obtain ⟨a, b, t, W, now, rfl, hT, hW, q⟩ := h
    refine ⟨_, (pss_cons (ps_if (pt_not (pt_val (pe_cal G.is_question (hr.mono (by decide)) pass0 (pa_cons (pv 0) pa_nil))))
      (pss_one ps_never)
      pss_nil)
    (pss_cons (ps_if (pt_not (pt_val (pe_callB call_isi (by rfl) B.isinstance (by decide +kernel) (pa_cons (pv 1) (pa_cons (pe_glob (v := .ref CW) (by rfl) c_World rfl) pa_nil)))))
      (pss_one ps_never)
      pss_nil)
    (pss_one (ps_if (pt_not (pt_val (pe_cal G.is_integer (hr.mono (by decide)) pass0 (pa_cons (pv 2) pa_nil))))
      (pss_one ps_never)
      pss_nil)))), ?_⟩
    refine ⟨_, rfl, a, t, rfl, hT, fun H1 s1 => ⟨_, rfl, iteF ?_⟩⟩
    obtain ⟨dx, d, tt, kvs, ids, h1, _⟩ := hW.same s1
    refine ⟨_, rfl, _, _, _, _, true, rfl, .own _, .base (.ins h1 T0.cl I0.ha I0.hn I0.ht I0.hm), by unfold PySem.W.kitOne; simp, _, rfl, iteF ?_⟩
    exact ⟨_, rfl, _, rfl, .inl ⟨now, rfl, _, rfl, iteF (q H1 s1)⟩⟩
abbrev s_answered : Stmt := topS 58
theorem sc_answered : FnScope ["question", "world", "now"] ["question", "world", "now"] (defScope s_answered) := ⟨rfl, rfl, rfl, by decide +kernel, rfl, by decide +kernel, by decide +kernel⟩
theorem ok_answered {f : Addr} {fd : FuncData} (F : Fun K "answered" "answered" s_answered f fd) (B : Blt mg) (Cs : Cst mg) (AT : AF K mg A0 C) (G : U1 P w K mg base A0 C CW) : FnOk P w K mg base CX0 30 f fd ["question", "world", "now"] (spAnswered A0 C CW) := by
  obtain ⟨tk, g_AMOUNT⟩ := Cs.k_AMOUNT
  have c_Number := AT.Number
  refine F.ok sc_answered (fun vs H Q E h => ?_) (fun cdv A outer s H vs Q E hr h => ?_)
  · obtain ⟨a, b, t, W, now, rfl, _⟩ := h
    rfl
  · obtain ⟨a, b, t, W, now, rfl, hT, hW, hN, hF, q⟩ := h
    refine ⟨_, (pss_cons (ps_if (pt_val (pe_cal G.is_term (hr.mono (by decide)) pass0 (pa_cons (pv 0) pa_nil)))
      (pss_one (ps_ret (pe_cal G.followed (hr.mono (by decide)) pass0 (pa_cons (pv 0) (pa_cons (pv 1) (pa_cons (pv 2) pa_nil))))))
      pss_nil)
    (pss_cons (ps_if (pt_val (pe_callB call_isi (by rfl) B.isinstance (by decide +kernel) (pa_cons (pv 0) (pa_cons (pe_glob (v := .ref A0.number) (by rfl) c_Number rfl) pa_nil))))
      (pss_one (ps_ret (pe_cal G.looked (hr.mono (by decide)) pass0 (pa_cons (pv 0) (pa_cons (pv 1) (pa_cons (pv 2) (pa_cons (pe_glob (v := .int 2) (by rfl) g_AMOUNT ⟨_, rfl⟩) pa_nil)))))))
      pss_nil)
    (pss_one (ps_ret (pe_cal G.told_between (hr.mono (by decide)) pass0 (pa_cons (pv 0) (pa_cons (pv 1) (pa_cons (pv 2) pa_nil)))))))), ?_⟩
    cases t with
    | tm t =>
      have hF : t.Fit := hF
      exact ⟨_, rfl, _, rfl, .inl ⟨a, t, rfl, hT, fun H1 s1 => ⟨_, rfl, iteT ⟨_, rfl, _, rfl, _, rfl, a, b, t, W, now, rfl, TmAt.same hT s1, hW.same s1, hN, hF, hF.1, q.same s1⟩⟩⟩⟩
    | am t =>
      have hF : t.Fit := hF
      have hT : AmAt A0 C H a t := hT
      have hN : t.NmS := hN
      refine ⟨_, rfl, _, rfl, .inr ⟨AT.noTm hT, fun H1 s1 => ⟨_, rfl, iteF ?_⟩⟩⟩
      have k := AT.one (A0.of t) A0.number (A0.is_of t) (.inl rfl)
      have nd := AT.nd
      simp only [List.nodup_cons, List.mem_cons, List.not_mem_nil, or_false, not_or] at nd
      refine ⟨_, rfl, _, _, _, _, _, rfl, .own _, AT.tyx (hT.same s1), k, _, rfl, ?_⟩
      have q : Ans H Q (evA W now t) := q
      cases t with
      | number z t =>
        rw [show decide (A0.of (.number z t) = A0.number) = true from decide_eq_true rfl]
        have hF : t.Fit := hF
        exact iteT ⟨_, rfl, _, rfl, _, rfl, a, b, t, z, W, now, rfl, hT.same s1, hW.same s1, hN.1, hN.2, hF, hF.1, q.same s1⟩
      | count z t u =>
        rw [show decide (A0.of (.count z t u) = A0.number) = false from decide_eq_false fun e => nd.1.1 e.symm]
        exact iteF ⟨_, rfl, _, rfl, _, rfl, a, b, _, W, now, rfl, hT.same s1, rfl, hW.same s1, hN, hF, q.same s1⟩
      | total z t u =>
        rw [show decide (A0.of (.total z t u) = A0.number) = false from decide_eq_false fun e => nd.1.2.1 e.symm]
        exact iteF ⟨_, rfl, _, rfl, _, rfl, a, b, _, W, now, rfl, hT.same s1, rfl, hW.same s1, hN, hF, q.same s1⟩
      | gap t u =>
        rw [show decide (A0.of (.gap t u) = A0.number) = false from decide_eq_false fun e => nd.1.2.2 e.symm]
        exact iteF ⟨_, rfl, _, rfl, _, rfl, a, b, _, W, now, rfl, hT.same s1, rfl, hW.same s1, hN, hF, q.same s1⟩
structure U2 (P : Program) (w : World) (K : PySem.W.Frag) (mg : Str → Option Value) (base : Heap) (A0 : AC) (C : TC) (CW : Addr) : Prop extends U1 P w K mg base A0 C CW where
  check : Cal P w K mg base CX0 "check" 3 ["question", "world", "now"] (spCheck A0 C CW)
  answered : Cal P w K mg base CX0 "answered" 30 ["question", "world", "now"] (spAnswered A0 C CW)
abbrev s_value : Stmt := topS 55
theorem sc_value : FnScope ["question", "world", "now", "answer", "_"] ["question", "world", "now"] (defScope s_value) := ⟨rfl, rfl, rfl, by decide +kernel, rfl, by decide +kernel, by decide +kernel⟩
theorem ok_value {f : Addr} {fd : FuncData} (F : Fun K "value" "value" s_value f fd) (B : Blt mg) (G : U2 P w K mg base A0 C CW) : FnOk P w K mg base CX0 31 f fd ["question", "world", "now"] (spValue A0 C CW) := by
  refine F.ok sc_value (fun vs H Q E h => ?_) (fun cdv A outer s H vs Q E hr h => ?_)
  · obtain ⟨a, b, t, W, now, rfl, _⟩ := h
    rfl
  · obtain ⟨a, b, t, W, now, rfl, hT, hW, hN, hF, q⟩ := h
    refine ⟨_, (pss_cons (ps_expr (pe_cal G.check (hr.mono (by decide)) pass0 (pa_cons (pv 0) (pa_cons (pv 1) (pa_cons (pv 2) pa_nil)))))
    (pss_cons (ps_asg (pe_cal G.answered (hr.mono (by decide)) pass0 (pa_cons (pv 0) (pa_cons (pv 1) (pa_cons (pv 2) pa_nil)))) (pg_tup (by rfl) (pgs_cons (pg_name (i := 3) sc_value.nd rfl (Or.inl rfl)) (pgs_cons (pg_name (i := 4) sc_value.nd rfl (Or.inl rfl)) pgs_nil))))
    (pss_one (ps_ret (pv 3))))), ?_⟩
    refine ⟨_, rfl, _, rfl, _, rfl, a, b, t, W, now, rfl, hT, hW, fun H1 s1 => ?_⟩
    refine ⟨_, rfl, _, rfl, _, rfl, a, b, t, W, now, rfl, hT.same s1, hW.same s1, hN, hF, fun q1 l H2 s2 hq1 hl => ?_⟩
    exact ⟨q1, _, rfl, SqT.of hq1, rfl, _, _, rfl, _, _, rfl, rfl, _, rfl, q H2 (s1.trans s2)⟩
end
end Ash

set_option Elab.async false
set_option linter.all false
set_option maxRecDepth 100000
set_option maxHeartbeats 4000000
namespace Ash
open PySem PySem.Spec PyProof.Rows L2 SrtT
open C8 (pss_cut)
/-! ### pairs of terms, shifts back -/
def spPair (C : TC) (mk : Tm → Tm → Tm) : Sp := fun vs H Q _ => ∃ (a b : Addr) (t u : Tm), vs = [.ref a, .ref b] ∧ TmAt C H a t ∧ TmAt C H b u ∧ (mk t u).Fit ∧ ∀ a' H', TmAt C H' a' (mk t u) → Same H H' → Q (.ref a') H'
def spMinus (C : TC) : Sp := fun vs H Q _ => ∃ (a : Addr) (t : Tm) (n : Int), vs = [.ref a, .int n] ∧ TmAt C H a t ∧ (t.plus (-n)).Fit ∧ ∀ a' H', TmAt C H' a' (t.plus (-n)) → Same H H' → Q (.ref a') H'
section
variable {P : Program} {w : World} {K : PySem.W.Frag} {mg : Str → Option Value} {base : Heap} {C : TC} {CW : Addr}
structure V4 (P : Program) (w : World) (K : PySem.W.Frag) (mg : Str → Option Value) (base : Heap) (C : TC) (CW : Addr) : Prop extends V3 P w K mg base C CW where
  Either : Mak P w K mg base CX0 "Either" C.either 2 ["self", "first", "second"] (spInitP C C.either Tm.either)
  Later : Mak P w K mg base CX0 "Later" C.later 2 ["self", "first", "second"] (spInitP C C.later Tm.later)
  Earlier : Mak P w K mg base CX0 "Earlier" C.earlier 2 ["self", "first", "second"] (spInitP C C.earlier Tm.earlier)
abbrev s_Term_or : Stmt := inClass (topS 21) 3
theorem sc_Term_or : FnScope ["self", "other"] ["self", "other"] (defScope s_Term_or) := ⟨rfl, rfl, rfl, by decide +kernel, rfl, by decide +kernel, by decide +kernel⟩
theorem ok_tor {f : Addr} {fd : FuncData} (F : Fun K "__or__" "Term.__or__" s_Term_or f fd) (B : Blt mg) (G : V4 P w K mg base C CW) : FnOk P w K mg base CX0 4 f fd ["self", "other"] (spPair C Tm.either) := by
  refine F.ok sc_Term_or (fun vs H Q E h => ?_) (fun cdv A outer s H vs Q E hr h => ?_)
  · obtain ⟨a, b, t, u, rfl, _⟩ := h
    rfl
  · obtain ⟨a, b, t, u, rfl, hT, hU, hF, q⟩ := h
    refine ⟨_, (pss_cons (ps_if (pt_not (pt_val (pe_cal G.is_term (hr.mono (by decide)) pass0 (pa_cons (pv 1) pa_nil))))
      (pss_one ps_never)
      pss_nil)
    (pss_one (ps_ret (pe_mak G.Either (hr.mono (by decide)) pass0 (pa_cons (pv 0) (pa_cons (pv 1) pa_nil)))))), ?_⟩
    refine ⟨_, rfl, _, rfl, .inl ⟨b, u, rfl, hU, fun H1 s1 => ⟨_, rfl, iteF ?_⟩⟩⟩
    exact ⟨_, rfl, _, rfl, fun x dx hx hdx hne => ⟨x, dx, a, b, t, u, rfl, upd_same, (hT.same s1).same (sameAt (sameAt (Same.refl H1) hdx) hx), (hU.same s1).same (sameAt (sameAt (Same.refl H1) hdx) hx), hF, fun H' hT' hK => ⟨rfl, q x H' hT' (s1.trans (keep_make hK hx hdx))⟩⟩⟩
abbrev s_Term_later : Stmt := inClass (topS 21) 4
theorem sc_Term_later : FnScope ["self", "other"] ["self", "other"] (defScope s_Term_later) := ⟨rfl, rfl, rfl, by decide +kernel, rfl, by decide +kernel, by decide +kernel⟩
theorem ok_tlater {f : Addr} {fd : FuncData} (F : Fun K "later" "Term.later" s_Term_later f fd) (B : Blt mg) (G : V4 P w K mg base C CW) : FnOk P w K mg base CX0 4 f fd ["self", "other"] (spPair C Tm.later) := by
  refine F.ok sc_Term_later (fun vs H Q E h => ?_) (fun cdv A outer s H vs Q E hr h => ?_)
  · obtain ⟨a, b, t, u, rfl, _⟩ := h
    rfl
  · obtain ⟨a, b, t, u, rfl, hT, hU, hF, q⟩ := h
    refine ⟨_, (pss_cons (ps_if (pt_not (pt_val (pe_cal G.is_term (hr.mono (by decide)) pass0 (pa_cons (pv 1) pa_nil))))
      (pss_one ps_never)
      pss_nil)
    (pss_one (ps_ret (pe_mak G.Later (hr.mono (by decide)) pass0 (pa_cons (pv 0) (pa_cons (pv 1) pa_nil)))))), ?_⟩
    refine ⟨_, rfl, _, rfl, .inl ⟨b, u, rfl, hU, fun H1 s1 => ⟨_, rfl, iteF ?_⟩⟩⟩
    exact ⟨_, rfl, _, rfl, fun x dx hx hdx hne => ⟨x, dx, a, b, t, u, rfl, upd_same, (hT.same s1).same (sameAt (sameAt (Same.refl H1) hdx) hx), (hU.same s1).same (sameAt (sameAt (Same.refl H1) hdx) hx), hF, fun H' hT' hK => ⟨rfl, q x H' hT' (s1.trans (keep_make hK hx hdx))⟩⟩⟩
abbrev s_Term_earlier : Stmt := inClass (topS 21) 5
theorem sc_Term_earlier : FnScope ["self", "other"] ["self", "other"] (defScope s_Term_earlier) := ⟨rfl, rfl, rfl, by decide +kernel, rfl, by decide +kernel, by decide +kernel⟩
theorem ok_tearlier {f : Addr} {fd : FuncData} (F : Fun K "earlier" "Term.earlier" s_Term_earlier f fd) (B : Blt mg) (G : V4 P w K mg base C CW) : FnOk P w K mg base CX0 4 f fd ["self", "other"] (spPair C Tm.earlier) := by
  refine F.ok sc_Term_earlier (fun vs H Q E h => ?_) (fun cdv A outer s H vs Q E hr h => ?_)
  · obtain ⟨a, b, t, u, rfl, _⟩ := h
    rfl
  · obtain ⟨a, b, t, u, rfl, hT, hU, hF, q⟩ := h
    refine ⟨_, (pss_cons (ps_if (pt_not (pt_val (pe_cal G.is_term (hr.mono (by decide)) pass0 (pa_cons (pv 1) pa_nil))))
      (pss_one ps_never)
      pss_nil)
    (pss_one (ps_ret (pe_mak G.Earlier (hr.mono (by decide)) pass0 (pa_cons (pv 0) (pa_cons (pv 1) pa_nil)))))), ?_⟩
    refine ⟨_, rfl, _, rfl, .inl ⟨b, u, rfl, hU, fun H1 s1 => ⟨_, rfl, iteF ?_⟩⟩⟩
    exact ⟨_, rfl, _, rfl, fun x dx hx hdx hne => ⟨x, dx, a, b, t, u, rfl, upd_same, (hT.same s1).same (sameAt (sameAt (Same.refl H1) hdx) hx), (hU.same s1).same (sameAt (sameAt (Same.refl H1) hdx) hx), hF, fun H' hT' hK => ⟨rfl, q x H' hT' (s1.trans (keep_make hK hx hdx))⟩⟩⟩
abbrev s_Term_sub : Stmt := inClass (topS 21) 2
theorem sc_Term_sub : FnScope ["self", "other"] ["self", "other"] (defScope s_Term_sub) := ⟨rfl, rfl, rfl, by decide +kernel, rfl, by decide +kernel, by decide +kernel⟩
theorem ok_tsub {f : Addr} {fd : FuncData} (F : Fun K "__sub__" "Term.__sub__" s_Term_sub f fd) (B : Blt mg) (G : V3 P w K mg base C CW) : FnOk P w K mg base CX0 5 f fd ["self", "other"] (spMinus C) := by
  refine F.ok sc_Term_sub (fun vs H Q E h => ?_) (fun cdv A outer s H vs Q E hr h => ?_)
  · obtain ⟨a, t, n, rfl, _⟩ := h
    rfl
  · obtain ⟨a, t, n, rfl, hT, hF, q⟩ := h
    refine ⟨_, (pss_cons (ps_if (pt_not (pt_val (pe_cal G.is_integer (hr.mono (by decide)) pass0 (pa_cons (pv 1) pa_nil))))
      (pss_one ps_never)
      pss_nil)
    (pss_one (ps_ret (pe_cal G.shifted (hr.mono (by decide)) pass0 (pa_cons (pv 0) (pa_cons (pe_un un_neg (pv 1)) pa_nil)))))), ?_⟩
    exact ⟨_, rfl, _, rfl, .inl ⟨n, rfl, _, rfl, iteF ⟨_, rfl, _, rfl, _, rfl, a, t, -n, rfl, hT, hF, q⟩⟩⟩
end
end Ash

set_option Elab.async false
set_option linter.all false
set_option maxRecDepth 100000
set_option maxHeartbeats 4000000
namespace Ash
open PySem PySem.Spec PyProof.Rows L2 SrtT
open C8 (pss_cut)
theorem dp_ints {K : PySem.W.Frag} {H : Hp} : ∀ is : List Int, DpAll K H (is.map V.int) (is.map PyData.int)
  | [] => .nil
  | i :: r => .cons (.int i) (dp_ints r)
theorem ints_shaped (is : List Int) : SeqAt.shaped (.list (is.map PyData.int)) = true := by
  have q : (is.map PyData.int).all flatD = true := by
    rw [List.all_eq_true]
    intro d hd
    obtain ⟨_, _, rfl⟩ := List.mem_map.mp hd
    rfl
  obtain ⟨h1, h2⟩ := flat_lay q
  unfold SeqAt.shaped
  simp [PyData.canLay0, PyData.depth, h1]
  omega
/-- data are as themselves -/
theorem eqv_self {d : PyData} (h : SeqAt.shaped d = true) : PyData.eqv d d = true := SeqAt.eqv_refl d (SeqAt.canLay_of_shaped h)
theorem asc_same : ∀ {xs ys : List Int}, xs.Pairwise (· < ·) → ys.Pairwise (· < ·) → (∀ z, z ∈ xs ↔ z ∈ ys) → xs = ys
  | [], [], _, _, _ => rfl
  | [], y :: ys, _, _, h => nomatch (h y).mpr List.mem_cons_self
  | x :: xs, [], _, _, h => nomatch (h x).mp List.mem_cons_self
  | x :: xs, y :: ys, hx, hy, h => by
    obtain ⟨hx1, hx2⟩ := List.pairwise_cons.mp hx
    obtain ⟨hy1, hy2⟩ := List.pairwise_cons.mp hy
    have e : x = y := by
      rcases List.mem_cons.mp ((h x).mp List.mem_cons_self) with e | e
      · exact e
      · rcases List.mem_cons.mp ((h y).mpr List.mem_cons_self) with e2 | e2
        · exact e2.symm
        · have := hx1 y e2
          have := hy1 x e
          omega
    subst e
    refine congrArg (x :: ·) (asc_same hx2 hy2 fun z => ⟨fun hz => ?_, fun hz => ?_⟩)
    · rcases List.mem_cons.mp ((h z).mp (List.mem_cons_of_mem _ hz)) with e | e
      · have := hx1 z hz
        omega
      · exact e
    · rcases List.mem_cons.mp ((h z).mpr (List.mem_cons_of_mem _ hz)) with e | e
      · have := hy1 z hz
        omega
      · exact e
def td (t : T3) : PyData := .tuple [.int t.1, .int t.2.1, .int t.2.2]
theorem tds_flat : ∀ ts : List T3, PyData.canLayAll0 (ts.map td) = true ∧ PyData.depthAll (ts.map td) ≤ 2
  | [] => by simp [PyData.canLayAll0, PyData.depthAll]
  | x :: xs => by
    obtain ⟨b1, b2⟩ := tds_flat xs
    rw [List.map_cons]
    have a1 : (td x).canLay0 = true := by simp [td, PyData.canLay0, PyData.canLayAll0]
    have a2 : (td x).depth ≤ 2 := by simp [td, PyData.depth, PyData.depthAll]
    simp only [PyData.canLayAll0, PyData.depthAll, a1, b1, Bool.and_self, true_and]
    omega
theorem tds_shaped (ts : List T3) : SeqAt.shaped (.list (ts.map td)) = true := by
  obtain ⟨h1, h2⟩ := tds_flat ts
  unfold SeqAt.shaped
  simp [PyData.canLay0, PyData.depth, h1]
  omega
theorem TrAt.dp {K : PySem.W.Frag} {H : Hp} : ∀ {ys : List V} {ts : List T3}, TrAt H ys ts → DpAll K H ys (ts.map td)
  | [], [], _ => .nil
  | [], _ :: _, h => by have := h.1; simp at this
  | _ :: _, [], h => by have := h.1; simp at this
  | y :: ys, t :: ts, h => by
    obtain ⟨e, rfl, he⟩ := h.2 0 y t rfl rfl
    exact .cons (.tup (SqT.of he) (.cons (.int _) (.cons (.int _) (.cons (.int _) .nil)))) (TrAt.dp ⟨by have := h.1; simpa using this, fun i v u a b => h.2 (i + 1) v u a b⟩)
/-! ### shifts -/
theorem moveR_0 (r : Rs) : moveR r 0 = r := by
  obtain ⟨a, b⟩ := r
  cases a with
  | none => rfl
  | some m => show (some (m + 0), b) = _; rw [Int.add_zero]
theorem moveR_2 (r : Rs) (m n : Int) : moveR (moveR r m) n = moveR r (m + n) := by
  obtain ⟨a, b⟩ := r
  cases a with
  | none => rfl
  | some k => show (some (k + m + n), b) = (some (k + (m + n)), b); rw [Int.add_assoc]
theorem plus_ev {W : Tr} {now : Int} (t : Tm) (n : Int) : ev W now (t.plus n) = moveR (ev W now t) n := by
  unfold Tm.plus
  split
  · next h => rw [h, moveR_0]
  · split
    · next m u =>
      show ev W now (if m + n = 0 then u else .shift (m + n) u) = moveR (moveR (ev W now u) m) n
      rw [moveR_2]
      split
      · next h => rw [h, moveR_0]
      · rfl
    · rfl
theorem plus_nm {t : Tm} {n : Int} (h : t.NmS) : (t.plus n).NmS := by
  unfold Tm.plus
  split
  · exact h
  · split
    · next m u =>
      split
      · exact h
      · exact h
    · exact h
theorem plus_sz {t : Tm} {n : Int} : (t.plus n).dep ≤ t.dep + 1 ∧ (t.plus n).par ≤ t.par + 1 ∧ (t.plus n).lok ≤ t.lok := by
  unfold Tm.plus
  split
  · exact ⟨by omega, by omega, by omega⟩
  · split
    · next m u =>
      have e1 : (Tm.shift m u).dep = 1 + u.dep := rfl
      have e2 : (Tm.shift m u).par = 1 + u.par := rfl
      have e3 : (Tm.shift m u).lok = 0 + u.lok := rfl
      split
      · exact ⟨by omega, by omega, by omega⟩
      · have f1 : (Tm.shift (m + n) u).dep = 1 + u.dep := rfl
        have f2 : (Tm.shift (m + n) u).par = 1 + u.par := rfl
        have f3 : (Tm.shift (m + n) u).lok = 0 + u.lok := rfl
        exact ⟨by omega, by omega, by omega⟩
    · have f1 : ∀ u : Tm, (Tm.shift n u).dep = 1 + u.dep := fun _ => rfl
      have f2 : ∀ u : Tm, (Tm.shift n u).par = 1 + u.par := fun _ => rfl
      have f3 : ∀ u : Tm, (Tm.shift n u).lok = 0 + u.lok := fun _ => rfl
      exact ⟨by rw [f1]; omega, by rw [f2]; omega, by rw [f3]; omega⟩
/-! ### what the law keeps -/
/-- all but the pool and one list stands -/
structure Fz (H0 H : Hp) (p s sn : Addr) : Prop where
  now : PoolAt H p s
  keep : ∀ c o, H0 c = some o → c ≠ p → c ≠ sn → H c = some o
theorem Fz.pl {H0 H1 H2 : Hp} {p s sn : Addr} (z : Fz H0 H1 p s sn) (P : Pl H1 H2 p s) : Fz H0 H2 p s sn := ⟨P.now, fun c o h n1 n2 => P.keep (z.keep c o h n1 n2) n1⟩
theorem Fz.same {H0 H1 H2 : Hp} {p s sn : Addr} (z : Fz H0 H1 p s sn) (e : Same H1 H2) : Fz H0 H2 p s sn := ⟨z.now.same e, fun c o h n1 n2 => e _ _ (z.keep c o h n1 n2)⟩
theorem Fz.upd {H0 H1 : Hp} {p s sn : Addr} {o : HO} (z : Fz H0 H1 p s sn) (n1 : sn ≠ p) (n2 : sn ≠ s) : Fz H0 (upd H1 sn o) p s sn := ⟨z.now.off n1 n2, fun c o h m1 m2 => by rw [upd_ne m2]; exact z.keep c o h m1 m2⟩
theorem nl_pl {H H' : Hp} {p s : Addr} (P0 : PoolAt H p s) (P : Pl H H' p s) : NL H H' := fun c o h n => by
  obtain ⟨ns, i, c', k, m, hp, _⟩ := P0
  exact P.keep h fun e => by rw [e, hp] at h; exact n _ (Option.some.inj h).symm
theorem nl_upd {H : Hp} {q : Addr} {xs : List V} {o : HO} (h : H q = some (.lst xs)) : NL H (upd H q o) := fun c u hc n => by
  rw [upd_ne fun e => by rw [e, h] at hc; exact n _ (Option.some.inj hc).symm]
  exact hc
theorem Fz.nl {H0 H1 : Hp} {p s sn : Addr} {xs : List V} (z : Fz H0 H1 p s sn) (hp : PoolAt H0 p s) (hs : H0 sn = some (.lst xs)) : NL H0 H1 := fun c o h n => by
  obtain ⟨ns, i, c', k, m, hp, _⟩ := hp
  refine z.keep c o h (fun e => ?_) (fun e => ?_)
  · rw [e, hp] at h
    exact n _ (Option.some.inj h).symm
  · rw [e, hs] at h
    exact n _ (Option.some.inj h).symm
theorem RwAt.fz {H0 H1 : Hp} {p s sn d : Addr} {names : List Str} {A : Str → Addr} {T : Tr} {xs : List V} (R : RwAt H0 d names A T) (z : Fz H0 H1 p s sn) (hp : PoolAt H0 p s) (hs : H0 sn = some (.lst xs)) (n : ∀ y ∈ names, A y ≠ p ∧ A y ≠ sn) : RwAt H1 d names A T := by
  have nl := z.nl hp hs
  exact ⟨nl _ _ R.at_ (fun _ z => nomatch z), fun y hy => by
    obtain ⟨ys, h1, h2⟩ := R.row y hy
    exact ⟨ys, z.keep _ _ h1 (n y hy).1 (n y hy).2, h2.tk fun t us q => nl _ _ q (fun _ z => nomatch z)⟩, R.inj⟩
/-- the copies that the law has made -/
def KpAt (H : Hp) (us : List V) (names : List Str) (T : Tr) (N : Addr → Prop) : Prop := us.length = names.length ∧ ∀ (i : Nat) z, names[i]? = some z → ∃ e c ys, us[i]? = some (.ref e) ∧ H e = some (.tup [.str z, .ref c]) ∧ H c = some (.lst ys) ∧ TrAt H ys (T z) ∧ N c
theorem KpAt.to {H H' : Hp} {us : List V} {names : List Str} {T : Tr} {N N' : Addr → Prop} (k : KpAt H us names T N) (nl : NL H H') (hk : ∀ c ys, H c = some (.lst ys) → N c → H' c = some (.lst ys) ∧ N' c) : KpAt H' us names T N' := ⟨k.1, fun i z h => by
  obtain ⟨e, c, ys, h1, h2, h3, h4, h5⟩ := k.2 i z h
  obtain ⟨h6, h7⟩ := hk c ys h3 h5
  exact ⟨e, c, ys, h1, nl _ _ h2 (fun _ z => nomatch z), h6, h4.tk fun t us q => nl _ _ q (fun _ z => nomatch z), h7⟩⟩
theorem KpAt.snoc {H : Hp} {us : List V} {names : List Str} {T : Tr} {N : Addr → Prop} {e c : Addr} {z : Str} {ys : List V} (k : KpAt H us names T N) (he : H e = some (.tup [.str z, .ref c])) (hc : H c = some (.lst ys)) (hT : TrAt H ys (T z)) (n : N c) : KpAt H (us ++ [.ref e]) (names ++ [z]) T N := by
  refine ⟨by rw [List.length_append, List.length_append, k.1]; rfl, fun i y h => ?_⟩
  by_cases hi : i < names.length
  · rw [List.getElem?_append_left hi] at h
    obtain ⟨e', c', ys', h1, h2⟩ := k.2 i y h
    exact ⟨e', c', ys', by rw [List.getElem?_append_left (by rw [k.1]; exact hi)]; exact h1, h2⟩
  · have hi' : i = names.length := by
      have := (List.getElem?_eq_some_iff.mp h).1
      rw [List.length_append] at this
      have : i < names.length + 1 := this
      omega
    subst hi'
    rw [List.getElem?_append_right (Nat.le_refl _), Nat.sub_self] at h
    cases h
    exact ⟨e, c, ys, by rw [List.getElem?_append_right (by rw [k.1]; exact Nat.le_refl _), k.1, Nat.sub_self]; rfl, he, hc, hT, n⟩
theorem look_none {r : Rs} {f : Int → Option T3} (h : r.1.bind f = none) : lookR r f = (none, r.2) := by
  obtain ⟨a, b⟩ := r
  cases a with
  | none => rfl
  | some m =>
    have h : f m = none := h
    show (match f m with | none => (none, b) | some t => _) = _
    rw [h]
theorem look_some {r : Rs} {f : Int → Option T3} {t : T3} (h : r.1.bind f = some t) : lookR r f = (some t.1, r.2 ++ [t.2.1]) := by
  obtain ⟨a, b⟩ := r
  cases a with
  | none => cases h
  | some m =>
    have h : f m = some t := h
    show (match f m with | none => (none, b) | some t => _) = _
    rw [h]
theorem oV_fst {r : Rs} {d : Option Int} (h : r.1 = d) : oV r.1 = oV d := by rw [h]
end Ash

set_option Elab.async false
set_option linter.all false
set_option maxRecDepth 100000
set_option maxHeartbeats 4000000
namespace Ash
open PySem PySem.Spec PyProof.Rows L2 SrtT
open C8 (pss_cut)
/-! ### terms as the law draws them: tuples in tuples -/
def MdAt (H : Hp) : Addr → Tm → Prop
  | e, .now => H e = some (.tup [.str "now"])
  | e, .last s t => ∃ b, H e = some (.tup [.str "last", .str s, .ref b]) ∧ MdAt H b t
  | e, .next s t => ∃ b, H e = some (.tup [.str "next", .str s, .ref b]) ∧ MdAt H b t
  | e, .shift n t => ∃ b, H e = some (.tup [.str "shift", .int n, .ref b]) ∧ MdAt H b t
  | e, .either t u => ∃ b c, H e = some (.tup [.str "either", .ref b, .ref c]) ∧ MdAt H b t ∧ MdAt H c u
  | e, .later t u => ∃ b c, H e = some (.tup [.str "later", .ref b, .ref c]) ∧ MdAt H b t ∧ MdAt H c u
  | e, .earlier t u => ∃ b c, H e = some (.tup [.str "earlier", .ref b, .ref c]) ∧ MdAt H b t ∧ MdAt H c u
theorem MdAt.tk {H H' : Hp} (n : ∀ t xs, H t = some (.tup xs) → H' t = some (.tup xs)) : ∀ {t : Tm} {a : Addr}, MdAt H a t → MdAt H' a t
  | .now, a, h => n _ _ h
  | .last s t, a, ⟨b, h1, h2⟩ => ⟨b, n _ _ h1, MdAt.tk n h2⟩
  | .next s t, a, ⟨b, h1, h2⟩ => ⟨b, n _ _ h1, MdAt.tk n h2⟩
  | .shift s t, a, ⟨b, h1, h2⟩ => ⟨b, n _ _ h1, MdAt.tk n h2⟩
  | .either s t, a, ⟨b, c, h1, h2, h3⟩ => ⟨b, c, n _ _ h1, MdAt.tk n h2, MdAt.tk n h3⟩
  | .later s t, a, ⟨b, c, h1, h2, h3⟩ => ⟨b, c, n _ _ h1, MdAt.tk n h2, MdAt.tk n h3⟩
  | .earlier s t, a, ⟨b, c, h1, h2, h3⟩ => ⟨b, c, n _ _ h1, MdAt.tk n h2, MdAt.tk n h3⟩
theorem pl_tk {H H' : Hp} {p s : Addr} (P0 : PoolAt H p s) (P : Pl H H' p s) : ∀ t xs, H t = some (.tup xs) → H' t = some (.tup xs) := fun t xs h => nl_pl P0 P _ _ h (fun _ z => nomatch z)
/-- the term that is built -/
def bt : Tm → Tm
  | .now => .now
  | .last s t => .last s (bt t)
  | .next s t => .next s (bt t)
  | .shift n t => (bt t).plus n
  | .either a b => .either (bt a) (bt b)
  | .later a b => .later (bt a) (bt b)
  | .earlier a b => .earlier (bt a) (bt b)
theorem mx_mono {a b c d : Int} (h1 : a ≤ c) (h2 : b ≤ d) : Tm.mx a b ≤ Tm.mx c d := by
  unfold Tm.mx
  split <;> split <;> omega
theorem bt_sz : ∀ t : Tm, (bt t).dep ≤ t.dep ∧ (bt t).par ≤ t.par ∧ (bt t).lok ≤ t.lok
  | .now => ⟨Int.le_refl _, Int.le_refl _, Int.le_refl _⟩
  | .last s t => by
    obtain ⟨h1, h2, h3⟩ := bt_sz t
    exact ⟨by show 1 + (bt t).dep ≤ 1 + t.dep; omega, by show 1 + (bt t).par ≤ 1 + t.par; omega, by show 1 + (bt t).lok ≤ 1 + t.lok; omega⟩
  | .next s t => by
    obtain ⟨h1, h2, h3⟩ := bt_sz t
    exact ⟨by show 1 + (bt t).dep ≤ 1 + t.dep; omega, by show 1 + (bt t).par ≤ 1 + t.par; omega, by show 1 + (bt t).lok ≤ 1 + t.lok; omega⟩
  | .shift n t => by
    obtain ⟨h1, h2, h3⟩ := bt_sz t
    obtain ⟨q1, q2, q3⟩ := plus_sz (t := bt t) (n := n)
    exact ⟨by show ((bt t).plus n).dep ≤ 1 + t.dep; omega, by show ((bt t).plus n).par ≤ 1 + t.par; omega, by show ((bt t).plus n).lok ≤ 0 + t.lok; omega⟩
  | .either a b => by
    obtain ⟨h1, h2, h3⟩ := bt_sz a
    obtain ⟨g1, g2, g3⟩ := bt_sz b
    have := mx_mono h1 g1
    exact ⟨by show 1 + Tm.mx (bt a).dep (bt b).dep ≤ 1 + Tm.mx a.dep b.dep; omega, by show 1 + ((bt a).par + (bt b).par) ≤ 1 + (a.par + b.par); omega, by show 0 + ((bt a).lok + (bt b).lok) ≤ 0 + (a.lok + b.lok); omega⟩
  | .later a b => by
    obtain ⟨h1, h2, h3⟩ := bt_sz a
    obtain ⟨g1, g2, g3⟩ := bt_sz b
    have := mx_mono h1 g1
    exact ⟨by show 1 + Tm.mx (bt a).dep (bt b).dep ≤ 1 + Tm.mx a.dep b.dep; omega, by show 1 + ((bt a).par + (bt b).par) ≤ 1 + (a.par + b.par); omega, by show 0 + ((bt a).lok + (bt b).lok) ≤ 0 + (a.lok + b.lok); omega⟩
  | .earlier a b => by
    obtain ⟨h1, h2, h3⟩ := bt_sz a
    obtain ⟨g1, g2, g3⟩ := bt_sz b
    have := mx_mono h1 g1
    exact ⟨by show 1 + Tm.mx (bt a).dep (bt b).dep ≤ 1 + Tm.mx a.dep b.dep; omega, by show 1 + ((bt a).par + (bt b).par) ≤ 1 + (a.par + b.par); omega, by show 0 + ((bt a).lok + (bt b).lok) ≤ 0 + (a.lok + b.lok); omega⟩
theorem bt_nm : ∀ {t : Tm}, t.NmS → (bt t).NmS
  | .now, _ => trivial
  | .last s t, h => ⟨h.1, bt_nm h.2⟩
  | .next s t, h => ⟨h.1, bt_nm h.2⟩
  | .shift n t, h => plus_nm (bt_nm (t := t) h)
  | .either a b, h => ⟨bt_nm h.1, bt_nm h.2⟩
  | .later a b, h => ⟨bt_nm h.1, bt_nm h.2⟩
  | .earlier a b, h => ⟨bt_nm h.1, bt_nm h.2⟩
/-- the streams of a term are among these -/
def Tm.InS (ns : List Str) : Tm → Prop
  | .now => True
  | .last s t => s ∈ ns ∧ Tm.InS ns t
  | .next s t => s ∈ ns ∧ Tm.InS ns t
  | .shift _ t => Tm.InS ns t
  | .either a b => Tm.InS ns a ∧ Tm.InS ns b
  | .later a b => Tm.InS ns a ∧ Tm.InS ns b
  | .earlier a b => Tm.InS ns a ∧ Tm.InS ns b
/-- how large a term of so many levels may be -/
def pB : Nat → Int
  | 0 => 1
  | d + 1 => 1 + 2 * pB d
def lB : Nat → Int
  | 0 => 0
  | 1 => 1
  | d + 2 => 2 * lB (d + 1)
theorem lB_pos : ∀ d, 1 ≤ lB (d + 1)
  | 0 => Int.le_refl 1
  | d + 1 => by have := lB_pos d; show 1 ≤ 2 * lB (d + 1); omega
theorem lB_nn : ∀ d, 0 ≤ lB d
  | 0 => Int.le_refl 0
  | d + 1 => by have := lB_pos d; omega
theorem lB_up : ∀ d, 1 + lB d ≤ lB (d + 1) ∧ 2 * lB d ≤ lB (d + 1)
  | 0 => ⟨by decide, by decide⟩
  | d + 1 => by have := lB_pos d; exact ⟨by show 1 + lB (d + 1) ≤ 2 * lB (d + 1); omega, by show 2 * lB (d + 1) ≤ 2 * lB (d + 1); omega⟩
theorem pB_pos : ∀ d, 1 ≤ pB d
  | 0 => Int.le_refl 1
  | d + 1 => by have := pB_pos d; show 1 ≤ 1 + 2 * pB d; omega
structure Lev (t : Tm) (d : Nat) : Prop where
  dep : t.dep ≤ (d : Int) + 1
  par : t.par ≤ pB d
  lok : t.lok ≤ lB d
  nm : t.NmS
def spLTerm (d : Nat) : Sp := fun vs H Q _ => ∃ (p s l : Addr) (names : List Str), vs = [.ref p, .ref l, .int (d : Int)] ∧ PoolAt H p s ∧ l ≠ p ∧ H l = some (.lst (names.map V.str)) ∧ 1 ≤ names.length ∧ names.length ≤ 25 ∧ (∀ z ∈ names, IsNm z) ∧
  ∀ e t H', MdAt H' e t → Lev t d → t.InS names → Pl H H' p s → Q (.ref e) H'
def spBuilt (C : TC) (d : Nat) : Sp := fun vs H Q _ => ∃ (e : Addr) (t : Tm), vs = [.ref e] ∧ MdAt H e t ∧ t.NmS ∧ t.Fit ∧ t.dep ≤ (d : Int) ∧ ∀ a H', TmAt C H' a (bt t) → Same H H' → Q (.ref a) H'
section
variable {P : Program} {w : World} {K : PySem.W.Frag} {mg : Str → Option Value} {base : Heap} {C : TC} {CW : Addr}
abbrev s_l_term : Stmt := topS 73
theorem sc_l_term : FnScope ["pool", "streams", "depth", "kind", "inner"] ["pool", "streams", "depth"] (defScope s_l_term) := ⟨rfl, rfl, rfl, by decide +kernel, rfl, by decide +kernel, by decide +kernel⟩
theorem ok_lterm0 {f : Addr} {fd : FuncData} (F : Fun K "_law_term" "_law_term" s_l_term f fd) (B : Blt mg) (G : G2w P w K mg base) : FnOk P w K mg base CX0 (0 + 3) f fd ["pool", "streams", "depth"] (spLTerm 0) := by
  refine F.ok sc_l_term (fun vs H Q E h => ?_) (fun cdv A outer s H vs Q E hr h => ?_)
  · obtain ⟨p, s, l, names, rfl, _⟩ := h
    rfl
  · obtain ⟨p, s0, l, names, rfl, hP, hlp, hl, n1, n25, hnm, q⟩ := h
    refine ⟨_, (pss_cons (ps_set (i := 3) sc_l_term.nd rfl (Or.inl rfl) (pe_cal G.law_draw (hr.mono (by decide)) pass0 (pa_cons (pv 0) (pa_cons pe_int pa_nil))))
    (pss_cons (ps_if (PW.pt (pw_or (pt_cmpR op_eq (pv 2) pe_int (nomark _)) (pw_or1 (pt_cmpR op_eq (pv 3) pe_int (nomark _)))))
      (pss_one (ps_ret (pe_tup (pa_cons pe_str pa_nil))))
      pss_nil)
    (pss_cons ps_never
    (pss_cons (ps_if (pt_cmpR op_lt (pv 3) pe_int (nomark _))
      (pss_one (ps_ret (pe_tup (pa_cons pe_str (pa_cons (pe_ix ix_list (pv 1) (pe_cal G.law_draw (hr.mono (by decide)) pass0 (pa_cons (pv 0) (pa_cons (pe_callB call_len (by rfl) B.len (by decide +kernel) (pa_cons (pv 1) pa_nil)) pa_nil))) (fun _ _ => rfl)) (pa_cons (pv 4) pa_nil))))))
      pss_nil)
    (pss_cons (ps_if (pt_cmpR op_eq (pv 3) pe_int (nomark _))
      (pss_one (ps_ret (pe_tup (pa_cons pe_str (pa_cons (pe_ix ix_list (pv 1) (pe_cal G.law_draw (hr.mono (by decide)) pass0 (pa_cons (pv 0) (pa_cons (pe_callB call_len (by rfl) B.len (by decide +kernel) (pa_cons (pv 1) pa_nil)) pa_nil))) (fun _ _ => rfl)) (pa_cons (pv 4) pa_nil))))))
      pss_nil)
    (pss_cons (ps_if (pt_cmpR op_eq (pv 3) pe_int (nomark _))
      (pss_one (ps_ret (pe_tup (pa_cons pe_str (pa_cons (pe_cal G.law_moment (hr.mono (by decide)) pass0 (pa_cons (pv 0) pa_nil)) (pa_cons (pv 4) pa_nil))))))
      pss_nil)
    (pss_one ps_never))))))), ?_⟩
    refine ⟨_, rfl, p, s0, 8, rfl, hP, (by decide), (by decide), fun kind H1 k0 k8 P1 => ?_⟩
    refine ⟨_, rfl, rfl, _, rfl, ?_⟩
    refine ite2 (fun _ => ?_) (fun c => absurd rfl c)
    exact ⟨(by show 1 ≤ sizeLine; decide), fun e he => q e .now _ upd_same ⟨by decide, by decide, by decide, trivial⟩ trivial (P1.new he)⟩
structure G3t (P : Program) (w : World) (K : PySem.W.Frag) (mg : Str → Option Value) (base : Heap) (d : Nat) : Prop extends G2w P w K mg base where
  law_term : Cal P w K mg base CX0 "_law_term" (d + 3) ["pool", "streams", "depth"] (spLTerm d)
theorem ok_lterm {f : Addr} {fd : FuncData} {d : Nat} (F : Fun K "_law_term" "_law_term" s_l_term f fd) (B : Blt mg) (G : G3t P w K mg base d) : FnOk P w K mg base CX0 (d + 1 + 3) f fd ["pool", "streams", "depth"] (spLTerm (d + 1)) := by
  refine F.ok sc_l_term (fun vs H Q E h => ?_) (fun cdv A outer s H vs Q E hr h => ?_)
  · obtain ⟨p, s, l, names, rfl, _⟩ := h
    rfl
  · obtain ⟨p, s0, l, names, rfl, hP, hlp, hl, n1, n25, hnm, q⟩ := h
    refine ⟨_, (pss_cons (ps_set (i := 3) sc_l_term.nd rfl (Or.inl rfl) (pe_cal G.law_draw (hr.mono (by omega)) pass0 (pa_cons (pv 0) (pa_cons pe_int pa_nil))))
    (pss_cons (ps_if (PW.pt (pw_or (pt_cmpR op_eq (pv 2) pe_int (nomark _)) (pw_or1 (pt_cmpR op_eq (pv 3) pe_int (nomark _)))))
      (pss_one (ps_ret (pe_tup (pa_cons pe_str pa_nil))))
      pss_nil)
    (pss_cons (ps_set (i := 4) sc_l_term.nd rfl (Or.inl rfl) (pe_cal G.law_term (hr.mono (by omega)) pass0 (pa_cons (pv 0) (pa_cons (pv 1) (pa_cons (pe_op op_sub (pv 2) pe_int) pa_nil)))))
    (pss_cons (ps_if (pt_cmpR op_lt (pv 3) pe_int (nomark _))
      (pss_one (ps_ret (pe_tup (pa_cons pe_str (pa_cons (pe_ix ix_list (pv 1) (pe_cal G.law_draw (hr.mono (by omega)) pass0 (pa_cons (pv 0) (pa_cons (pe_callB call_len (by rfl) B.len (by decide +kernel) (pa_cons (pv 1) pa_nil)) pa_nil))) (fun _ _ => rfl)) (pa_cons (pv 4) pa_nil))))))
      pss_nil)
    (pss_cons (ps_if (pt_cmpR op_eq (pv 3) pe_int (nomark _))
      (pss_one (ps_ret (pe_tup (pa_cons pe_str (pa_cons (pe_ix ix_list (pv 1) (pe_cal G.law_draw (hr.mono (by omega)) pass0 (pa_cons (pv 0) (pa_cons (pe_callB call_len (by rfl) B.len (by decide +kernel) (pa_cons (pv 1) pa_nil)) pa_nil))) (fun _ _ => rfl)) (pa_cons (pv 4) pa_nil))))))
      pss_nil)
    (pss_cons (ps_if (pt_cmpR op_eq (pv 3) pe_int (nomark _))
      (pss_one (ps_ret (pe_tup (pa_cons pe_str (pa_cons (pe_cal G.law_moment (hr.mono (by omega)) pass0 (pa_cons (pv 0) pa_nil)) (pa_cons (pv 4) pa_nil))))))
      pss_nil)
    (pss_one (ps_ret (pe_tup (pa_cons (pe_ix ix_list (pe_lst (pa_cons pe_str (pa_cons pe_str (pa_cons pe_str pa_nil)))) (pe_op op_sub (pv 3) pe_int) (fun _ _ => rfl)) (pa_cons (pv 4) (pa_cons (pe_cal G.law_term (hr.mono (by omega)) pass0 (pa_cons (pv 0) (pa_cons (pv 1) (pa_cons (pe_op op_sub (pv 2) pe_int) pa_nil)))) pa_nil)))))))))))), ?_⟩
    refine ⟨_, rfl, p, s0, 8, rfl, hP, (by decide), (by decide), fun kind H1 k0 k8 P1 => ?_⟩
    refine ⟨_, rfl, rfl, _, rfl, ?_⟩
    refine ite2 (fun c => ?_) (fun _ => ?_)
    · have := V.int.inj (of_decide_eq_true c)
      omega
    refine ⟨_, rfl, rfl, _, rfl, ?_⟩
    have := pB_pos d
    have lnn := lB_nn (d + 1)
    refine ite2 (fun _ => ?_) (fun ck => ?_)
    · exact ⟨(by show 1 ≤ sizeLine; decide), fun e he => q e .now _ upd_same ⟨by show (1 : Int) ≤ _; omega, by show (1 : Int) ≤ 1 + 2 * pB d; omega, lnn, trivial⟩ trivial (P1.new he)⟩
    have hl1 := P1.keep hl hlp
    have ed : (((d + 1 : Nat) : Int) - 1) = (d : Int) := by omega
    refine ⟨_, rfl, _, rfl, _, rfl, _, _, rfl, rfl, p, s0, l, names, (by show [V.ref p, V.ref l, V.int (((d + 1 : Nat) : Int) - 1)] = _; rw [ed]), P1.now, hlp, hl1, n1, n25, hnm, fun e1 t1 H2 hM1 L1 I1 P2 => ?_⟩
    have P12 := P1.trans P2
    have hl2 := P2.keep hl1 hlp
    obtain ⟨u1, u2⟩ := lB_up d
    have y1 := L1.dep
    have y2 := L1.par
    have y3 := L1.lok
    refine ⟨_, rfl, _, _, rfl, rfl, _, rfl, ?_⟩
    refine ite2 (fun _ => ?_) (fun c3 => ?_)
    · refine ⟨_, rfl, _, rfl, _, rfl, _, _, rfl, .inl ⟨_, SqL.of hl2, rfl⟩, p, s0, _, rfl, P2.now, (by rw [List.length_map]; omega), Int.lt_of_le_of_lt (show ((names.map V.str).length : Int) ≤ 25 by rw [List.length_map]; omega) (by decide), fun g H3 g0 g1 P3 => ?_⟩
      rw [List.length_map] at g1
      obtain ⟨j, rfl⟩ : ∃ j : Nat, g = (j : Int) := ⟨g.toNat, by omega⟩
      have hj : j < names.length := by omega
      have hz : names[j] ∈ names := List.getElem_mem hj
      generalize hzz : names[j] = z at hz
      refine ⟨_, _, _, .str z, rfl, rfl, SqL.of (P3.keep hl2 hlp), atI_nat (by rw [List.getElem?_map, List.getElem?_eq_getElem hj, hzz]; rfl), _, rfl, (by show 3 ≤ sizeLine; decide), fun e he => ?_⟩
      have k3 := hM1.tk (pl_tk P2.now P3)
      exact q e (.last z t1) _ ⟨e1, upd_same, k3.tk fun t xs h => sameAt (Same.refl H3) he _ _ h⟩ ⟨by show 1 + t1.dep ≤ _; omega, by show 1 + t1.par ≤ 1 + 2 * pB d; omega, by show 1 + t1.lok ≤ _; omega, hnm z hz, L1.nm⟩ ⟨hz, I1⟩ ((P12.trans P3).new he)
    refine ⟨_, rfl, rfl, _, rfl, ?_⟩
    refine ite2 (fun _ => ?_) (fun c4 => ?_)
    · refine ⟨_, rfl, _, rfl, _, rfl, _, _, rfl, .inl ⟨_, SqL.of hl2, rfl⟩, p, s0, _, rfl, P2.now, (by rw [List.length_map]; omega), Int.lt_of_le_of_lt (show ((names.map V.str).length : Int) ≤ 25 by rw [List.length_map]; omega) (by decide), fun g H3 g0 g1 P3 => ?_⟩
      rw [List.length_map] at g1
      obtain ⟨j, rfl⟩ : ∃ j : Nat, g = (j : Int) := ⟨g.toNat, by omega⟩
      have hj : j < names.length := by omega
      have hz : names[j] ∈ names := List.getElem_mem hj
      generalize hzz : names[j] = z at hz
      refine ⟨_, _, _, .str z, rfl, rfl, SqL.of (P3.keep hl2 hlp), atI_nat (by rw [List.getElem?_map, List.getElem?_eq_getElem hj, hzz]; rfl), _, rfl, (by show 3 ≤ sizeLine; decide), fun e he => ?_⟩
      have k3 := hM1.tk (pl_tk P2.now P3)
      exact q e (.next z t1) _ ⟨e1, upd_same, k3.tk fun t xs h => sameAt (Same.refl H3) he _ _ h⟩ ⟨by show 1 + t1.dep ≤ _; omega, by show 1 + t1.par ≤ 1 + 2 * pB d; omega, by show 1 + t1.lok ≤ _; omega, hnm z hz, L1.nm⟩ ⟨hz, I1⟩ ((P12.trans P3).new he)
    refine ⟨_, rfl, rfl, _, rfl, ?_⟩
    refine ite2 (fun _ => ?_) (fun c5 => ?_)
    · refine ⟨_, rfl, p, s0, rfl, P2.now, fun m H3 _ P3 => ⟨_, rfl, (by show 3 ≤ sizeLine; decide), fun e he => ?_⟩⟩
      have k3 := hM1.tk (pl_tk P2.now P3)
      exact q e (.shift m t1) _ ⟨e1, upd_same, k3.tk fun t xs h => sameAt (Same.refl H3) he _ _ h⟩ ⟨by show 1 + t1.dep ≤ _; omega, by show 1 + t1.par ≤ 1 + 2 * pB d; omega, by show 0 + t1.lok ≤ _; omega, L1.nm⟩ I1 ((P12.trans P3).new he)
    have c3 : ¬ kind < 3 := fun z => c3 (decide_eq_true z)
    have c4 : ¬ kind = 3 := fun z => c4 (decide_eq_true (by rw [z]))
    have c5 : ¬ kind = 4 := fun z => c5 (decide_eq_true (by rw [z]))
    obtain ⟨w9, mk, hat, hmk⟩ : ∃ (w9 : Str) (mk : Tm → Tm → Tm), atI ([.str "either", .str "later", .str "earlier"] : List V) (kind - 5) = some (.str w9) ∧ ((w9 = "either" ∧ mk = Tm.either) ∨ (w9 = "later" ∧ mk = Tm.later) ∨ (w9 = "earlier" ∧ mk = Tm.earlier)) := by
      have : kind = 5 ∨ kind = 6 ∨ kind = 7 := by omega
      rcases this with rfl | rfl | rfl
      · exact ⟨"either", Tm.either, rfl, .inl ⟨rfl, rfl⟩⟩
      · exact ⟨"later", Tm.later, rfl, .inr (.inl ⟨rfl, rfl⟩)⟩
      · exact ⟨"earlier", Tm.earlier, rfl, .inr (.inr ⟨rfl, rfl⟩)⟩
    refine ⟨(by show 3 ≤ sizeLine; decide), fun ll hll => ?_⟩
    have P2l : Pl H (upd H2 ll (.lst [.str "either", .str "later", .str "earlier"])) p s0 := P12.new hll
    have tkl : ∀ t xs, H2 t = some (.tup xs) → upd H2 ll (.lst [.str "either", .str "later", .str "earlier"]) t = some (.tup xs) := fun t xs h => sameAt (Same.refl H2) hll _ _ h
    refine ⟨_, rfl, _, _, rfl, rfl, _, _, _, _, rfl, rfl, SqL.of upd_same, hat, _, rfl, _, rfl, _, rfl, _, rfl, _, _, rfl, rfl, p, s0, l, names, (by show [V.ref p, V.ref l, V.int (((d + 1 : Nat) : Int) - 1)] = _; rw [ed]), P2l.now, hlp, sameAt (Same.refl H2) hll _ _ hl2, n1, n25, hnm, fun e2 t2 H3 hM2 L2' I2 P3 => ⟨(by show 3 ≤ sizeLine; decide), fun e he => ?_⟩⟩
    have z1 := L2'.dep
    have z2 := L2'.par
    have z3 := L2'.lok
    have mxl : Tm.mx t1.dep t2.dep ≤ (d : Int) + 1 := by unfold Tm.mx; split <;> assumption
    have k1 := ((hM1.tk tkl).tk (pl_tk P2l.now P3)).tk fun t xs h => sameAt (Same.refl H3) he (o := .tup [.str w9, .ref e1, .ref e2]) _ _ h
    have k2 := hM2.tk fun t xs h => sameAt (Same.refl H3) he (o := .tup [.str w9, .ref e1, .ref e2]) _ _ h
    have PF : Pl H (upd H3 e (.tup [.str w9, .ref e1, .ref e2])) p s0 := (P2l.trans P3).new he
    rcases hmk with ⟨rfl, rfl⟩ | ⟨rfl, rfl⟩ | ⟨rfl, rfl⟩
    · exact q e (.either t1 t2) _ ⟨e1, e2, upd_same, k1, k2⟩ ⟨by show 1 + Tm.mx t1.dep t2.dep ≤ _; omega, by show 1 + (t1.par + t2.par) ≤ 1 + 2 * pB d; omega, by show 0 + (t1.lok + t2.lok) ≤ _; omega, L1.nm, L2'.nm⟩ ⟨I1, I2⟩ PF
    · exact q e (.later t1 t2) _ ⟨e1, e2, upd_same, k1, k2⟩ ⟨by show 1 + Tm.mx t1.dep t2.dep ≤ _; omega, by show 1 + (t1.par + t2.par) ≤ 1 + 2 * pB d; omega, by show 0 + (t1.lok + t2.lok) ≤ _; omega, L1.nm, L2'.nm⟩ ⟨I1, I2⟩ PF
    · exact q e (.earlier t1 t2) _ ⟨e1, e2, upd_same, k1, k2⟩ ⟨by show 1 + Tm.mx t1.dep t2.dep ≤ _; omega, by show 1 + (t1.par + t2.par) ≤ 1 + 2 * pB d; omega, by show 0 + (t1.lok + t2.lok) ≤ _; omega, L1.nm, L2'.nm⟩ ⟨I1, I2⟩ PF
end
end Ash

set_option Elab.async false
set_option linter.all false
set_option maxRecDepth 100000
set_option maxHeartbeats 4000000
namespace Ash
open PySem PySem.Spec PyProof.Rows L2 SrtT
open C8 (pss_cut)
theorem pe_mak0 {X : Cx} {CX : CXT} {k : Nat} {ps : List Str} {sp : Sp} {E : XK} {x : Str} {p pos : Pos} {C : Addr} (G : Mak X.prog X.w X.K X.mg X.base CX x C k ps sp) (hr : Room (k + 1) X.A) (hx : Passes CX X E) (hg : Gl X x := by rfl)
    (hdb : (x == ("__debug__" : Str)) = false := by decide) : PE X (.Call (.Name x p) [] [] pos) (tMake C sp [] E tNil) := by
  obtain ⟨f, fd, M, hm, hb, F⟩ := G.ex
  exact pe_make0 M F hr hg hm hb .nil hx hdb
section
variable {P : Program} {w : World} {K : PySem.W.Frag} {mg : Str → Option Value} {base : Heap} {C : TC} {CW : Addr}
/-- what the law's building calls -/
structure B0 (P : Program) (w : World) (K : PySem.W.Frag) (mg : Str → Option Value) (base : Heap) (C : TC) : Prop where
  Now : Mak P w K mg base CX0 "Now" C.now 2 ["self"] (spInit0 C)
  Last : Mak P w K mg base CX0 "Last" C.last 3 ["self", "stream", "term"] (spInitL C C.last Tm.last)
  Next : Mak P w K mg base CX0 "Next" C.next 3 ["self", "stream", "term"] (spInitL C C.next Tm.next)
/-- the operators and methods of terms -/
structure Ops (P : Program) (w : World) (K : PySem.W.Frag) (mg : Str → Option Value) (base : Heap) (C : TC) : Prop where
  add : ∃ f fd, OpI K C.Is .Add f ∧ FnOk P w K mg base CX0 5 f fd ["self", "other"] (spShifted C) ∧ Binds K fd ["self", "other"] []
  or_ : ∃ f fd, OpF K C.Is .BitOr f ∧ FnOk P w K mg base CX0 4 f fd ["self", "other"] (spPair C Tm.either) ∧ Binds K fd ["self", "other"] []
  later : ∃ f fd, MethF K C.Is "later" f ∧ FnOk P w K mg base CX0 4 f fd ["self", "other"] (spPair C Tm.later) ∧ Binds K fd ["self", "other"] []
  earlier : ∃ f fd, MethF K C.Is "earlier" f ∧ FnOk P w K mg base CX0 4 f fd ["self", "other"] (spPair C Tm.earlier) ∧ Binds K fd ["self", "other"] []
structure B1 (P : Program) (w : World) (K : PySem.W.Frag) (mg : Str → Option Value) (base : Heap) (C : TC) (d : Nat) : Prop extends B0 P w K mg base C where
  law_built : Cal P w K mg base CX0 "_law_built" (d + 6) ["model"] (spBuilt C d)
abbrev s_l_built : Stmt := topS 74
theorem sc_l_built : FnScope ["model", "first", "second"] ["model"] (defScope s_l_built) := ⟨rfl, rfl, rfl, by decide +kernel, rfl, by decide +kernel, by decide +kernel⟩
theorem ok_built0 {f : Addr} {fd : FuncData} (F : Fun K "_law_built" "_law_built" s_l_built f fd) : FnOk P w K mg base CX0 (0 + 6) f fd ["model"] (spBuilt C 0) := by
  refine F.ok sc_l_built (fun vs H Q E h => ?_) (fun cdv A outer s H vs Q E hr h => ?_)
  · obtain ⟨e, t, rfl, _⟩ := h
    rfl
  · obtain ⟨e, t, rfl, _, _, _, hd, _⟩ := h
    have := t.dep_pos
    have hd : t.dep ≤ 0 := hd
    omega
theorem TmAt.meth {H : Hp} {a : Addr} {t : Tm} (h : TmAt C H a t) : ∃ dx fs, H a = some (.ins (C.of t) dx fs) ∧ fs.lookup ("later" : Str) = none ∧ fs.lookup ("earlier" : Str) = none := by
  obtain ⟨dx, fs, sp, i⟩ := h.in_
  exact ⟨dx, fs, i.at_, i.no _ (by decide +kernel) (by decide +kernel), i.no _ (by decide +kernel) (by decide +kernel)⟩
theorem ok_built {f : Addr} {fd : FuncData} {d : Nat} (F : Fun K "_law_built" "_law_built" s_l_built f fd) (B : Blt mg) (G : B1 P w K mg base C d) (O : Ops P w K mg base C) : FnOk P w K mg base CX0 (d + 1 + 6) f fd ["model"] (spBuilt C (d + 1)) := by
  obtain ⟨fa, fda, OA, Fa, ba⟩ := O.add
  obtain ⟨fo, fdo, OO, Fo, bo⟩ := O.or_
  obtain ⟨fl, fdl, ML, Fl, bl⟩ := O.later
  obtain ⟨fe, fde, ME, Fe, be⟩ := O.earlier
  refine F.ok sc_l_built (fun vs H Q E h => ?_) (fun cdv A outer s H vs Q E hr h => ?_)
  · obtain ⟨e, t, rfl, _⟩ := h
    rfl
  · obtain ⟨e, t, rfl, hM, hN, hF, hd, q⟩ := h
    refine ⟨_, (pss_cons (ps_if (pt_cmpR op_eq (pe_ix ix_tup (pv 0) pe_int (fun _ _ => rfl)) pe_str (nomark _))
      (pss_one (ps_ret (pe_mak0 G.Now (hr.mono (by omega)) pass0)))
      pss_nil)
    (pss_cons (ps_if (pt_cmpR op_eq (pe_ix ix_tup (pv 0) pe_int (fun _ _ => rfl)) pe_str (nomark _))
      (pss_one (ps_ret (pe_op (op_int OA Fa ba pass0 (hr.mono (by omega))) (pe_cal G.law_built (hr.mono (by omega)) pass0 (pa_cons (pe_ix ix_tup (pv 0) pe_int (fun _ _ => rfl)) pa_nil)) (pe_ix ix_tup (pv 0) pe_int (fun _ _ => rfl)))))
      pss_nil)
    (pss_cons (ps_if (pt_cmpR op_eq (pe_ix ix_tup (pv 0) pe_int (fun _ _ => rfl)) pe_str (nomark _))
      (pss_one (ps_ret (pe_mak G.Last (hr.mono (by omega)) pass0 (pa_cons (pe_ix ix_tup (pv 0) pe_int (fun _ _ => rfl)) (pa_cons (pe_cal G.law_built (hr.mono (by omega)) pass0 (pa_cons (pe_ix ix_tup (pv 0) pe_int (fun _ _ => rfl)) pa_nil)) pa_nil)))))
      pss_nil)
    (pss_cons (ps_if (pt_cmpR op_eq (pe_ix ix_tup (pv 0) pe_int (fun _ _ => rfl)) pe_str (nomark _))
      (pss_one (ps_ret (pe_mak G.Next (hr.mono (by omega)) pass0 (pa_cons (pe_ix ix_tup (pv 0) pe_int (fun _ _ => rfl)) (pa_cons (pe_cal G.law_built (hr.mono (by omega)) pass0 (pa_cons (pe_ix ix_tup (pv 0) pe_int (fun _ _ => rfl)) pa_nil)) pa_nil)))))
      pss_nil)
    (pss_cons (ps_set (i := 1) sc_l_built.nd rfl (Or.inl rfl) (pe_cal G.law_built (hr.mono (by omega)) pass0 (pa_cons (pe_ix ix_tup (pv 0) pe_int (fun _ _ => rfl)) pa_nil)))
    (pss_cons (ps_set (i := 2) sc_l_built.nd rfl (Or.inl rfl) (pe_cal G.law_built (hr.mono (by omega)) pass0 (pa_cons (pe_ix ix_tup (pv 0) pe_int (fun _ _ => rfl)) pa_nil)))
    (pss_cons (ps_if (pt_cmpR op_eq (pe_ix ix_tup (pv 0) pe_int (fun _ _ => rfl)) pe_str (nomark _))
      (pss_one (ps_ret (pe_op (op_fam OO Fo bo pass0 (hr.mono (by omega))) (pv 1) (pv 2))))
      pss_nil)
    (pss_cons (ps_if (pt_cmpR op_eq (pe_ix ix_tup (pv 0) pe_int (fun _ _ => rfl)) pe_str (nomark _))
      (pss_one (ps_ret (pe_methF (pv 1) ML Fl (hr.mono (by omega)) bl pass0 (pa_cons (pv 2) pa_nil))))
      pss_nil)
    (pss_one (ps_ret (pe_methF (pv 1) ME Fe (hr.mono (by omega)) be pass0 (pa_cons (pv 2) pa_nil)))))))))))), ?_⟩
    cases t with
    | now =>
      have hM : H e = some (.tup [.str "now"]) := hM
      refine ⟨_, rfl, _, _, _, _, rfl, rfl, SqT.of hM, rfl, rfl, _, rfl, iteT ?_⟩
      exact fun x dx hx hdx hne => ⟨x, dx, rfl, upd_same, fun H' hT' hK => ⟨rfl, q x H' hT' (keep_make hK hx hdx)⟩⟩
    | shift n u =>
      obtain ⟨b, he, hu⟩ := hM
      have hd : 1 + u.dep ≤ ((d + 1 : Nat) : Int) := hd
      obtain ⟨z1, z2, z3⟩ := bt_sz u
      obtain ⟨q1, q2, q3⟩ := plus_sz (t := bt u) (n := n)
      obtain ⟨f1, f2, f3⟩ := hF
      have f1 : 1 + u.dep ≤ 12 := f1
      have f2 : 1 + u.par ≤ 40 := f2
      have f3 : 0 + u.lok ≤ 12 := f3
      refine ⟨_, rfl, _, _, _, _, rfl, rfl, SqT.of he, rfl, rfl, _, rfl, iteF ⟨_, rfl, _, _, _, _, rfl, rfl, SqT.of he, rfl, rfl, _, rfl, iteT ?_⟩⟩
      refine ⟨_, rfl, _, _, _, _, rfl, rfl, SqT.of he, rfl, b, u, rfl, hu, hN, ⟨by omega, by omega, by omega⟩, by omega, fun a1 H1 hT1 s1 => ?_⟩
      have he1 := s1 _ _ he
      obtain ⟨dx, fs, h1, _⟩ := hT1.meth
      exact ⟨_, rfl, _, _, _, _, rfl, rfl, SqT.of he1, rfl, a1, _, dx, fs, n, rfl, rfl, h1, C.is_of _, a1, bt u, n, rfl, hT1, ⟨by omega, by omega, by omega⟩, fun a2 H2 hT2 s2 => q a2 H2 hT2 (s1.trans s2)⟩
    | last z u =>
      obtain ⟨b, he, hu⟩ := hM
      have hd : 1 + u.dep ≤ ((d + 1 : Nat) : Int) := hd
      obtain ⟨z1, z2, z3⟩ := bt_sz u
      obtain ⟨f1, f2, f3⟩ := hF
      have f1 : 1 + u.dep ≤ 12 := f1
      have f2 : 1 + u.par ≤ 40 := f2
      have f3 : 1 + u.lok ≤ 12 := f3
      refine ⟨_, rfl, _, _, _, _, rfl, rfl, SqT.of he, rfl, rfl, _, rfl, iteF ⟨_, rfl, _, _, _, _, rfl, rfl, SqT.of he, rfl, rfl, _, rfl, iteF ⟨_, rfl, _, _, _, _, rfl, rfl, SqT.of he, rfl, rfl, _, rfl, iteT ?_⟩⟩⟩
      refine ⟨_, rfl, _, _, _, _, rfl, rfl, SqT.of he, rfl, _, rfl, _, _, _, _, rfl, rfl, SqT.of he, rfl, b, u, rfl, hu, hN.2, ⟨by omega, by omega, by omega⟩, by omega, fun a1 H1 hT1 s1 => ?_⟩
      exact fun x dx hx hdx hne => ⟨x, dx, a1, z, bt u, rfl, upd_same, hN.1, hT1.same (sameAt (sameAt (Same.refl H1) hdx) hx), ⟨by show 1 + (bt u).dep ≤ 12; omega, by show 1 + (bt u).par ≤ 40; omega, by show 1 + (bt u).lok ≤ 12; omega⟩, fun H' hT' hK => ⟨rfl, q x H' hT' (s1.trans (keep_make hK hx hdx))⟩⟩
    | next z u =>
      obtain ⟨b, he, hu⟩ := hM
      have hd : 1 + u.dep ≤ ((d + 1 : Nat) : Int) := hd
      obtain ⟨z1, z2, z3⟩ := bt_sz u
      obtain ⟨f1, f2, f3⟩ := hF
      have f1 : 1 + u.dep ≤ 12 := f1
      have f2 : 1 + u.par ≤ 40 := f2
      have f3 : 1 + u.lok ≤ 12 := f3
      refine ⟨_, rfl, _, _, _, _, rfl, rfl, SqT.of he, rfl, rfl, _, rfl, iteF ⟨_, rfl, _, _, _, _, rfl, rfl, SqT.of he, rfl, rfl, _, rfl, iteF ⟨_, rfl, _, _, _, _, rfl, rfl, SqT.of he, rfl, rfl, _, rfl, iteF ⟨_, rfl, _, _, _, _, rfl, rfl, SqT.of he, rfl, rfl, _, rfl, iteT ?_⟩⟩⟩⟩
      refine ⟨_, rfl, _, _, _, _, rfl, rfl, SqT.of he, rfl, _, rfl, _, _, _, _, rfl, rfl, SqT.of he, rfl, b, u, rfl, hu, hN.2, ⟨by omega, by omega, by omega⟩, by omega, fun a1 H1 hT1 s1 => ?_⟩
      exact fun x dx hx hdx hne => ⟨x, dx, a1, z, bt u, rfl, upd_same, hN.1, hT1.same (sameAt (sameAt (Same.refl H1) hdx) hx), ⟨by show 1 + (bt u).dep ≤ 12; omega, by show 1 + (bt u).par ≤ 40; omega, by show 1 + (bt u).lok ≤ 12; omega⟩, fun H' hT' hK => ⟨rfl, q x H' hT' (s1.trans (keep_make hK hx hdx))⟩⟩
    | either x y =>
      obtain ⟨b, c, he, hx, hy⟩ := hM
      have hd : 1 + Tm.mx x.dep y.dep ≤ ((d + 1 : Nat) : Int) := hd
      have m1 := Tm.mx_l x.dep y.dep
      have m2 := Tm.mx_r x.dep y.dep
      obtain ⟨z1, z2, z3⟩ := bt_sz x
      obtain ⟨y1, y2, y3⟩ := bt_sz y
      have mm := mx_mono z1 y1
      have hFF := hF
      obtain ⟨f1, f2, f3⟩ := hF
      have f1 : 1 + Tm.mx x.dep y.dep ≤ 12 := f1
      have f2 : 1 + (x.par + y.par) ≤ 40 := f2
      have f3 : 0 + (x.lok + y.lok) ≤ 12 := f3
      have p1 := x.par_pos
      have p2 := y.par_pos
      have p3 := x.lok_nn
      have p4 := y.lok_nn
      have fit : (Tm.either (bt x) (bt y)).Fit := ⟨by show 1 + Tm.mx (bt x).dep (bt y).dep ≤ 12; omega, by show 1 + ((bt x).par + (bt y).par) ≤ 40; omega, by show 0 + ((bt x).lok + (bt y).lok) ≤ 12; omega⟩
      refine ⟨_, rfl, _, _, _, _, rfl, rfl, SqT.of he, rfl, rfl, _, rfl, iteF ⟨_, rfl, _, _, _, _, rfl, rfl, SqT.of he, rfl, rfl, _, rfl, iteF ⟨_, rfl, _, _, _, _, rfl, rfl, SqT.of he, rfl, rfl, _, rfl, iteF ⟨_, rfl, _, _, _, _, rfl, rfl, SqT.of he, rfl, rfl, _, rfl, iteF ?_⟩⟩⟩⟩
      refine ⟨_, rfl, _, _, _, _, rfl, rfl, SqT.of he, rfl, b, x, rfl, hx, hN.1, ⟨by omega, by omega, by omega⟩, by omega, fun a1 H1 hT1 s1 => ?_⟩
      have he1 := s1 _ _ he
      refine ⟨_, rfl, _, _, _, _, rfl, rfl, SqT.of he1, rfl, c, y, rfl, hy.tk fun t xs h => s1 _ _ h, hN.2, ⟨by omega, by omega, by omega⟩, by omega, fun a2 H2 hT2 s2 => ?_⟩
      have hT1' := hT1.same s2
      have he2 := s2 _ _ he1
      obtain ⟨dx1, fs1, g1, g2, g3⟩ := hT1'.meth
      obtain ⟨dx2, fs2, g4, _⟩ := hT2.meth
      refine ⟨_, rfl, _, _, _, _, rfl, rfl, SqT.of he2, rfl, rfl, _, rfl, iteT ?_⟩
      exact ⟨_, rfl, _, rfl, a1, a2, _, _, dx1, dx2, fs1, fs2, rfl, rfl, g1, C.is_of _, g4, C.is_of _, a1, a2, bt x, bt y, rfl, hT1', hT2, fit, fun a3 H3 hT3 s3 => q a3 H3 hT3 ((s1.trans s2).trans s3)⟩
    | later x y =>
      obtain ⟨b, c, he, hx, hy⟩ := hM
      have hd : 1 + Tm.mx x.dep y.dep ≤ ((d + 1 : Nat) : Int) := hd
      have m1 := Tm.mx_l x.dep y.dep
      have m2 := Tm.mx_r x.dep y.dep
      obtain ⟨z1, z2, z3⟩ := bt_sz x
      obtain ⟨y1, y2, y3⟩ := bt_sz y
      have mm := mx_mono z1 y1
      have hFF := hF
      obtain ⟨f1, f2, f3⟩ := hF
      have f1 : 1 + Tm.mx x.dep y.dep ≤ 12 := f1
      have f2 : 1 + (x.par + y.par) ≤ 40 := f2
      have f3 : 0 + (x.lok + y.lok) ≤ 12 := f3
      have p1 := x.par_pos
      have p2 := y.par_pos
      have p3 := x.lok_nn
      have p4 := y.lok_nn
      have fit : (Tm.later (bt x) (bt y)).Fit := ⟨by show 1 + Tm.mx (bt x).dep (bt y).dep ≤ 12; omega, by show 1 + ((bt x).par + (bt y).par) ≤ 40; omega, by show 0 + ((bt x).lok + (bt y).lok) ≤ 12; omega⟩
      refine ⟨_, rfl, _, _, _, _, rfl, rfl, SqT.of he, rfl, rfl, _, rfl, iteF ⟨_, rfl, _, _, _, _, rfl, rfl, SqT.of he, rfl, rfl, _, rfl, iteF ⟨_, rfl, _, _, _, _, rfl, rfl, SqT.of he, rfl, rfl, _, rfl, iteF ⟨_, rfl, _, _, _, _, rfl, rfl, SqT.of he, rfl, rfl, _, rfl, iteF ?_⟩⟩⟩⟩
      refine ⟨_, rfl, _, _, _, _, rfl, rfl, SqT.of he, rfl, b, x, rfl, hx, hN.1, ⟨by omega, by omega, by omega⟩, by omega, fun a1 H1 hT1 s1 => ?_⟩
      have he1 := s1 _ _ he
      refine ⟨_, rfl, _, _, _, _, rfl, rfl, SqT.of he1, rfl, c, y, rfl, hy.tk fun t xs h => s1 _ _ h, hN.2, ⟨by omega, by omega, by omega⟩, by omega, fun a2 H2 hT2 s2 => ?_⟩
      have hT1' := hT1.same s2
      have he2 := s2 _ _ he1
      obtain ⟨dx1, fs1, g1, g2, g3⟩ := hT1'.meth
      obtain ⟨dx2, fs2, g4, _⟩ := hT2.meth
      refine ⟨_, rfl, _, _, _, _, rfl, rfl, SqT.of he2, rfl, rfl, _, rfl, iteF ⟨_, rfl, _, _, _, _, rfl, rfl, SqT.of he2, rfl, rfl, _, rfl, iteT ?_⟩⟩
      exact ⟨_, rfl, a1, _, dx1, fs1, rfl, g1, C.is_of _, g2, _, rfl, a1, a2, bt x, bt y, rfl, hT1', hT2, fit, fun a3 H3 hT3 s3 => q a3 H3 hT3 ((s1.trans s2).trans s3)⟩
    | earlier x y =>
      obtain ⟨b, c, he, hx, hy⟩ := hM
      have hd : 1 + Tm.mx x.dep y.dep ≤ ((d + 1 : Nat) : Int) := hd
      have m1 := Tm.mx_l x.dep y.dep
      have m2 := Tm.mx_r x.dep y.dep
      obtain ⟨z1, z2, z3⟩ := bt_sz x
      obtain ⟨y1, y2, y3⟩ := bt_sz y
      have mm := mx_mono z1 y1
      have hFF := hF
      obtain ⟨f1, f2, f3⟩ := hF
      have f1 : 1 + Tm.mx x.dep y.dep ≤ 12 := f1
      have f2 : 1 + (x.par + y.par) ≤ 40 := f2
      have f3 : 0 + (x.lok + y.lok) ≤ 12 := f3
      have p1 := x.par_pos
      have p2 := y.par_pos
      have p3 := x.lok_nn
      have p4 := y.lok_nn
      have fit : (Tm.earlier (bt x) (bt y)).Fit := ⟨by show 1 + Tm.mx (bt x).dep (bt y).dep ≤ 12; omega, by show 1 + ((bt x).par + (bt y).par) ≤ 40; omega, by show 0 + ((bt x).lok + (bt y).lok) ≤ 12; omega⟩
      refine ⟨_, rfl, _, _, _, _, rfl, rfl, SqT.of he, rfl, rfl, _, rfl, iteF ⟨_, rfl, _, _, _, _, rfl, rfl, SqT.of he, rfl, rfl, _, rfl, iteF ⟨_, rfl, _, _, _, _, rfl, rfl, SqT.of he, rfl, rfl, _, rfl, iteF ⟨_, rfl, _, _, _, _, rfl, rfl, SqT.of he, rfl, rfl, _, rfl, iteF ?_⟩⟩⟩⟩
      refine ⟨_, rfl, _, _, _, _, rfl, rfl, SqT.of he, rfl, b, x, rfl, hx, hN.1, ⟨by omega, by omega, by omega⟩, by omega, fun a1 H1 hT1 s1 => ?_⟩
      have he1 := s1 _ _ he
      refine ⟨_, rfl, _, _, _, _, rfl, rfl, SqT.of he1, rfl, c, y, rfl, hy.tk fun t xs h => s1 _ _ h, hN.2, ⟨by omega, by omega, by omega⟩, by omega, fun a2 H2 hT2 s2 => ?_⟩
      have hT1' := hT1.same s2
      have he2 := s2 _ _ he1
      obtain ⟨dx1, fs1, g1, g2, g3⟩ := hT1'.meth
      obtain ⟨dx2, fs2, g4, _⟩ := hT2.meth
      refine ⟨_, rfl, _, _, _, _, rfl, rfl, SqT.of he2, rfl, rfl, _, rfl, iteF ⟨_, rfl, _, _, _, _, rfl, rfl, SqT.of he2, rfl, rfl, _, rfl, iteF ?_⟩⟩
      exact ⟨_, rfl, a1, _, dx1, fs1, rfl, g1, C.is_of _, g3, _, rfl, a1, a2, bt x, bt y, rfl, hT1', hT2, fit, fun a3 H3 hT3 s3 => q a3 H3 hT3 ((s1.trans s2).trans s3)⟩
end
end Ash

set_option Elab.async false
set_option linter.all false
set_option maxRecDepth 100000
set_option maxHeartbeats 4000000
namespace Ash
open PySem PySem.Spec PyProof.Rows L2 SrtT
open C8 (pss_cut)
/-! ### questions as the laws draw them -/
def MqAt (H : Hp) (e : Addr) : Qn → Prop
  | .tm t => MdAt H e t
  | .am (.number s t) => ∃ b, H e = some (.tup [.str "number", .str s, .ref b]) ∧ MdAt H b t
  | .am (.count s t u) => ∃ b c, H e = some (.tup [.str "count", .str s, .ref b, .ref c]) ∧ MdAt H b t ∧ MdAt H c u
  | .am (.total s t u) => ∃ b c, H e = some (.tup [.str "total", .str s, .ref b, .ref c]) ∧ MdAt H b t ∧ MdAt H c u
  | .am (.gap t u) => ∃ b c, H e = some (.tup [.str "gap", .ref b, .ref c]) ∧ MdAt H b t ∧ MdAt H c u
theorem MqAt.tk {H H' : Hp} (n : ∀ t xs, H t = some (.tup xs) → H' t = some (.tup xs)) {a : Addr} : ∀ {q : Qn}, MqAt H a q → MqAt H' a q
  | .tm t, h => MdAt.tk n h
  | .am (.number s t), ⟨b, h1, h2⟩ => ⟨b, n _ _ h1, h2.tk n⟩
  | .am (.count s t u), ⟨b, c, h1, h2, h3⟩ => ⟨b, c, n _ _ h1, h2.tk n, h3.tk n⟩
  | .am (.total s t u), ⟨b, c, h1, h2, h3⟩ => ⟨b, c, n _ _ h1, h2.tk n, h3.tk n⟩
  | .am (.gap t u), ⟨b, c, h1, h2, h3⟩ => ⟨b, c, n _ _ h1, h2.tk n, h3.tk n⟩
/-- the question that is built -/
def bq : Qn → Qn
  | .tm t => .tm (bt t)
  | .am (.number s t) => .am (.number s (bt t))
  | .am (.count s t u) => .am (.count s (bt t) (bt u))
  | .am (.total s t u) => .am (.total s (bt t) (bt u))
  | .am (.gap t u) => .am (.gap (bt t) (bt u))
theorem bt_fit {t : Tm} (h : t.Fit) : (bt t).Fit := by
  obtain ⟨z1, z2, z3⟩ := bt_sz t
  obtain ⟨h1, h2, h3⟩ := h
  exact ⟨by omega, by omega, by omega⟩
theorem bq_nm : ∀ {q : Qn}, q.NmS → (bq q).NmS
  | .tm t, h => bt_nm (t := t) h
  | .am (.number s t), h => ⟨h.1, bt_nm h.2⟩
  | .am (.count s t u), h => ⟨h.1, bt_nm h.2.1, bt_nm h.2.2⟩
  | .am (.total s t u), h => ⟨h.1, bt_nm h.2.1, bt_nm h.2.2⟩
  | .am (.gap t u), h => ⟨bt_nm h.1, bt_nm h.2⟩
theorem bq_fit : ∀ {q : Qn}, q.Fit → (bq q).Fit
  | .tm t, h => bt_fit (t := t) h
  | .am (.number s t), h => bt_fit (t := t) h
  | .am (.count s t u), h => ⟨bt_fit h.1, bt_fit h.2⟩
  | .am (.total s t u), h => ⟨bt_fit h.1, bt_fit h.2⟩
  | .am (.gap t u), h => ⟨bt_fit h.1, bt_fit h.2⟩
/-- a question of so many levels -/
def LevQ : Qn → Nat → Prop
  | .tm t, d => Lev t (d + 1)
  | .am (.number s t), d => IsNm s ∧ Lev t d
  | .am (.count s t u), d => IsNm s ∧ Lev t d ∧ Lev u d
  | .am (.total s t u), d => IsNm s ∧ Lev t d ∧ Lev u d
  | .am (.gap t u), d => Lev t d ∧ Lev u d
theorem Lev.fit {t : Tm} {d : Nat} (h : Lev t d) (hd : d ≤ 4) : t.Fit := by
  have h1 := h.dep
  have h2 := h.par
  have h3 := h.lok
  have : pB d ≤ 31 ∧ lB d ≤ 8 := by
    have : d = 0 ∨ d = 1 ∨ d = 2 ∨ d = 3 ∨ d = 4 := by omega
    rcases this with rfl | rfl | rfl | rfl | rfl <;> decide
  exact ⟨by omega, by omega, by omega⟩
theorem LevQ.nm : ∀ {q : Qn} {d : Nat}, LevQ q d → q.NmS
  | .tm t, d, h => Lev.nm h
  | .am (.number s t), d, h => ⟨h.1, h.2.nm⟩
  | .am (.count s t u), d, h => ⟨h.1, h.2.1.nm, h.2.2.nm⟩
  | .am (.total s t u), d, h => ⟨h.1, h.2.1.nm, h.2.2.nm⟩
  | .am (.gap t u), d, h => ⟨h.1.nm, h.2.nm⟩
theorem LevQ.fit {d : Nat} (hd : d ≤ 3) : ∀ {q : Qn}, LevQ q d → q.Fit
  | .tm t, h => Lev.fit h (by omega)
  | .am (.number s t), h => Lev.fit h.2 (by omega)
  | .am (.count s t u), h => ⟨Lev.fit h.2.1 (by omega), Lev.fit h.2.2 (by omega)⟩
  | .am (.total s t u), h => ⟨Lev.fit h.2.1 (by omega), Lev.fit h.2.2 (by omega)⟩
  | .am (.gap t u), h => ⟨Lev.fit h.1 (by omega), Lev.fit h.2 (by omega)⟩
def Qn.InS (ns : List Str) : Qn → Prop
  | .tm t => t.InS ns
  | .am (.number s t) => s ∈ ns ∧ t.InS ns
  | .am (.count s t u) => s ∈ ns ∧ t.InS ns ∧ u.InS ns
  | .am (.total s t u) => s ∈ ns ∧ t.InS ns ∧ u.InS ns
  | .am (.gap t u) => t.InS ns ∧ u.InS ns
def spLQuest (d : Nat) : Sp := fun vs H Q _ => ∃ (p s l : Addr) (names : List Str), vs = [.ref p, .ref l, .int ((d + 1 : Nat) : Int)] ∧ PoolAt H p s ∧ l ≠ p ∧ H l = some (.lst (names.map V.str)) ∧ 1 ≤ names.length ∧ names.length ≤ 25 ∧ (∀ z ∈ names, IsNm z) ∧
  ∀ e q H', MqAt H' e q → LevQ q d → q.InS names → Pl H H' p s → Q (.ref e) H'
def spLAsked (A : AC) (C : TC) : Sp := fun vs H Q _ => ∃ (e : Addr) (q : Qn), vs = [.ref e] ∧ MqAt H e q ∧ q.NmS ∧ q.Fit ∧ ∀ a H', QAt A C H' a (bq q) → Same H H' → Q (.ref a) H'
section
variable {P : Program} {w : World} {K : PySem.W.Frag} {mg : Str → Option Value} {base : Heap} {C : TC} {CW : Addr} {A0 : AC}
structure Gq (P : Program) (w : World) (K : PySem.W.Frag) (mg : Str → Option Value) (base : Heap) (d : Nat) : Prop extends G2w P w K mg base where
  lt0 : Cal P w K mg base CX0 "_law_term" (d + 1 + 3) ["pool", "streams", "depth"] (spLTerm (d + 1))
  lt1 : Cal P w K mg base CX0 "_law_term" (d + 3) ["pool", "streams", "depth"] (spLTerm d)
abbrev s_l_question : Stmt := topS 75
theorem sc_l_question : FnScope ["pool", "streams", "depth", "kind", "first", "stream", "second"] ["pool", "streams", "depth"] (defScope s_l_question) := ⟨rfl, rfl, rfl, by decide +kernel, rfl, by decide +kernel, by decide +kernel⟩
theorem ok_lquest {f : Addr} {fd : FuncData} {d : Nat} (F : Fun K "_law_question" "_law_question" s_l_question f fd) (B : Blt mg) (G : Gq P w K mg base d) : FnOk P w K mg base CX0 (d + 5) f fd ["pool", "streams", "depth"] (spLQuest d) := by
  refine F.ok sc_l_question (fun vs H Q E h => ?_) (fun cdv A outer s H vs Q E hr h => ?_)
  · obtain ⟨p, s, l, names, rfl, _⟩ := h
    rfl
  · obtain ⟨p, s0, l, names, rfl, hP, hlp, hl, n1, n25, hnm, q⟩ := h
    refine ⟨_, (pss_cons (ps_set (i := 3) sc_l_question.nd rfl (Or.inl rfl) (pe_cal G.law_draw (hr.mono (by omega)) pass0 (pa_cons (pv 0) (pa_cons pe_int pa_nil))))
    (pss_cons (ps_if (pt_cmpR op_lt (pv 3) pe_int (nomark _))
      (pss_one (ps_ret (pe_cal G.lt0 (hr.mono (by omega)) pass0 (pa_cons (pv 0) (pa_cons (pv 1) (pa_cons (pv 2) pa_nil))))))
      pss_nil)
    (pss_cons (ps_set (i := 4) sc_l_question.nd rfl (Or.inl rfl) (pe_cal G.lt1 (hr.mono (by omega)) pass0 (pa_cons (pv 0) (pa_cons (pv 1) (pa_cons (pe_op op_sub (pv 2) pe_int) pa_nil)))))
    (pss_cons (ps_set (i := 5) sc_l_question.nd rfl (Or.inl rfl) (pe_ix ix_list (pv 1) (pe_cal G.law_draw (hr.mono (by omega)) pass0 (pa_cons (pv 0) (pa_cons (pe_callB call_len (by rfl) B.len (by decide +kernel) (pa_cons (pv 1) pa_nil)) pa_nil))) (fun _ _ => rfl)))
    (pss_cons (ps_if (pt_cmpR op_eq (pv 3) pe_int (nomark _))
      (pss_one (ps_ret (pe_tup (pa_cons pe_str (pa_cons (pv 5) (pa_cons (pv 4) pa_nil))))))
      pss_nil)
    (pss_cons (ps_set (i := 6) sc_l_question.nd rfl (Or.inl rfl) (pe_cal G.lt1 (hr.mono (by omega)) pass0 (pa_cons (pv 0) (pa_cons (pv 1) (pa_cons (pe_op op_sub (pv 2) pe_int) pa_nil)))))
    (pss_cons (ps_if (pt_cmpR op_eq (pv 3) pe_int (nomark _))
      (pss_one (ps_ret (pe_tup (pa_cons pe_str (pa_cons (pv 4) (pa_cons (pv 6) pa_nil))))))
      pss_nil)
    (pss_one (ps_ret (pe_tup (pa_cons (pe_ix ix_list (pe_lst (pa_cons pe_str (pa_cons pe_str pa_nil))) (pe_op op_sub (pv 3) pe_int) (fun _ _ => rfl)) (pa_cons (pv 5) (pa_cons (pv 4) (pa_cons (pv 6) pa_nil)))))))))))))), ?_⟩
    refine ⟨_, rfl, p, s0, 6, rfl, hP, (by decide), (by decide), fun kind H1 k0 k6 P1 => ?_⟩
    have hl1 := P1.keep hl hlp
    refine ⟨_, rfl, _, _, rfl, rfl, _, rfl, ?_⟩
    refine ite2 (fun _ => ?_) (fun c2 => ?_)
    · exact ⟨_, rfl, _, rfl, _, rfl, p, s0, l, names, rfl, P1.now, hlp, hl1, n1, n25, hnm, fun e t H2 hM L I PT => q e (.tm t) _ hM L I (P1.trans PT)⟩
    have ed : (((d + 1 : Nat) : Int) - 1) = (d : Int) := by omega
    refine ⟨_, rfl, _, rfl, _, rfl, _, _, rfl, rfl, p, s0, l, names, (by show [V.ref p, V.ref l, V.int (((d + 1 : Nat) : Int) - 1)] = _; rw [ed]), P1.now, hlp, hl1, n1, n25, hnm, fun e1 t1 H2 hM1 L1 I1 P2 => ?_⟩
    have P12 := P1.trans P2
    have hl2 := P2.keep hl1 hlp
    refine ⟨_, rfl, _, rfl, _, rfl, _, _, rfl, .inl ⟨_, SqL.of hl2, rfl⟩, p, s0, _, rfl, P2.now, (by rw [List.length_map]; omega), Int.lt_of_le_of_lt (show ((names.map V.str).length : Int) ≤ 25 by rw [List.length_map]; omega) (by decide), fun g H3 g0 g1 P3 => ?_⟩
    rw [List.length_map] at g1
    obtain ⟨j, rfl⟩ : ∃ j : Nat, g = (j : Int) := ⟨g.toNat, by omega⟩
    have hj : j < names.length := by omega
    have hz : names[j] ∈ names := List.getElem_mem hj
    generalize hzz : names[j] = z at hz
    have hl3 := P3.keep hl2 hlp
    refine ⟨_, _, _, .str z, rfl, rfl, SqL.of hl3, atI_nat (by rw [List.getElem?_map, List.getElem?_eq_getElem hj, hzz]; rfl), ?_⟩
    have P13 := P12.trans P3
    have hM3 := hM1.tk (pl_tk P2.now P3)
    refine ⟨_, rfl, rfl, _, rfl, ?_⟩
    refine ite2 (fun _ => ?_) (fun c3 => ?_)
    · exact ⟨_, rfl, _, rfl, (by show 3 ≤ sizeLine; decide), fun e he => q e (.am (.number z t1)) _ ⟨e1, upd_same, hM3.tk fun t xs h => sameAt (Same.refl H3) he _ _ h⟩ ⟨hnm z hz, L1⟩ ⟨hz, I1⟩ (P13.new he)⟩
    refine ⟨_, rfl, _, rfl, _, rfl, _, _, rfl, rfl, p, s0, l, names, (by show [V.ref p, V.ref l, V.int (((d + 1 : Nat) : Int) - 1)] = _; rw [ed]), P3.now, hlp, hl3, n1, n25, hnm, fun e2 t2 H4 hM2 L2' I2 P4 => ?_⟩
    have P14 := P13.trans P4
    have hM4 := hM3.tk (pl_tk P3.now P4)
    refine ⟨_, rfl, rfl, _, rfl, ?_⟩
    refine ite2 (fun _ => ?_) (fun c5 => ?_)
    · exact ⟨_, rfl, _, rfl, (by show 3 ≤ sizeLine; decide), fun e he => q e (.am (.gap t1 t2)) _ ⟨e1, e2, upd_same, hM4.tk fun t xs h => sameAt (Same.refl H4) he _ _ h, hM2.tk fun t xs h => sameAt (Same.refl H4) he _ _ h⟩ ⟨L1, L2'⟩ ⟨I1, I2⟩ (P14.new he)⟩
    have c2 : ¬ kind < 2 := fun z => c2 (decide_eq_true z)
    have c3 : ¬ kind = 2 := fun z => c3 (decide_eq_true (by rw [z]))
    have c5 : ¬ kind = 5 := fun z => c5 (decide_eq_true (by rw [z]))
    have k34 : kind = 3 ∨ kind = 4 := by omega
    refine ⟨(by show 2 ≤ sizeLine; decide), fun ll hll => ?_⟩
    have hMl : MdAt (upd H4 ll (.lst [.str "count", .str "total"])) e1 t1 := hM4.tk fun t xs h => sameAt (Same.refl H4) hll _ _ h
    have hMl2 : MdAt (upd H4 ll (.lst [.str "count", .str "total"])) e2 t2 := hM2.tk fun t xs h => sameAt (Same.refl H4) hll _ _ h
    have PL : Pl H (upd H4 ll (.lst [.str "count", .str "total"])) p s0 := P14.new hll
    rcases k34 with rfl | rfl
    · refine ⟨_, rfl, _, _, rfl, rfl, _, _, _, .str "count", rfl, rfl, SqL.of upd_same, rfl, _, rfl, _, rfl, _, rfl, (by show 4 ≤ sizeLine; decide), fun e he => ?_⟩
      exact q e (.am (.count z t1 t2)) _ ⟨e1, e2, upd_same, hMl.tk fun t xs h => sameAt (Same.refl _) he _ _ h, hMl2.tk fun t xs h => sameAt (Same.refl _) he _ _ h⟩ ⟨hnm z hz, L1, L2'⟩ ⟨hz, I1, I2⟩ (PL.new he)
    · refine ⟨_, rfl, _, _, rfl, rfl, _, _, _, .str "total", rfl, rfl, SqL.of upd_same, rfl, _, rfl, _, rfl, _, rfl, (by show 4 ≤ sizeLine; decide), fun e he => ?_⟩
      exact q e (.am (.total z t1 t2)) _ ⟨e1, e2, upd_same, hMl.tk fun t xs h => sameAt (Same.refl _) he _ _ h, hMl2.tk fun t xs h => sameAt (Same.refl _) he _ _ h⟩ ⟨hnm z hz, L1, L2'⟩ ⟨hz, I1, I2⟩ (PL.new he)
structure Ga (P : Program) (w : World) (K : PySem.W.Frag) (mg : Str → Option Value) (base : Heap) (A0 : AC) (C : TC) : Prop extends B1 P w K mg base C 12 where
  Number : Mak P w K mg base CX0 "Number" A0.number 3 ["self", "stream", "term"] (spInitN A0 C)
  Count : Mak P w K mg base CX0 "Count" A0.count 3 ["self", "stream", "first", "last"] (spInitC A0 C A0.count Am.count)
  Total : Mak P w K mg base CX0 "Total" A0.total 3 ["self", "stream", "first", "last"] (spInitC A0 C A0.total Am.total)
  Gap : Mak P w K mg base CX0 "Gap" A0.gap 3 ["self", "first", "last"] (spInitG A0 C)
abbrev s_l_asked : Stmt := topS 76
theorem sc_l_asked : FnScope ["model"] ["model"] (defScope s_l_asked) := ⟨rfl, rfl, rfl, by decide +kernel, rfl, by decide +kernel, by decide +kernel⟩
theorem ok_lasked {f : Addr} {fd : FuncData} (F : Fun K "_law_asked" "_law_asked" s_l_asked f fd) (B : Blt mg) (G : Ga P w K mg base A0 C) : FnOk P w K mg base CX0 20 f fd ["model"] (spLAsked A0 C) := by
  refine F.ok sc_l_asked (fun vs H Q E h => ?_) (fun cdv A outer s H vs Q E hr h => ?_)
  · obtain ⟨e, q, rfl, _⟩ := h
    rfl
  · obtain ⟨e, m, rfl, hM, hN, hF, q⟩ := h
    refine ⟨_, (pss_cons (ps_if (pt_cmpR op_eq (pe_ix ix_tup (pv 0) pe_int (fun _ _ => rfl)) pe_str (nomark _))
      (pss_one (ps_ret (pe_mak G.Number (hr.mono (by decide)) pass0 (pa_cons (pe_ix ix_tup (pv 0) pe_int (fun _ _ => rfl)) (pa_cons (pe_cal G.law_built (hr.mono (by decide)) pass0 (pa_cons (pe_ix ix_tup (pv 0) pe_int (fun _ _ => rfl)) pa_nil)) pa_nil)))))
      pss_nil)
    (pss_cons (ps_if (pt_cmpR op_eq (pe_ix ix_tup (pv 0) pe_int (fun _ _ => rfl)) pe_str (nomark _))
      (pss_one (ps_ret (pe_mak G.Count (hr.mono (by decide)) pass0 (pa_cons (pe_ix ix_tup (pv 0) pe_int (fun _ _ => rfl)) (pa_cons (pe_cal G.law_built (hr.mono (by decide)) pass0 (pa_cons (pe_ix ix_tup (pv 0) pe_int (fun _ _ => rfl)) pa_nil)) (pa_cons (pe_cal G.law_built (hr.mono (by decide)) pass0 (pa_cons (pe_ix ix_tup (pv 0) pe_int (fun _ _ => rfl)) pa_nil)) pa_nil))))))
      pss_nil)
    (pss_cons (ps_if (pt_cmpR op_eq (pe_ix ix_tup (pv 0) pe_int (fun _ _ => rfl)) pe_str (nomark _))
      (pss_one (ps_ret (pe_mak G.Total (hr.mono (by decide)) pass0 (pa_cons (pe_ix ix_tup (pv 0) pe_int (fun _ _ => rfl)) (pa_cons (pe_cal G.law_built (hr.mono (by decide)) pass0 (pa_cons (pe_ix ix_tup (pv 0) pe_int (fun _ _ => rfl)) pa_nil)) (pa_cons (pe_cal G.law_built (hr.mono (by decide)) pass0 (pa_cons (pe_ix ix_tup (pv 0) pe_int (fun _ _ => rfl)) pa_nil)) pa_nil))))))
      pss_nil)
    (pss_cons (ps_if (pt_cmpR op_eq (pe_ix ix_tup (pv 0) pe_int (fun _ _ => rfl)) pe_str (nomark _))
      (pss_one (ps_ret (pe_mak G.Gap (hr.mono (by decide)) pass0 (pa_cons (pe_cal G.law_built (hr.mono (by decide)) pass0 (pa_cons (pe_ix ix_tup (pv 0) pe_int (fun _ _ => rfl)) pa_nil)) (pa_cons (pe_cal G.law_built (hr.mono (by decide)) pass0 (pa_cons (pe_ix ix_tup (pv 0) pe_int (fun _ _ => rfl)) pa_nil)) pa_nil)))))
      pss_nil)
    (pss_one (ps_ret (pe_cal G.law_built (hr.mono (by decide)) pass0 (pa_cons (pv 0) pa_nil)))))))), ?_⟩
    cases m with
    | tm t =>
      have hF : t.Fit := hF
      have hM : MdAt H e t := hM
      have hN : t.NmS := hN
      obtain ⟨x, r, hx, n1, n2, n3, n4⟩ : ∃ x r, H e = some (.tup (.str x :: r)) ∧ x ≠ ("number" : Str) ∧ x ≠ ("count" : Str) ∧ x ≠ ("total" : Str) ∧ x ≠ ("gap" : Str) := by
        cases t with
        | now => exact ⟨_, _, hM, by decide, by decide, by decide, by decide⟩
        | shift n u => obtain ⟨b, h, _⟩ := hM; exact ⟨_, _, h, by decide, by decide, by decide, by decide⟩
        | last n u => obtain ⟨b, h, _⟩ := hM; exact ⟨_, _, h, by decide, by decide, by decide, by decide⟩
        | next n u => obtain ⟨b, h, _⟩ := hM; exact ⟨_, _, h, by decide, by decide, by decide, by decide⟩
        | either n u => obtain ⟨b, c, h, _⟩ := hM; exact ⟨_, _, h, by decide, by decide, by decide, by decide⟩
        | later n u => obtain ⟨b, c, h, _⟩ := hM; exact ⟨_, _, h, by decide, by decide, by decide, by decide⟩
        | earlier n u => obtain ⟨b, c, h, _⟩ := hM; exact ⟨_, _, h, by decide, by decide, by decide, by decide⟩
      have at0 : atI (V.str x :: r) 0 = some (V.str x) := atI_nat (xs := V.str x :: r) (j := 0) rfl
      refine ⟨_, rfl, _, _, _, _, rfl, rfl, SqT.of hx, at0, rfl, _, rfl, ite2 (fun c => absurd (V.str.inj (of_decide_eq_true c)) n1) fun _ => ?_⟩
      refine ⟨_, rfl, _, _, _, _, rfl, rfl, SqT.of hx, at0, rfl, _, rfl, ite2 (fun c => absurd (V.str.inj (of_decide_eq_true c)) n2) fun _ => ?_⟩
      refine ⟨_, rfl, _, _, _, _, rfl, rfl, SqT.of hx, at0, rfl, _, rfl, ite2 (fun c => absurd (V.str.inj (of_decide_eq_true c)) n3) fun _ => ?_⟩
      refine ⟨_, rfl, _, _, _, _, rfl, rfl, SqT.of hx, at0, rfl, _, rfl, ite2 (fun c => absurd (V.str.inj (of_decide_eq_true c)) n4) fun _ => ?_⟩
      exact ⟨_, rfl, e, t, rfl, hM, hN, hF, hF.1, fun a H' hT s => q a H' hT s⟩
    | am m =>
      cases m with
      | number z t =>
        obtain ⟨b, he, hT⟩ := hM
        have hF : t.Fit := hF
        refine ⟨_, rfl, _, _, _, _, rfl, rfl, SqT.of he, rfl, rfl, _, rfl, iteT ?_⟩
        refine ⟨_, rfl, _, _, _, _, rfl, rfl, SqT.of he, rfl, _, rfl, _, _, _, _, rfl, rfl, SqT.of he, rfl, b, t, rfl, hT, hN.2, hF, hF.1, fun a1 H1 hT1 s1 => ?_⟩
        exact fun x dx hx hdx hne => ⟨x, dx, a1, z, bt t, rfl, upd_same, hN.1, hT1.same (sameAt (sameAt (Same.refl H1) hdx) hx), bt_fit hF, fun H' hT' hK => ⟨rfl, q x H' hT' (s1.trans (keep_make hK hx hdx))⟩⟩
      | count z t u =>
        obtain ⟨b, c, he, hT, hU⟩ := hM
        refine ⟨_, rfl, _, _, _, _, rfl, rfl, SqT.of he, rfl, rfl, _, rfl, iteF ⟨_, rfl, _, _, _, _, rfl, rfl, SqT.of he, rfl, rfl, _, rfl, iteT ?_⟩⟩
        refine ⟨_, rfl, _, _, _, _, rfl, rfl, SqT.of he, rfl, _, rfl, _, _, _, _, rfl, rfl, SqT.of he, rfl, b, t, rfl, hT, hN.2.1, hF.1, hF.1.1, fun a1 H1 hT1 s1 => ?_⟩
        have he1 := s1 _ _ he
        refine ⟨_, rfl, _, _, _, _, rfl, rfl, SqT.of he1, rfl, c, u, rfl, hU.tk (fun t xs h => s1 _ _ h), hN.2.2, hF.2, hF.2.1, fun a2 H2 hT2 s2 => ?_⟩
        exact fun x dx hx hdx hne => ⟨x, dx, a1, a2, z, bt t, bt u, rfl, upd_same, hN.1, (hT1.same s2).same (sameAt (sameAt (Same.refl H2) hdx) hx), hT2.same (sameAt (sameAt (Same.refl H2) hdx) hx), bt_fit hF.1, bt_fit hF.2, fun H' hT' hK => ⟨rfl, q x H' hT' ((s1.trans s2).trans (keep_make hK hx hdx))⟩⟩
      | total z t u =>
        obtain ⟨b, c, he, hT, hU⟩ := hM
        refine ⟨_, rfl, _, _, _, _, rfl, rfl, SqT.of he, rfl, rfl, _, rfl, iteF ⟨_, rfl, _, _, _, _, rfl, rfl, SqT.of he, rfl, rfl, _, rfl, iteF ⟨_, rfl, _, _, _, _, rfl, rfl, SqT.of he, rfl, rfl, _, rfl, iteT ?_⟩⟩⟩
        refine ⟨_, rfl, _, _, _, _, rfl, rfl, SqT.of he, rfl, _, rfl, _, _, _, _, rfl, rfl, SqT.of he, rfl, b, t, rfl, hT, hN.2.1, hF.1, hF.1.1, fun a1 H1 hT1 s1 => ?_⟩
        have he1 := s1 _ _ he
        refine ⟨_, rfl, _, _, _, _, rfl, rfl, SqT.of he1, rfl, c, u, rfl, hU.tk (fun t xs h => s1 _ _ h), hN.2.2, hF.2, hF.2.1, fun a2 H2 hT2 s2 => ?_⟩
        exact fun x dx hx hdx hne => ⟨x, dx, a1, a2, z, bt t, bt u, rfl, upd_same, hN.1, (hT1.same s2).same (sameAt (sameAt (Same.refl H2) hdx) hx), hT2.same (sameAt (sameAt (Same.refl H2) hdx) hx), bt_fit hF.1, bt_fit hF.2, fun H' hT' hK => ⟨rfl, q x H' hT' ((s1.trans s2).trans (keep_make hK hx hdx))⟩⟩
      | gap t u =>
        obtain ⟨b, c, he, hT, hU⟩ := hM
        refine ⟨_, rfl, _, _, _, _, rfl, rfl, SqT.of he, rfl, rfl, _, rfl, iteF ⟨_, rfl, _, _, _, _, rfl, rfl, SqT.of he, rfl, rfl, _, rfl, iteF ⟨_, rfl, _, _, _, _, rfl, rfl, SqT.of he, rfl, rfl, _, rfl, iteF ⟨_, rfl, _, _, _, _, rfl, rfl, SqT.of he, rfl, rfl, _, rfl, iteT ?_⟩⟩⟩⟩
        refine ⟨_, rfl, _, _, _, _, rfl, rfl, SqT.of he, rfl, b, t, rfl, hT, hN.1, hF.1, hF.1.1, fun a1 H1 hT1 s1 => ?_⟩
        have he1 := s1 _ _ he
        refine ⟨_, rfl, _, _, _, _, rfl, rfl, SqT.of he1, rfl, c, u, rfl, hU.tk (fun t xs h => s1 _ _ h), hN.2, hF.2, hF.2.1, fun a2 H2 hT2 s2 => ?_⟩
        exact fun x dx hx hdx hne => ⟨x, dx, a1, a2, bt t, bt u, rfl, upd_same, (hT1.same s2).same (sameAt (sameAt (Same.refl H2) hdx) hx), hT2.same (sameAt (sameAt (Same.refl H2) hdx) hx), bt_fit hF.1, bt_fit hF.2, fun H' hT' hK => ⟨rfl, q x H' hT' ((s1.trans s2).trans (keep_make hK hx hdx))⟩⟩
end
end Ash

set_option Elab.async false
set_option linter.all false
set_option maxRecDepth 100000
set_option maxHeartbeats 4000000
namespace Ash
open PySem PySem.Spec PyProof.Rows L2 SrtT
/-! ### what a built term answers -/
theorem ev_bt (W : Tr) (now : Int) : ∀ t : Tm, ev W now (bt t) = ev W now t
  | .now => rfl
  | .last s t => by show lookR (ev W now (bt t)) _ = lookR (ev W now t) _; rw [ev_bt W now t]
  | .next s t => by show lookR (ev W now (bt t)) _ = lookR (ev W now t) _; rw [ev_bt W now t]
  | .shift n t => by show ev W now ((bt t).plus n) = moveR (ev W now t) n; rw [plus_ev, ev_bt W now t]
  | .either a b => by show eithR (ev W now (bt a)) (ev W now (bt b)) = eithR (ev W now a) (ev W now b); rw [ev_bt W now a, ev_bt W now b]
  | .later a b => by show bothR mxI (ev W now (bt a)) (ev W now (bt b)) = bothR mxI (ev W now a) (ev W now b); rw [ev_bt W now a, ev_bt W now b]
  | .earlier a b => by show bothR mnI (ev W now (bt a)) (ev W now (bt b)) = bothR mnI (ev W now a) (ev W now b); rw [ev_bt W now a, ev_bt W now b]
theorem ev_bq (W : Tr) (now : Int) : ∀ q : Qn, evQ W now (bq q) = evQ W now q
  | .tm t => ev_bt W now t
  | .am (.number s t) => by show lookA (ev W now (bt t)) _ = lookA (ev W now t) _; rw [ev_bt W now t]
  | .am (.count s t u) => by show tellR (ev W now (bt t)) (ev W now (bt u)) _ = tellR (ev W now t) (ev W now u) _; rw [ev_bt W now t, ev_bt W now u]
  | .am (.total s t u) => by show tellR (ev W now (bt t)) (ev W now (bt u)) _ = tellR (ev W now t) (ev W now u) _; rw [ev_bt W now t, ev_bt W now u]
  | .am (.gap t u) => by show tellR (ev W now (bt t)) (ev W now (bt u)) _ = tellR (ev W now t) (ev W now u) _; rw [ev_bt W now t, ev_bt W now u]
/-! ### the rows of a world are told by their set -/
theorem lex_uniq : ∀ {xs ys : List T3}, xs.Perm ys → (xs.Pairwise fun a b => lex3 a b = true) → (ys.Pairwise fun a b => lex3 a b = true) → xs = ys
  | [], ys, h, _, _ => h.nil_eq
  | x :: xs, [], h, _, _ => nomatch h.length_eq
  | x :: xs, y :: ys, h, hx, hy => by
    obtain ⟨hx1, hx2⟩ := List.pairwise_cons.mp hx
    obtain ⟨hy1, hy2⟩ := List.pairwise_cons.mp hy
    have e : x = y := by
      rcases List.mem_cons.mp (h.mem_iff.mp List.mem_cons_self) with e | e
      · exact e
      · rcases List.mem_cons.mp (h.mem_iff.mpr (List.mem_cons_self (a := y))) with e2 | e2
        · exact e2.symm
        · have a1 := lex3_iff.mp (hy1 x e)
          have a2 := lex3_iff.mp (hx1 y e2)
          omega
    subst e
    rw [lex_uniq h.cons_inv hx2 hy2]
theorem rows_same {names : List Str} {T T' W W' : Tr} (h : RowsW names T W) (h' : RowsW names T' W') (p : ∀ z ∈ names, (T' z).Perm (T z)) : W' = W := by
  funext z
  by_cases hz : z ∈ names
  · obtain ⟨a1, a2⟩ := h.1 z hz
    obtain ⟨b1, b2⟩ := h'.1 z hz
    exact lex_uniq ((b1.trans (p z hz)).trans a1.symm) b2 a2
  · rw [h.2 z hz, h'.2 z hz]
/-- the world without some rows -/
def keepW (k : Int → Bool) (W : Tr) : Tr := fun z => (W z).filter fun t => k t.2.1
theorem rows_keep {names : List Str} {T T' W W' : Tr} {k : Int → Bool} (h : RowsW names T W) (h' : RowsW names T' W') (p : ∀ z ∈ names, T' z = (T z).filter fun t => k t.2.1) : W' = keepW k W := by
  funext z
  unfold keepW
  by_cases hz : z ∈ names
  · obtain ⟨a1, a2⟩ := h.1 z hz
    obtain ⟨b1, b2⟩ := h'.1 z hz
    rw [p z hz] at b1
    exact lex_uniq (b1.trans (a1.filter _).symm) b2 (a2.filter _)
  · rw [h.2 z hz, h'.2 z hz]
    rfl
/-! ### rows that are not looked at may be left out -/
theorem last_filter {α : Type} {k : α → Bool} : ∀ {L : List α} {r : α}, L.getLast? = some r → k r = true → (L.filter k).getLast? = some r := by
  intro L r h hk
  obtain ⟨M, rfl⟩ : ∃ M, L = M ++ [r] := by
    have := List.getLast?_eq_some_iff.mp h
    exact this
  rw [List.filter_append, List.filter_cons, if_pos hk]
  simp
theorem head_filter {α : Type} {k : α → Bool} : ∀ {L : List α} {r : α}, L.head? = some r → k r = true → (L.filter k).head? = some r
  | [], r, h, _ => nomatch h
  | x :: L, r, h, hk => by
    cases h
    rw [List.filter_cons, if_pos hk]
    rfl
theorem lastR_keep {k : Int → Bool} {rs : List T3} {m : Int} (h : ∀ t, lastR rs m = some t → k t.2.1 = true) : lastR (rs.filter fun t => k t.2.1) m = lastR rs m := by
  unfold lastR at *
  rw [List.filter_filter, show (fun a : T3 => decide (a.1 ≤ m) && k a.2.1) = fun a => k a.2.1 && decide (a.1 ≤ m) from funext fun a => Bool.and_comm .., ← List.filter_filter]
  cases e : (rs.filter fun t => decide (t.1 ≤ m)).getLast? with
  | none =>
    have := List.getLast?_eq_none_iff.mp e
    rw [this]
    rfl
  | some t => exact last_filter e (h t e)
theorem nextR_keep {k : Int → Bool} {rs : List T3} {m : Int} (h : ∀ t, nextR rs m = some t → k t.2.1 = true) : nextR (rs.filter fun t => k t.2.1) m = nextR rs m := by
  unfold nextR at *
  rw [List.filter_filter, show (fun a : T3 => decide (m ≤ a.1) && k a.2.1) = fun a => k a.2.1 && decide (m ≤ a.1) from funext fun a => Bool.and_comm .., ← List.filter_filter]
  cases e : (rs.filter fun t => decide (m ≤ t.1)).head? with
  | none =>
    have := List.head?_eq_none_iff.mp e
    rw [this]
    rfl
  | some t => exact head_filter e (h t e)
theorem look_keep {k : Int → Bool} {r : Rs} {f g : Int → Option T3} (hk : ∀ i ∈ (lookR r f).2, k i = true) (h : ∀ m, (∀ t, f m = some t → k t.2.1 = true) → g m = f m) : lookR r g = lookR r f := by
  obtain ⟨a, b⟩ := r
  cases a with
  | none => rfl
  | some m =>
    have e : g m = f m := h m fun t ht => hk _ (by
      show t.2.1 ∈ (match f m with | none => (none, b) | some t => (some t.1, b ++ [t.2.1])).2
      rw [ht]
      exact List.mem_append_right _ List.mem_cons_self)
    show (match g m with | none => (none, b) | some t => (some t.1, b ++ [t.2.1])) = (match f m with | none => (none, b) | some t => (some t.1, b ++ [t.2.1]))
    rw [e]
theorem look_sub {r : Rs} {f : Int → Option T3} {i : Int} (h : i ∈ r.2) : i ∈ (lookR r f).2 := by
  unfold lookR
  split
  · exact h
  · split
    · exact h
    · exact List.mem_append_left _ h
theorem both_sub1 {f : Int → Int → Int} {r s : Rs} {i : Int} (h : i ∈ r.2) : i ∈ (bothR f r s).2 := by
  unfold bothR
  split
  · exact h
  · split
    · exact List.mem_append_left _ h
    · exact List.mem_append_left _ h
theorem both_sub2 {f : Int → Int → Int} {r s s' : Rs} (h : (∀ i ∈ s.2, i ∈ (bothR f r s).2) → s' = s) : bothR f r s' = bothR f r s := by
  obtain ⟨a, b⟩ := r
  cases a with
  | none => rfl
  | some m =>
    rw [h fun i hi => by
      show i ∈ (match s.1 with | none => (none, b ++ s.2) | some k => (some (f m k), b ++ s.2)).2
      cases s.1 <;> exact List.mem_append_right _ hi]
theorem eith_sub1 {r s : Rs} {i : Int} (h : i ∈ r.2) : i ∈ (eithR r s).2 := by
  unfold eithR
  split
  · exact h
  · exact List.mem_append_left _ h
theorem eith_sub2 {r s s' : Rs} (h : (∀ i ∈ s.2, i ∈ (eithR r s).2) → s' = s) : eithR r s' = eithR r s := by
  obtain ⟨a, b⟩ := r
  cases a with
  | some m => rfl
  | none =>
    rw [h fun i hi => List.mem_append_right _ hi]
theorem ev_keep {W : Tr} {now : Int} {k : Int → Bool} : ∀ t : Tm, (∀ i ∈ (ev W now t).2, k i = true) → ev (keepW k W) now t = ev W now t
  | .now, _ => rfl
  | .last s t, h => by
    have ih := ev_keep t fun i hi => h i (look_sub hi)
    show lookR (ev (keepW k W) now t) _ = lookR (ev W now t) _
    rw [ih]
    exact look_keep h fun m hm => lastR_keep hm
  | .next s t, h => by
    have ih := ev_keep t fun i hi => h i (look_sub hi)
    show lookR (ev (keepW k W) now t) _ = lookR (ev W now t) _
    rw [ih]
    exact look_keep h fun m hm => nextR_keep hm
  | .shift n t, h => by
    have e : (moveR (ev W now t) n).2 = (ev W now t).2 := by unfold moveR; split <;> rfl
    have ih := ev_keep t fun i hi => h i (by show i ∈ (moveR (ev W now t) n).2; rw [e]; exact hi)
    show moveR (ev (keepW k W) now t) n = _
    rw [ih]
    rfl
  | .either a b, h => by
    have ih := ev_keep a fun i hi => h i (eith_sub1 hi)
    show eithR (ev (keepW k W) now a) (ev (keepW k W) now b) = eithR (ev W now a) (ev W now b)
    rw [ih]
    exact eith_sub2 fun hs => ev_keep b fun i hi => h i (hs i hi)
  | .later a b, h => by
    have ih := ev_keep a fun i hi => h i (both_sub1 hi)
    show bothR mxI (ev (keepW k W) now a) (ev (keepW k W) now b) = bothR mxI (ev W now a) (ev W now b)
    rw [ih]
    exact both_sub2 fun hs => ev_keep b fun i hi => h i (hs i hi)
  | .earlier a b, h => by
    have ih := ev_keep a fun i hi => h i (both_sub1 hi)
    show bothR mnI (ev (keepW k W) now a) (ev (keepW k W) now b) = bothR mnI (ev W now a) (ev W now b)
    rw [ih]
    exact both_sub2 fun hs => ev_keep b fun i hi => h i (hs i hi)
theorem betw_keep {k : Int → Bool} {rs : List T3} {m n : Int} (h : ∀ t ∈ betweenR rs m n, k t.2.1 = true) : betweenR (rs.filter fun t => k t.2.1) m n = betweenR rs m n := by
  unfold betweenR at *
  rw [List.filter_filter, show (fun a : T3 => decide (m < a.1 ∧ a.1 ≤ n) && k a.2.1) = fun a => k a.2.1 && decide (m < a.1 ∧ a.1 ≤ n) from funext fun a => Bool.and_comm .., ← List.filter_filter]
  exact List.filter_eq_self.mpr h
theorem tell_sub1 {r s : Rs} {g : Int → Int → Rs} {i : Int} (h : i ∈ r.2) : i ∈ (tellR r s g).2 := by
  unfold tellR
  split
  · exact h
  · split
    · exact List.mem_append_left _ h
    · exact List.mem_append_left _ (List.mem_append_left _ h)
theorem tell_keep {k : Int → Bool} {r s s' : Rs} {g g' : Int → Int → Rs} (hk : ∀ i ∈ (tellR r s g).2, k i = true) (hs : (∀ i ∈ s.2, k i = true) → s' = s) (hg : ∀ m n, (∀ i ∈ (g m n).2, k i = true) → g' m n = g m n) : tellR r s' g' = tellR r s g := by
  obtain ⟨a, b⟩ := r
  cases a with
  | none => rfl
  | some m =>
    obtain ⟨c, d⟩ := s
    cases c with
    | none =>
      have e := hs fun i hi => hk i (List.mem_append_right _ hi)
      rw [e]
      rfl
    | some n =>
      have e := hs fun i hi => hk i (List.mem_append_left _ (List.mem_append_right _ hi))
      rw [e]
      have e2 := hg m n fun i hi => hk i (List.mem_append_right _ hi)
      show ((g' m n).1, b ++ d ++ (g' m n).2) = ((g m n).1, b ++ d ++ (g m n).2)
      rw [e2]
theorem evQ_keep {W : Tr} {now : Int} {k : Int → Bool} : ∀ q : Qn, (∀ i ∈ (evQ W now q).2, k i = true) → evQ (keepW k W) now q = evQ W now q
  | .tm t, h => ev_keep t h
  | .am (.number s t), h => by
    have sub : ∀ i ∈ (ev W now t).2, i ∈ (lookA (ev W now t) (lastR (W s))).2 := fun i hi => by
      unfold lookA
      split
      · exact hi
      · split
        · exact hi
        · exact List.mem_append_left _ hi
    have ih := ev_keep (k := k) t fun i hi => h i (sub i hi)
    show lookA (ev (keepW k W) now t) _ = lookA (ev W now t) _
    rw [ih]
    have h : ∀ i ∈ (lookA (ev W now t) (lastR (W s))).2, k i = true := h
    generalize ev W now t = r at h
    obtain ⟨a, b⟩ := r
    cases a with
    | none => rfl
    | some m =>
      have e : lastR (keepW k W s) m = lastR (W s) m := lastR_keep fun t ht => h _ (by
        show t.2.1 ∈ (match lastR (W s) m with | none => (none, b) | some t => (some t.2.2, b ++ [t.2.1])).2
        rw [ht]
        exact List.mem_append_right _ List.mem_cons_self)
      show (match lastR (keepW k W s) m with | none => (none, b) | some t => (some t.2.2, b ++ [t.2.1])) = (match lastR (W s) m with | none => (none, b) | some t => (some t.2.2, b ++ [t.2.1]))
      rw [e]
  | .am (.count s t u), h => by
    have ih := ev_keep (k := k) t fun i hi => h i (tell_sub1 hi)
    show tellR (ev (keepW k W) now t) (ev (keepW k W) now u) _ = tellR (ev W now t) (ev W now u) _
    rw [ih]
    refine tell_keep h (fun hs => ev_keep u hs) fun m n hm => ?_
    have e : betweenR (keepW k W s) m n = betweenR (W s) m n := betw_keep fun t ht => hm _ (List.mem_map_of_mem ht)
    rw [e]
  | .am (.total s t u), h => by
    have ih := ev_keep (k := k) t fun i hi => h i (tell_sub1 hi)
    show tellR (ev (keepW k W) now t) (ev (keepW k W) now u) _ = tellR (ev W now t) (ev W now u) _
    rw [ih]
    refine tell_keep h (fun hs => ev_keep u hs) fun m n hm => ?_
    have e : betweenR (keepW k W s) m n = betweenR (W s) m n := betw_keep fun t ht => hm _ (List.mem_map_of_mem ht)
    rw [e]
  | .am (.gap t u), h => by
    have ih := ev_keep (k := k) t fun i hi => h i (tell_sub1 hi)
    show tellR (ev (keepW k W) now t) (ev (keepW k W) now u) _ = tellR (ev W now t) (ev W now u) _
    rw [ih]
    exact tell_keep h (fun hs => ev_keep u hs) fun m n _ => rfl
end Ash

set_option Elab.async false
set_option linter.all false
set_option maxRecDepth 100000
set_option maxHeartbeats 4000000
namespace Ash
open PySem PySem.Spec PyProof.Rows L2 SrtT
open C8 (pss_cut)
theorem tell_len {W : Tr} {now : Int} {t u : Tm} {g : Int → Int → Rs} (h : t.Fit) (h2 : u.Fit) (hg : ∀ m n, (g m n).2.length ≤ 400) : (tellR (ev W now t) (ev W now u) g).2.length ≤ 500 := by
    have ln := ev_len (W := W) (now := now) t
    have ln2 := ev_len (W := W) (now := now) u
    have := h.2.2
    have := h2.2.2
    unfold tellR
    split
    · show (ev W now t).2.length ≤ _; omega
    · split
      · show ((ev W now t).2 ++ (ev W now u).2).length ≤ _
        rw [List.length_append]
        omega
      · next m _ _ n _ =>
        have := hg m n
        show ((ev W now t).2 ++ (ev W now u).2 ++ (g m n).2).length ≤ _
        rw [List.length_append, List.length_append]
        omega
theorem evQ_len {W : Tr} {now : Int} (hW : ∀ z, (W z).length ≤ 400) : ∀ {q : Qn}, q.Fit → (evQ W now q).2.length ≤ 500
  | .tm t, h => by
    have ln := ev_len (W := W) (now := now) t
    have h : t.Fit := h
    have := h.2.2
    show (ev W now t).2.length ≤ 500
    omega
  | .am (.number s t), h => by
    have ln := ev_len (W := W) (now := now) t
    have h : t.Fit := h
    have := h.2.2
    show (lookA (ev W now t) _).2.length ≤ 500
    unfold lookA
    split
    · show (ev W now t).2.length ≤ _; omega
    · split
      · show (ev W now t).2.length ≤ _; omega
      · show ((ev W now t).2 ++ [_]).length ≤ _
        rw [List.length_append]
        show (ev W now t).2.length + 1 ≤ _
        omega
  | .am (.count s t u), h => tell_len h.1 h.2 fun m n => by
    show ((betweenR (W s) m n).map _).length ≤ 400
    rw [List.length_map]
    exact Nat.le_trans (List.length_filter_le _ _) (hW s)
  | .am (.total s t u), h => tell_len h.1 h.2 fun m n => by
    show ((betweenR (W s) m n).map _).length ≤ 400
    rw [List.length_map]
    exact Nat.le_trans (List.length_filter_le _ _) (hW s)
  | .am (.gap t u), h => tell_len h.1 h.2 fun m n => by simp
/-- the rows that are looked at -/
def spSupport (A : AC) (C : TC) (CW : Addr) : Sp := fun vs H Q _ => ∃ (a b : Addr) (t : Qn) (W : Tr) (now : Int), vs = [.ref a, .ref b, .int now] ∧ QAt A C H a t ∧ WAt CW H b W ∧ t.NmS ∧ t.Fit ∧
  ∀ (p : Addr) (ys : List Int) H', Same H H' → H p = none → H' p = some (.lst (ys.map V.int)) → ys.Pairwise (· < ·) → ys.length ≤ 500 → (∀ z, z ∈ ys ↔ z ∈ (evQ W now t).2) → Q (.ref p) H'
section
variable {P : Program} {w : World} {K : PySem.W.Frag} {mg : Str → Option Value} {base : Heap} {C : TC} {CW : Addr} {A0 : AC}
abbrev s_support : Stmt := topS 56
theorem sc_support : FnScope ["question", "world", "now", "_", "seen"] ["question", "world", "now"] (defScope s_support) := ⟨rfl, rfl, rfl, by decide +kernel, rfl, by decide +kernel, by decide +kernel⟩
theorem ok_support {f : Addr} {fd : FuncData} (F : Fun K "support" "support" s_support f fd) (B : Blt mg) (G : U2 P w K mg base A0 C CW) : FnOk P w K mg base CX0 31 f fd ["question", "world", "now"] (spSupport A0 C CW) := by
  refine F.ok sc_support (fun vs H Q E h => ?_) (fun cdv A outer s H vs Q E hr h => ?_)
  · obtain ⟨a, b, t, W, now, rfl, _⟩ := h
    rfl
  · obtain ⟨a, b, t, W, now, rfl, hT, hW, hN, hF, q⟩ := h
    refine ⟨_, (pss_cons (ps_expr (pe_cal G.check (hr.mono (by decide)) pass0 (pa_cons (pv 0) (pa_cons (pv 1) (pa_cons (pv 2) pa_nil)))))
    (pss_cons (ps_asg (pe_cal G.answered (hr.mono (by decide)) pass0 (pa_cons (pv 0) (pa_cons (pv 1) (pa_cons (pv 2) pa_nil)))) (pg_tup (by rfl) (pgs_cons (pg_name (i := 3) sc_support.nd rfl (Or.inl rfl)) (pgs_cons (pg_name (i := 4) sc_support.nd rfl (Or.inl rfl)) pgs_nil))))
    (pss_one (ps_ret (pe_callB (cr_sortM rfl) (by rfl) B.sorted (by decide +kernel) (pa_cons (pe_callTy (cr_setL rfl) (by rfl) B.set (by decide +kernel) (pa_cons (pv 4) pa_nil)) pa_nil)))))), ?_⟩
    refine ⟨_, rfl, _, rfl, _, rfl, a, b, t, W, now, rfl, hT, hW, fun H1 s1 => ?_⟩
    refine ⟨_, rfl, _, rfl, _, rfl, a, b, t, W, now, rfl, hT.same s1, hW.same s1, hN, hF, fun q1 l H2 s2 hq1 hl => ?_⟩
    refine ⟨q1, _, rfl, SqT.of hq1, rfl, _, _, rfl, _, _, rfl, rfl, ?_⟩
    have ln := evQ_len (W := W) (now := now) (fun z => by obtain ⟨_, _, _, _, _, _, _, _, h4⟩ := id hW; exact (h4 z).1) hF
    have s12 := s1.trans s2
    generalize (evQ W now t).2 = xs at q hl ln
    have ek : (xs.map (Sum.inl : Int → Key)).map kV = xs.map V.int := by rw [List.map_map]; rfl
    refine ⟨_, rfl, l, xs.map Sum.inl, rfl, SqL.of (by rw [ek]; exact hl), by rw [List.length_map]; omega, fun p n hp hn => ?_⟩
    refine ⟨p, _, n, rfl, upd_same, .inr ⟨xs, fun k => kIn_iff, fun ys p2 hp2 ha hm hln => ?_⟩⟩
    have s3 := s12.trans (sameAt (Same.refl H2) hp (o := SetMO w p (kIn (xs.map Sum.inl)) n))
    exact q p2 ys _ (s3.trans (sameAt (Same.refl _) hp2)) (none_of s3 hp2) upd_same ha (by rw [List.length_map] at hn; omega) hm
end
end Ash

set_option Elab.async false
set_option linter.all false
set_option maxRecDepth 100000
set_option maxHeartbeats 4000000
namespace Ash
open PySem PySem.Spec PyProof.Rows L2 SrtT
/-! ### worlds moved, renamed, dearer, turned -/
theorem filter_map_pre {α : Type} {f : α → α} {p q : α → Bool} (h : ∀ a, p (f a) = q a) (l : List α) : (l.map f).filter p = (l.filter q).map f := by
  rw [List.filter_map]
  congr 1
  exact List.filter_congr fun a _ => h a
/-- rows changed one by one -/
def mvT (far fac : Int) (t : T3) : T3 := (t.1 + far, t.2.1, t.2.2 * fac)
def isNumQ : Qn → Bool
  | .tm _ => false
  | .am _ => true
/-- an answer further on, its amount dearer -/
def mvQ (far fac : Int) (q : Qn) (o : Option Int) : Option Int := match q with
  | .tm _ => o.map (· + far)
  | .am (.number _ _) => o.map (· * fac)
  | .am (.total _ _ _) => o.map (· * fac)
  | .am _ => o
theorem lastR_mv (far fac : Int) (rs : List T3) (m : Int) : lastR (rs.map (mvT far fac)) (m + far) = (lastR rs m).map (mvT far fac) := by
  unfold lastR
  rw [filter_map_pre (q := fun t => decide (t.1 ≤ m)) (fun a => by
    show decide (a.1 + far ≤ m + far) = decide (a.1 ≤ m)
    exact decide_eq_decide.mpr (by omega)), List.getLast?_map]
theorem nextR_mv (far fac : Int) (rs : List T3) (m : Int) : nextR (rs.map (mvT far fac)) (m + far) = (nextR rs m).map (mvT far fac) := by
  unfold nextR
  rw [filter_map_pre (q := fun t => decide (m ≤ t.1)) (fun a => by
    show decide (m + far ≤ a.1 + far) = decide (m ≤ a.1)
    exact decide_eq_decide.mpr (by omega)), List.head?_map]
theorem betw_mv (far fac : Int) (rs : List T3) (m n : Int) : betweenR (rs.map (mvT far fac)) (m + far) (n + far) = (betweenR rs m n).map (mvT far fac) := by
  unfold betweenR
  exact filter_map_pre (f := mvT far fac) (q := fun t : T3 => decide (m < t.1 ∧ t.1 ≤ n)) (fun a => by
    show decide (m + far < a.1 + far ∧ a.1 + far ≤ n + far) = decide (m < a.1 ∧ a.1 ≤ n)
    exact decide_eq_decide.mpr (by omega)) _
/-- the same term, its streams named otherwise -/
def renT (ρ : Str → Str) : Tm → Tm
  | .now => .now
  | .last s t => .last (ρ s) (renT ρ t)
  | .next s t => .next (ρ s) (renT ρ t)
  | .shift n t => .shift n (renT ρ t)
  | .either a b => .either (renT ρ a) (renT ρ b)
  | .later a b => .later (renT ρ a) (renT ρ b)
  | .earlier a b => .earlier (renT ρ a) (renT ρ b)
def renQ (ρ : Str → Str) : Qn → Qn
  | .tm t => .tm (renT ρ t)
  | .am (.number s t) => .am (.number (ρ s) (renT ρ t))
  | .am (.count s t u) => .am (.count (ρ s) (renT ρ t) (renT ρ u))
  | .am (.total s t u) => .am (.total (ρ s) (renT ρ t) (renT ρ u))
  | .am (.gap t u) => .am (.gap (renT ρ t) (renT ρ u))
def mvR (far : Int) (r : Rs) : Rs := (r.1.map (· + far), r.2)
theorem look_mv {far : Int} {r : Rs} {f g : Int → Option T3} (h : ∀ m, (g (m + far)).map (fun t => (t.1, t.2.1)) = (f m).map fun t => (t.1 + far, t.2.1)) : lookR (mvR far r) g = mvR far (lookR r f) := by
  obtain ⟨a, b⟩ := r
  cases a with
  | none => rfl
  | some m =>
    have e := h m
    show (match g (m + far) with | none => (none, b) | some t => (some t.1, b ++ [t.2.1])) = mvR far (match f m with | none => (none, b) | some t => (some t.1, b ++ [t.2.1]))
    cases hf : f m with
    | none =>
      rw [hf] at e
      cases hg : g (m + far) with
      | none => rfl
      | some t => rw [hg] at e; cases e
    | some t =>
      rw [hf] at e
      cases hg : g (m + far) with
      | none => rw [hg] at e; cases e
      | some u =>
        rw [hg] at e
        have e := Option.some.inj e
        have e1 : u.1 = t.1 + far := congrArg Prod.fst e
        have e2 : u.2.1 = t.2.1 := congrArg Prod.snd e
        show (some u.1, b ++ [u.2.1]) = (some (t.1 + far), b ++ [t.2.1])
        rw [e1, e2]
/-- a world whose rows are those of another one, changed -/
def MvW (ρ : Str → Str) (names : List Str) (far fac : Int) (W W' : Tr) : Prop := ∀ z ∈ names, W' (ρ z) = (W z).map (mvT far fac)
theorem both_mv {far : Int} {f : Int → Int → Int} {r s : Rs} (h : ∀ m k, f (m + far) (k + far) = f m k + far) : bothR f (mvR far r) (mvR far s) = mvR far (bothR f r s) := by
    obtain ⟨a, b⟩ := r; obtain ⟨c, d⟩ := s; cases a with | none => rfl | some m => cases c with | none => rfl | some k => show (some (f (m + far) (k + far)), b ++ d) = (some (f m k + far), b ++ d); rw [h]
theorem ev_mv {ρ : Str → Str} {names : List Str} {far fac : Int} {W W' : Tr} (h : MvW ρ names far fac W W') {now : Int} : ∀ {t : Tm}, t.InS names → ev W' (now + far) (renT ρ t) = mvR far (ev W now t)
  | .now, _ => rfl
  | .last s t, hI => by
    show lookR (ev W' (now + far) (renT ρ t)) (lastR (W' (ρ s))) = mvR far (lookR (ev W now t) (lastR (W s)))
    rw [ev_mv h hI.2, h s hI.1]
    refine look_mv fun m => ?_
    rw [lastR_mv]
    cases lastR (W s) m <;> rfl
  | .next s t, hI => by
    show lookR (ev W' (now + far) (renT ρ t)) (nextR (W' (ρ s))) = mvR far (lookR (ev W now t) (nextR (W s)))
    rw [ev_mv h hI.2, h s hI.1]
    refine look_mv fun m => ?_
    rw [nextR_mv]
    cases nextR (W s) m <;> rfl
  | .shift n t, hI => by
    show moveR (ev W' (now + far) (renT ρ t)) n = mvR far (moveR (ev W now t) n)
    rw [ev_mv h (t := t) hI]
    generalize ev W now t = r
    obtain ⟨a, b⟩ := r
    cases a with
    | none => rfl
    | some m => show (some (m + far + n), b) = (some (m + n + far), b); rw [show m + far + n = m + n + far by omega]
  | .either a b, hI => by
    show eithR (ev W' (now + far) (renT ρ a)) (ev W' (now + far) (renT ρ b)) = mvR far (eithR (ev W now a) (ev W now b))
    rw [ev_mv h hI.1, ev_mv h hI.2]
    generalize ev W now a = r
    generalize ev W now b = s
    obtain ⟨x, y⟩ := r
    cases x <;> rfl
  | .later a b, hI => by
    show bothR mxI (ev W' (now + far) (renT ρ a)) (ev W' (now + far) (renT ρ b)) = mvR far (bothR mxI (ev W now a) (ev W now b))
    rw [ev_mv h hI.1, ev_mv h hI.2]
    exact both_mv fun m k => by unfold mxI; split <;> split <;> omega
  | .earlier a b, hI => by
    show bothR mnI (ev W' (now + far) (renT ρ a)) (ev W' (now + far) (renT ρ b)) = mvR far (bothR mnI (ev W now a) (ev W now b))
    rw [ev_mv h hI.1, ev_mv h hI.2]
    exact both_mv fun m k => by unfold mnI; split <;> split <;> omega
theorem perm_mul (fac : Int) : ∀ l : List T3, ((l.map fun t => t.2.2 * fac)).sum = (l.map fun t : T3 => t.2.2).sum * fac
  | [] => by simp
  | t :: r => by simp only [List.map_cons, List.sum_cons]; rw [perm_mul fac r, Int.add_mul]
theorem tell_mv {far : Int} {r s : Rs} {g g' : Int → Int → Rs} (h : ∀ m n, g' (m + far) (n + far) = g m n) : tellR (mvR far r) (mvR far s) g' = ((tellR r s g).1, (tellR r s g).2) := by
    obtain ⟨a, b⟩ := r; obtain ⟨c, d⟩ := s; cases a with | none => rfl | some m => cases c with | none => rfl | some n => show ((g' (m + far) (n + far)).1, b ++ d ++ (g' (m + far) (n + far)).2) = ((g m n).1, b ++ d ++ (g m n).2); rw [h]
theorem tell_mv2 {far fac : Int} {r s : Rs} {g g' : Int → Int → Rs} (h : ∀ m n, g' (m + far) (n + far) = ((g m n).1.map (· * fac), (g m n).2)) : tellR (mvR far r) (mvR far s) g' = ((tellR r s g).1.map (· * fac), (tellR r s g).2) := by
    obtain ⟨a, b⟩ := r; obtain ⟨c, d⟩ := s; cases a with | none => rfl | some m => cases c with | none => rfl | some n => show ((g' (m + far) (n + far)).1, b ++ d ++ (g' (m + far) (n + far)).2) = ((g m n).1.map (· * fac), b ++ d ++ (g m n).2); rw [h]
theorem evQ_mv {ρ : Str → Str} {names : List Str} {far fac : Int} {W W' : Tr} (h : MvW ρ names far fac W W') {now : Int} : ∀ {q : Qn}, q.InS names → evQ W' (now + far) (renQ ρ q) = (mvQ far fac q (evQ W now q).1, (evQ W now q).2)
  | .tm t, hI => ev_mv h (t := t) hI
  | .am (.number s t), hI => by
    show lookA (ev W' (now + far) (renT ρ t)) (lastR (W' (ρ s))) = ((lookA (ev W now t) (lastR (W s))).1.map (· * fac), (lookA (ev W now t) (lastR (W s))).2)
    rw [ev_mv h hI.2, h s hI.1]
    generalize ev W now t = r
    obtain ⟨a, b⟩ := r
    cases a with
    | none => rfl
    | some m =>
      show (match lastR ((W s).map (mvT far fac)) (m + far) with | none => (none, b) | some t => (some t.2.2, b ++ [t.2.1])) = ((match lastR (W s) m with | none => (none, b) | some t => (some t.2.2, b ++ [t.2.1])).1.map (· * fac), (match lastR (W s) m with | none => (none, b) | some t => (some t.2.2, b ++ [t.2.1])).2)
      rw [lastR_mv]
      cases lastR (W s) m <;> rfl
  | .am (.count s t u), hI => by
    show tellR (ev W' (now + far) (renT ρ t)) (ev W' (now + far) (renT ρ u)) _ = (((tellR (ev W now t) (ev W now u) _).1), (tellR (ev W now t) (ev W now u) _).2)
    rw [ev_mv h hI.2.1, ev_mv h hI.2.2]
    refine tell_mv fun m n => ?_
    show ((some ((betweenR (W' (ρ s)) (m + far) (n + far)).length : Int), (betweenR (W' (ρ s)) (m + far) (n + far)).map (·.2.1)) : Rs) = _
    rw [h s hI.1, betw_mv, List.length_map, List.map_map]
    rfl
  | .am (.total s t u), hI => by
    show tellR (ev W' (now + far) (renT ρ t)) (ev W' (now + far) (renT ρ u)) _ = (((tellR (ev W now t) (ev W now u) _).1.map (· * fac)), (tellR (ev W now t) (ev W now u) _).2)
    rw [ev_mv h hI.2.1, ev_mv h hI.2.2]
    refine tell_mv2 fun m n => ?_
    show ((some ((betweenR (W' (ρ s)) (m + far) (n + far)).map (·.2.2)).sum, (betweenR (W' (ρ s)) (m + far) (n + far)).map (·.2.1)) : Rs) = _
    rw [h s hI.1, betw_mv, List.map_map, List.map_map]
    show ((some ((betweenR (W s) m n).map fun t => t.2.2 * fac).sum, (betweenR (W s) m n).map (·.2.1)) : Rs) = (some (((betweenR (W s) m n).map (·.2.2)).sum * fac), (betweenR (W s) m n).map (·.2.1))
    rw [perm_mul]
  | .am (.gap t u), hI => by
    show tellR (ev W' (now + far) (renT ρ t)) (ev W' (now + far) (renT ρ u)) _ = (((tellR (ev W now t) (ev W now u) _).1), (tellR (ev W now t) (ev W now u) _).2)
    rw [ev_mv h hI.1, ev_mv h hI.2]
    refine tell_mv fun m n => ?_
    show ((some (n + far - (m + far)), []) : Rs) = (some (n - m), [])
    rw [show n + far - (m + far) = n - m by omega]
/-! ### from the other end -/
def ngT (t : T3) : T3 := (-t.1, 1000 - t.2.1, t.2.2)
def ngR (r : Rs) : Rs := (r.1.map (- ·), r.2.map (1000 - ·))
def trT : Tm → Tm
  | .now => .now
  | .last s t => .next s (trT t)
  | .next s t => .last s (trT t)
  | .shift n t => .shift (-n) (trT t)
  | .either a b => .either (trT a) (trT b)
  | .later a b => .earlier (trT a) (trT b)
  | .earlier a b => .later (trT a) (trT b)
theorem lastR_ng (rs : List T3) (m : Int) : lastR (rs.map ngT).reverse (-m) = (nextR rs m).map ngT := by
  unfold lastR nextR
  rw [List.filter_reverse, List.getLast?_reverse, filter_map_pre (q := fun t => decide (m ≤ t.1)) (fun a => by
    show decide (-a.1 ≤ -m) = decide (m ≤ a.1)
    exact decide_eq_decide.mpr (by omega)), List.head?_map]
theorem nextR_ng (rs : List T3) (m : Int) : nextR (rs.map ngT).reverse (-m) = (lastR rs m).map ngT := by
  unfold lastR nextR
  rw [List.filter_reverse, List.head?_reverse, filter_map_pre (q := fun t => decide (t.1 ≤ m)) (fun a => by
    show decide (-m ≤ -a.1) = decide (a.1 ≤ m)
    exact decide_eq_decide.mpr (by omega)), List.getLast?_map]
theorem look_ng {r : Rs} {f g : Int → Option T3} (h : ∀ m, g (-m) = (f m).map ngT) : lookR (ngR r) g = ngR (lookR r f) := by
  obtain ⟨a, b⟩ := r
  cases a with
  | none => rfl
  | some m =>
    show (match g (-m) with | none => (none, b.map (1000 - ·)) | some t => (some t.1, b.map (1000 - ·) ++ [t.2.1])) = ngR (match f m with | none => (none, b) | some t => (some t.1, b ++ [t.2.1]))
    rw [h m]
    cases f m with
    | none => rfl
    | some t =>
      show (some (-t.1), b.map (1000 - ·) ++ [1000 - t.2.1]) = (some (-t.1), (b ++ [t.2.1]).map (1000 - ·))
      rw [List.map_append]
      rfl
theorem both_ng {f g : Int → Int → Int} {r s : Rs} (h : ∀ m k, g (-m) (-k) = -(f m k)) : bothR g (ngR r) (ngR s) = ngR (bothR f r s) := by
  obtain ⟨a, b⟩ := r
  obtain ⟨c, d⟩ := s
  cases a with
  | none => rfl
  | some m =>
    cases c with
    | none =>
      show (none, b.map (1000 - ·) ++ d.map (1000 - ·)) = ((none, (b ++ d).map (1000 - ·)) : Rs)
      rw [List.map_append]
    | some k =>
      show (some (g (-m) (-k)), b.map (1000 - ·) ++ d.map (1000 - ·)) = (some (-(f m k)), (b ++ d).map (1000 - ·))
      rw [h, List.map_append]
theorem ev_ng {W W' : Tr} {names : List Str} (h : ∀ z ∈ names, W' z = ((W z).map ngT).reverse) {now : Int} : ∀ {t : Tm}, t.InS names → ev W' (-now) (trT t) = ngR (ev W now t)
  | .now, _ => rfl
  | .last s t, hI => by
    show lookR (ev W' (-now) (trT t)) (nextR (W' s)) = ngR (lookR (ev W now t) (lastR (W s)))
    rw [ev_ng h hI.2, h s hI.1]
    exact look_ng fun m => nextR_ng _ m
  | .next s t, hI => by
    show lookR (ev W' (-now) (trT t)) (lastR (W' s)) = ngR (lookR (ev W now t) (nextR (W s)))
    rw [ev_ng h hI.2, h s hI.1]
    exact look_ng fun m => lastR_ng _ m
  | .shift n t, hI => by
    show moveR (ev W' (-now) (trT t)) (-n) = ngR (moveR (ev W now t) n)
    rw [ev_ng h (t := t) hI]
    generalize ev W now t = r
    obtain ⟨a, b⟩ := r
    cases a with
    | none => rfl
    | some m => show (some (-m + -n), b.map (1000 - ·)) = (some (-(m + n)), b.map (1000 - ·)); rw [show -m + -n = -(m + n) by omega]
  | .either a b, hI => by
    show eithR (ev W' (-now) (trT a)) (ev W' (-now) (trT b)) = ngR (eithR (ev W now a) (ev W now b))
    rw [ev_ng h hI.1, ev_ng h hI.2]
    generalize ev W now a = r
    generalize ev W now b = s
    obtain ⟨x, y⟩ := r
    cases x with
    | none =>
      show (s.1.map (- ·), y.map (1000 - ·) ++ s.2.map (1000 - ·)) = (s.1.map (- ·), (y ++ s.2).map (1000 - ·))
      rw [List.map_append]
    | some m => rfl
  | .later a b, hI => by
    show bothR mnI (ev W' (-now) (trT a)) (ev W' (-now) (trT b)) = ngR (bothR mxI (ev W now a) (ev W now b))
    rw [ev_ng h hI.1, ev_ng h hI.2]
    exact both_ng fun m k => by unfold mxI mnI; split <;> split <;> omega
  | .earlier a b, hI => by
    show bothR mxI (ev W' (-now) (trT a)) (ev W' (-now) (trT b)) = ngR (bothR mnI (ev W now a) (ev W now b))
    rw [ev_ng h hI.1, ev_ng h hI.2]
    exact both_ng fun m k => by unfold mxI mnI; split <;> split <;> omega
end Ash

set_option Elab.async false
set_option linter.all false
set_option maxRecDepth 100000
set_option maxHeartbeats 4000000
namespace Ash
open PySem PySem.Spec PyProof.Rows L2 SrtT
open C8 (pss_cut)
/-! ### worlds made of changed rows -/
theorem RwAt.put {H : Hp} {d e : Addr} {ns : List Str} {A : Str → Addr} {T : Tr} {y : Str} {ys : List V} {ts : List T3} (R : RwAt H d ns A T) (hy : y ∉ ns) (he : H e = some (.lst ys)) (hT : TrAt H ys ts) (hn : ∀ x ∈ ns, A x ≠ e) :
    RwAt (upd H d (.dK (putK (ns.map fun z => ((Sum.inr z : Key), V.ref (A z))) (Sum.inr y) (V.ref e)))) d (ns ++ [y]) (fun x => if x = y then e else A x) (fun x => if x = y then ts else T x) := by
  have hd := R.at_
  have ny : ∀ x ∈ ns, ¬ x = y := fun x hx q => hy (q ▸ hx)
  have ed : e ≠ d := fun q => by rw [q, hd] at he; cases he
  have tk : ∀ {u} t xs, H t = some (.tup xs) → upd H d u t = some (.tup xs) := fun {u} t xs q => by rw [upd_ne (ne_of q hd (by intro z; cases z))]; exact q
  refine ⟨?_, fun x hx => ?_, fun x hx z hz => ?_⟩
  · rw [upd_same, putK_new _ (by rw [valV_nm, if_neg hy]), List.map_append]
    show some (HO.dK (_ ++ [(Sum.inr y, V.ref e)])) = some (HO.dK (_ ++ [(Sum.inr y, V.ref (if y = y then e else A y))]))
    rw [if_pos rfl]
    refine congrArg (fun q => some (HO.dK (q ++ [((Sum.inr y : Key), V.ref e)]))) (List.map_congr_left fun z hz => ?_)
    show (Sum.inr z, V.ref (A z)) = ((Sum.inr z : Key), V.ref (if z = y then e else A z))
    rw [if_neg (ny z hz)]
  · rcases List.mem_append.mp hx with hx | hx
    · obtain ⟨zs, h1, h2⟩ := R.row x hx
      refine ⟨zs, ?_, ?_⟩
      · show upd _ _ _ (if x = y then e else A x) = _
        rw [if_neg (ny x hx), upd_ne (ne_of h1 hd (by intro z; cases z))]
        exact h1
      · show TrAt _ zs (if x = y then ts else T x)
        rw [if_neg (ny x hx)]
        exact h2.tk tk
    · rw [List.mem_singleton.mp hx]
      refine ⟨ys, ?_, ?_⟩
      · show upd _ _ _ (if y = y then e else A y) = _
        rw [if_pos rfl, upd_ne ed]
        exact he
      · show TrAt _ ys (if y = y then ts else T y)
        rw [if_pos rfl]
        exact hT.tk tk
  · show (if x = y then e else A x) = (if z = y then e else A z) → x = z
    rcases List.mem_append.mp hx with hx | hx <;> rcases List.mem_append.mp hz with hz | hz
    · rw [if_neg (ny x hx), if_neg (ny z hz)]
      exact R.inj x hx z hz
    · rw [if_neg (ny x hx), List.mem_singleton.mp hz, if_pos rfl]
      exact fun q => absurd q (hn x hx)
    · rw [List.mem_singleton.mp hx, if_neg (ny z hz), if_pos rfl]
      exact fun q => absurd q.symm (hn z hz)
    · rw [List.mem_singleton.mp hx, List.mem_singleton.mp hz]
      exact fun _ => rfl
/-- rows changed by F under names changed by ρ -/
def ChT (ρ : Str → Str) (names : List Str) (F : T3 → T3) (T T' : Tr) : Prop := ∀ z ∈ names, T' (ρ z) = (T z).map F
theorem ids_ch {ρ : Str → Str} {names : List Str} {F : T3 → T3} {g : Int → Int} {T T' : Tr} (h : ChT ρ names F T T') (hF : ∀ t, (F t).2.1 = g t.2.1) : idsOf (names.map ρ) T' = (idsOf names T).map g := by
  unfold idsOf
  rw [List.flatMap_map, List.map_flatMap]
  have : ∀ l : List Str, (∀ z ∈ l, z ∈ names) → l.flatMap (fun z => (T' (ρ z)).map (·.2.1)) = l.flatMap (fun z => ((T z).map (·.2.1)).map g) := fun l => by
    induction l with
    | nil => exact fun _ => rfl
    | cons a r ih =>
      intro hl
      rw [List.flatMap_cons, List.flatMap_cons, ih fun z hz => hl z (List.mem_cons_of_mem _ hz), h a (hl a List.mem_cons_self), List.map_map, List.map_map]
      refine congrArg (· ++ _) (List.map_congr_left fun t _ => hF t)
  exact this names fun z hz => hz
theorem good_ch {ρ : Str → Str} {names : List Str} {F : T3 → T3} {g : Int → Int} {T T' : Tr} {n : Nat} (h : ChT ρ names F T T') (hF : ∀ t, (F t).2.1 = g t.2.1) (hg : ∀ i j, g i = g j → i = j) (h0 : ∀ i ∈ idsOf names T, 0 ≤ g i) (G : GoodT names T n) : GoodT (names.map ρ) T' n := by
  refine ⟨by rw [ids_ch h hF, List.length_map, G.len], ?_, fun i hi => ?_⟩
  · rw [ids_ch h hF]
    have : ∀ l : List Int, l.Nodup → (l.map g).Nodup := fun l => by
      induction l with
      | nil => exact fun _ => List.nodup_nil
      | cons a r ih =>
        intro hl
        obtain ⟨h1, h2⟩ := List.nodup_cons.mp hl
        rw [List.map_cons, List.nodup_cons]
        refine ⟨fun hm => ?_, ih h2⟩
        obtain ⟨b, hb, e⟩ := List.mem_map.mp hm
        exact h1 (hg _ _ e ▸ hb)
    exact this _ G.nd
  · rw [ids_ch h hF] at hi
    obtain ⟨j, hj, rfl⟩ := List.mem_map.mp hi
    exact h0 j hj
/-- rows of one stream in ascending order stay so -/
theorem asc_map {F : T3 → T3} {l : List T3} (hF : ∀ a b : T3, a.2.1 ≠ b.2.1 → lex3 a b = true → lex3 (F a) (F b) = true) (hn : (l.map (·.2.1)).Nodup) (h : l.Pairwise fun a b => lex3 a b = true) : (l.map F).Pairwise fun a b => lex3 a b = true :=
  List.pairwise_map.mpr (((List.pairwise_map.mp hn).and h).imp fun {a b} ⟨h1, h2⟩ => hF a b h1 h2)
theorem asc_rev {F : T3 → T3} {l : List T3} (hF : ∀ a b : T3, a.2.1 ≠ b.2.1 → lex3 a b = true → lex3 (F b) (F a) = true) (hn : (l.map (·.2.1)).Nodup) (h : l.Pairwise fun a b => lex3 a b = true) : (l.map F).reverse.Pairwise fun a b => lex3 a b = true :=
  List.pairwise_reverse.mpr (List.pairwise_map.mpr (((List.pairwise_map.mp hn).and h).imp fun {a b} ⟨h1, h2⟩ => hF a b h1 h2))
theorem mvW_of {ρ : Str → Str} {names : List Str} {far fac : Int} {T T' W W' : Tr} {n : Nat} (G : GoodT names T n) (h : RowsW names T W) (h' : RowsW (names.map ρ) T' W') (c : ChT ρ names (mvT far fac) T T') : MvW ρ names far fac W W' := fun z hz => by
  obtain ⟨a1, a2⟩ := h.1 z hz
  obtain ⟨b1, b2⟩ := h'.1 (ρ z) (List.mem_map_of_mem hz)
  rw [c z hz] at b1
  refine lex_uniq (b1.trans (a1.map _).symm) b2 (asc_map (fun a b hn hl => ?_) ((a1.map (·.2.1)).symm.nodup (G.apart hz)) a2)
  rw [lex3_iff] at hl ⊢
  show a.1 + far < b.1 + far ∨ (a.1 + far = b.1 + far ∧ (a.2.1 < b.2.1 ∨ (a.2.1 = b.2.1 ∧ _)))
  omega
theorem ngW_of {names : List Str} {T T' W W' : Tr} {n : Nat} (G : GoodT names T n) (h : RowsW names T W) (h' : RowsW (names.map id) T' W') (c : ChT id names ngT T T') : ∀ z ∈ names, W' z = ((W z).map ngT).reverse := fun z hz => by
  obtain ⟨a1, a2⟩ := h.1 z hz
  obtain ⟨b1, b2⟩ := h'.1 z (by rw [List.map_id]; exact hz)
  have e : T' z = (T z).map ngT := c z hz
  rw [e] at b1
  refine lex_uniq ((b1.trans (a1.map _).symm).trans (List.reverse_perm _).symm) b2 (asc_rev (fun a b hn hl => ?_) ((a1.map (·.2.1)).symm.nodup (G.apart hz)) a2)
  rw [lex3_iff] at hl ⊢
  show -b.1 < -a.1 ∨ (-b.1 = -a.1 ∧ (1000 - b.2.1 < 1000 - a.2.1 ∨ (1000 - b.2.1 = 1000 - a.2.1 ∧ _)))
  omega
theorem log_bd {a : Int} (h : -10000000000000000000000000000000000000000 ≤ a ∧ a ≤ 10000000000000000000000000000000000000000) : a.natAbs.log2 < 200 := by
  by_cases e : a.natAbs = 0
  · rw [e]
    decide
  · rw [Nat.log2_lt e]
    have : (2 : Nat) ^ 200 = 1606938044258990275541962092341162602522202993782792835301376 := by decide
    omega
theorem mulW_of {a b : Int} (ha : -10000000000000000000000000000000000000000 ≤ a ∧ a ≤ 10000000000000000000000000000000000000000) (hb : Bd b) : CMulW a b := by
  have h1 := log_bd ha
  have h2 := log_bd (a := b) (by unfold Bd at hb; omega)
  unfold CMulW
  omega
def spLPlus : Sp := fun vs H Q _ => ∃ (o : Option Int) (n : Int), vs = [oV o, .int n] ∧ Q (oV (o.map (· + n))) H
def spLChanged (CW : Addr) : Sp := fun vs H Q _ => ∃ (d l nm : Addr) (names : List Str) (A : Str → Addr) (T : Tr) (n : Nat) (ρ : Str → Str) (far fac : Int), vs = [.ref d, .ref l, .ref nm, .int far, .int fac] ∧ RwAt H d names A T ∧ H l = some (.lst (names.map V.str)) ∧ H nm = some (.dK (names.map fun z => ((Sum.inr z : Key), V.str (ρ z)))) ∧ names.length ≤ 100 ∧ names.Nodup ∧ (∀ z ∈ names, IsNm (ρ z)) ∧ (names.map ρ).Nodup ∧ GoodT names T n ∧ n ≤ 400 ∧ Bd fac ∧ (∀ y, ∀ t ∈ T y, Bd t.2.2) ∧
  ∀ (wd : Addr) (T' W' : Tr) H', WAt CW H' wd W' → ChT ρ names (mvT far fac) T T' → RowsW (names.map ρ) T' W' → Same H H' → Q (.ref wd) H'
def spLOpposite (CW : Addr) : Sp := fun vs H Q _ => ∃ (d l : Addr) (names : List Str) (A : Str → Addr) (T : Tr) (n : Nat), vs = [.ref d, .ref l] ∧ RwAt H d names A T ∧ H l = some (.lst (names.map V.str)) ∧ names.length ≤ 100 ∧ names.Nodup ∧ (∀ z ∈ names, IsNm z) ∧ GoodT names T n ∧ n ≤ 400 ∧ (∀ i ∈ idsOf names T, i ≤ 1000) ∧
  ∀ (wd : Addr) (T' W' : Tr) H', WAt CW H' wd W' → ChT id names ngT T T' → RowsW (names.map id) T' W' → Same H H' → Q (.ref wd) H'
section
variable {P : Program} {w : World} {K : PySem.W.Frag} {mg : Str → Option Value} {base : Heap} {C : TC} {CW : Addr} {A0 : AC}
abbrev s_l_plus : Stmt := topS 81
theorem sc_l_plus : FnScope ["told", "more"] ["told", "more"] (defScope s_l_plus) := ⟨rfl, rfl, rfl, by decide +kernel, rfl, by decide +kernel, by decide +kernel⟩
theorem ok_lplus {f : Addr} {fd : FuncData} (F : Fun K "_law_plus" "_law_plus" s_l_plus f fd) (B : Blt mg) : FnOk P w K mg base CX0 1 f fd ["told", "more"] spLPlus := by
  refine F.ok sc_l_plus (fun vs H Q E h => ?_) (fun cdv A outer s H vs Q E hr h => ?_)
  · obtain ⟨o, n, rfl, _⟩ := h
    rfl
  · obtain ⟨o, n, rfl, q⟩ := h
    refine ⟨_, (pss_cons (ps_if (pt_cmpR op_isN (pv 0) pe_non (nomark _))
      (pss_one (ps_ret pe_non))
      pss_nil)
    (pss_one (ps_ret (pe_op op_add (pv 0) (pv 1))))), ?_⟩
    refine ⟨_, rfl, rfl, _, rfl, ?_⟩
    cases o with
    | none => exact ite2 (fun _ => q) (fun c => absurd rfl c)
    | some i => exact ite2 (fun c => absurd (of_decide_eq_true c) (fun z => nomatch z)) (fun _ => ⟨_, rfl, _, rfl, _, _, rfl, rfl, q⟩)
structure W16 (P : Program) (w : World) (K : PySem.W.Frag) (mg : Str → Option Value) (base : Heap) (CW : Addr) : Prop where
  World : Mak P w K mg base CX0 "World" CW 5 ["self", "rows"] (spWorldInit CW)
abbrev s_l_changed : Stmt := topS 79
theorem sc_l_changed : FnScope ["rows", "streams", "names", "far", "factor", "found", "stream", "row"] ["rows", "streams", "names", "far", "factor"] (defScope s_l_changed) := ⟨rfl, rfl, rfl, by decide +kernel, rfl, by decide +kernel, by decide +kernel⟩
theorem ok_lchanged {f : Addr} {fd : FuncData} (F : Fun K "_law_changed" "_law_changed" s_l_changed f fd) (B : Blt mg) (G : W16 P w K mg base CW) : FnOk P w K mg base CX0 7 f fd ["rows", "streams", "names", "far", "factor"] (spLChanged CW) := by
  refine F.ok sc_l_changed (fun vs H Q E h => ?_) (fun cdv A outer s H vs Q E hr h => ?_)
  · obtain ⟨d, l, nm, names, A, T, n, ρ, far, fac, rfl, _⟩ := h
    rfl
  · obtain ⟨d, l, nm, names, Ad, T, n, ρ, far, fac, rfl, R, hl, hnm, n100, hnd, hN, hnr, GT, n4, hfac, hbd, q⟩ := h
    have hu := hu_of hr
    refine ⟨_, (pss_cons (ps_set (i := 5) sc_l_changed.nd rfl (Or.inl rfl) pe_dnewK)
    (pss_cons (ps_for PassesOwn.never rfl (pi_list (pv 1)) (pg_name (i := 6) sc_l_changed.nd rfl (Or.inl rfl))
      (pss_one (ps_dput hu (pv 5) (pe_dget hu (pv 2) (pv 6) (fun _ _ => rfl)) (pe_lc (own := [("row", 7)]) (g := gName 7) (tt := tYes) (by rfl) sc_l_changed.nd (pi_list (pe_dget hu (pv 0) (pv 6) (fun _ _ => rfl))) (blkOk_by (own := [("row", 7)]) (N := ["rows", "streams", "names", "far", "factor", "found", "stream", "row"]) (sc := defScope s_l_changed) (by decide +kernel)) (fun _ _ _ _ _ => (pg_name (i := 7) sc_l_changed.nd rfl (Or.inl rfl))) (fun _ _ _ _ _ => pts_nil) (fun _ _ _ _ _ => (pe_tup (pa_cons (pe_op op_add (pe_ix (show IxR _ (rIxT K) from ix_tup) (pv 7) pe_int (fun _ _ => rfl)) (pv 3)) (pa_cons (pe_ix (show IxR _ (rIxT K) from ix_tup) (pv 7) pe_int (fun _ _ => rfl)) (pa_cons (pe_op op_mulW (pe_ix (show IxR _ (rIxT K) from ix_tup) (pv 7) pe_int (fun _ _ => rfl)) (pv 4)) pa_nil)))))) rfl)))
    (pss_one (ps_ret (pe_mak G.World (hr.mono (by decide)) pass0 (pa_cons (pv 5) pa_nil)))))), ?_⟩
    intro D hD
    have dD : d ≠ D := fun q => by rw [← q, R.at_] at hD; cases hD
    have s0 : Same H (upd H D (.dK [])) := sameAt (Same.refl H) hD
    refine ⟨_, rfl, l, rfl, ⟨_, SqL.of (s0 _ _ hl)⟩, for_list (K := K) (a := l) (xs := names.map V.str) (fun i σ H1 => (∃ a b, σ = [some (.ref d), some (.ref l), some (.ref nm), some (.int far), some (.int fac), some (.ref D), a, b]) ∧ Same H H1 ∧ ∃ A' T', RwAt H1 D ((names.take i).map ρ) A' T' ∧ ChT ρ (names.take i) (mvT far fac) T T') ?_ (fun i σ H1 _ hv => SqL.of (hv.2.1 _ _ hl)) ?_ ?_⟩
    · exact ⟨⟨_, _, rfl⟩, s0, fun _ => D, fun _ => [], ⟨upd_same, (fun z hz => nomatch hz), (fun z hz => nomatch hz)⟩, fun z hz => nomatch hz⟩
    · rintro i y σ H1 hi ⟨⟨a, b, rfl⟩, s1, A', T', R', c'⟩
      obtain ⟨z, hz, rfl⟩ : ∃ z, names[i]? = some z ∧ y = V.str z := by
        rw [List.getElem?_map] at hi
        cases e : names[i]? with
        | none => rw [e] at hi; cases hi
        | some z => rw [e] at hi; exact ⟨z, rfl, (Option.some.inj hi).symm⟩
      have hm : z ∈ names := List.mem_of_getElem? hz
      have R1 := R.same s1
      have hg := DGet.k (k := Sum.inr z) R1.at_
      rw [valV_nm, if_pos hm] at hg
      obtain ⟨ys, hy, hT⟩ := R1.row z hm
      have few : (T z).length ≤ 400 := Nat.le_trans (GT.few hm) n4
      refine ⟨_, rfl, _, rfl, d, _, rfl, hg, Ad z, rfl, ⟨_, SqL.of hy⟩, fun D2 hD2 => lc_it (walk_list (xs := ys)) (fun j H2 => (∃ zs, H2 D2 = some (.lst zs) ∧ TrAt H2 zs (((T z).take j).map (mvT far fac))) ∧ Same H1 H2) ⟨⟨[], upd_same, rfl, fun i v t a b => by simp at a⟩, sameAt (Same.refl H1) hD2⟩ (fun j H2 _ hv => SqL.of (hv.2 _ _ hy)) ?_ ?_⟩
      · rintro j x H2 H3 hj ⟨⟨zs, hE, hT2⟩, s2⟩ ⟨rfl, hx⟩
        have hj2 : j < (T z).length := by rw [← hT.1]; exact hj
        obtain ⟨t3, ht⟩ : ∃ t3, (T z)[j]? = some t3 := ⟨_, List.getElem?_eq_getElem hj2⟩
        obtain ⟨e, rfl, he⟩ := hT.2 j x t3 hx ht
        have he1 := s2 _ _ he
        have lz : zs.length ≤ 400 := by
          rw [hT2.1, List.length_map, List.length_take]
          omega
        refine ⟨rfl, _, rfl, _, _, _, _, rfl, rfl, SqT.of he1, rfl, _, rfl, _, _, rfl, rfl, _, rfl, _, _, _, _, rfl, rfl, SqT.of he1, rfl, _, rfl, _, _, _, _, rfl, rfl, SqT.of he1, rfl, _, rfl, _, _, rfl, rfl, mulW_of (by have := hbd z t3 (List.mem_of_getElem? ht); unfold Bd at this; omega) hfac, (by show 3 ≤ sizeLine; decide), fun p hp => ?_⟩
        have pE : p ≠ D2 := fun q => by rw [q, hE] at hp; cases hp
        have hE3 : upd H3 p (.tup (tv ((mvT far fac) t3))) D2 = some (.lst zs) := by rw [upd_ne (Ne.symm pE)]; exact hE
        have tk : ∀ {u} t xs, H3 t = some (.tup xs) → upd (upd H3 p (.tup (tv ((mvT far fac) t3)))) D2 u t = some (.tup xs) := fun {u} t xs q => by
          rw [upd_ne (ne_of q hE (by intro z; cases z)), upd_ne (ne_of_none q hp)]
          exact q
        refine ⟨zs, hE3, small1000 (by omega), ⟨zs ++ [.ref p], upd_same, ?_⟩, fun b o hb => ?_⟩
        · rw [list_take ht, List.map_append]
          exact (hT2.tk tk).snoc (by rw [upd_ne pE, upd_same])
        · rw [upd_ne (ne_of_none hb hD2), upd_ne (ne_of_none (s2 _ _ hb) hp)]
          exact s2 _ _ hb
      · rintro H2 ⟨⟨zs, hE, hT2⟩, s2⟩
        rw [hT.1, List.take_length] at hT2
        have R2 := R'.same s2
        have hgn := DGet.k (k := Sum.inr z) (s2 _ _ (s1 _ _ hnm))
        rw [valV_nm, if_pos hm] at hgn
        have hnt : ρ z ∉ (names.take i).map ρ := fun hmm => by
          obtain ⟨x, hx, e⟩ := List.mem_map.mp hmm
          obtain ⟨j, hj, ej⟩ := List.getElem_of_mem hx
          rw [List.length_take] at hj
          rw [List.getElem_take] at ej
          have := nd_ix hnr (x := ρ z) (i := j) (j := i) (by rw [List.getElem?_map, List.getElem?_eq_some_iff.mpr ⟨by omega, ej⟩]; exact congrArg some e) (by rw [List.getElem?_map, hz]; rfl)
          omega
        have hne : ∀ x ∈ (names.take i).map ρ, A' x ≠ D2 := fun x hx q => by
          obtain ⟨_, h1, _⟩ := R'.row x hx
          rw [q] at h1
          rw [h1] at hD2
          cases hD2
        have tl : (names.take i).length ≤ 100 := by rw [List.length_take]; omega
        refine ⟨_, rfl, _, rfl, _, rfl, nm, _, rfl, hgn, D, _, rfl, DPut.k (k := Sum.inr (ρ z)) R2.at_ (by rw [List.length_map, List.length_map]; exact small1000 (by omega)), ⟨_, _, rfl⟩, ?_, fun x => if x = ρ z then D2 else A' x, fun x => if x = ρ z then (T z).map (mvT far fac) else T' x, ?_, ?_⟩
        · exact fun c o hc => by rw [upd_ne (ne_of_none hc hD)]; exact s2 _ _ (s1 _ _ hc)
        · rw [list_take hz, List.map_append]
          exact R2.put hnt hE hT2 hne
        · intro x hx
          rw [list_take hz] at hx
          rcases List.mem_append.mp hx with hx | hx
          · show (if ρ x = ρ z then _ else T' (ρ x)) = _
            rw [if_neg (fun q => hnt (by rw [← q]; exact List.mem_map_of_mem hx))]
            exact c' x hx
          · rw [List.mem_singleton.mp hx]
            show (if ρ z = ρ z then _ else _) = _
            rw [if_pos rfl]
    · rintro σ H1 ⟨⟨a, b, rfl⟩, s1, A', T', R', c'⟩
      rw [List.length_map, List.take_length] at R' c'
      refine ⟨_, rfl, fun wd dx hwd hdx hne => ⟨wd, dx, D, names.map ρ, A', T', n, rfl, upd_same, R'.same (sameAt (sameAt (Same.refl H1) hdx) hwd), by rw [List.length_map]; omega, hnr, (fun y hy => by obtain ⟨x, hx, rfl⟩ := List.mem_map.mp hy; exact hN x hx), good_ch (g := id) c' (fun _ => rfl) (fun _ _ h => h) (fun i hi => GT.lo i hi) GT, n4, fun H7 W' hW hRW hK => ⟨rfl, ?_⟩⟩⟩
      exact q wd T' W' H7 hW c' hRW (s1.trans (keep_make hK hwd hdx))
abbrev s_l_opposite : Stmt := topS 80
theorem sc_l_opposite : FnScope ["rows", "streams", "found", "stream", "row"] ["rows", "streams"] (defScope s_l_opposite) := ⟨rfl, rfl, rfl, by decide +kernel, rfl, by decide +kernel, by decide +kernel⟩
theorem ok_lopp {f : Addr} {fd : FuncData} (F : Fun K "_law_opposite" "_law_opposite" s_l_opposite f fd) (B : Blt mg) (G : W16 P w K mg base CW) : FnOk P w K mg base CX0 7 f fd ["rows", "streams"] (spLOpposite CW) := by
  refine F.ok sc_l_opposite (fun vs H Q E h => ?_) (fun cdv A outer s H vs Q E hr h => ?_)
  · obtain ⟨d, l, names, A, T, n, rfl, _⟩ := h
    rfl
  · obtain ⟨d, l, names, Ad, T, n, rfl, R, hl, n100, hnd, hN, GT, n4, hup, q⟩ := h
    have hu := hu_of hr
    refine ⟨_, (pss_cons (ps_set (i := 2) sc_l_opposite.nd rfl (Or.inl rfl) pe_dnewK)
    (pss_cons (ps_for PassesOwn.never rfl (pi_list (pv 1)) (pg_name (i := 3) sc_l_opposite.nd rfl (Or.inl rfl))
      (pss_one (ps_dput hu (pv 2) (pv 3) (pe_lc (own := [("row", 4)]) (g := gName 4) (tt := tYes) (by rfl) sc_l_opposite.nd (pi_list (pe_dget hu (pv 0) (pv 3) (fun _ _ => rfl))) (blkOk_by (own := [("row", 4)]) (N := ["rows", "streams", "found", "stream", "row"]) (sc := defScope s_l_opposite) (by decide +kernel)) (fun _ _ _ _ _ => (pg_name (i := 4) sc_l_opposite.nd rfl (Or.inl rfl))) (fun _ _ _ _ _ => pts_nil) (fun _ _ _ _ _ => (pe_tup (pa_cons (pe_un un_neg (pe_ix (show IxR _ (rIxT K) from ix_tup) (pv 4) pe_int (fun _ _ => rfl))) (pa_cons (pe_op op_sub pe_int (pe_ix (show IxR _ (rIxT K) from ix_tup) (pv 4) pe_int (fun _ _ => rfl))) (pa_cons (pe_ix (show IxR _ (rIxT K) from ix_tup) (pv 4) pe_int (fun _ _ => rfl)) pa_nil)))))) rfl)))
    (pss_one (ps_ret (pe_mak G.World (hr.mono (by decide)) pass0 (pa_cons (pv 2) pa_nil)))))), ?_⟩
    intro D hD
    have dD : d ≠ D := fun q => by rw [← q, R.at_] at hD; cases hD
    have s0 : Same H (upd H D (.dK [])) := sameAt (Same.refl H) hD
    refine ⟨_, rfl, l, rfl, ⟨_, SqL.of (s0 _ _ hl)⟩, for_list (K := K) (a := l) (xs := names.map V.str) (fun i σ H1 => (∃ a b, σ = [some (.ref d), some (.ref l), some (.ref D), a, b]) ∧ Same H H1 ∧ ∃ A' T', RwAt H1 D ((names.take i).map id) A' T' ∧ ChT id (names.take i) ngT T T') ?_ (fun i σ H1 _ hv => SqL.of (hv.2.1 _ _ hl)) ?_ ?_⟩
    · exact ⟨⟨_, _, rfl⟩, s0, fun _ => D, fun _ => [], ⟨upd_same, (fun z hz => nomatch hz), (fun z hz => nomatch hz)⟩, fun z hz => nomatch hz⟩
    · rintro i y σ H1 hi ⟨⟨a, b, rfl⟩, s1, A', T', R', c'⟩
      obtain ⟨z, hz, rfl⟩ : ∃ z, names[i]? = some z ∧ y = V.str z := by
        rw [List.getElem?_map] at hi
        cases e : names[i]? with
        | none => rw [e] at hi; cases hi
        | some z => rw [e] at hi; exact ⟨z, rfl, (Option.some.inj hi).symm⟩
      have hm : z ∈ names := List.mem_of_getElem? hz
      have R1 := R.same s1
      have hg := DGet.k (k := Sum.inr z) R1.at_
      rw [valV_nm, if_pos hm] at hg
      obtain ⟨ys, hy, hT⟩ := R1.row z hm
      have few : (T z).length ≤ 400 := Nat.le_trans (GT.few hm) n4
      refine ⟨_, rfl, _, rfl, d, _, rfl, hg, Ad z, rfl, ⟨_, SqL.of hy⟩, fun D2 hD2 => lc_it (walk_list (xs := ys)) (fun j H2 => (∃ zs, H2 D2 = some (.lst zs) ∧ TrAt H2 zs (((T z).take j).map ngT)) ∧ Same H1 H2) ⟨⟨[], upd_same, rfl, fun i v t a b => by simp at a⟩, sameAt (Same.refl H1) hD2⟩ (fun j H2 _ hv => SqL.of (hv.2 _ _ hy)) ?_ ?_⟩
      · rintro j x H2 H3 hj ⟨⟨zs, hE, hT2⟩, s2⟩ ⟨rfl, hx⟩
        have hj2 : j < (T z).length := by rw [← hT.1]; exact hj
        obtain ⟨t3, ht⟩ : ∃ t3, (T z)[j]? = some t3 := ⟨_, List.getElem?_eq_getElem hj2⟩
        obtain ⟨e, rfl, he⟩ := hT.2 j x t3 hx ht
        have he1 := s2 _ _ he
        have lz : zs.length ≤ 400 := by
          rw [hT2.1, List.length_map, List.length_take]
          omega
        refine ⟨rfl, _, rfl, _, _, _, _, rfl, rfl, SqT.of he1, rfl, _, rfl, _, rfl, _, _, _, _, rfl, rfl, SqT.of he1, rfl, _, _, rfl, rfl, _, rfl, _, _, _, _, rfl, rfl, SqT.of he1, rfl, (by show 3 ≤ sizeLine; decide), fun p hp => ?_⟩
        have pE : p ≠ D2 := fun q => by rw [q, hE] at hp; cases hp
        have hE3 : upd H3 p (.tup (tv (ngT t3))) D2 = some (.lst zs) := by rw [upd_ne (Ne.symm pE)]; exact hE
        have tk : ∀ {u} t xs, H3 t = some (.tup xs) → upd (upd H3 p (.tup (tv (ngT t3)))) D2 u t = some (.tup xs) := fun {u} t xs q => by
          rw [upd_ne (ne_of q hE (by intro z; cases z)), upd_ne (ne_of_none q hp)]
          exact q
        refine ⟨zs, hE3, small1000 (by omega), ⟨zs ++ [.ref p], upd_same, ?_⟩, fun b o hb => ?_⟩
        · rw [list_take ht, List.map_append]
          exact (hT2.tk tk).snoc (by rw [upd_ne pE, upd_same])
        · rw [upd_ne (ne_of_none hb hD2), upd_ne (ne_of_none (s2 _ _ hb) hp)]
          exact s2 _ _ hb
      · rintro H2 ⟨⟨zs, hE, hT2⟩, s2⟩
        rw [hT.1, List.take_length] at hT2
        have R2 := R'.same s2
        have hnt : z ∉ (names.take i).map id := fun hmm => by
          rw [List.map_id] at hmm
          obtain ⟨j, hj, ej⟩ := List.getElem_of_mem hmm
          rw [List.length_take] at hj
          rw [List.getElem_take] at ej
          have := nd_ix hnd (List.getElem?_eq_some_iff.mpr ⟨by omega, ej⟩) hz
          omega
        have hne : ∀ x ∈ (names.take i).map id, A' x ≠ D2 := fun x hx q => by
          obtain ⟨_, h1, _⟩ := R'.row x hx
          rw [q] at h1
          rw [h1] at hD2
          cases hD2
        have tl : (names.take i).length ≤ 100 := by rw [List.length_take]; omega
        refine ⟨_, rfl, _, rfl, D, _, rfl, DPut.k (k := Sum.inr z) R2.at_ (by rw [List.length_map, List.length_map]; exact small1000 (by omega)), ⟨_, _, rfl⟩, ?_, fun x => if x = z then D2 else A' x, fun x => if x = z then (T z).map ngT else T' x, ?_, ?_⟩
        · exact fun c o hc => by rw [upd_ne (ne_of_none hc hD)]; exact s2 _ _ (s1 _ _ hc)
        · rw [list_take hz, List.map_append]
          exact R2.put hnt hE hT2 hne
        · intro x hx
          rw [list_take hz] at hx
          rcases List.mem_append.mp hx with hx | hx
          · show (if id x = z then _ else T' (id x)) = _
            rw [if_neg (fun q => hnt (by rw [← q]; exact List.mem_map_of_mem hx))]
            exact c' x hx
          · rw [List.mem_singleton.mp hx]
            show (if z = z then _ else _) = _
            rw [if_pos rfl]
    · rintro σ H1 ⟨⟨a, b, rfl⟩, s1, A', T', R', c'⟩
      rw [List.length_map, List.take_length] at R' c'
      refine ⟨_, rfl, fun wd dx hwd hdx hne => ⟨wd, dx, D, names.map id, A', T', n, rfl, upd_same, R'.same (sameAt (sameAt (Same.refl H1) hdx) hwd), by rw [List.length_map]; omega, (by rw [List.map_id]; exact hnd), (fun y hy => by rw [List.map_id] at hy; exact hN y hy), good_ch (g := fun i => 1000 - i) c' (fun _ => rfl) (fun _ _ h => by omega) (fun i hi => by have := hup i hi; omega) GT, n4, fun H7 W' hW hRW hK => ⟨rfl, ?_⟩⟩⟩
      exact q wd T' W' H7 hW c' hRW (s1.trans (keep_make hK hwd hdx))
end
end Ash

set_option Elab.async false
set_option linter.all false
set_option maxRecDepth 100000
set_option maxHeartbeats 4000000
namespace Ash
open PySem PySem.Spec PyProof.Rows L2 SrtT
open C8 (pss_cut)
/-! ### models renamed and turned -/
def Qn.dep : Qn → Int
  | .tm t => t.dep
  | .am (.number _ t) => 1 + t.dep
  | .am (.count _ t u) => 1 + Tm.mx t.dep u.dep
  | .am (.total _ t u) => 1 + Tm.mx t.dep u.dep
  | .am (.gap t u) => 1 + Tm.mx t.dep u.dep
def spLRen (d : Nat) : Sp := fun vs H Q _ => ∃ (e nm : Addr) (names : List Str) (ρ : Str → Str) (q : Qn), vs = [.ref e, .ref nm] ∧ MqAt H e q ∧ H nm = some (.dK (names.map fun z => ((Sum.inr z : Key), V.str (ρ z)))) ∧ names.length ≤ 100 ∧ q.InS names ∧ q.dep ≤ (d : Int) ∧
  ∀ e' H', MqAt H' e' (renQ ρ q) → Same H H' → Q (.ref e') H'
def spLTurn (d : Nat) : Sp := fun vs H Q _ => ∃ (e : Addr) (t : Tm), vs = [.ref e] ∧ MdAt H e t ∧ t.dep ≤ (d : Int) ∧ ∀ e' H', MdAt H' e' (trT t) → Same H H' → Q (.ref e') H'
section
variable {P : Program} {w : World} {K : PySem.W.Frag} {mg : Str → Option Value} {base : Heap} {C : TC} {CW : Addr} {A0 : AC}
structure GR (P : Program) (w : World) (K : PySem.W.Frag) (mg : Str → Option Value) (base : Heap) (d : Nat) : Prop where
  law_renamed : Cal P w K mg base CX0 "_law_renamed" (d + 1) ["model", "names"] (spLRen d)
structure GT (P : Program) (w : World) (K : PySem.W.Frag) (mg : Str → Option Value) (base : Heap) (d : Nat) : Prop where
  law_turned : Cal P w K mg base CX0 "_law_turned" (d + 1) ["model"] (spLTurn d)
abbrev s_l_renamed : Stmt := topS 78
theorem sc_l_renamed : FnScope ["model", "names"] ["model", "names"] (defScope s_l_renamed) := ⟨rfl, rfl, rfl, by decide +kernel, rfl, by decide +kernel, by decide +kernel⟩
theorem ok_lren {f : Addr} {fd : FuncData} {d : Nat} (F : Fun K "_law_renamed" "_law_renamed" s_l_renamed f fd) (B : Blt mg) (G : GR P w K mg base d) : FnOk P w K mg base CX0 (d + 1 + 1) f fd ["model", "names"] (spLRen (d + 1)) := by
  refine F.ok sc_l_renamed (fun vs H Q E h => ?_) (fun cdv A outer s H vs Q E hr h => ?_)
  · obtain ⟨e, nm, names, ρ, q, rfl, _⟩ := h
    rfl
  · obtain ⟨e, nm, names, ρ, m, rfl, hM, hnm, n100, hI, hd, q⟩ := h
    have hu := hu_of hr
    refine ⟨_, (pss_cons (ps_if (pt_cmpR op_eq (pe_ix ix_tup (pv 0) pe_int (fun _ _ => rfl)) pe_str (nomark _))
      (pss_one (ps_ret (pv 0)))
      pss_nil)
    (pss_cons (ps_if (pt_cmpR op_eq (pe_ix ix_tup (pv 0) pe_int (fun _ _ => rfl)) pe_str (nomark _))
      (pss_one (ps_ret (pe_tup (pa_cons pe_str (pa_cons (pe_ix ix_tup (pv 0) pe_int (fun _ _ => rfl)) (pa_cons (pe_cal G.law_renamed (hr.mono (by omega)) pass0 (pa_cons (pe_ix ix_tup (pv 0) pe_int (fun _ _ => rfl)) (pa_cons (pv 1) pa_nil))) pa_nil))))))
      pss_nil)
    (pss_cons (ps_if (pt_cmpR op_in_seq (pe_ix ix_tup (pv 0) pe_int (fun _ _ => rfl)) (pe_lst (pa_cons pe_str (pa_cons pe_str (pa_cons pe_str pa_nil)))) rfl)
      (pss_one (ps_ret (pe_tup (pa_cons (pe_ix ix_tup (pv 0) pe_int (fun _ _ => rfl)) (pa_cons (pe_dget hu (pv 1) (pe_ix ix_tup (pv 0) pe_int (fun _ _ => rfl)) (fun _ _ => rfl)) (pa_cons (pe_cal G.law_renamed (hr.mono (by omega)) pass0 (pa_cons (pe_ix ix_tup (pv 0) pe_int (fun _ _ => rfl)) (pa_cons (pv 1) pa_nil))) pa_nil))))))
      pss_nil)
    (pss_cons (ps_if (pt_cmpR op_in_seq (pe_ix ix_tup (pv 0) pe_int (fun _ _ => rfl)) (pe_lst (pa_cons pe_str (pa_cons pe_str pa_nil))) rfl)
      (pss_one (ps_ret (pe_tup (pa_cons (pe_ix ix_tup (pv 0) pe_int (fun _ _ => rfl)) (pa_cons (pe_dget hu (pv 1) (pe_ix ix_tup (pv 0) pe_int (fun _ _ => rfl)) (fun _ _ => rfl)) (pa_cons (pe_cal G.law_renamed (hr.mono (by omega)) pass0 (pa_cons (pe_ix ix_tup (pv 0) pe_int (fun _ _ => rfl)) (pa_cons (pv 1) pa_nil))) (pa_cons (pe_cal G.law_renamed (hr.mono (by omega)) pass0 (pa_cons (pe_ix ix_tup (pv 0) pe_int (fun _ _ => rfl)) (pa_cons (pv 1) pa_nil))) pa_nil)))))))
      pss_nil)
    (pss_one (ps_ret (pe_tup (pa_cons (pe_ix ix_tup (pv 0) pe_int (fun _ _ => rfl)) (pa_cons (pe_cal G.law_renamed (hr.mono (by omega)) pass0 (pa_cons (pe_ix ix_tup (pv 0) pe_int (fun _ _ => rfl)) (pa_cons (pv 1) pa_nil))) (pa_cons (pe_cal G.law_renamed (hr.mono (by omega)) pass0 (pa_cons (pe_ix ix_tup (pv 0) pe_int (fun _ _ => rfl)) (pa_cons (pv 1) pa_nil))) pa_nil)))))))))), ?_⟩
    cases m with
    | tm t =>
      cases t with
      | now =>
        have hM : H e = some (.tup [.str "now"]) := hM
        exact ⟨_, rfl, _, _, _, _, rfl, rfl, SqT.of hM, rfl, rfl, _, rfl, iteT ⟨_, rfl, q e H hM (Same.refl H)⟩⟩
      | shift n u =>
        obtain ⟨b, he, hu⟩ := hM
        have hd' : u.dep ≤ (d : Int) := by have hd : 1 + u.dep ≤ ((d + 1 : Nat) : Int) := hd; omega
        refine ⟨_, rfl, _, _, _, _, rfl, rfl, SqT.of he, rfl, rfl, _, rfl, iteF ⟨_, rfl, _, _, _, _, rfl, rfl, SqT.of he, rfl, rfl, _, rfl, iteT ?_⟩⟩
        refine ⟨_, rfl, _, _, _, _, rfl, rfl, SqT.of he, rfl, _, rfl, _, _, _, _, rfl, rfl, SqT.of he, rfl, _, rfl, b, nm, names, ρ, .tm u, rfl, hu, hnm, n100, hI, hd', fun e1 H1 hM1 s1 => ⟨(by show 3 ≤ sizeLine; decide), fun x hx => ?_⟩⟩
        have hM1 : MdAt H1 e1 (renT ρ u) := hM1
        exact q x _ ⟨e1, upd_same, hM1.tk fun t xs h => sameAt (Same.refl _) hx _ _ h⟩ (s1.trans (sameAt (Same.refl _) hx))
      | last z u =>
        obtain ⟨b, he, hu⟩ := hM
        have hd' : u.dep ≤ (d : Int) := by have hd : 1 + u.dep ≤ ((d + 1 : Nat) : Int) := hd; omega
        refine ⟨_, rfl, _, _, _, _, rfl, rfl, SqT.of he, rfl, rfl, _, rfl, iteF ⟨_, rfl, _, _, _, _, rfl, rfl, SqT.of he, rfl, rfl, _, rfl, iteF ⟨_, rfl, _, _, _, _, rfl, rfl, SqT.of he, rfl, (by show 3 ≤ sizeLine; decide), fun l1 hl1 => ⟨l1, _, rfl, .inl (SqL.of upd_same), rfl, rfl, _, rfl, iteT ?_⟩⟩⟩⟩
        have s0 := sameAt (Same.refl H) hl1 (o := .lst [.str "last", .str "next", .str "number"])
        have he1 := s0 _ _ he
        have hg := DGet.k (k := Sum.inr z) (s0 _ _ hnm)
        rw [valV_nm, if_pos hI.1] at hg
        refine ⟨_, rfl, _, _, _, _, rfl, rfl, SqT.of he1, rfl, _, rfl, _, rfl, _, _, _, _, rfl, rfl, SqT.of he1, rfl, nm, _, rfl, hg, _, rfl, _, _, _, _, rfl, rfl, SqT.of he1, rfl, _, rfl, b, nm, names, ρ, .tm u, rfl, hu.tk (fun t xs h => s0 _ _ h), s0 _ _ hnm, n100, hI.2, hd', fun e1 H1 hM1 s1 => ⟨(by show 3 ≤ sizeLine; decide), fun x hx => ?_⟩⟩
        have hM1 : MdAt H1 e1 (renT ρ u) := hM1
        exact q x _ ⟨e1, upd_same, hM1.tk fun t xs h => sameAt (Same.refl _) hx _ _ h⟩ ((s0.trans s1).trans (sameAt (Same.refl _) hx))
      | next z u =>
        obtain ⟨b, he, hu⟩ := hM
        have hd' : u.dep ≤ (d : Int) := by have hd : 1 + u.dep ≤ ((d + 1 : Nat) : Int) := hd; omega
        refine ⟨_, rfl, _, _, _, _, rfl, rfl, SqT.of he, rfl, rfl, _, rfl, iteF ⟨_, rfl, _, _, _, _, rfl, rfl, SqT.of he, rfl, rfl, _, rfl, iteF ⟨_, rfl, _, _, _, _, rfl, rfl, SqT.of he, rfl, (by show 3 ≤ sizeLine; decide), fun l1 hl1 => ⟨l1, _, rfl, .inl (SqL.of upd_same), rfl, rfl, _, rfl, iteT ?_⟩⟩⟩⟩
        have s0 := sameAt (Same.refl H) hl1 (o := .lst [.str "last", .str "next", .str "number"])
        have he1 := s0 _ _ he
        have hg := DGet.k (k := Sum.inr z) (s0 _ _ hnm)
        rw [valV_nm, if_pos hI.1] at hg
        refine ⟨_, rfl, _, _, _, _, rfl, rfl, SqT.of he1, rfl, _, rfl, _, rfl, _, _, _, _, rfl, rfl, SqT.of he1, rfl, nm, _, rfl, hg, _, rfl, _, _, _, _, rfl, rfl, SqT.of he1, rfl, _, rfl, b, nm, names, ρ, .tm u, rfl, hu.tk (fun t xs h => s0 _ _ h), s0 _ _ hnm, n100, hI.2, hd', fun e1 H1 hM1 s1 => ⟨(by show 3 ≤ sizeLine; decide), fun x hx => ?_⟩⟩
        have hM1 : MdAt H1 e1 (renT ρ u) := hM1
        exact q x _ ⟨e1, upd_same, hM1.tk fun t xs h => sameAt (Same.refl _) hx _ _ h⟩ ((s0.trans s1).trans (sameAt (Same.refl _) hx))
      | either u v =>
        obtain ⟨b, c, he, hu, hv⟩ := hM
        have m1 := Tm.mx_l u.dep v.dep
        have m2 := Tm.mx_r u.dep v.dep
        have hd : 1 + Tm.mx u.dep v.dep ≤ ((d + 1 : Nat) : Int) := hd
        refine ⟨_, rfl, _, _, _, _, rfl, rfl, SqT.of he, rfl, rfl, _, rfl, iteF ⟨_, rfl, _, _, _, _, rfl, rfl, SqT.of he, rfl, rfl, _, rfl, iteF ⟨_, rfl, _, _, _, _, rfl, rfl, SqT.of he, rfl, (by show 3 ≤ sizeLine; decide), fun l1 hl1 => ⟨l1, _, rfl, .inl (SqL.of upd_same), rfl, rfl, _, rfl, iteF ?_⟩⟩⟩⟩
        have s0 := sameAt (Same.refl H) hl1 (o := .lst [.str "last", .str "next", .str "number"])
        have he1 := s0 _ _ he
        refine ⟨_, rfl, _, _, _, _, rfl, rfl, SqT.of he1, rfl, (by show 2 ≤ sizeLine; decide), fun l2 hl2 => ⟨l2, _, rfl, .inl (SqL.of upd_same), rfl, rfl, _, rfl, iteF ?_⟩⟩
        have s2 := s0.trans (sameAt (Same.refl _) hl2 (o := .lst [.str "count", .str "total"]))
        have he2 := s2 _ _ he
        refine ⟨_, rfl, _, _, _, _, rfl, rfl, SqT.of he2, rfl, _, rfl, _, _, _, _, rfl, rfl, SqT.of he2, rfl, _, rfl, b, nm, names, ρ, .tm u, rfl, hu.tk (fun t xs h => s2 _ _ h), s2 _ _ hnm, n100, hI.1, (by show u.dep ≤ _; omega), fun e1 H1 hM1 s1 => ?_⟩
        have s3 := s2.trans s1
        have he3 := s3 _ _ he
        refine ⟨_, rfl, _, _, _, _, rfl, rfl, SqT.of he3, rfl, _, rfl, c, nm, names, ρ, .tm v, rfl, hv.tk (fun t xs h => s3 _ _ h), s3 _ _ hnm, n100, hI.2, (by show v.dep ≤ _; omega), fun e2 H2 hM2 s4 => ⟨(by show 3 ≤ sizeLine; decide), fun x hx => ?_⟩⟩
        have hM1 : MdAt H1 e1 (renT ρ u) := hM1
        have hM2 : MdAt H2 e2 (renT ρ v) := hM2
        exact q x _ ⟨e1, e2, upd_same, (hM1.tk fun t xs h => s4 _ _ h).tk fun t xs h => sameAt (Same.refl _) hx _ _ h, hM2.tk fun t xs h => sameAt (Same.refl _) hx _ _ h⟩ ((s3.trans s4).trans (sameAt (Same.refl _) hx))
      | later u v =>
        obtain ⟨b, c, he, hu, hv⟩ := hM
        have m1 := Tm.mx_l u.dep v.dep
        have m2 := Tm.mx_r u.dep v.dep
        have hd : 1 + Tm.mx u.dep v.dep ≤ ((d + 1 : Nat) : Int) := hd
        refine ⟨_, rfl, _, _, _, _, rfl, rfl, SqT.of he, rfl, rfl, _, rfl, iteF ⟨_, rfl, _, _, _, _, rfl, rfl, SqT.of he, rfl, rfl, _, rfl, iteF ⟨_, rfl, _, _, _, _, rfl, rfl, SqT.of he, rfl, (by show 3 ≤ sizeLine; decide), fun l1 hl1 => ⟨l1, _, rfl, .inl (SqL.of upd_same), rfl, rfl, _, rfl, iteF ?_⟩⟩⟩⟩
        have s0 := sameAt (Same.refl H) hl1 (o := .lst [.str "last", .str "next", .str "number"])
        have he1 := s0 _ _ he
        refine ⟨_, rfl, _, _, _, _, rfl, rfl, SqT.of he1, rfl, (by show 2 ≤ sizeLine; decide), fun l2 hl2 => ⟨l2, _, rfl, .inl (SqL.of upd_same), rfl, rfl, _, rfl, iteF ?_⟩⟩
        have s2 := s0.trans (sameAt (Same.refl _) hl2 (o := .lst [.str "count", .str "total"]))
        have he2 := s2 _ _ he
        refine ⟨_, rfl, _, _, _, _, rfl, rfl, SqT.of he2, rfl, _, rfl, _, _, _, _, rfl, rfl, SqT.of he2, rfl, _, rfl, b, nm, names, ρ, .tm u, rfl, hu.tk (fun t xs h => s2 _ _ h), s2 _ _ hnm, n100, hI.1, (by show u.dep ≤ _; omega), fun e1 H1 hM1 s1 => ?_⟩
        have s3 := s2.trans s1
        have he3 := s3 _ _ he
        refine ⟨_, rfl, _, _, _, _, rfl, rfl, SqT.of he3, rfl, _, rfl, c, nm, names, ρ, .tm v, rfl, hv.tk (fun t xs h => s3 _ _ h), s3 _ _ hnm, n100, hI.2, (by show v.dep ≤ _; omega), fun e2 H2 hM2 s4 => ⟨(by show 3 ≤ sizeLine; decide), fun x hx => ?_⟩⟩
        have hM1 : MdAt H1 e1 (renT ρ u) := hM1
        have hM2 : MdAt H2 e2 (renT ρ v) := hM2
        exact q x _ ⟨e1, e2, upd_same, (hM1.tk fun t xs h => s4 _ _ h).tk fun t xs h => sameAt (Same.refl _) hx _ _ h, hM2.tk fun t xs h => sameAt (Same.refl _) hx _ _ h⟩ ((s3.trans s4).trans (sameAt (Same.refl _) hx))
      | earlier u v =>
        obtain ⟨b, c, he, hu, hv⟩ := hM
        have m1 := Tm.mx_l u.dep v.dep
        have m2 := Tm.mx_r u.dep v.dep
        have hd : 1 + Tm.mx u.dep v.dep ≤ ((d + 1 : Nat) : Int) := hd
        refine ⟨_, rfl, _, _, _, _, rfl, rfl, SqT.of he, rfl, rfl, _, rfl, iteF ⟨_, rfl, _, _, _, _, rfl, rfl, SqT.of he, rfl, rfl, _, rfl, iteF ⟨_, rfl, _, _, _, _, rfl, rfl, SqT.of he, rfl, (by show 3 ≤ sizeLine; decide), fun l1 hl1 => ⟨l1, _, rfl, .inl (SqL.of upd_same), rfl, rfl, _, rfl, iteF ?_⟩⟩⟩⟩
        have s0 := sameAt (Same.refl H) hl1 (o := .lst [.str "last", .str "next", .str "number"])
        have he1 := s0 _ _ he
        refine ⟨_, rfl, _, _, _, _, rfl, rfl, SqT.of he1, rfl, (by show 2 ≤ sizeLine; decide), fun l2 hl2 => ⟨l2, _, rfl, .inl (SqL.of upd_same), rfl, rfl, _, rfl, iteF ?_⟩⟩
        have s2 := s0.trans (sameAt (Same.refl _) hl2 (o := .lst [.str "count", .str "total"]))
        have he2 := s2 _ _ he
        refine ⟨_, rfl, _, _, _, _, rfl, rfl, SqT.of he2, rfl, _, rfl, _, _, _, _, rfl, rfl, SqT.of he2, rfl, _, rfl, b, nm, names, ρ, .tm u, rfl, hu.tk (fun t xs h => s2 _ _ h), s2 _ _ hnm, n100, hI.1, (by show u.dep ≤ _; omega), fun e1 H1 hM1 s1 => ?_⟩
        have s3 := s2.trans s1
        have he3 := s3 _ _ he
        refine ⟨_, rfl, _, _, _, _, rfl, rfl, SqT.of he3, rfl, _, rfl, c, nm, names, ρ, .tm v, rfl, hv.tk (fun t xs h => s3 _ _ h), s3 _ _ hnm, n100, hI.2, (by show v.dep ≤ _; omega), fun e2 H2 hM2 s4 => ⟨(by show 3 ≤ sizeLine; decide), fun x hx => ?_⟩⟩
        have hM1 : MdAt H1 e1 (renT ρ u) := hM1
        have hM2 : MdAt H2 e2 (renT ρ v) := hM2
        exact q x _ ⟨e1, e2, upd_same, (hM1.tk fun t xs h => s4 _ _ h).tk fun t xs h => sameAt (Same.refl _) hx _ _ h, hM2.tk fun t xs h => sameAt (Same.refl _) hx _ _ h⟩ ((s3.trans s4).trans (sameAt (Same.refl _) hx))
    | am m =>
      cases m with
      | number z u =>
        obtain ⟨b, he, hu⟩ := hM
        have hd' : u.dep ≤ (d : Int) := by have hd : 1 + u.dep ≤ ((d + 1 : Nat) : Int) := hd; omega
        refine ⟨_, rfl, _, _, _, _, rfl, rfl, SqT.of he, rfl, rfl, _, rfl, iteF ⟨_, rfl, _, _, _, _, rfl, rfl, SqT.of he, rfl, rfl, _, rfl, iteF ⟨_, rfl, _, _, _, _, rfl, rfl, SqT.of he, rfl, (by show 3 ≤ sizeLine; decide), fun l1 hl1 => ⟨l1, _, rfl, .inl (SqL.of upd_same), rfl, rfl, _, rfl, iteT ?_⟩⟩⟩⟩
        have s0 := sameAt (Same.refl H) hl1 (o := .lst [.str "last", .str "next", .str "number"])
        have he1 := s0 _ _ he
        have hg := DGet.k (k := Sum.inr z) (s0 _ _ hnm)
        rw [valV_nm, if_pos hI.1] at hg
        refine ⟨_, rfl, _, _, _, _, rfl, rfl, SqT.of he1, rfl, _, rfl, _, rfl, _, _, _, _, rfl, rfl, SqT.of he1, rfl, nm, _, rfl, hg, _, rfl, _, _, _, _, rfl, rfl, SqT.of he1, rfl, _, rfl, b, nm, names, ρ, .tm u, rfl, hu.tk (fun t xs h => s0 _ _ h), s0 _ _ hnm, n100, hI.2, hd', fun e1 H1 hM1 s1 => ⟨(by show 3 ≤ sizeLine; decide), fun x hx => ?_⟩⟩
        have hM1 : MdAt H1 e1 (renT ρ u) := hM1
        exact q x _ ⟨e1, upd_same, hM1.tk fun t xs h => sameAt (Same.refl _) hx _ _ h⟩ ((s0.trans s1).trans (sameAt (Same.refl _) hx))
      | count z u v =>
        obtain ⟨b, c, he, hu, hv⟩ := hM
        have m1 := Tm.mx_l u.dep v.dep
        have m2 := Tm.mx_r u.dep v.dep
        have hd : 1 + Tm.mx u.dep v.dep ≤ ((d + 1 : Nat) : Int) := hd
        refine ⟨_, rfl, _, _, _, _, rfl, rfl, SqT.of he, rfl, rfl, _, rfl, iteF ⟨_, rfl, _, _, _, _, rfl, rfl, SqT.of he, rfl, rfl, _, rfl, iteF ⟨_, rfl, _, _, _, _, rfl, rfl, SqT.of he, rfl, (by show 3 ≤ sizeLine; decide), fun l1 hl1 => ⟨l1, _, rfl, .inl (SqL.of upd_same), rfl, rfl, _, rfl, iteF ?_⟩⟩⟩⟩
        have s0 := sameAt (Same.refl H) hl1 (o := .lst [.str "last", .str "next", .str "number"])
        have he1 := s0 _ _ he
        refine ⟨_, rfl, _, _, _, _, rfl, rfl, SqT.of he1, rfl, (by show 2 ≤ sizeLine; decide), fun l2 hl2 => ⟨l2, _, rfl, .inl (SqL.of upd_same), rfl, rfl, _, rfl, iteT ?_⟩⟩
        have s2 := s0.trans (sameAt (Same.refl _) hl2 (o := .lst [.str "count", .str "total"]))
        have he2 := s2 _ _ he
        have hg := DGet.k (k := Sum.inr z) (s2 _ _ hnm)
        rw [valV_nm, if_pos hI.1] at hg
        refine ⟨_, rfl, _, _, _, _, rfl, rfl, SqT.of he2, rfl, _, rfl, _, rfl, _, _, _, _, rfl, rfl, SqT.of he2, rfl, nm, _, rfl, hg, _, rfl, _, _, _, _, rfl, rfl, SqT.of he2, rfl, _, rfl, b, nm, names, ρ, .tm u, rfl, hu.tk (fun t xs h => s2 _ _ h), s2 _ _ hnm, n100, hI.2.1, (by show u.dep ≤ _; omega), fun e1 H1 hM1 s1 => ?_⟩
        have s3 := s2.trans s1
        have he3 := s3 _ _ he
        refine ⟨_, rfl, _, _, _, _, rfl, rfl, SqT.of he3, rfl, _, rfl, c, nm, names, ρ, .tm v, rfl, hv.tk (fun t xs h => s3 _ _ h), s3 _ _ hnm, n100, hI.2.2, (by show v.dep ≤ _; omega), fun e2 H2 hM2 s4 => ⟨(by show 4 ≤ sizeLine; decide), fun x hx => ?_⟩⟩
        have hM1 : MdAt H1 e1 (renT ρ u) := hM1
        have hM2 : MdAt H2 e2 (renT ρ v) := hM2
        exact q x _ ⟨e1, e2, upd_same, (hM1.tk fun t xs h => s4 _ _ h).tk fun t xs h => sameAt (Same.refl _) hx _ _ h, hM2.tk fun t xs h => sameAt (Same.refl _) hx _ _ h⟩ ((s3.trans s4).trans (sameAt (Same.refl _) hx))
      | total z u v =>
        obtain ⟨b, c, he, hu, hv⟩ := hM
        have m1 := Tm.mx_l u.dep v.dep
        have m2 := Tm.mx_r u.dep v.dep
        have hd : 1 + Tm.mx u.dep v.dep ≤ ((d + 1 : Nat) : Int) := hd
        refine ⟨_, rfl, _, _, _, _, rfl, rfl, SqT.of he, rfl, rfl, _, rfl, iteF ⟨_, rfl, _, _, _, _, rfl, rfl, SqT.of he, rfl, rfl, _, rfl, iteF ⟨_, rfl, _, _, _, _, rfl, rfl, SqT.of he, rfl, (by show 3 ≤ sizeLine; decide), fun l1 hl1 => ⟨l1, _, rfl, .inl (SqL.of upd_same), rfl, rfl, _, rfl, iteF ?_⟩⟩⟩⟩
        have s0 := sameAt (Same.refl H) hl1 (o := .lst [.str "last", .str "next", .str "number"])
        have he1 := s0 _ _ he
        refine ⟨_, rfl, _, _, _, _, rfl, rfl, SqT.of he1, rfl, (by show 2 ≤ sizeLine; decide), fun l2 hl2 => ⟨l2, _, rfl, .inl (SqL.of upd_same), rfl, rfl, _, rfl, iteT ?_⟩⟩
        have s2 := s0.trans (sameAt (Same.refl _) hl2 (o := .lst [.str "count", .str "total"]))
        have he2 := s2 _ _ he
        have hg := DGet.k (k := Sum.inr z) (s2 _ _ hnm)
        rw [valV_nm, if_pos hI.1] at hg
        refine ⟨_, rfl, _, _, _, _, rfl, rfl, SqT.of he2, rfl, _, rfl, _, rfl, _, _, _, _, rfl, rfl, SqT.of he2, rfl, nm, _, rfl, hg, _, rfl, _, _, _, _, rfl, rfl, SqT.of he2, rfl, _, rfl, b, nm, names, ρ, .tm u, rfl, hu.tk (fun t xs h => s2 _ _ h), s2 _ _ hnm, n100, hI.2.1, (by show u.dep ≤ _; omega), fun e1 H1 hM1 s1 => ?_⟩
        have s3 := s2.trans s1
        have he3 := s3 _ _ he
        refine ⟨_, rfl, _, _, _, _, rfl, rfl, SqT.of he3, rfl, _, rfl, c, nm, names, ρ, .tm v, rfl, hv.tk (fun t xs h => s3 _ _ h), s3 _ _ hnm, n100, hI.2.2, (by show v.dep ≤ _; omega), fun e2 H2 hM2 s4 => ⟨(by show 4 ≤ sizeLine; decide), fun x hx => ?_⟩⟩
        have hM1 : MdAt H1 e1 (renT ρ u) := hM1
        have hM2 : MdAt H2 e2 (renT ρ v) := hM2
        exact q x _ ⟨e1, e2, upd_same, (hM1.tk fun t xs h => s4 _ _ h).tk fun t xs h => sameAt (Same.refl _) hx _ _ h, hM2.tk fun t xs h => sameAt (Same.refl _) hx _ _ h⟩ ((s3.trans s4).trans (sameAt (Same.refl _) hx))
      | gap u v =>
        obtain ⟨b, c, he, hu, hv⟩ := hM
        have m1 := Tm.mx_l u.dep v.dep
        have m2 := Tm.mx_r u.dep v.dep
        have hd : 1 + Tm.mx u.dep v.dep ≤ ((d + 1 : Nat) : Int) := hd
        refine ⟨_, rfl, _, _, _, _, rfl, rfl, SqT.of he, rfl, rfl, _, rfl, iteF ⟨_, rfl, _, _, _, _, rfl, rfl, SqT.of he, rfl, rfl, _, rfl, iteF ⟨_, rfl, _, _, _, _, rfl, rfl, SqT.of he, rfl, (by show 3 ≤ sizeLine; decide), fun l1 hl1 => ⟨l1, _, rfl, .inl (SqL.of upd_same), rfl, rfl, _, rfl, iteF ?_⟩⟩⟩⟩
        have s0 := sameAt (Same.refl H) hl1 (o := .lst [.str "last", .str "next", .str "number"])
        have he1 := s0 _ _ he
        refine ⟨_, rfl, _, _, _, _, rfl, rfl, SqT.of he1, rfl, (by show 2 ≤ sizeLine; decide), fun l2 hl2 => ⟨l2, _, rfl, .inl (SqL.of upd_same), rfl, rfl, _, rfl, iteF ?_⟩⟩
        have s2 := s0.trans (sameAt (Same.refl _) hl2 (o := .lst [.str "count", .str "total"]))
        have he2 := s2 _ _ he
        refine ⟨_, rfl, _, _, _, _, rfl, rfl, SqT.of he2, rfl, _, rfl, _, _, _, _, rfl, rfl, SqT.of he2, rfl, _, rfl, b, nm, names, ρ, .tm u, rfl, hu.tk (fun t xs h => s2 _ _ h), s2 _ _ hnm, n100, hI.1, (by show u.dep ≤ _; omega), fun e1 H1 hM1 s1 => ?_⟩
        have s3 := s2.trans s1
        have he3 := s3 _ _ he
        refine ⟨_, rfl, _, _, _, _, rfl, rfl, SqT.of he3, rfl, _, rfl, c, nm, names, ρ, .tm v, rfl, hv.tk (fun t xs h => s3 _ _ h), s3 _ _ hnm, n100, hI.2, (by show v.dep ≤ _; omega), fun e2 H2 hM2 s4 => ⟨(by show 3 ≤ sizeLine; decide), fun x hx => ?_⟩⟩
        have hM1 : MdAt H1 e1 (renT ρ u) := hM1
        have hM2 : MdAt H2 e2 (renT ρ v) := hM2
        exact q x _ ⟨e1, e2, upd_same, (hM1.tk fun t xs h => s4 _ _ h).tk fun t xs h => sameAt (Same.refl _) hx _ _ h, hM2.tk fun t xs h => sameAt (Same.refl _) hx _ _ h⟩ ((s3.trans s4).trans (sameAt (Same.refl _) hx))
theorem ok_lren0 {f : Addr} {fd : FuncData} (F : Fun K "_law_renamed" "_law_renamed" s_l_renamed f fd) : FnOk P w K mg base CX0 (0 + 1) f fd ["model", "names"] (spLRen 0) := by
  refine F.ok sc_l_renamed (fun vs H Q E h => ?_) (fun cdv A outer s H vs Q E hr h => ?_)
  · obtain ⟨e, nm, names, ρ, q, rfl, _⟩ := h
    rfl
  · obtain ⟨e, nm, names, ρ, m, rfl, hM, hnm, n100, hI, hd, q⟩ := h
    have : 1 ≤ m.dep := by
      have mx : ∀ a b : Int, 1 ≤ a → 0 ≤ Tm.mx a b := fun a b h => by have := Tm.mx_l a b; omega
      cases m with
      | tm t => exact t.dep_pos
      | am m =>
        cases m with
        | number s t => have := t.dep_pos; show 1 ≤ 1 + t.dep; omega
        | count s t u => have := mx t.dep u.dep t.dep_pos; show 1 ≤ 1 + Tm.mx t.dep u.dep; omega
        | total s t u => have := mx t.dep u.dep t.dep_pos; show 1 ≤ 1 + Tm.mx t.dep u.dep; omega
        | gap t u => have := mx t.dep u.dep t.dep_pos; show 1 ≤ 1 + Tm.mx t.dep u.dep; omega
    have hd : m.dep ≤ 0 := hd
    omega
abbrev s_l_turned : Stmt := topS 77
theorem sc_l_turned : FnScope ["model", "word"] ["model"] (defScope s_l_turned) := ⟨rfl, rfl, rfl, by decide +kernel, rfl, by decide +kernel, by decide +kernel⟩
theorem ok_lturn0 {f : Addr} {fd : FuncData} (F : Fun K "_law_turned" "_law_turned" s_l_turned f fd) : FnOk P w K mg base CX0 (0 + 1) f fd ["model"] (spLTurn 0) := by
  refine F.ok sc_l_turned (fun vs H Q E h => ?_) (fun cdv A outer s H vs Q E hr h => ?_)
  · obtain ⟨e, q, rfl, _⟩ := h
    rfl
  · obtain ⟨e, t, rfl, hM, hd, q⟩ := h
    have := t.dep_pos
    have hd : t.dep ≤ 0 := hd
    omega
theorem lren_all (B : Blt mg) (d1 : D1 K mg "_law_renamed" s_l_renamed) : ∀ d, GR P w K mg base d
  | 0 => ⟨cal_of d1 (fun _ _ _ _ _ _ us hl => match us, hl with | [_, _], _ => rfl) fun f fd F => ok_lren0 F⟩
  | d + 1 => ⟨cal_of d1 (fun _ _ _ _ _ _ us hl => match us, hl with | [_, _], _ => rfl) fun f fd F => ok_lren F B (lren_all B d1 d)⟩

theorem ok_lturn {f : Addr} {fd : FuncData} {d : Nat} (F : Fun K "_law_turned" "_law_turned" s_l_turned f fd) (B : Blt mg) (G : GT P w K mg base d) : FnOk P w K mg base CX0 (d + 1 + 1) f fd ["model"] (spLTurn (d + 1)) := by
  refine F.ok sc_l_turned (fun vs H Q E h => ?_) (fun cdv A outer s H vs Q E hr h => ?_)
  · obtain ⟨e, q, rfl, _⟩ := h
    rfl
  · obtain ⟨e, t, rfl, hM, hd, q⟩ := h
    refine ⟨_, (pss_cons (ps_if (pt_cmpR op_eq (pe_ix ix_tup (pv 0) pe_int (fun _ _ => rfl)) pe_str (nomark _))
      (pss_one (ps_ret (pv 0)))
      pss_nil)
    (pss_cons (ps_if (pt_cmpR op_eq (pe_ix ix_tup (pv 0) pe_int (fun _ _ => rfl)) pe_str (nomark _))
      (pss_one (ps_ret (pe_tup (pa_cons pe_str (pa_cons (pe_un un_neg (pe_ix ix_tup (pv 0) pe_int (fun _ _ => rfl))) (pa_cons (pe_cal G.law_turned (hr.mono (by omega)) pass0 (pa_cons (pe_ix ix_tup (pv 0) pe_int (fun _ _ => rfl)) pa_nil)) pa_nil))))))
      pss_nil)
    (pss_cons (ps_if (pt_cmpR op_in_seq (pe_ix ix_tup (pv 0) pe_int (fun _ _ => rfl)) (pe_lst (pa_cons pe_str (pa_cons pe_str pa_nil))) rfl)
      (pss_one (ps_ret (pe_tup (pa_cons (pe_ix ix_list (pe_lst (pa_cons pe_str (pa_cons pe_str pa_nil))) (pe_callTy call_int1 (by rfl) B.int (by decide +kernel) (pa_cons (pe_cmpR op_eq (pe_ix ix_tup (pv 0) pe_int (fun _ _ => rfl)) pe_str (nomark _)) pa_nil)) (fun _ _ => rfl)) (pa_cons (pe_ix ix_tup (pv 0) pe_int (fun _ _ => rfl)) (pa_cons (pe_cal G.law_turned (hr.mono (by omega)) pass0 (pa_cons (pe_ix ix_tup (pv 0) pe_int (fun _ _ => rfl)) pa_nil)) pa_nil))))))
      pss_nil)
    (pss_cons (ps_set (i := 1) sc_l_turned.nd rfl (Or.inl rfl) (pe_ix ix_tup (pv 0) pe_int (fun _ _ => rfl)))
    (pss_cut (ps_if (pt_cmpR op_ne (pv 1) pe_str (nomark _))
      (pss_one (ps_set (i := 1) sc_l_turned.nd rfl (Or.inl rfl) (pe_ix ix_list (pe_lst (pa_cons pe_str (pa_cons pe_str pa_nil))) (pe_callTy call_int1 (by rfl) B.int (by decide +kernel) (pa_cons (pe_cmpR op_eq (pv 1) pe_str (nomark _)) pa_nil)) (fun _ _ => rfl))))
      pss_nil)
    (pss_one (ps_ret (pe_tup (pa_cons (pv 1) (pa_cons (pe_cal G.law_turned (hr.mono (by omega)) pass0 (pa_cons (pe_ix ix_tup (pv 0) pe_int (fun _ _ => rfl)) pa_nil)) (pa_cons (pe_cal G.law_turned (hr.mono (by omega)) pass0 (pa_cons (pe_ix ix_tup (pv 0) pe_int (fun _ _ => rfl)) pa_nil)) pa_nil))))))))))), ?_⟩
    cases t with
    | now =>
      have hM : H e = some (.tup [.str "now"]) := hM
      exact ⟨_, rfl, _, _, _, _, rfl, rfl, SqT.of hM, rfl, rfl, _, rfl, iteT ⟨_, rfl, q e H hM (Same.refl H)⟩⟩
    | shift n u =>
      obtain ⟨b, he, hu⟩ := hM
      have hd' : u.dep ≤ (d : Int) := by have hd : 1 + u.dep ≤ ((d + 1 : Nat) : Int) := hd; omega
      refine ⟨_, rfl, _, _, _, _, rfl, rfl, SqT.of he, rfl, rfl, _, rfl, iteF ⟨_, rfl, _, _, _, _, rfl, rfl, SqT.of he, rfl, rfl, _, rfl, iteT ?_⟩⟩
      refine ⟨_, rfl, _, _, _, _, rfl, rfl, SqT.of he, rfl, _, rfl, _, rfl, _, _, _, _, rfl, rfl, SqT.of he, rfl, b, u, rfl, hu, hd', fun e1 H1 hM1 s1 => ⟨(by show 3 ≤ sizeLine; decide), fun x hx => ?_⟩⟩
      exact q x _ ⟨e1, upd_same, hM1.tk fun t xs h => sameAt (Same.refl _) hx _ _ h⟩ (s1.trans (sameAt (Same.refl _) hx))
    | last z u =>
      obtain ⟨b, he, hu⟩ := hM
      have hd' : u.dep ≤ (d : Int) := by have hd : 1 + u.dep ≤ ((d + 1 : Nat) : Int) := hd; omega
      refine ⟨_, rfl, _, _, _, _, rfl, rfl, SqT.of he, rfl, rfl, _, rfl, iteF ⟨_, rfl, _, _, _, _, rfl, rfl, SqT.of he, rfl, rfl, _, rfl, iteF ⟨_, rfl, _, _, _, _, rfl, rfl, SqT.of he, rfl, (by show 2 ≤ sizeLine; decide), fun l1 hl1 => ⟨l1, _, rfl, .inl (SqL.of upd_same), rfl, rfl, _, rfl, iteT ?_⟩⟩⟩⟩
      have s0 := sameAt (Same.refl H) hl1 (o := .lst [.str "last", .str "next"])
      refine ⟨(by show 2 ≤ sizeLine; decide), fun l2 hl2 => ?_⟩
      have s2 := s0.trans (sameAt (Same.refl _) hl2 (o := .lst [.str "last", .str "next"]))
      have he2 := s2 _ _ he
      refine ⟨_, rfl, _, _, _, _, rfl, rfl, SqT.of he2, rfl, rfl, .inr ⟨_, rfl, _, _, _, .str "next", rfl, rfl, SqL.of upd_same, rfl, _, rfl, _, _, _, _, rfl, rfl, SqT.of he2, rfl, _, rfl, _, _, _, _, rfl, rfl, SqT.of he2, rfl, b, u, rfl, hu.tk (fun t xs h => s2 _ _ h), hd', fun e1 H1 hM1 s1 => ⟨(by show 3 ≤ sizeLine; decide), fun x hx => ?_⟩⟩⟩
      exact q x _ ⟨e1, upd_same, hM1.tk fun t xs h => sameAt (Same.refl _) hx _ _ h⟩ ((s2.trans s1).trans (sameAt (Same.refl _) hx))
    | next z u =>
      obtain ⟨b, he, hu⟩ := hM
      have hd' : u.dep ≤ (d : Int) := by have hd : 1 + u.dep ≤ ((d + 1 : Nat) : Int) := hd; omega
      refine ⟨_, rfl, _, _, _, _, rfl, rfl, SqT.of he, rfl, rfl, _, rfl, iteF ⟨_, rfl, _, _, _, _, rfl, rfl, SqT.of he, rfl, rfl, _, rfl, iteF ⟨_, rfl, _, _, _, _, rfl, rfl, SqT.of he, rfl, (by show 2 ≤ sizeLine; decide), fun l1 hl1 => ⟨l1, _, rfl, .inl (SqL.of upd_same), rfl, rfl, _, rfl, iteT ?_⟩⟩⟩⟩
      have s0 := sameAt (Same.refl H) hl1 (o := .lst [.str "last", .str "next"])
      refine ⟨(by show 2 ≤ sizeLine; decide), fun l2 hl2 => ?_⟩
      have s2 := s0.trans (sameAt (Same.refl _) hl2 (o := .lst [.str "last", .str "next"]))
      have he2 := s2 _ _ he
      refine ⟨_, rfl, _, _, _, _, rfl, rfl, SqT.of he2, rfl, rfl, .inr ⟨_, rfl, _, _, _, .str "last", rfl, rfl, SqL.of upd_same, rfl, _, rfl, _, _, _, _, rfl, rfl, SqT.of he2, rfl, _, rfl, _, _, _, _, rfl, rfl, SqT.of he2, rfl, b, u, rfl, hu.tk (fun t xs h => s2 _ _ h), hd', fun e1 H1 hM1 s1 => ⟨(by show 3 ≤ sizeLine; decide), fun x hx => ?_⟩⟩⟩
      exact q x _ ⟨e1, upd_same, hM1.tk fun t xs h => sameAt (Same.refl _) hx _ _ h⟩ ((s2.trans s1).trans (sameAt (Same.refl _) hx))
    | either u v =>
      obtain ⟨b, c, he, hu, hv⟩ := hM
      have m1 := Tm.mx_l u.dep v.dep
      have m2 := Tm.mx_r u.dep v.dep
      have hd : 1 + Tm.mx u.dep v.dep ≤ ((d + 1 : Nat) : Int) := hd
      refine ⟨_, rfl, _, _, _, _, rfl, rfl, SqT.of he, rfl, rfl, _, rfl, iteF ⟨_, rfl, _, _, _, _, rfl, rfl, SqT.of he, rfl, rfl, _, rfl, iteF ⟨_, rfl, _, _, _, _, rfl, rfl, SqT.of he, rfl, (by show 2 ≤ sizeLine; decide), fun l1 hl1 => ⟨l1, _, rfl, .inl (SqL.of upd_same), rfl, rfl, _, rfl, iteF ?_⟩⟩⟩⟩
      have s0 := sameAt (Same.refl H) hl1 (o := .lst [.str "last", .str "next"])
      have he1 := s0 _ _ he
      refine ⟨_, rfl, _, _, _, _, rfl, rfl, SqT.of he1, rfl, fun σ H3 => σ = [some (.ref e), some (.str "either")] ∧ Same H H3, ?_, ?_⟩
      · exact ⟨_, rfl, rfl, _, rfl, iteF ⟨rfl, s0⟩⟩
      rintro σ H3 ⟨rfl, s2⟩
      have he3 := s2 _ _ he
      refine ⟨_, rfl, _, rfl, _, _, _, _, rfl, rfl, SqT.of he3, rfl, b, u, rfl, hu.tk (fun t xs h => s2 _ _ h), (by omega), fun e1 H1 hM1 s1 => ?_⟩
      have s3 := s2.trans s1
      have he4 := s3 _ _ he
      refine ⟨_, rfl, _, _, _, _, rfl, rfl, SqT.of he4, rfl, c, v, rfl, hv.tk (fun t xs h => s3 _ _ h), (by omega), fun e2 H2 hM2 s4 => ⟨(by show 3 ≤ sizeLine; decide), fun x hx => ?_⟩⟩
      exact q x _ ⟨e1, e2, upd_same, (hM1.tk fun t xs h => s4 _ _ h).tk fun t xs h => sameAt (Same.refl _) hx _ _ h, hM2.tk fun t xs h => sameAt (Same.refl _) hx _ _ h⟩ ((s3.trans s4).trans (sameAt (Same.refl _) hx))
    | later u v =>
      obtain ⟨b, c, he, hu, hv⟩ := hM
      have m1 := Tm.mx_l u.dep v.dep
      have m2 := Tm.mx_r u.dep v.dep
      have hd : 1 + Tm.mx u.dep v.dep ≤ ((d + 1 : Nat) : Int) := hd
      refine ⟨_, rfl, _, _, _, _, rfl, rfl, SqT.of he, rfl, rfl, _, rfl, iteF ⟨_, rfl, _, _, _, _, rfl, rfl, SqT.of he, rfl, rfl, _, rfl, iteF ⟨_, rfl, _, _, _, _, rfl, rfl, SqT.of he, rfl, (by show 2 ≤ sizeLine; decide), fun l1 hl1 => ⟨l1, _, rfl, .inl (SqL.of upd_same), rfl, rfl, _, rfl, iteF ?_⟩⟩⟩⟩
      have s0 := sameAt (Same.refl H) hl1 (o := .lst [.str "last", .str "next"])
      have he1 := s0 _ _ he
      refine ⟨_, rfl, _, _, _, _, rfl, rfl, SqT.of he1, rfl, fun σ H3 => σ = [some (.ref e), some (.str "earlier")] ∧ Same H H3, ?_, ?_⟩
      · exact ⟨_, rfl, rfl, _, rfl, iteT ⟨(by show 2 ≤ sizeLine; decide), fun l3 hl3 => ⟨_, rfl, rfl, .inr ⟨_, rfl, _, _, _, .str "earlier", rfl, rfl, SqL.of upd_same, rfl, rfl, s0.trans (sameAt (Same.refl _) hl3)⟩⟩⟩⟩
      rintro σ H3 ⟨rfl, s2⟩
      have he3 := s2 _ _ he
      refine ⟨_, rfl, _, rfl, _, _, _, _, rfl, rfl, SqT.of he3, rfl, b, u, rfl, hu.tk (fun t xs h => s2 _ _ h), (by omega), fun e1 H1 hM1 s1 => ?_⟩
      have s3 := s2.trans s1
      have he4 := s3 _ _ he
      refine ⟨_, rfl, _, _, _, _, rfl, rfl, SqT.of he4, rfl, c, v, rfl, hv.tk (fun t xs h => s3 _ _ h), (by omega), fun e2 H2 hM2 s4 => ⟨(by show 3 ≤ sizeLine; decide), fun x hx => ?_⟩⟩
      exact q x _ ⟨e1, e2, upd_same, (hM1.tk fun t xs h => s4 _ _ h).tk fun t xs h => sameAt (Same.refl _) hx _ _ h, hM2.tk fun t xs h => sameAt (Same.refl _) hx _ _ h⟩ ((s3.trans s4).trans (sameAt (Same.refl _) hx))
    | earlier u v =>
      obtain ⟨b, c, he, hu, hv⟩ := hM
      have m1 := Tm.mx_l u.dep v.dep
      have m2 := Tm.mx_r u.dep v.dep
      have hd : 1 + Tm.mx u.dep v.dep ≤ ((d + 1 : Nat) : Int) := hd
      refine ⟨_, rfl, _, _, _, _, rfl, rfl, SqT.of he, rfl, rfl, _, rfl, iteF ⟨_, rfl, _, _, _, _, rfl, rfl, SqT.of he, rfl, rfl, _, rfl, iteF ⟨_, rfl, _, _, _, _, rfl, rfl, SqT.of he, rfl, (by show 2 ≤ sizeLine; decide), fun l1 hl1 => ⟨l1, _, rfl, .inl (SqL.of upd_same), rfl, rfl, _, rfl, iteF ?_⟩⟩⟩⟩
      have s0 := sameAt (Same.refl H) hl1 (o := .lst [.str "last", .str "next"])
      have he1 := s0 _ _ he
      refine ⟨_, rfl, _, _, _, _, rfl, rfl, SqT.of he1, rfl, fun σ H3 => σ = [some (.ref e), some (.str "later")] ∧ Same H H3, ?_, ?_⟩
      · exact ⟨_, rfl, rfl, _, rfl, iteT ⟨(by show 2 ≤ sizeLine; decide), fun l3 hl3 => ⟨_, rfl, rfl, .inr ⟨_, rfl, _, _, _, .str "later", rfl, rfl, SqL.of upd_same, rfl, rfl, s0.trans (sameAt (Same.refl _) hl3)⟩⟩⟩⟩
      rintro σ H3 ⟨rfl, s2⟩
      have he3 := s2 _ _ he
      refine ⟨_, rfl, _, rfl, _, _, _, _, rfl, rfl, SqT.of he3, rfl, b, u, rfl, hu.tk (fun t xs h => s2 _ _ h), (by omega), fun e1 H1 hM1 s1 => ?_⟩
      have s3 := s2.trans s1
      have he4 := s3 _ _ he
      refine ⟨_, rfl, _, _, _, _, rfl, rfl, SqT.of he4, rfl, c, v, rfl, hv.tk (fun t xs h => s3 _ _ h), (by omega), fun e2 H2 hM2 s4 => ⟨(by show 3 ≤ sizeLine; decide), fun x hx => ?_⟩⟩
      exact q x _ ⟨e1, e2, upd_same, (hM1.tk fun t xs h => s4 _ _ h).tk fun t xs h => sameAt (Same.refl _) hx _ _ h, hM2.tk fun t xs h => sameAt (Same.refl _) hx _ _ h⟩ ((s3.trans s4).trans (sameAt (Same.refl _) hx))
theorem lturn_all (B : Blt mg) (d1 : D1 K mg "_law_turned" s_l_turned) : ∀ d, GT P w K mg base d
  | 0 => ⟨cal_of d1 (fun _ _ _ _ _ _ us hl => match us, hl with | [_], _ => rfl) fun f fd F => ok_lturn0 F⟩
  | d + 1 => ⟨cal_of d1 (fun _ _ _ _ _ _ us hl => match us, hl with | [_], _ => rfl) fun f fd F => ok_lturn F B (lturn_all B d1 d)⟩
end
end Ash

set_option Elab.async false
set_option linter.all false
set_option maxRecDepth 100000
set_option maxHeartbeats 4000000
namespace Ash
open PySem PySem.Spec PyProof.Rows L2 SrtT
open C8 (pss_cut)
theorem scal_oV {a b : Option Int} : scal (oV a) (oV b) = true := by cases a <;> cases b <;> rfl
def Qn.isAm : Qn → Bool
  | .tm _ => false
  | .am _ => true
def Qn.isNT : Qn → Bool
  | .am (.number _ _) => true
  | .am (.total _ _ _) => true
  | _ => false
theorem mq_head {H : Hp} {e : Addr} {q : Qn} (h : MqAt H e q) : ∃ x r, H e = some (.tup (.str x :: r)) ∧ inV (.str x) [.str "number", .str "count", .str "total", .str "gap"] = q.isAm ∧ inV (.str x) [.str "number", .str "total"] = q.isNT := by
  cases q with
  | tm t =>
    cases t with
    | now => exact ⟨_, _, h, rfl, rfl⟩
    | shift n u => obtain ⟨b, h, _⟩ := h; exact ⟨_, _, h, rfl, rfl⟩
    | last n u => obtain ⟨b, h, _⟩ := h; exact ⟨_, _, h, rfl, rfl⟩
    | next n u => obtain ⟨b, h, _⟩ := h; exact ⟨_, _, h, rfl, rfl⟩
    | either n u => obtain ⟨b, c, h, _⟩ := h; exact ⟨_, _, h, rfl, rfl⟩
    | later n u => obtain ⟨b, c, h, _⟩ := h; exact ⟨_, _, h, rfl, rfl⟩
    | earlier n u => obtain ⟨b, c, h, _⟩ := h; exact ⟨_, _, h, rfl, rfl⟩
  | am m =>
    cases m with
    | number z t => obtain ⟨b, h, _⟩ := h; exact ⟨_, _, h, rfl, rfl⟩
    | count z t u => obtain ⟨b, c, h, _⟩ := h; exact ⟨_, _, h, rfl, rfl⟩
    | total z t u => obtain ⟨b, c, h, _⟩ := h; exact ⟨_, _, h, rfl, rfl⟩
    | gap t u => obtain ⟨b, c, h, _⟩ := h; exact ⟨_, _, h, rfl, rfl⟩
theorem renT_sz (ρ : Str → Str) : ∀ t : Tm, (renT ρ t).dep = t.dep ∧ (renT ρ t).par = t.par ∧ (renT ρ t).lok = t.lok
  | .now => ⟨rfl, rfl, rfl⟩
  | .last s t => by obtain ⟨h1, h2, h3⟩ := renT_sz ρ t; exact ⟨congrArg (1 + ·) h1, congrArg (1 + ·) h2, congrArg (1 + ·) h3⟩
  | .next s t => by obtain ⟨h1, h2, h3⟩ := renT_sz ρ t; exact ⟨congrArg (1 + ·) h1, congrArg (1 + ·) h2, congrArg (1 + ·) h3⟩
  | .shift n t => by obtain ⟨h1, h2, h3⟩ := renT_sz ρ t; exact ⟨congrArg (1 + ·) h1, congrArg (1 + ·) h2, congrArg (0 + ·) h3⟩
  | .either a b => by obtain ⟨h1, h2, h3⟩ := renT_sz ρ a; obtain ⟨g1, g2, g3⟩ := renT_sz ρ b; exact ⟨by show 1 + Tm.mx _ _ = 1 + Tm.mx _ _; rw [h1, g1], by show 1 + (_ + _) = 1 + (_ + _); rw [h2, g2], by show 0 + (_ + _) = 0 + (_ + _); rw [h3, g3]⟩
  | .later a b => by obtain ⟨h1, h2, h3⟩ := renT_sz ρ a; obtain ⟨g1, g2, g3⟩ := renT_sz ρ b; exact ⟨by show 1 + Tm.mx _ _ = 1 + Tm.mx _ _; rw [h1, g1], by show 1 + (_ + _) = 1 + (_ + _); rw [h2, g2], by show 0 + (_ + _) = 0 + (_ + _); rw [h3, g3]⟩
  | .earlier a b => by obtain ⟨h1, h2, h3⟩ := renT_sz ρ a; obtain ⟨g1, g2, g3⟩ := renT_sz ρ b; exact ⟨by show 1 + Tm.mx _ _ = 1 + Tm.mx _ _; rw [h1, g1], by show 1 + (_ + _) = 1 + (_ + _); rw [h2, g2], by show 0 + (_ + _) = 0 + (_ + _); rw [h3, g3]⟩
theorem trT_sz : ∀ t : Tm, (trT t).dep = t.dep ∧ (trT t).par = t.par ∧ (trT t).lok = t.lok
  | .now => ⟨rfl, rfl, rfl⟩
  | .last s t => by obtain ⟨h1, h2, h3⟩ := trT_sz t; exact ⟨congrArg (1 + ·) h1, congrArg (1 + ·) h2, congrArg (1 + ·) h3⟩
  | .next s t => by obtain ⟨h1, h2, h3⟩ := trT_sz t; exact ⟨congrArg (1 + ·) h1, congrArg (1 + ·) h2, congrArg (1 + ·) h3⟩
  | .shift n t => by obtain ⟨h1, h2, h3⟩ := trT_sz t; exact ⟨congrArg (1 + ·) h1, congrArg (1 + ·) h2, congrArg (0 + ·) h3⟩
  | .either a b => by obtain ⟨h1, h2, h3⟩ := trT_sz a; obtain ⟨g1, g2, g3⟩ := trT_sz b; exact ⟨by show 1 + Tm.mx _ _ = 1 + Tm.mx _ _; rw [h1, g1], by show 1 + (_ + _) = 1 + (_ + _); rw [h2, g2], by show 0 + (_ + _) = 0 + (_ + _); rw [h3, g3]⟩
  | .later a b => by obtain ⟨h1, h2, h3⟩ := trT_sz a; obtain ⟨g1, g2, g3⟩ := trT_sz b; exact ⟨by show 1 + Tm.mx _ _ = 1 + Tm.mx _ _; rw [h1, g1], by show 1 + (_ + _) = 1 + (_ + _); rw [h2, g2], by show 0 + (_ + _) = 0 + (_ + _); rw [h3, g3]⟩
  | .earlier a b => by obtain ⟨h1, h2, h3⟩ := trT_sz a; obtain ⟨g1, g2, g3⟩ := trT_sz b; exact ⟨by show 1 + Tm.mx _ _ = 1 + Tm.mx _ _; rw [h1, g1], by show 1 + (_ + _) = 1 + (_ + _); rw [h2, g2], by show 0 + (_ + _) = 0 + (_ + _); rw [h3, g3]⟩
theorem renT_nm {ρ : Str → Str} {names : List Str} (h : ∀ z ∈ names, IsNm (ρ z)) : ∀ {t : Tm}, t.InS names → (renT ρ t).NmS
  | .now, _ => trivial
  | .last s t, hI => ⟨h s hI.1, renT_nm h hI.2⟩
  | .next s t, hI => ⟨h s hI.1, renT_nm h hI.2⟩
  | .shift n t, hI => renT_nm (t := t) h hI
  | .either a b, hI => ⟨renT_nm h hI.1, renT_nm h hI.2⟩
  | .later a b, hI => ⟨renT_nm h hI.1, renT_nm h hI.2⟩
  | .earlier a b, hI => ⟨renT_nm h hI.1, renT_nm h hI.2⟩
theorem trT_nm : ∀ {t : Tm}, t.NmS → (trT t).NmS
  | .now, _ => trivial
  | .last s t, h => ⟨h.1, trT_nm h.2⟩
  | .next s t, h => ⟨h.1, trT_nm h.2⟩
  | .shift n t, h => trT_nm (t := t) h
  | .either a b, h => ⟨trT_nm h.1, trT_nm h.2⟩
  | .later a b, h => ⟨trT_nm h.1, trT_nm h.2⟩
  | .earlier a b, h => ⟨trT_nm h.1, trT_nm h.2⟩
theorem renT_fit {ρ : Str → Str} {t : Tm} (h : t.Fit) : (renT ρ t).Fit := by
  obtain ⟨h1, h2, h3⟩ := renT_sz ρ t
  obtain ⟨g1, g2, g3⟩ := h
  exact ⟨by rw [h1]; exact g1, by rw [h2]; exact g2, by rw [h3]; exact g3⟩
theorem trT_fit {t : Tm} (h : t.Fit) : (trT t).Fit := by
  obtain ⟨h1, h2, h3⟩ := trT_sz t
  obtain ⟨g1, g2, g3⟩ := h
  exact ⟨by rw [h1]; exact g1, by rw [h2]; exact g2, by rw [h3]; exact g3⟩
theorem renQ_nm {ρ : Str → Str} {names : List Str} (h : ∀ z ∈ names, IsNm (ρ z)) : ∀ {q : Qn}, q.InS names → (renQ ρ q).NmS
  | .tm t, hI => renT_nm (t := t) h hI
  | .am (.number s t), hI => ⟨h s hI.1, renT_nm h hI.2⟩
  | .am (.count s t u), hI => ⟨h s hI.1, renT_nm h hI.2.1, renT_nm h hI.2.2⟩
  | .am (.total s t u), hI => ⟨h s hI.1, renT_nm h hI.2.1, renT_nm h hI.2.2⟩
  | .am (.gap t u), hI => ⟨renT_nm h hI.1, renT_nm h hI.2⟩
theorem renQ_fit {ρ : Str → Str} : ∀ {q : Qn}, q.Fit → (renQ ρ q).Fit
  | .tm t, h => renT_fit (t := t) h
  | .am (.number s t), h => renT_fit (t := t) h
  | .am (.count s t u), h => ⟨renT_fit h.1, renT_fit h.2⟩
  | .am (.total s t u), h => ⟨renT_fit h.1, renT_fit h.2⟩
  | .am (.gap t u), h => ⟨renT_fit h.1, renT_fit h.2⟩
theorem renT_id : ∀ t : Tm, renT id t = t
  | .now => rfl
  | .last s t => congrArg (Tm.last s) (renT_id t)
  | .next s t => congrArg (Tm.next s) (renT_id t)
  | .shift n t => congrArg (Tm.shift n) (renT_id t)
  | .either a b => by show Tm.either (renT id a) (renT id b) = _; rw [renT_id a, renT_id b]
  | .later a b => by show Tm.later (renT id a) (renT id b) = _; rw [renT_id a, renT_id b]
  | .earlier a b => by show Tm.earlier (renT id a) (renT id b) = _; rw [renT_id a, renT_id b]
theorem renQ_id : ∀ q : Qn, renQ id q = q
  | .tm t => congrArg Qn.tm (renT_id t)
  | .am (.number s t) => by show Qn.am (.number s (renT id t)) = _; rw [renT_id t]
  | .am (.count s t u) => by show Qn.am (.count s (renT id t) (renT id u)) = _; rw [renT_id t, renT_id u]
  | .am (.total s t u) => by show Qn.am (.total s (renT id t) (renT id u)) = _; rw [renT_id t, renT_id u]
  | .am (.gap t u) => by show Qn.am (.gap (renT id t) (renT id u)) = _; rw [renT_id t, renT_id u]
theorem mvQ_01 (q : Qn) (o : Option Int) : mvQ 0 1 q o = o := by
  cases q with
  | tm t => cases o with | none => rfl | some i => show some (i + 0) = _; rw [Int.add_zero]
  | am m =>
    cases m with
    | number z t => cases o with | none => rfl | some i => show some (i * 1) = _; rw [Int.mul_one]
    | total z t u => cases o with | none => rfl | some i => show some (i * 1) = _; rw [Int.mul_one]
    | count z t u => rfl
    | gap t u => rfl
theorem mvQ_f1 (far : Int) (q : Qn) (o : Option Int) : mvQ far 1 q o = if q.isAm = false then o.map (· + far) else o := by
  cases q with
  | tm t => rfl
  | am m =>
    show _ = o
    cases m with
    | number z t => cases o with | none => rfl | some i => show some (i * 1) = _; rw [Int.mul_one]
    | total z t u => cases o with | none => rfl | some i => show some (i * 1) = _; rw [Int.mul_one]
    | count z t u => rfl
    | gap t u => rfl
theorem mvQ_0f (fac : Int) (q : Qn) (o : Option Int) : mvQ 0 fac q o = if q.isNT = true then o.map (· * fac) else o := by
  cases q with
  | tm t => show o.map (· + 0) = o; cases o with | none => rfl | some i => show some (i + 0) = _; rw [Int.add_zero]
  | am m =>
    cases m with
    | number z t => rfl
    | total z t u => rfl
    | count z t u => rfl
    | gap t u => rfl
theorem LevQ.dep : ∀ {q : Qn} {d : Nat}, d ≤ 3 → LevQ q d → q.dep ≤ 12
  | .tm t, d, hd, h => by have := Lev.dep h; show t.dep ≤ 12; omega
  | .am (.number s t), d, hd, h => by have := Lev.dep h.2; show 1 + t.dep ≤ 12; omega
  | .am (.count s t u), d, hd, h => by have := Lev.dep h.2.1; have := Lev.dep h.2.2; show 1 + Tm.mx t.dep u.dep ≤ 12; unfold Tm.mx; split <;> omega
  | .am (.total s t u), d, hd, h => by have := Lev.dep h.2.1; have := Lev.dep h.2.2; show 1 + Tm.mx t.dep u.dep ≤ 12; unfold Tm.mx; split <;> omega
  | .am (.gap t u), d, hd, h => by have := Lev.dep h.1; have := Lev.dep h.2; show 1 + Tm.mx t.dep u.dep ≤ 12; unfold Tm.mx; split <;> omega
/-- an answer's amount is not far -/
theorem sum_bd : ∀ {l : List T3} {n : Nat}, l.length ≤ n → (∀ t ∈ l, Bd t.2.2) → -(10000000000000000000000 * (n : Int)) ≤ (l.map (·.2.2)).sum ∧ (l.map (·.2.2)).sum ≤ 10000000000000000000000 * (n : Int)
  | [], n, _, _ => by simp; omega
  | t :: r, n, hn, h => by
    obtain ⟨m, rfl⟩ : ∃ m, n = m + 1 := ⟨n - 1, by have : r.length + 1 ≤ n := hn; omega⟩
    have hr : r.length ≤ m := by have : r.length + 1 ≤ m + 1 := hn; omega
    obtain ⟨h1, h2⟩ := sum_bd hr fun u hu => h u (List.mem_cons_of_mem _ hu)
    have h3 := h t List.mem_cons_self
    unfold Bd at h3
    rw [List.map_cons, List.sum_cons]
    generalize (r.map (·.2.2)).sum = S at h1 h2 ⊢
    omega
theorem evQ_bd {W : Tr} {now : Int} {q : Qn} {i : Int} (hW : ∀ z, (W z).length ≤ 400 ∧ ∀ t ∈ W z, Bd t.2.2) (hq : q.isNT = true) (h : (evQ W now q).1 = some i) : -10000000000000000000000000000000000000000 ≤ i ∧ i ≤ 10000000000000000000000000000000000000000 := by
  cases q with
  | tm t => cases hq
  | am m =>
    cases m with
    | count z t u => cases hq
    | gap t u => cases hq
    | number z t =>
      have h : (lookA (ev W now t) (lastR (W z))).1 = some i := h
      generalize ev W now t = r at h
      obtain ⟨a, b⟩ := r
      cases a with
      | none => cases h
      | some m =>
        have h : (match lastR (W z) m with | none => (none, b) | some t => (some t.2.2, b ++ [t.2.1])).1 = some i := h
        cases e : lastR (W z) m with
        | none => rw [e] at h; cases h
        | some t3 =>
          rw [e] at h
          cases h
          have := (hW z).2 t3 (List.mem_filter.mp (List.mem_of_getLast? e)).1
          unfold Bd at this
          omega
    | total z t u =>
      have h : (tellR (ev W now t) (ev W now u) _).1 = some i := h
      generalize ev W now t = r at h
      generalize ev W now u = s at h
      obtain ⟨a, b⟩ := r
      obtain ⟨c, d⟩ := s
      cases a with
      | none => cases h
      | some m =>
        cases c with
        | none => cases h
        | some k =>
          have h : some ((betweenR (W z) m k).map (·.2.2)).sum = some i := h
          cases h
          have := sum_bd (l := betweenR (W z) m k) (n := 400) (Nat.le_trans (List.length_filter_le _ _) (hW z).1) fun t ht => (hW z).2 t (List.mem_filter.mp ht).1
          omega
def spLaw (K : PySem.W.Frag) : Sp := fun vs H Q _ => ∃ (a : Addr) (ns : List Int), vs = [.ref a] ∧ SqL K H a (ns.map V.int) ∧ ns.length ≤ 63 ∧ ∀ H', Q (.bl true) H'
end Ash

set_option Elab.async false
set_option linter.all false
set_option maxRecDepth 100000
set_option maxHeartbeats 4000000
set_option pp.maxSteps 3000
namespace Ash
open PySem PySem.Spec PyProof.Rows L2 SrtT
open C8 (pss_cut)
section
variable {P : Program} {w : World} {K : PySem.W.Frag} {mg : Str → Option Value} {base : Heap} {C : TC} {CW : Addr} {A0 : AC}
theorem lterm_all (B : Blt mg) (G : G2w P w K mg base) (d1 : D1 K mg "_law_term" s_l_term) : ∀ d, G3t P w K mg base d
  | 0 => { G with law_term := cal_of d1 (fun _ _ _ _ _ _ us hl => match us, hl with | [_, _, _], _ => rfl) fun f fd F => ok_lterm0 F B G }
  | d + 1 => { G with law_term := cal_of d1 (fun _ _ _ _ _ _ us hl => match us, hl with | [_, _, _], _ => rfl) fun f fd F => ok_lterm F B (lterm_all B G d1 d) }
theorem built_all (B : Blt mg) (G : B0 P w K mg base C) (O : Ops P w K mg base C) (d1 : D1 K mg "_law_built" s_l_built) : ∀ d, B1 P w K mg base C d
  | 0 => { G with law_built := cal_of d1 (fun _ _ _ _ _ _ us hl => match us, hl with | [_], _ => rfl) fun f fd F => ok_built0 F }
  | d + 1 => { G with law_built := cal_of d1 (fun _ _ _ _ _ _ us hl => match us, hl with | [_], _ => rfl) fun f fd F => ok_built F B (built_all B G O d1 d) O }
structure L16 (P : Program) (w : World) (K : PySem.W.Frag) (mg : Str → Option Value) (base : Heap) (A0 : AC) (C : TC) (CW : Addr) : Prop where
  law_pool : Cal P w K mg base CX0 "_law_pool" 1 ["script"] (spPool K)
  law_draw : CDraw P w K mg base
  law_names : Cal P w K mg base CX0 "_law_names" 2 ["pool", "many"] spNames
  law_moment : Cal P w K mg base CX0 "_law_moment" 2 ["pool"] spMoment
  law_rows : Cal P w K mg base CX0 "_law_rows" 3 ["pool", "streams", "many"] spLWRows
  law_question : Cal P w K mg base CX0 "_law_question" (3 + 5) ["pool", "streams", "depth"] (spLQuest 3)
  law_asked : Cal P w K mg base CX0 "_law_asked" 20 ["model"] (spLAsked A0 C)
  value : Cal P w K mg base CX0 "value" 31 ["question", "world", "now"] (spValue A0 C CW)
  support : Cal P w K mg base CX0 "support" 31 ["question", "world", "now"] (spSupport A0 C CW)
  law_changed : Cal P w K mg base CX0 "_law_changed" 7 ["rows", "streams", "names", "far", "factor"] (spLChanged CW)
  law_opposite : Cal P w K mg base CX0 "_law_opposite" 7 ["rows", "streams"] (spLOpposite CW)
  law_renamed : Cal P w K mg base CX0 "_law_renamed" (12 + 1) ["model", "names"] (spLRen 12)
  law_turned : Cal P w K mg base CX0 "_law_turned" (12 + 1) ["model"] (spLTurn 12)
  law_plus : Cal P w K mg base CX0 "_law_plus" 1 ["told", "more"] spLPlus
  World : Mak P w K mg base CX0 "World" CW 5 ["self", "rows"] (spWorldInit CW)
theorem rot_ex {names : List Str} (hnd : names.Nodup) : ∃ ρ : Str → Str, ∀ (i : Nat) z, names[i]? = some z → names[(i + 1) % names.length]? = some (ρ z) := by
  have ex : ∀ z : Str, ∃ y : Str, ∀ (i : Nat), names[i]? = some z → names[(i + 1) % names.length]? = some y := fun z => by
    by_cases h : ∃ i : Nat, names[i]? = some z
    · obtain ⟨i, hi⟩ := h
      have hl := (List.getElem?_eq_some_iff.mp hi).1
      have hm : (i + 1) % names.length < names.length := Nat.mod_lt _ (by omega)
      refine ⟨names[(i + 1) % names.length], fun j hj => ?_⟩
      have := nd_ix hnd hi hj
      subst this
      exact List.getElem?_eq_getElem hm
    · exact ⟨z, fun i hi => absurd ⟨i, hi⟩ h⟩
  obtain ⟨ρ, hρ⟩ := Classical.axiomOfChoice ex
  exact ⟨ρ, fun i z h => hρ z i h⟩
theorem rot_nd {names : List Str} {ρ : Str → Str} (hnd : names.Nodup) (h : ∀ (i : Nat) z, names[i]? = some z → names[(i + 1) % names.length]? = some (ρ z)) : (names.map ρ).Nodup := by
  rw [List.Nodup, List.pairwise_iff_getElem]
  intro i j hi hj hij e
  rw [List.length_map] at hi hj
  rw [List.getElem_map, List.getElem_map] at e
  have h1 := h i _ (List.getElem?_eq_getElem hi)
  have h2 := h j _ (List.getElem?_eq_getElem hj)
  rw [e] at h1
  have e2 := nd_ix hnd h1 h2
  by_cases cj : j + 1 = names.length
  · rw [cj, Nat.mod_self, Nat.mod_eq_of_lt (by omega)] at e2
    omega
  · rw [Nat.mod_eq_of_lt (by omega), Nat.mod_eq_of_lt (by omega)] at e2
    omega
abbrev s_law : Stmt := topS 82
theorem sc_law : FnScope ["script", "pool", "streams", "rows", "model", "now", "far", "factor", "same", "names", "k", "world", "question", "answer", "leant", "is_term_v", "further", "due", "other", "renamed", "dearer", "turned", "opposite", "told", "number"] ["script"] (defScope s_law) := ⟨rfl, rfl, rfl, by decide +kernel, rfl, by decide +kernel, by decide +kernel⟩
theorem ok_law {f : Addr} {fd : FuncData} (F : Fun K "law" "law" s_law f fd) (B : Blt mg) (G : L16 P w K mg base A0 C CW) : FnOk P w K mg base CX0 40 f fd ["script"] (spLaw K) := by
  refine F.ok sc_law (fun vs H Q E h => ?_) (fun cdv A outer s H vs Q E hr h => ?_)
  · obtain ⟨a, ns, rfl, _⟩ := h
    rfl
  · obtain ⟨a, ns, rfl, hS, hlen, q⟩ := h
    have hu := hu_of hr
    refine ⟨_, (pss_cons (ps_set (i := 1) sc_law.nd rfl (Or.inl rfl) (pe_cal G.law_pool (hr.mono (by decide)) pass0 (pa_cons (pv 0) pa_nil)))
    (pss_cons (ps_set (i := 2) sc_law.nd rfl (Or.inl rfl) (pe_cal G.law_names (hr.mono (by decide)) pass0 (pa_cons (pv 1) (pa_cons (pe_op op_add pe_int (pe_cal G.law_draw (hr.mono (by decide)) pass0 (pa_cons (pv 1) (pa_cons pe_int pa_nil)))) pa_nil))))
    (pss_cons (ps_set (i := 3) sc_law.nd rfl (Or.inl rfl) (pe_cal G.law_rows (hr.mono (by decide)) pass0 (pa_cons (pv 1) (pa_cons (pv 2) (pa_cons (pe_cal G.law_draw (hr.mono (by decide)) pass0 (pa_cons (pv 1) (pa_cons pe_int pa_nil))) pa_nil)))))
    (pss_cons (ps_set (i := 4) sc_law.nd rfl (Or.inl rfl) (pe_cal G.law_question (hr.mono (by decide)) pass0 (pa_cons (pv 1) (pa_cons (pv 2) (pa_cons pe_int pa_nil)))))
    (pss_cons (ps_set (i := 5) sc_law.nd rfl (Or.inl rfl) (pe_cal G.law_moment (hr.mono (by decide)) pass0 (pa_cons (pv 1) pa_nil)))
    (pss_cons (ps_set (i := 6) sc_law.nd rfl (Or.inl rfl) (pe_cal G.law_moment (hr.mono (by decide)) pass0 (pa_cons (pv 1) pa_nil)))
    (pss_cons (ps_set (i := 7) sc_law.nd rfl (Or.inl rfl) (pe_cal G.law_moment (hr.mono (by decide)) pass0 (pa_cons (pv 1) pa_nil)))
    (pss_cons (ps_set (i := 8) sc_law.nd rfl (Or.inl rfl) pe_dnewK)
    (pss_cons (ps_set (i := 9) sc_law.nd rfl (Or.inl rfl) pe_dnewK)
    (pss_cons (ps_for PassesOwn.never rfl (pi_range1 (by rfl) B.range (pa_cons (pe_callB call_len (by rfl) B.len (by decide +kernel) (pa_cons (pv 2) pa_nil)) pa_nil)) (pg_name (i := 10) sc_law.nd rfl (Or.inl rfl))
      (pss_cons (ps_dput hu (pv 8) (pe_ix ix_list (pv 2) (pv 10) (fun _ _ => rfl)) (pe_ix ix_list (pv 2) (pv 10) (fun _ _ => rfl)) rfl)
      (pss_one (ps_dput hu (pv 9) (pe_ix ix_list (pv 2) (pv 10) (fun _ _ => rfl)) (pe_ix ix_list (pv 2) (pe_op op_mod (pe_op op_add (pv 10) pe_int) (pe_callB call_len (by rfl) B.len (by decide +kernel) (pa_cons (pv 2) pa_nil))) (fun _ _ => rfl)) rfl))))
    (pss_cons (ps_set (i := 11) sc_law.nd rfl (Or.inl rfl) (pe_mak G.World (hr.mono (by decide)) pass0 (pa_cons (pv 3) pa_nil)))
    (pss_cons (ps_set (i := 12) sc_law.nd rfl (Or.inl rfl) (pe_cal G.law_asked (hr.mono (by decide)) pass0 (pa_cons (pv 4) pa_nil)))
    (pss_cons (ps_set (i := 13) sc_law.nd rfl (Or.inl rfl) (pe_cal G.value (hr.mono (by decide)) pass0 (pa_cons (pv 12) (pa_cons (pv 11) (pa_cons (pv 5) pa_nil)))))
    (pss_cons (ps_set (i := 14) sc_law.nd rfl (Or.inl rfl) (pe_cal G.support (hr.mono (by decide)) pass0 (pa_cons (pv 12) (pa_cons (pv 11) (pa_cons (pv 5) pa_nil)))))
    (pss_cons (ps_set (i := 15) sc_law.nd rfl (Or.inl rfl) (pe_cmpR op_notIn_seq (pe_ix ix_tup (pv 4) pe_int (fun _ _ => rfl)) (pe_lst (pa_cons pe_str (pa_cons pe_str (pa_cons pe_str (pa_cons pe_str pa_nil))))) rfl))
    (pss_cons (ps_set (i := 16) sc_law.nd rfl (Or.inl rfl) (pe_cal G.law_changed (hr.mono (by decide)) pass0 (pa_cons (pv 3) (pa_cons (pv 2) (pa_cons (pv 8) (pa_cons (pv 6) (pa_cons pe_int pa_nil)))))))
    (pss_cons (ps_set (i := 17) sc_law.nd rfl (Or.inl rfl) (pv 13))
    (pss_cut (ps_if (pt_val (pv 15))
      (pss_one (ps_set (i := 17) sc_law.nd rfl (Or.inl rfl) (pe_cal G.law_plus (hr.mono (by decide)) pass0 (pa_cons (pv 13) (pa_cons (pv 6) pa_nil)))))
      pss_nil)
    (pss_cons (ps_if (PW.pt (pw_or (pt_cmpR op_ne (pe_cal G.value (hr.mono (by decide)) pass0 (pa_cons (pv 12) (pa_cons (pv 16) (pa_cons (pe_op op_add (pv 5) (pv 6)) pa_nil)))) (pv 17) (nomark _)) (pw_or1 (pt_cmpR (op_neD hr.units) (pe_cal G.support (hr.mono (by decide)) pass0 (pa_cons (pv 12) (pa_cons (pv 16) (pa_cons (pe_op op_add (pv 5) (pv 6)) pa_nil)))) (pv 14) (nomark _)))))
      (pss_one (ps_ret pe_bl))
      pss_nil)
    (pss_cons (ps_set (i := 18) sc_law.nd rfl (Or.inl rfl) (pe_cal G.law_changed (hr.mono (by decide)) pass0 (pa_cons (pv 3) (pa_cons (pv 2) (pa_cons (pv 9) (pa_cons pe_int (pa_cons pe_int pa_nil)))))))
    (pss_cons (ps_set (i := 19) sc_law.nd rfl (Or.inl rfl) (pe_cal G.law_asked (hr.mono (by decide)) pass0 (pa_cons (pe_cal G.law_renamed (hr.mono (by decide)) pass0 (pa_cons (pv 4) (pa_cons (pv 9) pa_nil))) pa_nil)))
    (pss_cons (ps_if (PW.pt (pw_or (pt_cmpR op_ne (pe_cal G.value (hr.mono (by decide)) pass0 (pa_cons (pv 19) (pa_cons (pv 18) (pa_cons (pv 5) pa_nil)))) (pv 13) (nomark _)) (pw_or1 (pt_cmpR (op_neD hr.units) (pe_cal G.support (hr.mono (by decide)) pass0 (pa_cons (pv 19) (pa_cons (pv 18) (pa_cons (pv 5) pa_nil)))) (pv 14) (nomark _)))))
      (pss_one (ps_ret pe_bl))
      pss_nil)
    (pss_cons (ps_set (i := 20) sc_law.nd rfl (Or.inl rfl) (pe_cal G.law_changed (hr.mono (by decide)) pass0 (pa_cons (pv 3) (pa_cons (pv 2) (pa_cons (pv 8) (pa_cons pe_int (pa_cons (pv 7) pa_nil)))))))
    (pss_cons (ps_set (i := 17) sc_law.nd rfl (Or.inl rfl) (pv 13))
    (pss_cut (ps_if (PW.pt (pw_and (pt_cmpR op_in_seq (pe_ix ix_tup (pv 4) pe_int (fun _ _ => rfl)) (pe_lst (pa_cons pe_str (pa_cons pe_str pa_nil))) rfl) (pw_and1 (pt_cmpR op_notN (pv 13) pe_non (nomark _)))))
      (pss_one (ps_set (i := 17) sc_law.nd rfl (Or.inl rfl) (pe_op op_mulW (pv 13) (pv 7))))
      pss_nil)
    (pss_cons (ps_if (PW.pt (pw_or (pt_cmpR op_ne (pe_cal G.value (hr.mono (by decide)) pass0 (pa_cons (pv 12) (pa_cons (pv 20) (pa_cons (pv 5) pa_nil)))) (pv 17) (nomark _)) (pw_or1 (pt_cmpR (op_neD hr.units) (pe_cal G.support (hr.mono (by decide)) pass0 (pa_cons (pv 12) (pa_cons (pv 20) (pa_cons (pv 5) pa_nil)))) (pv 14) (nomark _)))))
      (pss_one (ps_ret pe_bl))
      pss_nil)
    (pss_cons (ps_if (pt_not (pt_val (pv 15)))
      (pss_one (ps_ret pe_bl))
      pss_nil)
    (pss_cons (ps_set (i := 21) sc_law.nd rfl (Or.inl rfl) (pe_cal G.law_asked (hr.mono (by decide)) pass0 (pa_cons (pe_cal G.law_turned (hr.mono (by decide)) pass0 (pa_cons (pv 4) pa_nil)) pa_nil)))
    (pss_cons (ps_set (i := 22) sc_law.nd rfl (Or.inl rfl) (pe_cal G.law_opposite (hr.mono (by decide)) pass0 (pa_cons (pv 3) (pa_cons (pv 2) pa_nil))))
    (pss_cons (ps_set (i := 23) sc_law.nd rfl (Or.inl rfl) (pe_cal G.value (hr.mono (by decide)) pass0 (pa_cons (pv 21) (pa_cons (pv 22) (pa_cons (pe_un un_neg (pv 5)) pa_nil)))))
    (pss_cons (ps_if (PW.pt (pw_or (pt_cmpR op_ne (pe_cmpR op_isN (pv 23) pe_non (nomark _)) (pe_cmpR op_isN (pv 13) pe_non (nomark _)) (nomark _)) (pw_or1 (PW.pt (pw_and (pt_cmpR op_notN (pv 13) pe_non (nomark _)) (pw_and1 (pt_cmpR op_ne (pv 23) (pe_un un_neg (pv 13)) (nomark _))))))))
      (pss_one (ps_ret pe_bl))
      pss_nil)
    (pss_one (ps_ret (pe_cmpR (op_eqD hr.units) (pe_cal G.support (hr.mono (by decide)) pass0 (pa_cons (pv 21) (pa_cons (pv 22) (pa_cons (pe_un un_neg (pv 5)) pa_nil)))) (pe_callB cr_sortedI (by rfl) B.sorted (by decide +kernel) (pa_cons (pe_lc (own := [("number", 24)]) (g := gName 24) (tt := tYes) (by rfl) sc_law.nd (pi_list (pv 14)) (blkOk_by (own := [("number", 24)]) (N := ["script", "pool", "streams", "rows", "model", "now", "far", "factor", "same", "names", "k", "world", "question", "answer", "leant", "is_term_v", "further", "due", "other", "renamed", "dearer", "turned", "opposite", "told", "number"]) (sc := defScope s_law) (by decide +kernel)) (fun _ _ _ _ _ => (pg_name (i := 24) sc_law.nd rfl (Or.inl rfl))) (fun _ _ _ _ _ => pts_nil) (fun _ _ _ _ _ => (pe_op op_sub pe_int (pv 24)))) pa_nil)) (nomark _))))))))))))))))))))))))))))))))))), ?_⟩
    refine ⟨_, rfl, a, ns, rfl, hS, fun p s0 H1 hp1 hP1 s1 => ?_⟩
    refine ⟨_, rfl, _, rfl, p, s0, 3, rfl, hP1, (by decide), (by decide), fun y H2 y0 y3 P2 => ⟨_, _, rfl, rfl, p, s0, 1 + y, rfl, P2.now, (by omega), (by omega), fun l names H3 hl0 hl hlen hnd hnm P3 => ?_⟩⟩
    have lp : l ≠ p := fun z => P2.now.ne.1 (z ▸ hl0)
    refine ⟨_, rfl, _, rfl, _, rfl, p, s0, 13, rfl, P3.now, (by decide), (by decide), fun many H4 m0 m13 P4 => ?_⟩
    refine ⟨p, s0, l, names, many, rfl, P4.now, lp, P4.keep hl lp, (by omega), (by omega), hnd, m0, (by omega), fun d Ad T H5 hd0 hA0 R5 G5 up5 bd5 P5 => ?_⟩
    have hl5 := P5.keep (P4.keep hl lp) lp
    have hP5 := P5.now
    have Ap : ∀ z ∈ names, Ad z ≠ p := fun z hz q => P4.now.ne.1 (q ▸ hA0 z hz)
    clear P5 P4 P3 P2
    refine ⟨_, rfl, _, rfl, p, s0, l, names, rfl, hP5, lp, hl5, (by omega), (by omega), hnm, fun em m H6 hM6 L6 I6 P6 => ?_⟩
    refine ⟨_, rfl, p, s0, rfl, P6.now, fun now H7 bnow P7 => ?_⟩
    refine ⟨_, rfl, p, s0, rfl, P7.now, fun far H8 bfar P8 => ?_⟩
    refine ⟨_, rfl, p, s0, rfl, P8.now, fun fac H9 bfac P9 => ?_⟩
    have P69 := ((P6.trans P7).trans P8).trans P9
    have hl9 := P69.keep hl5 lp
    have R9 : RwAt H9 d names Ad T := R5.pl hP5 Ap P69
    have hM9 : MqAt H9 em m := ((hM6.tk (pl_tk P6.now P7)).tk (pl_tk P7.now P8)).tk (pl_tk P8.now P9)
    clear P69 P9 P8 P7 P6 hM6 R5 hl5 hP5 hP1 s1 hl hl0
    obtain ⟨ρ, hρ⟩ := rot_ex hnd
    have hρn := rot_nd hnd hρ
    refine fun sd hsd nd hnd2 => ?_
    have sD0 : Same H9 (upd (upd H9 sd (.dK [])) nd (.dK [])) := (sameAt (Same.refl H9) hsd).trans (sameAt (Same.refl _) hnd2)
    have sdn : sd ≠ nd := fun z => by rw [← z, upd_same] at hnd2; cases hnd2
    have hsd0 : (upd (upd H9 sd (.dK [])) nd (.dK [])) sd = some (.dK []) := by rw [upd_ne sdn, upd_same]
    have hnd0 : (upd (upd H9 sd (.dK [])) nd (.dK [])) nd = some (.dK []) := upd_same
    generalize (upd (upd H9 sd (.dK [])) nd (.dK [])) = HA at sD0 hsd0 hnd0 ⊢
    have hNn : H9 nd = none := none_of (sameAt (Same.refl H9) hsd) hnd2
    refine ⟨_, rfl, _, _, rfl, .inl ⟨_, SqL.of (sD0 _ _ hl9), rfl⟩, _, rfl, (by rw [List.length_map]; omega), (by rw [List.length_map]; omega), for_range (n := ((names.map V.str).length : Int).toNat) (fun i σ H1 => (∃ x10, σ = [some (.ref a), some (.ref p), some (.ref l), some (.ref d), some (.ref em), some (.int now), some (.int far), some (.int fac), some (.ref sd), some (.ref nd), x10, none, none, none, none, none, none, none, none, none, none, none, none, none, none]) ∧ H1 sd = some (.dK ((names.take i).map fun z => ((Sum.inr z : Key), V.str (id z)))) ∧ H1 nd = some (.dK ((names.take i).map fun z => ((Sum.inr z : Key), V.str (ρ z)))) ∧ Same H9 H1) ?_ ?_ ?_⟩
    · exact ⟨⟨_, rfl⟩, hsd0, hnd0, sD0⟩
    · rintro i σ HB hi ⟨⟨x10, rfl⟩, hsB, hnB, sB⟩
      rw [List.length_map] at hi
      have hi : i < names.length := by omega
      have hzz := List.getElem?_eq_getElem hi
      generalize names[i] = z at hzz
      have hlB := sB _ _ hl9
      have at1 : atI (names.map V.str) (0 + (i : Int)) = some (.str z) := by rw [Int.zero_add]; exact atI_nat (by rw [List.getElem?_map, hzz]; rfl)
      refine ⟨_, rfl, _, rfl, _, _, _, .str z, rfl, rfl, SqL.of hlB, at1, _, rfl, _, rfl, _, rfl, _, _, _, .str z, rfl, rfl, SqL.of hlB, at1, sd, _, rfl, DPut.k (k := Sum.inr z) hsB (by rw [List.length_map, List.length_take]; exact small1000 (by omega)), ?_⟩
      have hzt : z ∉ names.take i := fun hm => by
        obtain ⟨j, hj, e⟩ := List.getElem_of_mem hm
        rw [List.length_take] at hj
        rw [List.getElem_take] at e
        have := nd_ix hnd (List.getElem?_eq_some_iff.mpr ⟨by omega, e⟩) hzz
        omega
      have putE : ∀ g : Str → V, putK ((names.take i).map fun z => ((Sum.inr z : Key), g z)) (Sum.inr z) (g z) = (names.take (i + 1)).map fun z => ((Sum.inr z : Key), g z) := fun g => by
        rw [putK_new _ (by rw [valV_nm, if_neg hzt]), list_take hzz, List.map_append]
        rfl
      have hs1 : (upd HB sd (.dK (putK ((names.take i).map fun z => ((Sum.inr z : Key), V.str (id z))) (Sum.inr z) (.str z)))) sd = some (.dK ((names.take (i + 1)).map fun z => ((Sum.inr z : Key), V.str (id z)))) := by
        rw [upd_same]
        exact congrArg (fun x => some (HO.dK x)) (putE fun z => V.str (id z))
      have hn1 : (upd HB sd (.dK (putK ((names.take i).map fun z => ((Sum.inr z : Key), V.str (id z))) (Sum.inr z) (.str z)))) nd = some (.dK ((names.take i).map fun z => ((Sum.inr z : Key), V.str (ρ z)))) := by
        rw [upd_ne (Ne.symm sdn)]
        exact hnB
      have sB1 : Same H9 (upd HB sd (.dK (putK ((names.take i).map fun z => ((Sum.inr z : Key), V.str (id z))) (Sum.inr z) (.str z)))) := fun c o hc => by rw [upd_ne (ne_of_none hc hsd)]; exact sB _ _ hc
      generalize (upd HB sd (.dK (putK ((names.take i).map fun z => ((Sum.inr z : Key), V.str (id z))) (Sum.inr z) (.str z)))) = HC at hs1 hn1 sB1 ⊢
      have hlC := sB1 _ _ hl9
      have at2 : atI (names.map V.str) ((0 + (i : Int) + 1) % ((names.map V.str).length : Int)) = some (.str (ρ z)) := by
        rw [show (0 + (i : Int) + 1) % ((names.map V.str).length : Int) = (((i + 1) % names.length : Nat) : Int) by rw [List.length_map, Int.zero_add]; rfl]
        exact atI_nat (by rw [List.getElem?_map, hρ i z hzz]; rfl)
      refine ⟨_, rfl, _, rfl, _, _, rfl, rfl, _, rfl, _, _, rfl, .inl ⟨_, SqL.of hlC, rfl⟩, _, _, rfl, rfl, (by rw [List.length_map]; omega), _, _, _, .str (ρ z), rfl, rfl, SqL.of hlC, at2, _, rfl, _, rfl, _, rfl, _, _, _, .str z, rfl, rfl, SqL.of hlC, at1, nd, _, rfl, DPut.k (k := Sum.inr z) hn1 (by rw [List.length_map, List.length_take]; exact small1000 (by omega)), ⟨_, rfl⟩, ?_, ?_, ?_⟩
      · rw [upd_ne sdn]
        exact hs1
      · rw [upd_same]
        exact congrArg (fun x => some (HO.dK x)) (putE fun z => V.str (ρ z))
      · exact fun c o hc => by rw [upd_ne (ne_of_none hc hNn)]; exact sB1 _ _ hc
    · rintro σ HB ⟨⟨x10, rfl⟩, hsB, hnB, sB⟩
      rw [show ((names.map V.str).length : Int).toNat = names.length by rw [List.length_map]; omega, List.take_length] at hsB hnB
      have R := R9.same sB
      have hl := sB _ _ hl9
      have hM : MqAt HB em m := hM9.tk fun t xs h => sB _ _ h
      clear sB hM9 R9 hl9 sD0 hsd hnd2 hNn hsd0 hnd0
      have few : ∀ z ∈ names, (T z).length ≤ 400 := fun z hz => Nat.le_trans (G5.few hz) (by omega)
      have hN := L6.nm
      have hF := LevQ.fit (by omega) L6
      have hdep := LevQ.dep (by omega) L6
      -- world
      refine ⟨_, rfl, fun wd dx hwd hdx hne => ⟨wd, dx, d, names, Ad, T, many.toNat, rfl, upd_same, R.same (sameAt (sameAt (Same.refl HB) hdx) hwd), by omega, hnd, hnm, G5, by omega, fun HC W hW hRW hK => ⟨rfl, ?_⟩⟩⟩
      have sC : Same HB HC := keep_make hK hwd hdx
      -- question
      refine ⟨_, rfl, em, m, rfl, hM.tk (fun t xs h => sC _ _ h), hN, hF, fun qa HD hQ sD => ?_⟩
      have sCD := sC.trans sD
      refine ⟨_, rfl, _, rfl, _, rfl, qa, wd, bq m, W, now, rfl, hQ, hW.same sD, bq_nm hN, bq_fit hF, fun HE sE => ?_⟩
      refine ⟨_, rfl, _, rfl, _, rfl, qa, wd, bq m, W, now, rfl, hQ.same sE, hW.same (sD.trans sE), bq_nm hN, bq_fit hF, fun la ys HG sG hla0 hla hasc hlen5 hmem => ?_⟩
      rw [ev_bq] at hmem ⊢
      have sBG := sCD.trans (sE.trans sG)
      have hQG := hQ.same (sE.trans sG)
      have hMG : MqAt HG em m := hM.tk fun t xs h => sBG _ _ h
      obtain ⟨x, r, hx, hAm, hNT⟩ := mq_head hMG
      have at0 : atI (V.str x :: r) 0 = some (V.str x) := atI_nat (xs := V.str x :: r) (j := 0) rfl
      refine ⟨_, rfl, _, _, _, _, rfl, rfl, SqT.of hx, at0, (by show 4 ≤ sizeLine; decide), fun ll hll => ⟨ll, _, rfl, .inl (SqL.of upd_same), rfl, rfl, ?_⟩⟩
      have sH : Same HG (upd HG ll (.lst [.str "number", .str "count", .str "total", .str "gap"])) := sameAt (Same.refl HG) hll
      generalize (upd HG ll (.lst [.str "number", .str "count", .str "total", .str "gap"])) = HH at sH ⊢
      have sBH := sBG.trans sH
      -- further on
      refine ⟨_, rfl, _, rfl, _, rfl, _, rfl, d, l, sd, names, Ad, T, many.toNat, id, far, 1, rfl, R.same sBH, sBH _ _ hl, sBH _ _ hsB, (by omega), hnd, (fun z hz => hnm z hz), (by rw [List.map_id]; exact hnd), G5, (by omega), ⟨by decide, by decide⟩, bd5, fun fd T1 W1 HI hW1 hc1 hR1 sI => ?_⟩
      have sGI := sH.trans sI
      have hR0 : RowsW names T W := hRW
      have e1 : evQ W1 (now + far) (bq m) = (mvQ far 1 m (evQ W now m).1, (evQ W now m).2) := by
        have := evQ_mv (mvW_of G5 hR0 hR1 hc1) (now := now) I6
        rw [renQ_id] at this
        rw [ev_bq, this]
      rw [hAm]
      refine ⟨_, rfl, fun σ H5 => σ = [some (.ref a), some (.ref p), some (.ref l), some (.ref d), some (.ref em), some (.int now), some (.int far), some (.int fac), some (.ref sd), some (.ref nd), x10, some (.ref wd), some (.ref qa), some (oV (evQ W now m).1), some (.ref la), some (.bl (!m.isAm)), some (.ref fd), some (oV (mvQ far 1 m (evQ W now m).1)), none, none, none, none, none, none, none] ∧ H5 = HI, ?_, ?_⟩
      · rw [mvQ_f1]
        refine ⟨_, rfl, _, rfl, ?_⟩
        cases hm : m.isAm with
        | true => exact ite2 (fun c => absurd (show (!true) = true from c) (by decide)) (fun _ => ⟨rfl, rfl⟩)
        | false => exact ite2 (fun _ => ⟨_, rfl, _, rfl, _, far, rfl, ⟨rfl, rfl⟩⟩) (fun c => absurd rfl c)
      rintro σ _ ⟨rfl, rfl⟩
      refine ⟨_, rfl, _, rfl, _, rfl, _, rfl, _, _, rfl, rfl, qa, fd, bq m, W1, now + far, rfl, hQG.same sGI, hW1, bq_nm hN, bq_fit hF, fun HJ1 sJ1 => ⟨_, rfl, scal_oV, _, rfl, ?_⟩⟩
      rw [e1]
      refine ite2 (fun c => absurd (show (!decide (oV _ = oV _)) = true from c) (by rw [decide_eq_true rfl]; decide)) (fun _ => ?_)
      refine ⟨_, rfl, _, rfl, _, rfl, _, rfl, _, _, rfl, rfl, qa, fd, bq m, W1, now + far, rfl, (hQG.same sGI).same sJ1, (hW1).same sJ1, bq_nm hN, bq_fit hF, fun lb1 zs1 HK1 sK1 hlb01 hlb1 hasc1 _ hmem1 => ?_⟩
      rw [e1] at hmem1
      have sGK1 := (sGI).trans (sJ1.trans sK1)
      have ey1 : zs1 = ys := asc_same hasc1 hasc fun z => (hmem1 z).trans (hmem z).symm
      rw [ey1] at hlb1
      refine ⟨_, rfl, _, _, .lst (SqL.of hlb1) (dp_ints _), .lst (SqL.of (sGK1 _ _ hla)) (dp_ints _), ints_shaped _, ints_shaped _, _, rfl, ?_⟩
      rw [eqv_self (ints_shaped _)]
      refine iteF ?_
      -- other names
      have hNρ : ∀ z ∈ names, IsNm (ρ z) := fun z hz => by
        obtain ⟨k, hk, ek⟩ := List.getElem_of_mem hz
        exact hnm _ (List.mem_of_getElem? (hρ k z (List.getElem?_eq_some_iff.mpr ⟨hk, ek⟩)))
      have sBK := sBG.trans sGK1
      refine ⟨_, rfl, _, rfl, _, rfl, d, l, nd, names, Ad, T, many.toNat, ρ, 0, 1, rfl, R.same sBK, sBK _ _ hl, sBK _ _ hnB, (by omega), hnd, hNρ, hρn, G5, (by omega), ⟨by decide, by decide⟩, bd5, fun od T2 W2 HL hW2 hc2 hR2 sL => ?_⟩
      have e2 : evQ W2 now (bq (renQ ρ m)) = ((evQ W now m).1, (evQ W now m).2) := by
        have := evQ_mv (mvW_of G5 hR0 hR2 hc2) (now := now) I6
        rw [Int.add_zero, mvQ_01] at this
        rw [ev_bq, this]
      have sBL := sBK.trans sL
      refine ⟨_, rfl, _, rfl, em, nd, names, ρ, m, rfl, hM.tk (fun t xs h => sBL _ _ h), sBL _ _ hnB, (by omega), I6, hdep, fun em2 HM hM2 sM => ⟨em2, renQ ρ m, rfl, hM2, renQ_nm hNρ I6, renQ_fit hF, fun qb HN hQ2 sN => ?_⟩⟩
      have sGN := sGK1.trans (sL.trans (sM.trans sN))
      refine ⟨_, rfl, _, rfl, _, rfl, qb, od, bq (renQ ρ m), W2, now, rfl, hQ2, (hW2.same (sM.trans sN)), bq_nm (renQ_nm hNρ I6), bq_fit (renQ_fit hF), fun HJ2 sJ2 => ⟨_, rfl, scal_oV, _, rfl, ?_⟩⟩
      rw [e2]
      refine ite2 (fun c => absurd (show (!decide (oV _ = oV _)) = true from c) (by rw [decide_eq_true rfl]; decide)) (fun _ => ?_)
      refine ⟨_, rfl, _, rfl, _, rfl, qb, od, bq (renQ ρ m), W2, now, rfl, (hQ2).same sJ2, ((hW2.same (sM.trans sN))).same sJ2, bq_nm (renQ_nm hNρ I6), bq_fit (renQ_fit hF), fun lb2 zs2 HK2 sK2 hlb02 hlb2 hasc2 _ hmem2 => ?_⟩
      rw [e2] at hmem2
      have sGK2 := (sGN).trans (sJ2.trans sK2)
      have ey2 : zs2 = ys := asc_same hasc2 hasc fun z => (hmem2 z).trans (hmem z).symm
      rw [ey2] at hlb2
      refine ⟨_, rfl, _, _, .lst (SqL.of hlb2) (dp_ints _), .lst (SqL.of (sGK2 _ _ hla)) (dp_ints _), ints_shaped _, ints_shaped _, _, rfl, ?_⟩
      rw [eqv_self (ints_shaped _)]
      refine iteF ?_
      -- dearer
      have sBK2 := sBG.trans sGK2
      refine ⟨_, rfl, _, rfl, _, rfl, _, rfl, d, l, sd, names, Ad, T, many.toNat, id, 0, fac, rfl, R.same sBK2, sBK2 _ _ hl, sBK2 _ _ hsB, (by omega), hnd, (fun z hz => hnm z hz), (by rw [List.map_id]; exact hnd), G5, (by omega), bfac, bd5, fun dd T3' W3 HO hW3 hc3 hR3 sO => ?_⟩
      have e3 : evQ W3 now (bq m) = (mvQ 0 fac m (evQ W now m).1, (evQ W now m).2) := by
        have := evQ_mv (mvW_of G5 hR0 hR3 hc3) (now := now) I6
        rw [Int.add_zero, renQ_id] at this
        rw [ev_bq, this]
      have sGO := sGK2.trans sO
      have hWb : ∀ z, (W z).length ≤ 400 ∧ ∀ t ∈ W z, Bd t.2.2 := fun z => by
        by_cases hz : z ∈ names
        · obtain ⟨a1, _⟩ := hRW.1 z hz
          exact ⟨by rw [a1.length_eq]; exact few z hz, fun t ht => bd5 z t (a1.mem_iff.mp ht)⟩
        · rw [hRW.2 z hz]
          exact ⟨by simp, fun t ht => nomatch ht⟩
      refine ⟨_, rfl, fun σ H5 => σ = [some (.ref a), some (.ref p), some (.ref l), some (.ref d), some (.ref em), some (.int now), some (.int far), some (.int fac), some (.ref sd), some (.ref nd), x10, some (.ref wd), some (.ref qa), some (oV (evQ W now m).1), some (.ref la), some (.bl (!m.isAm)), some (.ref fd), some (oV (mvQ 0 fac m (evQ W now m).1)), some (.ref od), some (.ref qb), some (.ref dd), none, none, none, none] ∧ Same HO H5, ?_, ?_⟩
      · rw [mvQ_0f]
        refine ⟨_, rfl, _, _, _, _, rfl, rfl, SqT.of (sGO _ _ hx), at0, (by show 2 ≤ sizeLine; decide), fun l3 hl3 => ⟨l3, _, rfl, .inl (SqL.of upd_same), rfl, rfl, _, rfl, ?_⟩⟩
        have s3 : Same HO (upd HO l3 (.lst [.str "number", .str "total"])) := sameAt (Same.refl HO) hl3
        rw [hNT]
        cases hm : m.isNT with
        | false => exact ite2 (fun c => absurd (show false = true from c) (by decide)) (fun _ => ⟨rfl, s3⟩)
        | true =>
          refine ite2 (fun _ => ?_) (fun c => absurd rfl c)
          refine ⟨_, rfl, rfl, _, rfl, ?_⟩
          cases ha : (evQ W now m).1 with
          | none => exact ite2 (fun c => absurd (show (!decide (V.non = V.non)) = true from c) (by decide)) (fun _ => ⟨rfl, s3⟩)
          | some i => exact ite2 (fun _ => ⟨_, rfl, _, rfl, _, _, rfl, rfl, mulW_of (evQ_bd hWb hm ha) bfac, rfl, s3⟩) (fun c => absurd rfl c)
      rintro σ HP ⟨rfl, sP⟩
      have sGP := sGO.trans sP
      refine ⟨_, rfl, _, rfl, _, rfl, qa, dd, bq m, W3, now, rfl, hQG.same sGP, (hW3.same sP), bq_nm hN, bq_fit hF, fun HJ3 sJ3 => ⟨_, rfl, scal_oV, _, rfl, ?_⟩⟩
      rw [e3]
      refine ite2 (fun c => absurd (show (!decide (oV _ = oV _)) = true from c) (by rw [decide_eq_true rfl]; decide)) (fun _ => ?_)
      refine ⟨_, rfl, _, rfl, _, rfl, qa, dd, bq m, W3, now, rfl, (hQG.same sGP).same sJ3, ((hW3.same sP)).same sJ3, bq_nm hN, bq_fit hF, fun lb3 zs3 HK3 sK3 hlb03 hlb3 hasc3 _ hmem3 => ?_⟩
      rw [e3] at hmem3
      have sGK3 := (sGP).trans (sJ3.trans sK3)
      have ey3 : zs3 = ys := asc_same hasc3 hasc fun z => (hmem3 z).trans (hmem z).symm
      rw [ey3] at hlb3
      refine ⟨_, rfl, _, _, .lst (SqL.of hlb3) (dp_ints _), .lst (SqL.of (sGK3 _ _ hla)) (dp_ints _), ints_shaped _, ints_shaped _, _, rfl, ?_⟩
      rw [eqv_self (ints_shaped _)]
      refine iteF ?_
      refine ⟨_, rfl, _, rfl, ?_⟩
      cases m with
      | am m' => exact iteT (q _)
      | tm t =>
        refine iteF ?_
        have sBQ := sBG.trans sGK3
        have hMt : MdAt HB em t := hM
        have hN' : t.NmS := hN
        have hF' : t.Fit := hF
        have I' : t.InS names := I6
        have hd' : t.dep ≤ ((12 : Nat) : Int) := hdep
        refine ⟨_, rfl, em, t, rfl, hMt.tk (fun t xs h => sBQ _ _ h), hd', fun em3 HQ hM3 sQ => ⟨em3, .tm (trT t), rfl, hM3, trT_nm hN', trT_fit hF', fun qc HR hQ3 sR => ?_⟩⟩
        have sBR := sBQ.trans (sQ.trans sR)
        refine ⟨_, rfl, _, rfl, d, l, names, Ad, T, many.toNat, rfl, R.same sBR, sBR _ _ hl, (by omega), hnd, hnm, G5, (by omega), (fun i hi => by have := up5 i hi; omega), fun od2 T4 W4 HS hW4 hc4 hR4 sS => ?_⟩
        have e4 : evQ W4 (-now) (bq (.tm (trT t))) = ngR (ev W now t) := by
          rw [ev_bq]
          exact ev_ng (ngW_of G5 hR0 hR4 hc4) I'
        have hQ3S := hQ3.same sS
        have nm4 : (bq (.tm (trT t))).NmS := bq_nm (q := .tm (trT t)) (trT_nm hN')
        have ft4 : (bq (.tm (trT t))).Fit := bq_fit (q := .tm (trT t)) (trT_fit hF')
        refine ⟨_, rfl, _, rfl, _, rfl, _, rfl, qc, od2, bq (.tm (trT t)), W4, -now, rfl, hQ3S, hW4, nm4, ft4, fun HT sT => ?_⟩
        rw [e4]
        have sST := sT
        have sGT := sGK3.trans (sQ.trans (sR.trans (sS.trans sT)))
        have hmem' : ∀ z, z ∈ ys ↔ z ∈ (ev W now t).2 := hmem
        have hev : (evQ W now (.tm t)).1 = (ev W now t).1 := rfl
        rw [hev]
        generalize ev W now t = r at e4 hmem' ⊢
        obtain ⟨r1, r2⟩ := r
        cases r1 with
        | none =>
          refine ⟨_, rfl, rfl, _, rfl, rfl, rfl, _, rfl, iteF ⟨_, rfl, rfl, _, rfl, iteF ?_⟩⟩
          refine iteF ?_
          refine ⟨_, rfl, _, rfl, _, rfl, _, rfl, qc, od2, bq (.tm (trT t)), W4, -now, rfl, hQ3S.same sT, hW4.same sT, nm4, ft4, fun lc zs HU sU hlc0 hlc hascc _ hmemc => ?_⟩
          rw [e4] at hmemc
          have sGU := sGT.trans sU
          have hlaU := sGU _ _ hla
          refine ⟨_, rfl, la, rfl, ⟨_, SqL.of hlaU⟩, fun D hD => lc_it (walk_list (xs := ys.map V.int)) (fun i H7 => H7 D = some (.lst (((ys.take i).map (1000 - ·)).map V.int)) ∧ Same HU H7) ⟨upd_same, sameAt (Same.refl HU) hD⟩ (fun i H7 _ hv => SqL.of (hv.2 _ _ hlaU)) ?_ ?_⟩
          · rintro j x H7 H8 hj ⟨hD7, s7⟩ ⟨rfl, hx⟩
            rw [List.length_map] at hj
            rw [List.getElem?_map, List.getElem?_eq_getElem hj] at hx
            cases hx
            refine ⟨rfl, _, rfl, _, _, rfl, rfl, _, hD7, ?_, ?_, sameAt s7 hD⟩
            · rw [List.length_map, List.length_map, List.length_take]
              exact small1000 (by omega)
            · rw [upd_same, list_take (List.getElem?_eq_getElem hj), List.map_append, List.map_append]
              rfl
          rintro H7 ⟨hD7, s7⟩
          rw [List.length_map, List.take_length] at hD7
          refine ⟨D, ys.map (1000 - ·), rfl, SqL.of hD7, fun ns' p7 hperm hsort hp7 => ?_⟩
          have nd7 : (ys.map (1000 - ·)).Nodup := List.pairwise_map.mpr (hasc.imp fun {a b} h => by omega)
          have asc7 : ns'.Pairwise (· < ·) := ((hsort.and (hperm.symm.nodup nd7))).imp fun {a b} ⟨h1, h2⟩ => by omega
          have ez : zs = ns' := asc_same hascc asc7 fun z => by
            rw [hmemc z, hperm.mem_iff]
            show z ∈ r2.map (1000 - ·) ↔ _
            rw [List.mem_map, List.mem_map]
            exact ⟨fun ⟨y, hy, e⟩ => ⟨y, (hmem' y).mpr hy, e⟩, fun ⟨y, hy, e⟩ => ⟨y, (hmem' y).mp hy, e⟩⟩
          refine ⟨_, _, .lst (SqL.of ((s7.trans (sameAt (Same.refl H7) hp7)) _ _ hlc)) (dp_ints zs), .lst (SqL.of upd_same) (dp_ints ns'), ints_shaped _, ints_shaped _, ?_⟩
          rw [ez, eqv_self (ints_shaped _)]
          exact q _
        | some i =>
          refine ⟨_, rfl, rfl, _, rfl, rfl, rfl, _, rfl, iteF ⟨_, rfl, rfl, _, rfl, iteT ⟨_, rfl, _, rfl, _, rfl, rfl, _, rfl, ?_⟩⟩⟩
          refine ite2 (fun c => absurd (show (!decide (V.int (-i) = V.int (-i))) = true from c) (by rw [decide_eq_true rfl]; decide)) (fun _ => ?_)
          refine ⟨_, rfl, _, rfl, _, rfl, _, rfl, qc, od2, bq (.tm (trT t)), W4, -now, rfl, hQ3S.same sT, hW4.same sT, nm4, ft4, fun lc zs HU sU hlc0 hlc hascc _ hmemc => ?_⟩
          rw [e4] at hmemc
          have sGU := sGT.trans sU
          have hlaU := sGU _ _ hla
          refine ⟨_, rfl, la, rfl, ⟨_, SqL.of hlaU⟩, fun D hD => lc_it (walk_list (xs := ys.map V.int)) (fun i H7 => H7 D = some (.lst (((ys.take i).map (1000 - ·)).map V.int)) ∧ Same HU H7) ⟨upd_same, sameAt (Same.refl HU) hD⟩ (fun i H7 _ hv => SqL.of (hv.2 _ _ hlaU)) ?_ ?_⟩
          · rintro j x H7 H8 hj ⟨hD7, s7⟩ ⟨rfl, hx⟩
            rw [List.length_map] at hj
            rw [List.getElem?_map, List.getElem?_eq_getElem hj] at hx
            cases hx
            refine ⟨rfl, _, rfl, _, _, rfl, rfl, _, hD7, ?_, ?_, sameAt s7 hD⟩
            · rw [List.length_map, List.length_map, List.length_take]
              exact small1000 (by omega)
            · rw [upd_same, list_take (List.getElem?_eq_getElem hj), List.map_append, List.map_append]
              rfl
          rintro H7 ⟨hD7, s7⟩
          rw [List.length_map, List.take_length] at hD7
          refine ⟨D, ys.map (1000 - ·), rfl, SqL.of hD7, fun ns' p7 hperm hsort hp7 => ?_⟩
          have nd7 : (ys.map (1000 - ·)).Nodup := List.pairwise_map.mpr (hasc.imp fun {a b} h => by omega)
          have asc7 : ns'.Pairwise (· < ·) := ((hsort.and (hperm.symm.nodup nd7))).imp fun {a b} ⟨h1, h2⟩ => by omega
          have ez : zs = ns' := asc_same hascc asc7 fun z => by
            rw [hmemc z, hperm.mem_iff]
            show z ∈ r2.map (1000 - ·) ↔ _
            rw [List.mem_map, List.mem_map]
            exact ⟨fun ⟨y, hy, e⟩ => ⟨y, (hmem' y).mpr hy, e⟩, fun ⟨y, hy, e⟩ => ⟨y, (hmem' y).mp hy, e⟩⟩
          refine ⟨_, _, .lst (SqL.of ((s7.trans (sameAt (Same.refl H7) hp7)) _ _ hlc)) (dp_ints zs), .lst (SqL.of upd_same) (dp_ints ns'), ints_shaped _, ints_shaped _, ?_⟩
          rw [ez, eqv_self (ints_shaped _)]
          exact q _
end
end Ash

set_option Elab.async false
set_option linter.all false
set_option maxRecDepth 100000
set_option maxHeartbeats 4000000
namespace Ash
open PySem PySem.Spec PyProof.Rows L2
/-! ### the facts of the seven classes, put together -/
theorem is7 {C : TC} {p : Addr → Prop} (h1 : p C.now) (h2 : p C.last) (h3 : p C.next) (h4 : p C.shift) (h5 : p C.either) (h6 : p C.later) (h7 : p C.earlier) : ∀ a, C.Is a → p a := fun a ha => by
  rcases ha with rfl | rfl | rfl | rfl | rfl | rfl | rfl
  · exact h1
  · exact h2
  · exact h3
  · exact h4
  · exact h5
  · exact h6
  · exact h7
theorem na10 {K : PySem.W.Frag} {a : Addr} (h1 : NoAttr K a "stream") (h2 : NoAttr K a "term") (h3 : NoAttr K a "first") (h4 : NoAttr K a "second") (h5 : NoAttr K a "amount") (h6 : NoAttr K a "spelling") (h7 : NoAttr K a "depth") (h8 : NoAttr K a "parts") (h9 : NoAttr K a "looks") (h10 : NoAttr K a "choices") : ∀ f ∈ ATTRS, NoAttr K a f := fun f hf => by
  simp only [ATTRS, List.mem_cons, List.not_mem_nil, or_false] at hf
  rcases hf with rfl | rfl | rfl | rfl | rfl | rfl | rfl | rfl | rfl | rfl
  · exact h1
  · exact h2
  · exact h3
  · exact h4
  · exact h5
  · exact h6
  · exact h7
  · exact h8
  · exact h9
  · exact h10
theorem kit_me {K : PySem.W.Frag} {a : Addr} : PySem.W.kitOne K (.ref a) (.ref a) = some (decide (a = a)) := by
  unfold PySem.W.kitOne
  simp
theorem ne_sub {K : PySem.W.Frag} {a b : Addr} (h1 : PySem.W.subIn K (.ref a) (.ref a) = some true) (h2 : PySem.W.subIn K (.ref a) (.ref b) = some false) : a ≠ b := fun e => by
  rw [← e, h1] at h2
  cases h2
theorem kit_no {K : PySem.W.Frag} {a b : Addr} (n : a ≠ b) (h2 : PySem.W.isClsIn K b = true) (h3 : PySem.W.typeIn K (.ref b) = some (.type "type")) (h4 : PySem.W.subIn K (.ref a) (.ref b) = some false) : PySem.W.kitOne K (.ref a) (.ref b) = some (decide (a = b)) := by
  have h2' : (PySem.W.clsIn K b).isSome = true := h2
  rw [decide_eq_false n]
  simp [PySem.W.kitOne, PySem.W.kitCls, n, h2', h3, h4]
theorem is4 {A : AC} {p : Addr → Prop} (h1 : p A.number) (h2 : p A.count) (h3 : p A.total) (h4 : p A.gap) : ∀ a, A.Is a → p a := fun a ha => by
  rcases ha with rfl | rfl | rfl | rfl
  · exact h1
  · exact h2
  · exact h3
  · exact h4
theorem na5 {K : PySem.W.Frag} {a : Addr} (h1 : NoAttr K a "stream") (h2 : NoAttr K a "term") (h3 : NoAttr K a "first") (h4 : NoAttr K a "last") (h5 : NoAttr K a "spelling") : ∀ f ∈ AATTRS, NoAttr K a f := fun f hf => by
  simp only [AATTRS, List.mem_cons, List.not_mem_nil, or_false] at hf
  rcases hf with rfl | rfl | rfl | rfl | rfl
  · exact h1
  · exact h2
  · exact h3
  · exact h4
  · exact h5
theorem kit_no0 {K : PySem.W.Frag} {a b : Addr} (n : a ≠ b) (h2 : PySem.W.isClsIn K b = true) (h3 : PySem.W.typeIn K (.ref b) = some (.type "type")) (h4 : PySem.W.subIn K (.ref a) (.ref b) = some false) : PySem.W.kitOne K (.ref a) (.ref b) = some false := by
  have h := kit_no n h2 h3 h4
  rw [decide_eq_false n] at h
  exact h
example : PySem.dunder (Operator.info .BitOr).2 = "__or__" := by rfl
example : dunderR (Operator.info .BitOr).2 = "__ror__" := by rfl
example : PySem.dunder (Operator.info .Sub).2 = "__sub__" := by rfl
example : PySem.dunder (Operator.info .Add).2 = "__add__" := by rfl
example : dunderR (Operator.info .Add).2 = "__radd__" := by rfl
end Ash

set_option Elab.async false
set_option linter.all false
set_option maxRecDepth 100000
set_option maxHeartbeats 4000000
namespace Ash
open PySem PySem.Spec PyProof.Rows L2
section
variable {P : Program} {w : World} {K : PySem.W.Frag} {mg : Str → Option Value} {base : Heap}
theorem all_ok {CW cA cB cC cD cE cF cG aA aB aC aD fadd fior flat fear : Addr}
    (B : Blt mg)
    (Cs : Cst mg)
    (TW : Cw K mg CW)
    (wi : BkI K CW)
    (mkW : PySem.W.makesIn K CW = true)
    (kW : PySem.W.keepIn K (.ref CW) = true)
    (nm0 : mg "Now" = some (.ref cA))
    (cl0 : Cls K cA)
    (b0 : BkI K cA)
    (ic0 : PySem.W.isClsIn K cA = true)
    (ti0 : PySem.W.typeIn K (.ref cA) = some (.type "type"))
    (sf0 : PySem.W.selfFirst K cA = true)
    (at0 : PySem.W.findIn K (.ref cA) "__add__" = some (some (.ref fadd)))
    (rt0 : PySem.W.findIn K (.ref cA) "__radd__" = some none)
    (si0 : PySem.W.subIn K (.type "int") (.ref cA) = some false)
    (or0 : PySem.W.findIn K (.ref cA) "__or__" = some (some (.ref fior)))
    (ro0 : PySem.W.findIn K (.ref cA) "__ror__" = some none)
    (la0 : PySem.W.findIn K (.ref cA) "later" = some (some (.ref flat)))
    (ea0 : PySem.W.findIn K (.ref cA) "earlier" = some (some (.ref fear)))
    (n0_0 : NoAttr K cA "stream")
    (n0_1 : NoAttr K cA "term")
    (n0_2 : NoAttr K cA "first")
    (n0_3 : NoAttr K cA "second")
    (n0_4 : NoAttr K cA "amount")
    (n0_5 : NoAttr K cA "spelling")
    (n0_6 : NoAttr K cA "depth")
    (n0_7 : NoAttr K cA "parts")
    (n0_8 : NoAttr K cA "looks")
    (n0_9 : NoAttr K cA "choices")
    (s0_0 : PySem.W.subIn K (.ref cA) (.ref cA) = some true)
    (s0_1 : PySem.W.subIn K (.ref cA) (.ref cB) = some false)
    (s0_2 : PySem.W.subIn K (.ref cA) (.ref cC) = some false)
    (s0_3 : PySem.W.subIn K (.ref cA) (.ref cD) = some false)
    (s0_4 : PySem.W.subIn K (.ref cA) (.ref cE) = some false)
    (s0_5 : PySem.W.subIn K (.ref cA) (.ref cF) = some false)
    (s0_6 : PySem.W.subIn K (.ref cA) (.ref cG) = some false)
    (nm1 : mg "Last" = some (.ref cB))
    (cl1 : Cls K cB)
    (b1 : BkI K cB)
    (ic1 : PySem.W.isClsIn K cB = true)
    (ti1 : PySem.W.typeIn K (.ref cB) = some (.type "type"))
    (sf1 : PySem.W.selfFirst K cB = true)
    (at1 : PySem.W.findIn K (.ref cB) "__add__" = some (some (.ref fadd)))
    (rt1 : PySem.W.findIn K (.ref cB) "__radd__" = some none)
    (si1 : PySem.W.subIn K (.type "int") (.ref cB) = some false)
    (or1 : PySem.W.findIn K (.ref cB) "__or__" = some (some (.ref fior)))
    (ro1 : PySem.W.findIn K (.ref cB) "__ror__" = some none)
    (la1 : PySem.W.findIn K (.ref cB) "later" = some (some (.ref flat)))
    (ea1 : PySem.W.findIn K (.ref cB) "earlier" = some (some (.ref fear)))
    (n1_0 : NoAttr K cB "stream")
    (n1_1 : NoAttr K cB "term")
    (n1_2 : NoAttr K cB "first")
    (n1_3 : NoAttr K cB "second")
    (n1_4 : NoAttr K cB "amount")
    (n1_5 : NoAttr K cB "spelling")
    (n1_6 : NoAttr K cB "depth")
    (n1_7 : NoAttr K cB "parts")
    (n1_8 : NoAttr K cB "looks")
    (n1_9 : NoAttr K cB "choices")
    (s1_0 : PySem.W.subIn K (.ref cB) (.ref cA) = some false)
    (s1_1 : PySem.W.subIn K (.ref cB) (.ref cB) = some true)
    (s1_2 : PySem.W.subIn K (.ref cB) (.ref cC) = some false)
    (s1_3 : PySem.W.subIn K (.ref cB) (.ref cD) = some false)
    (s1_4 : PySem.W.subIn K (.ref cB) (.ref cE) = some false)
    (s1_5 : PySem.W.subIn K (.ref cB) (.ref cF) = some false)
    (s1_6 : PySem.W.subIn K (.ref cB) (.ref cG) = some false)
    (nm2 : mg "Next" = some (.ref cC))
    (cl2 : Cls K cC)
    (b2 : BkI K cC)
    (ic2 : PySem.W.isClsIn K cC = true)
    (ti2 : PySem.W.typeIn K (.ref cC) = some (.type "type"))
    (sf2 : PySem.W.selfFirst K cC = true)
    (at2 : PySem.W.findIn K (.ref cC) "__add__" = some (some (.ref fadd)))
    (rt2 : PySem.W.findIn K (.ref cC) "__radd__" = some none)
    (si2 : PySem.W.subIn K (.type "int") (.ref cC) = some false)
    (or2 : PySem.W.findIn K (.ref cC) "__or__" = some (some (.ref fior)))
    (ro2 : PySem.W.findIn K (.ref cC) "__ror__" = some none)
    (la2 : PySem.W.findIn K (.ref cC) "later" = some (some (.ref flat)))
    (ea2 : PySem.W.findIn K (.ref cC) "earlier" = some (some (.ref fear)))
    (n2_0 : NoAttr K cC "stream")
    (n2_1 : NoAttr K cC "term")
    (n2_2 : NoAttr K cC "first")
    (n2_3 : NoAttr K cC "second")
    (n2_4 : NoAttr K cC "amount")
    (n2_5 : NoAttr K cC "spelling")
    (n2_6 : NoAttr K cC "depth")
    (n2_7 : NoAttr K cC "parts")
    (n2_8 : NoAttr K cC "looks")
    (n2_9 : NoAttr K cC "choices")
    (s2_0 : PySem.W.subIn K (.ref cC) (.ref cA) = some false)
    (s2_1 : PySem.W.subIn K (.ref cC) (.ref cB) = some false)
    (s2_2 : PySem.W.subIn K (.ref cC) (.ref cC) = some true)
    (s2_3 : PySem.W.subIn K (.ref cC) (.ref cD) = some false)
    (s2_4 : PySem.W.subIn K (.ref cC) (.ref cE) = some false)
    (s2_5 : PySem.W.subIn K (.ref cC) (.ref cF) = some false)
    (s2_6 : PySem.W.subIn K (.ref cC) (.ref cG) = some false)
    (nm3 : mg "Shift" = some (.ref cD))
    (cl3 : Cls K cD)
    (b3 : BkI K cD)
    (ic3 : PySem.W.isClsIn K cD = true)
    (ti3 : PySem.W.typeIn K (.ref cD) = some (.type "type"))
    (sf3 : PySem.W.selfFirst K cD = true)
    (at3 : PySem.W.findIn K (.ref cD) "__add__" = some (some (.ref fadd)))
    (rt3 : PySem.W.findIn K (.ref cD) "__radd__" = some none)
    (si3 : PySem.W.subIn K (.type "int") (.ref cD) = some false)
    (or3 : PySem.W.findIn K (.ref cD) "__or__" = some (some (.ref fior)))
    (ro3 : PySem.W.findIn K (.ref cD) "__ror__" = some none)
    (la3 : PySem.W.findIn K (.ref cD) "later" = some (some (.ref flat)))
    (ea3 : PySem.W.findIn K (.ref cD) "earlier" = some (some (.ref fear)))
    (n3_0 : NoAttr K cD "stream")
    (n3_1 : NoAttr K cD "term")
    (n3_2 : NoAttr K cD "first")
    (n3_3 : NoAttr K cD "second")
    (n3_4 : NoAttr K cD "amount")
    (n3_5 : NoAttr K cD "spelling")
    (n3_6 : NoAttr K cD "depth")
    (n3_7 : NoAttr K cD "parts")
    (n3_8 : NoAttr K cD "looks")
    (n3_9 : NoAttr K cD "choices")
    (s3_0 : PySem.W.subIn K (.ref cD) (.ref cA) = some false)
    (s3_1 : PySem.W.subIn K (.ref cD) (.ref cB) = some false)
    (s3_2 : PySem.W.subIn K (.ref cD) (.ref cC) = some false)
    (s3_3 : PySem.W.subIn K (.ref cD) (.ref cD) = some true)
    (s3_4 : PySem.W.subIn K (.ref cD) (.ref cE) = some false)
    (s3_5 : PySem.W.subIn K (.ref cD) (.ref cF) = some false)
    (s3_6 : PySem.W.subIn K (.ref cD) (.ref cG) = some false)
    (nm4 : mg "Either" = some (.ref cE))
    (cl4 : Cls K cE)
    (b4 : BkI K cE)
    (ic4 : PySem.W.isClsIn K cE = true)
    (ti4 : PySem.W.typeIn K (.ref cE) = some (.type "type"))
    (sf4 : PySem.W.selfFirst K cE = true)
    (at4 : PySem.W.findIn K (.ref cE) "__add__" = some (some (.ref fadd)))
    (rt4 : PySem.W.findIn K (.ref cE) "__radd__" = some none)
    (si4 : PySem.W.subIn K (.type "int") (.ref cE) = some false)
    (or4 : PySem.W.findIn K (.ref cE) "__or__" = some (some (.ref fior)))
    (ro4 : PySem.W.findIn K (.ref cE) "__ror__" = some none)
    (la4 : PySem.W.findIn K (.ref cE) "later" = some (some (.ref flat)))
    (ea4 : PySem.W.findIn K (.ref cE) "earlier" = some (some (.ref fear)))
    (n4_0 : NoAttr K cE "stream")
    (n4_1 : NoAttr K cE "term")
    (n4_2 : NoAttr K cE "first")
    (n4_3 : NoAttr K cE "second")
    (n4_4 : NoAttr K cE "amount")
    (n4_5 : NoAttr K cE "spelling")
    (n4_6 : NoAttr K cE "depth")
    (n4_7 : NoAttr K cE "parts")
    (n4_8 : NoAttr K cE "looks")
    (n4_9 : NoAttr K cE "choices")
    (s4_0 : PySem.W.subIn K (.ref cE) (.ref cA) = some false)
    (s4_1 : PySem.W.subIn K (.ref cE) (.ref cB) = some false)
    (s4_2 : PySem.W.subIn K (.ref cE) (.ref cC) = some false)
    (s4_3 : PySem.W.subIn K (.ref cE) (.ref cD) = some false)
    (s4_4 : PySem.W.subIn K (.ref cE) (.ref cE) = some true)
    (s4_5 : PySem.W.subIn K (.ref cE) (.ref cF) = some false)
    (s4_6 : PySem.W.subIn K (.ref cE) (.ref cG) = some false)
    (nm5 : mg "Later" = some (.ref cF))
    (cl5 : Cls K cF)
    (b5 : BkI K cF)
    (ic5 : PySem.W.isClsIn K cF = true)
    (ti5 : PySem.W.typeIn K (.ref cF) = some (.type "type"))
    (sf5 : PySem.W.selfFirst K cF = true)
    (at5 : PySem.W.findIn K (.ref cF) "__add__" = some (some (.ref fadd)))
    (rt5 : PySem.W.findIn K (.ref cF) "__radd__" = some none)
    (si5 : PySem.W.subIn K (.type "int") (.ref cF) = some false)
    (or5 : PySem.W.findIn K (.ref cF) "__or__" = some (some (.ref fior)))
    (ro5 : PySem.W.findIn K (.ref cF) "__ror__" = some none)
    (la5 : PySem.W.findIn K (.ref cF) "later" = some (some (.ref flat)))
    (ea5 : PySem.W.findIn K (.ref cF) "earlier" = some (some (.ref fear)))
    (n5_0 : NoAttr K cF "stream")
    (n5_1 : NoAttr K cF "term")
    (n5_2 : NoAttr K cF "first")
    (n5_3 : NoAttr K cF "second")
    (n5_4 : NoAttr K cF "amount")
    (n5_5 : NoAttr K cF "spelling")
    (n5_6 : NoAttr K cF "depth")
    (n5_7 : NoAttr K cF "parts")
    (n5_8 : NoAttr K cF "looks")
    (n5_9 : NoAttr K cF "choices")
    (s5_0 : PySem.W.subIn K (.ref cF) (.ref cA) = some false)
    (s5_1 : PySem.W.subIn K (.ref cF) (.ref cB) = some false)
    (s5_2 : PySem.W.subIn K (.ref cF) (.ref cC) = some false)
    (s5_3 : PySem.W.subIn K (.ref cF) (.ref cD) = some false)
    (s5_4 : PySem.W.subIn K (.ref cF) (.ref cE) = some false)
    (s5_5 : PySem.W.subIn K (.ref cF) (.ref cF) = some true)
    (s5_6 : PySem.W.subIn K (.ref cF) (.ref cG) = some false)
    (nm6 : mg "Earlier" = some (.ref cG))
    (cl6 : Cls K cG)
    (b6 : BkI K cG)
    (ic6 : PySem.W.isClsIn K cG = true)
    (ti6 : PySem.W.typeIn K (.ref cG) = some (.type "type"))
    (sf6 : PySem.W.selfFirst K cG = true)
    (at6 : PySem.W.findIn K (.ref cG) "__add__" = some (some (.ref fadd)))
    (rt6 : PySem.W.findIn K (.ref cG) "__radd__" = some none)
    (si6 : PySem.W.subIn K (.type "int") (.ref cG) = some false)
    (or6 : PySem.W.findIn K (.ref cG) "__or__" = some (some (.ref fior)))
    (ro6 : PySem.W.findIn K (.ref cG) "__ror__" = some none)
    (la6 : PySem.W.findIn K (.ref cG) "later" = some (some (.ref flat)))
    (ea6 : PySem.W.findIn K (.ref cG) "earlier" = some (some (.ref fear)))
    (n6_0 : NoAttr K cG "stream")
    (n6_1 : NoAttr K cG "term")
    (n6_2 : NoAttr K cG "first")
    (n6_3 : NoAttr K cG "second")
    (n6_4 : NoAttr K cG "amount")
    (n6_5 : NoAttr K cG "spelling")
    (n6_6 : NoAttr K cG "depth")
    (n6_7 : NoAttr K cG "parts")
    (n6_8 : NoAttr K cG "looks")
    (n6_9 : NoAttr K cG "choices")
    (s6_0 : PySem.W.subIn K (.ref cG) (.ref cA) = some false)
    (s6_1 : PySem.W.subIn K (.ref cG) (.ref cB) = some false)
    (s6_2 : PySem.W.subIn K (.ref cG) (.ref cC) = some false)
    (s6_3 : PySem.W.subIn K (.ref cG) (.ref cD) = some false)
    (s6_4 : PySem.W.subIn K (.ref cG) (.ref cE) = some false)
    (s6_5 : PySem.W.subIn K (.ref cG) (.ref cF) = some false)
    (s6_6 : PySem.W.subIn K (.ref cG) (.ref cG) = some true)
    (mk0 : PySem.W.makesIn K cA = true)
    (kp0 : PySem.W.keepIn K (.ref cA) = true)
    (mk1 : PySem.W.makesIn K cB = true)
    (kp1 : PySem.W.keepIn K (.ref cB) = true)
    (mk2 : PySem.W.makesIn K cC = true)
    (kp2 : PySem.W.keepIn K (.ref cC) = true)
    (mk3 : PySem.W.makesIn K cD = true)
    (kp3 : PySem.W.keepIn K (.ref cD) = true)
    (mk4 : PySem.W.makesIn K cE = true)
    (kp4 : PySem.W.keepIn K (.ref cE) = true)
    (mk5 : PySem.W.makesIn K cF = true)
    (kp5 : PySem.W.keepIn K (.ref cF) = true)
    (mk6 : PySem.W.makesIn K cG = true)
    (kp6 : PySem.W.keepIn K (.ref cG) = true)
    (i1 : PySem.W.findIn K (.type "int") "__add__" = some (some (.builtin "int.__add__")))
    (i2 : PySem.W.findIn K (.type "int") "__radd__" = some (some (.builtin "int.__radd__")))
    (anm0 : mg "Number" = some (.ref aA))
    (acl0 : Cls K aA)
    (ab0 : BkI K aA)
    (aic0 : PySem.W.isClsIn K aA = true)
    (ati0 : PySem.W.typeIn K (.ref aA) = some (.type "type"))
    (an0_0 : NoAttr K aA "stream")
    (an0_1 : NoAttr K aA "term")
    (an0_2 : NoAttr K aA "first")
    (an0_3 : NoAttr K aA "last")
    (an0_4 : NoAttr K aA "spelling")
    (as0_0 : PySem.W.subIn K (.ref aA) (.ref aA) = some true)
    (as0_1 : PySem.W.subIn K (.ref aA) (.ref aB) = some false)
    (as0_2 : PySem.W.subIn K (.ref aA) (.ref aC) = some false)
    (as0_3 : PySem.W.subIn K (.ref aA) (.ref aD) = some false)
    (at0_0 : PySem.W.subIn K (.ref aA) (.ref cA) = some false)
    (at0_1 : PySem.W.subIn K (.ref aA) (.ref cB) = some false)
    (at0_2 : PySem.W.subIn K (.ref aA) (.ref cC) = some false)
    (at0_3 : PySem.W.subIn K (.ref aA) (.ref cD) = some false)
    (at0_4 : PySem.W.subIn K (.ref aA) (.ref cE) = some false)
    (at0_5 : PySem.W.subIn K (.ref aA) (.ref cF) = some false)
    (at0_6 : PySem.W.subIn K (.ref aA) (.ref cG) = some false)
    (amk0 : PySem.W.makesIn K aA = true)
    (akp0 : PySem.W.keepIn K (.ref aA) = true)
    (anm1 : mg "Count" = some (.ref aB))
    (acl1 : Cls K aB)
    (ab1 : BkI K aB)
    (aic1 : PySem.W.isClsIn K aB = true)
    (ati1 : PySem.W.typeIn K (.ref aB) = some (.type "type"))
    (an1_0 : NoAttr K aB "stream")
    (an1_1 : NoAttr K aB "term")
    (an1_2 : NoAttr K aB "first")
    (an1_3 : NoAttr K aB "last")
    (an1_4 : NoAttr K aB "spelling")
    (as1_0 : PySem.W.subIn K (.ref aB) (.ref aA) = some false)
    (as1_1 : PySem.W.subIn K (.ref aB) (.ref aB) = some true)
    (as1_2 : PySem.W.subIn K (.ref aB) (.ref aC) = some false)
    (as1_3 : PySem.W.subIn K (.ref aB) (.ref aD) = some false)
    (at1_0 : PySem.W.subIn K (.ref aB) (.ref cA) = some false)
    (at1_1 : PySem.W.subIn K (.ref aB) (.ref cB) = some false)
    (at1_2 : PySem.W.subIn K (.ref aB) (.ref cC) = some false)
    (at1_3 : PySem.W.subIn K (.ref aB) (.ref cD) = some false)
    (at1_4 : PySem.W.subIn K (.ref aB) (.ref cE) = some false)
    (at1_5 : PySem.W.subIn K (.ref aB) (.ref cF) = some false)
    (at1_6 : PySem.W.subIn K (.ref aB) (.ref cG) = some false)
    (amk1 : PySem.W.makesIn K aB = true)
    (akp1 : PySem.W.keepIn K (.ref aB) = true)
    (anm2 : mg "Total" = some (.ref aC))
    (acl2 : Cls K aC)
    (ab2 : BkI K aC)
    (aic2 : PySem.W.isClsIn K aC = true)
    (ati2 : PySem.W.typeIn K (.ref aC) = some (.type "type"))
    (an2_0 : NoAttr K aC "stream")
    (an2_1 : NoAttr K aC "term")
    (an2_2 : NoAttr K aC "first")
    (an2_3 : NoAttr K aC "last")
    (an2_4 : NoAttr K aC "spelling")
    (as2_0 : PySem.W.subIn K (.ref aC) (.ref aA) = some false)
    (as2_1 : PySem.W.subIn K (.ref aC) (.ref aB) = some false)
    (as2_2 : PySem.W.subIn K (.ref aC) (.ref aC) = some true)
    (as2_3 : PySem.W.subIn K (.ref aC) (.ref aD) = some false)
    (at2_0 : PySem.W.subIn K (.ref aC) (.ref cA) = some false)
    (at2_1 : PySem.W.subIn K (.ref aC) (.ref cB) = some false)
    (at2_2 : PySem.W.subIn K (.ref aC) (.ref cC) = some false)
    (at2_3 : PySem.W.subIn K (.ref aC) (.ref cD) = some false)
    (at2_4 : PySem.W.subIn K (.ref aC) (.ref cE) = some false)
    (at2_5 : PySem.W.subIn K (.ref aC) (.ref cF) = some false)
    (at2_6 : PySem.W.subIn K (.ref aC) (.ref cG) = some false)
    (amk2 : PySem.W.makesIn K aC = true)
    (akp2 : PySem.W.keepIn K (.ref aC) = true)
    (anm3 : mg "Gap" = some (.ref aD))
    (acl3 : Cls K aD)
    (ab3 : BkI K aD)
    (aic3 : PySem.W.isClsIn K aD = true)
    (ati3 : PySem.W.typeIn K (.ref aD) = some (.type "type"))
    (an3_0 : NoAttr K aD "stream")
    (an3_1 : NoAttr K aD "term")
    (an3_2 : NoAttr K aD "first")
    (an3_3 : NoAttr K aD "last")
    (an3_4 : NoAttr K aD "spelling")
    (as3_0 : PySem.W.subIn K (.ref aD) (.ref aA) = some false)
    (as3_1 : PySem.W.subIn K (.ref aD) (.ref aB) = some false)
    (as3_2 : PySem.W.subIn K (.ref aD) (.ref aC) = some false)
    (as3_3 : PySem.W.subIn K (.ref aD) (.ref aD) = some true)
    (at3_0 : PySem.W.subIn K (.ref aD) (.ref cA) = some false)
    (at3_1 : PySem.W.subIn K (.ref aD) (.ref cB) = some false)
    (at3_2 : PySem.W.subIn K (.ref aD) (.ref cC) = some false)
    (at3_3 : PySem.W.subIn K (.ref aD) (.ref cD) = some false)
    (at3_4 : PySem.W.subIn K (.ref aD) (.ref cE) = some false)
    (at3_5 : PySem.W.subIn K (.ref aD) (.ref cF) = some false)
    (at3_6 : PySem.W.subIn K (.ref aD) (.ref cG) = some false)
    (amk3 : PySem.W.makesIn K aD = true)
    (akp3 : PySem.W.keepIn K (.ref aD) = true)
    (d_is_integer : D1 K mg "is_integer" s_is_integer)
    (d_is_natural : D1 K mg "is_natural" s_is_natural)
    (d_is_name : D1 K mg "is_name" s_is_name)
    (d_are_integers : D1 K mg "are_integers" s_are_integers)
    (d_is_row : D1 K mg "is_row" s_is_row)
    (d_are_rows : D1 K mg "are_rows" s_are_rows)
    (d_first_twice : D1 K mg "first_twice" s_first_twice)
    (d_is_rows : D1 K mg "is_rows" s_is_rows)
    (d_is_term : D1 K mg "is_term" s_is_term)
    (d_is_look : D1 K mg "is_look" s_is_look)
    (d_checked_stream : D1 K mg "checked_stream" s_checked_stream)
    (d_checked_term : D1 K mg "checked_term" s_checked_term)
    (d_sizes : D1 K mg "sizes" s_sizes)
    (d_shifted : D1 K mg "shifted" s_shifted)
    (d_last_row : D1 K mg "last_row" s_last_row)
    (d_next_row : D1 K mg "next_row" s_next_row)
    (d_moved : D1 K mg "moved" s_moved)
    (d_looked : D1 K mg "looked" s_looked)
    (d_followed_either : D1 K mg "followed_either" s_followed_either)
    (d_followed_both : D1 K mg "followed_both" s_followed_both)
    (d_followed : D1 K mg "followed" s_followed)
    (d_is_amount : D1 K mg "is_amount" s_is_amount)
    (d_told_between : D1 K mg "told_between" s_told_between)
    (d_is_question : D1 K mg "is_question" s_is_question)
    (d_check : D1 K mg "check" s_check)
    (d_answered : D1 K mg "answered" s_answered)
    (d_value : D1 K mg "value" s_value)
    (d__law_pool : D1 K mg "_law_pool" s_l_pool)
    (d__law_draw : D1 K mg "_law_draw" s_l_draw)
    (d__law_names : D1 K mg "_law_names" s_l_names)
    (d__law_moment : D1 K mg "_law_moment" s_l_moment)
    (d__law_rows : D1 K mg "_law_rows" s_l_rows)
    (d__law_term : D1 K mg "_law_term" s_l_term)
    (d__law_built : D1 K mg "_law_built" s_l_built)
    (d_support : D1 K mg "support" s_support)
    (d__law_question : D1 K mg "_law_question" s_l_question)
    (d__law_asked : D1 K mg "_law_asked" s_l_asked)
    (d__law_changed : D1 K mg "_law_changed" s_l_changed)
    (d__law_opposite : D1 K mg "_law_opposite" s_l_opposite)
    (d__law_renamed : D1 K mg "_law_renamed" s_l_renamed)
    (d__law_turned : D1 K mg "_law_turned" s_l_turned)
    (d__law_plus : D1 K mg "_law_plus" s_l_plus)
    (m_WI : DM K CW "__init__" "World.__init__" s_World_init)
    (m_WR : DM K CW "rows" "World.rows" s_World_rows)
    (m_NI : DM K cA "__init__" "Now.__init__" s_Now_init)
    (m_LI : DM K cB "__init__" "Last.__init__" s_Last_init)
    (m_XI : DM K cC "__init__" "Next.__init__" s_Next_init)
    (m_SI : DM K cD "__init__" "Shift.__init__" s_Shift_init)
    (m_EI : DM K cE "__init__" "Either.__init__" s_Either_init)
    (m_JI : DM K cF "__init__" "Later.__init__" s_Later_init)
    (m_KI : DM K cG "__init__" "Earlier.__init__" s_Earlier_init)
    (m_nuI : DM K aA "__init__" "Number.__init__" s_Number_init)
    (m_coI : DM K aB "__init__" "Count.__init__" s_Count_init)
    (m_toI : DM K aC "__init__" "Total.__init__" s_Total_init)
    (m_gaI : DM K aD "__init__" "Gap.__init__" s_Gap_init)
    (m_add : DQ K cA fadd "__add__" "Term.__add__" s_Term_add)
    (m_ior : DQ K cA fior "__or__" "Term.__or__" s_Term_or)
    (m_lat : DQ K cA flat "later" "Term.later" s_Term_later)
    (m_ear : DQ K cA fear "earlier" "Term.earlier" s_Term_earlier)
    {f : Addr} {fd : FuncData} (F_law : Fun K "law" "law" s_law f fd) : FnOk P w K mg base CX0 40 f fd ["script"] (spLaw K) := by
  have TT : TF K mg (⟨cA, cB, cC, cD, cE, cF, cG⟩ : TC) := { cl := is7 (cl0) (cl1) (cl2) (cl3) (cl4) (cl5) (cl6), no := is7 (na10 n0_0 n0_1 n0_2 n0_3 n0_4 n0_5 n0_6 n0_7 n0_8 n0_9) (na10 n1_0 n1_1 n1_2 n1_3 n1_4 n1_5 n1_6 n1_7 n1_8 n1_9) (na10 n2_0 n2_1 n2_2 n2_3 n2_4 n2_5 n2_6 n2_7 n2_8 n2_9) (na10 n3_0 n3_1 n3_2 n3_3 n3_4 n3_5 n3_6 n3_7 n3_8 n3_9) (na10 n4_0 n4_1 n4_2 n4_3 n4_4 n4_5 n4_6 n4_7 n4_8 n4_9) (na10 n5_0 n5_1 n5_2 n5_3 n5_4 n5_5 n5_6 n5_7 n5_8 n5_9) (na10 n6_0 n6_1 n6_2 n6_3 n6_4 n6_5 n6_6 n6_7 n6_8 n6_9), ty := is7 (⟨b0.ha, b0.hn, b0.ht, b0.hm⟩) (⟨b1.ha, b1.hn, b1.ht, b1.hm⟩) (⟨b2.ha, b2.hn, b2.ht, b2.hm⟩) (⟨b3.ha, b3.hn, b3.ht, b3.hm⟩) (⟨b4.ha, b4.hn, b4.ht, b4.hm⟩) (⟨b5.ha, b5.hn, b5.ht, b5.hm⟩) (⟨b6.ha, b6.hn, b6.ht, b6.hm⟩), one := is7 (p := fun a => ∀ b, ((⟨cA, cB, cC, cD, cE, cF, cG⟩ : TC)).Is b → PySem.W.kitOne K (.ref a) (.ref b) = some (decide (a = b))) (is7 (C := (⟨cA, cB, cC, cD, cE, cF, cG⟩ : TC)) (p := fun b => PySem.W.kitOne K (.ref cA) (.ref b) = some (decide (cA = b))) (kit_me) (kit_no (ne_sub s0_0 s0_1) ic1 ti1 s0_1) (kit_no (ne_sub s0_0 s0_2) ic2 ti2 s0_2) (kit_no (ne_sub s0_0 s0_3) ic3 ti3 s0_3) (kit_no (ne_sub s0_0 s0_4) ic4 ti4 s0_4) (kit_no (ne_sub s0_0 s0_5) ic5 ti5 s0_5) (kit_no (ne_sub s0_0 s0_6) ic6 ti6 s0_6)) (is7 (C := (⟨cA, cB, cC, cD, cE, cF, cG⟩ : TC)) (p := fun b => PySem.W.kitOne K (.ref cB) (.ref b) = some (decide (cB = b))) (kit_no (ne_sub s1_1 s1_0) ic0 ti0 s1_0) (kit_me) (kit_no (ne_sub s1_1 s1_2) ic2 ti2 s1_2) (kit_no (ne_sub s1_1 s1_3) ic3 ti3 s1_3) (kit_no (ne_sub s1_1 s1_4) ic4 ti4 s1_4) (kit_no (ne_sub s1_1 s1_5) ic5 ti5 s1_5) (kit_no (ne_sub s1_1 s1_6) ic6 ti6 s1_6)) (is7 (C := (⟨cA, cB, cC, cD, cE, cF, cG⟩ : TC)) (p := fun b => PySem.W.kitOne K (.ref cC) (.ref b) = some (decide (cC = b))) (kit_no (ne_sub s2_2 s2_0) ic0 ti0 s2_0) (kit_no (ne_sub s2_2 s2_1) ic1 ti1 s2_1) (kit_me) (kit_no (ne_sub s2_2 s2_3) ic3 ti3 s2_3) (kit_no (ne_sub s2_2 s2_4) ic4 ti4 s2_4) (kit_no (ne_sub s2_2 s2_5) ic5 ti5 s2_5) (kit_no (ne_sub s2_2 s2_6) ic6 ti6 s2_6)) (is7 (C := (⟨cA, cB, cC, cD, cE, cF, cG⟩ : TC)) (p := fun b => PySem.W.kitOne K (.ref cD) (.ref b) = some (decide (cD = b))) (kit_no (ne_sub s3_3 s3_0) ic0 ti0 s3_0) (kit_no (ne_sub s3_3 s3_1) ic1 ti1 s3_1) (kit_no (ne_sub s3_3 s3_2) ic2 ti2 s3_2) (kit_me) (kit_no (ne_sub s3_3 s3_4) ic4 ti4 s3_4) (kit_no (ne_sub s3_3 s3_5) ic5 ti5 s3_5) (kit_no (ne_sub s3_3 s3_6) ic6 ti6 s3_6)) (is7 (C := (⟨cA, cB, cC, cD, cE, cF, cG⟩ : TC)) (p := fun b => PySem.W.kitOne K (.ref cE) (.ref b) = some (decide (cE = b))) (kit_no (ne_sub s4_4 s4_0) ic0 ti0 s4_0) (kit_no (ne_sub s4_4 s4_1) ic1 ti1 s4_1) (kit_no (ne_sub s4_4 s4_2) ic2 ti2 s4_2) (kit_no (ne_sub s4_4 s4_3) ic3 ti3 s4_3) (kit_me) (kit_no (ne_sub s4_4 s4_5) ic5 ti5 s4_5) (kit_no (ne_sub s4_4 s4_6) ic6 ti6 s4_6)) (is7 (C := (⟨cA, cB, cC, cD, cE, cF, cG⟩ : TC)) (p := fun b => PySem.W.kitOne K (.ref cF) (.ref b) = some (decide (cF = b))) (kit_no (ne_sub s5_5 s5_0) ic0 ti0 s5_0) (kit_no (ne_sub s5_5 s5_1) ic1 ti1 s5_1) (kit_no (ne_sub s5_5 s5_2) ic2 ti2 s5_2) (kit_no (ne_sub s5_5 s5_3) ic3 ti3 s5_3) (kit_no (ne_sub s5_5 s5_4) ic4 ti4 s5_4) (kit_me) (kit_no (ne_sub s5_5 s5_6) ic6 ti6 s5_6)) (is7 (C := (⟨cA, cB, cC, cD, cE, cF, cG⟩ : TC)) (p := fun b => PySem.W.kitOne K (.ref cG) (.ref b) = some (decide (cG = b))) (kit_no (ne_sub s6_6 s6_0) ic0 ti0 s6_0) (kit_no (ne_sub s6_6 s6_1) ic1 ti1 s6_1) (kit_no (ne_sub s6_6 s6_2) ic2 ti2 s6_2) (kit_no (ne_sub s6_6 s6_3) ic3 ti3 s6_3) (kit_no (ne_sub s6_6 s6_4) ic4 ti4 s6_4) (kit_no (ne_sub s6_6 s6_5) ic5 ti5 s6_5) (kit_me)) |> (fun h a b ha hb => h a ha b hb), Now := nm0, Last := nm1, Next := nm2, Shift := nm3, Either := nm4, Later := nm5, Earlier := nm6 }
  have DD : TD (⟨cA, cB, cC, cD, cE, cF, cG⟩ : TC) := ⟨by
    show [cA, cB, cC, cD, cE, cF, cG].Nodup
    simp only [List.nodup_cons, List.mem_cons, List.not_mem_nil, or_false, not_or, List.nodup_nil, and_true, not_false_eq_true]
    exact ⟨⟨(ne_sub s0_0 s0_1), (ne_sub s0_0 s0_2), (ne_sub s0_0 s0_3), (ne_sub s0_0 s0_4), (ne_sub s0_0 s0_5), (ne_sub s0_0 s0_6)⟩, ⟨(ne_sub s1_1 s1_2), (ne_sub s1_1 s1_3), (ne_sub s1_1 s1_4), (ne_sub s1_1 s1_5), (ne_sub s1_1 s1_6)⟩, ⟨(ne_sub s2_2 s2_3), (ne_sub s2_2 s2_4), (ne_sub s2_2 s2_5), (ne_sub s2_2 s2_6)⟩, ⟨(ne_sub s3_3 s3_4), (ne_sub s3_3 s3_5), (ne_sub s3_3 s3_6)⟩, ⟨(ne_sub s4_4 s4_5), (ne_sub s4_4 s4_6)⟩, (ne_sub s5_5 s5_6)⟩⟩
  have ANd : [aA, aB, aC, aD].Nodup := by
    simp only [List.nodup_cons, List.mem_cons, List.not_mem_nil, or_false, not_or, List.nodup_nil, and_true, not_false_eq_true]
    exact ⟨⟨(ne_sub as0_0 as0_1), (ne_sub as0_0 as0_2), (ne_sub as0_0 as0_3)⟩, ⟨(ne_sub as1_1 as1_2), (ne_sub as1_1 as1_3)⟩, (ne_sub as2_2 as2_3)⟩
  have AF0 : AF K mg (⟨aA, aB, aC, aD⟩ : AC) (⟨cA, cB, cC, cD, cE, cF, cG⟩ : TC) := { cl := is4 (acl0) (acl1) (acl2) (acl3), no := is4 (na5 an0_0 an0_1 an0_2 an0_3 an0_4) (na5 an1_0 an1_1 an1_2 an1_3 an1_4) (na5 an2_0 an2_1 an2_2 an2_3 an2_4) (na5 an3_0 an3_1 an3_2 an3_3 an3_4), ty := is4 (⟨ab0.ha, ab0.hn, ab0.ht, ab0.hm⟩) (⟨ab1.ha, ab1.hn, ab1.ht, ab1.hm⟩) (⟨ab2.ha, ab2.hn, ab2.ht, ab2.hm⟩) (⟨ab3.ha, ab3.hn, ab3.ht, ab3.hm⟩), one := (is4 (p := fun a => ∀ b, (⟨aA, aB, aC, aD⟩ : AC).Is b → PySem.W.kitOne K (.ref a) (.ref b) = some (decide (a = b))) (is4 (A := ⟨aA, aB, aC, aD⟩) (p := fun b => PySem.W.kitOne K (.ref aA) (.ref b) = some (decide (aA = b))) (kit_me) (kit_no (ne_sub as0_0 as0_1) aic1 ati1 as0_1) (kit_no (ne_sub as0_0 as0_2) aic2 ati2 as0_2) (kit_no (ne_sub as0_0 as0_3) aic3 ati3 as0_3)) (is4 (A := ⟨aA, aB, aC, aD⟩) (p := fun b => PySem.W.kitOne K (.ref aB) (.ref b) = some (decide (aB = b))) (kit_no (ne_sub as1_1 as1_0) aic0 ati0 as1_0) (kit_me) (kit_no (ne_sub as1_1 as1_2) aic2 ati2 as1_2) (kit_no (ne_sub as1_1 as1_3) aic3 ati3 as1_3)) (is4 (A := ⟨aA, aB, aC, aD⟩) (p := fun b => PySem.W.kitOne K (.ref aC) (.ref b) = some (decide (aC = b))) (kit_no (ne_sub as2_2 as2_0) aic0 ati0 as2_0) (kit_no (ne_sub as2_2 as2_1) aic1 ati1 as2_1) (kit_me) (kit_no (ne_sub as2_2 as2_3) aic3 ati3 as2_3)) (is4 (A := ⟨aA, aB, aC, aD⟩) (p := fun b => PySem.W.kitOne K (.ref aD) (.ref b) = some (decide (aD = b))) (kit_no (ne_sub as3_3 as3_0) aic0 ati0 as3_0) (kit_no (ne_sub as3_3 as3_1) aic1 ati1 as3_1) (kit_no (ne_sub as3_3 as3_2) aic2 ati2 as3_2) (kit_me))) |> (fun h a b ha hb => h a ha b hb), noT := (is4 (p := fun a => ∀ b, ((⟨cA, cB, cC, cD, cE, cF, cG⟩ : TC)).Is b → PySem.W.kitOne K (.ref a) (.ref b) = some false) (is7 (C := (⟨cA, cB, cC, cD, cE, cF, cG⟩ : TC)) (p := fun b => PySem.W.kitOne K (.ref aA) (.ref b) = some false) (kit_no0 (ne_sub as0_0 at0_0) ic0 ti0 at0_0) (kit_no0 (ne_sub as0_0 at0_1) ic1 ti1 at0_1) (kit_no0 (ne_sub as0_0 at0_2) ic2 ti2 at0_2) (kit_no0 (ne_sub as0_0 at0_3) ic3 ti3 at0_3) (kit_no0 (ne_sub as0_0 at0_4) ic4 ti4 at0_4) (kit_no0 (ne_sub as0_0 at0_5) ic5 ti5 at0_5) (kit_no0 (ne_sub as0_0 at0_6) ic6 ti6 at0_6)) (is7 (C := (⟨cA, cB, cC, cD, cE, cF, cG⟩ : TC)) (p := fun b => PySem.W.kitOne K (.ref aB) (.ref b) = some false) (kit_no0 (ne_sub as1_1 at1_0) ic0 ti0 at1_0) (kit_no0 (ne_sub as1_1 at1_1) ic1 ti1 at1_1) (kit_no0 (ne_sub as1_1 at1_2) ic2 ti2 at1_2) (kit_no0 (ne_sub as1_1 at1_3) ic3 ti3 at1_3) (kit_no0 (ne_sub as1_1 at1_4) ic4 ti4 at1_4) (kit_no0 (ne_sub as1_1 at1_5) ic5 ti5 at1_5) (kit_no0 (ne_sub as1_1 at1_6) ic6 ti6 at1_6)) (is7 (C := (⟨cA, cB, cC, cD, cE, cF, cG⟩ : TC)) (p := fun b => PySem.W.kitOne K (.ref aC) (.ref b) = some false) (kit_no0 (ne_sub as2_2 at2_0) ic0 ti0 at2_0) (kit_no0 (ne_sub as2_2 at2_1) ic1 ti1 at2_1) (kit_no0 (ne_sub as2_2 at2_2) ic2 ti2 at2_2) (kit_no0 (ne_sub as2_2 at2_3) ic3 ti3 at2_3) (kit_no0 (ne_sub as2_2 at2_4) ic4 ti4 at2_4) (kit_no0 (ne_sub as2_2 at2_5) ic5 ti5 at2_5) (kit_no0 (ne_sub as2_2 at2_6) ic6 ti6 at2_6)) (is7 (C := (⟨cA, cB, cC, cD, cE, cF, cG⟩ : TC)) (p := fun b => PySem.W.kitOne K (.ref aD) (.ref b) = some false) (kit_no0 (ne_sub as3_3 at3_0) ic0 ti0 at3_0) (kit_no0 (ne_sub as3_3 at3_1) ic1 ti1 at3_1) (kit_no0 (ne_sub as3_3 at3_2) ic2 ti2 at3_2) (kit_no0 (ne_sub as3_3 at3_3) ic3 ti3 at3_3) (kit_no0 (ne_sub as3_3 at3_4) ic4 ti4 at3_4) (kit_no0 (ne_sub as3_3 at3_5) ic5 ti5 at3_5) (kit_no0 (ne_sub as3_3 at3_6) ic6 ti6 at3_6))) |> (fun h a b ha hb => h a ha b hb), Number := anm0, Count := anm1, Total := anm2, Gap := anm3, nd := ANd }
  have OI : OpI K ((⟨cA, cB, cC, cD, cE, cF, cG⟩ : TC)).Is .Add fadd := { sf := is7 (sf0) (sf1) (sf2) (sf3) (sf4) (sf5) (sf6), at_ := is7 (at0) (at1) (at2) (at3) (at4) (at5) (at6), rt := is7 (rt0) (rt1) (rt2) (rt3) (rt4) (rt5) (rt6), fn := m_add.ex.choose_spec.1.fn, sub := is7 (si0) (si1) (si2) (si3) (si4) (si5) (si6), i1 := ⟨_, i1⟩, i2 := ⟨_, i2⟩ }
  have sub7 : ∀ a b, ((⟨cA, cB, cC, cD, cE, cF, cG⟩ : TC)).Is a → ((⟨cA, cB, cC, cD, cE, cF, cG⟩ : TC)).Is b → a ≠ b → PySem.W.subIn K (.ref b) (.ref a) = some false := fun a b ha hb => is7 (C := (⟨cA, cB, cC, cD, cE, cF, cG⟩ : TC)) (p := fun a => ∀ b, ((⟨cA, cB, cC, cD, cE, cF, cG⟩ : TC)).Is b → a ≠ b → PySem.W.subIn K (.ref b) (.ref a) = some false) (is7 (C := (⟨cA, cB, cC, cD, cE, cF, cG⟩ : TC)) (p := fun b => cA ≠ b → PySem.W.subIn K (.ref b) (.ref cA) = some false) (fun h => absurd rfl h) (fun _ => s1_0) (fun _ => s2_0) (fun _ => s3_0) (fun _ => s4_0) (fun _ => s5_0) (fun _ => s6_0)) (is7 (C := (⟨cA, cB, cC, cD, cE, cF, cG⟩ : TC)) (p := fun b => cB ≠ b → PySem.W.subIn K (.ref b) (.ref cB) = some false) (fun _ => s0_1) (fun h => absurd rfl h) (fun _ => s2_1) (fun _ => s3_1) (fun _ => s4_1) (fun _ => s5_1) (fun _ => s6_1)) (is7 (C := (⟨cA, cB, cC, cD, cE, cF, cG⟩ : TC)) (p := fun b => cC ≠ b → PySem.W.subIn K (.ref b) (.ref cC) = some false) (fun _ => s0_2) (fun _ => s1_2) (fun h => absurd rfl h) (fun _ => s3_2) (fun _ => s4_2) (fun _ => s5_2) (fun _ => s6_2)) (is7 (C := (⟨cA, cB, cC, cD, cE, cF, cG⟩ : TC)) (p := fun b => cD ≠ b → PySem.W.subIn K (.ref b) (.ref cD) = some false) (fun _ => s0_3) (fun _ => s1_3) (fun _ => s2_3) (fun h => absurd rfl h) (fun _ => s4_3) (fun _ => s5_3) (fun _ => s6_3)) (is7 (C := (⟨cA, cB, cC, cD, cE, cF, cG⟩ : TC)) (p := fun b => cE ≠ b → PySem.W.subIn K (.ref b) (.ref cE) = some false) (fun _ => s0_4) (fun _ => s1_4) (fun _ => s2_4) (fun _ => s3_4) (fun h => absurd rfl h) (fun _ => s5_4) (fun _ => s6_4)) (is7 (C := (⟨cA, cB, cC, cD, cE, cF, cG⟩ : TC)) (p := fun b => cF ≠ b → PySem.W.subIn K (.ref b) (.ref cF) = some false) (fun _ => s0_5) (fun _ => s1_5) (fun _ => s2_5) (fun _ => s3_5) (fun _ => s4_5) (fun h => absurd rfl h) (fun _ => s6_5)) (is7 (C := (⟨cA, cB, cC, cD, cE, cF, cG⟩ : TC)) (p := fun b => cG ≠ b → PySem.W.subIn K (.ref b) (.ref cG) = some false) (fun _ => s0_6) (fun _ => s1_6) (fun _ => s2_6) (fun _ => s3_6) (fun _ => s4_6) (fun _ => s5_6) (fun h => absurd rfl h)) a ha b hb
  have OO : OpF K ((⟨cA, cB, cC, cD, cE, cF, cG⟩ : TC)).Is .BitOr fior := { sf := is7 (sf0) (sf1) (sf2) (sf3) (sf4) (sf5) (sf6), at_ := is7 (or0) (or1) (or2) (or3) (or4) (or5) (or6), rt := is7 (ro0) (ro1) (ro2) (ro3) (ro4) (ro5) (ro6), fn := m_ior.ex.choose_spec.1.fn, sub := sub7 }
  have ML : MethF K ((⟨cA, cB, cC, cD, cE, cF, cG⟩ : TC)).Is "later" flat := { at_ := is7 (⟨cl0, la0⟩) (⟨cl1, la1⟩) (⟨cl2, la2⟩) (⟨cl3, la3⟩) (⟨cl4, la4⟩) (⟨cl5, la5⟩) (⟨cl6, la6⟩), fn := m_lat.ex.choose_spec.1.fn, kp := m_lat.ex.choose_spec.1.kp }
  have ME : MethF K ((⟨cA, cB, cC, cD, cE, cF, cG⟩ : TC)).Is "earlier" fear := { at_ := is7 (⟨cl0, ea0⟩) (⟨cl1, ea1⟩) (⟨cl2, ea2⟩) (⟨cl3, ea3⟩) (⟨cl4, ea4⟩) (⟨cl5, ea5⟩) (⟨cl6, ea6⟩), fn := m_ear.ex.choose_spec.1.fn, kp := m_ear.ex.choose_spec.1.kp }
  have c_is_integer := cal_of (P := P) (w := w) (base := base) (ps := ["thing"]) d_is_integer (fun _ _ _ _ _ _ us hl => match us, hl with | [_], _ => rfl) fun f fd F => ok_is_integer F B
  have k1 : K1 P w K mg base := ⟨c_is_integer⟩
  have c_is_natural := cal_of (P := P) (w := w) (base := base) (ps := ["thing"]) d_is_natural (fun _ _ _ _ _ _ us hl => match us, hl with | [_], _ => rfl) fun f fd F => ok_is_natural F B k1
  have c_is_name := cal_of (P := P) (w := w) (base := base) (ps := ["thing"]) d_is_name (fun _ _ _ _ _ _ us hl => match us, hl with | [_], _ => rfl) fun f fd F => ok_is_name F B Cs
  have k2 : K2 P w K mg base := ⟨k1, c_is_natural, c_is_name⟩
  have c_are_integers := cal_of (P := P) (w := w) (base := base) (ps := ["things"]) d_are_integers (fun _ _ _ _ _ _ us hl => match us, hl with | [_], _ => rfl) fun f fd F => ok_are_integers F B k2
  have c_is_row := cal_of (P := P) (w := w) (base := base) (ps := ["thing"]) d_is_row (fun _ _ _ _ _ _ us hl => match us, hl with | [_], _ => rfl) fun f fd F => ok_is_row F B
  have k3 : K3 P w K mg base := ⟨k2, c_are_integers, c_is_row⟩
  have c_are_rows := cal_of (P := P) (w := w) (base := base) (ps := ["things"]) d_are_rows (fun _ _ _ _ _ _ us hl => match us, hl with | [_], _ => rfl) fun f fd F => ok_are_rows F B k3
  have c_first_twice := cal_of (P := P) (w := w) (base := base) (ps := ["numbers"]) d_first_twice (fun _ _ _ _ _ _ us hl => match us, hl with | [_], _ => rfl) fun f fd F => ok_twice F B
  have w1 : W1 P w K mg base := ⟨k3, c_are_rows, c_first_twice⟩
  have c_is_rows := cal_of (P := P) (w := w) (base := base) (ps := ["thing"]) d_is_rows (fun _ _ _ _ _ _ us hl => match us, hl with | [_], _ => rfl) fun f fd F => ok_is_rows F B w1
  have w2 : W2 P w K mg base := ⟨w1, c_is_rows⟩
  obtain ⟨fWI, fdWI, mWI, FWI⟩ := m_WI.ex
  have bWI : Binds K fdWI ["self", "rows"] [] := FWI.binds (ps := ["self", "rows"]) fun _ _ _ _ _ _ us hl => match us, hl with | [_, _], _ => rfl
  have oWI := ok_world_init (P := P) (w := w) (base := base) FWI B Cs TW w2
  obtain ⟨fWR, fdWR, mWR, FWR⟩ := m_WR.ex
  have bWR : Binds K fdWR ["self", "stream"] [] := FWR.binds (ps := ["self", "stream"]) fun _ _ _ _ _ _ us hl => match us, hl with | [_, _], _ => rfl
  have oWR := ok_world_rows (P := P) (w := w) (base := base) FWR B TW k2
  have c_is_term := cal_of (P := P) (w := w) (base := base) (ps := ["thing"]) d_is_term (fun _ _ _ _ _ _ us hl => match us, hl with | [_], _ => rfl) fun f fd F => ok_is_term F B TT
  have c_is_look := cal_of (P := P) (w := w) (base := base) (ps := ["thing"]) d_is_look (fun _ _ _ _ _ _ us hl => match us, hl with | [_], _ => rfl) fun f fd F => ok_is_look F B TT DD
  have t1 : T1 P w K mg base (⟨cA, cB, cC, cD, cE, cF, cG⟩ : TC) := ⟨w2, c_is_term, c_is_look⟩
  have c_checked_stream := cal_of (P := P) (w := w) (base := base) (ps := ["stream"]) d_checked_stream (fun _ _ _ _ _ _ us hl => match us, hl with | [_], _ => rfl) fun f fd F => ok_cstream F B t1
  have c_checked_term := cal_of (P := P) (w := w) (base := base) (ps := ["term"]) d_checked_term (fun _ _ _ _ _ _ us hl => match us, hl with | [_], _ => rfl) fun f fd F => ok_cterm F B t1
  have c_sizes := cal_of (P := P) (w := w) (base := base) (ps := ["children", "looks", "choices"]) d_sizes (fun _ _ _ _ _ _ us hl => match us, hl with | [_, _, _], _ => rfl) fun f fd F => ok_sizes F B Cs TT
  have t2 : T2 P w K mg base (⟨cA, cB, cC, cD, cE, cF, cG⟩ : TC) := ⟨t1, c_checked_stream, c_checked_term, c_sizes⟩
  obtain ⟨fNI, fdNI, mNI, FNI⟩ := m_NI.ex
  have bNI : Binds K fdNI ["self"] [] := FNI.binds (ps := ["self"]) fun _ _ _ _ _ _ us hl => match us, hl with | [_], _ => rfl
  have oNI := ok_now (P := P) (w := w) (base := base) FNI B TT t2
  obtain ⟨fLI, fdLI, mLI, FLI⟩ := m_LI.ex
  have bLI : Binds K fdLI ["self", "stream", "term"] [] := FLI.binds (ps := ["self", "stream", "term"]) fun _ _ _ _ _ _ us hl => match us, hl with | [_, _, _], _ => rfl
  have oLI := ok_last (P := P) (w := w) (base := base) FLI B TT t2
  obtain ⟨fXI, fdXI, mXI, FXI⟩ := m_XI.ex
  have bXI : Binds K fdXI ["self", "stream", "term"] [] := FXI.binds (ps := ["self", "stream", "term"]) fun _ _ _ _ _ _ us hl => match us, hl with | [_, _, _], _ => rfl
  have oXI := ok_next (P := P) (w := w) (base := base) FXI B TT t2
  obtain ⟨fSI, fdSI, mSI, FSI⟩ := m_SI.ex
  have bSI : Binds K fdSI ["self", "term", "amount"] [] := FSI.binds (ps := ["self", "term", "amount"]) fun _ _ _ _ _ _ us hl => match us, hl with | [_, _, _], _ => rfl
  have oSI := ok_shift (P := P) (w := w) (base := base) FSI B TT t2
  obtain ⟨fEI, fdEI, mEI, FEI⟩ := m_EI.ex
  have bEI : Binds K fdEI ["self", "first", "second"] [] := FEI.binds (ps := ["self", "first", "second"]) fun _ _ _ _ _ _ us hl => match us, hl with | [_, _, _], _ => rfl
  have oEI := ok_either (P := P) (w := w) (base := base) FEI B TT t2
  obtain ⟨fJI, fdJI, mJI, FJI⟩ := m_JI.ex
  have bJI : Binds K fdJI ["self", "first", "second"] [] := FJI.binds (ps := ["self", "first", "second"]) fun _ _ _ _ _ _ us hl => match us, hl with | [_, _, _], _ => rfl
  have oJI := ok_later (P := P) (w := w) (base := base) FJI B TT t2
  obtain ⟨fKI, fdKI, mKI, FKI⟩ := m_KI.ex
  have bKI : Binds K fdKI ["self", "first", "second"] [] := FKI.binds (ps := ["self", "first", "second"]) fun _ _ _ _ _ _ us hl => match us, hl with | [_, _, _], _ => rfl
  have oKI := ok_earlier (P := P) (w := w) (base := base) FKI B TT t2
  have t3 : T3s P w K mg base (⟨cA, cB, cC, cD, cE, cF, cG⟩ : TC) CW := ⟨t2, ⟨fSI, fdSI, ⟨mk3, mSI.at_, mSI.fn, kp3⟩, nm3, bSI, oSI⟩, ⟨fWR, fdWR, mWR, bWR, oWR⟩⟩
  have c_shifted := cal_of (P := P) (w := w) (base := base) (ps := ["term", "amount"]) d_shifted (fun _ _ _ _ _ _ us hl => match us, hl with | [_, _], _ => rfl) fun f fd F => ok_shifted F B TT DD t3
  have c_last_row := cal_of (P := P) (w := w) (base := base) (ps := ["world", "stream", "moment"]) d_last_row (fun _ _ _ _ _ _ us hl => match us, hl with | [_, _, _], _ => rfl) fun f fd F => ok_lastrow F B TW t3
  have c_next_row := cal_of (P := P) (w := w) (base := base) (ps := ["world", "stream", "moment"]) d_next_row (fun _ _ _ _ _ _ us hl => match us, hl with | [_, _, _], _ => rfl) fun f fd F => ok_nextrow F B TW t3
  have a1 : A1 P w K mg base (⟨cA, cB, cC, cD, cE, cF, cG⟩ : TC) CW := ⟨t3, c_last_row, c_next_row⟩
  have fo := fol_all B Cs TT DD a1 d_moved d_looked d_followed_either d_followed_both d_followed 12
  have c_is_amount := cal_of (P := P) (w := w) (base := base) (ps := ["thing"]) d_is_amount (fun _ _ _ _ _ _ us hl => match us, hl with | [_], _ => rfl) fun f fd F => ok_isam F B AF0
  have c_lookedA := cal_of (P := P) (w := w) (base := base) (ps := ["question", "world", "now", "place"]) d_looked (fun _ _ _ _ _ _ us hl => match us, hl with | [_, _, _, _], _ => rfl) fun f fd F => ok_lookedA F B TT AF0 fo
  have c_told_between := cal_of (P := P) (w := w) (base := base) (ps := ["question", "world", "now"]) d_told_between (fun _ _ _ _ _ _ us hl => match us, hl with | [_, _, _], _ => rfl) fun f fd F => ok_told F B TT AF0 TW fo
  have u0 : U0 P w K mg base (⟨aA, aB, aC, aD⟩ : AC) (⟨cA, cB, cC, cD, cE, cF, cG⟩ : TC) CW := ⟨fo, c_is_amount, c_lookedA, c_told_between⟩
  have c_is_question := cal_of (P := P) (w := w) (base := base) (ps := ["thing"]) d_is_question (fun _ _ _ _ _ _ us hl => match us, hl with | [_], _ => rfl) fun f fd F => ok_isq F B AF0 u0
  have u1 : U1 P w K mg base (⟨aA, aB, aC, aD⟩ : AC) (⟨cA, cB, cC, cD, cE, cF, cG⟩ : TC) CW := ⟨u0, c_is_question⟩
  have c_check := cal_of (P := P) (w := w) (base := base) (ps := ["question", "world", "now"]) d_check (fun _ _ _ _ _ _ us hl => match us, hl with | [_, _, _], _ => rfl) fun f fd F => ok_check F B TW wi u1
  have c_answered := cal_of (P := P) (w := w) (base := base) (ps := ["question", "world", "now"]) d_answered (fun _ _ _ _ _ _ us hl => match us, hl with | [_, _, _], _ => rfl) fun f fd F => ok_answered F B Cs AF0 u1
  have u2 : U2 P w K mg base (⟨aA, aB, aC, aD⟩ : AC) (⟨cA, cB, cC, cD, cE, cF, cG⟩ : TC) CW := ⟨u1, c_check, c_answered⟩
  have c_value := cal_of (P := P) (w := w) (base := base) (ps := ["question", "world", "now"]) d_value (fun _ _ _ _ _ _ us hl => match us, hl with | [_, _, _], _ => rfl) fun f fd F => ok_value F B u2
  have v3 : V3 P w K mg base (⟨cA, cB, cC, cD, cE, cF, cG⟩ : TC) CW := ⟨fo, c_shifted⟩
  have v4 : V4 P w K mg base (⟨cA, cB, cC, cD, cE, cF, cG⟩ : TC) CW := ⟨v3, ⟨fEI, fdEI, ⟨mk4, mEI.at_, mEI.fn, kp4⟩, nm4, bEI, oEI⟩, ⟨fJI, fdJI, ⟨mk5, mJI.at_, mJI.fn, kp5⟩, nm5, bJI, oJI⟩, ⟨fKI, fdKI, ⟨mk6, mKI.at_, mKI.fn, kp6⟩, nm6, bKI, oKI⟩⟩
  obtain ⟨fdadd, madd, Fadd⟩ := m_add.ex
  have badd : Binds K fdadd ["self", "other"] [] := Fadd.binds (ps := ["self", "other"]) fun _ _ _ _ _ _ us hl => match us, hl with | [_, _], _ => rfl
  have oAdd := ok_tadd (P := P) (w := w) (base := base) Fadd B v3
  obtain ⟨fdior, mior, Fior⟩ := m_ior.ex
  have bior : Binds K fdior ["self", "other"] [] := Fior.binds (ps := ["self", "other"]) fun _ _ _ _ _ _ us hl => match us, hl with | [_, _], _ => rfl
  have oOr := ok_tor (P := P) (w := w) (base := base) Fior B v4
  obtain ⟨fdlat, mlat, Flat⟩ := m_lat.ex
  have blat : Binds K fdlat ["self", "other"] [] := Flat.binds (ps := ["self", "other"]) fun _ _ _ _ _ _ us hl => match us, hl with | [_, _], _ => rfl
  have oLat := ok_tlater (P := P) (w := w) (base := base) Flat B v4
  obtain ⟨fdear, mear, Fear⟩ := m_ear.ex
  have bear : Binds K fdear ["self", "other"] [] := Fear.binds (ps := ["self", "other"]) fun _ _ _ _ _ _ us hl => match us, hl with | [_, _], _ => rfl
  have oEar := ok_tearlier (P := P) (w := w) (base := base) Fear B v4
  have c__law_pool := cal_of (P := P) (w := w) (base := base) (ps := ["script"]) d__law_pool (fun _ _ _ _ _ _ us hl => match us, hl with | [_], _ => rfl) fun f fd F => ok_pool F B
  have c__law_draw := cal_of (P := P) (w := w) (base := base) (ps := ["pool", "many"]) d__law_draw (fun _ _ _ _ _ _ us hl => match us, hl with | [_, _], _ => rfl) fun f fd F => ok_draw F B
  have g1 : G1 P w K mg base := ⟨c__law_draw⟩
  have c__law_names := cal_of (P := P) (w := w) (base := base) (ps := ["pool", "many"]) d__law_names (fun _ _ _ _ _ _ us hl => match us, hl with | [_, _], _ => rfl) fun f fd F => ok_names F B g1
  have c__law_moment := cal_of (P := P) (w := w) (base := base) (ps := ["pool"]) d__law_moment (fun _ _ _ _ _ _ us hl => match us, hl with | [_], _ => rfl) fun f fd F => ok_moment F B g1
  have g2 : G2w P w K mg base := ⟨g1, c__law_moment⟩
  have c__law_rows := cal_of (P := P) (w := w) (base := base) (ps := ["pool", "streams", "many"]) d__law_rows (fun _ _ _ _ _ _ us hl => match us, hl with | [_, _, _], _ => rfl) fun f fd F => ok_wrows F B g2
  have ops : Ops P w K mg base (⟨cA, cB, cC, cD, cE, cF, cG⟩ : TC) := ⟨⟨_, _, OI, oAdd, badd⟩, ⟨_, _, OO, oOr, bior⟩, ⟨_, _, ML, oLat, blat⟩, ⟨_, _, ME, oEar, bear⟩⟩
  have b0 : B0 P w K mg base (⟨cA, cB, cC, cD, cE, cF, cG⟩ : TC) := ⟨⟨fNI, fdNI, ⟨mk0, mNI.at_, mNI.fn, kp0⟩, nm0, bNI, oNI⟩, ⟨fLI, fdLI, ⟨mk1, mLI.at_, mLI.fn, kp1⟩, nm1, bLI, oLI⟩, ⟨fXI, fdXI, ⟨mk2, mXI.at_, mXI.fn, kp2⟩, nm2, bXI, oXI⟩⟩
  obtain ⟨fnuI, fdnuI, mnuI, FnuI⟩ := m_nuI.ex
  have bnuI : Binds K fdnuI ["self", "stream", "term"] [] := FnuI.binds (ps := ["self", "stream", "term"]) fun _ _ _ _ _ _ us hl => match us, hl with | [_, _, _], _ => rfl
  have oNu := ok_number (P := P) (w := w) (base := base) FnuI B TT AF0 t2
  obtain ⟨fcoI, fdcoI, mcoI, FcoI⟩ := m_coI.ex
  have bcoI : Binds K fdcoI ["self", "stream", "first", "last"] [] := FcoI.binds (ps := ["self", "stream", "first", "last"]) fun _ _ _ _ _ _ us hl => match us, hl with | [_, _, _, _], _ => rfl
  have oCo := ok_count (P := P) (w := w) (base := base) FcoI B TT AF0 t2
  obtain ⟨ftoI, fdtoI, mtoI, FtoI⟩ := m_toI.ex
  have btoI : Binds K fdtoI ["self", "stream", "first", "last"] [] := FtoI.binds (ps := ["self", "stream", "first", "last"]) fun _ _ _ _ _ _ us hl => match us, hl with | [_, _, _, _], _ => rfl
  have oTo := ok_total (P := P) (w := w) (base := base) FtoI B TT AF0 t2
  obtain ⟨fgaI, fdgaI, mgaI, FgaI⟩ := m_gaI.ex
  have bgaI : Binds K fdgaI ["self", "first", "last"] [] := FgaI.binds (ps := ["self", "first", "last"]) fun _ _ _ _ _ _ us hl => match us, hl with | [_, _, _], _ => rfl
  have oGa := ok_gap (P := P) (w := w) (base := base) FgaI B TT AF0 t2
  have c_support := cal_of (P := P) (w := w) (base := base) (ps := ["question", "world", "now"]) d_support (fun _ _ _ _ _ _ us hl => match us, hl with | [_, _, _], _ => rfl) fun f fd F => ok_support F B u2
  have mkWo : Mak P w K mg base CX0 "World" CW 5 ["self", "rows"] (spWorldInit CW) := ⟨fWI, fdWI, ⟨mkW, mWI.at_, mWI.fn, kW⟩, TW.c, bWI, oWI⟩
  have w16 : W16 P w K mg base CW := ⟨mkWo⟩
  have gq : Gq P w K mg base 3 := ⟨g2, (lterm_all B g2 d__law_term 4).law_term, (lterm_all B g2 d__law_term 3).law_term⟩
  have ga : Ga P w K mg base (⟨aA, aB, aC, aD⟩ : AC) (⟨cA, cB, cC, cD, cE, cF, cG⟩ : TC) := ⟨built_all B b0 ops d__law_built 12, ⟨fnuI, fdnuI, ⟨amk0, mnuI.at_, mnuI.fn, akp0⟩, anm0, bnuI, oNu⟩, ⟨fcoI, fdcoI, ⟨amk1, mcoI.at_, mcoI.fn, akp1⟩, anm1, bcoI, oCo⟩, ⟨ftoI, fdtoI, ⟨amk2, mtoI.at_, mtoI.fn, akp2⟩, anm2, btoI, oTo⟩, ⟨fgaI, fdgaI, ⟨amk3, mgaI.at_, mgaI.fn, akp3⟩, anm3, bgaI, oGa⟩⟩
  have c__law_question := cal_of (P := P) (w := w) (base := base) (ps := ["pool", "streams", "depth"]) d__law_question (fun _ _ _ _ _ _ us hl => match us, hl with | [_, _, _], _ => rfl) fun f fd F => ok_lquest F B gq
  have c__law_asked := cal_of (P := P) (w := w) (base := base) (ps := ["model"]) d__law_asked (fun _ _ _ _ _ _ us hl => match us, hl with | [_], _ => rfl) fun f fd F => ok_lasked F B ga
  have c__law_changed := cal_of (P := P) (w := w) (base := base) (ps := ["rows", "streams", "names", "far", "factor"]) d__law_changed (fun _ _ _ _ _ _ us hl => match us, hl with | [_, _, _, _, _], _ => rfl) fun f fd F => ok_lchanged F B w16
  have c__law_opposite := cal_of (P := P) (w := w) (base := base) (ps := ["rows", "streams"]) d__law_opposite (fun _ _ _ _ _ _ us hl => match us, hl with | [_, _], _ => rfl) fun f fd F => ok_lopp F B w16
  have c__law_plus := cal_of (P := P) (w := w) (base := base) (ps := ["told", "more"]) d__law_plus (fun _ _ _ _ _ _ us hl => match us, hl with | [_, _], _ => rfl) fun f fd F => ok_lplus F B
  have gl : L16 P w K mg base (⟨aA, aB, aC, aD⟩ : AC) (⟨cA, cB, cC, cD, cE, cF, cG⟩ : TC) CW := ⟨c__law_pool, c__law_draw, c__law_names, c__law_moment, c__law_rows, c__law_question, c__law_asked, c_value, c_support, c__law_changed, c__law_opposite, (lren_all B d__law_renamed 12).law_renamed, (lturn_all B d__law_turned 12).law_turned, c__law_plus, mkWo⟩
  exact ok_law F_law B gl
end
theorem all_mk {P : Program} {w : World} {K : PySem.W.Frag} {h : Heap} {mg : Str → Option Value} {fa CW cA cB cC cD cE cF cG aA aB aC aD fadd fior flat fear f4 : Addr} {oc4 kV4 dc4 pm4 cd4 ct4 : Value} {od4 an4 : Option Addr} {sl4 : Array (Option Value)} (X : K.In h) (G : h.Ns mainGlobals mg) (hfa : mg "law" = some (.ref fa))
    (a4 : PySem.W.nsIn K mainGlobals "law" = some (some (.ref f4))) (l4 : K.lookup f4 = some ⟨oc4, od4, .func (PySem.W.fnOf "law" "law" (defArgs s_law) (defBody s_law) (defScope s_law) .none kV4 dc4 pm4 an4 cd4 ct4), sl4⟩) (c4 : PySem.W.codeIn K cd4 "law" = true) (k4 : PySem.W.keepIn K (.ref f4) = true)
    (B : Blt mg)
    (Cs : Cst mg)
    (TW : Cw K mg CW)
    (wi : BkI K CW)
    (mkW : PySem.W.makesIn K CW = true)
    (kW : PySem.W.keepIn K (.ref CW) = true)
    (nm0 : mg "Now" = some (.ref cA))
    (cl0 : Cls K cA)
    (b0 : BkI K cA)
    (ic0 : PySem.W.isClsIn K cA = true)
    (ti0 : PySem.W.typeIn K (.ref cA) = some (.type "type"))
    (sf0 : PySem.W.selfFirst K cA = true)
    (at0 : PySem.W.findIn K (.ref cA) "__add__" = some (some (.ref fadd)))
    (rt0 : PySem.W.findIn K (.ref cA) "__radd__" = some none)
    (si0 : PySem.W.subIn K (.type "int") (.ref cA) = some false)
    (or0 : PySem.W.findIn K (.ref cA) "__or__" = some (some (.ref fior)))
    (ro0 : PySem.W.findIn K (.ref cA) "__ror__" = some none)
    (la0 : PySem.W.findIn K (.ref cA) "later" = some (some (.ref flat)))
    (ea0 : PySem.W.findIn K (.ref cA) "earlier" = some (some (.ref fear)))
    (n0_0 : NoAttr K cA "stream")
    (n0_1 : NoAttr K cA "term")
    (n0_2 : NoAttr K cA "first")
    (n0_3 : NoAttr K cA "second")
    (n0_4 : NoAttr K cA "amount")
    (n0_5 : NoAttr K cA "spelling")
    (n0_6 : NoAttr K cA "depth")
    (n0_7 : NoAttr K cA "parts")
    (n0_8 : NoAttr K cA "looks")
    (n0_9 : NoAttr K cA "choices")
    (s0_0 : PySem.W.subIn K (.ref cA) (.ref cA) = some true)
    (s0_1 : PySem.W.subIn K (.ref cA) (.ref cB) = some false)
    (s0_2 : PySem.W.subIn K (.ref cA) (.ref cC) = some false)
    (s0_3 : PySem.W.subIn K (.ref cA) (.ref cD) = some false)
    (s0_4 : PySem.W.subIn K (.ref cA) (.ref cE) = some false)
    (s0_5 : PySem.W.subIn K (.ref cA) (.ref cF) = some false)
    (s0_6 : PySem.W.subIn K (.ref cA) (.ref cG) = some false)
    (nm1 : mg "Last" = some (.ref cB))
    (cl1 : Cls K cB)
    (b1 : BkI K cB)
    (ic1 : PySem.W.isClsIn K cB = true)
    (ti1 : PySem.W.typeIn K (.ref cB) = some (.type "type"))
    (sf1 : PySem.W.selfFirst K cB = true)
    (at1 : PySem.W.findIn K (.ref cB) "__add__" = some (some (.ref fadd)))
    (rt1 : PySem.W.findIn K (.ref cB) "__radd__" = some none)
    (si1 : PySem.W.subIn K (.type "int") (.ref cB) = some false)
    (or1 : PySem.W.findIn K (.ref cB) "__or__" = some (some (.ref fior)))
    (ro1 : PySem.W.findIn K (.ref cB) "__ror__" = some none)
    (la1 : PySem.W.findIn K (.ref cB) "later" = some (some (.ref flat)))
    (ea1 : PySem.W.findIn K (.ref cB) "earlier" = some (some (.ref fear)))
    (n1_0 : NoAttr K cB "stream")
    (n1_1 : NoAttr K cB "term")
    (n1_2 : NoAttr K cB "first")
    (n1_3 : NoAttr K cB "second")
    (n1_4 : NoAttr K cB "amount")
    (n1_5 : NoAttr K cB "spelling")
    (n1_6 : NoAttr K cB "depth")
    (n1_7 : NoAttr K cB "parts")
    (n1_8 : NoAttr K cB "looks")
    (n1_9 : NoAttr K cB "choices")
    (s1_0 : PySem.W.subIn K (.ref cB) (.ref cA) = some false)
    (s1_1 : PySem.W.subIn K (.ref cB) (.ref cB) = some true)
    (s1_2 : PySem.W.subIn K (.ref cB) (.ref cC) = some false)
    (s1_3 : PySem.W.subIn K (.ref cB) (.ref cD) = some false)
    (s1_4 : PySem.W.subIn K (.ref cB) (.ref cE) = some false)
    (s1_5 : PySem.W.subIn K (.ref cB) (.ref cF) = some false)
    (s1_6 : PySem.W.subIn K (.ref cB) (.ref cG) = some false)
    (nm2 : mg "Next" = some (.ref cC))
    (cl2 : Cls K cC)
    (b2 : BkI K cC)
    (ic2 : PySem.W.isClsIn K cC = true)
    (ti2 : PySem.W.typeIn K (.ref cC) = some (.type "type"))
    (sf2 : PySem.W.selfFirst K cC = true)
    (at2 : PySem.W.findIn K (.ref cC) "__add__" = some (some (.ref fadd)))
    (rt2 : PySem.W.findIn K (.ref cC) "__radd__" = some none)
    (si2 : PySem.W.subIn K (.type "int") (.ref cC) = some false)
    (or2 : PySem.W.findIn K (.ref cC) "__or__" = some (some (.ref fior)))
    (ro2 : PySem.W.findIn K (.ref cC) "__ror__" = some none)
    (la2 : PySem.W.findIn K (.ref cC) "later" = some (some (.ref flat)))
    (ea2 : PySem.W.findIn K (.ref cC) "earlier" = some (some (.ref fear)))
    (n2_0 : NoAttr K cC "stream")
    (n2_1 : NoAttr K cC "term")
    (n2_2 : NoAttr K cC "first")
    (n2_3 : NoAttr K cC "second")
    (n2_4 : NoAttr K cC "amount")
    (n2_5 : NoAttr K cC "spelling")
    (n2_6 : NoAttr K cC "depth")
    (n2_7 : NoAttr K cC "parts")
    (n2_8 : NoAttr K cC "looks")
    (n2_9 : NoAttr K cC "choices")
    (s2_0 : PySem.W.subIn K (.ref cC) (.ref cA) = some false)
    (s2_1 : PySem.W.subIn K (.ref cC) (.ref cB) = some false)
    (s2_2 : PySem.W.subIn K (.ref cC) (.ref cC) = some true)
    (s2_3 : PySem.W.subIn K (.ref cC) (.ref cD) = some false)
    (s2_4 : PySem.W.subIn K (.ref cC) (.ref cE) = some false)
    (s2_5 : PySem.W.subIn K (.ref cC) (.ref cF) = some false)
    (s2_6 : PySem.W.subIn K (.ref cC) (.ref cG) = some false)
    (nm3 : mg "Shift" = some (.ref cD))
    (cl3 : Cls K cD)
    (b3 : BkI K cD)
    (ic3 : PySem.W.isClsIn K cD = true)
    (ti3 : PySem.W.typeIn K (.ref cD) = some (.type "type"))
    (sf3 : PySem.W.selfFirst K cD = true)
    (at3 : PySem.W.findIn K (.ref cD) "__add__" = some (some (.ref fadd)))
    (rt3 : PySem.W.findIn K (.ref cD) "__radd__" = some none)
    (si3 : PySem.W.subIn K (.type "int") (.ref cD) = some false)
    (or3 : PySem.W.findIn K (.ref cD) "__or__" = some (some (.ref fior)))
    (ro3 : PySem.W.findIn K (.ref cD) "__ror__" = some none)
    (la3 : PySem.W.findIn K (.ref cD) "later" = some (some (.ref flat)))
    (ea3 : PySem.W.findIn K (.ref cD) "earlier" = some (some (.ref fear)))
    (n3_0 : NoAttr K cD "stream")
    (n3_1 : NoAttr K cD "term")
    (n3_2 : NoAttr K cD "first")
    (n3_3 : NoAttr K cD "second")
    (n3_4 : NoAttr K cD "amount")
    (n3_5 : NoAttr K cD "spelling")
    (n3_6 : NoAttr K cD "depth")
    (n3_7 : NoAttr K cD "parts")
    (n3_8 : NoAttr K cD "looks")
    (n3_9 : NoAttr K cD "choices")
    (s3_0 : PySem.W.subIn K (.ref cD) (.ref cA) = some false)
    (s3_1 : PySem.W.subIn K (.ref cD) (.ref cB) = some false)
    (s3_2 : PySem.W.subIn K (.ref cD) (.ref cC) = some false)
    (s3_3 : PySem.W.subIn K (.ref cD) (.ref cD) = some true)
    (s3_4 : PySem.W.subIn K (.ref cD) (.ref cE) = some false)
    (s3_5 : PySem.W.subIn K (.ref cD) (.ref cF) = some false)
    (s3_6 : PySem.W.subIn K (.ref cD) (.ref cG) = some false)
    (nm4 : mg "Either" = some (.ref cE))
    (cl4 : Cls K cE)
    (b4 : BkI K cE)
    (ic4 : PySem.W.isClsIn K cE = true)
    (ti4 : PySem.W.typeIn K (.ref cE) = some (.type "type"))
    (sf4 : PySem.W.selfFirst K cE = true)
    (at4 : PySem.W.findIn K (.ref cE) "__add__" = some (some (.ref fadd)))
    (rt4 : PySem.W.findIn K (.ref cE) "__radd__" = some none)
    (si4 : PySem.W.subIn K (.type "int") (.ref cE) = some false)
    (or4 : PySem.W.findIn K (.ref cE) "__or__" = some (some (.ref fior)))
    (ro4 : PySem.W.findIn K (.ref cE) "__ror__" = some none)
    (la4 : PySem.W.findIn K (.ref cE) "later" = some (some (.ref flat)))
    (ea4 : PySem.W.findIn K (.ref cE) "earlier" = some (some (.ref fear)))
    (n4_0 : NoAttr K cE "stream")
    (n4_1 : NoAttr K cE "term")
    (n4_2 : NoAttr K cE "first")
    (n4_3 : NoAttr K cE "second")
    (n4_4 : NoAttr K cE "amount")
    (n4_5 : NoAttr K cE "spelling")
    (n4_6 : NoAttr K cE "depth")
    (n4_7 : NoAttr K cE "parts")
    (n4_8 : NoAttr K cE "looks")
    (n4_9 : NoAttr K cE "choices")
    (s4_0 : PySem.W.subIn K (.ref cE) (.ref cA) = some false)
    (s4_1 : PySem.W.subIn K (.ref cE) (.ref cB) = some false)
    (s4_2 : PySem.W.subIn K (.ref cE) (.ref cC) = some false)
    (s4_3 : PySem.W.subIn K (.ref cE) (.ref cD) = some false)
    (s4_4 : PySem.W.subIn K (.ref cE) (.ref cE) = some true)
    (s4_5 : PySem.W.subIn K (.ref cE) (.ref cF) = some false)
    (s4_6 : PySem.W.subIn K (.ref cE) (.ref cG) = some false)
    (nm5 : mg "Later" = some (.ref cF))
    (cl5 : Cls K cF)
    (b5 : BkI K cF)
    (ic5 : PySem.W.isClsIn K cF = true)
    (ti5 : PySem.W.typeIn K (.ref cF) = some (.type "type"))
    (sf5 : PySem.W.selfFirst K cF = true)
    (at5 : PySem.W.findIn K (.ref cF) "__add__" = some (some (.ref fadd)))
    (rt5 : PySem.W.findIn K (.ref cF) "__radd__" = some none)
    (si5 : PySem.W.subIn K (.type "int") (.ref cF) = some false)
    (or5 : PySem.W.findIn K (.ref cF) "__or__" = some (some (.ref fior)))
    (ro5 : PySem.W.findIn K (.ref cF) "__ror__" = some none)
    (la5 : PySem.W.findIn K (.ref cF) "later" = some (some (.ref flat)))
    (ea5 : PySem.W.findIn K (.ref cF) "earlier" = some (some (.ref fear)))
    (n5_0 : NoAttr K cF "stream")
    (n5_1 : NoAttr K cF "term")
    (n5_2 : NoAttr K cF "first")
    (n5_3 : NoAttr K cF "second")
    (n5_4 : NoAttr K cF "amount")
    (n5_5 : NoAttr K cF "spelling")
    (n5_6 : NoAttr K cF "depth")
    (n5_7 : NoAttr K cF "parts")
    (n5_8 : NoAttr K cF "looks")
    (n5_9 : NoAttr K cF "choices")
    (s5_0 : PySem.W.subIn K (.ref cF) (.ref cA) = some false)
    (s5_1 : PySem.W.subIn K (.ref cF) (.ref cB) = some false)
    (s5_2 : PySem.W.subIn K (.ref cF) (.ref cC) = some false)
    (s5_3 : PySem.W.subIn K (.ref cF) (.ref cD) = some false)
    (s5_4 : PySem.W.subIn K (.ref cF) (.ref cE) = some false)
    (s5_5 : PySem.W.subIn K (.ref cF) (.ref cF) = some true)
    (s5_6 : PySem.W.subIn K (.ref cF) (.ref cG) = some false)
    (nm6 : mg "Earlier" = some (.ref cG))
    (cl6 : Cls K cG)
    (b6 : BkI K cG)
    (ic6 : PySem.W.isClsIn K cG = true)
    (ti6 : PySem.W.typeIn K (.ref cG) = some (.type "type"))
    (sf6 : PySem.W.selfFirst K cG = true)
    (at6 : PySem.W.findIn K (.ref cG) "__add__" = some (some (.ref fadd)))
    (rt6 : PySem.W.findIn K (.ref cG) "__radd__" = some none)
    (si6 : PySem.W.subIn K (.type "int") (.ref cG) = some false)
    (or6 : PySem.W.findIn K (.ref cG) "__or__" = some (some (.ref fior)))
    (ro6 : PySem.W.findIn K (.ref cG) "__ror__" = some none)
    (la6 : PySem.W.findIn K (.ref cG) "later" = some (some (.ref flat)))
    (ea6 : PySem.W.findIn K (.ref cG) "earlier" = some (some (.ref fear)))
    (n6_0 : NoAttr K cG "stream")
    (n6_1 : NoAttr K cG "term")
    (n6_2 : NoAttr K cG "first")
    (n6_3 : NoAttr K cG "second")
    (n6_4 : NoAttr K cG "amount")
    (n6_5 : NoAttr K cG "spelling")
    (n6_6 : NoAttr K cG "depth")
    (n6_7 : NoAttr K cG "parts")
    (n6_8 : NoAttr K cG "looks")
    (n6_9 : NoAttr K cG "choices")
    (s6_0 : PySem.W.subIn K (.ref cG) (.ref cA) = some false)
    (s6_1 : PySem.W.subIn K (.ref cG) (.ref cB) = some false)
    (s6_2 : PySem.W.subIn K (.ref cG) (.ref cC) = some false)
    (s6_3 : PySem.W.subIn K (.ref cG) (.ref cD) = some false)
    (s6_4 : PySem.W.subIn K (.ref cG) (.ref cE) = some false)
    (s6_5 : PySem.W.subIn K (.ref cG) (.ref cF) = some false)
    (s6_6 : PySem.W.subIn K (.ref cG) (.ref cG) = some true)
    (mk0 : PySem.W.makesIn K cA = true)
    (kp0 : PySem.W.keepIn K (.ref cA) = true)
    (mk1 : PySem.W.makesIn K cB = true)
    (kp1 : PySem.W.keepIn K (.ref cB) = true)
    (mk2 : PySem.W.makesIn K cC = true)
    (kp2 : PySem.W.keepIn K (.ref cC) = true)
    (mk3 : PySem.W.makesIn K cD = true)
    (kp3 : PySem.W.keepIn K (.ref cD) = true)
    (mk4 : PySem.W.makesIn K cE = true)
    (kp4 : PySem.W.keepIn K (.ref cE) = true)
    (mk5 : PySem.W.makesIn K cF = true)
    (kp5 : PySem.W.keepIn K (.ref cF) = true)
    (mk6 : PySem.W.makesIn K cG = true)
    (kp6 : PySem.W.keepIn K (.ref cG) = true)
    (i1 : PySem.W.findIn K (.type "int") "__add__" = some (some (.builtin "int.__add__")))
    (i2 : PySem.W.findIn K (.type "int") "__radd__" = some (some (.builtin "int.__radd__")))
    (anm0 : mg "Number" = some (.ref aA))
    (acl0 : Cls K aA)
    (ab0 : BkI K aA)
    (aic0 : PySem.W.isClsIn K aA = true)
    (ati0 : PySem.W.typeIn K (.ref aA) = some (.type "type"))
    (an0_0 : NoAttr K aA "stream")
    (an0_1 : NoAttr K aA "term")
    (an0_2 : NoAttr K aA "first")
    (an0_3 : NoAttr K aA "last")
    (an0_4 : NoAttr K aA "spelling")
    (as0_0 : PySem.W.subIn K (.ref aA) (.ref aA) = some true)
    (as0_1 : PySem.W.subIn K (.ref aA) (.ref aB) = some false)
    (as0_2 : PySem.W.subIn K (.ref aA) (.ref aC) = some false)
    (as0_3 : PySem.W.subIn K (.ref aA) (.ref aD) = some false)
    (at0_0 : PySem.W.subIn K (.ref aA) (.ref cA) = some false)
    (at0_1 : PySem.W.subIn K (.ref aA) (.ref cB) = some false)
    (at0_2 : PySem.W.subIn K (.ref aA) (.ref cC) = some false)
    (at0_3 : PySem.W.subIn K (.ref aA) (.ref cD) = some false)
    (at0_4 : PySem.W.subIn K (.ref aA) (.ref cE) = some false)
    (at0_5 : PySem.W.subIn K (.ref aA) (.ref cF) = some false)
    (at0_6 : PySem.W.subIn K (.ref aA) (.ref cG) = some false)
    (amk0 : PySem.W.makesIn K aA = true)
    (akp0 : PySem.W.keepIn K (.ref aA) = true)
    (anm1 : mg "Count" = some (.ref aB))
    (acl1 : Cls K aB)
    (ab1 : BkI K aB)
    (aic1 : PySem.W.isClsIn K aB = true)
    (ati1 : PySem.W.typeIn K (.ref aB) = some (.type "type"))
    (an1_0 : NoAttr K aB "stream")
    (an1_1 : NoAttr K aB "term")
    (an1_2 : NoAttr K aB "first")
    (an1_3 : NoAttr K aB "last")
    (an1_4 : NoAttr K aB "spelling")
    (as1_0 : PySem.W.subIn K (.ref aB) (.ref aA) = some false)
    (as1_1 : PySem.W.subIn K (.ref aB) (.ref aB) = some true)
    (as1_2 : PySem.W.subIn K (.ref aB) (.ref aC) = some false)
    (as1_3 : PySem.W.subIn K (.ref aB) (.ref aD) = some false)
    (at1_0 : PySem.W.subIn K (.ref aB) (.ref cA) = some false)
    (at1_1 : PySem.W.subIn K (.ref aB) (.ref cB) = some false)
    (at1_2 : PySem.W.subIn K (.ref aB) (.ref cC) = some false)
    (at1_3 : PySem.W.subIn K (.ref aB) (.ref cD) = some false)
    (at1_4 : PySem.W.subIn K (.ref aB) (.ref cE) = some false)
    (at1_5 : PySem.W.subIn K (.ref aB) (.ref cF) = some false)
    (at1_6 : PySem.W.subIn K (.ref aB) (.ref cG) = some false)
    (amk1 : PySem.W.makesIn K aB = true)
    (akp1 : PySem.W.keepIn K (.ref aB) = true)
    (anm2 : mg "Total" = some (.ref aC))
    (acl2 : Cls K aC)
    (ab2 : BkI K aC)
    (aic2 : PySem.W.isClsIn K aC = true)
    (ati2 : PySem.W.typeIn K (.ref aC) = some (.type "type"))
    (an2_0 : NoAttr K aC "stream")
    (an2_1 : NoAttr K aC "term")
    (an2_2 : NoAttr K aC "first")
    (an2_3 : NoAttr K aC "last")
    (an2_4 : NoAttr K aC "spelling")
    (as2_0 : PySem.W.subIn K (.ref aC) (.ref aA) = some false)
    (as2_1 : PySem.W.subIn K (.ref aC) (.ref aB) = some false)
    (as2_2 : PySem.W.subIn K (.ref aC) (.ref aC) = some true)
    (as2_3 : PySem.W.subIn K (.ref aC) (.ref aD) = some false)
    (at2_0 : PySem.W.subIn K (.ref aC) (.ref cA) = some false)
    (at2_1 : PySem.W.subIn K (.ref aC) (.ref cB) = some false)
    (at2_2 : PySem.W.subIn K (.ref aC) (.ref cC) = some false)
    (at2_3 : PySem.W.subIn K (.ref aC) (.ref cD) = some false)
    (at2_4 : PySem.W.subIn K (.ref aC) (.ref cE) = some false)
    (at2_5 : PySem.W.subIn K (.ref aC) (.ref cF) = some false)
    (at2_6 : PySem.W.subIn K (.ref aC) (.ref cG) = some false)
    (amk2 : PySem.W.makesIn K aC = true)
    (akp2 : PySem.W.keepIn K (.ref aC) = true)
    (anm3 : mg "Gap" = some (.ref aD))
    (acl3 : Cls K aD)
    (ab3 : BkI K aD)
    (aic3 : PySem.W.isClsIn K aD = true)
    (ati3 : PySem.W.typeIn K (.ref aD) = some (.type "type"))
    (an3_0 : NoAttr K aD "stream")
    (an3_1 : NoAttr K aD "term")
    (an3_2 : NoAttr K aD "first")
    (an3_3 : NoAttr K aD "last")
    (an3_4 : NoAttr K aD "spelling")
    (as3_0 : PySem.W.subIn K (.ref aD) (.ref aA) = some false)
    (as3_1 : PySem.W.subIn K (.ref aD) (.ref aB) = some false)
    (as3_2 : PySem.W.subIn K (.ref aD) (.ref aC) = some false)
    (as3_3 : PySem.W.subIn K (.ref aD) (.ref aD) = some true)
    (at3_0 : PySem.W.subIn K (.ref aD) (.ref cA) = some false)
    (at3_1 : PySem.W.subIn K (.ref aD) (.ref cB) = some false)
    (at3_2 : PySem.W.subIn K (.ref aD) (.ref cC) = some false)
    (at3_3 : PySem.W.subIn K (.ref aD) (.ref cD) = some false)
    (at3_4 : PySem.W.subIn K (.ref aD) (.ref cE) = some false)
    (at3_5 : PySem.W.subIn K (.ref aD) (.ref cF) = some false)
    (at3_6 : PySem.W.subIn K (.ref aD) (.ref cG) = some false)
    (amk3 : PySem.W.makesIn K aD = true)
    (akp3 : PySem.W.keepIn K (.ref aD) = true)
    (d_is_integer : D1 K mg "is_integer" s_is_integer)
    (d_is_natural : D1 K mg "is_natural" s_is_natural)
    (d_is_name : D1 K mg "is_name" s_is_name)
    (d_are_integers : D1 K mg "are_integers" s_are_integers)
    (d_is_row : D1 K mg "is_row" s_is_row)
    (d_are_rows : D1 K mg "are_rows" s_are_rows)
    (d_first_twice : D1 K mg "first_twice" s_first_twice)
    (d_is_rows : D1 K mg "is_rows" s_is_rows)
    (d_is_term : D1 K mg "is_term" s_is_term)
    (d_is_look : D1 K mg "is_look" s_is_look)
    (d_checked_stream : D1 K mg "checked_stream" s_checked_stream)
    (d_checked_term : D1 K mg "checked_term" s_checked_term)
    (d_sizes : D1 K mg "sizes" s_sizes)
    (d_shifted : D1 K mg "shifted" s_shifted)
    (d_last_row : D1 K mg "last_row" s_last_row)
    (d_next_row : D1 K mg "next_row" s_next_row)
    (d_moved : D1 K mg "moved" s_moved)
    (d_looked : D1 K mg "looked" s_looked)
    (d_followed_either : D1 K mg "followed_either" s_followed_either)
    (d_followed_both : D1 K mg "followed_both" s_followed_both)
    (d_followed : D1 K mg "followed" s_followed)
    (d_is_amount : D1 K mg "is_amount" s_is_amount)
    (d_told_between : D1 K mg "told_between" s_told_between)
    (d_is_question : D1 K mg "is_question" s_is_question)
    (d_check : D1 K mg "check" s_check)
    (d_answered : D1 K mg "answered" s_answered)
    (d_value : D1 K mg "value" s_value)
    (d__law_pool : D1 K mg "_law_pool" s_l_pool)
    (d__law_draw : D1 K mg "_law_draw" s_l_draw)
    (d__law_names : D1 K mg "_law_names" s_l_names)
    (d__law_moment : D1 K mg "_law_moment" s_l_moment)
    (d__law_rows : D1 K mg "_law_rows" s_l_rows)
    (d__law_term : D1 K mg "_law_term" s_l_term)
    (d__law_built : D1 K mg "_law_built" s_l_built)
    (d_support : D1 K mg "support" s_support)
    (d__law_question : D1 K mg "_law_question" s_l_question)
    (d__law_asked : D1 K mg "_law_asked" s_l_asked)
    (d__law_changed : D1 K mg "_law_changed" s_l_changed)
    (d__law_opposite : D1 K mg "_law_opposite" s_l_opposite)
    (d__law_renamed : D1 K mg "_law_renamed" s_l_renamed)
    (d__law_turned : D1 K mg "_law_turned" s_l_turned)
    (d__law_plus : D1 K mg "_law_plus" s_l_plus)
    (m_WI : DM K CW "__init__" "World.__init__" s_World_init)
    (m_WR : DM K CW "rows" "World.rows" s_World_rows)
    (m_NI : DM K cA "__init__" "Now.__init__" s_Now_init)
    (m_LI : DM K cB "__init__" "Last.__init__" s_Last_init)
    (m_XI : DM K cC "__init__" "Next.__init__" s_Next_init)
    (m_SI : DM K cD "__init__" "Shift.__init__" s_Shift_init)
    (m_EI : DM K cE "__init__" "Either.__init__" s_Either_init)
    (m_JI : DM K cF "__init__" "Later.__init__" s_Later_init)
    (m_KI : DM K cG "__init__" "Earlier.__init__" s_Earlier_init)
    (m_nuI : DM K aA "__init__" "Number.__init__" s_Number_init)
    (m_coI : DM K aB "__init__" "Count.__init__" s_Count_init)
    (m_toI : DM K aC "__init__" "Total.__init__" s_Total_init)
    (m_gaI : DM K aD "__init__" "Gap.__init__" s_Gap_init)
    (m_add : DQ K cA fadd "__add__" "Term.__add__" s_Term_add)
    (m_ior : DQ K cA fior "__or__" "Term.__or__" s_Term_or)
    (m_lat : DQ K cA flat "later" "Term.later" s_Term_later)
    (m_ear : DQ K cA fear "earlier" "Term.earlier" s_Term_earlier)
    : ∃ fd : FuncData, (∀ (s : Shared) (v : Value), BindsTo s fd ⟨[v], []⟩ [("script", v)]) ∧ ∀ base : Heap, K.In base → base.Ns mainGlobals mg → FnOk P w K mg base CX0 40 fa fd ["script"] (spLaw K) := by
  have e := hfa.symm.trans (PySem.W.mg_of X G a4)
  cases e
  exact ⟨PySem.W.fnOf "law" "law" (defArgs s_law) (defBody s_law) (defScope s_law) .none kV4 dc4 pm4 an4 cd4 ct4, fun s v => .of_eq rfl, fun base _ _ => all_ok B Cs TW wi mkW kW nm0 cl0 b0 ic0 ti0 sf0 at0 rt0 si0 or0 ro0 la0 ea0 n0_0 n0_1 n0_2 n0_3 n0_4 n0_5 n0_6 n0_7 n0_8 n0_9 s0_0 s0_1 s0_2 s0_3 s0_4 s0_5 s0_6 nm1 cl1 b1 ic1 ti1 sf1 at1 rt1 si1 or1 ro1 la1 ea1 n1_0 n1_1 n1_2 n1_3 n1_4 n1_5 n1_6 n1_7 n1_8 n1_9 s1_0 s1_1 s1_2 s1_3 s1_4 s1_5 s1_6 nm2 cl2 b2 ic2 ti2 sf2 at2 rt2 si2 or2 ro2 la2 ea2 n2_0 n2_1 n2_2 n2_3 n2_4 n2_5 n2_6 n2_7 n2_8 n2_9 s2_0 s2_1 s2_2 s2_3 s2_4 s2_5 s2_6 nm3 cl3 b3 ic3 ti3 sf3 at3 rt3 si3 or3 ro3 la3 ea3 n3_0 n3_1 n3_2 n3_3 n3_4 n3_5 n3_6 n3_7 n3_8 n3_9 s3_0 s3_1 s3_2 s3_3 s3_4 s3_5 s3_6 nm4 cl4 b4 ic4 ti4 sf4 at4 rt4 si4 or4 ro4 la4 ea4 n4_0 n4_1 n4_2 n4_3 n4_4 n4_5 n4_6 n4_7 n4_8 n4_9 s4_0 s4_1 s4_2 s4_3 s4_4 s4_5 s4_6 nm5 cl5 b5 ic5 ti5 sf5 at5 rt5 si5 or5 ro5 la5 ea5 n5_0 n5_1 n5_2 n5_3 n5_4 n5_5 n5_6 n5_7 n5_8 n5_9 s5_0 s5_1 s5_2 s5_3 s5_4 s5_5 s5_6 nm6 cl6 b6 ic6 ti6 sf6 at6 rt6 si6 or6 ro6 la6 ea6 n6_0 n6_1 n6_2 n6_3 n6_4 n6_5 n6_6 n6_7 n6_8 n6_9 s6_0 s6_1 s6_2 s6_3 s6_4 s6_5 s6_6 mk0 kp0 mk1 kp1 mk2 kp2 mk3 kp3 mk4 kp4 mk5 kp5 mk6 kp6 i1 i2 anm0 acl0 ab0 aic0 ati0 an0_0 an0_1 an0_2 an0_3 an0_4 as0_0 as0_1 as0_2 as0_3 at0_0 at0_1 at0_2 at0_3 at0_4 at0_5 at0_6 amk0 akp0 anm1 acl1 ab1 aic1 ati1 an1_0 an1_1 an1_2 an1_3 an1_4 as1_0 as1_1 as1_2 as1_3 at1_0 at1_1 at1_2 at1_3 at1_4 at1_5 at1_6 amk1 akp1 anm2 acl2 ab2 aic2 ati2 an2_0 an2_1 an2_2 an2_3 an2_4 as2_0 as2_1 as2_2 as2_3 at2_0 at2_1 at2_2 at2_3 at2_4 at2_5 at2_6 amk2 akp2 anm3 acl3 ab3 aic3 ati3 an3_0 an3_1 an3_2 an3_3 an3_4 as3_0 as3_1 as3_2 as3_3 at3_0 at3_1 at3_2 at3_3 at3_4 at3_5 at3_6 amk3 akp3 d_is_integer d_is_natural d_is_name d_are_integers d_is_row d_are_rows d_first_twice d_is_rows d_is_term d_is_look d_checked_stream d_checked_term d_sizes d_shifted d_last_row d_next_row d_moved d_looked d_followed_either d_followed_both d_followed d_is_amount d_told_between d_is_question d_check d_answered d_value d__law_pool d__law_draw d__law_names d__law_moment d__law_rows d__law_term d__law_built d_support d__law_question d__law_asked d__law_changed d__law_opposite d__law_renamed d__law_turned d__law_plus m_WI m_WR m_NI m_LI m_XI m_SI m_EI m_JI m_KI m_nuI m_coI m_toI m_gaI m_add m_ior m_lat m_ear (fun_mk l4 c4 k4)⟩
theorem walk {l : PySem.W.OpenLaw} {q : Program} {loose : List Str} {XP : (Str → Option Value) → Heap → Prop} {YP : World → Heap → Prop} {d : DefRec} {K : Params → PySem.W.Frag} (hn : l.most = some 63) (hdf : d.params.defaults = [])
    (hY : ∀ (w : World) (h : Heap), YP w h → (K w.params).In h)
    (F : ∀ (w : World) (mg : Str → Option Value) (fa : Addr) (h : Heap), (K w.params).In h → h.Ns mainGlobals mg → mg d.name = some (.ref fa) →
      ∃ fd : FuncData, (∀ (s : Shared) (u : Value), BindsTo s fd ⟨[u], []⟩ [("script", u)]) ∧ ∀ base : Heap, (K w.params).In base → base.Ns mainGlobals mg → FnOk l.prog w (K w.params) mg base CX0 40 fa fd ["script"] (spLaw (K w.params))) :
    PySem.W.WalkO q loose XP YP l.row.toRowW d [] (fun f vs => PySem.call f vs) :=
  L2.walk_of (n := 63) (k := 40) (x := "script") (CX := fun _ => CX0) (sp := fun w => spLaw (K w.params)) hn (by decide) hdf ⟨rfl, by decide, by decide⟩ hY F (fun _ _ a ns hl _ hS => ⟨a, ns, rfl, hS, hl, fun _ => rfl⟩) fun _ _ _ _ _ z => z
end Ash

set_option Elab.async false
open PySem PySem.W PyProof.Rows
/-! names that are taken: the head makes no twins of these parts of the heap -/
theorem PySem.W.Fast.tw14420507839228132152 : True := trivial
theorem PySem.W.Fast.tw4396170417747423109 : True := trivial
theorem PySem.W.Fast.tw7187082290444105519 : True := trivial
theorem PySem.W.Fast.tw7568958005742371723 : True := trivial
theorem PySem.W.Fast.tw11937467789736801470 : True := trivial
theorem PySem.W.Fast.tw886544001258270458 : True := trivial
theorem PySem.W.Fast.tw3693889912946453815 : True := trivial
theorem PySem.W.Fast.tw16027555658225549610 : True := trivial
theorem PySem.W.Fast.tw18079267761440071046 : True := trivial
theorem PySem.W.Fast.tw3026117952680536347 : True := trivial
theorem PySem.W.Fast.tw17194598534093609735 : True := trivial
theorem PySem.W.Fast.tw18119234826637720330 : True := trivial
theorem PySem.W.Fast.tw4408927692494388310 : True := trivial
theorem PySem.W.Fast.tw16144207556901755779 : True := trivial
theorem PySem.W.Fast.tw12145179426611349456 : True := trivial
theorem PySem.W.Fast.tw11746272751311598914 : True := trivial
theorem PySem.W.Fast.tw11719334719468719175 : True := trivial
theorem PySem.W.Fast.tw10931030506850651305 : True := trivial
theorem PySem.W.Fast.tw17200727981227725679 : True := trivial
theorem PySem.W.Fast.tw1308399057676743410 : True := trivial
theorem PySem.W.Fast.tw478523143845386386 : True := trivial
theorem PySem.W.Fast.tw5736447971121986980 : True := trivial
theorem PySem.W.Fast.tw4678782860810536789 : True := trivial
theorem PySem.W.Fast.tw6566784820054575428 : True := trivial
theorem PySem.W.Fast.tw7530014206090872779 : True := trivial
theorem PySem.W.Fast.tw5646940270188701105 : True := trivial
theorem PySem.W.Fast.tw6304868464715168665 : True := trivial
theorem PySem.W.Fast.tw7751335331144977775 : True := trivial
theorem PySem.W.Fast.tw14551980202350896059 : True := trivial
theorem PySem.W.Fast.tw17228074748151654577 : True := trivial
theorem PySem.W.Fast.tw14174003325856691711 : True := trivial
theorem PySem.W.Fast.tw8312948359174558990 : True := trivial
theorem PySem.W.Fast.tw8436069594119172950 : True := trivial
theorem PySem.W.Fast.tw17160862491706830921 : True := trivial
theorem PySem.W.Fast.tw10125989381403654297 : True := trivial
theorem PySem.W.Fast.tw13731462835138109888 : True := trivial
theorem PySem.W.Fast.tw18064235218273377335 : True := trivial
theorem PySem.W.Fast.tw2432967209559395040 : True := trivial
theorem PySem.W.Fast.tw9496699636913781231 : True := trivial
theorem PySem.W.Fast.tw1194423978808826867 : True := trivial
theorem PySem.W.Fast.tw15493075852292953650 : True := trivial
theorem PySem.W.Fast.tw6181517751056555717 : True := trivial
theorem PySem.W.Fast.tw5015191293593124618 : True := trivial
theorem PySem.W.Fast.tw1536865720454513593 : True := trivial
theorem PySem.W.Fast.tw15371819826473124231 : True := trivial
theorem PySem.W.Fast.tw16059428356121274402 : True := trivial
theorem PySem.W.Fast.tw15473994523084769435 : True := trivial
theorem PySem.W.Fast.tw1247031678315265142 : True := trivial
theorem PySem.W.Fast.tw14464737387731961474 : True := trivial
theorem PySem.W.Fast.tw9320545747129044074 : True := trivial
theorem PySem.W.Fast.tw10735612128937662076 : True := trivial
theorem PySem.W.Fast.tw11100510671806788977 : True := trivial
theorem PySem.W.Fast.tw4867271324436060742 : True := trivial
theorem PySem.W.Fast.tw15929784242657262691 : True := trivial
theorem PySem.W.Fast.tw11771151141663570862 : True := trivial
theorem PySem.W.Fast.tw1099947283648178436 : True := trivial
theorem PySem.W.Fast.tw15370197127008978519 : True := trivial
theorem PySem.W.Fast.tw15889628017966077482 : True := trivial
theorem PySem.W.Fast.tw15205408454636966176 : True := trivial
theorem PySem.W.Fast.tw15641665608701652337 : True := trivial
theorem PySem.W.Fast.tw13460001459464558452 : True := trivial
theorem PySem.W.Fast.tw8732358368650425187 : True := trivial
theorem PySem.W.Fast.tw4484478155668769989 : True := trivial
theorem PySem.W.Fast.tw962070995375503880 : True := trivial
theorem PySem.W.Fast.tw13298798780164411969 : True := trivial
theorem PySem.W.Fast.tw2109731655719233392 : True := trivial
theorem PySem.W.Fast.tw17670971998953363128 : True := trivial
theorem PySem.W.Fast.tw7371861348012851874 : True := trivial
theorem PySem.W.Fast.tw1882071646968626506 : True := trivial
theorem PySem.W.Fast.tw9346900461954636542 : True := trivial
theorem PySem.W.Fast.tw15845451770021621271 : True := trivial
theorem PySem.W.Fast.tw17667174736678607497 : True := trivial
theorem PySem.W.Fast.tw15383802352269478937 : True := trivial
theorem PySem.W.Fast.tw15463219763604485903 : True := trivial
theorem PySem.W.Fast.tw11992541410276810094 : True := trivial
theorem PySem.W.Fast.tw8505324614243726154 : True := trivial
theorem PySem.W.Fast.tw11236825807104490868 : True := trivial
theorem PySem.W.Fast.tw17008170411849618655 : True := trivial
theorem PySem.W.Fast.tw11767381062623754266 : True := trivial
theorem PySem.W.Fast.tw3693261223340265971 : True := trivial
theorem PySem.W.Fast.tw14974248132672834904 : True := trivial
theorem PySem.W.Fast.tw2834062512795032165 : True := trivial
theorem PySem.W.Fast.tw625359033453181808 : True := trivial
theorem PySem.W.Fast.tw8208633879616798963 : True := trivial
theorem PySem.W.Fast.tw2719439907093094535 : True := trivial
theorem PySem.W.Fast.tw1713209902651368349 : True := trivial
theorem PySem.W.Fast.tw18397548467230418521 : True := trivial
theorem PySem.W.Fast.tw3418239791164036499 : True := trivial
theorem PySem.W.Fast.tw18213531716628990006 : True := trivial
theorem PySem.W.Fast.tw18182498344756573461 : True := trivial
theorem PySem.W.Fast.tw17694916749551632371 : True := trivial
theorem PySem.W.Fast.tw7349422190572737086 : True := trivial
theorem PySem.W.Fast.tw4835238513198465872 : True := trivial
theorem PySem.W.Fast.tw14224934318170498134 : True := trivial
theorem PySem.W.Fast.tw15036076617684514758 : True := trivial
theorem PySem.W.Fast.tw2702526438466429498 : True := trivial
theorem PySem.W.Fast.tw15629656517379226539 : True := trivial
theorem PySem.W.Fast.tw7911963174896273319 : True := trivial
theorem PySem.W.Fast.tw6260520853576934355 : True := trivial
theorem PySem.W.Fast.tw14265749815158866271 : True := trivial
theorem PySem.W.Fast.tw2089774238639234506 : True := trivial
theorem PySem.W.Fast.tw7274540853207357722 : True := trivial
theorem PySem.W.Fast.tw4007047778136512845 : True := trivial
theorem PySem.W.Fast.tw15404143399409248191 : True := trivial
theorem PySem.W.Fast.tw10978768612624350651 : True := trivial
theorem PySem.W.Fast.tw4929302170704086766 : True := trivial
theorem PySem.W.Fast.tw13215233949140058809 : True := trivial
theorem PySem.W.Fast.tw1684625278538672147 : True := trivial
theorem PySem.W.Fast.tw14070339704767943481 : True := trivial
theorem PySem.W.Fast.tw5306712727042080046 : True := trivial
theorem PySem.W.Fast.tw13538868916270725905 : True := trivial
theorem PySem.W.Fast.tw6929204559197046437 : True := trivial
theorem PySem.W.Fast.tw760457661961185891 : True := trivial
theorem PySem.W.Fast.tw5486483115730286019 : True := trivial
theorem PySem.W.Fast.tw7999966079030840854 : True := trivial
theorem PySem.W.Fast.tw14761744774868008615 : True := trivial
theorem PySem.W.Fast.tw9004030828963998496 : True := trivial
theorem PySem.W.Fast.tw3863132003338615890 : True := trivial
theorem PySem.W.Fast.tw16541627147830267374 : True := trivial
theorem PySem.W.Fast.tw14525455428947147835 : True := trivial
theorem PySem.W.Fast.tw2667806831131155674 : True := trivial
theorem PySem.W.Fast.tw5009330602213746363 : True := trivial
theorem PySem.W.Fast.tw5769746846827369841 : True := trivial
theorem PySem.W.Fast.tw14484752795152283294 : True := trivial
theorem PySem.W.Fast.tw14202199379171048010 : True := trivial
theorem PySem.W.Fast.tw2414485180577595802 : True := trivial
theorem PySem.W.Fast.tw8644946168291730647 : True := trivial
theorem PySem.W.Fast.tw15635493476284753239 : True := trivial
theorem PySem.W.Fast.tw1084338611887450864 : True := trivial
theorem PySem.W.Fast.tw5991680954834267504 : True := trivial
theorem PySem.W.Fast.tw10619391642834291493 : True := trivial
theorem PySem.W.Fast.tw17553134278836784414 : True := trivial
theorem PySem.W.Fast.tw12428845565663915839 : True := trivial
theorem PySem.W.Fast.tw16363294470195951568 : True := trivial
theorem PySem.W.Fast.tw2793069880119688956 : True := trivial
theorem PySem.W.Fast.tw4280699362512920644 : True := trivial
theorem PySem.W.Fast.tw7605079512794965401 : True := trivial
theorem PySem.W.Fast.tw8333014842944998019 : True := trivial
theorem PySem.W.Fast.tw3891051444482760251 : True := trivial
theorem PySem.W.Fast.tw3838606168364175361 : True := trivial
theorem PySem.W.Fast.tw8727697012472541219 : True := trivial
theorem PySem.W.Fast.tw162328813243972562 : True := trivial
theorem PySem.W.Fast.tw8410326567196039793 : True := trivial
theorem PySem.W.Fast.tw11663075168844549552 : True := trivial
theorem PySem.W.Fast.tw11689676563708547705 : True := trivial
theorem PySem.W.Fast.tw4900617254210127243 : True := trivial
theorem PySem.W.Fast.tw12070528499109996451 : True := trivial
theorem PySem.W.Fast.tw18018241673673375159 : True := trivial
theorem PySem.W.Fast.tw17972206863012598831 : True := trivial
theorem PySem.W.Fast.tw180749391607165805 : True := trivial
theorem PySem.W.Fast.tw9983197311946246349 : True := trivial
theorem PySem.W.Fast.tw6526489945888726202 : True := trivial
theorem PySem.W.Fast.tw9855833813070052614 : True := trivial
theorem PySem.W.Fast.tw7743393934401955891 : True := trivial
theorem PySem.W.Fast.tw15779286008106706303 : True := trivial
theorem PySem.W.Fast.tw7896211034764411900 : True := trivial
theorem PySem.W.Fast.tw11691164154709082486 : True := trivial
theorem PySem.W.Fast.tw10784040424649339041 : True := trivial
theorem PySem.W.Fast.tw189272510983972046 : True := trivial
theorem PySem.W.Fast.tw6452260377813512807 : True := trivial
theorem PySem.W.Fast.tw17379968334190593408 : True := trivial
theorem PySem.W.Fast.tw17400569124342851336 : True := trivial
theorem PySem.W.Fast.tw17676641211366116408 : True := trivial
theorem PySem.W.Fast.tw5116536110690223278 : True := trivial
theorem PySem.W.Fast.tw10196918295944101724 : True := trivial
theorem PySem.W.Fast.tw15895461883968840147 : True := trivial
theorem PySem.W.Fast.tw12389482494893583480 : True := trivial
theorem PySem.W.Fast.tw13102007321721229900 : True := trivial
theorem PySem.W.Fast.tw7305532715281003588 : True := trivial
theorem PySem.W.Fast.tw12468346889979597822 : True := trivial
theorem PySem.W.Fast.tw12137625684533971449 : True := trivial
theorem PySem.W.Fast.tw3998315092034404878 : True := trivial
theorem PySem.W.Fast.tw11718669988767649337 : True := trivial
theorem PySem.W.Fast.tw17541376786216919541 : True := trivial
theorem PySem.W.Fast.tw5034166739792063163 : True := trivial
theorem PySem.W.Fast.tw6339995893918476249 : True := trivial
theorem PySem.W.Fast.tw18006113113492478674 : True := trivial
theorem PySem.W.Fast.tw11389989953347442622 : True := trivial
theorem PySem.W.Fast.tw4314108283564053522 : True := trivial
theorem PySem.W.Fast.tw12313466978322831432 : True := trivial
theorem PySem.W.Fast.tw11776892951856430440 : True := trivial
theorem PySem.W.Fast.tw12632721788105629847 : True := trivial
theorem PySem.W.Fast.tw15296677198630777404 : True := trivial
theorem PySem.W.Fast.tw13916647382102208507 : True := trivial
theorem PySem.W.Fast.tw2436100543349454225 : True := trivial
theorem PySem.W.Fast.tw17811234593546740316 : True := trivial
theorem PySem.W.Fast.tw1406248239772120137 : True := trivial
theorem PySem.W.Fast.tw3594022262683590175 : True := trivial
theorem PySem.W.Fast.tw7651760728499598267 : True := trivial
theorem PySem.W.Fast.tw1732262503089141537 : True := trivial
theorem PySem.W.Fast.tw10527509924358625852 : True := trivial
theorem PySem.W.Fast.tw7139391050635507928 : True := trivial
theorem PySem.W.Fast.tw10694916260406045240 : True := trivial
theorem PySem.W.Fast.tw307966487625514769 : True := trivial
theorem PySem.W.Fast.tw11767341024460387246 : True := trivial
theorem PySem.W.Fast.tw15542900615662481338 : True := trivial
theorem PySem.W.Fast.tw13340669269275608936 : True := trivial
theorem PySem.W.Fast.tw14557687751207058968 : True := trivial
theorem PySem.W.Fast.tw6703174957643455478 : True := trivial
theorem PySem.W.Fast.tw9176718504891495692 : True := trivial
theorem PySem.W.Fast.tw12217489189139822010 : True := trivial
theorem PySem.W.Fast.tw14096173725131704391 : True := trivial
theorem PySem.W.Fast.tw9257750358151388643 : True := trivial
theorem PySem.W.Fast.tw6091490555820924609 : True := trivial
theorem PySem.W.Fast.tw2400958330553026453 : True := trivial
theorem PySem.W.Fast.tw9862390476967884621 : True := trivial
theorem PySem.W.Fast.tw2165002580585267515 : True := trivial
theorem PySem.W.Fast.tw3181814027722567077 : True := trivial
theorem PySem.W.Fast.tw1681312439996070443 : True := trivial
theorem PySem.W.Fast.tw2451007752011068994 : True := trivial
theorem PySem.W.Fast.tw15796922224971058447 : True := trivial
theorem PySem.W.Fast.tw7830168360828729735 : True := trivial
theorem PySem.W.Fast.tw14913343570653337338 : True := trivial
theorem PySem.W.Fast.tw9590502253642103718 : True := trivial
theorem PySem.W.Fast.tw9850202820042391489 : True := trivial
theorem PySem.W.Fast.tw5772033892602138024 : True := trivial
theorem PySem.W.Fast.tw4224480817757714996 : True := trivial
theorem PySem.W.Fast.tw15677007318989284860 : True := trivial
theorem PySem.W.Fast.tw12660891210499021288 : True := trivial
theorem PySem.W.Fast.tw5709025451229007529 : True := trivial
theorem PySem.W.Fast.tw10305409542141559356 : True := trivial
theorem PySem.W.Fast.tw8317748787509151714 : True := trivial
theorem PySem.W.Fast.tw11537537378488468526 : True := trivial
theorem PySem.W.Fast.tw13626132887115726221 : True := trivial
theorem PySem.W.Fast.tw13618077577493303383 : True := trivial
theorem PySem.W.Fast.tw18391103328366375096 : True := trivial
theorem PySem.W.Fast.tw4900178075543081204 : True := trivial
theorem PySem.W.Fast.tw9221966070455601811 : True := trivial
theorem PySem.W.Fast.tw12133610697058702498 : True := trivial
theorem PySem.W.Fast.tw13414925622967424917 : True := trivial
theorem PySem.W.Fast.tw5972447439587168951 : True := trivial
theorem PySem.W.Fast.tw6296041528616447853 : True := trivial
theorem PySem.W.Fast.tw3337859680802211757 : True := trivial
theorem PySem.W.Fast.tw4737266609624098746 : True := trivial
theorem PySem.W.Fast.tw3275785266355812283 : True := trivial
theorem PySem.W.Fast.tw9972298410155426706 : True := trivial
theorem PySem.W.Fast.tw11772804057795260960 : True := trivial
theorem PySem.W.Fast.tw16264280013341263288 : True := trivial
theorem PySem.W.Fast.tw1331506520100009863 : True := trivial
theorem PySem.W.Fast.tw4414973704737651388 : True := trivial
theorem PySem.W.Fast.tw8746542668795105023 : True := trivial
theorem PySem.W.Fast.tw4015992555262655234 : True := trivial
theorem PySem.W.Fast.tw11710049864435858066 : True := trivial
theorem PySem.W.Fast.tw16833065656962435386 : True := trivial
theorem PySem.W.Fast.tw437928675488449398 : True := trivial
theorem PySem.W.Fast.tw8092658698539909348 : True := trivial
theorem PySem.W.Fast.tw4399330308835040968 : True := trivial
theorem PySem.W.Fast.tw391249945549294220 : True := trivial
theorem PySem.W.Fast.tw12703012160051302619 : True := trivial
theorem PySem.W.Fast.tw11070037954979251309 : True := trivial
theorem PySem.W.Fast.tw10468551471956601635 : True := trivial
theorem PySem.W.Fast.tw10865261684988659837 : True := trivial
theorem PySem.W.Fast.tw16163339950312052563 : True := trivial
theorem PySem.W.Fast.tw7679942601416093753 : True := trivial
theorem PySem.W.Fast.tw15668540471347900966 : True := trivial
theorem PySem.W.Fast.tw813921221395777442 : True := trivial
theorem PySem.W.Fast.tw1324021462660765842 : True := trivial
theorem PySem.W.Fast.tw655937682508196245 : True := trivial
theorem PySem.W.Fast.tw11108229904771494567 : True := trivial
theorem PySem.W.Fast.tw4369126861145682083 : True := trivial
theorem PySem.W.Fast.tw4064394191780029619 : True := trivial
theorem PySem.W.Fast.tw1445497324972812910 : True := trivial
theorem PySem.W.Fast.tw2086302570705283834 : True := trivial
theorem PySem.W.Fast.tw18211197622732010440 : True := trivial
theorem PySem.W.Fast.tw5966504152395895526 : True := trivial
theorem PySem.W.Fast.tw1485146075922577551 : True := trivial
theorem PySem.W.Fast.tw3285696895116957618 : True := trivial
theorem PySem.W.Fast.tw16790406466548263928 : True := trivial
theorem PySem.W.Fast.tw15005980666008946424 : True := trivial
theorem PySem.W.Fast.tw4074453492843807698 : True := trivial
theorem PySem.W.Fast.tw10198196849449093311 : True := trivial
theorem PySem.W.Fast.tw1774507758886719711 : True := trivial
theorem PySem.W.Fast.tw8692512692143361367 : True := trivial
theorem PySem.W.Fast.tw16097516395940631039 : True := trivial
theorem PySem.W.Fast.tw4824423186138907603 : True := trivial
theorem PySem.W.Fast.tw5816930676509474474 : True := trivial
theorem PySem.W.Fast.tw8706568894710143773 : True := trivial
theorem PySem.W.Fast.tw18159333487315605321 : True := trivial
theorem PySem.W.Fast.tw7047999848553857421 : True := trivial
theorem PySem.W.Fast.tw16226198388847369159 : True := trivial
theorem PySem.W.Fast.tw12875466503423927960 : True := trivial
theorem PySem.W.Fast.tw15208121082289463838 : True := trivial
theorem PySem.W.Fast.tw1714279822679817342 : True := trivial
theorem PySem.W.Fast.tw15520556289003857498 : True := trivial
theorem PySem.W.Fast.tw16096690965042924027 : True := trivial
theorem PySem.W.Fast.tw18224102317336732280 : True := trivial
theorem PySem.W.Fast.tw5174677683446079035 : True := trivial
theorem PySem.W.Fast.tw11096352124607870777 : True := trivial
theorem PySem.W.Fast.tw9007625858617319722 : True := trivial
theorem PySem.W.Fast.tw8393345270362993919 : True := trivial
theorem PySem.W.Fast.tw4068627540167725321 : True := trivial
theorem PySem.W.Fast.tw16178577563290069646 : True := trivial
theorem PySem.W.Fast.tw16497518552052973836 : True := trivial
theorem PySem.W.Fast.tw9448657590490353730 : True := trivial
theorem PySem.W.Fast.tw17021396215941995719 : True := trivial
theorem PySem.W.Fast.tw3390143804667044969 : True := trivial
theorem PySem.W.Fast.tw2281526155808381176 : True := trivial
theorem PySem.W.Fast.tw6368684147334363755 : True := trivial
theorem PySem.W.Fast.tw16468423987980097615 : True := trivial
theorem PySem.W.Fast.tw1501675209560334262 : True := trivial
theorem PySem.W.Fast.tw2904973834578782386 : True := trivial
theorem PySem.W.Fast.tw3905712025530659233 : True := trivial
theorem PySem.W.Fast.tw15444270536341940504 : True := trivial
theorem PySem.W.Fast.tw12074453176735981909 : True := trivial
theorem PySem.W.Fast.tw964240263396477062 : True := trivial
theorem PySem.W.Fast.tw7374789170354101844 : True := trivial
theorem PySem.W.Fast.tw9881154881949217119 : True := trivial
theorem PySem.W.Fast.tw271382164110092292 : True := trivial
theorem PySem.W.Fast.tw16066429593883615018 : True := trivial
theorem PySem.W.Fast.tw18172472336476613584 : True := trivial
theorem PySem.W.Fast.tw2473972203125489607 : True := trivial
theorem PySem.W.Fast.tw528879573877023072 : True := trivial
theorem PySem.W.Fast.tw8213722941751109465 : True := trivial
theorem PySem.W.Fast.tw2089407289511420857 : True := trivial
theorem PySem.W.Fast.tw17862624764719769740 : True := trivial
theorem PySem.W.Fast.tw15233616908658765560 : True := trivial
theorem PySem.W.Fast.tw14019068741074906359 : True := trivial
theorem PySem.W.Fast.tw3463060308152665624 : True := trivial
theorem PySem.W.Fast.tw14646270147715109899 : True := trivial
theorem PySem.W.Fast.tw10852460924051485401 : True := trivial
theorem PySem.W.Fast.tw13481147320350440105 : True := trivial
theorem PySem.W.Fast.tw15042958102818902191 : True := trivial
theorem PySem.W.Fast.tw3737258070444868 : True := trivial
theorem PySem.W.Fast.tw15187381050498154645 : True := trivial
theorem PySem.W.Fast.tw14176093309247353030 : True := trivial
theorem PySem.W.Fast.tw3022867760248374371 : True := trivial
theorem PySem.W.Fast.tw5345991562353338705 : True := trivial
theorem PySem.W.Fast.tw850062840329268004 : True := trivial
theorem PySem.W.Fast.tw391404753490550530 : True := trivial
theorem PySem.W.Fast.tw2099141059843731713 : True := trivial
theorem PySem.W.Fast.tw11661771719000561359 : True := trivial
theorem PySem.W.Fast.tw1007965635582638613 : True := trivial
theorem PySem.W.Fast.tw17587530892747679240 : True := trivial
theorem PySem.W.Fast.tw12511314970863413469 : True := trivial
theorem PySem.W.Fast.tw12412538017574121541 : True := trivial
theorem PySem.W.Fast.tw5515455363601123741 : True := trivial
theorem PySem.W.Fast.tw68231104722012736 : True := trivial
theorem PySem.W.Fast.tw7609303020832256109 : True := trivial
theorem PySem.W.Fast.tw2948968239219099889 : True := trivial
theorem PySem.W.Fast.tw10026374499800307687 : True := trivial
theorem PySem.W.Fast.tw15614961546303655612 : True := trivial
theorem PySem.W.Fast.tw11467763540921827057 : True := trivial
theorem PySem.W.Fast.tw11936612104787006423 : True := trivial
theorem PySem.W.Fast.tw644606821048197394 : True := trivial
theorem PySem.W.Fast.tw632035515967512110 : True := trivial
theorem PySem.W.Fast.tw5141708044029391275 : True := trivial
theorem PySem.W.Fast.tw9702082430386051514 : True := trivial
theorem PySem.W.Fast.tw770365651922947472 : True := trivial
theorem PySem.W.Fast.tw11204506553301684356 : True := trivial
theorem PySem.W.Fast.tw7674035361328152929 : True := trivial
theorem PySem.W.Fast.tw8232410838376789049 : True := trivial
theorem PySem.W.Fast.tw1274648666515681397 : True := trivial
theorem PySem.W.Fast.tw3355688534842300341 : True := trivial
theorem PySem.W.Fast.tw8048804132413762953 : True := trivial
theorem PySem.W.Fast.tw13934770229860339667 : True := trivial
theorem PySem.W.Fast.tw14583541412691846527 : True := trivial
theorem PySem.W.Fast.tw1301409626077669131 : True := trivial
theorem PySem.W.Fast.tw10024232163359431070 : True := trivial
theorem PySem.W.Fast.tw16116563003320566749 : True := trivial
theorem PySem.W.Fast.tw7161040983253738133 : True := trivial
theorem PySem.W.Fast.tw14910080405602359295 : True := trivial
theorem PySem.W.Fast.tw3793482272612738315 : True := trivial
theorem PySem.W.Fast.tw1409650149454104858 : True := trivial
theorem PySem.W.Fast.tw4760688200556501830 : True := trivial
theorem PySem.W.Fast.tw11317781162943946938 : True := trivial
theorem PySem.W.Fast.tw8687068215656012066 : True := trivial
theorem PySem.W.Fast.tw5093262709132033454 : True := trivial
theorem PySem.W.Fast.tw10567798196978390622 : True := trivial
theorem PySem.W.Fast.tw9327945812102466465 : True := trivial
theorem PySem.W.Fast.tw15025178679715362824 : True := trivial
theorem PySem.W.Fast.tw17619196062852881839 : True := trivial
theorem PySem.W.Fast.tw10451962679284232582 : True := trivial
theorem PySem.W.Fast.tw13764354803895903822 : True := trivial
theorem PySem.W.Fast.tw8253913346841589500 : True := trivial
theorem PySem.W.Fast.tw16565125595153255656 : True := trivial
theorem PySem.W.Fast.tw17951121037026379267 : True := trivial
theorem PySem.W.Fast.tw8845352826097911429 : True := trivial
theorem PySem.W.Fast.tw5459497717955082652 : True := trivial
theorem PySem.W.Fast.tw12084608575720797112 : True := trivial
theorem PySem.W.Fast.tw1510704651565575849 : True := trivial
theorem PySem.W.Fast.tw2660967094769285380 : True := trivial
theorem PySem.W.Fast.tw15018819498408803390 : True := trivial
theorem PySem.W.Fast.tw2320956339190168444 : True := trivial
theorem PySem.W.Fast.tw6273122998232695978 : True := trivial
theorem PySem.W.Fast.tw493537031914847561 : True := trivial
theorem PySem.W.Fast.tw13061846975439271041 : True := trivial
theorem PySem.W.Fast.tw17123028125912892586 : True := trivial
theorem PySem.W.Fast.tw11615772364842001789 : True := trivial
theorem PySem.W.Fast.tw11496022074935504392 : True := trivial
theorem PySem.W.Fast.tw3770418493040920373 : True := trivial
theorem PySem.W.Fast.tw444635225944304646 : True := trivial
theorem PySem.W.Fast.tw1423538454673901003 : True := trivial
theorem PySem.W.Fast.tw1227905273353915807 : True := trivial
theorem PySem.W.Fast.tw14642699757582245300 : True := trivial
theorem PySem.W.Fast.tw15563616715604321042 : True := trivial
theorem PySem.W.Fast.tw12166634597411842275 : True := trivial
theorem PySem.W.Fast.tw13405444983616243851 : True := trivial
theorem PySem.W.Fast.tw14428295591327559107 : True := trivial
theorem PySem.W.Fast.tw6250508121764113014 : True := trivial
theorem PySem.W.Fast.tw4524473739122294037 : True := trivial
theorem PySem.W.Fast.tw6892758284282748010 : True := trivial
theorem PySem.W.Fast.tw15297171346243327663 : True := trivial
theorem PySem.W.Fast.tw660118286722171006 : True := trivial
theorem PySem.W.Fast.tw884769108385344950 : True := trivial
theorem PySem.W.Fast.tw18098630701117479810 : True := trivial
theorem PySem.W.Fast.tw5510708006375812395 : True := trivial
theorem PySem.W.Fast.tw13185844963636544346 : True := trivial
theorem PySem.W.Fast.tw16850271051293362069 : True := trivial
theorem PySem.W.Fast.tw2048724056444312966 : True := trivial
theorem PySem.W.Fast.tw7814510402523923082 : True := trivial
theorem PySem.W.Fast.tw10774271313904140914 : True := trivial
theorem PySem.W.Fast.tw428532755243459581 : True := trivial
theorem PySem.W.Fast.tw4748668216664588123 : True := trivial
theorem PySem.W.Fast.tw17847261137742801006 : True := trivial
theorem PySem.W.Fast.tw13346079940775850201 : True := trivial
theorem PySem.W.Fast.tw3155603795949712109 : True := trivial
theorem PySem.W.Fast.tw13533793767993041089 : True := trivial
theorem PySem.W.Fast.tw3832964751364748361 : True := trivial
theorem PySem.W.Fast.tw11729330733801019320 : True := trivial
theorem PySem.W.Fast.tw16447831540398804831 : True := trivial
theorem PySem.W.Fast.tw6086435638875570526 : True := trivial
theorem PySem.W.Fast.tw12997651939101338975 : True := trivial
theorem PySem.W.Fast.tw1910467681688269344 : True := trivial
theorem PySem.W.Fast.tw7231452288898009036 : True := trivial
theorem PySem.W.Fast.tw9701277512594911807 : True := trivial
theorem PySem.W.Fast.tw6135388797618912804 : True := trivial
theorem PySem.W.Fast.tw7575099353497410195 : True := trivial
theorem PySem.W.Fast.tw6985974204407387977 : True := trivial
theorem PySem.W.Fast.tw12296407996797705776 : True := trivial
theorem PySem.W.Fast.tw11125451276793994796 : True := trivial
theorem PySem.W.Fast.tw888894149566445377 : True := trivial
theorem PySem.W.Fast.tw17465127571022359410 : True := trivial
theorem PySem.W.Fast.tw7391972054841754116 : True := trivial
theorem PySem.W.Fast.tw10247670769882710960 : True := trivial
theorem PySem.W.Fast.tw887922705608881218 : True := trivial
theorem PySem.W.Fast.tw17371588083251126699 : True := trivial
theorem PySem.W.Fast.tw466900428382664166 : True := trivial
theorem PySem.W.Fast.tw4077707693194156330 : True := trivial
theorem PySem.W.Fast.tw10623786072604077619 : True := trivial
theorem PySem.W.Fast.tw17589826042386907303 : True := trivial
theorem PySem.W.Fast.tw2301830800914168890 : True := trivial
theorem PySem.W.Fast.tw17536334519579072259 : True := trivial
theorem PySem.W.Fast.tw18356519797689036696 : True := trivial
theorem PySem.W.Fast.tw14197830979790190287 : True := trivial
theorem PySem.W.Fast.tw3980690257428551823 : True := trivial
theorem PySem.W.Fast.tw6569074238511199612 : True := trivial
theorem PySem.W.Fast.tw3342369424116125618 : True := trivial
theorem PySem.W.Fast.tw2451180245563304099 : True := trivial
theorem PySem.W.Fast.tw9835336322552671805 : True := trivial
theorem PySem.W.Fast.tw2923009319818188229 : True := trivial
theorem PySem.W.Fast.tw4948982096983155846 : True := trivial
theorem PySem.W.Fast.tw383882261396674619 : True := trivial
theorem PySem.W.Fast.tw13180927826269959440 : True := trivial
theorem PySem.W.Fast.tw16773025796233222550 : True := trivial
theorem PySem.W.Fast.tw13154243754954320580 : True := trivial
theorem PySem.W.Fast.tw6389298660474480601 : True := trivial
theorem PySem.W.Fast.tw8218966883595477667 : True := trivial
theorem PySem.W.Fast.tw12889695443053032990 : True := trivial
theorem PySem.W.Fast.tw2168035141935682127 : True := trivial
theorem PySem.W.Fast.tw14492530900754687934 : True := trivial
theorem PySem.W.Fast.tw7572842498435054749 : True := trivial
theorem PySem.W.Fast.tw13938555751465823828 : True := trivial
theorem PySem.W.Fast.tw13335310745436311721 : True := trivial
theorem PySem.W.Fast.tw2147003316775733536 : True := trivial
theorem PySem.W.Fast.tw11731909718676073175 : True := trivial
theorem PySem.W.Fast.tw11584612426566055229 : True := trivial
theorem PySem.W.Fast.tw13181929397559968171 : True := trivial
theorem PySem.W.Fast.tw7165494389526366094 : True := trivial
theorem PySem.W.Fast.tw5340543187637438958 : True := trivial
theorem PySem.W.Fast.tw6644672798821795598 : True := trivial
theorem PySem.W.Fast.tw11167723816589300064 : True := trivial
theorem PySem.W.Fast.tw9219493606761036970 : True := trivial
theorem PySem.W.Fast.tw16045777475534396853 : True := trivial
theorem PySem.W.Fast.tw8538072690826686131 : True := trivial
theorem PySem.W.Fast.tw18293531466499193997 : True := trivial
theorem PySem.W.Fast.tw14555388719439801119 : True := trivial
theorem PySem.W.Fast.tw8536606290373919297 : True := trivial
theorem PySem.W.Fast.tw17214861938336578990 : True := trivial
theorem PySem.W.Fast.tw9673586613123731091 : True := trivial
theorem PySem.W.Fast.tw1356333261707265525 : True := trivial
theorem PySem.W.Fast.tw13869911095319081395 : True := trivial
theorem PySem.W.Fast.tw13733909791675661730 : True := trivial
theorem PySem.W.Fast.tw8725493397466773286 : True := trivial
theorem PySem.W.Fast.tw13043203163260093695 : True := trivial
theorem PySem.W.Fast.tw9866366768732304954 : True := trivial
theorem PySem.W.Fast.tw5278423645088174273 : True := trivial
theorem PySem.W.Fast.tw4243445306875142856 : True := trivial
theorem PySem.W.Fast.tw3748803247515823826 : True := trivial
theorem PySem.W.Fast.tw2850666149092522468 : True := trivial
theorem PySem.W.Fast.tw10916313644532300237 : True := trivial
theorem PySem.W.Fast.tw14692105112155366676 : True := trivial
theorem PySem.W.Fast.tw9624816559953848761 : True := trivial
theorem PySem.W.Fast.tw5006341120420060266 : True := trivial
theorem PySem.W.Fast.tw15692848974723772976 : True := trivial
theorem PySem.W.Fast.tw16301944980947570870 : True := trivial
theorem PySem.W.Fast.tw18135669430834095873 : True := trivial
theorem PySem.W.Fast.tw16281276080238216549 : True := trivial
theorem PySem.W.Fast.tw15155328359776243743 : True := trivial
theorem PySem.W.Fast.tw14873429535922643286 : True := trivial
theorem PySem.W.Fast.tw17056414333319626419 : True := trivial
theorem PySem.W.Fast.tw10420086092840332115 : True := trivial
theorem PySem.W.Fast.tw15944998421429443776 : True := trivial
theorem PySem.W.Fast.tw11576720124561977865 : True := trivial
theorem PySem.W.Fast.tw3777611158123223195 : True := trivial
theorem PySem.W.Fast.tw2124872578907288826 : True := trivial
theorem PySem.W.Fast.tw12778127205731733905 : True := trivial
theorem PySem.W.Fast.tw12617417575498245420 : True := trivial
theorem PySem.W.Fast.tw15799865002558524324 : True := trivial
theorem PySem.W.Fast.tw1052407520056401524 : True := trivial
theorem PySem.W.Fast.tw7847747939907733093 : True := trivial
theorem PySem.W.Fast.tw12148963984566913625 : True := trivial
theorem PySem.W.Fast.tw4709484705630730579 : True := trivial
theorem PySem.W.Fast.tw8951731296460616495 : True := trivial
theorem PySem.W.Fast.tw7931037716035943080 : True := trivial
theorem PySem.W.Fast.tw14127225875037400972 : True := trivial
theorem PySem.W.Fast.tw9402141697218487148 : True := trivial
theorem PySem.W.Fast.tw126418267816990485 : True := trivial
theorem PySem.W.Fast.tw4676938006239267164 : True := trivial
theorem PySem.W.Fast.tw2010303797657626204 : True := trivial
theorem PySem.W.Fast.tw9393940854918910416 : True := trivial
theorem PySem.W.Fast.tw16781470209959921554 : True := trivial
theorem PySem.W.Fast.tw10287952272406369528 : True := trivial
theorem PySem.W.Fast.tw10895486961936249996 : True := trivial
theorem PySem.W.Fast.tw3221601824623851917 : True := trivial
theorem PySem.W.Fast.tw2941697137963390596 : True := trivial
theorem PySem.W.Fast.tw11086701843828564696 : True := trivial
theorem PySem.W.Fast.tw15995723430087492981 : True := trivial
theorem PySem.W.Fast.tw13091888927292638654 : True := trivial
theorem PySem.W.Fast.tw951990153302691298 : True := trivial
theorem PySem.W.Fast.tw15815830550762191172 : True := trivial
theorem PySem.W.Fast.tw15931364925158081193 : True := trivial
theorem PySem.W.Fast.tw5138806910127614891 : True := trivial
theorem PySem.W.Fast.tw2720061042307036623 : True := trivial
theorem PySem.W.Fast.tw4130588558230655021 : True := trivial
theorem PySem.W.Fast.tw10406737399133466608 : True := trivial
theorem PySem.W.Fast.tw1360149497093774712 : True := trivial
theorem PySem.W.Fast.tw184267811416385708 : True := trivial
theorem PySem.W.Fast.tw15756289972045524978 : True := trivial
theorem PySem.W.Fast.tw4474375850538483870 : True := trivial
theorem PySem.W.Fast.tw2209443877679789081 : True := trivial
theorem PySem.W.Fast.tw4580115513642267929 : True := trivial
theorem PySem.W.Fast.tw11901385530363371093 : True := trivial
theorem PySem.W.Fast.tw1140011949486286696 : True := trivial
theorem PySem.W.Fast.tw10750439879239514197 : True := trivial
theorem PySem.W.Fast.tw1957209195319897169 : True := trivial
theorem PySem.W.Fast.tw4165816393172497631 : True := trivial
theorem PySem.W.Fast.tw1640520627123537145 : True := trivial
theorem PySem.W.Fast.tw18368994533941356710 : True := trivial
theorem PySem.W.Fast.tw15308393637624424200 : True := trivial
theorem PySem.W.Fast.tw6473335621493250626 : True := trivial
theorem PySem.W.Fast.tw9907626613422119328 : True := trivial
theorem PySem.W.Fast.tw9613938903827435240 : True := trivial
theorem PySem.W.Fast.tw6090213590525853650 : True := trivial
theorem PySem.W.Fast.tw17513199147093996076 : True := trivial
theorem PySem.W.Fast.tw15501420386913866910 : True := trivial
theorem PySem.W.Fast.tw11346330566652764975 : True := trivial
theorem PySem.W.Fast.tw1368601981525297167 : True := trivial
theorem PySem.W.Fast.tw10150187280163705661 : True := trivial
theorem PySem.W.Fast.tw5152590409202448593 : True := trivial
theorem PySem.W.Fast.tw4185342036474549508 : True := trivial
theorem PySem.W.Fast.tw6904437438359169733 : True := trivial
theorem PySem.W.Fast.tw6816100929541493906 : True := trivial
theorem PySem.W.Fast.tw11784911526557316863 : True := trivial
theorem PySem.W.Fast.tw8746911952088872344 : True := trivial
theorem PySem.W.Fast.tw2765355466502069727 : True := trivial
theorem PySem.W.Fast.tw16274430964204299105 : True := trivial
theorem PySem.W.Fast.tw3883876737978351270 : True := trivial
theorem PySem.W.Fast.tw12991662222092860744 : True := trivial
theorem PySem.W.Fast.tw15799800905251607936 : True := trivial
theorem PySem.W.Fast.tw3050837146393026539 : True := trivial
theorem PySem.W.Fast.tw16868919555845793660 : True := trivial
theorem PySem.W.Fast.tw7853510036551614863 : True := trivial
theorem PySem.W.Fast.tw1948051898820067997 : True := trivial
theorem PySem.W.Fast.tw1199713450649155837 : True := trivial
theorem PySem.W.Fast.tw15941644706325148502 : True := trivial
theorem PySem.W.Fast.tw17733697355068656143 : True := trivial
theorem PySem.W.Fast.tw11519729019220889469 : True := trivial
theorem PySem.W.Fast.tw17293541789728418613 : True := trivial
theorem PySem.W.Fast.tw6916511920119368720 : True := trivial
theorem PySem.W.Fast.tw14412364163326458816 : True := trivial
theorem PySem.W.Fast.tw13005240053663795053 : True := trivial
theorem PySem.W.Fast.tw10666784473428242985 : True := trivial
theorem PySem.W.Fast.tw3940288719765860827 : True := trivial
theorem PySem.W.Fast.tw12110457875559069545 : True := trivial
theorem PySem.W.Fast.tw15233765319360427541 : True := trivial
theorem PySem.W.Fast.tw6929673917117117932 : True := trivial
theorem PySem.W.Fast.tw5198048823995665156 : True := trivial
theorem PySem.W.Fast.tw15389384609435307414 : True := trivial
theorem PySem.W.Fast.tw113002152946834888 : True := trivial
theorem PySem.W.Fast.tw11813721869991120651 : True := trivial
theorem PySem.W.Fast.tw6656041453891081503 : True := trivial
theorem PySem.W.Fast.tw8824438095132762979 : True := trivial
theorem PySem.W.Fast.tw8583351215893005159 : True := trivial
theorem PySem.W.Fast.tw15482893706003914110 : True := trivial
theorem PySem.W.Fast.tw4756800827370447312 : True := trivial
theorem PySem.W.Fast.tw13100831985386832225 : True := trivial
theorem PySem.W.Fast.tw6924474199603671974 : True := trivial
theorem PySem.W.Fast.tw14999868864967212659 : True := trivial
theorem PySem.W.Fast.tw16603382306819708829 : True := trivial
theorem PySem.W.Fast.tw15331414598521952166 : True := trivial
theorem PySem.W.Fast.tw1463934552504678066 : True := trivial
theorem PySem.W.Fast.tw6157254890011756281 : True := trivial
theorem PySem.W.Fast.tw2669098591492387947 : True := trivial
theorem PySem.W.Fast.tw4642710645767355214 : True := trivial
theorem PySem.W.Fast.tw4601950495301113961 : True := trivial
theorem PySem.W.Fast.tw17163966432583978723 : True := trivial
theorem PySem.W.Fast.tw3157451632488510386 : True := trivial
theorem PySem.W.Fast.tw13910113468063945221 : True := trivial
theorem PySem.W.Fast.tw18081109405267499143 : True := trivial
theorem PySem.W.Fast.tw400203440825763932 : True := trivial
theorem PySem.W.Fast.tw14728998042293652674 : True := trivial
theorem PySem.W.Fast.tw18306482890365194056 : True := trivial
theorem PySem.W.Fast.tw4594069215132588756 : True := trivial
theorem PySem.W.Fast.tw16291202109735732846 : True := trivial
theorem PySem.W.Fast.tw2691666123263748119 : True := trivial
theorem PySem.W.Fast.tw7643800890749839773 : True := trivial
theorem PySem.W.Fast.tw3199918481628826231 : True := trivial
theorem PySem.W.Fast.tw9357879824900539547 : True := trivial
theorem PySem.W.Fast.tw8716563276539097045 : True := trivial
theorem PySem.W.Fast.tw13202024537397395084 : True := trivial
theorem PySem.W.Fast.tw15275743870024181149 : True := trivial
theorem PySem.W.Fast.tw3744881686839672797 : True := trivial
theorem PySem.W.Fast.tw1929016567300134501 : True := trivial
theorem PySem.W.Fast.tw17918280250711298268 : True := trivial
theorem PySem.W.Fast.tw4090971552284624096 : True := trivial
theorem PySem.W.Fast.tw13378176651404648913 : True := trivial
theorem PySem.W.Fast.tw6284149572860904458 : True := trivial
theorem PySem.W.Fast.tw18231494203570825911 : True := trivial
theorem PySem.W.Fast.tw10127377574150928832 : True := trivial
theorem PySem.W.Fast.tw246513736541555491 : True := trivial
theorem PySem.W.Fast.tw6154462936429570526 : True := trivial
theorem PySem.W.Fast.tw11725010703510092407 : True := trivial
theorem PySem.W.Fast.tw5089723045604317172 : True := trivial
theorem PySem.W.Fast.tw7386718047579665115 : True := trivial
theorem PySem.W.Fast.tw17039340115928250660 : True := trivial
theorem PySem.W.Fast.tw5523193964415171942 : True := trivial
theorem PySem.W.Fast.tw12821510265248225914 : True := trivial
theorem PySem.W.Fast.tw13142571962236175005 : True := trivial
theorem PySem.W.Fast.tw10055645990156109426 : True := trivial
theorem PySem.W.Fast.tw13143591134040026228 : True := trivial
theorem PySem.W.Fast.tw10415322085708335947 : True := trivial
theorem PySem.W.Fast.tw5327507170309139720 : True := trivial
theorem PySem.W.Fast.tw13278150296125278984 : True := trivial
theorem PySem.W.Fast.tw8917193538684511864 : True := trivial
theorem PySem.W.Fast.tw2046361502207681833 : True := trivial
theorem PySem.W.Fast.tw11794318576459427385 : True := trivial
theorem PySem.W.Fast.tw10358961911484945057 : True := trivial
theorem PySem.W.Fast.tw5543124427438707633 : True := trivial
theorem PySem.W.Fast.tw17383693485443581393 : True := trivial
theorem PySem.W.Fast.tw14913817569417950501 : True := trivial
theorem PySem.W.Fast.tw4980043918044244537 : True := trivial
theorem PySem.W.Fast.tw13180501501921069696 : True := trivial
theorem PySem.W.Fast.tw11553665711666101228 : True := trivial
theorem PySem.W.Fast.tw5386587516496805023 : True := trivial
theorem PySem.W.Fast.tw17071401596050786902 : True := trivial
theorem PySem.W.Fast.tw5765845309363744742 : True := trivial
theorem PySem.W.Fast.tw11306981981775479155 : True := trivial
theorem PySem.W.Fast.tw5996298203441574312 : True := trivial
theorem PySem.W.Fast.tw13594355293063711561 : True := trivial
theorem PySem.W.Fast.tw14678879884315665059 : True := trivial
theorem PySem.W.Fast.tw16645059916035218020 : True := trivial
theorem PySem.W.Fast.tw3570375147856291067 : True := trivial
theorem PySem.W.Fast.tw15217091085891544498 : True := trivial
theorem PySem.W.Fast.tw5508391973807843713 : True := trivial
theorem PySem.W.Fast.tw6726814641882267267 : True := trivial
theorem PySem.W.Fast.tw16345347761435705854 : True := trivial
theorem PySem.W.Fast.tw121111854318059102 : True := trivial
theorem PySem.W.Fast.tw8918339543871255963 : True := trivial
theorem PySem.W.Fast.tw1788752763339278768 : True := trivial
theorem PySem.W.Fast.tw18234803763785776225 : True := trivial
theorem PySem.W.Fast.tw3190535671262355707 : True := trivial
theorem PySem.W.Fast.tw9825655327466018660 : True := trivial
theorem PySem.W.Fast.tw14864642690380710215 : True := trivial
theorem PySem.W.Fast.tw679873391294711952 : True := trivial
theorem PySem.W.Fast.tw15179692073113274485 : True := trivial
theorem PySem.W.Fast.tw7947945269109341489 : True := trivial
theorem PySem.W.Fast.tw3525471750353677970 : True := trivial
theorem PySem.W.Fast.tw13587352962310500328 : True := trivial
theorem PySem.W.Fast.tw11558198822344673426 : True := trivial
theorem PySem.W.Fast.tw8131931855405878548 : True := trivial
theorem PySem.W.Fast.tw8530626156082743486 : True := trivial
theorem PySem.W.Fast.tw17723042770015258252 : True := trivial
theorem PySem.W.Fast.tw11859993262414201235 : True := trivial
theorem PySem.W.Fast.tw6093070584932221942 : True := trivial
theorem PySem.W.Fast.tw6194258607704828516 : True := trivial
theorem PySem.W.Fast.tw3850920466411604009 : True := trivial
theorem PySem.W.Fast.tw5488354157538061940 : True := trivial
theorem PySem.W.Fast.tw3263808231829675211 : True := trivial
theorem PySem.W.Fast.tw10244517208495335514 : True := trivial
theorem PySem.W.Fast.tw18369678334716545456 : True := trivial
theorem PySem.W.Fast.tw15196639025429685675 : True := trivial
theorem PySem.W.Fast.tw6394217464431898936 : True := trivial
theorem PySem.W.Fast.tw1744330713988009280 : True := trivial
theorem PySem.W.Fast.tw1531639125795213213 : True := trivial
theorem PySem.W.Fast.tw16906703125927166304 : True := trivial
theorem PySem.W.Fast.tw18112728914896325005 : True := trivial
theorem PySem.W.Fast.tw14069956821771536311 : True := trivial
theorem PySem.W.Fast.tw2565071225461287017 : True := trivial
theorem PySem.W.Fast.tw2783542488026154084 : True := trivial
theorem PySem.W.Fast.tw15006168082547909772 : True := trivial
theorem PySem.W.Fast.tw13460442188445706218 : True := trivial
theorem PySem.W.Fast.tw3074862825244260123 : True := trivial
theorem PySem.W.Fast.tw10376055328552316149 : True := trivial
theorem PySem.W.Fast.tw1972781722831267506 : True := trivial
theorem PySem.W.Fast.tw5345131398900375881 : True := trivial
theorem PySem.W.Fast.tw5722248845643362604 : True := trivial
theorem PySem.W.Fast.tw16784704189847614466 : True := trivial
theorem PySem.W.Fast.tw16536926433385044324 : True := trivial
theorem PySem.W.Fast.tw502432984732750013 : True := trivial
theorem PySem.W.Fast.tw12866769696164016181 : True := trivial
theorem PySem.W.Fast.tw5173371562076591062 : True := trivial
theorem PySem.W.Fast.tw8282672982023847842 : True := trivial
theorem PySem.W.Fast.tw241593181196078648 : True := trivial
theorem PySem.W.Fast.tw13854808052298333951 : True := trivial
theorem PySem.W.Fast.tw12364566674146133030 : True := trivial
theorem PySem.W.Fast.tw16670664257879790944 : True := trivial
theorem PySem.W.Fast.tw13741763664464004125 : True := trivial
theorem PySem.W.Fast.tw11781084108220322438 : True := trivial
theorem PySem.W.Fast.tw6803872915207972370 : True := trivial
theorem PySem.W.Fast.tw1608395668445873654 : True := trivial
theorem PySem.W.Fast.tw7086997123055764825 : True := trivial
theorem PySem.W.Fast.tw12071578154234372390 : True := trivial
theorem PySem.W.Fast.tw8433616732177936460 : True := trivial
theorem PySem.W.Fast.tw3132293770381050543 : True := trivial
theorem PySem.W.Fast.tw11442281946813053004 : True := trivial
theorem PySem.W.Fast.tw1368604336940650751 : True := trivial
theorem PySem.W.Fast.tw11225748249027455716 : True := trivial
theorem PySem.W.Fast.tw17678962530124436411 : True := trivial
theorem PySem.W.Fast.tw17150051390446163023 : True := trivial
theorem PySem.W.Fast.tw678992049411333460 : True := trivial
theorem PySem.W.Fast.tw11762008202372744412 : True := trivial
theorem PySem.W.Fast.tw11558261738523301929 : True := trivial
theorem PySem.W.Fast.tw12935811269927335431 : True := trivial
theorem PySem.W.Fast.tw12607239158358639007 : True := trivial
theorem PySem.W.Fast.tw1574236081541229605 : True := trivial
theorem PySem.W.Fast.tw14895645421600914127 : True := trivial
theorem PySem.W.Fast.tw6885530823384902431 : True := trivial
theorem PySem.W.Fast.tw7966921940404575563 : True := trivial
theorem PySem.W.Fast.tw4496596022472296351 : True := trivial
theorem PySem.W.Fast.tw14999813674384459291 : True := trivial
theorem PySem.W.Fast.tw14056360334581048365 : True := trivial
theorem PySem.W.Fast.tw17030045821180660505 : True := trivial
theorem PySem.W.Fast.tw5447839947070093788 : True := trivial
theorem PySem.W.Fast.tw3190891977924836157 : True := trivial
theorem PySem.W.Fast.tw3879321443396445094 : True := trivial
theorem PySem.W.Fast.tw14451046564535631818 : True := trivial
theorem PySem.W.Fast.tw4697395438304230989 : True := trivial
theorem PySem.W.Fast.tw208117274853048257 : True := trivial
theorem PySem.W.Fast.tw11133311055950357974 : True := trivial
theorem PySem.W.Fast.tw8308528107765459585 : True := trivial
theorem PySem.W.Fast.tw4189527875783118597 : True := trivial
theorem PySem.W.Fast.tw8065899056960213872 : True := trivial
theorem PySem.W.Fast.tw3973900007012723749 : True := trivial
theorem PySem.W.Fast.tw9184461665464936111 : True := trivial
theorem PySem.W.Fast.tw7783262349684892740 : True := trivial
theorem PySem.W.Fast.tw16934425914970980003 : True := trivial
theorem PySem.W.Fast.tw3910425092131108709 : True := trivial
theorem PySem.W.Fast.tw9997389351550184195 : True := trivial
theorem PySem.W.Fast.tw3338431071430015154 : True := trivial
theorem PySem.W.Fast.tw15108337117053130621 : True := trivial
theorem PySem.W.Fast.tw6535486636434615609 : True := trivial
theorem PySem.W.Fast.tw4800518185780552933 : True := trivial
theorem PySem.W.Fast.tw4981849195567482931 : True := trivial
theorem PySem.W.Fast.tw2577485795989607513 : True := trivial
theorem PySem.W.Fast.tw17166777713657387667 : True := trivial
theorem PySem.W.Fast.tw11423603230911920966 : True := trivial
theorem PySem.W.Fast.tw11622967988152664711 : True := trivial
theorem PySem.W.Fast.tw15207735025761385268 : True := trivial
theorem PySem.W.Fast.tw4766017322776166872 : True := trivial
theorem PySem.W.Fast.tw5388114270318877073 : True := trivial
theorem PySem.W.Fast.tw4318598441108703615 : True := trivial
theorem PySem.W.Fast.tw4672069994941290994 : True := trivial
theorem PySem.W.Fast.tw1785051131907952493 : True := trivial
theorem PySem.W.Fast.tw4401222815204592103 : True := trivial
theorem PySem.W.Fast.tw4040977503899844774 : True := trivial
theorem PySem.W.Fast.tw10420641165484835550 : True := trivial
theorem PySem.W.Fast.tw13197859209826683031 : True := trivial
theorem PySem.W.Fast.tw10607367882267271881 : True := trivial
theorem PySem.W.Fast.tw16696402154900154225 : True := trivial
theorem PySem.W.Fast.tw3997635707538653123 : True := trivial
theorem PySem.W.Fast.tw8715229484420255229 : True := trivial
theorem PySem.W.Fast.tw13141005396709674896 : True := trivial
theorem PySem.W.Fast.tw6969199312986670820 : True := trivial
theorem PySem.W.Fast.tw17633212369306481350 : True := trivial
theorem PySem.W.Fast.tw4806783945006901144 : True := trivial
theorem PySem.W.Fast.tw4158942390116901270 : True := trivial
theorem PySem.W.Fast.tw5530155092334472773 : True := trivial
theorem PySem.W.Fast.tw1125770601665078404 : True := trivial
theorem PySem.W.Fast.tw7943179704296324324 : True := trivial
theorem PySem.W.Fast.tw9532956747188305457 : True := trivial
theorem PySem.W.Fast.tw5131026012429441777 : True := trivial
theorem PySem.W.Fast.tw10585133960186446192 : True := trivial
theorem PySem.W.Fast.tw374916506323595681 : True := trivial
theorem PySem.W.Fast.tw12451977092930163376 : True := trivial
theorem PySem.W.Fast.tw16973658276865850414 : True := trivial
theorem PySem.W.Fast.tw971598266288468006 : True := trivial
theorem PySem.W.Fast.tw17798013911010635376 : True := trivial
theorem PySem.W.Fast.tw10969604835289007047 : True := trivial
theorem PySem.W.Fast.tw6139768738374551637 : True := trivial
theorem PySem.W.Fast.tw2162945615759725204 : True := trivial
theorem PySem.W.Fast.tw11166279230489329513 : True := trivial
theorem PySem.W.Fast.tw6548147396181312516 : True := trivial
theorem PySem.W.Fast.tw10644867463317411176 : True := trivial
theorem PySem.W.Fast.tw4195973442635450941 : True := trivial
theorem PySem.W.Fast.tw6388377063878872545 : True := trivial
theorem PySem.W.Fast.tw10075702779804681094 : True := trivial
theorem PySem.W.Fast.tw5936949953284332062 : True := trivial
theorem PySem.W.Fast.tw6636573209503683151 : True := trivial
theorem PySem.W.Fast.tw14019805772356716800 : True := trivial
theorem PySem.W.Fast.tw14451026695599900305 : True := trivial
theorem PySem.W.Fast.tw15524813819171851271 : True := trivial
theorem PySem.W.Fast.tw16705240706486504962 : True := trivial
theorem PySem.W.Fast.tw16517971675010548223 : True := trivial
theorem PySem.W.Fast.tw14385084930899647579 : True := trivial
theorem PySem.W.Fast.tw536268950693583581 : True := trivial
theorem PySem.W.Fast.tw3399559130063642912 : True := trivial
theorem PySem.W.Fast.tw8304600807806962513 : True := trivial
theorem PySem.W.Fast.tw8885319520649612863 : True := trivial
theorem PySem.W.Fast.tw15222723400585792472 : True := trivial
theorem PySem.W.Fast.tw481225977829717663 : True := trivial
theorem PySem.W.Fast.tw4540213081553173715 : True := trivial
theorem PySem.W.Fast.tw17685864586457832160 : True := trivial
theorem PySem.W.Fast.tw3854031273866235364 : True := trivial
theorem PySem.W.Fast.tw5030983715001938896 : True := trivial
theorem PySem.W.Fast.tw14862268784253961423 : True := trivial
theorem PySem.W.Fast.tw17280953675048155743 : True := trivial
theorem PySem.W.Fast.tw7842703555457882076 : True := trivial
theorem PySem.W.Fast.tw15757823014452901065 : True := trivial
theorem PySem.W.Fast.tw6784344783054517172 : True := trivial
theorem PySem.W.Fast.tw11282813086976606372 : True := trivial
theorem PySem.W.Fast.tw6713113076540504470 : True := trivial
theorem PySem.W.Fast.tw3675473192073594950 : True := trivial
theorem PySem.W.Fast.tw13965453640087068749 : True := trivial
theorem PySem.W.Fast.tw9619876525491167361 : True := trivial
theorem PySem.W.Fast.tw2945689178082430044 : True := trivial
theorem PySem.W.Fast.tw7755029169406022022 : True := trivial
theorem PySem.W.Fast.tw10948118780560432791 : True := trivial
theorem PySem.W.Fast.tw985981771226734936 : True := trivial
theorem PySem.W.Fast.tw10802220470271084304 : True := trivial
theorem PySem.W.Fast.tw11735447219252724262 : True := trivial
theorem PySem.W.Fast.tw12609649278519180735 : True := trivial
theorem PySem.W.Fast.tw8126482344766806776 : True := trivial
theorem PySem.W.Fast.tw1444994488134013945 : True := trivial
theorem PySem.W.Fast.tw12368019827552812811 : True := trivial
theorem PySem.W.Fast.tw17229247384351180953 : True := trivial
theorem PySem.W.Fast.tw10624732850387995887 : True := trivial
theorem PySem.W.Fast.tw6647187013377613330 : True := trivial
theorem PySem.W.Fast.tw3085366992612141626 : True := trivial
theorem PySem.W.Fast.tw5626235533232430844 : True := trivial
theorem PySem.W.Fast.tw14935460870540094840 : True := trivial
theorem PySem.W.Fast.tw14754504758326262474 : True := trivial
theorem PySem.W.Fast.tw5972093857027107884 : True := trivial
theorem PySem.W.Fast.tw16837490498756019575 : True := trivial
theorem PySem.W.Fast.tw3888908916374739081 : True := trivial
theorem PySem.W.Fast.tw18352542449835981442 : True := trivial
theorem PySem.W.Fast.tw15508006907819511896 : True := trivial
theorem PySem.W.Fast.tw6928711938764154568 : True := trivial
theorem PySem.W.Fast.tw11234175632996416501 : True := trivial
theorem PySem.W.Fast.tw10432543336336475092 : True := trivial
theorem PySem.W.Fast.tw4495930575356710410 : True := trivial
theorem PySem.W.Fast.tw1611415641106564823 : True := trivial
theorem PySem.W.Fast.tw1515266151030551890 : True := trivial
theorem PySem.W.Fast.tw16553561831430799689 : True := trivial
theorem PySem.W.Fast.tw15485988594971494652 : True := trivial
theorem PySem.W.Fast.tw13898726850607782375 : True := trivial
theorem PySem.W.Fast.tw15183580250703841854 : True := trivial
theorem PySem.W.Fast.tw11682252172265246615 : True := trivial
theorem PySem.W.Fast.tw10493870211883509147 : True := trivial
theorem PySem.W.Fast.tw6726041574725817346 : True := trivial
theorem PySem.W.Fast.tw7237471279131897194 : True := trivial
theorem PySem.W.Fast.tw13183248832097860397 : True := trivial
theorem PySem.W.Fast.tw13753052843570396165 : True := trivial
theorem PySem.W.Fast.tw4834649468418975960 : True := trivial
theorem PySem.W.Fast.tw16659815067772606394 : True := trivial
theorem PySem.W.Fast.tw4383044554335948339 : True := trivial
theorem PySem.W.Fast.tw14332249409216054868 : True := trivial
theorem PySem.W.Fast.tw14303279640569129808 : True := trivial
theorem PySem.W.Fast.tw13057600178742664321 : True := trivial
theorem PySem.W.Fast.tw11526355137856565324 : True := trivial
theorem PySem.W.Fast.tw3183297594028026687 : True := trivial
theorem PySem.W.Fast.tw14422943839042147033 : True := trivial
theorem PySem.W.Fast.tw9669266258935955126 : True := trivial
theorem PySem.W.Fast.tw7579230751237074054 : True := trivial
theorem PySem.W.Fast.tw7568574761444930284 : True := trivial
theorem PySem.W.Fast.tw8017299398903903403 : True := trivial
theorem PySem.W.Fast.tw8706396913730826748 : True := trivial
theorem PySem.W.Fast.tw15224669093801822254 : True := trivial
theorem PySem.W.Fast.tw4164646416273501757 : True := trivial
theorem PySem.W.Fast.tw13090541256143749872 : True := trivial
theorem PySem.W.Fast.tw10284073667725237084 : True := trivial
theorem PySem.W.Fast.tw15259627249522715765 : True := trivial
theorem PySem.W.Fast.tw7718997579271672089 : True := trivial
theorem PySem.W.Fast.tw3505366814629692607 : True := trivial
theorem PySem.W.Fast.tw16169691588227419277 : True := trivial
theorem PySem.W.Fast.tw17657845349567520849 : True := trivial
theorem PySem.W.Fast.tw1958803352022852623 : True := trivial
theorem PySem.W.Fast.tw16890864508702326634 : True := trivial
theorem PySem.W.Fast.tw5185770592311627095 : True := trivial
theorem PySem.W.Fast.tw16421955216848908001 : True := trivial
theorem PySem.W.Fast.tw15089410415064945615 : True := trivial
theorem PySem.W.Fast.tw10841511597157021889 : True := trivial
theorem PySem.W.Fast.tw16690314065411217103 : True := trivial
theorem PySem.W.Fast.tw2960423388606805030 : True := trivial
theorem PySem.W.Fast.tw14510344392667511980 : True := trivial
theorem PySem.W.Fast.tw12849683607795916814 : True := trivial
theorem PySem.W.Fast.tw14290547030125853055 : True := trivial
theorem PySem.W.Fast.tw9577656948477180907 : True := trivial
theorem PySem.W.Fast.tw7652349632372414122 : True := trivial
theorem PySem.W.Fast.tw7118946482933385628 : True := trivial
theorem PySem.W.Fast.tw71381553956532626 : True := trivial
theorem PySem.W.Fast.tw11943269352774140388 : True := trivial
theorem PySem.W.Fast.tw14842153516709477061 : True := trivial
theorem PySem.W.Fast.tw10978689009469581877 : True := trivial
theorem PySem.W.Fast.tw5095481192161412615 : True := trivial
theorem PySem.W.Fast.tw10868134536060370236 : True := trivial
theorem PySem.W.Fast.tw16853021599479358413 : True := trivial
theorem PySem.W.Fast.tw16963842270066174319 : True := trivial
theorem PySem.W.Fast.tw11372855544844184902 : True := trivial
theorem PySem.W.Fast.tw13162149076806848099 : True := trivial
theorem PySem.W.Fast.tw245105995662782422 : True := trivial
theorem PySem.W.Fast.tw2685928783045605926 : True := trivial
theorem PySem.W.Fast.tw9651055573197277359 : True := trivial
theorem PySem.W.Fast.tw8112867371537271753 : True := trivial
theorem PySem.W.Fast.tw8605180511851919195 : True := trivial
theorem PySem.W.Fast.tw9086505293322108478 : True := trivial
theorem PySem.W.Fast.tw17913571301573329053 : True := trivial
theorem PySem.W.Fast.tw411283852725022381 : True := trivial
theorem PySem.W.Fast.tw10102798240756208038 : True := trivial
theorem PySem.W.Fast.tw11134897984357065491 : True := trivial
theorem PySem.W.Fast.tw16593916436191476873 : True := trivial
theorem PySem.W.Fast.tw9967965618217743526 : True := trivial
theorem PySem.W.Fast.tw5806139154249493375 : True := trivial
theorem PySem.W.Fast.tw9911614563014532527 : True := trivial
theorem PySem.W.Fast.tw1975196519817217292 : True := trivial
theorem PySem.W.Fast.tw5321220552803491872 : True := trivial
theorem PySem.W.Fast.tw1659670838130476906 : True := trivial
theorem PySem.W.Fast.tw13991486295039889680 : True := trivial
theorem PySem.W.Fast.tw6752036994289980328 : True := trivial
theorem PySem.W.Fast.tw15568209876379705351 : True := trivial
theorem PySem.W.Fast.tw10164744609364306256 : True := trivial
theorem PySem.W.Fast.tw17657462718455663613 : True := trivial
theorem PySem.W.Fast.tw12873509817509512149 : True := trivial
theorem PySem.W.Fast.tw654999661083416710 : True := trivial
theorem PySem.W.Fast.tw319076560386429592 : True := trivial
theorem PySem.W.Fast.tw13099361968969260590 : True := trivial
theorem PySem.W.Fast.tw10070252292002874618 : True := trivial
theorem PySem.W.Fast.tw8147037736269820762 : True := trivial
theorem PySem.W.Fast.tw1092044965566710744 : True := trivial
theorem PySem.W.Fast.tw10168207141401167200 : True := trivial
theorem PySem.W.Fast.tw15049368066132377903 : True := trivial
theorem PySem.W.Fast.tw16699952326749113497 : True := trivial
theorem PySem.W.Fast.tw18170364890153817851 : True := trivial
theorem PySem.W.Fast.tw2104830236978876475 : True := trivial
theorem PySem.W.Fast.tw7259489401808942763 : True := trivial
theorem PySem.W.Fast.tw1822892592150130781 : True := trivial
theorem PySem.W.Fast.tw9423620171600870898 : True := trivial
theorem PySem.W.Fast.tw6046931721636428331 : True := trivial
theorem PySem.W.Fast.tw6190354272238634543 : True := trivial
theorem PySem.W.Fast.tw16850966946265801050 : True := trivial
theorem PySem.W.Fast.tw11348662093253536142 : True := trivial
theorem PySem.W.Fast.tw9843083151376014599 : True := trivial
theorem PySem.W.Fast.tw78149214100894599 : True := trivial
theorem PySem.W.Fast.tw12386436969782145125 : True := trivial
theorem PySem.W.Fast.tw17307839910984143719 : True := trivial
theorem PySem.W.Fast.tw13869096378243374686 : True := trivial
theorem PySem.W.Fast.tw17830841871493043331 : True := trivial
theorem PySem.W.Fast.tw25557826971129272 : True := trivial
theorem PySem.W.Fast.tw24740524286769689 : True := trivial
theorem PySem.W.Fast.tw15649382710629563707 : True := trivial
theorem PySem.W.Fast.tw10947231484470175575 : True := trivial
theorem PySem.W.Fast.tw14765301621175626211 : True := trivial
theorem PySem.W.Fast.tw729456791111695989 : True := trivial
theorem PySem.W.Fast.tw10815237253635071480 : True := trivial
theorem PySem.W.Fast.tw13158643871138363122 : True := trivial
theorem PySem.W.Fast.tw360246178495435886 : True := trivial
theorem PySem.W.Fast.tw10762563322083122844 : True := trivial
theorem PySem.W.Fast.tw68195935879515372 : True := trivial
theorem PySem.W.Fast.tw2919260867927002365 : True := trivial
theorem PySem.W.Fast.tw6376586821583867415 : True := trivial
theorem PySem.W.Fast.tw13706139639791027039 : True := trivial
theorem PySem.W.Fast.tw16587450673205210815 : True := trivial
theorem PySem.W.Fast.tw5140420155067718489 : True := trivial
theorem PySem.W.Fast.tw1965152905935515859 : True := trivial
theorem PySem.W.Fast.tw12961891867928813005 : True := trivial
theorem PySem.W.Fast.tw10855346137935686638 : True := trivial
theorem PySem.W.Fast.tw112017141460826420 : True := trivial
theorem PySem.W.Fast.tw7336411580532670720 : True := trivial
theorem PySem.W.Fast.tw12764605924159410661 : True := trivial
theorem PySem.W.Fast.tw3831700200810567482 : True := trivial
theorem PySem.W.Fast.tw10115440339371202743 : True := trivial
theorem PySem.W.Fast.tw14073050289218334667 : True := trivial
theorem PySem.W.Fast.tw893269797218420673 : True := trivial
theorem PySem.W.Fast.tw11902847139879313617 : True := trivial
theorem PySem.W.Fast.tw11700634979131048082 : True := trivial
theorem PySem.W.Fast.tw13389866999354730145 : True := trivial
theorem PySem.W.Fast.tw6008685810435184853 : True := trivial
theorem PySem.W.Fast.tw11142950750049476564 : True := trivial
theorem PySem.W.Fast.tw12887941215553344111 : True := trivial
theorem PySem.W.Fast.tw16692402900712308653 : True := trivial
theorem PySem.W.Fast.tw2239945844671570503 : True := trivial
theorem PySem.W.Fast.tw16231526998259615196 : True := trivial
theorem PySem.W.Fast.tw12480920029732423281 : True := trivial
theorem PySem.W.Fast.tw10958330642645751485 : True := trivial
theorem PySem.W.Fast.tw6388989542649126729 : True := trivial
theorem PySem.W.Fast.tw8968885903401998700 : True := trivial
theorem PySem.W.Fast.tw16950225584983553682 : True := trivial
theorem PySem.W.Fast.tw13042708738678929605 : True := trivial
theorem PySem.W.Fast.tw4070610921634911632 : True := trivial
theorem PySem.W.Fast.tw4789477861383962164 : True := trivial
theorem PySem.W.Fast.tw7737220216665688063 : True := trivial
theorem PySem.W.Fast.tw13038490536033270530 : True := trivial
theorem PySem.W.Fast.tw3834093395872493722 : True := trivial
theorem PySem.W.Fast.tw15228753400052213641 : True := trivial
theorem PySem.W.Fast.tw10687041413835578188 : True := trivial
theorem PySem.W.Fast.tw5077627367322477691 : True := trivial
theorem PySem.W.Fast.tw16386523081279256842 : True := trivial
theorem PySem.W.Fast.tw14789358867451279842 : True := trivial
theorem PySem.W.Fast.tw6569170115375711675 : True := trivial
theorem PySem.W.Fast.tw18089539097678544648 : True := trivial
theorem PySem.W.Fast.tw67989493736422890 : True := trivial
theorem PySem.W.Fast.tw3122002919557651190 : True := trivial
theorem PySem.W.Fast.tw8344747581901736936 : True := trivial
theorem PySem.W.Fast.tw240336684835878816 : True := trivial
theorem PySem.W.Fast.tw15034396650588820527 : True := trivial
theorem PySem.W.Fast.tw14977951896333567479 : True := trivial
theorem PySem.W.Fast.tw8187923520268317188 : True := trivial
theorem PySem.W.Fast.tw15968488127752536708 : True := trivial
theorem PySem.W.Fast.tw7891791042545644650 : True := trivial
theorem PySem.W.Fast.tw7605521462957490035 : True := trivial
theorem PySem.W.Fast.tw17390896495870788685 : True := trivial
theorem PySem.W.Fast.tw8365772390030533286 : True := trivial
theorem PySem.W.Fast.tw15200735021341799402 : True := trivial
theorem PySem.W.Fast.tw15193359093221842808 : True := trivial
theorem PySem.W.Fast.tw7750641069292889535 : True := trivial
theorem PySem.W.Fast.tw11741690930484473920 : True := trivial
theorem PySem.W.Fast.tw16105077898821112895 : True := trivial
theorem PySem.W.Fast.tw787097811494293457 : True := trivial
theorem PySem.W.Fast.tw3418865802122160293 : True := trivial
theorem PySem.W.Fast.tw5249309717907775607 : True := trivial
theorem PySem.W.Fast.tw1226181288523808753 : True := trivial
theorem PySem.W.Fast.tw10055932207392754897 : True := trivial
theorem PySem.W.Fast.tw414924192012648978 : True := trivial
theorem PySem.W.Fast.tw6916510679961996035 : True := trivial
theorem PySem.W.Fast.tw3312312121224590415 : True := trivial
theorem PySem.W.Fast.tw16326546568260173668 : True := trivial
theorem PySem.W.Fast.tw11077104257836496001 : True := trivial
theorem PySem.W.Fast.tw12962786704853867181 : True := trivial
theorem PySem.W.Fast.tw16773614614304846327 : True := trivial
theorem PySem.W.Fast.tw13415425348199821796 : True := trivial
theorem PySem.W.Fast.tw8563307329812984532 : True := trivial
theorem PySem.W.Fast.tw5253708360380276407 : True := trivial
theorem PySem.W.Fast.tw1877438835455902419 : True := trivial
theorem PySem.W.Fast.tw6150873716186278697 : True := trivial
theorem PySem.W.Fast.tw15761852789913982776 : True := trivial
theorem PySem.W.Fast.tw13707760056169992862 : True := trivial
theorem PySem.W.Fast.tw17579059271127178796 : True := trivial
theorem PySem.W.Fast.tw5573434586742214197 : True := trivial
theorem PySem.W.Fast.tw11462210302508096138 : True := trivial
theorem PySem.W.Fast.tw12824604504514160052 : True := trivial
theorem PySem.W.Fast.tw1002064658943064300 : True := trivial
theorem PySem.W.Fast.tw6399692370558959958 : True := trivial
theorem PySem.W.Fast.tw14501775650000753977 : True := trivial
theorem PySem.W.Fast.tw11271291313451422676 : True := trivial
theorem PySem.W.Fast.tw7268912431259354396 : True := trivial
theorem PySem.W.Fast.tw2808263950800495987 : True := trivial
theorem PySem.W.Fast.tw711721718620148478 : True := trivial
theorem PySem.W.Fast.tw2458748806950664159 : True := trivial
theorem PySem.W.Fast.tw3596620424372443778 : True := trivial
theorem PySem.W.Fast.tw9031541006383681430 : True := trivial
theorem PySem.W.Fast.tw17246727774183121296 : True := trivial
theorem PySem.W.Fast.tw6888483728414305525 : True := trivial
theorem PySem.W.Fast.tw4499805227981422463 : True := trivial
theorem PySem.W.Fast.tw6536952361491057736 : True := trivial
theorem PySem.W.Fast.tw1256046015514360280 : True := trivial
theorem PySem.W.Fast.tw6757029978342075590 : True := trivial
theorem PySem.W.Fast.tw11048591528236618341 : True := trivial
theorem PySem.W.Fast.tw16159881144952010172 : True := trivial
theorem PySem.W.Fast.tw11756656190400073637 : True := trivial
theorem PySem.W.Fast.tw14948541484045097011 : True := trivial
theorem PySem.W.Fast.tw4727423500856765874 : True := trivial
theorem PySem.W.Fast.tw10239628086891978295 : True := trivial
theorem PySem.W.Fast.tw16373826987529456395 : True := trivial
theorem PySem.W.Fast.tw3818338566202242299 : True := trivial
theorem PySem.W.Fast.tw11143860849246648098 : True := trivial
theorem PySem.W.Fast.tw12538082237523184076 : True := trivial
theorem PySem.W.Fast.tw1950100836978248026 : True := trivial
theorem PySem.W.Fast.tw1275298575629316880 : True := trivial
theorem PySem.W.Fast.tw17628243517413377806 : True := trivial
theorem PySem.W.Fast.tw13103753685197771328 : True := trivial
theorem PySem.W.Fast.tw9537075421892098119 : True := trivial
theorem PySem.W.Fast.tw9801882092612844119 : True := trivial
theorem PySem.W.Fast.tw14674870779198646642 : True := trivial
theorem PySem.W.Fast.tw17076312827410950643 : True := trivial
theorem PySem.W.Fast.tw15161384601025435476 : True := trivial
theorem PySem.W.Fast.tw1634393273046259767 : True := trivial
theorem PySem.W.Fast.tw4286292306425142213 : True := trivial
theorem PySem.W.Fast.tw13104996584228206548 : True := trivial
theorem PySem.W.Fast.tw2520243782080428390 : True := trivial
theorem PySem.W.Fast.tw2635422704624377128 : True := trivial
theorem PySem.W.Fast.tw17327209564032999971 : True := trivial
theorem PySem.W.Fast.tw206825815112825145 : True := trivial
theorem PySem.W.Fast.tw4157538164566576310 : True := trivial
theorem PySem.W.Fast.tw7194110083289924100 : True := trivial
theorem PySem.W.Fast.tw8705156489014210805 : True := trivial
theorem PySem.W.Fast.tw12928895590884810013 : True := trivial
theorem PySem.W.Fast.tw7088467295355423806 : True := trivial
theorem PySem.W.Fast.tw5197964607733341217 : True := trivial
theorem PySem.W.Fast.tw10860483077966132142 : True := trivial
theorem PySem.W.Fast.tw11646955473365424335 : True := trivial
theorem PySem.W.Fast.tw7457037453114605565 : True := trivial
theorem PySem.W.Fast.tw12917025808537690608 : True := trivial
theorem PySem.W.Fast.tw1025851680219411072 : True := trivial
theorem PySem.W.Fast.tw15713665052086928130 : True := trivial
theorem PySem.W.Fast.tw8006550920865448687 : True := trivial
theorem PySem.W.Fast.tw5340143759163357971 : True := trivial
theorem PySem.W.Fast.tw7354980245133601371 : True := trivial
theorem PySem.W.Fast.tw17680629071066763695 : True := trivial
theorem PySem.W.Fast.tw3402427256627878123 : True := trivial
theorem PySem.W.Fast.tw18240814836838818647 : True := trivial
theorem PySem.W.Fast.tw15124992291857211102 : True := trivial
theorem PySem.W.Fast.tw7117627213229855243 : True := trivial
theorem PySem.W.Fast.tw16759260939356995157 : True := trivial
theorem PySem.W.Fast.tw6392298716660019047 : True := trivial
theorem PySem.W.Fast.tw10098537891814599895 : True := trivial
theorem PySem.W.Fast.tw14896518604410073455 : True := trivial
theorem PySem.W.Fast.tw4066049194300120673 : True := trivial
theorem PySem.W.Fast.tw724833365418401192 : True := trivial
theorem PySem.W.Fast.tw3183827643392952140 : True := trivial
theorem PySem.W.Fast.tw14457803175559849458 : True := trivial
theorem PySem.W.Fast.tw13075664274864707910 : True := trivial
theorem PySem.W.Fast.tw7638737100812022671 : True := trivial
theorem PySem.W.Fast.tw4686556359517697668 : True := trivial
theorem PySem.W.Fast.tw8203279954590841810 : True := trivial
theorem PySem.W.Fast.tw7793496469047043705 : True := trivial
theorem PySem.W.Fast.tw6256521449587685761 : True := trivial
theorem PySem.W.Fast.tw8690721521727323855 : True := trivial
theorem PySem.W.Fast.tw18398687215433722928 : True := trivial
theorem PySem.W.Fast.tw13427097914415301135 : True := trivial
theorem PySem.W.Fast.tw14287332014781157739 : True := trivial
theorem PySem.W.Fast.tw11100857431862776842 : True := trivial
theorem PySem.W.Fast.tw8449571042978330138 : True := trivial
theorem PySem.W.Fast.tw8361129194434310455 : True := trivial
theorem PySem.W.Fast.tw7354631592774337818 : True := trivial
theorem PySem.W.Fast.tw4822770656157307068 : True := trivial
theorem PySem.W.Fast.tw7039553433142096407 : True := trivial
theorem PySem.W.Fast.tw17963116238941291938 : True := trivial
theorem PySem.W.Fast.tw5723270646976716560 : True := trivial
theorem PySem.W.Fast.tw16055460604494615670 : True := trivial
theorem PySem.W.Fast.tw14839398885438375365 : True := trivial
theorem PySem.W.Fast.tw2530011706021663571 : True := trivial
theorem PySem.W.Fast.tw9291202872653588210 : True := trivial
theorem PySem.W.Fast.tw14161062127208704442 : True := trivial
theorem PySem.W.Fast.tw15959546667906505923 : True := trivial
theorem PySem.W.Fast.tw13821611535721984358 : True := trivial
theorem PySem.W.Fast.tw15422121378865368723 : True := trivial
theorem PySem.W.Fast.tw5819475774230294678 : True := trivial
theorem PySem.W.Fast.tw1680223349162560532 : True := trivial
theorem PySem.W.Fast.tw14430608718148152045 : True := trivial
theorem PySem.W.Fast.tw14140601878491502338 : True := trivial
theorem PySem.W.Fast.tw6328234389956737098 : True := trivial
theorem PySem.W.Fast.tw18177300093883843303 : True := trivial
theorem PySem.W.Fast.tw15132597621567527962 : True := trivial
theorem PySem.W.Fast.tw9121991730658105031 : True := trivial
theorem PySem.W.Fast.tw5436240185099853043 : True := trivial
theorem PySem.W.Fast.tw17975441688363906600 : True := trivial
theorem PySem.W.Fast.tw8337888214847776288 : True := trivial
theorem PySem.W.Fast.tw9967264320105629451 : True := trivial
theorem PySem.W.Fast.tw9014779327707879741 : True := trivial
theorem PySem.W.Fast.tw8965415295370589653 : True := trivial
theorem PySem.W.Fast.tw1944659107959368739 : True := trivial
theorem PySem.W.Fast.tw9676444911873474872 : True := trivial
theorem PySem.W.Fast.tw17915278865769239712 : True := trivial
theorem PySem.W.Fast.tw14882730931851909306 : True := trivial
theorem PySem.W.Fast.tw14550048845598260739 : True := trivial
theorem PySem.W.Fast.tw4312530184571005441 : True := trivial
theorem PySem.W.Fast.tw13947884403582408741 : True := trivial
theorem PySem.W.Fast.tw8906307536645188042 : True := trivial
theorem PySem.W.Fast.tw13921525477950179462 : True := trivial
theorem PySem.W.Fast.tw2768868202163012308 : True := trivial
theorem PySem.W.Fast.tw12895404177644214209 : True := trivial
theorem PySem.W.Fast.tw16442221265439828730 : True := trivial
theorem PySem.W.Fast.tw5715674242343029903 : True := trivial
theorem PySem.W.Fast.tw1299675915638924103 : True := trivial
theorem PySem.W.Fast.tw6430932798435805196 : True := trivial
theorem PySem.W.Fast.tw2666119972936056988 : True := trivial
theorem PySem.W.Fast.tw5688624055799853586 : True := trivial
theorem PySem.W.Fast.tw15479188303322054495 : True := trivial
theorem PySem.W.Fast.tw12547646898943706307 : True := trivial
theorem PySem.W.Fast.tw16575284246141513632 : True := trivial
theorem PySem.W.Fast.tw6433727351660478890 : True := trivial
theorem PySem.W.Fast.tw8078820015211031616 : True := trivial
theorem PySem.W.Fast.tw6016023097615078264 : True := trivial
theorem PySem.W.Fast.tw3053681846015861799 : True := trivial
theorem PySem.W.Fast.tw2152834865287912128 : True := trivial
theorem PySem.W.Fast.tw8132284249681326762 : True := trivial
theorem PySem.W.Fast.tw6762099551282513876 : True := trivial
theorem PySem.W.Fast.tw14254304317759219382 : True := trivial
theorem PySem.W.Fast.tw5355180651299891863 : True := trivial
theorem PySem.W.Fast.tw13977547287236234551 : True := trivial
theorem PySem.W.Fast.tw17778918642083251916 : True := trivial
theorem PySem.W.Fast.tw5814185018006202235 : True := trivial
theorem PySem.W.Fast.tw8645336292435497534 : True := trivial
theorem PySem.W.Fast.tw1820686429405205581 : True := trivial
theorem PySem.W.Fast.tw10105818701865633145 : True := trivial
theorem PySem.W.Fast.tw7269675176618420631 : True := trivial
theorem PySem.W.Fast.tw658227279240992301 : True := trivial
theorem PySem.W.Fast.tw16412604619768823433 : True := trivial
theorem PySem.W.Fast.tw5832632589866510820 : True := trivial
theorem PySem.W.Fast.tw4449902959838858327 : True := trivial
theorem PySem.W.Fast.tw2235101804729203396 : True := trivial
theorem PySem.W.Fast.tw16113729591750888013 : True := trivial
theorem PySem.W.Fast.tw4184006306937523253 : True := trivial
theorem PySem.W.Fast.tw9333854027999192270 : True := trivial
theorem PySem.W.Fast.tw7545113097142063666 : True := trivial
theorem PySem.W.Fast.tw1829523836722171651 : True := trivial
theorem PySem.W.Fast.tw3294283953844916072 : True := trivial
theorem PySem.W.Fast.tw8851610827788353519 : True := trivial
theorem PySem.W.Fast.tw9051442144266343879 : True := trivial
theorem PySem.W.Fast.tw18212037006957078578 : True := trivial
theorem PySem.W.Fast.tw13638673387112218360 : True := trivial
theorem PySem.W.Fast.tw1301048944843150183 : True := trivial
theorem PySem.W.Fast.tw12562945020372867099 : True := trivial
theorem PySem.W.Fast.tw15757210867271178486 : True := trivial
theorem PySem.W.Fast.tw6227289256921122551 : True := trivial
theorem PySem.W.Fast.tw8046679430903054990 : True := trivial
theorem PySem.W.Fast.tw10934974047344254130 : True := trivial
theorem PySem.W.Fast.tw127531313046811237 : True := trivial
theorem PySem.W.Fast.tw14415722493072008806 : True := trivial
theorem PySem.W.Fast.tw7247456869811167718 : True := trivial
theorem PySem.W.Fast.tw8463239481449478124 : True := trivial
theorem PySem.W.Fast.tw3898277426079271137 : True := trivial
theorem PySem.W.Fast.tw15463887155162601478 : True := trivial
theorem PySem.W.Fast.tw232282580341696277 : True := trivial
theorem PySem.W.Fast.tw2282402218244457533 : True := trivial
theorem PySem.W.Fast.tw13159806607251752999 : True := trivial
theorem PySem.W.Fast.tw15059357036187016243 : True := trivial
theorem PySem.W.Fast.tw13069435782069766508 : True := trivial
theorem PySem.W.Fast.tw7331243030793523909 : True := trivial
theorem PySem.W.Fast.tw11099145699102148370 : True := trivial
theorem PySem.W.Fast.tw8721662117174013513 : True := trivial
theorem PySem.W.Fast.tw11664784771606375544 : True := trivial
theorem PySem.W.Fast.tw9140989474992765338 : True := trivial
theorem PySem.W.Fast.tw9475466751113735758 : True := trivial
theorem PySem.W.Fast.tw15766168490883031495 : True := trivial
theorem PySem.W.Fast.tw3070397370167822755 : True := trivial
theorem PySem.W.Fast.tw4229008024997801904 : True := trivial
theorem PySem.W.Fast.tw8291537818640201828 : True := trivial
theorem PySem.W.Fast.tw11481205879700251291 : True := trivial
theorem PySem.W.Fast.tw5196431570919191142 : True := trivial
theorem PySem.W.Fast.tw3440322700760467997 : True := trivial
theorem PySem.W.Fast.tw476733796338996608 : True := trivial
theorem PySem.W.Fast.tw14665559932895496142 : True := trivial
theorem PySem.W.Fast.tw4629178273819659584 : True := trivial
theorem PySem.W.Fast.tw11570063390949364823 : True := trivial
theorem PySem.W.Fast.tw15375745974079155227 : True := trivial
theorem PySem.W.Fast.tw16719610217191567798 : True := trivial
theorem PySem.W.Fast.tw9810164429660729120 : True := trivial
theorem PySem.W.Fast.tw10411235792701776991 : True := trivial
theorem PySem.W.Fast.tw9066401449492815582 : True := trivial
theorem PySem.W.Fast.tw7290460768674679829 : True := trivial
theorem PySem.W.Fast.tw54823450040942675 : True := trivial
theorem PySem.W.Fast.tw3098127553519655872 : True := trivial
theorem PySem.W.Fast.tw14670779935836650959 : True := trivial
theorem PySem.W.Fast.tw1382385922923767334 : True := trivial
theorem PySem.W.Fast.tw3763611894509535878 : True := trivial
theorem PySem.W.Fast.tw15715037856088792419 : True := trivial
theorem PySem.W.Fast.tw10565188431146659150 : True := trivial
theorem PySem.W.Fast.tw17844251110617544671 : True := trivial
theorem PySem.W.Fast.tw9168866876220241699 : True := trivial
theorem PySem.W.Fast.tw13834847456945788062 : True := trivial
theorem PySem.W.Fast.tw11891723105782836207 : True := trivial
theorem PySem.W.Fast.tw16181758362523788268 : True := trivial
theorem PySem.W.Fast.tw5733092129319070390 : True := trivial
theorem PySem.W.Fast.tw6545978499698905250 : True := trivial
theorem PySem.W.Fast.tw11108605863286190685 : True := trivial
theorem PySem.W.Fast.tw11757725873571356377 : True := trivial
theorem PySem.W.Fast.tw1432984806005179549 : True := trivial
theorem PySem.W.Fast.tw5815324872053935712 : True := trivial
theorem PySem.W.Fast.tw14754633544510573253 : True := trivial
theorem PySem.W.Fast.tw10577789399592022972 : True := trivial
theorem PySem.W.Fast.tw11659329255440223611 : True := trivial
theorem PySem.W.Fast.tw15684726791509135974 : True := trivial
theorem PySem.W.Fast.tw1341408636527383575 : True := trivial
theorem PySem.W.Fast.tw9805428023561503778 : True := trivial
theorem PySem.W.Fast.tw14443078639086915251 : True := trivial
theorem PySem.W.Fast.tw210183226451454762 : True := trivial
theorem PySem.W.Fast.tw17148398346304609997 : True := trivial
theorem PySem.W.Fast.tw8697543169931372052 : True := trivial
theorem PySem.W.Fast.tw51703957825346520 : True := trivial
theorem PySem.W.Fast.tw1618540828264055536 : True := trivial
theorem PySem.W.Fast.tw7798735814056029371 : True := trivial
theorem PySem.W.Fast.tw2943119006592123135 : True := trivial
theorem PySem.W.Fast.tw3330375053758031060 : True := trivial
theorem PySem.W.Fast.tw6087953168723146659 : True := trivial
theorem PySem.W.Fast.tw15245306568441616797 : True := trivial
theorem PySem.W.Fast.tw9185195339600186365 : True := trivial
theorem PySem.W.Fast.tw6895866207553302217 : True := trivial
theorem PySem.W.Fast.tw10613810287029150881 : True := trivial
theorem PySem.W.Fast.tw18440542569135310696 : True := trivial
theorem PySem.W.Fast.tw3177815746012289705 : True := trivial
theorem PySem.W.Fast.tw7009526724429407289 : True := trivial
theorem PySem.W.Fast.tw5003131526095329529 : True := trivial
theorem PySem.W.Fast.tw13091026049469872041 : True := trivial
theorem PySem.W.Fast.tw760291105483761244 : True := trivial
theorem PySem.W.Fast.tw2019803166671647836 : True := trivial
theorem PySem.W.Fast.tw5434853401643148920 : True := trivial
theorem PySem.W.Fast.tw11472201270302610188 : True := trivial
theorem PySem.W.Fast.tw6961310884327866699 : True := trivial
theorem PySem.W.Fast.tw16427595567864839334 : True := trivial
theorem PySem.W.Fast.tw181081005135897411 : True := trivial
theorem PySem.W.Fast.tw1307891023024708584 : True := trivial
theorem PySem.W.Fast.tw4312199242368988578 : True := trivial
theorem PySem.W.Fast.tw5749990707694851069 : True := trivial
theorem PySem.W.Fast.tw7420034987930305511 : True := trivial
theorem PySem.W.Fast.tw10146961165761015786 : True := trivial
theorem PySem.W.Fast.tw11008929022404444943 : True := trivial
theorem PySem.W.Fast.tw8741702515596927706 : True := trivial
theorem PySem.W.Fast.tw8535144308798844966 : True := trivial
theorem PySem.W.Fast.tw18357175182622014549 : True := trivial
theorem PySem.W.Fast.tw7797757304880133228 : True := trivial
theorem PySem.W.Fast.tw1723770592432522890 : True := trivial
theorem PySem.W.Fast.tw12803525552616854277 : True := trivial
theorem PySem.W.Fast.tw6369986280112687037 : True := trivial
theorem PySem.W.Fast.tw4343885003083193796 : True := trivial
theorem PySem.W.Fast.tw16136232139675332852 : True := trivial
theorem PySem.W.Fast.tw4925570638476213685 : True := trivial
theorem PySem.W.Fast.tw8133982667531921563 : True := trivial
theorem PySem.W.Fast.tw12087299301170319793 : True := trivial
theorem PySem.W.Fast.tw15093531032433030419 : True := trivial
theorem PySem.W.Fast.tw6192449781893424133 : True := trivial
theorem PySem.W.Fast.tw17227014381262952222 : True := trivial
theorem PySem.W.Fast.tw17408164885871236710 : True := trivial
theorem PySem.W.Fast.tw762894175881293957 : True := trivial
theorem PySem.W.Fast.tw11808030782292239704 : True := trivial
theorem PySem.W.Fast.tw6357993606401369639 : True := trivial
theorem PySem.W.Fast.tw11214364019625988089 : True := trivial
theorem PySem.W.Fast.tw11782799760444409401 : True := trivial
theorem PySem.W.Fast.tw295227783505117169 : True := trivial
theorem PySem.W.Fast.tw4265662712880460439 : True := trivial
theorem PySem.W.Fast.tw2746343595474562299 : True := trivial
theorem PySem.W.Fast.tw15955105355233543224 : True := trivial
theorem PySem.W.Fast.tw17939612491934801207 : True := trivial
theorem PySem.W.Fast.tw4784166267012615506 : True := trivial
theorem PySem.W.Fast.tw18299060913934209100 : True := trivial
theorem PySem.W.Fast.tw12504904302838634825 : True := trivial
theorem PySem.W.Fast.tw13306904467714218408 : True := trivial
theorem PySem.W.Fast.tw11610354140318909606 : True := trivial
theorem PySem.W.Fast.tw11347730277999642088 : True := trivial
theorem PySem.W.Fast.tw5708601743878881903 : True := trivial
theorem PySem.W.Fast.tw12874822042787062787 : True := trivial
theorem PySem.W.Fast.tw13569858442321138102 : True := trivial
theorem PySem.W.Fast.tw3179435694030593537 : True := trivial
theorem PySem.W.Fast.tw10425811566826249211 : True := trivial
theorem PySem.W.Fast.tw15152657589920354377 : True := trivial
theorem PySem.W.Fast.tw17774868703441354066 : True := trivial
theorem PySem.W.Fast.tw6907206755105509336 : True := trivial
theorem PySem.W.Fast.tw5137464573452255341 : True := trivial
theorem PySem.W.Fast.tw10617967869768190341 : True := trivial
theorem PySem.W.Fast.tw5672787202944113711 : True := trivial
theorem PySem.W.Fast.tw14888870192081127553 : True := trivial
theorem PySem.W.Fast.tw13451832779050646694 : True := trivial
theorem PySem.W.Fast.tw6132446452277168708 : True := trivial
theorem PySem.W.Fast.tw15961216540873712669 : True := trivial
theorem PySem.W.Fast.tw3694421104685027514 : True := trivial
theorem PySem.W.Fast.tw8499183876131834555 : True := trivial
theorem PySem.W.Fast.tw9813104216419030674 : True := trivial
theorem PySem.W.Fast.tw6835871654620600380 : True := trivial
theorem PySem.W.Fast.tw10335932868187481876 : True := trivial
theorem PySem.W.Fast.tw11882894656157629659 : True := trivial
theorem PySem.W.Fast.tw11884218733327659905 : True := trivial
theorem PySem.W.Fast.tw10511909611254505994 : True := trivial
theorem PySem.W.Fast.tw12151239555984784585 : True := trivial
theorem PySem.W.Fast.tw9590339136144229430 : True := trivial
theorem PySem.W.Fast.tw13944157496754585669 : True := trivial
theorem PySem.W.Fast.tw4986421436503241654 : True := trivial
theorem PySem.W.Fast.tw9631819369907881543 : True := trivial
theorem PySem.W.Fast.tw16247075751816778553 : True := trivial
theorem PySem.W.Fast.tw3703525515121128159 : True := trivial
theorem PySem.W.Fast.tw13356578398060636791 : True := trivial
theorem PySem.W.Fast.tw8894183789408473788 : True := trivial
theorem PySem.W.Fast.tw18097184327075739594 : True := trivial
theorem PySem.W.Fast.tw16115658225486334973 : True := trivial
theorem PySem.W.Fast.tw14952934988677211365 : True := trivial
theorem PySem.W.Fast.tw10809160223329448848 : True := trivial
theorem PySem.W.Fast.tw7487799138455269927 : True := trivial
theorem PySem.W.Fast.tw9116767948086123686 : True := trivial
theorem PySem.W.Fast.tw8270990905985546339 : True := trivial
theorem PySem.W.Fast.tw6551757388832223597 : True := trivial
theorem PySem.W.Fast.tw3838669418731620676 : True := trivial
theorem PySem.W.Fast.tw6942108037027289782 : True := trivial
theorem PySem.W.Fast.tw4544158002950477309 : True := trivial
theorem PySem.W.Fast.tw10992803614359409862 : True := trivial
theorem PySem.W.Fast.tw13085783070269299741 : True := trivial
theorem PySem.W.Fast.tw17541781425611915666 : True := trivial
theorem PySem.W.Fast.tw15317335802093189922 : True := trivial
theorem PySem.W.Fast.tw12131021693799812744 : True := trivial
theorem PySem.W.Fast.tw10367438259250492687 : True := trivial
theorem PySem.W.Fast.tw4712498724881907612 : True := trivial
theorem PySem.W.Fast.tw10662538464542879669 : True := trivial
theorem PySem.W.Fast.tw5020799858776027991 : True := trivial
theorem PySem.W.Fast.tw5565529550474354374 : True := trivial
theorem PySem.W.Fast.tw8828032315667415712 : True := trivial
theorem PySem.W.Fast.tw2264981528247776393 : True := trivial
theorem PySem.W.Fast.tw3677721038588419324 : True := trivial
theorem PySem.W.Fast.tw15668047714646906940 : True := trivial
theorem PySem.W.Fast.tw10414480465213264632 : True := trivial
theorem PySem.W.Fast.tw3986532139172478478 : True := trivial
theorem PySem.W.Fast.tw1959656597540704267 : True := trivial
theorem PySem.W.Fast.tw12738427313603319372 : True := trivial
theorem PySem.W.Fast.tw12315878618719423255 : True := trivial
theorem PySem.W.Fast.tw17742308328863070091 : True := trivial
theorem PySem.W.Fast.tw4217102052135407797 : True := trivial
theorem PySem.W.Fast.tw6234384192855150412 : True := trivial
theorem PySem.W.Fast.tw8818291383400876715 : True := trivial
theorem PySem.W.Fast.tw9864532533083929388 : True := trivial
theorem PySem.W.Fast.tw2980372109348269495 : True := trivial
theorem PySem.W.Fast.tw17769834065344041379 : True := trivial
theorem PySem.W.Fast.tw2949629013126900172 : True := trivial
theorem PySem.W.Fast.tw358896294020445539 : True := trivial
theorem PySem.W.Fast.tw1937894448528945603 : True := trivial
theorem PySem.W.Fast.tw871546694642077478 : True := trivial
theorem PySem.W.Fast.tw528736798674943906 : True := trivial
theorem PySem.W.Fast.tw2614201286142976150 : True := trivial
theorem PySem.W.Fast.tw11411967627744117772 : True := trivial
theorem PySem.W.Fast.tw1271246430332012692 : True := trivial
theorem PySem.W.Fast.tw6666425334082096175 : True := trivial
theorem PySem.W.Fast.tw16675606726872752154 : True := trivial
theorem PySem.W.Fast.tw14973095716015805946 : True := trivial
theorem PySem.W.Fast.tw10960800552774795388 : True := trivial
theorem PySem.W.Fast.tw1738746771177177642 : True := trivial
theorem PySem.W.Fast.tw7870602304155941129 : True := trivial
theorem PySem.W.Fast.tw15582240537596816166 : True := trivial
theorem PySem.W.Fast.tw9630699391727418275 : True := trivial
theorem PySem.W.Fast.tw13135109226849498353 : True := trivial
theorem PySem.W.Fast.tw12428972830650404126 : True := trivial
theorem PySem.W.Fast.tw18323257751006448929 : True := trivial
theorem PySem.W.Fast.tw17989867827184392287 : True := trivial
theorem PySem.W.Fast.tw18360648151979310381 : True := trivial
theorem PySem.W.Fast.tw13590328107322256254 : True := trivial
theorem PySem.W.Fast.tw6928943446351239232 : True := trivial
theorem PySem.W.Fast.tw11537984726256562186 : True := trivial
theorem PySem.W.Fast.tw4321367111035064296 : True := trivial
theorem PySem.W.Fast.tw13414926420728169998 : True := trivial
theorem PySem.W.Fast.tw3037361292626287008 : True := trivial
theorem PySem.W.Fast.tw7738156870336533965 : True := trivial
theorem PySem.W.Fast.tw11815648193259011951 : True := trivial
theorem PySem.W.Fast.tw11864206461665658977 : True := trivial
theorem PySem.W.Fast.tw11631259547408978023 : True := trivial
theorem PySem.W.Fast.tw8308515767340561262 : True := trivial
theorem PySem.W.Fast.tw2383682526343702059 : True := trivial
theorem PySem.W.Fast.tw1100603994671680073 : True := trivial
theorem PySem.W.Fast.tw7805295511723955832 : True := trivial
theorem PySem.W.Fast.tw13334455082130427201 : True := trivial
theorem PySem.W.Fast.tw7173228309337919918 : True := trivial
theorem PySem.W.Fast.tw4214279146388616434 : True := trivial
theorem PySem.W.Fast.tw2371160474263879750 : True := trivial
theorem PySem.W.Fast.tw11164512757330833141 : True := trivial
theorem PySem.W.Fast.tw970834305213147204 : True := trivial
theorem PySem.W.Fast.tw10418665972173337568 : True := trivial
theorem PySem.W.Fast.tw11253289922519264283 : True := trivial
theorem PySem.W.Fast.tw16674705099000553644 : True := trivial
theorem PySem.W.Fast.tw7598441885541249869 : True := trivial
theorem PySem.W.Fast.tw13015290532324097426 : True := trivial
theorem PySem.W.Fast.tw17077950608864092057 : True := trivial
theorem PySem.W.Fast.tw15228222328602781519 : True := trivial
theorem PySem.W.Fast.tw9999605670729111074 : True := trivial
theorem PySem.W.Fast.tw9714166553082311293 : True := trivial
theorem PySem.W.Fast.tw619357419031765886 : True := trivial
theorem PySem.W.Fast.tw4525880967643379654 : True := trivial
theorem PySem.W.Fast.tw2493448915473617074 : True := trivial
theorem PySem.W.Fast.tw3713821553846927444 : True := trivial
theorem PySem.W.Fast.tw13164965018235748463 : True := trivial
theorem PySem.W.Fast.tw4541867565721556933 : True := trivial
theorem PySem.W.Fast.tw9493510771163222683 : True := trivial
theorem PySem.W.Fast.tw12807424159889030318 : True := trivial
theorem PySem.W.Fast.tw11440127593887308003 : True := trivial
theorem PySem.W.Fast.tw8210619102145127575 : True := trivial
theorem PySem.W.Fast.tw4855706240632501027 : True := trivial
theorem PySem.W.Fast.tw3134985319049079689 : True := trivial
theorem PySem.W.Fast.tw14454910917052382747 : True := trivial
theorem PySem.W.Fast.tw15413004810506590307 : True := trivial
theorem PySem.W.Fast.tw4706150770477896895 : True := trivial
theorem PySem.W.Fast.tw3697773658431931403 : True := trivial
theorem PySem.W.Fast.tw14328702293197495185 : True := trivial
theorem PySem.W.Fast.tw14105165793874997797 : True := trivial
theorem PySem.W.Fast.tw261824445485211097 : True := trivial
theorem PySem.W.Fast.tw2983586075292870522 : True := trivial
theorem PySem.W.Fast.tw81227750369046975 : True := trivial
theorem PySem.W.Fast.tw15212899417137387525 : True := trivial
theorem PySem.W.Fast.tw5567361145539963612 : True := trivial
theorem PySem.W.Fast.tw1012823180694239200 : True := trivial
theorem PySem.W.Fast.tw2136184761816585855 : True := trivial
theorem PySem.W.Fast.tw5892306772705148396 : True := trivial
theorem PySem.W.Fast.tw1014061567524309892 : True := trivial
theorem PySem.W.Fast.tw18078885770321959513 : True := trivial
theorem PySem.W.Fast.tw9895768237600510843 : True := trivial
theorem PySem.W.Fast.tw15558736004567544314 : True := trivial
theorem PySem.W.Fast.tw13170690073851664587 : True := trivial
theorem PySem.W.Fast.tw3425653734965282829 : True := trivial
theorem PySem.W.Fast.tw277886204706965791 : True := trivial
theorem PySem.W.Fast.tw12027001400789141342 : True := trivial
theorem PySem.W.Fast.tw11648696531420688915 : True := trivial
theorem PySem.W.Fast.tw6521541687695363904 : True := trivial
theorem PySem.W.Fast.tw3473105088249949723 : True := trivial
theorem PySem.W.Fast.tw16793342552294720316 : True := trivial
theorem PySem.W.Fast.tw1460253517784786034 : True := trivial
theorem PySem.W.Fast.tw5087856495142441503 : True := trivial
theorem PySem.W.Fast.tw10248462033237918513 : True := trivial
theorem PySem.W.Fast.tw15093798015237354972 : True := trivial
theorem PySem.W.Fast.tw13057058565759215452 : True := trivial
theorem PySem.W.Fast.tw14454681190917695432 : True := trivial
theorem PySem.W.Fast.tw656179276126778392 : True := trivial
theorem PySem.W.Fast.tw10087402374780435245 : True := trivial
theorem PySem.W.Fast.tw17266611517820493491 : True := trivial
theorem PySem.W.Fast.tw12351887438315301755 : True := trivial
theorem PySem.W.Fast.tw13218655949017733526 : True := trivial
theorem PySem.W.Fast.tw6496718787663944959 : True := trivial
theorem PySem.W.Fast.tw11437608064201781837 : True := trivial
theorem PySem.W.Fast.tw8492407738616367675 : True := trivial
theorem PySem.W.Fast.tw3440723710794830701 : True := trivial
theorem PySem.W.Fast.tw14534020799965968077 : True := trivial
theorem PySem.W.Fast.tw2725068339787359438 : True := trivial
theorem PySem.W.Fast.tw6724579847007685282 : True := trivial
theorem PySem.W.Fast.tw18189844131487238009 : True := trivial
theorem PySem.W.Fast.tw16236129937980190487 : True := trivial
theorem PySem.W.Fast.tw8542332201786001131 : True := trivial
theorem PySem.W.Fast.tw8480375406992683659 : True := trivial
theorem PySem.W.Fast.tw7714373486111949639 : True := trivial
theorem PySem.W.Fast.tw6571443457792516317 : True := trivial
theorem PySem.W.Fast.tw3980411941486414541 : True := trivial
theorem PySem.W.Fast.tw6088875642932540837 : True := trivial
theorem PySem.W.Fast.tw392662629630292678 : True := trivial
theorem PySem.W.Fast.tw15333029180276655994 : True := trivial
theorem PySem.W.Fast.tw441054909100093005 : True := trivial
theorem PySem.W.Fast.tw8836114582514534455 : True := trivial
theorem PySem.W.Fast.tw4367396082058644492 : True := trivial
theorem PySem.W.Fast.tw7775455059500825210 : True := trivial
theorem PySem.W.Fast.tw3710666738123965395 : True := trivial
theorem PySem.W.Fast.tw6689020958276453767 : True := trivial
theorem PySem.W.Fast.tw1280533748974664123 : True := trivial
theorem PySem.W.Fast.tw4025729749292529567 : True := trivial
theorem PySem.W.Fast.tw16065968978613110860 : True := trivial
theorem PySem.W.Fast.tw15631966013396236615 : True := trivial
theorem PySem.W.Fast.tw2886558892235401870 : True := trivial
theorem PySem.W.Fast.tw10131490197273682010 : True := trivial
theorem PySem.W.Fast.tw1245125896050190272 : True := trivial
theorem PySem.W.Fast.tw10004755593338530566 : True := trivial
theorem PySem.W.Fast.tw16292326015010959075 : True := trivial
theorem PySem.W.Fast.tw7892398980369200552 : True := trivial
theorem PySem.W.Fast.tw10711333049597869389 : True := trivial
theorem PySem.W.Fast.tw17034000769535942327 : True := trivial
theorem PySem.W.Fast.tw10981201529277091378 : True := trivial
theorem PySem.W.Fast.tw1830504887780063336 : True := trivial
theorem PySem.W.Fast.tw6090578980066385665 : True := trivial
theorem PySem.W.Fast.tw15333865173782504846 : True := trivial
theorem PySem.W.Fast.tw8664845784535527934 : True := trivial
theorem PySem.W.Fast.tw17580719430338006312 : True := trivial
theorem PySem.W.Fast.tw5465924762585245235 : True := trivial
theorem PySem.W.Fast.tw12432882629193910071 : True := trivial
theorem PySem.W.Fast.tw7354290658185232729 : True := trivial
theorem PySem.W.Fast.tw4518435379794588094 : True := trivial
theorem PySem.W.Fast.tw3449376503747619537 : True := trivial
theorem PySem.W.Fast.tw6558143066603051888 : True := trivial
theorem PySem.W.Fast.tw3162612206055470157 : True := trivial
theorem PySem.W.Fast.tw7856345997600668175 : True := trivial
theorem PySem.W.Fast.tw5461121722978791055 : True := trivial
theorem PySem.W.Fast.tw16467306795588298545 : True := trivial
theorem PySem.W.Fast.tw12655363643247732795 : True := trivial
theorem PySem.W.Fast.tw17538142380043378195 : True := trivial
theorem PySem.W.Fast.tw7624356695958102041 : True := trivial
theorem PySem.W.Fast.tw9791055546658671762 : True := trivial
theorem PySem.W.Fast.tw7426837413117584585 : True := trivial
theorem PySem.W.Fast.tw14093226142702220592 : True := trivial
theorem PySem.W.Fast.tw2768332593910244707 : True := trivial
theorem PySem.W.Fast.tw13699207176689272620 : True := trivial
theorem PySem.W.Fast.tw13730172674191010295 : True := trivial
theorem PySem.W.Fast.tw17689345489003478778 : True := trivial
theorem PySem.W.Fast.tw3754766884561775926 : True := trivial
theorem PySem.W.Fast.tw9068748156175365537 : True := trivial
theorem PySem.W.Fast.tw15259886870108472732 : True := trivial
theorem PySem.W.Fast.tw8560917560228352299 : True := trivial
theorem PySem.W.Fast.tw12448733377749467354 : True := trivial
theorem PySem.W.Fast.tw14742158477569374501 : True := trivial
theorem PySem.W.Fast.tw13493188587441936329 : True := trivial
theorem PySem.W.Fast.tw16969786271012696576 : True := trivial
theorem PySem.W.Fast.tw16338656469356354902 : True := trivial
theorem PySem.W.Fast.tw14165331827121115690 : True := trivial
theorem PySem.W.Fast.tw1967324857992239449 : True := trivial
theorem PySem.W.Fast.tw13455171310874505351 : True := trivial
theorem PySem.W.Fast.tw17959501172630897746 : True := trivial
theorem PySem.W.Fast.tw10652681089805254568 : True := trivial
theorem PySem.W.Fast.tw13117697428184227340 : True := trivial
theorem PySem.W.Fast.tw16788997064381628202 : True := trivial
theorem PySem.W.Fast.tw16229991817163742634 : True := trivial
theorem PySem.W.Fast.tw9332023867155789389 : True := trivial
theorem PySem.W.Fast.tw13364723200795705319 : True := trivial
theorem PySem.W.Fast.tw6332308352683840984 : True := trivial
theorem PySem.W.Fast.tw17456132870847353546 : True := trivial
theorem PySem.W.Fast.tw11661468330964745806 : True := trivial
theorem PySem.W.Fast.tw7091028517905007326 : True := trivial
theorem PySem.W.Fast.tw3426348336014389757 : True := trivial
theorem PySem.W.Fast.tw14884473668268379038 : True := trivial
theorem PySem.W.Fast.tw15966828940941593731 : True := trivial
theorem PySem.W.Fast.tw5933739344145327218 : True := trivial
theorem PySem.W.Fast.tw7085279512916474262 : True := trivial
theorem PySem.W.Fast.tw15962629597042358738 : True := trivial
theorem PySem.W.Fast.tw9094412784525756506 : True := trivial
theorem PySem.W.Fast.tw589414236466743448 : True := trivial
theorem PySem.W.Fast.tw15538795521852876206 : True := trivial
theorem PySem.W.Fast.tw17541795873356523418 : True := trivial
theorem PySem.W.Fast.tw354544217729375776 : True := trivial
theorem PySem.W.Fast.tw629309121817004260 : True := trivial
theorem PySem.W.Fast.tw8118522624883353224 : True := trivial
theorem PySem.W.Fast.tw2105977784004843001 : True := trivial
theorem PySem.W.Fast.tw11947200034504635495 : True := trivial
theorem PySem.W.Fast.tw10601718652427820222 : True := trivial
theorem PySem.W.Fast.tw12792560884787114948 : True := trivial
theorem PySem.W.Fast.tw16422154689042840712 : True := trivial
theorem PySem.W.Fast.tw1999951446502995165 : True := trivial
theorem PySem.W.Fast.tw16275451380919907049 : True := trivial
theorem PySem.W.Fast.tw11404471516377868809 : True := trivial
theorem PySem.W.Fast.tw977179136964756934 : True := trivial
theorem PySem.W.Fast.tw13903723515182837782 : True := trivial
theorem PySem.W.Fast.tw9351324664780405416 : True := trivial
theorem PySem.W.Fast.tw12097642342601180829 : True := trivial
theorem PySem.W.Fast.tw13955207987237417831 : True := trivial
theorem PySem.W.Fast.tw1055824672203902364 : True := trivial
theorem PySem.W.Fast.tw13549146980155974382 : True := trivial
theorem PySem.W.Fast.tw13330790439249532049 : True := trivial
theorem PySem.W.Fast.tw17893288547885223506 : True := trivial
theorem PySem.W.Fast.tw9383225337561025488 : True := trivial
theorem PySem.W.Fast.tw7871243727516394087 : True := trivial
theorem PySem.W.Fast.tw7547475100737813925 : True := trivial
theorem PySem.W.Fast.tw11373233373627859021 : True := trivial
theorem PySem.W.Fast.tw11084922722657217048 : True := trivial
theorem PySem.W.Fast.tw15277317957429361313 : True := trivial
theorem PySem.W.Fast.tw13588990267990818735 : True := trivial
theorem PySem.W.Fast.tw17896678705284513128 : True := trivial
theorem PySem.W.Fast.tw2515723443537047364 : True := trivial
theorem PySem.W.Fast.tw4162120337038662341 : True := trivial
theorem PySem.W.Fast.tw1491211984698446971 : True := trivial
theorem PySem.W.Fast.tw3748177461967630754 : True := trivial
theorem PySem.W.Fast.tw12902354263252248391 : True := trivial
theorem PySem.W.Fast.tw8511335176588270206 : True := trivial
theorem PySem.W.Fast.tw13125985948505529566 : True := trivial
theorem PySem.W.Fast.tw12525047537626442028 : True := trivial
theorem PySem.W.Fast.tw4536038425079548579 : True := trivial
theorem PySem.W.Fast.tw15824615718820675358 : True := trivial
theorem PySem.W.Fast.tw11792595429976334911 : True := trivial
theorem PySem.W.Fast.tw10762720456872496689 : True := trivial
theorem PySem.W.Fast.tw597468388401836653 : True := trivial
theorem PySem.W.Fast.tw1754521759597491233 : True := trivial
theorem PySem.W.Fast.tw5038035250642569340 : True := trivial
theorem PySem.W.Fast.tw4208946981418150407 : True := trivial
theorem PySem.W.Fast.tw2823594486954174454 : True := trivial
theorem PySem.W.Fast.tw9348613342753951916 : True := trivial
theorem PySem.W.Fast.tw7650421998656286835 : True := trivial
theorem PySem.W.Fast.tw14553899766732539472 : True := trivial
theorem PySem.W.Fast.tw12355117480916815596 : True := trivial
theorem PySem.W.Fast.tw14761515651837535077 : True := trivial
theorem PySem.W.Fast.tw1685591977152800943 : True := trivial
theorem PySem.W.Fast.tw3375476255029348744 : True := trivial
theorem PySem.W.Fast.tw2431475568744389691 : True := trivial
theorem PySem.W.Fast.tw17198106394314107792 : True := trivial
theorem PySem.W.Fast.tw16947250749182214874 : True := trivial
theorem PySem.W.Fast.tw15548008862912267237 : True := trivial
theorem PySem.W.Fast.tw10483635604992620773 : True := trivial
theorem PySem.W.Fast.tw13944831228665725944 : True := trivial
theorem PySem.W.Fast.tw2373907067208118577 : True := trivial
theorem PySem.W.Fast.tw5045306107660979934 : True := trivial
theorem PySem.W.Fast.tw9169814308563489815 : True := trivial
theorem PySem.W.Fast.tw4947160087037567534 : True := trivial
theorem PySem.W.Fast.tw9500761455839920436 : True := trivial
theorem PySem.W.Fast.tw13682010136467672345 : True := trivial
theorem PySem.W.Fast.tw13705036392174886159 : True := trivial
theorem PySem.W.Fast.tw8683579218757659197 : True := trivial
theorem PySem.W.Fast.tw5207028823575077153 : True := trivial
theorem PySem.W.Fast.tw2439335310654257250 : True := trivial
theorem PySem.W.Fast.tw8619193897760019882 : True := trivial
theorem PySem.W.Fast.tw13731755368420267449 : True := trivial
theorem PySem.W.Fast.tw16200760109234844983 : True := trivial
theorem PySem.W.Fast.tw16707587658800723124 : True := trivial
theorem PySem.W.Fast.tw6935858864861314552 : True := trivial
theorem PySem.W.Fast.tw8018431841957215457 : True := trivial
theorem PySem.W.Fast.tw3612364637955817839 : True := trivial
theorem PySem.W.Fast.tw13220288104313372619 : True := trivial
theorem PySem.W.Fast.tw10217276402396957060 : True := trivial
theorem PySem.W.Fast.tw16111482798354602479 : True := trivial
theorem PySem.W.Fast.tw11606025985598343746 : True := trivial
theorem PySem.W.Fast.tw12190436339102936192 : True := trivial
theorem PySem.W.Fast.tw9835618312496529337 : True := trivial
theorem PySem.W.Fast.tw13709163700853729764 : True := trivial
theorem PySem.W.Fast.tw8184024974395080589 : True := trivial
theorem PySem.W.Fast.tw13142163113339446666 : True := trivial
theorem PySem.W.Fast.tw7370093463475748191 : True := trivial
theorem PySem.W.Fast.tw13602253502515788463 : True := trivial
theorem PySem.W.Fast.tw15470125330087732334 : True := trivial
theorem PySem.W.Fast.tw10138968128063467182 : True := trivial
theorem PySem.W.Fast.tw14838244054710648266 : True := trivial
theorem PySem.W.Fast.tw13442027307916511438 : True := trivial
theorem PySem.W.Fast.tw17704839518478049724 : True := trivial
theorem PySem.W.Fast.tw8533801591205812508 : True := trivial
theorem PySem.W.Fast.tw6504834484769807271 : True := trivial
theorem PySem.W.Fast.tw9485934258424713913 : True := trivial
theorem PySem.W.Fast.tw14483868733394577102 : True := trivial
theorem PySem.W.Fast.tw1697816800825452390 : True := trivial
theorem PySem.W.Fast.tw6185240698185910214 : True := trivial
theorem PySem.W.Fast.tw14228112531213561914 : True := trivial
theorem PySem.W.Fast.tw16071890469349431006 : True := trivial
theorem PySem.W.Fast.tw4339801042419161777 : True := trivial
theorem PySem.W.Fast.tw10363623374952074921 : True := trivial
theorem PySem.W.Fast.tw13042414983903650967 : True := trivial
theorem PySem.W.Fast.tw2717753766439423602 : True := trivial
theorem PySem.W.Fast.tw1001944550486644915 : True := trivial
theorem PySem.W.Fast.tw14959904542196296491 : True := trivial
theorem PySem.W.Fast.tw2629951187264627344 : True := trivial
theorem PySem.W.Fast.tw1968383861396294021 : True := trivial
theorem PySem.W.Fast.tw9050061698723135744 : True := trivial
theorem PySem.W.Fast.tw13078418820604475199 : True := trivial
theorem PySem.W.Fast.tw626577235490696233 : True := trivial
theorem PySem.W.Fast.tw11892137354178630428 : True := trivial
theorem PySem.W.Fast.tw6216966106460772525 : True := trivial
theorem PySem.W.Fast.tw8653363644549178834 : True := trivial
theorem PySem.W.Fast.tw8662037484128613845 : True := trivial
theorem PySem.W.Fast.tw15723573990331161849 : True := trivial
theorem PySem.W.Fast.tw9910973794879750624 : True := trivial
theorem PySem.W.Fast.tw2437871747224761375 : True := trivial
theorem PySem.W.Fast.tw14861405378065764288 : True := trivial
theorem PySem.W.Fast.tw16701666762598405157 : True := trivial
theorem PySem.W.Fast.tw5780570949250302492 : True := trivial
theorem PySem.W.Fast.tw13303834649624317814 : True := trivial
theorem PySem.W.Fast.tw2858783814896535484 : True := trivial
theorem PySem.W.Fast.tw6525851414729414299 : True := trivial
theorem PySem.W.Fast.tw7071287500332657671 : True := trivial
theorem PySem.W.Fast.tw1631414272423289067 : True := trivial
theorem PySem.W.Fast.tw17377615745716301792 : True := trivial
theorem PySem.W.Fast.tw14865699811675486779 : True := trivial
theorem PySem.W.Fast.tw1139749686537387780 : True := trivial
theorem PySem.W.Fast.tw16736360704228391496 : True := trivial
theorem PySem.W.Fast.tw16746523988542287239 : True := trivial
theorem PySem.W.Fast.tw10321115042529778152 : True := trivial
theorem PySem.W.Fast.tw17657749057373552150 : True := trivial
theorem PySem.W.Fast.tw9319509040914213468 : True := trivial
theorem PySem.W.Fast.tw2581296840784118293 : True := trivial
theorem PySem.W.Fast.tw3371992714759923081 : True := trivial
theorem PySem.W.Fast.tw14588337058925546222 : True := trivial
theorem PySem.W.Fast.tw16321487295852773145 : True := trivial
theorem PySem.W.Fast.tw11185189644075839879 : True := trivial
theorem PySem.W.Fast.tw4543131360995785113 : True := trivial
theorem PySem.W.Fast.tw18236760877225321265 : True := trivial
theorem PySem.W.Fast.tw9265383393297650168 : True := trivial
theorem PySem.W.Fast.tw18084511552797931303 : True := trivial
theorem PySem.W.Fast.tw4486709805341708595 : True := trivial
theorem PySem.W.Fast.tw17977532029782406716 : True := trivial
theorem PySem.W.Fast.tw14868849971585472743 : True := trivial
theorem PySem.W.Fast.tw4721531295779572810 : True := trivial
theorem PySem.W.Fast.tw17502096160681507181 : True := trivial
theorem PySem.W.Fast.tw9295044808296265409 : True := trivial
theorem PySem.W.Fast.tw10784405890734092596 : True := trivial
theorem PySem.W.Fast.tw8648044240233878611 : True := trivial
theorem PySem.W.Fast.tw12945911948237585180 : True := trivial
theorem PySem.W.Fast.tw2031426794127299574 : True := trivial
theorem PySem.W.Fast.tw4580797128426799158 : True := trivial
theorem PySem.W.Fast.tw17407089323431112237 : True := trivial
theorem PySem.W.Fast.tw12085999844239916068 : True := trivial
theorem PySem.W.Fast.tw15531927333440103384 : True := trivial
theorem PySem.W.Fast.tw6083369085552084794 : True := trivial
theorem PySem.W.Fast.tw6523143687430239341 : True := trivial
theorem PySem.W.Fast.tw4825578771888275044 : True := trivial
theorem PySem.W.Fast.tw4119459734348349003 : True := trivial
theorem PySem.W.Fast.tw816830080534176691 : True := trivial
theorem PySem.W.Fast.tw10120321818180685277 : True := trivial
theorem PySem.W.Fast.tw983522849883970858 : True := trivial
theorem PySem.W.Fast.tw8783798715104160859 : True := trivial
theorem PySem.W.Fast.tw13561815582195524549 : True := trivial
theorem PySem.W.Fast.tw3148365147837443646 : True := trivial
theorem PySem.W.Fast.tw14524349964677961255 : True := trivial
theorem PySem.W.Fast.tw8935387582968098580 : True := trivial
theorem PySem.W.Fast.tw5035806714639688781 : True := trivial
theorem PySem.W.Fast.tw10498146038392179233 : True := trivial
theorem PySem.W.Fast.tw16299245480415186946 : True := trivial
theorem PySem.W.Fast.tw17798159135340456252 : True := trivial
theorem PySem.W.Fast.tw15121419956046081129 : True := trivial
theorem PySem.W.Fast.tw14462565397897344741 : True := trivial
theorem PySem.W.Fast.tw10877724734167375580 : True := trivial
theorem PySem.W.Fast.tw1224258839214918257 : True := trivial
theorem PySem.W.Fast.tw1285494271271281379 : True := trivial
theorem PySem.W.Fast.tw10968199576729919993 : True := trivial
theorem PySem.W.Fast.tw8154772923978701632 : True := trivial
theorem PySem.W.Fast.tw1296264579785014720 : True := trivial
theorem PySem.W.Fast.tw14102962058480433640 : True := trivial
theorem PySem.W.Fast.tw10266404411716035612 : True := trivial
theorem PySem.W.Fast.tw3593050468702653881 : True := trivial
theorem PySem.W.Fast.tw4368521146521802036 : True := trivial
theorem PySem.W.Fast.tw10537800816415347985 : True := trivial
theorem PySem.W.Fast.tw17272517426584379360 : True := trivial
theorem PySem.W.Fast.tw18205754422520175048 : True := trivial
theorem PySem.W.Fast.tw15020360783846185392 : True := trivial
theorem PySem.W.Fast.tw9104793188671834989 : True := trivial
theorem PySem.W.Fast.tw15111617046340548352 : True := trivial
theorem PySem.W.Fast.tw11076004744012975590 : True := trivial
theorem PySem.W.Fast.tw15966712218877556276 : True := trivial
theorem PySem.W.Fast.tw3021577797470263373 : True := trivial
theorem PySem.W.Fast.tw2362213152291529040 : True := trivial
theorem PySem.W.Fast.tw1704824795914236060 : True := trivial
theorem PySem.W.Fast.tw1260088971383598320 : True := trivial
theorem PySem.W.Fast.tw12232938564820492610 : True := trivial
theorem PySem.W.Fast.tw16575136608723757321 : True := trivial
theorem PySem.W.Fast.tw10094808491913818840 : True := trivial
theorem PySem.W.Fast.tw12487806883977653738 : True := trivial
theorem PySem.W.Fast.tw17653543112561380616 : True := trivial
theorem PySem.W.Fast.tw8227926542809078998 : True := trivial
theorem PySem.W.Fast.tw13712105121257005214 : True := trivial
theorem PySem.W.Fast.tw15352239460748393695 : True := trivial
theorem PySem.W.Fast.tw16929818874757605954 : True := trivial
theorem PySem.W.Fast.tw7052721780585474701 : True := trivial
theorem PySem.W.Fast.tw3440782392764160452 : True := trivial
theorem PySem.W.Fast.tw2823834562154567254 : True := trivial
theorem PySem.W.Fast.tw18364373471084310701 : True := trivial
theorem PySem.W.Fast.tw5496259223211553624 : True := trivial
theorem PySem.W.Fast.tw4445086599546052703 : True := trivial
theorem PySem.W.Fast.tw3021031085271234618 : True := trivial
theorem PySem.W.Fast.tw11725597419287211945 : True := trivial
theorem PySem.W.Fast.tw10672336310477389563 : True := trivial
theorem PySem.W.Fast.tw14055935467141678634 : True := trivial
theorem PySem.W.Fast.tw17228153221828891047 : True := trivial
theorem PySem.W.Fast.tw3418572360002493450 : True := trivial
theorem PySem.W.Fast.tw14678434133572878932 : True := trivial
theorem PySem.W.Fast.tw2316349356308562679 : True := trivial
theorem PySem.W.Fast.tw9918845103527642781 : True := trivial
theorem PySem.W.Fast.tw18132146018983026540 : True := trivial
theorem PySem.W.Fast.tw16930524368873582817 : True := trivial
theorem PySem.W.Fast.tw17762301164543627061 : True := trivial
theorem PySem.W.Fast.tw6692024059177749889 : True := trivial
theorem PySem.W.Fast.tw8416543073945330900 : True := trivial
theorem PySem.W.Fast.tw1947112071448757132 : True := trivial
theorem PySem.W.Fast.tw10512456148702707879 : True := trivial
theorem PySem.W.Fast.tw3306317741339484008 : True := trivial
theorem PySem.W.Fast.tw7196740059146091530 : True := trivial
theorem PySem.W.Fast.tw3254376006898208824 : True := trivial
theorem PySem.W.Fast.tw18052677436534371755 : True := trivial
theorem PySem.W.Fast.tw5221587155273497300 : True := trivial
theorem PySem.W.Fast.tw15948829218863735671 : True := trivial
theorem PySem.W.Fast.tw11965328522680909335 : True := trivial
theorem PySem.W.Fast.tw10560215900114394394 : True := trivial
theorem PySem.W.Fast.tw11184267881239313436 : True := trivial
theorem PySem.W.Fast.tw16443684795377464933 : True := trivial
theorem PySem.W.Fast.tw259159257509408579 : True := trivial
theorem PySem.W.Fast.tw7125891037959874120 : True := trivial
theorem PySem.W.Fast.tw14845139770981891638 : True := trivial
theorem PySem.W.Fast.tw5076106037033687062 : True := trivial
theorem PySem.W.Fast.tw5117256753389232285 : True := trivial
theorem PySem.W.Fast.tw6700969313451504402 : True := trivial
theorem PySem.W.Fast.tw8297594398239373502 : True := trivial
theorem PySem.W.Fast.tw2766482857569580745 : True := trivial
theorem PySem.W.Fast.tw17627889070817975786 : True := trivial
theorem PySem.W.Fast.tw7264416929622497917 : True := trivial
theorem PySem.W.Fast.tw2634467330439669701 : True := trivial
theorem PySem.W.Fast.tw9964919586473983808 : True := trivial
theorem PySem.W.Fast.tw12563037495823587792 : True := trivial
theorem PySem.W.Fast.tw9939992365466999227 : True := trivial
theorem PySem.W.Fast.tw13146585673477602377 : True := trivial
theorem PySem.W.Fast.tw17460624431298990833 : True := trivial
theorem PySem.W.Fast.tw18030497282700629492 : True := trivial
theorem PySem.W.Fast.tw11416860888170053969 : True := trivial
theorem PySem.W.Fast.tw7372077104096119865 : True := trivial
theorem PySem.W.Fast.tw14109092991400622699 : True := trivial
theorem PySem.W.Fast.tw12521854804721935815 : True := trivial
theorem PySem.W.Fast.tw15338989850172997570 : True := trivial
theorem PySem.W.Fast.tw13643090339603464286 : True := trivial
theorem PySem.W.Fast.tw12975661578413930001 : True := trivial
theorem PySem.W.Fast.tw5481188988759600867 : True := trivial
theorem PySem.W.Fast.tw741159764053824706 : True := trivial
theorem PySem.W.Fast.tw15790395969294503885 : True := trivial
theorem PySem.W.Fast.tw5060278091254086015 : True := trivial
theorem PySem.W.Fast.tw15535616509517390841 : True := trivial
theorem PySem.W.Fast.tw2225936486816768379 : True := trivial
theorem PySem.W.Fast.tw9608243703664500118 : True := trivial
theorem PySem.W.Fast.tw2395701621894173921 : True := trivial
theorem PySem.W.Fast.tw7822763054639256290 : True := trivial
theorem PySem.W.Fast.tw95365723986142058 : True := trivial
theorem PySem.W.Fast.tw13471754951689649243 : True := trivial
theorem PySem.W.Fast.tw10155942295515632597 : True := trivial
theorem PySem.W.Fast.tw8969072483823598285 : True := trivial
theorem PySem.W.Fast.tw12570645229979123043 : True := trivial
theorem PySem.W.Fast.tw6512721869941369567 : True := trivial
theorem PySem.W.Fast.tw4253364028495526424 : True := trivial
theorem PySem.W.Fast.tw15109071187869867118 : True := trivial
theorem PySem.W.Fast.tw2665866635886487020 : True := trivial
theorem PySem.W.Fast.tw361182924842436974 : True := trivial
theorem PySem.W.Fast.tw6115817998045191875 : True := trivial
theorem PySem.W.Fast.tw16651843239201166327 : True := trivial
theorem PySem.W.Fast.tw1323052118107365262 : True := trivial
theorem PySem.W.Fast.tw7640621746542475275 : True := trivial
theorem PySem.W.Fast.tw17264529054856431490 : True := trivial
theorem PySem.W.Fast.tw3881382373898113496 : True := trivial
theorem PySem.W.Fast.tw1899438178180849066 : True := trivial
theorem PySem.W.Fast.tw5574384574667689792 : True := trivial
theorem PySem.W.Fast.tw4273046365389057 : True := trivial
theorem PySem.W.Fast.tw12219619235033946445 : True := trivial
theorem PySem.W.Fast.tw6297496868930125230 : True := trivial
theorem PySem.W.Fast.tw4736457948397673301 : True := trivial
theorem PySem.W.Fast.tw10396856780244640969 : True := trivial
theorem PySem.W.Fast.tw16779075910101724106 : True := trivial
theorem PySem.W.Fast.tw12911505740002451967 : True := trivial
theorem PySem.W.Fast.tw11606615169529275207 : True := trivial
theorem PySem.W.Fast.tw7748095239525619763 : True := trivial
theorem PySem.W.Fast.tw17077606938473465863 : True := trivial
theorem PySem.W.Fast.tw16032871247678630555 : True := trivial
theorem PySem.W.Fast.tw2815667961641930930 : True := trivial
theorem PySem.W.Fast.tw11616441151783247250 : True := trivial
theorem PySem.W.Fast.tw18094354559744277416 : True := trivial
theorem PySem.W.Fast.tw6640027200754662660 : True := trivial
theorem PySem.W.Fast.tw15023450917547071223 : True := trivial
theorem PySem.W.Fast.tw3274500323156622610 : True := trivial
theorem PySem.W.Fast.tw3331721529413740057 : True := trivial
theorem PySem.W.Fast.tw17493508629101940990 : True := trivial
theorem PySem.W.Fast.tw14229497890798908685 : True := trivial
theorem PySem.W.Fast.tw8104890641777927824 : True := trivial
theorem PySem.W.Fast.tw12831914393814615908 : True := trivial
theorem PySem.W.Fast.tw1969661489019937926 : True := trivial
theorem PySem.W.Fast.tw4710761070548153508 : True := trivial
theorem PySem.W.Fast.tw1311407158684934399 : True := trivial
theorem PySem.W.Fast.tw7462244102709118131 : True := trivial
theorem PySem.W.Fast.tw2964281597610662427 : True := trivial
theorem PySem.W.Fast.tw3616487354802413023 : True := trivial
theorem PySem.W.Fast.tw13534347218499554596 : True := trivial
theorem PySem.W.Fast.tw4027291090063215357 : True := trivial
theorem PySem.W.Fast.tw12681554832545748805 : True := trivial
theorem PySem.W.Fast.tw10292926606633814072 : True := trivial
theorem PySem.W.Fast.tw14110579345760232134 : True := trivial
theorem PySem.W.Fast.tw10661917446196812189 : True := trivial
theorem PySem.W.Fast.tw18188417962246938341 : True := trivial
theorem PySem.W.Fast.tw15018007798689377222 : True := trivial
theorem PySem.W.Fast.tw16138296523485699862 : True := trivial
theorem PySem.W.Fast.tw1858845456368194384 : True := trivial
theorem PySem.W.Fast.tw10777265164830116416 : True := trivial
theorem PySem.W.Fast.tw8016268632083934746 : True := trivial
theorem PySem.W.Fast.tw10427152995601224968 : True := trivial
theorem PySem.W.Fast.tw9073288135004516305 : True := trivial
theorem PySem.W.Fast.tw9672480252826924483 : True := trivial
theorem PySem.W.Fast.tw17972693845106024410 : True := trivial
theorem PySem.W.Fast.tw3828557947703041456 : True := trivial
theorem PySem.W.Fast.tw13853646230229833587 : True := trivial
theorem PySem.W.Fast.tw269002324063817947 : True := trivial
theorem PySem.W.Fast.tw294332070290410308 : True := trivial
theorem PySem.W.Fast.tw14723594456564204824 : True := trivial
theorem PySem.W.Fast.tw16958186332719677049 : True := trivial
theorem PySem.W.Fast.tw13488647668611935989 : True := trivial
theorem PySem.W.Fast.tw2496477031496287191 : True := trivial
theorem PySem.W.Fast.tw11006970664894262400 : True := trivial
theorem PySem.W.Fast.tw10964748197620879423 : True := trivial
theorem PySem.W.Fast.tw3736471222219605921 : True := trivial
theorem PySem.W.Fast.tw6177831914844364108 : True := trivial
theorem PySem.W.Fast.tw8430548008969203400 : True := trivial
theorem PySem.W.Fast.tw8427991811410097447 : True := trivial
theorem PySem.W.Fast.tw6124471171332033530 : True := trivial
theorem PySem.W.Fast.tw16629400233118553904 : True := trivial
theorem PySem.W.Fast.tw6591663431598960013 : True := trivial
theorem PySem.W.Fast.tw3288154085229439167 : True := trivial
theorem PySem.W.Fast.tw18045499251021455554 : True := trivial
theorem PySem.W.Fast.tw10085730309285029490 : True := trivial
theorem PySem.W.Fast.tw13025401858605928326 : True := trivial
theorem PySem.W.Fast.tw6710557319071660738 : True := trivial
theorem PySem.W.Fast.tw12268294068638711720 : True := trivial
theorem PySem.W.Fast.tw17003445611529225899 : True := trivial
theorem PySem.W.Fast.tw14229928754443288512 : True := trivial
theorem PySem.W.Fast.tw11334138180855745584 : True := trivial
theorem PySem.W.Fast.tw15269886253097958827 : True := trivial
theorem PySem.W.Fast.tw8088984838974732882 : True := trivial
theorem PySem.W.Fast.tw1325229735926580324 : True := trivial
theorem PySem.W.Fast.tw15580339048729268514 : True := trivial
theorem PySem.W.Fast.tw688095816530252779 : True := trivial
theorem PySem.W.Fast.tw8918015423260115153 : True := trivial
theorem PySem.W.Fast.tw2673162564502330241 : True := trivial
theorem PySem.W.Fast.tw6375155482805418140 : True := trivial
theorem PySem.W.Fast.tw849858563683610340 : True := trivial
theorem PySem.W.Fast.tw18443255387484602389 : True := trivial
theorem PySem.W.Fast.tw2540871268933782343 : True := trivial
theorem PySem.W.Fast.tw8004931610901734503 : True := trivial
theorem PySem.W.Fast.tw6996534611228980577 : True := trivial
theorem PySem.W.Fast.tw3845355192443178915 : True := trivial
theorem PySem.W.Fast.tw12439250458627039409 : True := trivial
theorem PySem.W.Fast.tw708988620716811797 : True := trivial
theorem PySem.W.Fast.tw7533507551724123943 : True := trivial
theorem PySem.W.Fast.tw17830936971198530319 : True := trivial
theorem PySem.W.Fast.tw18087961968997330089 : True := trivial
theorem PySem.W.Fast.tw16908262939742153996 : True := trivial
theorem PySem.W.Fast.tw15410958434207414332 : True := trivial
theorem PySem.W.Fast.tw18222482639436614985 : True := trivial
theorem PySem.W.Fast.tw5159806618352096595 : True := trivial
theorem PySem.W.Fast.tw17322791059906992750 : True := trivial
theorem PySem.W.Fast.tw11085881923419886788 : True := trivial
theorem PySem.W.Fast.tw15001839434283400872 : True := trivial
theorem PySem.W.Fast.tw10045438968485000025 : True := trivial
theorem PySem.W.Fast.tw11685706390128358860 : True := trivial
theorem PySem.W.Fast.tw5072232411700578043 : True := trivial
theorem PySem.W.Fast.tw2632740593742926134 : True := trivial
theorem PySem.W.Fast.tw7575877684932631886 : True := trivial
theorem PySem.W.Fast.tw7211504957591669853 : True := trivial
theorem PySem.W.Fast.tw7203104921073313771 : True := trivial
theorem PySem.W.Fast.tw17826842334925902949 : True := trivial
theorem PySem.W.Fast.tw12662694867528252156 : True := trivial
theorem PySem.W.Fast.tw13954787356844737210 : True := trivial
theorem PySem.W.Fast.tw15703241608121208081 : True := trivial
theorem PySem.W.Fast.tw987332228951337094 : True := trivial
theorem PySem.W.Fast.tw18241803099189932439 : True := trivial
theorem PySem.W.Fast.tw10016525267965391847 : True := trivial
theorem PySem.W.Fast.tw4923897332198617741 : True := trivial
theorem PySem.W.Fast.tw16175876211958643658 : True := trivial
theorem PySem.W.Fast.tw15483025553886015916 : True := trivial
theorem PySem.W.Fast.tw9419687175017424560 : True := trivial
theorem PySem.W.Fast.tw14563629738590038751 : True := trivial
theorem PySem.W.Fast.tw3703217387808614281 : True := trivial
theorem PySem.W.Fast.tw14551459787129673196 : True := trivial
theorem PySem.W.Fast.tw1047884972715520647 : True := trivial
theorem PySem.W.Fast.tw11239381168242380109 : True := trivial
theorem PySem.W.Fast.tw1293161360799424352 : True := trivial
theorem PySem.W.Fast.tw18066881276058108450 : True := trivial
theorem PySem.W.Fast.tw17120129400579476010 : True := trivial
theorem PySem.W.Fast.tw11940067421252747619 : True := trivial
theorem PySem.W.Fast.tw10796158097034881463 : True := trivial
theorem PySem.W.Fast.tw15982586420385286380 : True := trivial
theorem PySem.W.Fast.tw9649479350631363049 : True := trivial
theorem PySem.W.Fast.tw9630988991785555848 : True := trivial
theorem PySem.W.Fast.tw865282914915567706 : True := trivial
theorem PySem.W.Fast.tw4572022959162258988 : True := trivial
theorem PySem.W.Fast.tw10641813411521449922 : True := trivial
theorem PySem.W.Fast.tw3318119988620930575 : True := trivial
theorem PySem.W.Fast.tw18099754213435236837 : True := trivial
theorem PySem.W.Fast.tw11572111150443017934 : True := trivial
theorem PySem.W.Fast.tw14314034283831751458 : True := trivial
theorem PySem.W.Fast.tw5125392510162490799 : True := trivial
theorem PySem.W.Fast.tw4095043651108293106 : True := trivial
theorem PySem.W.Fast.tw5327439652910872930 : True := trivial
theorem PySem.W.Fast.tw3210729265831452193 : True := trivial
theorem PySem.W.Fast.tw12316541939027925629 : True := trivial
theorem PySem.W.Fast.tw6146843936638031706 : True := trivial
theorem PySem.W.Fast.tw6645715577120053280 : True := trivial
theorem PySem.W.Fast.tw15773613800181411865 : True := trivial
theorem PySem.W.Fast.tw2661945431513923432 : True := trivial
theorem PySem.W.Fast.tw13133083619235639384 : True := trivial
theorem PySem.W.Fast.tw6051928755385440120 : True := trivial
theorem PySem.W.Fast.tw4014551051150037997 : True := trivial
theorem PySem.W.Fast.tw12655130932923476974 : True := trivial
theorem PySem.W.Fast.tw909088364373541233 : True := trivial
theorem PySem.W.Fast.tw10671709032930714729 : True := trivial
theorem PySem.W.Fast.tw14051807292030190701 : True := trivial
theorem PySem.W.Fast.tw1445349053048996452 : True := trivial
theorem PySem.W.Fast.tw4342277311913596850 : True := trivial
theorem PySem.W.Fast.tw9601426369603316316 : True := trivial
theorem PySem.W.Fast.tw1046557734535293846 : True := trivial
theorem PySem.W.Fast.tw17972690175404232600 : True := trivial
theorem PySem.W.Fast.tw17357110232354353259 : True := trivial
theorem PySem.W.Fast.tw8335117434075229407 : True := trivial
theorem PySem.W.Fast.tw10138055447078594155 : True := trivial
theorem PySem.W.Fast.tw16567632911957438144 : True := trivial
theorem PySem.W.Fast.tw6820388979828300510 : True := trivial
theorem PySem.W.Fast.tw12458202507855643450 : True := trivial
theorem PySem.W.Fast.tw3414199896863359179 : True := trivial
theorem PySem.W.Fast.tw11269706142518712152 : True := trivial
theorem PySem.W.Fast.tw9635189380341621174 : True := trivial
theorem PySem.W.Fast.tw9986675603271184596 : True := trivial
theorem PySem.W.Fast.tw744828927195398367 : True := trivial
theorem PySem.W.Fast.tw16008792167290674827 : True := trivial
theorem PySem.W.Fast.tw13146122434295501429 : True := trivial
theorem PySem.W.Fast.tw2496620458895544993 : True := trivial
theorem PySem.W.Fast.tw2555793289918097296 : True := trivial
theorem PySem.W.Fast.tw345362299264694811 : True := trivial
theorem PySem.W.Fast.tw17598133409533365518 : True := trivial
theorem PySem.W.Fast.tw11729428721824086787 : True := trivial
theorem PySem.W.Fast.tw7126044493719679030 : True := trivial
theorem PySem.W.Fast.tw597121099625811823 : True := trivial
theorem PySem.W.Fast.tw1137431226415756582 : True := trivial
theorem PySem.W.Fast.tw642692378414421347 : True := trivial
theorem PySem.W.Fast.tw17314492099743985239 : True := trivial
theorem PySem.W.Fast.tw13206883327349929497 : True := trivial
theorem PySem.W.Fast.tw42351499049100838 : True := trivial
theorem PySem.W.Fast.tw11737570667986311808 : True := trivial
theorem PySem.W.Fast.tw15572812536009911486 : True := trivial
theorem PySem.W.Fast.tw1801244487003754714 : True := trivial
theorem PySem.W.Fast.tw6933859702971325209 : True := trivial
theorem PySem.W.Fast.tw17153005336687357949 : True := trivial
theorem PySem.W.Fast.tw12228044119206903566 : True := trivial
theorem PySem.W.Fast.tw5782698422670231119 : True := trivial
theorem PySem.W.Fast.tw3019108368169776400 : True := trivial
theorem PySem.W.Fast.tw4349106763107871087 : True := trivial
theorem PySem.W.Fast.tw14321042201807981277 : True := trivial
theorem PySem.W.Fast.tw5205378907151119226 : True := trivial
theorem PySem.W.Fast.tw10356255632800150536 : True := trivial
theorem PySem.W.Fast.tw13667118692544537442 : True := trivial
theorem PySem.W.Fast.tw18013344889123454469 : True := trivial
theorem PySem.W.Fast.tw12317300027667787386 : True := trivial
theorem PySem.W.Fast.tw1278380067197544630 : True := trivial
theorem PySem.W.Fast.tw8830941582244172410 : True := trivial
theorem PySem.W.Fast.tw3364516371000936699 : True := trivial
theorem PySem.W.Fast.tw3803406611262914753 : True := trivial
theorem PySem.W.Fast.tw18085797423058918698 : True := trivial
theorem PySem.W.Fast.tw13472930843202502014 : True := trivial
theorem PySem.W.Fast.tw2821515055777656963 : True := trivial
theorem PySem.W.Fast.tw2632011725123728886 : True := trivial
theorem PySem.W.Fast.tw11585018824808556888 : True := trivial
theorem PySem.W.Fast.tw11771533219010238758 : True := trivial
theorem PySem.W.Fast.tw1691984630141583327 : True := trivial
theorem PySem.W.Fast.tw8850198648913356683 : True := trivial
theorem PySem.W.Fast.tw4009687721332885704 : True := trivial
theorem PySem.W.Fast.tw5465544345848575275 : True := trivial
theorem PySem.W.Fast.tw9363207402467601201 : True := trivial
theorem PySem.W.Fast.tw10243950514030230997 : True := trivial
theorem PySem.W.Fast.tw5940945739000808023 : True := trivial
theorem PySem.W.Fast.tw17104667743792661254 : True := trivial
theorem PySem.W.Fast.tw14455779620808175500 : True := trivial
theorem PySem.W.Fast.tw2294511460674983277 : True := trivial
theorem PySem.W.Fast.tw6291755266055622099 : True := trivial
theorem PySem.W.Fast.tw5733188294318314958 : True := trivial
theorem PySem.W.Fast.tw2670868548826228551 : True := trivial
theorem PySem.W.Fast.tw13098846724306293813 : True := trivial
theorem PySem.W.Fast.tw14113769944913992478 : True := trivial
theorem PySem.W.Fast.tw12744747219501624086 : True := trivial
theorem PySem.W.Fast.tw4409453666582307412 : True := trivial
theorem PySem.W.Fast.tw2665237746217476840 : True := trivial
theorem PySem.W.Fast.tw16109644204778173119 : True := trivial
theorem PySem.W.Fast.tw2131568053869157608 : True := trivial
theorem PySem.W.Fast.tw3251120977410246854 : True := trivial
theorem PySem.W.Fast.tw1014292879073441308 : True := trivial
theorem PySem.W.Fast.tw2617899640018034969 : True := trivial
theorem PySem.W.Fast.tw13774600019836119926 : True := trivial
theorem PySem.W.Fast.tw5331680438659995043 : True := trivial
theorem PySem.W.Fast.tw1739294331082836920 : True := trivial
theorem PySem.W.Fast.tw6649443594902002462 : True := trivial
theorem PySem.W.Fast.tw7262689215997721945 : True := trivial
theorem PySem.W.Fast.tw8844658640796245178 : True := trivial
theorem PySem.W.Fast.tw8139531637837524486 : True := trivial
theorem PySem.W.Fast.tw13059454454891745177 : True := trivial
theorem PySem.W.Fast.tw2424966403613277303 : True := trivial
theorem PySem.W.Fast.tw3995225156960394 : True := trivial
theorem PySem.W.Fast.tw15179178816423375179 : True := trivial
theorem PySem.W.Fast.tw16951171081585806788 : True := trivial
theorem PySem.W.Fast.tw2965642918990532990 : True := trivial
theorem PySem.W.Fast.tw12707589033334796371 : True := trivial
theorem PySem.W.Fast.tw2448232015486965929 : True := trivial
theorem PySem.W.Fast.tw12377711289141389875 : True := trivial
theorem PySem.W.Fast.tw10433687112823595685 : True := trivial
theorem PySem.W.Fast.tw2124197246894306263 : True := trivial
theorem PySem.W.Fast.tw17255329985237200788 : True := trivial
theorem PySem.W.Fast.tw14868374174161466361 : True := trivial
theorem PySem.W.Fast.tw10984714319138025988 : True := trivial
theorem PySem.W.Fast.tw15293624126373969337 : True := trivial
theorem PySem.W.Fast.tw14364638420209295284 : True := trivial
theorem PySem.W.Fast.tw1485912976702262686 : True := trivial
theorem PySem.W.Fast.tw10100621731367940112 : True := trivial
theorem PySem.W.Fast.tw9426809261048083079 : True := trivial
theorem PySem.W.Fast.tw14706749033242739662 : True := trivial
theorem PySem.W.Fast.tw2969514927218856607 : True := trivial
theorem PySem.W.Fast.tw11366964972208530830 : True := trivial
theorem PySem.W.Fast.tw10915210071311587664 : True := trivial
theorem PySem.W.Fast.tw5453004873256281365 : True := trivial
theorem PySem.W.Fast.tw5390702000737388494 : True := trivial
theorem PySem.W.Fast.tw4092330370346606091 : True := trivial
theorem PySem.W.Fast.tw15253017984389456184 : True := trivial
theorem PySem.W.Fast.tw3743937019331160415 : True := trivial
theorem PySem.W.Fast.tw14911832612511150319 : True := trivial
theorem PySem.W.Fast.tw9112399704131129572 : True := trivial
theorem PySem.W.Fast.tw7106109761653032488 : True := trivial
theorem PySem.W.Fast.tw12541584570031355874 : True := trivial
theorem PySem.W.Fast.tw14566874884191100909 : True := trivial
theorem PySem.W.Fast.tw22113200738517103 : True := trivial
theorem PySem.W.Fast.tw9116000311087966619 : True := trivial
theorem PySem.W.Fast.tw2164233769293950715 : True := trivial
theorem PySem.W.Fast.tw8245074655437596369 : True := trivial
theorem PySem.W.Fast.tw13019337061373881531 : True := trivial
theorem PySem.W.Fast.tw68032823211783107 : True := trivial
theorem PySem.W.Fast.tw14952610513361626676 : True := trivial
theorem PySem.W.Fast.tw15105852658641613703 : True := trivial
theorem PySem.W.Fast.tw6398148183549395972 : True := trivial
theorem PySem.W.Fast.tw12396019800196727004 : True := trivial
theorem PySem.W.Fast.tw16578144990913289581 : True := trivial
theorem PySem.W.Fast.tw4117966194911683484 : True := trivial
theorem PySem.W.Fast.tw9071457630529828769 : True := trivial
theorem PySem.W.Fast.tw11001610761611698695 : True := trivial
theorem PySem.W.Fast.tw4412746177341197244 : True := trivial
theorem PySem.W.Fast.tw11619862199988920768 : True := trivial
theorem PySem.W.Fast.tw11953056611931913773 : True := trivial
theorem PySem.W.Fast.tw8702444175121567096 : True := trivial
theorem PySem.W.Fast.tw15943062173953112764 : True := trivial
theorem PySem.W.Fast.tw13661001375739624599 : True := trivial
theorem PySem.W.Fast.tw3576487121654208488 : True := trivial
theorem PySem.W.Fast.tw17093122206289153581 : True := trivial
theorem PySem.W.Fast.tw4049717039380016722 : True := trivial
theorem PySem.W.Fast.tw14609427168568893503 : True := trivial
theorem PySem.W.Fast.tw4307357097349672550 : True := trivial
theorem PySem.W.Fast.tw13753953499141438455 : True := trivial
theorem PySem.W.Fast.tw13304071347874640508 : True := trivial
theorem PySem.W.Fast.tw9273145004169899798 : True := trivial
theorem PySem.W.Fast.tw6186634650494387772 : True := trivial
theorem PySem.W.Fast.tw9071727625938481614 : True := trivial
theorem PySem.W.Fast.tw2571685511121748262 : True := trivial
theorem PySem.W.Fast.tw17419620619001007135 : True := trivial
theorem PySem.W.Fast.tw9459519937168706154 : True := trivial
theorem PySem.W.Fast.tw4291919138169741449 : True := trivial
theorem PySem.W.Fast.tw10882794274442677134 : True := trivial
theorem PySem.W.Fast.tw3282472519691476946 : True := trivial
theorem PySem.W.Fast.tw9087210126598961458 : True := trivial
theorem PySem.W.Fast.tw5903225040427647641 : True := trivial
theorem PySem.W.Fast.tw2634400943143609626 : True := trivial
theorem PySem.W.Fast.tw8153391083466089779 : True := trivial
theorem PySem.W.Fast.tw8523245336626331720 : True := trivial
theorem PySem.W.Fast.tw2210708819160487884 : True := trivial
theorem PySem.W.Fast.tw12389926270486408951 : True := trivial
theorem PySem.W.Fast.tw11051495771333786079 : True := trivial
theorem PySem.W.Fast.tw3085012477263304517 : True := trivial
theorem PySem.W.Fast.tw14196050438680592228 : True := trivial
theorem PySem.W.Fast.tw432785713753123479 : True := trivial
theorem PySem.W.Fast.tw14330217268489987754 : True := trivial
theorem PySem.W.Fast.tw5503183731690075182 : True := trivial
theorem PySem.W.Fast.tw5502918032514950266 : True := trivial
theorem PySem.W.Fast.tw5224874294888196725 : True := trivial
theorem PySem.W.Fast.tw4977555440942525052 : True := trivial
theorem PySem.W.Fast.tw3405990773228258961 : True := trivial
theorem PySem.W.Fast.tw7395307662941821164 : True := trivial
theorem PySem.W.Fast.tw256393620118421501 : True := trivial
theorem PySem.W.Fast.tw7290987934167405600 : True := trivial
theorem PySem.W.Fast.tw7313425335475528966 : True := trivial
theorem PySem.W.Fast.tw9301621684300617407 : True := trivial
theorem PySem.W.Fast.tw4272447028374932536 : True := trivial
theorem PySem.W.Fast.tw2882954312589100077 : True := trivial
theorem PySem.W.Fast.tw2542028615188533705 : True := trivial
theorem PySem.W.Fast.tw5082952517827221479 : True := trivial
theorem PySem.W.Fast.tw12118186347844322966 : True := trivial
theorem PySem.W.Fast.tw9893818729728661338 : True := trivial
theorem PySem.W.Fast.tw13223890035883377414 : True := trivial
theorem PySem.W.Fast.tw12983051361335097407 : True := trivial
theorem PySem.W.Fast.tw3283513980685975964 : True := trivial
theorem PySem.W.Fast.tw14475601304490067368 : True := trivial
theorem PySem.W.Fast.tw8843018803247378533 : True := trivial
theorem PySem.W.Fast.tw323992550928010283 : True := trivial
theorem PySem.W.Fast.tw440245660734326185 : True := trivial
theorem PySem.W.Fast.tw846812403000944641 : True := trivial
theorem PySem.W.Fast.tw14198252941325961126 : True := trivial
theorem PySem.W.Fast.tw16763843219059693291 : True := trivial
theorem PySem.W.Fast.tw10637547010775666429 : True := trivial
theorem PySem.W.Fast.tw10052521099009547940 : True := trivial
theorem PySem.W.Fast.tw13580754905281215607 : True := trivial
theorem PySem.W.Fast.tw6625143520295759482 : True := trivial
theorem PySem.W.Fast.tw15979268335062565462 : True := trivial
theorem PySem.W.Fast.tw7487202137567721821 : True := trivial
theorem PySem.W.Fast.tw5230611104709861251 : True := trivial
theorem PySem.W.Fast.tw18338311379980183316 : True := trivial
theorem PySem.W.Fast.tw11862633971928227494 : True := trivial
theorem PySem.W.Fast.tw17290002086419315686 : True := trivial
theorem PySem.W.Fast.tw12940060760259188321 : True := trivial
theorem PySem.W.Fast.tw817116443243105377 : True := trivial
theorem PySem.W.Fast.tw13825608618139815284 : True := trivial
theorem PySem.W.Fast.tw10101731231274467419 : True := trivial
theorem PySem.W.Fast.tw17196084344675930187 : True := trivial
theorem PySem.W.Fast.tw3510854013839564615 : True := trivial
theorem PySem.W.Fast.tw9278813732748955729 : True := trivial
theorem PySem.W.Fast.tw16401729574879341700 : True := trivial
theorem PySem.W.Fast.tw10751941263204677883 : True := trivial
theorem PySem.W.Fast.tw15136606312902000124 : True := trivial
theorem PySem.W.Fast.tw7987203429974989305 : True := trivial
theorem PySem.W.Fast.tw12369396241228081305 : True := trivial
theorem PySem.W.Fast.tw3676282006865381916 : True := trivial
theorem PySem.W.Fast.tw11891609788331685979 : True := trivial
theorem PySem.W.Fast.tw9376184434983429781 : True := trivial
theorem PySem.W.Fast.tw17238131469906607516 : True := trivial
theorem PySem.W.Fast.tw363575885378066526 : True := trivial
theorem PySem.W.Fast.tw7199862453698531621 : True := trivial
theorem PySem.W.Fast.tw11117572676875559609 : True := trivial
theorem PySem.W.Fast.tw15570830773929583048 : True := trivial
theorem PySem.W.Fast.tw17753897236366206229 : True := trivial
theorem PySem.W.Fast.tw1105736957205676734 : True := trivial
theorem PySem.W.Fast.tw3349519498104554838 : True := trivial
theorem PySem.W.Fast.tw11975358310917149844 : True := trivial
theorem PySem.W.Fast.tw15363365092816766157 : True := trivial
theorem PySem.W.Fast.tw1883874106821894923 : True := trivial
theorem PySem.W.Fast.tw936010210737780667 : True := trivial
theorem PySem.W.Fast.tw6851940545960159045 : True := trivial
theorem PySem.W.Fast.tw16270222849774354096 : True := trivial
theorem PySem.W.Fast.tw16165550328208696164 : True := trivial
theorem PySem.W.Fast.tw13603853071911897191 : True := trivial
theorem PySem.W.Fast.tw2452387832372173596 : True := trivial
theorem PySem.W.Fast.tw13076549837654702942 : True := trivial
theorem PySem.W.Fast.tw16873685008555925853 : True := trivial
theorem PySem.W.Fast.tw7371303143861119588 : True := trivial
theorem PySem.W.Fast.tw8516148391816594825 : True := trivial
theorem PySem.W.Fast.tw7400978258994247339 : True := trivial
theorem PySem.W.Fast.tw17685890394393964624 : True := trivial
theorem PySem.W.Fast.tw304872450124888178 : True := trivial
theorem PySem.W.Fast.tw18178737939648451224 : True := trivial
theorem PySem.W.Fast.tw8362721273800554285 : True := trivial
theorem PySem.W.Fast.tw12658192637572182909 : True := trivial
theorem PySem.W.Fast.tw15177719044149606524 : True := trivial
theorem PySem.W.Fast.tw4903118941993029873 : True := trivial
theorem PySem.W.Fast.tw5850694796761908237 : True := trivial
theorem PySem.W.Fast.tw2942613729462259344 : True := trivial
theorem PySem.W.Fast.tw7638245392195767965 : True := trivial
theorem PySem.W.Fast.tw10779097464294681618 : True := trivial
theorem PySem.W.Fast.tw11156530105311087093 : True := trivial
theorem PySem.W.Fast.tw16366392956176214845 : True := trivial
theorem PySem.W.Fast.tw12690205097320711659 : True := trivial
theorem PySem.W.Fast.tw824872047592084862 : True := trivial
theorem PySem.W.Fast.tw2580828400933403010 : True := trivial
theorem PySem.W.Fast.tw7439375392632881191 : True := trivial
theorem PySem.W.Fast.tw16418760016699129064 : True := trivial
theorem PySem.W.Fast.tw12030294077221550171 : True := trivial
theorem PySem.W.Fast.tw555745394630709710 : True := trivial
theorem PySem.W.Fast.tw7486573777146900985 : True := trivial
theorem PySem.W.Fast.tw5517153343247426508 : True := trivial
theorem PySem.W.Fast.tw14605556226349662512 : True := trivial
theorem PySem.W.Fast.tw13316429127878553608 : True := trivial
theorem PySem.W.Fast.tw9416948427283490104 : True := trivial
theorem PySem.W.Fast.tw2694331409152621697 : True := trivial
theorem PySem.W.Fast.tw7400872351326937255 : True := trivial
theorem PySem.W.Fast.tw8947779269685173644 : True := trivial
theorem PySem.W.Fast.tw16134295126991536858 : True := trivial
theorem PySem.W.Fast.tw10441893264913597889 : True := trivial
theorem PySem.W.Fast.tw17799631203159127238 : True := trivial
theorem PySem.W.Fast.tw4502546936342896004 : True := trivial
theorem PySem.W.Fast.tw15458414187632380532 : True := trivial
theorem PySem.W.Fast.tw8187997763869014132 : True := trivial
theorem PySem.W.Fast.tw2922741554124929002 : True := trivial
theorem PySem.W.Fast.tw10328120642547239063 : True := trivial
theorem PySem.W.Fast.tw7748546732699075325 : True := trivial
theorem PySem.W.Fast.tw6813088933189414047 : True := trivial
theorem PySem.W.Fast.tw14473205318526882575 : True := trivial
theorem PySem.W.Fast.tw10714597496623046325 : True := trivial
theorem PySem.W.Fast.tw8877310174990932352 : True := trivial
theorem PySem.W.Fast.tw11390678670312074117 : True := trivial
theorem PySem.W.Fast.tw13547160080455521666 : True := trivial
theorem PySem.W.Fast.tw6110944604274443511 : True := trivial
theorem PySem.W.Fast.tw9403312913245718080 : True := trivial
theorem PySem.W.Fast.tw12333982773783903975 : True := trivial
theorem PySem.W.Fast.tw2643665528203848822 : True := trivial
theorem PySem.W.Fast.tw5348184442290065668 : True := trivial
theorem PySem.W.Fast.tw694460762840534553 : True := trivial
theorem PySem.W.Fast.tw3932700062334713810 : True := trivial
theorem PySem.W.Fast.tw18014910197995821696 : True := trivial
theorem PySem.W.Fast.tw598074060009500284 : True := trivial
theorem PySem.W.Fast.tw5664649184686791205 : True := trivial
theorem PySem.W.Fast.tw12421116789350955856 : True := trivial
theorem PySem.W.Fast.tw1616135203203039293 : True := trivial
theorem PySem.W.Fast.tw1539762413799772850 : True := trivial
theorem PySem.W.Fast.tw9807457336045961317 : True := trivial
theorem PySem.W.Fast.tw11876744625670935834 : True := trivial
theorem PySem.W.Fast.tw18360406988372487411 : True := trivial
theorem PySem.W.Fast.tw4041982424813200422 : True := trivial
theorem PySem.W.Fast.tw7955102227358979015 : True := trivial
theorem PySem.W.Fast.tw7957483002613499604 : True := trivial
theorem PySem.W.Fast.tw11607313276610263044 : True := trivial
theorem PySem.W.Fast.tw129410510528430947 : True := trivial
theorem PySem.W.Fast.tw1398450117584036898 : True := trivial
theorem PySem.W.Fast.tw3976912675534399192 : True := trivial
theorem PySem.W.Fast.tw8388594704893762833 : True := trivial
theorem PySem.W.Fast.tw17689519778230240964 : True := trivial
theorem PySem.W.Fast.tw8144203271729331247 : True := trivial
theorem PySem.W.Fast.tw6341917814505455305 : True := trivial
theorem PySem.W.Fast.tw4581615610086515963 : True := trivial
theorem PySem.W.Fast.tw617190053038430103 : True := trivial
theorem PySem.W.Fast.tw14981853620354511341 : True := trivial
theorem PySem.W.Fast.tw5138314802085772496 : True := trivial
theorem PySem.W.Fast.tw17361664200918049704 : True := trivial
theorem PySem.W.Fast.tw7611211117658227099 : True := trivial
theorem PySem.W.Fast.tw15722072824618718080 : True := trivial
theorem PySem.W.Fast.tw11630495647829540122 : True := trivial
theorem PySem.W.Fast.tw9416512000602708975 : True := trivial
theorem PySem.W.Fast.tw7858293461551939530 : True := trivial
theorem PySem.W.Fast.tw15567825043491734895 : True := trivial
theorem PySem.W.Fast.tw16813407349981921869 : True := trivial
theorem PySem.W.Fast.tw12354963790498621835 : True := trivial
theorem PySem.W.Fast.tw7493589218443590761 : True := trivial
theorem PySem.W.Fast.tw13828152370324561662 : True := trivial
theorem PySem.W.Fast.tw3060746014256837167 : True := trivial
theorem PySem.W.Fast.tw4396776535622134002 : True := trivial
theorem PySem.W.Fast.tw10807148393389658030 : True := trivial
theorem PySem.W.Fast.tw5376324892966404602 : True := trivial
theorem PySem.W.Fast.tw15651313591242017211 : True := trivial
theorem PySem.W.Fast.tw9899958120284885188 : True := trivial
theorem PySem.W.Fast.tw4521136272151395925 : True := trivial
theorem PySem.W.Fast.tw3092996915219678307 : True := trivial
theorem PySem.W.Fast.tw2877008418301881154 : True := trivial
theorem PySem.W.Fast.tw12037938224056769254 : True := trivial
theorem PySem.W.Fast.tw16140142718103488310 : True := trivial
theorem PySem.W.Fast.tw691581306968667699 : True := trivial
theorem PySem.W.Fast.tw2340590094592918017 : True := trivial
theorem PySem.W.Fast.tw14156570333208781691 : True := trivial
theorem PySem.W.Fast.tw9265013911361835792 : True := trivial
theorem PySem.W.Fast.tw18238326128051730277 : True := trivial
theorem PySem.W.Fast.tw262390477812467648 : True := trivial
theorem PySem.W.Fast.tw9527988226843226009 : True := trivial
theorem PySem.W.Fast.tw13234483692019929804 : True := trivial
theorem PySem.W.Fast.tw5642754425840873513 : True := trivial
theorem PySem.W.Fast.tw2769776727091786572 : True := trivial
theorem PySem.W.Fast.tw3858736629218958888 : True := trivial
theorem PySem.W.Fast.tw1482401990189951269 : True := trivial
theorem PySem.W.Fast.tw16979792578232730107 : True := trivial
theorem PySem.W.Fast.tw13368541909466970964 : True := trivial
theorem PySem.W.Fast.tw12119357739972891242 : True := trivial
theorem PySem.W.Fast.tw9401703513456201851 : True := trivial
theorem PySem.W.Fast.tw11750090167568634821 : True := trivial
theorem PySem.W.Fast.tw8636576423453933268 : True := trivial
theorem PySem.W.Fast.tw46993501488474863 : True := trivial
theorem PySem.W.Fast.tw6326580863472174878 : True := trivial
theorem PySem.W.Fast.tw10826212264942670410 : True := trivial
theorem PySem.W.Fast.tw12219010829889398182 : True := trivial
theorem PySem.W.Fast.tw7332651435760646548 : True := trivial
theorem PySem.W.Fast.tw15247917255332872088 : True := trivial
theorem PySem.W.Fast.tw12226523258295378847 : True := trivial
theorem PySem.W.Fast.tw12376254245324319057 : True := trivial
theorem PySem.W.Fast.tw14424529416898971297 : True := trivial
theorem PySem.W.Fast.tw5346433483221418444 : True := trivial
theorem PySem.W.Fast.tw3429360830338867449 : True := trivial
theorem PySem.W.Fast.tw9688627606946699162 : True := trivial
theorem PySem.W.Fast.tw2640753466858595760 : True := trivial
theorem PySem.W.Fast.tw13826353162234008822 : True := trivial
theorem PySem.W.Fast.tw12545044885859223201 : True := trivial
theorem PySem.W.Fast.tw3743232087800745474 : True := trivial
theorem PySem.W.Fast.tw15142469958472073720 : True := trivial
theorem PySem.W.Fast.tw16245462501915239846 : True := trivial
theorem PySem.W.Fast.tw15101511608199313283 : True := trivial
theorem PySem.W.Fast.tw9524111219083935188 : True := trivial
theorem PySem.W.Fast.tw8741458894068482000 : True := trivial
theorem PySem.W.Fast.tw3134260006658241091 : True := trivial
theorem PySem.W.Fast.tw2795774915799083225 : True := trivial
theorem PySem.W.Fast.tw16550248942737822317 : True := trivial
theorem PySem.W.Fast.tw11400767891052444185 : True := trivial
theorem PySem.W.Fast.tw14688303460303652767 : True := trivial
theorem PySem.W.Fast.tw12756620075746010156 : True := trivial
theorem PySem.W.Fast.tw6486472596782792802 : True := trivial
theorem PySem.W.Fast.tw16451694414668025167 : True := trivial
theorem PySem.W.Fast.tw11428810733490812471 : True := trivial
theorem PySem.W.Fast.tw14220609465640648232 : True := trivial
theorem PySem.W.Fast.tw16556508738381627169 : True := trivial
theorem PySem.W.Fast.tw473813017249698090 : True := trivial
theorem PySem.W.Fast.tw18009790630914664572 : True := trivial
theorem PySem.W.Fast.tw6972746799333795848 : True := trivial
theorem PySem.W.Fast.tw3715502822578851556 : True := trivial
theorem PySem.W.Fast.tw13727836082995461374 : True := trivial
theorem PySem.W.Fast.tw3561950484189016040 : True := trivial
theorem PySem.W.Fast.tw13159084072448270721 : True := trivial
theorem PySem.W.Fast.tw7163672250124888403 : True := trivial
theorem PySem.W.Fast.tw2556790040949906251 : True := trivial
theorem PySem.W.Fast.tw7961112023238287935 : True := trivial
theorem PySem.W.Fast.tw11671144599258489843 : True := trivial
theorem PySem.W.Fast.tw2411050424492890373 : True := trivial
theorem PySem.W.Fast.tw13225410499544889836 : True := trivial
theorem PySem.W.Fast.tw9886338000480801785 : True := trivial
theorem PySem.W.Fast.tw16844074133466123124 : True := trivial
theorem PySem.W.Fast.tw1898213011445682342 : True := trivial
theorem PySem.W.Fast.tw9162083321038162282 : True := trivial
theorem PySem.W.Fast.tw15572472709600643716 : True := trivial
theorem PySem.W.Fast.tw1052909240462177275 : True := trivial
theorem PySem.W.Fast.tw7088406789950394899 : True := trivial
theorem PySem.W.Fast.tw11336747210314139262 : True := trivial
theorem PySem.W.Fast.tw17936110101222458856 : True := trivial
theorem PySem.W.Fast.tw11554337905262819053 : True := trivial
theorem PySem.W.Fast.tw3609118399105526974 : True := trivial
theorem PySem.W.Fast.tw12378711923007639813 : True := trivial
theorem PySem.W.Fast.tw6904294976929954911 : True := trivial
theorem PySem.W.Fast.tw11280337157382750159 : True := trivial
theorem PySem.W.Fast.tw8777400241739273420 : True := trivial
theorem PySem.W.Fast.tw5045513726612350510 : True := trivial
theorem PySem.W.Fast.tw15035269732597796374 : True := trivial
theorem PySem.W.Fast.tw18425391867847687368 : True := trivial
theorem PySem.W.Fast.tw12968599592500172353 : True := trivial
theorem PySem.W.Fast.tw5142372000216214847 : True := trivial
theorem PySem.W.Fast.tw8524920525753258224 : True := trivial
theorem PySem.W.Fast.tw13784493273138198999 : True := trivial
theorem PySem.W.Fast.tw1006337423131735442 : True := trivial
theorem PySem.W.Fast.tw15365321188794741353 : True := trivial
theorem PySem.W.Fast.tw6351100407878602265 : True := trivial
theorem PySem.W.Fast.tw6224703772573275067 : True := trivial
theorem PySem.W.Fast.tw583925943590214201 : True := trivial
theorem PySem.W.Fast.tw3399248806095048047 : True := trivial
theorem PySem.W.Fast.tw14497222082605286970 : True := trivial
theorem PySem.W.Fast.tw7183114262607501444 : True := trivial
theorem PySem.W.Fast.tw15395588174215248792 : True := trivial
theorem PySem.W.Fast.tw11003961481080147516 : True := trivial
theorem PySem.W.Fast.tw1486039156905066684 : True := trivial
theorem PySem.W.Fast.tw5684238581680493322 : True := trivial
theorem PySem.W.Fast.tw11424093040487622747 : True := trivial
theorem PySem.W.Fast.tw11342544633076130906 : True := trivial
theorem PySem.W.Fast.tw6534777907939607128 : True := trivial
theorem PySem.W.Fast.tw17027740022709525050 : True := trivial
theorem PySem.W.Fast.tw4793719252817641788 : True := trivial
theorem PySem.W.Fast.tw9296095410958883123 : True := trivial
theorem PySem.W.Fast.tw13892063630969384898 : True := trivial
theorem PySem.W.Fast.tw7941524637814620851 : True := trivial
theorem PySem.W.Fast.tw1818810903968186133 : True := trivial
theorem PySem.W.Fast.tw16204943919380692525 : True := trivial
theorem PySem.W.Fast.tw2020979200549939062 : True := trivial
theorem PySem.W.Fast.tw14878116388003904552 : True := trivial
theorem PySem.W.Fast.tw13975952194747358753 : True := trivial
theorem PySem.W.Fast.tw7024060021465852892 : True := trivial
theorem PySem.W.Fast.tw18162821351784206218 : True := trivial
theorem PySem.W.Fast.tw16388630340795033873 : True := trivial
theorem PySem.W.Fast.tw10301265672996797162 : True := trivial
theorem PySem.W.Fast.tw11094079998796536031 : True := trivial
theorem PySem.W.Fast.tw7418120468499530329 : True := trivial
theorem PySem.W.Fast.tw12321159805300073785 : True := trivial
theorem PySem.W.Fast.tw5863227959455318279 : True := trivial
theorem PySem.W.Fast.tw13200566554608395396 : True := trivial
theorem PySem.W.Fast.tw17305643859642489286 : True := trivial
theorem PySem.W.Fast.tw15539050435108468534 : True := trivial
theorem PySem.W.Fast.tw3217780378847359031 : True := trivial
theorem PySem.W.Fast.tw5311578320497877835 : True := trivial
theorem PySem.W.Fast.tw17431457900654102888 : True := trivial
theorem PySem.W.Fast.tw3187383686870513745 : True := trivial
theorem PySem.W.Fast.tw11039229017510692738 : True := trivial
theorem PySem.W.Fast.tw16247833578278158863 : True := trivial
theorem PySem.W.Fast.tw1474436043117674765 : True := trivial
theorem PySem.W.Fast.tw126342154563929055 : True := trivial
theorem PySem.W.Fast.tw10363146247871148383 : True := trivial
theorem PySem.W.Fast.tw5294985011864578789 : True := trivial
theorem PySem.W.Fast.tw9352531417659884550 : True := trivial
theorem PySem.W.Fast.tw5158699120564568960 : True := trivial
theorem PySem.W.Fast.tw3288219638268777276 : True := trivial
theorem PySem.W.Fast.tw13006053223137723520 : True := trivial
theorem PySem.W.Fast.tw14476636915486757602 : True := trivial
theorem PySem.W.Fast.tw14497495958894779255 : True := trivial
theorem PySem.W.Fast.tw5702202711440093856 : True := trivial
theorem PySem.W.Fast.tw619780755317364528 : True := trivial
theorem PySem.W.Fast.tw8219690889464640990 : True := trivial
theorem PySem.W.Fast.tw1981846803400314230 : True := trivial
theorem PySem.W.Fast.tw2835218446191729608 : True := trivial
theorem PySem.W.Fast.tw17105129909251643995 : True := trivial
theorem PySem.W.Fast.tw15333844031974485181 : True := trivial
theorem PySem.W.Fast.tw18056417274838492650 : True := trivial
theorem PySem.W.Fast.tw1947758779502429092 : True := trivial
theorem PySem.W.Fast.tw7684727717425721714 : True := trivial
theorem PySem.W.Fast.tw5444031266405644875 : True := trivial
theorem PySem.W.Fast.tw9139434771293827472 : True := trivial
theorem PySem.W.Fast.tw10686391892854884444 : True := trivial
theorem PySem.W.Fast.tw6914321566243595791 : True := trivial
theorem PySem.W.Fast.tw1488161706899485563 : True := trivial
theorem PySem.W.Fast.tw9581833640260550048 : True := trivial
theorem PySem.W.Fast.tw10065509488716484200 : True := trivial
theorem PySem.W.Fast.tw2676595220070134889 : True := trivial
theorem PySem.W.Fast.tw8151959081891225530 : True := trivial
theorem PySem.W.Fast.tw17094891100918241051 : True := trivial
theorem PySem.W.Fast.tw9392257495529038772 : True := trivial
theorem PySem.W.Fast.tw12717814454370874722 : True := trivial
theorem PySem.W.Fast.tw2800688480985505843 : True := trivial
theorem PySem.W.Fast.tw11364965650276157290 : True := trivial
theorem PySem.W.Fast.tw7650531679590576437 : True := trivial
theorem PySem.W.Fast.tw12341198422265466580 : True := trivial
theorem PySem.W.Fast.tw2935500048944566743 : True := trivial
theorem PySem.W.Fast.tw4961022605572271553 : True := trivial
theorem PySem.W.Fast.tw1156702103052378002 : True := trivial
theorem PySem.W.Fast.tw11285732464914458655 : True := trivial
theorem PySem.W.Fast.tw8683808560700217947 : True := trivial
theorem PySem.W.Fast.tw12448807716598977762 : True := trivial
theorem PySem.W.Fast.tw15298820667591081913 : True := trivial
theorem PySem.W.Fast.tw16788575362129321531 : True := trivial
theorem PySem.W.Fast.tw2657123775182390354 : True := trivial
theorem PySem.W.Fast.tw12735050363256808227 : True := trivial
theorem PySem.W.Fast.tw10796124373267400283 : True := trivial
theorem PySem.W.Fast.tw6924105549048166128 : True := trivial
theorem PySem.W.Fast.tw16147369765724615854 : True := trivial
theorem PySem.W.Fast.tw5042236306562815632 : True := trivial
theorem PySem.W.Fast.tw7080900923313739271 : True := trivial
theorem PySem.W.Fast.tw6085951143973611873 : True := trivial
theorem PySem.W.Fast.tw17462337187644577913 : True := trivial
theorem PySem.W.Fast.tw13587832106593355186 : True := trivial
theorem PySem.W.Fast.tw15847809423576075157 : True := trivial
theorem PySem.W.Fast.tw17965811226857430472 : True := trivial
theorem PySem.W.Fast.tw18285751169264803652 : True := trivial
theorem PySem.W.Fast.tw2046472359555246370 : True := trivial
theorem PySem.W.Fast.tw4264334138099520941 : True := trivial
theorem PySem.W.Fast.tw12121054707716367632 : True := trivial
theorem PySem.W.Fast.tw14591939537922194744 : True := trivial
theorem PySem.W.Fast.tw3390771031244843944 : True := trivial
theorem PySem.W.Fast.tw1169238012778904211 : True := trivial
theorem PySem.W.Fast.tw16417328427213139085 : True := trivial
theorem PySem.W.Fast.tw16816694305042403328 : True := trivial
theorem PySem.W.Fast.tw14416473534728493410 : True := trivial
theorem PySem.W.Fast.tw10627511089957414132 : True := trivial
theorem PySem.W.Fast.tw4562168500975074950 : True := trivial
theorem PySem.W.Fast.tw6962320992207446988 : True := trivial
theorem PySem.W.Fast.tw10852284243565632847 : True := trivial
theorem PySem.W.Fast.tw17468479506735349136 : True := trivial
theorem PySem.W.Fast.tw11356180873929104785 : True := trivial
theorem PySem.W.Fast.tw12069259891171986169 : True := trivial
theorem PySem.W.Fast.tw10232650829174179986 : True := trivial
theorem PySem.W.Fast.tw3797884706467706547 : True := trivial
theorem PySem.W.Fast.tw13891237292887452564 : True := trivial
theorem PySem.W.Fast.tw16919413948806148279 : True := trivial
theorem PySem.W.Fast.tw11708236050051358378 : True := trivial
theorem PySem.W.Fast.tw12209102747092394704 : True := trivial
theorem PySem.W.Fast.tw17136529547310578766 : True := trivial
theorem PySem.W.Fast.tw6886019251962111611 : True := trivial
theorem PySem.W.Fast.tw2463606945079200728 : True := trivial
theorem PySem.W.Fast.tw4812684384838288446 : True := trivial
theorem PySem.W.Fast.tw15058265256741559200 : True := trivial
theorem PySem.W.Fast.tw8506197718409617522 : True := trivial
theorem PySem.W.Fast.tw5252736545894832436 : True := trivial
theorem PySem.W.Fast.tw9381278707075731787 : True := trivial
theorem PySem.W.Fast.tw2906806862427828505 : True := trivial
theorem PySem.W.Fast.tw2533505062566424679 : True := trivial
theorem PySem.W.Fast.tw16942509304224016336 : True := trivial
theorem PySem.W.Fast.tw2021799000820231118 : True := trivial
theorem PySem.W.Fast.tw1472392081933786120 : True := trivial
theorem PySem.W.Fast.tw16865343088950404439 : True := trivial
theorem PySem.W.Fast.tw18091086579523331255 : True := trivial
theorem PySem.W.Fast.tw2214272925336536838 : True := trivial
theorem PySem.W.Fast.tw12486684919539389258 : True := trivial
theorem PySem.W.Fast.tw16416889422560305852 : True := trivial
theorem PySem.W.Fast.tw2852638704219413523 : True := trivial
theorem PySem.W.Fast.tw17999280924351382449 : True := trivial
theorem PySem.W.Fast.tw6935702933536796867 : True := trivial
theorem PySem.W.Fast.tw16327438656357183089 : True := trivial
theorem PySem.W.Fast.tw11204142629038432547 : True := trivial
theorem PySem.W.Fast.tw9284943271619738207 : True := trivial
theorem PySem.W.Fast.tw6651702050141380372 : True := trivial
theorem PySem.W.Fast.tw11633306667967025115 : True := trivial
theorem PySem.W.Fast.tw5455480536707904860 : True := trivial
theorem PySem.W.Fast.tw4826463216381873530 : True := trivial
theorem PySem.W.Fast.tw10520650191008676454 : True := trivial
theorem PySem.W.Fast.tw9262316385054577757 : True := trivial
theorem PySem.W.Fast.tw1410647720915800119 : True := trivial
theorem PySem.W.Fast.tw12969391368955631746 : True := trivial
theorem PySem.W.Fast.tw13648022952126247600 : True := trivial
theorem PySem.W.Fast.tw14204736035766298663 : True := trivial
theorem PySem.W.Fast.tw8823195874500864964 : True := trivial
theorem PySem.W.Fast.tw11646495373436708381 : True := trivial
theorem PySem.W.Fast.tw3871011946672233516 : True := trivial
theorem PySem.W.Fast.tw11320875799333027656 : True := trivial
theorem PySem.W.Fast.tw10486874308216183384 : True := trivial
theorem PySem.W.Fast.tw1119251142527437922 : True := trivial
theorem PySem.W.Fast.tw3316273016779164216 : True := trivial
theorem PySem.W.Fast.tw14235969094811490040 : True := trivial
theorem PySem.W.Fast.tw16223292545060039526 : True := trivial
theorem PySem.W.Fast.tw4815585250313489825 : True := trivial
theorem PySem.W.Fast.tw2717588266289303612 : True := trivial
theorem PySem.W.Fast.tw18269013084160794523 : True := trivial
theorem PySem.W.Fast.tw13210097643815893287 : True := trivial
theorem PySem.W.Fast.tw13244039588117934915 : True := trivial
theorem PySem.W.Fast.tw10066411099679052376 : True := trivial
theorem PySem.W.Fast.tw1279067168456206442 : True := trivial
theorem PySem.W.Fast.tw14989080366460156974 : True := trivial
theorem PySem.W.Fast.tw11948623682451444393 : True := trivial
theorem PySem.W.Fast.tw12066482666354542000 : True := trivial
theorem PySem.W.Fast.tw4313733129965085957 : True := trivial
theorem PySem.W.Fast.tw9832909486644664070 : True := trivial
theorem PySem.W.Fast.tw16803429702874702752 : True := trivial
theorem PySem.W.Fast.tw3302823713554230657 : True := trivial
theorem PySem.W.Fast.tw10608855336775802133 : True := trivial
theorem PySem.W.Fast.tw8610047325907983823 : True := trivial
theorem PySem.W.Fast.tw836424105080339445 : True := trivial
theorem PySem.W.Fast.tw5992558563420943536 : True := trivial
theorem PySem.W.Fast.tw9638096291680479666 : True := trivial
theorem PySem.W.Fast.tw17449564849742351525 : True := trivial
theorem PySem.W.Fast.tw12745319555896716210 : True := trivial
theorem PySem.W.Fast.tw6820329996812879240 : True := trivial
theorem PySem.W.Fast.tw10965812615166095152 : True := trivial
theorem PySem.W.Fast.tw3271053093966492270 : True := trivial
theorem PySem.W.Fast.tw12313845848962752916 : True := trivial
theorem PySem.W.Fast.tw10256416102180160406 : True := trivial
theorem PySem.W.Fast.tw9683287465473380167 : True := trivial
theorem PySem.W.Fast.tw4988262579456286792 : True := trivial
theorem PySem.W.Fast.tw3110440610381584590 : True := trivial
theorem PySem.W.Fast.tw10408123776904970157 : True := trivial
theorem PySem.W.Fast.tw968786603645607966 : True := trivial
theorem PySem.W.Fast.tw17747408434284345953 : True := trivial
theorem PySem.W.Fast.tw14817829534794100579 : True := trivial
theorem PySem.W.Fast.tw1770179221147467865 : True := trivial
theorem PySem.W.Fast.tw544511838403622678 : True := trivial
theorem PySem.W.Fast.tw16620622731183565590 : True := trivial
theorem PySem.W.Fast.tw5847934963382376214 : True := trivial
theorem PySem.W.Fast.tw13237950432839646418 : True := trivial
theorem PySem.W.Fast.tw4149786812484997523 : True := trivial
theorem PySem.W.Fast.tw12066550892205546636 : True := trivial
theorem PySem.W.Fast.tw10233537514618129940 : True := trivial
theorem PySem.W.Fast.tw14997687341031896013 : True := trivial
theorem PySem.W.Fast.tw14328142689521939869 : True := trivial
theorem PySem.W.Fast.tw4253824020764524628 : True := trivial
theorem PySem.W.Fast.tw10855100103032694713 : True := trivial
theorem PySem.W.Fast.tw1137664294892202990 : True := trivial
theorem PySem.W.Fast.tw15083738861611396628 : True := trivial
theorem PySem.W.Fast.tw10806465781263870731 : True := trivial
theorem PySem.W.Fast.tw17169573468632781616 : True := trivial
theorem PySem.W.Fast.tw6809015523195464679 : True := trivial
theorem PySem.W.Fast.tw2771347892527399473 : True := trivial
theorem PySem.W.Fast.tw10113401679409585594 : True := trivial
theorem PySem.W.Fast.tw7338203556332251688 : True := trivial
theorem PySem.W.Fast.tw14832519088492591873 : True := trivial
theorem PySem.W.Fast.tw17080451017772677312 : True := trivial
theorem PySem.W.Fast.tw2527894460014759522 : True := trivial
theorem PySem.W.Fast.tw202065133162386851 : True := trivial
theorem PySem.W.Fast.tw21152326013283166 : True := trivial
theorem PySem.W.Fast.tw7998898015857240493 : True := trivial
theorem PySem.W.Fast.tw6263743491271989668 : True := trivial
theorem PySem.W.Fast.tw16095807938550514737 : True := trivial
theorem PySem.W.Fast.tw16677771032330883932 : True := trivial
theorem PySem.W.Fast.tw14475800839428639398 : True := trivial
theorem PySem.W.Fast.tw7076896491029136126 : True := trivial
theorem PySem.W.Fast.tw17904432910725597938 : True := trivial
theorem PySem.W.Fast.tw5113468705250151269 : True := trivial
theorem PySem.W.Fast.tw4563670865966299985 : True := trivial
theorem PySem.W.Fast.tw11359676259396665679 : True := trivial
theorem PySem.W.Fast.tw11654566042912082944 : True := trivial
theorem PySem.W.Fast.tw407878337552976700 : True := trivial
theorem PySem.W.Fast.tw4857854492027291330 : True := trivial
theorem PySem.W.Fast.tw5066506061107352009 : True := trivial
theorem PySem.W.Fast.tw7744877464370195777 : True := trivial
theorem PySem.W.Fast.tw15958226363063523130 : True := trivial
theorem PySem.W.Fast.tw17333020759506272077 : True := trivial
theorem PySem.W.Fast.tw12616526076587169006 : True := trivial
theorem PySem.W.Fast.tw15298230696990091934 : True := trivial
theorem PySem.W.Fast.tw4406644578766758913 : True := trivial
theorem PySem.W.Fast.tw16669862510864576301 : True := trivial
theorem PySem.W.Fast.tw17755620349017766369 : True := trivial
theorem PySem.W.Fast.tw6892366647281598244 : True := trivial
theorem PySem.W.Fast.tw6184972695022400487 : True := trivial
theorem PySem.W.Fast.tw1738305041049276282 : True := trivial
theorem PySem.W.Fast.tw17060621024789539192 : True := trivial
theorem PySem.W.Fast.tw2006872899932671409 : True := trivial
theorem PySem.W.Fast.tw10912838066233221884 : True := trivial
theorem PySem.W.Fast.tw2034457145260082452 : True := trivial
theorem PySem.W.Fast.tw8142450867086663865 : True := trivial
theorem PySem.W.Fast.tw12856481091398103650 : True := trivial
theorem PySem.W.Fast.tw4500422550918399958 : True := trivial
theorem PySem.W.Fast.tw16984875140061498929 : True := trivial
theorem PySem.W.Fast.tw7602539458613251070 : True := trivial
theorem PySem.W.Fast.tw15711349197548244252 : True := trivial
theorem PySem.W.Fast.tw15389188665944272434 : True := trivial
theorem PySem.W.Fast.tw1340201749488488417 : True := trivial
theorem PySem.W.Fast.tw14866396396907228431 : True := trivial
theorem PySem.W.Fast.tw14470417931393763584 : True := trivial
theorem PySem.W.Fast.tw7893917280174315313 : True := trivial
theorem PySem.W.Fast.tw10636403938764432190 : True := trivial
theorem PySem.W.Fast.tw12715633647527917354 : True := trivial
theorem PySem.W.Fast.tw18113271781009990180 : True := trivial
theorem PySem.W.Fast.tw8058028993223885329 : True := trivial
theorem PySem.W.Fast.tw4809800607708218203 : True := trivial
theorem PySem.W.Fast.tw10624219344195535192 : True := trivial
theorem PySem.W.Fast.tw4440689067380425227 : True := trivial
theorem PySem.W.Fast.tw7933187839371340744 : True := trivial
theorem PySem.W.Fast.tw9699979616049544291 : True := trivial
theorem PySem.W.Fast.tw7381483958245511088 : True := trivial
theorem PySem.W.Fast.tw2109346621614384189 : True := trivial
theorem PySem.W.Fast.tw15356278267194583902 : True := trivial
theorem PySem.W.Fast.tw3758091914744328884 : True := trivial
theorem PySem.W.Fast.tw16208841334932226645 : True := trivial
theorem PySem.W.Fast.tw15943373412721024498 : True := trivial
theorem PySem.W.Fast.tw10059108733170309084 : True := trivial
theorem PySem.W.Fast.tw11091916695064402331 : True := trivial
theorem PySem.W.Fast.tw2700642579815738662 : True := trivial
theorem PySem.W.Fast.tw5866290473168827836 : True := trivial
theorem PySem.W.Fast.tw260533040056244516 : True := trivial
theorem PySem.W.Fast.tw1717059728034383521 : True := trivial
theorem PySem.W.Fast.tw3390437756851262084 : True := trivial
theorem PySem.W.Fast.tw10710158428349488687 : True := trivial
theorem PySem.W.Fast.tw3608807174732837571 : True := trivial
theorem PySem.W.Fast.tw7948383176388644422 : True := trivial
theorem PySem.W.Fast.tw7669478757114312764 : True := trivial
theorem PySem.W.Fast.tw12098446289290926529 : True := trivial
theorem PySem.W.Fast.tw5844236697940834747 : True := trivial
theorem PySem.W.Fast.tw708792166109047207 : True := trivial
theorem PySem.W.Fast.tw13649960940569351945 : True := trivial
theorem PySem.W.Fast.tw12331486400435952953 : True := trivial
theorem PySem.W.Fast.tw2837610355641733621 : True := trivial
theorem PySem.W.Fast.tw12775449681237520838 : True := trivial
theorem PySem.W.Fast.tw17053541555662957536 : True := trivial
theorem PySem.W.Fast.tw11732243537506647328 : True := trivial
theorem PySem.W.Fast.tw10066580761974929209 : True := trivial
theorem PySem.W.Fast.tw2216082202205853239 : True := trivial
theorem PySem.W.Fast.tw2101036261132179952 : True := trivial
theorem PySem.W.Fast.tw12564683783835128286 : True := trivial
theorem PySem.W.Fast.tw2323295049542647270 : True := trivial
theorem PySem.W.Fast.tw16825849788150607427 : True := trivial
theorem PySem.W.Fast.tw8974095693115241717 : True := trivial
theorem PySem.W.Fast.tw17446530243642649401 : True := trivial
theorem PySem.W.Fast.tw14113552196104041062 : True := trivial
theorem PySem.W.Fast.tw11426764073518625767 : True := trivial
theorem PySem.W.Fast.tw14933432827261554205 : True := trivial
theorem PySem.W.Fast.tw296034256487408888 : True := trivial
theorem PySem.W.Fast.tw14725960209221720005 : True := trivial
theorem PySem.W.Fast.tw5133899449353880168 : True := trivial
theorem PySem.W.Fast.tw4724722553924769956 : True := trivial
theorem PySem.W.Fast.tw4798561196029849628 : True := trivial
theorem PySem.W.Fast.tw10410663316768902863 : True := trivial
theorem PySem.W.Fast.tw14587800542196451487 : True := trivial
theorem PySem.W.Fast.tw3043034615160672011 : True := trivial
theorem PySem.W.Fast.tw17686859133405703985 : True := trivial
theorem PySem.W.Fast.tw15881855515916090348 : True := trivial
theorem PySem.W.Fast.tw5193932714482456162 : True := trivial
theorem PySem.W.Fast.tw17973427581473365042 : True := trivial
theorem PySem.W.Fast.tw7626685014746446477 : True := trivial
theorem PySem.W.Fast.tw3719528674532947712 : True := trivial
theorem PySem.W.Fast.tw1002262280113550726 : True := trivial
theorem PySem.W.Fast.tw14832873672742254842 : True := trivial
theorem PySem.W.Fast.tw3784038811427380372 : True := trivial
theorem PySem.W.Fast.tw17959483106745467903 : True := trivial
theorem PySem.W.Fast.tw9460054393916774297 : True := trivial
theorem PySem.W.Fast.tw9181747299581109360 : True := trivial
theorem PySem.W.Fast.tw12110350285309555999 : True := trivial
theorem PySem.W.Fast.tw13266269364576055726 : True := trivial
theorem PySem.W.Fast.tw10747648273156588162 : True := trivial
theorem PySem.W.Fast.tw7811306670555916539 : True := trivial
theorem PySem.W.Fast.tw2994273826233220793 : True := trivial
theorem PySem.W.Fast.tw1122837035817196556 : True := trivial
theorem PySem.W.Fast.tw17385267936407199639 : True := trivial
theorem PySem.W.Fast.tw6510325916342571521 : True := trivial
theorem PySem.W.Fast.tw12088256924906042498 : True := trivial
theorem PySem.W.Fast.tw254222128779995006 : True := trivial
theorem PySem.W.Fast.tw9713179214245627249 : True := trivial
theorem PySem.W.Fast.tw6806749552799501662 : True := trivial
theorem PySem.W.Fast.tw1164180804020863986 : True := trivial
theorem PySem.W.Fast.tw7599025399349894170 : True := trivial
theorem PySem.W.Fast.tw4375899060384575691 : True := trivial
theorem PySem.W.Fast.tw4429864608849259069 : True := trivial
theorem PySem.W.Fast.tw13651422441256978816 : True := trivial
theorem PySem.W.Fast.tw16925066705279264398 : True := trivial
theorem PySem.W.Fast.tw17518783287898263080 : True := trivial
theorem PySem.W.Fast.tw5976451864692146398 : True := trivial
theorem PySem.W.Fast.tw12618829537080057991 : True := trivial
theorem PySem.W.Fast.tw5893436439232361880 : True := trivial
theorem PySem.W.Fast.tw12746730030773759733 : True := trivial
theorem PySem.W.Fast.tw10247101148396320557 : True := trivial
theorem PySem.W.Fast.tw8243699935886023919 : True := trivial
theorem PySem.W.Fast.tw15754672080709912891 : True := trivial
theorem PySem.W.Fast.tw13399849893144790236 : True := trivial
theorem PySem.W.Fast.tw1103190975947449201 : True := trivial
theorem PySem.W.Fast.tw10467080107578081934 : True := trivial
theorem PySem.W.Fast.tw18115406520925824950 : True := trivial
theorem PySem.W.Fast.tw13215265929857248109 : True := trivial
theorem PySem.W.Fast.tw17307960584040760467 : True := trivial
theorem PySem.W.Fast.tw85483510302074395 : True := trivial
theorem PySem.W.Fast.tw5860285200210287447 : True := trivial
theorem PySem.W.Fast.tw2344609759657733506 : True := trivial
theorem PySem.W.Fast.tw4289066049336812982 : True := trivial
theorem PySem.W.Fast.tw5503050780509059706 : True := trivial
theorem PySem.W.Fast.tw2283190737210603017 : True := trivial
theorem PySem.W.Fast.tw18180628499604430239 : True := trivial
theorem PySem.W.Fast.tw17028712885922187897 : True := trivial
theorem PySem.W.Fast.tw3060379659664003277 : True := trivial
theorem PySem.W.Fast.tw9672239499785727955 : True := trivial
theorem PySem.W.Fast.tw4776664657416493395 : True := trivial
theorem PySem.W.Fast.tw6435159568282644864 : True := trivial
theorem PySem.W.Fast.tw10901152507832895097 : True := trivial
theorem PySem.W.Fast.tw12553224051929423913 : True := trivial
theorem PySem.W.Fast.tw17674528471316739484 : True := trivial
theorem PySem.W.Fast.tw982216440758765291 : True := trivial
theorem PySem.W.Fast.tw17012578218381285803 : True := trivial
theorem PySem.W.Fast.tw11911507669605676387 : True := trivial
theorem PySem.W.Fast.tw9607876676668011028 : True := trivial
theorem PySem.W.Fast.tw7786982998909456119 : True := trivial
theorem PySem.W.Fast.tw1638912958996328486 : True := trivial
theorem PySem.W.Fast.tw10045898166180787406 : True := trivial
theorem PySem.W.Fast.tw16497514776402514733 : True := trivial
theorem PySem.W.Fast.tw2291007220952018148 : True := trivial
theorem PySem.W.Fast.tw10546363507063531486 : True := trivial
theorem PySem.W.Fast.tw18367100434433591264 : True := trivial
theorem PySem.W.Fast.tw16014650832365401701 : True := trivial
theorem PySem.W.Fast.tw5166481092450838844 : True := trivial
theorem PySem.W.Fast.tw3586848049821373717 : True := trivial
theorem PySem.W.Fast.tw5041785859092122635 : True := trivial
theorem PySem.W.Fast.tw14054991597450734700 : True := trivial
theorem PySem.W.Fast.tw335085492027020542 : True := trivial
theorem PySem.W.Fast.tw6357020633717822694 : True := trivial
theorem PySem.W.Fast.tw884563095869395676 : True := trivial
theorem PySem.W.Fast.tw8018029637497181112 : True := trivial
theorem PySem.W.Fast.tw16510067550912066475 : True := trivial
theorem PySem.W.Fast.tw8604602954866071756 : True := trivial
theorem PySem.W.Fast.tw8895720419645117617 : True := trivial
theorem PySem.W.Fast.tw3076528525618844262 : True := trivial
theorem PySem.W.Fast.tw8825803952827976185 : True := trivial
theorem PySem.W.Fast.tw8526536468820817352 : True := trivial
theorem PySem.W.Fast.tw15286319065817878989 : True := trivial
theorem PySem.W.Fast.tw9110528476981538943 : True := trivial
theorem PySem.W.Fast.tw5710685038695231769 : True := trivial
theorem PySem.W.Fast.tw11735622171185830230 : True := trivial
theorem PySem.W.Fast.tw13765767695102977147 : True := trivial
theorem PySem.W.Fast.tw7364391022076884731 : True := trivial
theorem PySem.W.Fast.tw15285655856469950405 : True := trivial
theorem PySem.W.Fast.tw9731037635439139472 : True := trivial
theorem PySem.W.Fast.tw16011536147380233683 : True := trivial
theorem PySem.W.Fast.tw13387236436058522350 : True := trivial
theorem PySem.W.Fast.tw6233472108903560989 : True := trivial
theorem PySem.W.Fast.tw9266678619329558883 : True := trivial
theorem PySem.W.Fast.tw15861771611014374488 : True := trivial
theorem PySem.W.Fast.tw2647526587609658987 : True := trivial
theorem PySem.W.Fast.tw412567235873889948 : True := trivial
theorem PySem.W.Fast.tw2104261004694797473 : True := trivial
theorem PySem.W.Fast.tw5607871806976063828 : True := trivial
theorem PySem.W.Fast.tw12977954220418336114 : True := trivial
theorem PySem.W.Fast.tw14324097573232890472 : True := trivial
theorem PySem.W.Fast.tw10544530511368545338 : True := trivial
theorem PySem.W.Fast.tw9569629662495632497 : True := trivial
theorem PySem.W.Fast.tw4209810386308541179 : True := trivial
theorem PySem.W.Fast.tw3436860611078531792 : True := trivial
theorem PySem.W.Fast.tw10656470465741628471 : True := trivial
theorem PySem.W.Fast.tw10788961678389575788 : True := trivial
theorem PySem.W.Fast.tw7357071672036537676 : True := trivial
theorem PySem.W.Fast.tw11253164035787758340 : True := trivial
theorem PySem.W.Fast.tw3854742903061167063 : True := trivial
theorem PySem.W.Fast.tw12123346662736088934 : True := trivial
theorem PySem.W.Fast.tw12290332852710551934 : True := trivial
theorem PySem.W.Fast.tw669917515352963994 : True := trivial
theorem PySem.W.Fast.tw10455363161642050233 : True := trivial
theorem PySem.W.Fast.tw14306028874478638714 : True := trivial
theorem PySem.W.Fast.tw10200869881551981811 : True := trivial
theorem PySem.W.Fast.tw6390450186257488184 : True := trivial
theorem PySem.W.Fast.tw13585380988133894390 : True := trivial
theorem PySem.W.Fast.tw12701620420062279585 : True := trivial
theorem PySem.W.Fast.tw5508820342800143599 : True := trivial
theorem PySem.W.Fast.tw5363250369007354537 : True := trivial
theorem PySem.W.Fast.tw13012916586164259646 : True := trivial
theorem PySem.W.Fast.tw16685616931948068211 : True := trivial
theorem PySem.W.Fast.tw11845958702393921053 : True := trivial
theorem PySem.W.Fast.tw15264170952541010706 : True := trivial
theorem PySem.W.Fast.tw2512387945497030824 : True := trivial
theorem PySem.W.Fast.tw2345011828297958260 : True := trivial
theorem PySem.W.Fast.tw112495790083687761 : True := trivial
theorem PySem.W.Fast.tw12410667335698333784 : True := trivial
theorem PySem.W.Fast.tw14262355815400372848 : True := trivial
theorem PySem.W.Fast.tw18305842448647615046 : True := trivial
theorem PySem.W.Fast.tw12059324545468332671 : True := trivial
theorem PySem.W.Fast.tw10012185963432521692 : True := trivial
theorem PySem.W.Fast.tw7552767269534056212 : True := trivial
theorem PySem.W.Fast.tw15169013839508997593 : True := trivial
theorem PySem.W.Fast.tw16669591149456349095 : True := trivial
theorem PySem.W.Fast.tw5519738367687965870 : True := trivial
theorem PySem.W.Fast.tw13079153444057452521 : True := trivial
theorem PySem.W.Fast.tw2727110878826671154 : True := trivial
theorem PySem.W.Fast.tw15381957150436226313 : True := trivial
theorem PySem.W.Fast.tw16004167983521202877 : True := trivial
theorem PySem.W.Fast.tw9018952151197010429 : True := trivial
theorem PySem.W.Fast.tw2331160818527939949 : True := trivial
theorem PySem.W.Fast.tw5411364768262357005 : True := trivial
theorem PySem.W.Fast.tw9844041843453609740 : True := trivial
theorem PySem.W.Fast.tw11786991244213011790 : True := trivial
theorem PySem.W.Fast.tw4923182041833357744 : True := trivial
theorem PySem.W.Fast.tw15829770274754962043 : True := trivial
theorem PySem.W.Fast.tw1788297060060684149 : True := trivial
theorem PySem.W.Fast.tw14443551779732391325 : True := trivial
theorem PySem.W.Fast.tw15034035652370223886 : True := trivial
theorem PySem.W.Fast.tw16111163833798477019 : True := trivial
theorem PySem.W.Fast.tw15387795852182313968 : True := trivial
theorem PySem.W.Fast.tw3419940784715728869 : True := trivial
theorem PySem.W.Fast.tw10155829574943564137 : True := trivial
theorem PySem.W.Fast.tw7997748756702745684 : True := trivial
theorem PySem.W.Fast.tw5810567544739853787 : True := trivial
theorem PySem.W.Fast.tw14947552864479419914 : True := trivial
theorem PySem.W.Fast.tw10393531214078106911 : True := trivial
theorem PySem.W.Fast.tw377243739082890857 : True := trivial
theorem PySem.W.Fast.tw9640857653810425348 : True := trivial
theorem PySem.W.Fast.tw1252909081402682918 : True := trivial
theorem PySem.W.Fast.tw5530570377187896242 : True := trivial
theorem PySem.W.Fast.tw18301320774686880452 : True := trivial
theorem PySem.W.Fast.tw4683918664084471758 : True := trivial
theorem PySem.W.Fast.tw3281104129901018860 : True := trivial
theorem PySem.W.Fast.tw14052115890889133738 : True := trivial
theorem PySem.W.Fast.tw6995348447042539447 : True := trivial
theorem PySem.W.Fast.tw9086162744114928872 : True := trivial
theorem PySem.W.Fast.tw12986410664153136013 : True := trivial
theorem PySem.W.Fast.tw649177812666273302 : True := trivial
theorem PySem.W.Fast.tw17792548261988964205 : True := trivial
theorem PySem.W.Fast.tw2020425606185526708 : True := trivial
theorem PySem.W.Fast.tw3190287109706959817 : True := trivial
theorem PySem.W.Fast.tw18173147888572794669 : True := trivial
theorem PySem.W.Fast.tw10489662302337696280 : True := trivial
theorem PySem.W.Fast.tw11793581417399851520 : True := trivial
theorem PySem.W.Fast.tw16532975721167902713 : True := trivial
theorem PySem.W.Fast.tw8984746456871327431 : True := trivial
theorem PySem.W.Fast.tw9017413127194015692 : True := trivial
theorem PySem.W.Fast.tw16786830906977564144 : True := trivial
theorem PySem.W.Fast.tw17836039802535105253 : True := trivial
theorem PySem.W.Fast.tw3895804935206916242 : True := trivial
theorem PySem.W.Fast.tw10104031171043596389 : True := trivial
theorem PySem.W.Fast.tw3960290804008014199 : True := trivial
theorem PySem.W.Fast.tw13649193441336861226 : True := trivial
theorem PySem.W.Fast.tw6999462050074430308 : True := trivial
theorem PySem.W.Fast.tw14161008434494036101 : True := trivial
theorem PySem.W.Fast.tw7072626905375417433 : True := trivial
theorem PySem.W.Fast.tw10692240528011794758 : True := trivial
theorem PySem.W.Fast.tw11035741355286579870 : True := trivial
theorem PySem.W.Fast.tw9693204667505368797 : True := trivial
theorem PySem.W.Fast.tw11799308855875772400 : True := trivial
theorem PySem.W.Fast.tw4252444412155810685 : True := trivial
theorem PySem.W.Fast.tw17827418694556189959 : True := trivial
theorem PySem.W.Fast.tw9131525451383860817 : True := trivial
theorem PySem.W.Fast.tw10568400623217752034 : True := trivial
theorem PySem.W.Fast.tw398409154562852510 : True := trivial
theorem PySem.W.Fast.tw3748619780714070748 : True := trivial
theorem PySem.W.Fast.tw18150514838935668613 : True := trivial
theorem PySem.W.Fast.tw14968253813817496402 : True := trivial
theorem PySem.W.Fast.tw11610605358919960182 : True := trivial
theorem PySem.W.Fast.tw2324140233578376065 : True := trivial
theorem PySem.W.Fast.tw9854459622294981700 : True := trivial
theorem PySem.W.Fast.tw3965014750868656484 : True := trivial
theorem PySem.W.Fast.tw7317020762592344416 : True := trivial
theorem PySem.W.Fast.tw7799535447800743622 : True := trivial
theorem PySem.W.Fast.tw9130580426612518042 : True := trivial
theorem PySem.W.Fast.tw11723233366880307881 : True := trivial
theorem PySem.W.Fast.tw6000116911356991681 : True := trivial
theorem PySem.W.Fast.tw284333731323126176 : True := trivial
theorem PySem.W.Fast.tw13961618442414748026 : True := trivial
theorem PySem.W.Fast.tw10893934170140978197 : True := trivial
theorem PySem.W.Fast.tw3621118684324119420 : True := trivial
theorem PySem.W.Fast.tw8949010341985557754 : True := trivial
theorem PySem.W.Fast.tw5057587366007718422 : True := trivial
theorem PySem.W.Fast.tw15699792909130463457 : True := trivial
theorem PySem.W.Fast.tw18189142582111553793 : True := trivial
theorem PySem.W.Fast.tw1707739995998397584 : True := trivial
theorem PySem.W.Fast.tw2872228676373868623 : True := trivial
theorem PySem.W.Fast.tw13259459125561294118 : True := trivial
theorem PySem.W.Fast.tw1308121304149865259 : True := trivial
theorem PySem.W.Fast.tw12207173351499562534 : True := trivial
theorem PySem.W.Fast.tw8406673430536167043 : True := trivial
theorem PySem.W.Fast.tw2477288023776351969 : True := trivial
theorem PySem.W.Fast.tw4288466462520500754 : True := trivial
theorem PySem.W.Fast.tw17354551867724292585 : True := trivial
theorem PySem.W.Fast.tw5295112140239413538 : True := trivial
theorem PySem.W.Fast.tw7677446013936026696 : True := trivial
theorem PySem.W.Fast.tw13465565546409972873 : True := trivial
theorem PySem.W.Fast.tw17368210124488786415 : True := trivial
theorem PySem.W.Fast.tw2358072120431740434 : True := trivial
theorem PySem.W.Fast.tw17747921502034456386 : True := trivial
theorem PySem.W.Fast.tw8867614139559099555 : True := trivial
theorem PySem.W.Fast.tw9778608512446530264 : True := trivial
theorem PySem.W.Fast.tw17187923452522206720 : True := trivial
theorem PySem.W.Fast.tw1254741819623880586 : True := trivial
theorem PySem.W.Fast.tw7002442451792588867 : True := trivial
theorem PySem.W.Fast.tw12090400296118788785 : True := trivial
theorem PySem.W.Fast.tw112964847410325126 : True := trivial
theorem PySem.W.Fast.tw16275348077256229800 : True := trivial
theorem PySem.W.Fast.tw5453565351466639677 : True := trivial
theorem PySem.W.Fast.tw5929765685719482130 : True := trivial
theorem PySem.W.Fast.tw12359256861390355987 : True := trivial
theorem PySem.W.Fast.tw16055793126350420452 : True := trivial
theorem PySem.W.Fast.tw16251449762892713327 : True := trivial
theorem PySem.W.Fast.tw2822038379014429481 : True := trivial
theorem PySem.W.Fast.tw16482062090077922396 : True := trivial
theorem PySem.W.Fast.tw16837154331913271816 : True := trivial
theorem PySem.W.Fast.tw7057998013506633012 : True := trivial
theorem PySem.W.Fast.tw4304570564017408947 : True := trivial
theorem PySem.W.Fast.tw13121046872576627118 : True := trivial
theorem PySem.W.Fast.tw9238253020463830494 : True := trivial
theorem PySem.W.Fast.tw2192633789359113547 : True := trivial
theorem PySem.W.Fast.tw4647539978417955641 : True := trivial
theorem PySem.W.Fast.tw13329380656808698344 : True := trivial
theorem PySem.W.Fast.tw9035850089867356972 : True := trivial
theorem PySem.W.Fast.tw10397718871503719875 : True := trivial
theorem PySem.W.Fast.tw3370274387657098241 : True := trivial
theorem PySem.W.Fast.tw3611646208810182041 : True := trivial
theorem PySem.W.Fast.tw18219358364349081006 : True := trivial
theorem PySem.W.Fast.tw11090335522636117682 : True := trivial
theorem PySem.W.Fast.tw2597759415995380882 : True := trivial
theorem PySem.W.Fast.tw11037534393364223549 : True := trivial
theorem PySem.W.Fast.tw16400793411969892500 : True := trivial
theorem PySem.W.Fast.tw2618508390762063359 : True := trivial
theorem PySem.W.Fast.tw7309513572414859132 : True := trivial
theorem PySem.W.Fast.tw5953226135814104375 : True := trivial
theorem PySem.W.Fast.tw5822946204858426328 : True := trivial
theorem PySem.W.Fast.tw1288100737104209316 : True := trivial
theorem PySem.W.Fast.tw7733844186141395892 : True := trivial
theorem PySem.W.Fast.tw13383210781499068476 : True := trivial
theorem PySem.W.Fast.tw18232349157151249256 : True := trivial
theorem PySem.W.Fast.tw10427469034824143937 : True := trivial
theorem PySem.W.Fast.tw16380516497858605900 : True := trivial
theorem PySem.W.Fast.tw17526607138217357499 : True := trivial
theorem PySem.W.Fast.tw16627524183959309673 : True := trivial
theorem PySem.W.Fast.tw2792759191169842554 : True := trivial
theorem PySem.W.Fast.tw4334102767261563897 : True := trivial
theorem PySem.W.Fast.tw12808149201289773342 : True := trivial
theorem PySem.W.Fast.tw2586498726580053130 : True := trivial
theorem PySem.W.Fast.tw6175986298565721588 : True := trivial
theorem PySem.W.Fast.tw708449451683756097 : True := trivial
theorem PySem.W.Fast.tw3667869043725074889 : True := trivial
theorem PySem.W.Fast.tw13740219932446459184 : True := trivial
theorem PySem.W.Fast.tw3160853366723292131 : True := trivial
theorem PySem.W.Fast.tw10083519770908973326 : True := trivial
theorem PySem.W.Fast.tw13128207256930058274 : True := trivial
theorem PySem.W.Fast.tw12695478789303477632 : True := trivial
theorem PySem.W.Fast.tw5985841969636033486 : True := trivial
theorem PySem.W.Fast.tw12622253073997619430 : True := trivial
theorem PySem.W.Fast.tw9604027911315919514 : True := trivial
theorem PySem.W.Fast.tw3301634243872073658 : True := trivial
theorem PySem.W.Fast.tw14228055903306404798 : True := trivial
theorem PySem.W.Fast.tw116137331280832571 : True := trivial
theorem PySem.W.Fast.tw11085692491881426291 : True := trivial
theorem PySem.W.Fast.tw13774211280303415220 : True := trivial
theorem PySem.W.Fast.tw15562933978908844367 : True := trivial
theorem PySem.W.Fast.tw7473001382807461095 : True := trivial
theorem PySem.W.Fast.tw637104509597471084 : True := trivial
theorem PySem.W.Fast.tw6973169149917261573 : True := trivial
theorem PySem.W.Fast.tw10438299220465602269 : True := trivial
theorem PySem.W.Fast.tw5932718458284967792 : True := trivial
theorem PySem.W.Fast.tw7872052828383515943 : True := trivial
theorem PySem.W.Fast.tw14116758477547289728 : True := trivial
theorem PySem.W.Fast.tw13747288336033371786 : True := trivial
theorem PySem.W.Fast.tw11332674129841608561 : True := trivial
theorem PySem.W.Fast.tw14470127774536845602 : True := trivial
theorem PySem.W.Fast.tw2841698964931122250 : True := trivial
theorem PySem.W.Fast.tw1699282806791786863 : True := trivial
theorem PySem.W.Fast.tw9500522537599328960 : True := trivial
theorem PySem.W.Fast.tw7168767061903702481 : True := trivial
theorem PySem.W.Fast.tw16748503039843190695 : True := trivial
theorem PySem.W.Fast.tw7800060198085565604 : True := trivial
theorem PySem.W.Fast.tw15438672620690929743 : True := trivial
theorem PySem.W.Fast.tw15655089885782588625 : True := trivial
theorem PySem.W.Fast.tw17911516515854182653 : True := trivial
theorem PySem.W.Fast.tw125759870993789653 : True := trivial
theorem PySem.W.Fast.tw11041496445537323257 : True := trivial
theorem PySem.W.Fast.tw10482238994651178802 : True := trivial
theorem PySem.W.Fast.tw13844761115372749068 : True := trivial
theorem PySem.W.Fast.tw17627768310882259995 : True := trivial
theorem PySem.W.Fast.tw17818533662930820227 : True := trivial
theorem PySem.W.Fast.tw2592031756018570161 : True := trivial
theorem PySem.W.Fast.tw5541950086378867401 : True := trivial
theorem PySem.W.Fast.tw2835058399089568647 : True := trivial
theorem PySem.W.Fast.tw11353075502465759094 : True := trivial
theorem PySem.W.Fast.tw17483102535897175196 : True := trivial
theorem PySem.W.Fast.tw11651539333162857494 : True := trivial
theorem PySem.W.Fast.tw8103631528934019180 : True := trivial
theorem PySem.W.Fast.tw1138306415597961131 : True := trivial
theorem PySem.W.Fast.tw1558081719718481350 : True := trivial
theorem PySem.W.Fast.tw1010710835269998646 : True := trivial
theorem PySem.W.Fast.tw5698600131024636263 : True := trivial
theorem PySem.W.Fast.tw4663498926508905572 : True := trivial
theorem PySem.W.Fast.tw8054482874845869800 : True := trivial
theorem PySem.W.Fast.tw4808750694325064733 : True := trivial
theorem PySem.W.Fast.tw8365921399126329159 : True := trivial
theorem PySem.W.Fast.tw9041899456332447336 : True := trivial
theorem PySem.W.Fast.tw16370453548083252118 : True := trivial
theorem PySem.W.Fast.tw627617032377273875 : True := trivial
theorem PySem.W.Fast.tw15363883154199740136 : True := trivial
theorem PySem.W.Fast.tw8954759791743375665 : True := trivial
theorem PySem.W.Fast.tw8516804094839542204 : True := trivial
theorem PySem.W.Fast.tw4751713043656963141 : True := trivial
theorem PySem.W.Fast.tw12911517550441909701 : True := trivial
theorem PySem.W.Fast.tw11018791331266603543 : True := trivial
theorem PySem.W.Fast.tw11260668505222418124 : True := trivial
theorem PySem.W.Fast.tw15776769425886059976 : True := trivial
theorem PySem.W.Fast.tw4942016752573088026 : True := trivial
theorem PySem.W.Fast.tw5891248002437594145 : True := trivial
theorem PySem.W.Fast.tw11632141278220802870 : True := trivial
theorem PySem.W.Fast.tw18125413242173906765 : True := trivial
theorem PySem.W.Fast.tw2536570163312687891 : True := trivial
theorem PySem.W.Fast.tw842296315610490843 : True := trivial
theorem PySem.W.Fast.tw1285392797551971939 : True := trivial
theorem PySem.W.Fast.tw1718761613175752801 : True := trivial
theorem PySem.W.Fast.tw7027028178710886042 : True := trivial
theorem PySem.W.Fast.tw1870838584391316405 : True := trivial
theorem PySem.W.Fast.tw5107251074519020731 : True := trivial
theorem PySem.W.Fast.tw10037880335324895864 : True := trivial
theorem PySem.W.Fast.tw907197295233783870 : True := trivial
theorem PySem.W.Fast.tw7351356476193613131 : True := trivial
theorem PySem.W.Fast.tw14669458517596063688 : True := trivial
theorem PySem.W.Fast.tw12593862671161530134 : True := trivial
theorem PySem.W.Fast.tw9396819305396840319 : True := trivial
theorem PySem.W.Fast.tw14228824299880975328 : True := trivial
theorem PySem.W.Fast.tw15435478118592294403 : True := trivial
theorem PySem.W.Fast.tw13895033820336056922 : True := trivial
theorem PySem.W.Fast.tw15642459026125717499 : True := trivial
theorem PySem.W.Fast.tw8705663634771050568 : True := trivial
theorem PySem.W.Fast.tw5943474920109058799 : True := trivial
theorem PySem.W.Fast.tw16873764923527746757 : True := trivial
theorem PySem.W.Fast.tw380190845142569975 : True := trivial
theorem PySem.W.Fast.tw14285897157773180610 : True := trivial
theorem PySem.W.Fast.tw12407972996061437488 : True := trivial
theorem PySem.W.Fast.tw3777664090258842388 : True := trivial
theorem PySem.W.Fast.tw2723329217043838699 : True := trivial
theorem PySem.W.Fast.tw6634059664313798305 : True := trivial
theorem PySem.W.Fast.tw7301925622431004857 : True := trivial
theorem PySem.W.Fast.tw600841816583743783 : True := trivial
theorem PySem.W.Fast.tw16200996824534512254 : True := trivial
theorem PySem.W.Fast.tw10878952924363947501 : True := trivial
theorem PySem.W.Fast.tw12747681734868766054 : True := trivial
theorem PySem.W.Fast.tw13464806573411071717 : True := trivial
theorem PySem.W.Fast.tw9391988188335615540 : True := trivial
theorem PySem.W.Fast.tw6951473459520474208 : True := trivial
theorem PySem.W.Fast.tw10936257629052997702 : True := trivial
theorem PySem.W.Fast.tw11172057965759990975 : True := trivial
theorem PySem.W.Fast.tw9020202074553162163 : True := trivial
theorem PySem.W.Fast.tw9302167196257995940 : True := trivial
theorem PySem.W.Fast.tw8038068829376724462 : True := trivial
theorem PySem.W.Fast.tw11047197724685536399 : True := trivial
theorem PySem.W.Fast.tw5569465144463145799 : True := trivial
theorem PySem.W.Fast.tw9676219235408154919 : True := trivial
theorem PySem.W.Fast.tw6873181467089630505 : True := trivial
theorem PySem.W.Fast.tw9121136168407382375 : True := trivial
theorem PySem.W.Fast.tw816620673002259668 : True := trivial
theorem PySem.W.Fast.tw9296980495060255816 : True := trivial
theorem PySem.W.Fast.tw2405422032520385642 : True := trivial
theorem PySem.W.Fast.tw17601485702964193844 : True := trivial
theorem PySem.W.Fast.tw8667488706491813657 : True := trivial
theorem PySem.W.Fast.tw1681260303543202074 : True := trivial
theorem PySem.W.Fast.tw10214190061258472030 : True := trivial
theorem PySem.W.Fast.tw1742267501264171504 : True := trivial
theorem PySem.W.Fast.tw6758731513046005817 : True := trivial
theorem PySem.W.Fast.tw2287332329007927128 : True := trivial
theorem PySem.W.Fast.tw4341047752430748885 : True := trivial
theorem PySem.W.Fast.tw18256426628681695797 : True := trivial
theorem PySem.W.Fast.tw16679861666498684294 : True := trivial
theorem PySem.W.Fast.tw12999987558887803653 : True := trivial
theorem PySem.W.Fast.tw13784788080854109321 : True := trivial
theorem PySem.W.Fast.tw6257104626495347207 : True := trivial
theorem PySem.W.Fast.tw15770478250344601271 : True := trivial
theorem PySem.W.Fast.tw4399171574235803383 : True := trivial
theorem PySem.W.Fast.tw15432599772391306217 : True := trivial
theorem PySem.W.Fast.tw15017246207599399215 : True := trivial
theorem PySem.W.Fast.tw5545049145486298093 : True := trivial
theorem PySem.W.Fast.tw15535300727825203428 : True := trivial
theorem PySem.W.Fast.tw14012351219571218802 : True := trivial
theorem PySem.W.Fast.tw1921670998792014227 : True := trivial
theorem PySem.W.Fast.tw13467080730797181872 : True := trivial
theorem PySem.W.Fast.tw391592923105454349 : True := trivial
theorem PySem.W.Fast.tw6449719707302079972 : True := trivial
theorem PySem.W.Fast.tw15428072511533525348 : True := trivial
theorem PySem.W.Fast.tw13626605561275710200 : True := trivial
theorem PySem.W.Fast.tw3200430733810519909 : True := trivial
theorem PySem.W.Fast.tw4974482459845758354 : True := trivial
theorem PySem.W.Fast.tw13887458091476364004 : True := trivial
theorem PySem.W.Fast.tw14522027711199058250 : True := trivial
theorem PySem.W.Fast.tw14224892417338179420 : True := trivial
theorem PySem.W.Fast.tw4920085929319842412 : True := trivial
theorem PySem.W.Fast.tw13750328692228539424 : True := trivial
theorem PySem.W.Fast.tw4952719867252131012 : True := trivial
theorem PySem.W.Fast.tw17325623129068704975 : True := trivial
theorem PySem.W.Fast.tw11907533102063174906 : True := trivial
theorem PySem.W.Fast.tw9658006747474053992 : True := trivial
theorem PySem.W.Fast.tw4435736108521815174 : True := trivial
theorem PySem.W.Fast.tw74146518716704203 : True := trivial
theorem PySem.W.Fast.tw7788516049519362298 : True := trivial
theorem PySem.W.Fast.tw10532996565173051581 : True := trivial
theorem PySem.W.Fast.tw14138389669500848297 : True := trivial
theorem PySem.W.Fast.tw3516483535590488042 : True := trivial
theorem PySem.W.Fast.tw8453270264404042282 : True := trivial
theorem PySem.W.Fast.tw1204534061411368191 : True := trivial
theorem PySem.W.Fast.tw11663202455240855104 : True := trivial
theorem PySem.W.Fast.tw13979265315737298063 : True := trivial
theorem PySem.W.Fast.tw15002472644629231588 : True := trivial
theorem PySem.W.Fast.tw16459500552427298536 : True := trivial
theorem PySem.W.Fast.tw8778196374268533540 : True := trivial
theorem PySem.W.Fast.tw15685732130875816899 : True := trivial
theorem PySem.W.Fast.tw4054382846191016854 : True := trivial
theorem PySem.W.Fast.tw8976308027836686945 : True := trivial
theorem PySem.W.Fast.tw92175278948083864 : True := trivial
theorem PySem.W.Fast.tw5662278447675393027 : True := trivial
theorem PySem.W.Fast.tw2585334532533920754 : True := trivial
theorem PySem.W.Fast.tw15633063921381346320 : True := trivial
theorem PySem.W.Fast.tw5239738155821129350 : True := trivial
theorem PySem.W.Fast.tw9158280872934827677 : True := trivial
theorem PySem.W.Fast.tw2382707343398197774 : True := trivial
theorem PySem.W.Fast.tw5776305952356382617 : True := trivial
theorem PySem.W.Fast.tw16593482745982401858 : True := trivial
theorem PySem.W.Fast.tw4285732090969204798 : True := trivial
theorem PySem.W.Fast.tw3173480524320167975 : True := trivial
theorem PySem.W.Fast.tw1051668847022517563 : True := trivial
theorem PySem.W.Fast.tw10955399712512864661 : True := trivial
theorem PySem.W.Fast.tw14595447518973789854 : True := trivial
theorem PySem.W.Fast.tw7621245607703436446 : True := trivial
theorem PySem.W.Fast.tw11071287579591358151 : True := trivial
theorem PySem.W.Fast.tw3227431980852560447 : True := trivial
theorem PySem.W.Fast.tw15874381734595213542 : True := trivial
theorem PySem.W.Fast.tw9062723365933528091 : True := trivial
theorem PySem.W.Fast.tw7660892081071027547 : True := trivial
theorem PySem.W.Fast.tw7244537697347728468 : True := trivial
theorem PySem.W.Fast.tw871793237523309832 : True := trivial
theorem PySem.W.Fast.tw1909767083621049221 : True := trivial
theorem PySem.W.Fast.tw13069608153065493484 : True := trivial
theorem PySem.W.Fast.tw12567776748000635716 : True := trivial
theorem PySem.W.Fast.tw13219408772272621145 : True := trivial
theorem PySem.W.Fast.tw9182384670340274056 : True := trivial
theorem PySem.W.Fast.tw2347019737671523865 : True := trivial
theorem PySem.W.Fast.tw5756048540934185113 : True := trivial
theorem PySem.W.Fast.tw1376963615120773712 : True := trivial
theorem PySem.W.Fast.tw14371083965837969167 : True := trivial
theorem PySem.W.Fast.tw8135451969995788622 : True := trivial
theorem PySem.W.Fast.tw1553336272418211971 : True := trivial
theorem PySem.W.Fast.tw11536645122336717977 : True := trivial
theorem PySem.W.Fast.tw18314302764257396726 : True := trivial
theorem PySem.W.Fast.tw10136423591247563768 : True := trivial
theorem PySem.W.Fast.tw5852821811506706220 : True := trivial
theorem PySem.W.Fast.tw3523809653725126630 : True := trivial
theorem PySem.W.Fast.tw13963575104583728681 : True := trivial
theorem PySem.W.Fast.tw18114768317330889629 : True := trivial
theorem PySem.W.Fast.tw7074396922251601321 : True := trivial
theorem PySem.W.Fast.tw11635211675910541296 : True := trivial
theorem PySem.W.Fast.tw2187089866717198583 : True := trivial
theorem PySem.W.Fast.tw9218832322764918960 : True := trivial
theorem PySem.W.Fast.tw3390007947038454195 : True := trivial
theorem PySem.W.Fast.tw1928877536450597698 : True := trivial
theorem PySem.W.Fast.tw4591685635079560311 : True := trivial
theorem PySem.W.Fast.tw15408700741606934925 : True := trivial
theorem PySem.W.Fast.tw7692804254325650949 : True := trivial
theorem PySem.W.Fast.tw960132781952338617 : True := trivial
theorem PySem.W.Fast.tw8976359302440220480 : True := trivial
theorem PySem.W.Fast.tw7910281041735943435 : True := trivial
theorem PySem.W.Fast.tw6152407050095536361 : True := trivial
theorem PySem.W.Fast.tw5989036802284996301 : True := trivial
theorem PySem.W.Fast.tw14524684914389371432 : True := trivial
theorem PySem.W.Fast.tw3679270902623366576 : True := trivial
theorem PySem.W.Fast.tw17979354487645113862 : True := trivial
theorem PySem.W.Fast.tw11015624609161754534 : True := trivial
theorem PySem.W.Fast.tw586690207847177456 : True := trivial
theorem PySem.W.Fast.tw9771116981970228611 : True := trivial
set_option maxRecDepth 100000 in
set_option maxHeartbeats 0 in
theorem PySem.Challenge.cw_asofhall_k16_whole_moved_and_mirrored_holds : PySem.Challenge.rw_asofhall_k16_whole_moved_and_mirrored.Holds := by
  w_on; o_law; k_head; (case hw => w_witness2)
  k_fill
  refine Ash.walk (l := PySem.Challenge.rw_asofhall_k16_whole_moved_and_mirrored) rfl rfl (fun w h Y => PySem.W.kIn_of Y) ?F
  case F =>
    intro w mg fa h KX G hmg
    refine' Ash.all_mk KX G hmg ?law0 ?law1 ?law2 ?law3
      { len := (PySem.W.mg_none_of KX G ?h_B_len), int := (PySem.W.mg_none_of KX G ?h_B_int), bool := (PySem.W.mg_none_of KX G ?h_B_bool), str := (PySem.W.mg_none_of KX G ?h_B_str), list := (PySem.W.mg_none_of KX G ?h_B_list), tuple := (PySem.W.mg_none_of KX G ?h_B_tuple), dict := (PySem.W.mg_none_of KX G ?h_B_dict), isinstance := (PySem.W.mg_none_of KX G ?h_B_isinstance), all := (PySem.W.mg_none_of KX G ?h_B_all), range := (PySem.W.mg_none_of KX G ?h_B_range), enumerate := (PySem.W.mg_none_of KX G ?h_B_enumerate), sorted := (PySem.W.mg_none_of KX G ?h_B_sorted), min := (PySem.W.mg_none_of KX G ?h_B_min), max := (PySem.W.mg_none_of KX G ?h_B_max), set := (PySem.W.mg_none_of KX G ?h_B_set), sum := (PySem.W.mg_none_of KX G ?h_B_sum), abs := (PySem.W.mg_none_of KX G ?h_B_abs) }
      ⟨(Ash.ex_str KX G ?h_Cs_0), (Ash.ex_int KX G ?h_Cs_1), (Ash.ex_int KX G ?h_Cs_2), (Ash.ex_int KX G ?h_Cs_3), (Ash.ex_int KX G ?h_Cs_4), (Ash.ex_int KX G ?h_Cs_5), (Ash.ex_int KX G ?h_Cs_6), (Ash.ex_int KX G ?h_Cs_7)⟩
      ⟨⟨?h_TW_0_0, ?h_TW_0_1, ?h_TW_0_2, ?h_TW_0_3⟩, ?h_TW_1, ?h_TW_2, (PySem.W.mg_of KX G ?h_TW_3)⟩
      ⟨?h_wi_0, ?h_wi_1, ?h_wi_2, ?h_wi_3⟩
      ?h_mkW
      ?h_kW
      (PySem.W.mg_of KX G ?h_nm0)
      ⟨?h_cl0_0, ?h_cl0_1, ?h_cl0_2, ?h_cl0_3⟩
      ⟨?h_b0_0, ?h_b0_1, ?h_b0_2, ?h_b0_3⟩
      ?h_ic0
      ?h_ti0
      ?h_sf0
      ?h_at0
      ?h_rt0
      ?h_si0
      ?h_or0
      ?h_ro0
      ?h_la0
      ?h_ea0
      ?h_n0_0
      ?h_n0_1
      ?h_n0_2
      ?h_n0_3
      ?h_n0_4
      ?h_n0_5
      ?h_n0_6
      ?h_n0_7
      ?h_n0_8
      ?h_n0_9
      ?h_s0_0
      ?h_s0_1
      ?h_s0_2
      ?h_s0_3
      ?h_s0_4
      ?h_s0_5
      ?h_s0_6
      (PySem.W.mg_of KX G ?h_nm1)
      ⟨?h_cl1_0, ?h_cl1_1, ?h_cl1_2, ?h_cl1_3⟩
      ⟨?h_b1_0, ?h_b1_1, ?h_b1_2, ?h_b1_3⟩
      ?h_ic1
      ?h_ti1
      ?h_sf1
      ?h_at1
      ?h_rt1
      ?h_si1
      ?h_or1
      ?h_ro1
      ?h_la1
      ?h_ea1
      ?h_n1_0
      ?h_n1_1
      ?h_n1_2
      ?h_n1_3
      ?h_n1_4
      ?h_n1_5
      ?h_n1_6
      ?h_n1_7
      ?h_n1_8
      ?h_n1_9
      ?h_s1_0
      ?h_s1_1
      ?h_s1_2
      ?h_s1_3
      ?h_s1_4
      ?h_s1_5
      ?h_s1_6
      (PySem.W.mg_of KX G ?h_nm2)
      ⟨?h_cl2_0, ?h_cl2_1, ?h_cl2_2, ?h_cl2_3⟩
      ⟨?h_b2_0, ?h_b2_1, ?h_b2_2, ?h_b2_3⟩
      ?h_ic2
      ?h_ti2
      ?h_sf2
      ?h_at2
      ?h_rt2
      ?h_si2
      ?h_or2
      ?h_ro2
      ?h_la2
      ?h_ea2
      ?h_n2_0
      ?h_n2_1
      ?h_n2_2
      ?h_n2_3
      ?h_n2_4
      ?h_n2_5
      ?h_n2_6
      ?h_n2_7
      ?h_n2_8
      ?h_n2_9
      ?h_s2_0
      ?h_s2_1
      ?h_s2_2
      ?h_s2_3
      ?h_s2_4
      ?h_s2_5
      ?h_s2_6
      (PySem.W.mg_of KX G ?h_nm3)
      ⟨?h_cl3_0, ?h_cl3_1, ?h_cl3_2, ?h_cl3_3⟩
      ⟨?h_b3_0, ?h_b3_1, ?h_b3_2, ?h_b3_3⟩
      ?h_ic3
      ?h_ti3
      ?h_sf3
      ?h_at3
      ?h_rt3
      ?h_si3
      ?h_or3
      ?h_ro3
      ?h_la3
      ?h_ea3
      ?h_n3_0
      ?h_n3_1
      ?h_n3_2
      ?h_n3_3
      ?h_n3_4
      ?h_n3_5
      ?h_n3_6
      ?h_n3_7
      ?h_n3_8
      ?h_n3_9
      ?h_s3_0
      ?h_s3_1
      ?h_s3_2
      ?h_s3_3
      ?h_s3_4
      ?h_s3_5
      ?h_s3_6
      (PySem.W.mg_of KX G ?h_nm4)
      ⟨?h_cl4_0, ?h_cl4_1, ?h_cl4_2, ?h_cl4_3⟩
      ⟨?h_b4_0, ?h_b4_1, ?h_b4_2, ?h_b4_3⟩
      ?h_ic4
      ?h_ti4
      ?h_sf4
      ?h_at4
      ?h_rt4
      ?h_si4
      ?h_or4
      ?h_ro4
      ?h_la4
      ?h_ea4
      ?h_n4_0
      ?h_n4_1
      ?h_n4_2
      ?h_n4_3
      ?h_n4_4
      ?h_n4_5
      ?h_n4_6
      ?h_n4_7
      ?h_n4_8
      ?h_n4_9
      ?h_s4_0
      ?h_s4_1
      ?h_s4_2
      ?h_s4_3
      ?h_s4_4
      ?h_s4_5
      ?h_s4_6
      (PySem.W.mg_of KX G ?h_nm5)
      ⟨?h_cl5_0, ?h_cl5_1, ?h_cl5_2, ?h_cl5_3⟩
      ⟨?h_b5_0, ?h_b5_1, ?h_b5_2, ?h_b5_3⟩
      ?h_ic5
      ?h_ti5
      ?h_sf5
      ?h_at5
      ?h_rt5
      ?h_si5
      ?h_or5
      ?h_ro5
      ?h_la5
      ?h_ea5
      ?h_n5_0
      ?h_n5_1
      ?h_n5_2
      ?h_n5_3
      ?h_n5_4
      ?h_n5_5
      ?h_n5_6
      ?h_n5_7
      ?h_n5_8
      ?h_n5_9
      ?h_s5_0
      ?h_s5_1
      ?h_s5_2
      ?h_s5_3
      ?h_s5_4
      ?h_s5_5
      ?h_s5_6
      (PySem.W.mg_of KX G ?h_nm6)
      ⟨?h_cl6_0, ?h_cl6_1, ?h_cl6_2, ?h_cl6_3⟩
      ⟨?h_b6_0, ?h_b6_1, ?h_b6_2, ?h_b6_3⟩
      ?h_ic6
      ?h_ti6
      ?h_sf6
      ?h_at6
      ?h_rt6
      ?h_si6
      ?h_or6
      ?h_ro6
      ?h_la6
      ?h_ea6
      ?h_n6_0
      ?h_n6_1
      ?h_n6_2
      ?h_n6_3
      ?h_n6_4
      ?h_n6_5
      ?h_n6_6
      ?h_n6_7
      ?h_n6_8
      ?h_n6_9
      ?h_s6_0
      ?h_s6_1
      ?h_s6_2
      ?h_s6_3
      ?h_s6_4
      ?h_s6_5
      ?h_s6_6
      ?h_mk0
      ?h_kp0
      ?h_mk1
      ?h_kp1
      ?h_mk2
      ?h_kp2
      ?h_mk3
      ?h_kp3
      ?h_mk4
      ?h_kp4
      ?h_mk5
      ?h_kp5
      ?h_mk6
      ?h_kp6
      ?h_i1
      ?h_i2
      (PySem.W.mg_of KX G ?h_anm0)
      ⟨?h_acl0_0, ?h_acl0_1, ?h_acl0_2, ?h_acl0_3⟩
      ⟨?h_ab0_0, ?h_ab0_1, ?h_ab0_2, ?h_ab0_3⟩
      ?h_aic0
      ?h_ati0
      ?h_an0_0
      ?h_an0_1
      ?h_an0_2
      ?h_an0_3
      ?h_an0_4
      ?h_as0_0
      ?h_as0_1
      ?h_as0_2
      ?h_as0_3
      ?h_at0_0
      ?h_at0_1
      ?h_at0_2
      ?h_at0_3
      ?h_at0_4
      ?h_at0_5
      ?h_at0_6
      ?h_amk0
      ?h_akp0
      (PySem.W.mg_of KX G ?h_anm1)
      ⟨?h_acl1_0, ?h_acl1_1, ?h_acl1_2, ?h_acl1_3⟩
      ⟨?h_ab1_0, ?h_ab1_1, ?h_ab1_2, ?h_ab1_3⟩
      ?h_aic1
      ?h_ati1
      ?h_an1_0
      ?h_an1_1
      ?h_an1_2
      ?h_an1_3
      ?h_an1_4
      ?h_as1_0
      ?h_as1_1
      ?h_as1_2
      ?h_as1_3
      ?h_at1_0
      ?h_at1_1
      ?h_at1_2
      ?h_at1_3
      ?h_at1_4
      ?h_at1_5
      ?h_at1_6
      ?h_amk1
      ?h_akp1
      (PySem.W.mg_of KX G ?h_anm2)
      ⟨?h_acl2_0, ?h_acl2_1, ?h_acl2_2, ?h_acl2_3⟩
      ⟨?h_ab2_0, ?h_ab2_1, ?h_ab2_2, ?h_ab2_3⟩
      ?h_aic2
      ?h_ati2
      ?h_an2_0
      ?h_an2_1
      ?h_an2_2
      ?h_an2_3
      ?h_an2_4
      ?h_as2_0
      ?h_as2_1
      ?h_as2_2
      ?h_as2_3
      ?h_at2_0
      ?h_at2_1
      ?h_at2_2
      ?h_at2_3
      ?h_at2_4
      ?h_at2_5
      ?h_at2_6
      ?h_amk2
      ?h_akp2
      (PySem.W.mg_of KX G ?h_anm3)
      ⟨?h_acl3_0, ?h_acl3_1, ?h_acl3_2, ?h_acl3_3⟩
      ⟨?h_ab3_0, ?h_ab3_1, ?h_ab3_2, ?h_ab3_3⟩
      ?h_aic3
      ?h_ati3
      ?h_an3_0
      ?h_an3_1
      ?h_an3_2
      ?h_an3_3
      ?h_an3_4
      ?h_as3_0
      ?h_as3_1
      ?h_as3_2
      ?h_as3_3
      ?h_at3_0
      ?h_at3_1
      ?h_at3_2
      ?h_at3_3
      ?h_at3_4
      ?h_at3_5
      ?h_at3_6
      ?h_amk3
      ?h_akp3
      (Ash.d1 KX G ?h_d_is_integer_0 ?h_d_is_integer_1 ?h_d_is_integer_2 ?h_d_is_integer_3)
      (Ash.d1 KX G ?h_d_is_natural_0 ?h_d_is_natural_1 ?h_d_is_natural_2 ?h_d_is_natural_3)
      (Ash.d1 KX G ?h_d_is_name_0 ?h_d_is_name_1 ?h_d_is_name_2 ?h_d_is_name_3)
      (Ash.d1 KX G ?h_d_are_integers_0 ?h_d_are_integers_1 ?h_d_are_integers_2 ?h_d_are_integers_3)
      (Ash.d1 KX G ?h_d_is_row_0 ?h_d_is_row_1 ?h_d_is_row_2 ?h_d_is_row_3)
      (Ash.d1 KX G ?h_d_are_rows_0 ?h_d_are_rows_1 ?h_d_are_rows_2 ?h_d_are_rows_3)
      (Ash.d1 KX G ?h_d_first_twice_0 ?h_d_first_twice_1 ?h_d_first_twice_2 ?h_d_first_twice_3)
      (Ash.d1 KX G ?h_d_is_rows_0 ?h_d_is_rows_1 ?h_d_is_rows_2 ?h_d_is_rows_3)
      (Ash.d1 KX G ?h_d_is_term_0 ?h_d_is_term_1 ?h_d_is_term_2 ?h_d_is_term_3)
      (Ash.d1 KX G ?h_d_is_look_0 ?h_d_is_look_1 ?h_d_is_look_2 ?h_d_is_look_3)
      (Ash.d1 KX G ?h_d_checked_stream_0 ?h_d_checked_stream_1 ?h_d_checked_stream_2 ?h_d_checked_stream_3)
      (Ash.d1 KX G ?h_d_checked_term_0 ?h_d_checked_term_1 ?h_d_checked_term_2 ?h_d_checked_term_3)
      (Ash.d1 KX G ?h_d_sizes_0 ?h_d_sizes_1 ?h_d_sizes_2 ?h_d_sizes_3)
      (Ash.d1 KX G ?h_d_shifted_0 ?h_d_shifted_1 ?h_d_shifted_2 ?h_d_shifted_3)
      (Ash.d1 KX G ?h_d_last_row_0 ?h_d_last_row_1 ?h_d_last_row_2 ?h_d_last_row_3)
      (Ash.d1 KX G ?h_d_next_row_0 ?h_d_next_row_1 ?h_d_next_row_2 ?h_d_next_row_3)
      (Ash.d1 KX G ?h_d_moved_0 ?h_d_moved_1 ?h_d_moved_2 ?h_d_moved_3)
      (Ash.d1 KX G ?h_d_looked_0 ?h_d_looked_1 ?h_d_looked_2 ?h_d_looked_3)
      (Ash.d1 KX G ?h_d_followed_either_0 ?h_d_followed_either_1 ?h_d_followed_either_2 ?h_d_followed_either_3)
      (Ash.d1 KX G ?h_d_followed_both_0 ?h_d_followed_both_1 ?h_d_followed_both_2 ?h_d_followed_both_3)
      (Ash.d1 KX G ?h_d_followed_0 ?h_d_followed_1 ?h_d_followed_2 ?h_d_followed_3)
      (Ash.d1 KX G ?h_d_is_amount_0 ?h_d_is_amount_1 ?h_d_is_amount_2 ?h_d_is_amount_3)
      (Ash.d1 KX G ?h_d_told_between_0 ?h_d_told_between_1 ?h_d_told_between_2 ?h_d_told_between_3)
      (Ash.d1 KX G ?h_d_is_question_0 ?h_d_is_question_1 ?h_d_is_question_2 ?h_d_is_question_3)
      (Ash.d1 KX G ?h_d_check_0 ?h_d_check_1 ?h_d_check_2 ?h_d_check_3)
      (Ash.d1 KX G ?h_d_answered_0 ?h_d_answered_1 ?h_d_answered_2 ?h_d_answered_3)
      (Ash.d1 KX G ?h_d_value_0 ?h_d_value_1 ?h_d_value_2 ?h_d_value_3)
      (Ash.d1 KX G ?h_d__law_pool_0 ?h_d__law_pool_1 ?h_d__law_pool_2 ?h_d__law_pool_3)
      (Ash.d1 KX G ?h_d__law_draw_0 ?h_d__law_draw_1 ?h_d__law_draw_2 ?h_d__law_draw_3)
      (Ash.d1 KX G ?h_d__law_names_0 ?h_d__law_names_1 ?h_d__law_names_2 ?h_d__law_names_3)
      (Ash.d1 KX G ?h_d__law_moment_0 ?h_d__law_moment_1 ?h_d__law_moment_2 ?h_d__law_moment_3)
      (Ash.d1 KX G ?h_d__law_rows_0 ?h_d__law_rows_1 ?h_d__law_rows_2 ?h_d__law_rows_3)
      (Ash.d1 KX G ?h_d__law_term_0 ?h_d__law_term_1 ?h_d__law_term_2 ?h_d__law_term_3)
      (Ash.d1 KX G ?h_d__law_built_0 ?h_d__law_built_1 ?h_d__law_built_2 ?h_d__law_built_3)
      (Ash.d1 KX G ?h_d_support_0 ?h_d_support_1 ?h_d_support_2 ?h_d_support_3)
      (Ash.d1 KX G ?h_d__law_question_0 ?h_d__law_question_1 ?h_d__law_question_2 ?h_d__law_question_3)
      (Ash.d1 KX G ?h_d__law_asked_0 ?h_d__law_asked_1 ?h_d__law_asked_2 ?h_d__law_asked_3)
      (Ash.d1 KX G ?h_d__law_changed_0 ?h_d__law_changed_1 ?h_d__law_changed_2 ?h_d__law_changed_3)
      (Ash.d1 KX G ?h_d__law_opposite_0 ?h_d__law_opposite_1 ?h_d__law_opposite_2 ?h_d__law_opposite_3)
      (Ash.d1 KX G ?h_d__law_renamed_0 ?h_d__law_renamed_1 ?h_d__law_renamed_2 ?h_d__law_renamed_3)
      (Ash.d1 KX G ?h_d__law_turned_0 ?h_d__law_turned_1 ?h_d__law_turned_2 ?h_d__law_turned_3)
      (Ash.d1 KX G ?h_d__law_plus_0 ?h_d__law_plus_1 ?h_d__law_plus_2 ?h_d__law_plus_3)
      (Ash.dm ?h_m_WI_0 ?h_m_WI_1 ?h_m_WI_2 ?h_m_WI_3 ?h_m_WI_4)
      (Ash.dm ?h_m_WR_0 ?h_m_WR_1 ?h_m_WR_2 ?h_m_WR_3 ?h_m_WR_4)
      (Ash.dm ?h_m_NI_0 ?h_m_NI_1 ?h_m_NI_2 ?h_m_NI_3 ?h_m_NI_4)
      (Ash.dm ?h_m_LI_0 ?h_m_LI_1 ?h_m_LI_2 ?h_m_LI_3 ?h_m_LI_4)
      (Ash.dm ?h_m_XI_0 ?h_m_XI_1 ?h_m_XI_2 ?h_m_XI_3 ?h_m_XI_4)
      (Ash.dm ?h_m_SI_0 ?h_m_SI_1 ?h_m_SI_2 ?h_m_SI_3 ?h_m_SI_4)
      (Ash.dm ?h_m_EI_0 ?h_m_EI_1 ?h_m_EI_2 ?h_m_EI_3 ?h_m_EI_4)
      (Ash.dm ?h_m_JI_0 ?h_m_JI_1 ?h_m_JI_2 ?h_m_JI_3 ?h_m_JI_4)
      (Ash.dm ?h_m_KI_0 ?h_m_KI_1 ?h_m_KI_2 ?h_m_KI_3 ?h_m_KI_4)
      (Ash.dm ?h_m_nuI_0 ?h_m_nuI_1 ?h_m_nuI_2 ?h_m_nuI_3 ?h_m_nuI_4)
      (Ash.dm ?h_m_coI_0 ?h_m_coI_1 ?h_m_coI_2 ?h_m_coI_3 ?h_m_coI_4)
      (Ash.dm ?h_m_toI_0 ?h_m_toI_1 ?h_m_toI_2 ?h_m_toI_3 ?h_m_toI_4)
      (Ash.dm ?h_m_gaI_0 ?h_m_gaI_1 ?h_m_gaI_2 ?h_m_gaI_3 ?h_m_gaI_4)
      (Ash.dq ?h_m_add_0 ?h_m_add_1 ?h_m_add_2 ?h_m_add_3 ?h_m_add_4)
      (Ash.dq ?h_m_ior_0 ?h_m_ior_1 ?h_m_ior_2 ?h_m_ior_3 ?h_m_ior_4)
      (Ash.dq ?h_m_lat_0 ?h_m_lat_1 ?h_m_lat_2 ?h_m_lat_3 ?h_m_lat_4)
      (Ash.dq ?h_m_ear_0 ?h_m_ear_1 ?h_m_ear_2 ?h_m_ear_3 ?h_m_ear_4)
    (case h_Cs_0 => k_is)
    (case h_Cs_1 => k_is)
    (case h_Cs_2 => k_is)
    (case h_Cs_3 => k_is)
    (case h_Cs_4 => k_is)
    (case h_Cs_5 => k_is)
    (case h_Cs_6 => k_is)
    (case h_Cs_7 => k_is)
    (case h_TW_3 => k_is)
    (case h_nm0 => k_is)
    (case h_nm1 => k_is)
    (case h_nm2 => k_is)
    (case h_nm3 => k_is)
    (case h_nm4 => k_is)
    (case h_nm5 => k_is)
    (case h_nm6 => k_is)
    (case h_anm0 => k_is)
    (case h_anm1 => k_is)
    (case h_anm2 => k_is)
    (case h_anm3 => k_is)
    (case law0 => k_is)
    (case law1 => k_is)
    (case law2 => k_is)
    (case law3 => k_is)
    (case h_B_len => k_is)
    (case h_B_int => k_is)
    (case h_B_bool => k_is)
    (case h_B_str => k_is)
    (case h_B_list => k_is)
    (case h_B_tuple => k_is)
    (case h_B_dict => k_is)
    (case h_B_isinstance => k_is)
    (case h_B_all => k_is)
    (case h_B_range => k_is)
    (case h_B_enumerate => k_is)
    (case h_B_sorted => k_is)
    (case h_B_min => k_is)
    (case h_B_max => k_is)
    (case h_B_set => k_is)
    (case h_B_sum => k_is)
    (case h_B_abs => k_is)
    (case h_TW_0_0 => k_is)
    (case h_TW_0_1 => k_is)
    (case h_TW_0_2 => k_is)
    (case h_TW_0_3 => k_is)
    (case h_TW_1 => delta L2.NoAttr; k_is)
    (case h_TW_2 => delta L2.NoAttr; k_is)
    (case h_wi_0 => k_is)
    (case h_wi_1 => k_is)
    (case h_wi_2 => k_is)
    (case h_wi_3 => k_is)
    (case h_mkW => k_is)
    (case h_kW => k_is)
    (case h_cl0_0 => k_is)
    (case h_cl0_1 => k_is)
    (case h_cl0_2 => k_is)
    (case h_cl0_3 => k_is)
    (case h_b0_0 => k_is)
    (case h_b0_1 => k_is)
    (case h_b0_2 => k_is)
    (case h_b0_3 => k_is)
    (case h_ic0 => k_is)
    (case h_ti0 => k_is)
    (case h_sf0 => k_is)
    (case h_at0 => k_is)
    (case h_rt0 => k_is)
    (case h_si0 => k_is)
    (case h_or0 => k_is)
    (case h_ro0 => k_is)
    (case h_la0 => k_is)
    (case h_ea0 => k_is)
    (case h_n0_0 => delta L2.NoAttr; k_is)
    (case h_n0_1 => delta L2.NoAttr; k_is)
    (case h_n0_2 => delta L2.NoAttr; k_is)
    (case h_n0_3 => delta L2.NoAttr; k_is)
    (case h_n0_4 => delta L2.NoAttr; k_is)
    (case h_n0_5 => delta L2.NoAttr; k_is)
    (case h_n0_6 => delta L2.NoAttr; k_is)
    (case h_n0_7 => delta L2.NoAttr; k_is)
    (case h_n0_8 => delta L2.NoAttr; k_is)
    (case h_n0_9 => delta L2.NoAttr; k_is)
    (case h_s0_0 => k_is)
    (case h_s0_1 => k_is)
    (case h_s0_2 => k_is)
    (case h_s0_3 => k_is)
    (case h_s0_4 => k_is)
    (case h_s0_5 => k_is)
    (case h_s0_6 => k_is)
    (case h_cl1_0 => k_is)
    (case h_cl1_1 => k_is)
    (case h_cl1_2 => k_is)
    (case h_cl1_3 => k_is)
    (case h_b1_0 => k_is)
    (case h_b1_1 => k_is)
    (case h_b1_2 => k_is)
    (case h_b1_3 => k_is)
    (case h_ic1 => k_is)
    (case h_ti1 => k_is)
    (case h_sf1 => k_is)
    (case h_at1 => k_is)
    (case h_rt1 => k_is)
    (case h_si1 => k_is)
    (case h_or1 => k_is)
    (case h_ro1 => k_is)
    (case h_la1 => k_is)
    (case h_ea1 => k_is)
    (case h_n1_0 => delta L2.NoAttr; k_is)
    (case h_n1_1 => delta L2.NoAttr; k_is)
    (case h_n1_2 => delta L2.NoAttr; k_is)
    (case h_n1_3 => delta L2.NoAttr; k_is)
    (case h_n1_4 => delta L2.NoAttr; k_is)
    (case h_n1_5 => delta L2.NoAttr; k_is)
    (case h_n1_6 => delta L2.NoAttr; k_is)
    (case h_n1_7 => delta L2.NoAttr; k_is)
    (case h_n1_8 => delta L2.NoAttr; k_is)
    (case h_n1_9 => delta L2.NoAttr; k_is)
    (case h_s1_0 => k_is)
    (case h_s1_1 => k_is)
    (case h_s1_2 => k_is)
    (case h_s1_3 => k_is)
    (case h_s1_4 => k_is)
    (case h_s1_5 => k_is)
    (case h_s1_6 => k_is)
    (case h_cl2_0 => k_is)
    (case h_cl2_1 => k_is)
    (case h_cl2_2 => k_is)
    (case h_cl2_3 => k_is)
    (case h_b2_0 => k_is)
    (case h_b2_1 => k_is)
    (case h_b2_2 => k_is)
    (case h_b2_3 => k_is)
    (case h_ic2 => k_is)
    (case h_ti2 => k_is)
    (case h_sf2 => k_is)
    (case h_at2 => k_is)
    (case h_rt2 => k_is)
    (case h_si2 => k_is)
    (case h_or2 => k_is)
    (case h_ro2 => k_is)
    (case h_la2 => k_is)
    (case h_ea2 => k_is)
    (case h_n2_0 => delta L2.NoAttr; k_is)
    (case h_n2_1 => delta L2.NoAttr; k_is)
    (case h_n2_2 => delta L2.NoAttr; k_is)
    (case h_n2_3 => delta L2.NoAttr; k_is)
    (case h_n2_4 => delta L2.NoAttr; k_is)
    (case h_n2_5 => delta L2.NoAttr; k_is)
    (case h_n2_6 => delta L2.NoAttr; k_is)
    (case h_n2_7 => delta L2.NoAttr; k_is)
    (case h_n2_8 => delta L2.NoAttr; k_is)
    (case h_n2_9 => delta L2.NoAttr; k_is)
    (case h_s2_0 => k_is)
    (case h_s2_1 => k_is)
    (case h_s2_2 => k_is)
    (case h_s2_3 => k_is)
    (case h_s2_4 => k_is)
    (case h_s2_5 => k_is)
    (case h_s2_6 => k_is)
    (case h_cl3_0 => k_is)
    (case h_cl3_1 => k_is)
    (case h_cl3_2 => k_is)
    (case h_cl3_3 => k_is)
    (case h_b3_0 => k_is)
    (case h_b3_1 => k_is)
    (case h_b3_2 => k_is)
    (case h_b3_3 => k_is)
    (case h_ic3 => k_is)
    (case h_ti3 => k_is)
    (case h_sf3 => k_is)
    (case h_at3 => k_is)
    (case h_rt3 => k_is)
    (case h_si3 => k_is)
    (case h_or3 => k_is)
    (case h_ro3 => k_is)
    (case h_la3 => k_is)
    (case h_ea3 => k_is)
    (case h_n3_0 => delta L2.NoAttr; k_is)
    (case h_n3_1 => delta L2.NoAttr; k_is)
    (case h_n3_2 => delta L2.NoAttr; k_is)
    (case h_n3_3 => delta L2.NoAttr; k_is)
    (case h_n3_4 => delta L2.NoAttr; k_is)
    (case h_n3_5 => delta L2.NoAttr; k_is)
    (case h_n3_6 => delta L2.NoAttr; k_is)
    (case h_n3_7 => delta L2.NoAttr; k_is)
    (case h_n3_8 => delta L2.NoAttr; k_is)
    (case h_n3_9 => delta L2.NoAttr; k_is)
    (case h_s3_0 => k_is)
    (case h_s3_1 => k_is)
    (case h_s3_2 => k_is)
    (case h_s3_3 => k_is)
    (case h_s3_4 => k_is)
    (case h_s3_5 => k_is)
    (case h_s3_6 => k_is)
    (case h_cl4_0 => k_is)
    (case h_cl4_1 => k_is)
    (case h_cl4_2 => k_is)
    (case h_cl4_3 => k_is)
    (case h_b4_0 => k_is)
    (case h_b4_1 => k_is)
    (case h_b4_2 => k_is)
    (case h_b4_3 => k_is)
    (case h_ic4 => k_is)
    (case h_ti4 => k_is)
    (case h_sf4 => k_is)
    (case h_at4 => k_is)
    (case h_rt4 => k_is)
    (case h_si4 => k_is)
    (case h_or4 => k_is)
    (case h_ro4 => k_is)
    (case h_la4 => k_is)
    (case h_ea4 => k_is)
    (case h_n4_0 => delta L2.NoAttr; k_is)
    (case h_n4_1 => delta L2.NoAttr; k_is)
    (case h_n4_2 => delta L2.NoAttr; k_is)
    (case h_n4_3 => delta L2.NoAttr; k_is)
    (case h_n4_4 => delta L2.NoAttr; k_is)
    (case h_n4_5 => delta L2.NoAttr; k_is)
    (case h_n4_6 => delta L2.NoAttr; k_is)
    (case h_n4_7 => delta L2.NoAttr; k_is)
    (case h_n4_8 => delta L2.NoAttr; k_is)
    (case h_n4_9 => delta L2.NoAttr; k_is)
    (case h_s4_0 => k_is)
    (case h_s4_1 => k_is)
    (case h_s4_2 => k_is)
    (case h_s4_3 => k_is)
    (case h_s4_4 => k_is)
    (case h_s4_5 => k_is)
    (case h_s4_6 => k_is)
    (case h_cl5_0 => k_is)
    (case h_cl5_1 => k_is)
    (case h_cl5_2 => k_is)
    (case h_cl5_3 => k_is)
    (case h_b5_0 => k_is)
    (case h_b5_1 => k_is)
    (case h_b5_2 => k_is)
    (case h_b5_3 => k_is)
    (case h_ic5 => k_is)
    (case h_ti5 => k_is)
    (case h_sf5 => k_is)
    (case h_at5 => k_is)
    (case h_rt5 => k_is)
    (case h_si5 => k_is)
    (case h_or5 => k_is)
    (case h_ro5 => k_is)
    (case h_la5 => k_is)
    (case h_ea5 => k_is)
    (case h_n5_0 => delta L2.NoAttr; k_is)
    (case h_n5_1 => delta L2.NoAttr; k_is)
    (case h_n5_2 => delta L2.NoAttr; k_is)
    (case h_n5_3 => delta L2.NoAttr; k_is)
    (case h_n5_4 => delta L2.NoAttr; k_is)
    (case h_n5_5 => delta L2.NoAttr; k_is)
    (case h_n5_6 => delta L2.NoAttr; k_is)
    (case h_n5_7 => delta L2.NoAttr; k_is)
    (case h_n5_8 => delta L2.NoAttr; k_is)
    (case h_n5_9 => delta L2.NoAttr; k_is)
    (case h_s5_0 => k_is)
    (case h_s5_1 => k_is)
    (case h_s5_2 => k_is)
    (case h_s5_3 => k_is)
    (case h_s5_4 => k_is)
    (case h_s5_5 => k_is)
    (case h_s5_6 => k_is)
    (case h_cl6_0 => k_is)
    (case h_cl6_1 => k_is)
    (case h_cl6_2 => k_is)
    (case h_cl6_3 => k_is)
    (case h_b6_0 => k_is)
    (case h_b6_1 => k_is)
    (case h_b6_2 => k_is)
    (case h_b6_3 => k_is)
    (case h_ic6 => k_is)
    (case h_ti6 => k_is)
    (case h_sf6 => k_is)
    (case h_at6 => k_is)
    (case h_rt6 => k_is)
    (case h_si6 => k_is)
    (case h_or6 => k_is)
    (case h_ro6 => k_is)
    (case h_la6 => k_is)
    (case h_ea6 => k_is)
    (case h_n6_0 => delta L2.NoAttr; k_is)
    (case h_n6_1 => delta L2.NoAttr; k_is)
    (case h_n6_2 => delta L2.NoAttr; k_is)
    (case h_n6_3 => delta L2.NoAttr; k_is)
    (case h_n6_4 => delta L2.NoAttr; k_is)
    (case h_n6_5 => delta L2.NoAttr; k_is)
    (case h_n6_6 => delta L2.NoAttr; k_is)
    (case h_n6_7 => delta L2.NoAttr; k_is)
    (case h_n6_8 => delta L2.NoAttr; k_is)
    (case h_n6_9 => delta L2.NoAttr; k_is)
    (case h_s6_0 => k_is)
    (case h_s6_1 => k_is)
    (case h_s6_2 => k_is)
    (case h_s6_3 => k_is)
    (case h_s6_4 => k_is)
    (case h_s6_5 => k_is)
    (case h_s6_6 => k_is)
    (case h_mk0 => k_is)
    (case h_kp0 => k_is)
    (case h_mk1 => k_is)
    (case h_kp1 => k_is)
    (case h_mk2 => k_is)
    (case h_kp2 => k_is)
    (case h_mk3 => k_is)
    (case h_kp3 => k_is)
    (case h_mk4 => k_is)
    (case h_kp4 => k_is)
    (case h_mk5 => k_is)
    (case h_kp5 => k_is)
    (case h_mk6 => k_is)
    (case h_kp6 => k_is)
    (case h_i1 => k_is)
    (case h_i2 => k_is)
    (case h_acl0_0 => k_is)
    (case h_acl0_1 => k_is)
    (case h_acl0_2 => k_is)
    (case h_acl0_3 => k_is)
    (case h_ab0_0 => k_is)
    (case h_ab0_1 => k_is)
    (case h_ab0_2 => k_is)
    (case h_ab0_3 => k_is)
    (case h_aic0 => k_is)
    (case h_ati0 => k_is)
    (case h_an0_0 => delta L2.NoAttr; k_is)
    (case h_an0_1 => delta L2.NoAttr; k_is)
    (case h_an0_2 => delta L2.NoAttr; k_is)
    (case h_an0_3 => delta L2.NoAttr; k_is)
    (case h_an0_4 => delta L2.NoAttr; k_is)
    (case h_as0_0 => k_is)
    (case h_as0_1 => k_is)
    (case h_as0_2 => k_is)
    (case h_as0_3 => k_is)
    (case h_at0_0 => k_is)
    (case h_at0_1 => k_is)
    (case h_at0_2 => k_is)
    (case h_at0_3 => k_is)
    (case h_at0_4 => k_is)
    (case h_at0_5 => k_is)
    (case h_at0_6 => k_is)
    (case h_amk0 => k_is)
    (case h_akp0 => k_is)
    (case h_acl1_0 => k_is)
    (case h_acl1_1 => k_is)
    (case h_acl1_2 => k_is)
    (case h_acl1_3 => k_is)
    (case h_ab1_0 => k_is)
    (case h_ab1_1 => k_is)
    (case h_ab1_2 => k_is)
    (case h_ab1_3 => k_is)
    (case h_aic1 => k_is)
    (case h_ati1 => k_is)
    (case h_an1_0 => delta L2.NoAttr; k_is)
    (case h_an1_1 => delta L2.NoAttr; k_is)
    (case h_an1_2 => delta L2.NoAttr; k_is)
    (case h_an1_3 => delta L2.NoAttr; k_is)
    (case h_an1_4 => delta L2.NoAttr; k_is)
    (case h_as1_0 => k_is)
    (case h_as1_1 => k_is)
    (case h_as1_2 => k_is)
    (case h_as1_3 => k_is)
    (case h_at1_0 => k_is)
    (case h_at1_1 => k_is)
    (case h_at1_2 => k_is)
    (case h_at1_3 => k_is)
    (case h_at1_4 => k_is)
    (case h_at1_5 => k_is)
    (case h_at1_6 => k_is)
    (case h_amk1 => k_is)
    (case h_akp1 => k_is)
    (case h_acl2_0 => k_is)
    (case h_acl2_1 => k_is)
    (case h_acl2_2 => k_is)
    (case h_acl2_3 => k_is)
    (case h_ab2_0 => k_is)
    (case h_ab2_1 => k_is)
    (case h_ab2_2 => k_is)
    (case h_ab2_3 => k_is)
    (case h_aic2 => k_is)
    (case h_ati2 => k_is)
    (case h_an2_0 => delta L2.NoAttr; k_is)
    (case h_an2_1 => delta L2.NoAttr; k_is)
    (case h_an2_2 => delta L2.NoAttr; k_is)
    (case h_an2_3 => delta L2.NoAttr; k_is)
    (case h_an2_4 => delta L2.NoAttr; k_is)
    (case h_as2_0 => k_is)
    (case h_as2_1 => k_is)
    (case h_as2_2 => k_is)
    (case h_as2_3 => k_is)
    (case h_at2_0 => k_is)
    (case h_at2_1 => k_is)
    (case h_at2_2 => k_is)
    (case h_at2_3 => k_is)
    (case h_at2_4 => k_is)
    (case h_at2_5 => k_is)
    (case h_at2_6 => k_is)
    (case h_amk2 => k_is)
    (case h_akp2 => k_is)
    (case h_acl3_0 => k_is)
    (case h_acl3_1 => k_is)
    (case h_acl3_2 => k_is)
    (case h_acl3_3 => k_is)
    (case h_ab3_0 => k_is)
    (case h_ab3_1 => k_is)
    (case h_ab3_2 => k_is)
    (case h_ab3_3 => k_is)
    (case h_aic3 => k_is)
    (case h_ati3 => k_is)
    (case h_an3_0 => delta L2.NoAttr; k_is)
    (case h_an3_1 => delta L2.NoAttr; k_is)
    (case h_an3_2 => delta L2.NoAttr; k_is)
    (case h_an3_3 => delta L2.NoAttr; k_is)
    (case h_an3_4 => delta L2.NoAttr; k_is)
    (case h_as3_0 => k_is)
    (case h_as3_1 => k_is)
    (case h_as3_2 => k_is)
    (case h_as3_3 => k_is)
    (case h_at3_0 => k_is)
    (case h_at3_1 => k_is)
    (case h_at3_2 => k_is)
    (case h_at3_3 => k_is)
    (case h_at3_4 => k_is)
    (case h_at3_5 => k_is)
    (case h_at3_6 => k_is)
    (case h_amk3 => k_is)
    (case h_akp3 => k_is)
    (case h_d_is_integer_0 => k_is)
    (case h_d_is_integer_1 => k_is)
    (case h_d_is_integer_2 => k_is)
    (case h_d_is_integer_3 => k_is)
    (case h_d_is_natural_0 => k_is)
    (case h_d_is_natural_1 => k_is)
    (case h_d_is_natural_2 => k_is)
    (case h_d_is_natural_3 => k_is)
    (case h_d_is_name_0 => k_is)
    (case h_d_is_name_1 => k_is)
    (case h_d_is_name_2 => k_is)
    (case h_d_is_name_3 => k_is)
    (case h_d_are_integers_0 => k_is)
    (case h_d_are_integers_1 => k_is)
    (case h_d_are_integers_2 => k_is)
    (case h_d_are_integers_3 => k_is)
    (case h_d_is_row_0 => k_is)
    (case h_d_is_row_1 => k_is)
    (case h_d_is_row_2 => k_is)
    (case h_d_is_row_3 => k_is)
    (case h_d_are_rows_0 => k_is)
    (case h_d_are_rows_1 => k_is)
    (case h_d_are_rows_2 => k_is)
    (case h_d_are_rows_3 => k_is)
    (case h_d_first_twice_0 => k_is)
    (case h_d_first_twice_1 => k_is)
    (case h_d_first_twice_2 => k_is)
    (case h_d_first_twice_3 => k_is)
    (case h_d_is_rows_0 => k_is)
    (case h_d_is_rows_1 => k_is)
    (case h_d_is_rows_2 => k_is)
    (case h_d_is_rows_3 => k_is)
    (case h_d_is_term_0 => k_is)
    (case h_d_is_term_1 => k_is)
    (case h_d_is_term_2 => k_is)
    (case h_d_is_term_3 => k_is)
    (case h_d_is_look_0 => k_is)
    (case h_d_is_look_1 => k_is)
    (case h_d_is_look_2 => k_is)
    (case h_d_is_look_3 => k_is)
    (case h_d_checked_stream_0 => k_is)
    (case h_d_checked_stream_1 => k_is)
    (case h_d_checked_stream_2 => k_is)
    (case h_d_checked_stream_3 => k_is)
    (case h_d_checked_term_0 => k_is)
    (case h_d_checked_term_1 => k_is)
    (case h_d_checked_term_2 => k_is)
    (case h_d_checked_term_3 => k_is)
    (case h_d_sizes_0 => k_is)
    (case h_d_sizes_1 => k_is)
    (case h_d_sizes_2 => k_is)
    (case h_d_sizes_3 => k_is)
    (case h_d_shifted_0 => k_is)
    (case h_d_shifted_1 => k_is)
    (case h_d_shifted_2 => k_is)
    (case h_d_shifted_3 => k_is)
    (case h_d_last_row_0 => k_is)
    (case h_d_last_row_1 => k_is)
    (case h_d_last_row_2 => k_is)
    (case h_d_last_row_3 => k_is)
    (case h_d_next_row_0 => k_is)
    (case h_d_next_row_1 => k_is)
    (case h_d_next_row_2 => k_is)
    (case h_d_next_row_3 => k_is)
    (case h_d_moved_0 => k_is)
    (case h_d_moved_1 => k_is)
    (case h_d_moved_2 => k_is)
    (case h_d_moved_3 => k_is)
    (case h_d_looked_0 => k_is)
    (case h_d_looked_1 => k_is)
    (case h_d_looked_2 => k_is)
    (case h_d_looked_3 => k_is)
    (case h_d_followed_either_0 => k_is)
    (case h_d_followed_either_1 => k_is)
    (case h_d_followed_either_2 => k_is)
    (case h_d_followed_either_3 => k_is)
    (case h_d_followed_both_0 => k_is)
    (case h_d_followed_both_1 => k_is)
    (case h_d_followed_both_2 => k_is)
    (case h_d_followed_both_3 => k_is)
    (case h_d_followed_0 => k_is)
    (case h_d_followed_1 => k_is)
    (case h_d_followed_2 => k_is)
    (case h_d_followed_3 => k_is)
    (case h_d_is_amount_0 => k_is)
    (case h_d_is_amount_1 => k_is)
    (case h_d_is_amount_2 => k_is)
    (case h_d_is_amount_3 => k_is)
    (case h_d_told_between_0 => k_is)
    (case h_d_told_between_1 => k_is)
    (case h_d_told_between_2 => k_is)
    (case h_d_told_between_3 => k_is)
    (case h_d_is_question_0 => k_is)
    (case h_d_is_question_1 => k_is)
    (case h_d_is_question_2 => k_is)
    (case h_d_is_question_3 => k_is)
    (case h_d_check_0 => k_is)
    (case h_d_check_1 => k_is)
    (case h_d_check_2 => k_is)
    (case h_d_check_3 => k_is)
    (case h_d_answered_0 => k_is)
    (case h_d_answered_1 => k_is)
    (case h_d_answered_2 => k_is)
    (case h_d_answered_3 => k_is)
    (case h_d_value_0 => k_is)
    (case h_d_value_1 => k_is)
    (case h_d_value_2 => k_is)
    (case h_d_value_3 => k_is)
    (case h_d__law_pool_0 => k_is)
    (case h_d__law_pool_1 => k_is)
    (case h_d__law_pool_2 => k_is)
    (case h_d__law_pool_3 => k_is)
    (case h_d__law_draw_0 => k_is)
    (case h_d__law_draw_1 => k_is)
    (case h_d__law_draw_2 => k_is)
    (case h_d__law_draw_3 => k_is)
    (case h_d__law_names_0 => k_is)
    (case h_d__law_names_1 => k_is)
    (case h_d__law_names_2 => k_is)
    (case h_d__law_names_3 => k_is)
    (case h_d__law_moment_0 => k_is)
    (case h_d__law_moment_1 => k_is)
    (case h_d__law_moment_2 => k_is)
    (case h_d__law_moment_3 => k_is)
    (case h_d__law_rows_0 => k_is)
    (case h_d__law_rows_1 => k_is)
    (case h_d__law_rows_2 => k_is)
    (case h_d__law_rows_3 => k_is)
    (case h_d__law_term_0 => k_is)
    (case h_d__law_term_1 => k_is)
    (case h_d__law_term_2 => k_is)
    (case h_d__law_term_3 => k_is)
    (case h_d__law_built_0 => k_is)
    (case h_d__law_built_1 => k_is)
    (case h_d__law_built_2 => k_is)
    (case h_d__law_built_3 => k_is)
    (case h_d_support_0 => k_is)
    (case h_d_support_1 => k_is)
    (case h_d_support_2 => k_is)
    (case h_d_support_3 => k_is)
    (case h_d__law_question_0 => k_is)
    (case h_d__law_question_1 => k_is)
    (case h_d__law_question_2 => k_is)
    (case h_d__law_question_3 => k_is)
    (case h_d__law_asked_0 => k_is)
    (case h_d__law_asked_1 => k_is)
    (case h_d__law_asked_2 => k_is)
    (case h_d__law_asked_3 => k_is)
    (case h_d__law_changed_0 => k_is)
    (case h_d__law_changed_1 => k_is)
    (case h_d__law_changed_2 => k_is)
    (case h_d__law_changed_3 => k_is)
    (case h_d__law_opposite_0 => k_is)
    (case h_d__law_opposite_1 => k_is)
    (case h_d__law_opposite_2 => k_is)
    (case h_d__law_opposite_3 => k_is)
    (case h_d__law_renamed_0 => k_is)
    (case h_d__law_renamed_1 => k_is)
    (case h_d__law_renamed_2 => k_is)
    (case h_d__law_renamed_3 => k_is)
    (case h_d__law_turned_0 => k_is)
    (case h_d__law_turned_1 => k_is)
    (case h_d__law_turned_2 => k_is)
    (case h_d__law_turned_3 => k_is)
    (case h_d__law_plus_0 => k_is)
    (case h_d__law_plus_1 => k_is)
    (case h_d__law_plus_2 => k_is)
    (case h_d__law_plus_3 => k_is)
    (case h_m_WI_0 => k_is)
    (case h_m_WI_1 => k_is)
    (case h_m_WI_2 => k_is)
    (case h_m_WI_3 => k_is)
    (case h_m_WI_4 => k_is)
    (case h_m_WR_0 => k_is)
    (case h_m_WR_1 => k_is)
    (case h_m_WR_2 => k_is)
    (case h_m_WR_3 => k_is)
    (case h_m_WR_4 => k_is)
    (case h_m_NI_0 => k_is)
    (case h_m_NI_1 => k_is)
    (case h_m_NI_2 => k_is)
    (case h_m_NI_3 => k_is)
    (case h_m_NI_4 => k_is)
    (case h_m_LI_0 => k_is)
    (case h_m_LI_1 => k_is)
    (case h_m_LI_2 => k_is)
    (case h_m_LI_3 => k_is)
    (case h_m_LI_4 => k_is)
    (case h_m_XI_0 => k_is)
    (case h_m_XI_1 => k_is)
    (case h_m_XI_2 => k_is)
    (case h_m_XI_3 => k_is)
    (case h_m_XI_4 => k_is)
    (case h_m_SI_0 => k_is)
    (case h_m_SI_1 => k_is)
    (case h_m_SI_2 => k_is)
    (case h_m_SI_3 => k_is)
    (case h_m_SI_4 => k_is)
    (case h_m_EI_0 => k_is)
    (case h_m_EI_1 => k_is)
    (case h_m_EI_2 => k_is)
    (case h_m_EI_3 => k_is)
    (case h_m_EI_4 => k_is)
    (case h_m_JI_0 => k_is)
    (case h_m_JI_1 => k_is)
    (case h_m_JI_2 => k_is)
    (case h_m_JI_3 => k_is)
    (case h_m_JI_4 => k_is)
    (case h_m_KI_0 => k_is)
    (case h_m_KI_1 => k_is)
    (case h_m_KI_2 => k_is)
    (case h_m_KI_3 => k_is)
    (case h_m_KI_4 => k_is)
    (case h_m_nuI_0 => k_is)
    (case h_m_nuI_1 => k_is)
    (case h_m_nuI_2 => k_is)
    (case h_m_nuI_3 => k_is)
    (case h_m_nuI_4 => k_is)
    (case h_m_coI_0 => k_is)
    (case h_m_coI_1 => k_is)
    (case h_m_coI_2 => k_is)
    (case h_m_coI_3 => k_is)
    (case h_m_coI_4 => k_is)
    (case h_m_toI_0 => k_is)
    (case h_m_toI_1 => k_is)
    (case h_m_toI_2 => k_is)
    (case h_m_toI_3 => k_is)
    (case h_m_toI_4 => k_is)
    (case h_m_gaI_0 => k_is)
    (case h_m_gaI_1 => k_is)
    (case h_m_gaI_2 => k_is)
    (case h_m_gaI_3 => k_is)
    (case h_m_gaI_4 => k_is)
    (case h_m_add_0 => k_is)
    (case h_m_add_1 => k_is)
    (case h_m_add_2 => k_is)
    (case h_m_add_3 => k_is)
    (case h_m_add_4 => k_is)
    (case h_m_ior_0 => k_is)
    (case h_m_ior_1 => k_is)
    (case h_m_ior_2 => k_is)
    (case h_m_ior_3 => k_is)
    (case h_m_ior_4 => k_is)
    (case h_m_lat_0 => k_is)
    (case h_m_lat_1 => k_is)
    (case h_m_lat_2 => k_is)
    (case h_m_lat_3 => k_is)
    (case h_m_lat_4 => k_is)
    (case h_m_ear_0 => k_is)
    (case h_m_ear_1 => k_is)
    (case h_m_ear_2 => k_is)
    (case h_m_ear_3 => k_is)
    (case h_m_ear_4 => k_is)

